/- Pure: what code tells of its inputs, and which code may be run. -/
import Derived.Test.YteniipolcdnmfaaKinds
import Derived.Test.YteniipolcdnmfaaRApp
namespace Go.Proofs.Yteniipolcdnmfaa
open Go.ChangeShapes Go.WideShapes Go.ChangeAt Go.RowKit Go.Fl
set_option linter.unusedVariables false
set_option linter.unusedSimpArgs false

/-- an instruction: Op, Dst, A, B; an input: Op, Kind, Pos, Attr -/
abbrev I4 := Int × Int × Int × Int
abbrev VN := Int × Nat
def opsP (op : Int) : Nat := if op = 6 ∨ op = 15 ∨ op = 16 ∨ op = 17 then 1 else if 1 ≤ op ∧ op ≤ 17 then 2 else 0
theorem ops_le (op : Int) : opsP op ≤ 2 := by unfold opsP; (repeat' split) <;> omega
/-- what stands at a place of a list; poison where nothing stands -/
def rdV (l : List VN) (i : Int) : VN := if 0 ≤ i then (l[i.toNat]?).getD (0, 0) else (0, 0)
def wrV (l : List VN) (i : Int) (v : VN) : List VN := if 0 ≤ i then l.set i.toNat v else l
def clV (v : VN) : VN := (clK v.1 v.2, clB v.1 v.2)
/-- registers and slots behind one instruction -/
def stepP (ins cs : List VN) (s : List VN × List VN) (x : I4) : List VN × List VN :=
  if opsP x.1 = 1 then (wrV s.1 x.2.1 (appP x.1 [rdV s.1 x.2.2.1]), s.2)
  else if opsP x.1 = 2 then (wrV s.1 x.2.1 (appP x.1 [rdV s.1 x.2.2.1, rdV s.1 x.2.2.2]), s.2)
  else if x.1 = 50 then (wrV s.1 x.2.1 (clV (rdV ins x.2.2.1)), s.2)
  else if x.1 = 51 then (wrV s.1 x.2.1 (clV (rdV cs x.2.2.1)), s.2)
  else if x.1 = 53 then (s.1, wrV s.2 x.2.2.1 (rdV s.1 x.2.2.2))
  else if x.1 = 54 then (wrV s.1 x.2.1 (rdV s.2 x.2.2.1), s.2)
  else s
def runP (ins cs : List VN) : List VN × List VN → List I4 → VN
  | _, [] => (0, 0)
  | s, x :: xs => if x.1 = 52 then rdV s.1 x.2.2.1 else runP ins cs (stepP ins cs s x) xs
def nregs (n : Int) : Nat := (min n 1024).toNat
def nslots (n : Int) : Nat := (min n 256).toNat
def blank (n : Nat) : List VN := List.replicate n (0, 0)
/-- code: Regs, Slots, Inputs, Consts, List -/
structure CodeP where
  regs : Int
  slots : Int
  ins : List I4
  cs : List VN
  list : List I4
def codeRun (c : CodeP) (inputs : List VN) : VN := runP inputs c.cs (blank (nregs c.regs), blank (nslots c.slots)) c.list

/-- a value that is written: clean, and of 64 bits -/
def OkV (v : VN) : Prop := isClean v ∧ v.2 < 18446744073709551616
def OkL (l : List VN) : Prop := ∀ v ∈ l, OkV v
theorem okV_zero : OkV (0, 0) := ⟨clean_zero, by decide⟩
theorem OkL.rd {l : List VN} (h : OkL l) (i : Int) : OkV (rdV l i) := by
  unfold rdV
  split
  · cases he : l[i.toNat]? with
    | none => exact okV_zero
    | some v => exact h v (List.mem_of_getElem? he)
  · exact okV_zero
theorem OkL.wr {l : List VN} (h : OkL l) (i : Int) {v : VN} (hv : OkV v) : OkL (wrV l i v) := by
  unfold wrV
  split
  · intro u hu
    rcases List.mem_or_eq_of_mem_set hu with h' | rfl
    · exact h u h'
    · exact hv
  · exact h
theorem okL_blank (n : Nat) : OkL (blank n) := fun v hv => by
  rw [(List.mem_replicate.1 hv).2]; exact okV_zero
theorem wrV_length (l : List VN) (i : Int) (v : VN) : (wrV l i v).length = l.length := by
  unfold wrV; split <;> simp
theorem rd_lt {l : List VN} (h : ∀ v ∈ l, v.2 < 18446744073709551616) (i : Int) : (rdV l i).2 < 18446744073709551616 := by
  unfold rdV
  split
  · cases he : l[i.toNat]? with
    | none => decide
    | some v => exact h v (List.mem_of_getElem? he)
  · decide
theorem okV_cl {v : VN} (h : v.2 < 18446744073709551616) : OkV (clV v) := ⟨clean_clean v.1 v.2, clB_lt2 v.1 h⟩
theorem okV_app (op : Int) (vs : List VN) (w : World) (h : ∀ v ∈ vs, v.2 < 18446744073709551616) : OkV (appP op vs) := ⟨app_clean op vs, app_lt op vs w h⟩
theorem clV_self {v : VN} (h : isClean v) : clV v = v := Prod.ext h.1 h.2
theorem step_ok {ins cs : List VN} (w : World) (hi : ∀ v ∈ ins, v.2 < 18446744073709551616) (hc : ∀ v ∈ cs, v.2 < 18446744073709551616) {s : List VN × List VN} (h : OkL s.1 ∧ OkL s.2) (x : I4) : OkL (stepP ins cs s x).1 ∧ OkL (stepP ins cs s x).2 := by
  unfold stepP
  split
  · exact ⟨h.1.wr _ (okV_app _ _ w (by simp; exact (h.1.rd _).2)), h.2⟩
  split
  · exact ⟨h.1.wr _ (okV_app _ _ w (by simp; exact ⟨(h.1.rd _).2, (h.1.rd _).2⟩)), h.2⟩
  split
  · exact ⟨h.1.wr _ (okV_cl (rd_lt hi _)), h.2⟩
  split
  · exact ⟨h.1.wr _ (okV_cl (rd_lt hc _)), h.2⟩
  split
  · exact ⟨h.1, h.2.wr _ (h.1.rd _)⟩
  split
  · exact ⟨h.1.wr _ (h.2.rd _), h.2⟩
  · exact h
theorem step_len (ins cs : List VN) (s : List VN × List VN) (x : I4) : (stepP ins cs s x).1.length = s.1.length ∧ (stepP ins cs s x).2.length = s.2.length := by
  unfold stepP
  (repeat' split) <;> simp [wrV_length]
theorem run_ok {ins cs : List VN} (w : World) (hi : ∀ v ∈ ins, v.2 < 18446744073709551616) (hc : ∀ v ∈ cs, v.2 < 18446744073709551616) : ∀ (l : List I4) (s : List VN × List VN), OkL s.1 ∧ OkL s.2 → OkV (runP ins cs s l)
  | [], _, _ => okV_zero
  | x :: xs, s, h => by
    unfold runP
    split
    · exact h.1.rd _
    · exact run_ok w hi hc xs _ (step_ok w hi hc h x)
theorem codeRun_ok (c : CodeP) (inputs : List VN) (w : World) (hi : ∀ v ∈ inputs, v.2 < 18446744073709551616) (hc : ∀ v ∈ c.cs, v.2 < 18446744073709551616) : OkV (codeRun c inputs) :=
  run_ok w hi hc c.list _ ⟨okL_blank _, okL_blank _⟩
def toldP (l : List I4) : Bool := l.any fun x => decide (x.1 = 52)
theorem run_more (ins cs : List VN) (m : List I4) : ∀ (l : List I4) (s : List VN × List VN), toldP l = true → runP ins cs s (l ++ m) = runP ins cs s l
  | [], _, h => by simp [toldP] at h
  | x :: xs, s, h => by
    show (if x.1 = 52 then _ else runP ins cs _ (xs ++ m)) = if x.1 = 52 then _ else runP ins cs _ xs
    by_cases hx : x.1 = 52
    · rw [if_pos hx, if_pos hx]
    · rw [if_neg hx, if_neg hx]
      exact run_more ins cs m xs _ (by simpa [toldP, hx] using h)
theorem run_none (ins cs : List VN) : ∀ (l : List I4) (s : List VN × List VN), toldP l = false → runP ins cs s l = (0, 0)
  | [], _, _ => rfl
  | x :: xs, s, h => by
    have hx : ¬ x.1 = 52 := by
      intro hx; simp [toldP, hx] at h
    show (if x.1 = 52 then _ else runP ins cs _ xs) = _
    rw [if_neg hx]
    exact run_none ins cs xs _ (by simpa [toldP, hx] using h)

/-! ### which code may be run -/
def leafB (op : Int) : Bool := decide (op = 41 ∨ op = 42 ∨ (25 ≤ op ∧ op ≤ 31))
def inputB (x : I4) : Bool := leafB x.1 && decide (1 ≤ x.2.1 ∧ x.2.1 ≤ 4) && decide (0 ≤ x.2.2.1 ∧ x.2.2.1 ≤ 7) && decide (-1 ≤ x.2.2.2 ∧ x.2.2.2 ≤ 7) && decide (x.1 = 41 → x.2.2.1 = 0) && decide (x.1 = 25 → x.2.2.2 = 0)
def cleanB (v : VN) : Bool := decide (clV v = v)
/-- what has been written: registers, slots -/
abbrev WrS := (Int → Bool) × (Int → Bool)
def noneW : WrS := (fun _ => false, fun _ => false)
def putB (f : Int → Bool) (i : Int) : Int → Bool := fun j => decide (j = i) || f j
def writesB (op : Int) : Bool := decide (0 < opsP op ∨ op = 50 ∨ op = 51 ∨ op = 54)
def formedB (x : I4) : Bool :=
  if x.1 = 50 ∨ x.1 = 51 ∨ x.1 = 54 then decide (x.2.2.2 = 0)
  else if x.1 = 53 then decide (x.2.1 = 0)
  else if x.1 = 52 then decide (x.2.1 = 0 ∧ x.2.2.2 = 0)
  else if opsP x.1 = 1 then decide (x.2.2.2 = 0)
  else decide (opsP x.1 = 2)
def belowB (i n : Int) : Bool := decide (0 ≤ i ∧ i < n)
def thereB (c : CodeP) (x : I4) : Bool :=
  (!writesB x.1 || belowB x.2.1 c.regs) &&
  (if x.1 = 50 then belowB x.2.2.1 c.ins.length else if x.1 = 51 then belowB x.2.2.1 c.cs.length else if x.1 = 53 ∨ x.1 = 54 then belowB x.2.2.1 c.slots else true)
def readsP (x : I4) : List Int := if x.1 = 52 then [x.2.2.1] else if x.1 = 53 then [x.2.2.2] else [x.2.2.1, x.2.2.2].take (opsP x.1)
def hasB (s : WrS) (x : I4) : Bool := (readsP x).all s.1 && (if x.1 = 54 then s.2 x.2.2.1 else true)
def noteP (s : WrS) (x : I4) : WrS := if x.1 = 53 then (s.1, putB s.2 x.2.2.1) else if writesB x.1 = true then (putB s.1 x.2.1, s.2) else s
def goodL (c : CodeP) : WrS → List I4 → Bool
  | _, [] => true
  | s, x :: xs => (decide (xs = []) == decide (x.1 = 52)) && formedB x && thereB c x && hasB s x && goodL c (noteP s x) xs
def sizesB (c : CodeP) : Bool := decide (1 ≤ c.regs ∧ c.regs ≤ 1024) && decide (0 ≤ c.slots ∧ c.slots ≤ 256) && decide (1 ≤ c.list.length ∧ c.list.length ≤ 1024)
def goodC (c : CodeP) : Bool := sizesB c && goodL c noneW c.list && c.ins.all inputB && c.cs.all cleanB
theorem goodL_told (c : CodeP) : ∀ (l : List I4) (s : WrS), l ≠ [] → goodL c s l = true → toldP l = true
  | [], _, h, _ => absurd rfl h
  | [x], s, _, h => by
    simp [goodL] at h
    simp [toldP, h.1.1.1]
  | x :: y :: l, s, _, h => by
    simp only [goodL, Bool.and_eq_true] at h
    have := goodL_told c (y :: l) (noteP s x) (by simp) (by simp only [goodL, Bool.and_eq_true]; exact h.2)
    unfold toldP at *
    rw [List.any_cons, this, Bool.or_true]
theorem good_told {c : CodeP} (h : goodC c = true) : toldP c.list = true := by
  unfold goodC sizesB at h
  simp only [Bool.and_eq_true, decide_eq_true_eq] at h
  refine goodL_told c c.list noneW ?_ h.1.1.2
  intro e
  rw [e] at h
  simp at h
end Go.Proofs.Yteniipolcdnmfaa
