/- A table's bytes, as plain functions: what is written is read again, what was read is what was written. -/
import Derived.Test.YtlfhgmoafgjdcaaWrP
set_option linter.unusedVariables false
namespace Go.Proofs.Ytlfhgmoafgjdcaa

/-- what a carrier carries: a number, a list's length, a truth, bits -/
inductive Itm where
  | n (z : Int)
  | c (k : Nat)
  | t (y : Bool)
  | b (x : Nat)
def okI : Itm → Bool
  | .n z => decide (-1 ≤ z ∧ z ≤ 1152921504606846976)
  | .c k => decide (k ≤ 1024)
  | _ => true
def encI : Itm → List Nat
  | .n z => uintL (zig z)
  | .c k => uintL (zig (k : Int))
  | .t y => uintL (zig (if y then 1 else 0))
  | .b x => uintL x
def encL (L : List Itm) : List Nat := L.flatMap encI
theorem encL_append (a b : List Itm) : encL (a ++ b) = encL a ++ encL b := by simp [encL]
theorem encL_cons (a : Itm) (b : List Itm) : encL (a :: b) = encI a ++ encL b := by simp [encL]

/-- the writer: what is behind too much is only looked at -/
def putW (bs : List Nat) (i : Itm) : List Nat := if 65536 < bs.length then bs else bs ++ encI i
def runW : List Nat → List Itm → Option (List Nat)
  | bs, [] => some bs
  | bs, i :: r => if okI i then runW (putW bs i) r else none
theorem runW_append : ∀ (a b : List Itm) (bs : List Nat), runW bs (a ++ b) = (runW bs a).bind fun x => runW x b
  | [], b, bs => rfl
  | i :: a, b, bs => by
    show (if okI i then runW (putW bs i) (a ++ b) else none) = _
    rw [runW]
    split
    · rw [runW_append a b]
    · rfl
theorem runW_bad : ∀ (L : List Itm) (bs : List Nat), L.all okI = false → runW bs L = none
  | [], _, h => by cases h
  | i :: r, bs, h => by
    rw [runW]
    by_cases hi : okI i = true
    · rw [if_pos hi]
      exact runW_bad r _ (by simpa [hi] using h)
    · rw [if_neg hi]
theorem encI_pos (i : Itm) : 0 < (encI i).length := by
  cases i <;> simp only [encI] <;> (rename_i z; first | (have := fun n => (show 0 < (uintL n).length by by_cases h : n < 128; (· rw [uintL_small h]; simp); (· rw [uintL_more (by omega)]; simp)); exact this _))
theorem runW_ok : ∀ (L : List Itm) (bs : List Nat), L.all okI = true → ∃ x, runW bs L = some x ∧ ((bs ++ encL L).length ≤ 65536 → x = bs ++ encL L) ∧ (65536 < (bs ++ encL L).length → 65536 < x.length) ∧ (x.length ≤ 65536 → x = bs ++ encL L)
  | [], bs, _ => ⟨bs, rfl, fun _ => by simp [encL], fun h => by simpa [encL] using h, fun _ => by simp [encL]⟩
  | i :: r, bs, h => by
    have hi : okI i = true := by simp at h; exact h.1
    have hr : r.all okI = true := by simp at h ⊢; exact h.2
    obtain ⟨x, h1, h2, h3, h4⟩ := runW_ok r (putW bs i) hr
    have hp := encI_pos i
    have e : (bs ++ encL (i :: r)) = (bs ++ encI i) ++ encL r := by rw [encL_cons, List.append_assoc]
    have hl := congrArg List.length e
    rw [e]
    refine ⟨x, by rw [runW, if_pos hi, h1], ?_, ?_, ?_⟩
    all_goals
      unfold putW at h1 h2 h3 h4
      by_cases hb : 65536 < bs.length
      · rw [if_pos hb] at h1 h2 h3 h4
        simp only [List.length_append] at h2 h3 h4 ⊢
        intro hx
        first
          | omega
          | exact absurd (h4 hx) (fun e' => by
              have := congrArg List.length e'
              simp only [List.length_append] at this
              omega)
      · rw [if_neg hb] at h1 h2 h3 h4
        first
          | exact h2
          | exact h3
          | exact h4

/-! ### reading -/
/-- a way to read: what is read, and what is left -/
abbrev Rd (X : Type) := List Nat → Option (X × List Nat)
def rdI (a b : Int) : Rd Int := fun l => (firstW l).bind fun x => if zag x.1 < a ∨ b < zag x.1 then none else some (zag x.1, l.drop x.2)
def rdN : Rd Int := rdI (-1) 1152921504606846976
def rdC : Rd Nat := fun l => (rdI 0 1024 l).map fun x => (x.1.toNat, x.2)
def rdT : Rd Bool := fun l => (rdI 0 1 l).map fun x => (x.1 == 1, x.2)
def rdB : Rd Nat := fun l => (firstW l).map fun x => (x.1, l.drop x.2)
def rdK {X : Type} (p : Rd X) : Nat → Rd (List X)
  | 0 => fun l => some ([], l)
  | k + 1 => fun l => (p l).bind fun x => (rdK p k x.2).map fun y => (x.1 :: y.1, y.2)
def rdL {X : Type} (p : Rd X) : Rd (List X) := fun l => (rdC l).bind fun x => rdK p x.1 x.2
/-- two, one behind the other -/
def rd2 {X Y Z : Type} (f : X → Y → Z) (p : Rd X) (q : Rd Y) : Rd Z := fun l => (p l).bind fun x => (q x.2).map fun y => (f x.1 y.1, y.2)

/-- p reads just what f writes -/
structure Fits {X : Type} (p : Rd X) (f : X → List Itm) : Prop where
  back : ∀ l x r, Byt l → p l = some (x, r) → encL (f x) ++ r = l ∧ (f x).all okI = true
theorem rdI_back {a b : Int} {l r : List Nat} {z : Int} (hl : Byt l) (h : rdI a b l = some (z, r)) : uintL (zig z) ++ r = l ∧ a ≤ z ∧ z ≤ b := by
  unfold rdI at h
  obtain ⟨⟨n, k⟩, hf, hx⟩ := Option.bind_eq_some_iff.1 h
  split at hx
  · cases hx
  · rename_i hno
    simp only [Option.some.injEq, Prod.mk.injEq] at hx
    obtain ⟨rfl, rfl⟩ := hx
    obtain ⟨h1, _⟩ := first_back hl hf
    simp only at hno
    refine ⟨?_, by omega, by omega⟩
    rw [zig_zag, h1]
    exact List.take_append_drop k l
theorem fits_n : Fits rdN fun z => [.n z] := ⟨fun l x r hl h => by
  obtain ⟨h1, h2, h3⟩ := rdI_back hl h
  exact ⟨by simpa [encL, encI] using h1, by simp [okI]; omega⟩⟩
theorem rdC_back {l r : List Nat} {k : Nat} (hl : Byt l) (h : rdC l = some (k, r)) : uintL (zig (k : Int)) ++ r = l ∧ k ≤ 1024 := by
  unfold rdC at h
  obtain ⟨⟨z, r'⟩, hf, hx⟩ := Option.map_eq_some_iff.1 h
  simp only [Prod.mk.injEq] at hx
  obtain ⟨rfl, rfl⟩ := hx
  obtain ⟨h1, h2, h3⟩ := rdI_back hl hf
  rw [Int.toNat_of_nonneg h2]
  exact ⟨h1, by omega⟩
theorem fits_t : Fits rdT fun y => [.t y] := ⟨fun l x r hl h => by
  unfold rdT at h
  obtain ⟨⟨z, r'⟩, hf, hx⟩ := Option.map_eq_some_iff.1 h
  simp only [Prod.mk.injEq] at hx
  obtain ⟨rfl, rfl⟩ := hx
  obtain ⟨h1, h2, h3⟩ := rdI_back hl hf
  refine ⟨?_, by simp [okI]⟩
  have : z = (if (z == 1) = true then 1 else 0) := by
    by_cases c : z = 1
    · subst c; rfl
    · rw [if_neg (by simpa using c)]; omega
  simp only [encL, encI, List.flatMap_cons, List.flatMap_nil, List.append_nil]
  rw [← this]
  exact h1⟩
theorem fits_b : Fits rdB fun x => [.b x] := ⟨fun l x r hl h => by
  unfold rdB at h
  obtain ⟨⟨n, k⟩, hf, hx⟩ := Option.map_eq_some_iff.1 h
  simp only [Prod.mk.injEq] at hx
  obtain ⟨rfl, rfl⟩ := hx
  obtain ⟨h1, _⟩ := first_back hl hf
  refine ⟨?_, by simp [okI]⟩
  simp only [encL, encI, List.flatMap_cons, List.flatMap_nil, List.append_nil]
  rw [h1]
  exact List.take_append_drop k l⟩
theorem byt_rest {a b l : List Nat} (h : a ++ b = l) (hl : Byt l) : Byt b := fun c hc => hl c (by rw [← h]; simp [hc])
theorem fitsK {X : Type} {p : Rd X} {f : X → List Itm} (hp : Fits p f) : ∀ (k : Nat) (l : List Nat) (xs : List X) (r : List Nat), Byt l → rdK p k l = some (xs, r) → encL (xs.flatMap f) ++ r = l ∧ (xs.flatMap f).all okI = true ∧ xs.length = k
  | 0, l, xs, r, _, h => by
    simp only [rdK, Option.some.injEq, Prod.mk.injEq] at h
    obtain ⟨rfl, rfl⟩ := h
    exact ⟨by simp [encL], by simp, rfl⟩
  | k + 1, l, xs, r, hl, h => by
    rw [rdK] at h
    obtain ⟨⟨x, l1⟩, h1, h2⟩ := Option.bind_eq_some_iff.1 h
    obtain ⟨⟨ys, l2⟩, h3, h4⟩ := Option.map_eq_some_iff.1 h2
    simp only [Prod.mk.injEq] at h4
    obtain ⟨rfl, rfl⟩ := h4
    obtain ⟨e1, o1⟩ := hp.back l x l1 hl h1
    obtain ⟨e2, o2, n2⟩ := fitsK hp k l1 ys l2 (byt_rest e1 hl) h3
    refine ⟨?_, ?_, by simp [n2]⟩
    · rw [List.flatMap_cons, encL_append, List.append_assoc, e2, e1]
    · rw [List.flatMap_cons, List.all_append, o1, o2]; rfl
/-- what a list carries -/
def itL {X : Type} (f : X → List Itm) (xs : List X) : List Itm := .c xs.length :: xs.flatMap f
theorem fits_l {X : Type} {p : Rd X} {f : X → List Itm} (hp : Fits p f) : Fits (rdL p) (itL f) := ⟨fun l xs r hl h => by
  unfold rdL at h
  obtain ⟨⟨k, l1⟩, h1, h2⟩ := Option.bind_eq_some_iff.1 h
  obtain ⟨e1, hk⟩ := rdC_back hl h1
  obtain ⟨e2, o2, n2⟩ := fitsK hp k l1 xs r (byt_rest e1 hl) h2
  unfold itL
  rw [n2]
  refine ⟨?_, ?_⟩
  · rw [encL_cons, List.append_assoc, e2]
    exact e1
  · rw [List.all_cons, o2]
    simp [okI, hk]⟩
theorem fits_2 {X Y Z : Type} {p : Rd X} {q : Rd Y} {f : X → List Itm} {g : Y → List Itm} {h : Z → List Itm} (m : X → Y → Z) (hp : Fits p f) (hq : Fits q g) (hm : ∀ x y, h (m x y) = f x ++ g y) : Fits (rd2 m p q) h := ⟨fun l z r hl hz => by
  unfold rd2 at hz
  obtain ⟨⟨x, l1⟩, h1, h2⟩ := Option.bind_eq_some_iff.1 hz
  obtain ⟨⟨y, l2⟩, h3, h4⟩ := Option.map_eq_some_iff.1 h2
  simp only [Prod.mk.injEq] at h4
  obtain ⟨rfl, rfl⟩ := h4
  obtain ⟨e1, o1⟩ := hp.back l x l1 hl h1
  obtain ⟨e2, o2⟩ := hq.back l1 y l2 (byt_rest e1 hl) h3
  rw [hm, encL_append, List.append_assoc, e2, e1, List.all_append, o1, o2]
  exact ⟨rfl, rfl⟩⟩

/-- and what is written is read -/
structure Gives {X : Type} (p : Rd X) (f : X → List Itm) (V : X → Prop) : Prop where
  gives : ∀ x r, V x → (f x).all okI = true → p (encL (f x) ++ r) = some (x, r)
theorem rdI_gives {a b z : Int} (h1 : a ≤ z) (h2 : z ≤ b) (h3 : -9223372036854775808 ≤ z) (h4 : z ≤ 9223372036854775807) (r : List Nat) : rdI a b (uintL (zig z) ++ r) = some (z, r) := by
  unfold rdI
  rw [first_uint (zig_lt h3 h4)]
  simp only [Option.bind_some, zag_zig]
  rw [if_neg (by omega), List.drop_left]
theorem gives_n : Gives rdN (fun z => [.n z]) fun _ => True := ⟨fun z r _ h => by
  simp [okI] at h
  simp only [encL, encI, List.flatMap_cons, List.flatMap_nil, List.append_nil]
  exact rdI_gives (by omega) (by omega) (by omega) (by omega) r⟩
theorem gives_t : Gives rdT (fun y => [.t y]) fun _ => True := ⟨fun y r _ h => by
  simp only [encL, encI, List.flatMap_cons, List.flatMap_nil, List.append_nil]
  unfold rdT
  cases y
  · rw [rdI_gives (by decide) (by decide) (by decide) (by decide)]; rfl
  · rw [rdI_gives (by decide) (by decide) (by decide) (by decide)]; rfl⟩
theorem gives_b : Gives rdB (fun x => [.b x]) fun x => x < 18446744073709551616 := ⟨fun x r hx h => by
  simp only [encL, encI, List.flatMap_cons, List.flatMap_nil, List.append_nil]
  unfold rdB
  rw [first_uint hx]
  simp⟩
theorem rdC_gives {k : Nat} (h : k ≤ 1024) (r : List Nat) : rdC (uintL (zig (k : Int)) ++ r) = some (k, r) := by
  unfold rdC
  rw [rdI_gives (by omega) (by omega) (by omega) (by omega)]
  simp
theorem givesK {X : Type} {p : Rd X} {f : X → List Itm} {V : X → Prop} (hp : Gives p f V) : ∀ (xs : List X) (r : List Nat), (∀ x ∈ xs, V x) → (xs.flatMap f).all okI = true → rdK p xs.length (encL (xs.flatMap f) ++ r) = some (xs, r)
  | [], r, _, _ => by simp [rdK, encL]
  | x :: xs, r, hV, h => by
    rw [List.flatMap_cons, List.all_append, Bool.and_eq_true] at h
    rw [List.length_cons, rdK, List.flatMap_cons, encL_append, List.append_assoc]
    show (p (encL (f x) ++ _)).bind _ = _
    rw [hp.gives x _ (hV x (by simp)) h.1]
    simp only [Option.bind_some]
    rw [givesK hp xs r (fun y hy => hV y (by simp [hy])) h.2]
    rfl
theorem gives_l {X : Type} {p : Rd X} {f : X → List Itm} {V : X → Prop} (hp : Gives p f V) : Gives (rdL p) (itL f) fun xs => ∀ x ∈ xs, V x := ⟨fun xs r hV h => by
  unfold itL at h ⊢
  rw [List.all_cons, Bool.and_eq_true] at h
  have hk : xs.length ≤ 1024 := by simpa [okI] using h.1
  unfold rdL
  rw [encL_cons, List.append_assoc]
  show (rdC (uintL (zig (xs.length : Int)) ++ _)).bind _ = _
  rw [rdC_gives hk]
  simp only [Option.bind_some]
  exact givesK hp xs r hV h.2⟩
theorem gives_2 {X Y Z : Type} {p : Rd X} {q : Rd Y} {f : X → List Itm} {g : Y → List Itm} {h : Z → List Itm} {V : X → Prop} {W : Y → Prop} {U : Z → Prop} (m : X → Y → Z) (hp : Gives p f V) (hq : Gives q g W)
    (hm : ∀ z, ∃ x y, z = m x y ∧ h z = f x ++ g y ∧ (U z → V x ∧ W y)) : Gives (rd2 m p q) h U := ⟨fun z r hU hz => by
  obtain ⟨x, y, rfl, e, hV⟩ := hm z
  obtain ⟨hV, hW⟩ := hV hU
  rw [e, List.all_append, Bool.and_eq_true] at hz
  rw [e, encL_append, List.append_assoc]
  show (p (encL (f x) ++ _)).bind _ = _
  rw [hp.gives x _ hV hz.1]
  simp only [Option.bind_some]
  rw [hq.gives y r hW hz.2]
  rfl⟩
end Go.Proofs.Ytlfhgmoafgjdcaa
