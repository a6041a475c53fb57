/- The writer of images over lists and structs of a table, as contracts. -/
import Derived.Test.YtlfhgmoafgjdcaaImW
namespace Go.Proofs.Ytlfhgmoafgjdcaa
open Go.ChangeShapes Go.WideShapes Go.ChangeAt Go.RowKit
set_option linter.unusedVariables false
set_option linter.unusedSimpArgs false

theorem na_number (a : Addr) (w : World) : (nilAhead 339 57 (.pointer (some a)) "auspice/image.number").run Try.prog w = .ok (some false) w := by kernel_rfl
theorem me_number (a : Addr) (w : World) : (method 339 57 (.pointer (some a)) "auspice/image.number").run Try.prog w = .ok (152, .pointer (some a)) w := by kernel_rfl
theorem na_time (a : Addr) (w : World) : (nilAhead 339 57 (.pointer (some a)) "auspice/image.time").run Try.prog w = .ok (some false) w := by kernel_rfl
theorem me_time (a : Addr) (w : World) : (method 339 57 (.pointer (some a)) "auspice/image.time").run Try.prog w = .ok (153, .pointer (some a)) w := by kernel_rfl
theorem na_truth (a : Addr) (w : World) : (nilAhead 339 57 (.pointer (some a)) "auspice/image.truth").run Try.prog w = .ok (some false) w := by kernel_rfl
theorem me_truth (a : Addr) (w : World) : (method 339 57 (.pointer (some a)) "auspice/image.truth").run Try.prog w = .ok (154, .pointer (some a)) w := by kernel_rfl
theorem na_bits (a : Addr) (w : World) : (nilAhead 339 57 (.pointer (some a)) "auspice/image.bits").run Try.prog w = .ok (some false) w := by kernel_rfl
theorem me_bits (a : Addr) (w : World) : (method 339 57 (.pointer (some a)) "auspice/image.bits").run Try.prog w = .ok (149, .pointer (some a)) w := by kernel_rfl
theorem na_count (a : Addr) (w : World) : (nilAhead 339 57 (.pointer (some a)) "auspice/image.count").run Try.prog w = .ok (some false) w := by kernel_rfl
theorem me_count (a : Addr) (w : World) : (method 339 57 (.pointer (some a)) "auspice/image.count").run Try.prog w = .ok (150, .pointer (some a)) w := by kernel_rfl

/-- the walk's trick: a goal that is paid stands as an empty region's -/
theorem paysI {X : Prop} (a : Act) (w : World) (h : X) : wpAny Try.prog .any #[] (fun _ _ _ => True) 0 #[] a w → X := fun _ => h
theorem runW_stop {bs : List Nat} {s L : List Itm} (h : runW bs s = none) : runW bs (s ++ L) = none := by
  rw [runW_append, h]
  rfl
theorem runW_go {bs b1 : List Nat} {s L : List Itm} (h : runW bs s = some b1) : runW bs (s ++ L) = runW b1 L := by
  rw [runW_append, h]
  rfl
theorem cellB {w w1 : World} {base : Nat} {p : Addr} {v : Value} (hb : Below base w w1) (hp : p.block < base) (h : w.cell? p = some v) : w1.cell? p = some v := (hb.cell hp).trans h
/-- bytes of which there are not too many -/
def Sm (bs : List Nat) : Prop := bs.length ≤ 65546
/-- an item that a table may have -/
def wfI : Itm → Prop
  | .n z => -9223372036854775808 ≤ z ∧ z ≤ 9223372036854775807
  | .b x => x < 18446744073709551616
  | .c k => k ≤ 9223372036854775807
  | .t _ => True
theorem encI_le {i : Itm} (h : wfI i) : (encI i).length ≤ 10 := by
  cases i with
  | n z => exact (uintL_len (zig_lt h.1 h.2)).2
  | c k => exact (uintL_len (zig_lt (by omega) (by have : k ≤ 9223372036854775807 := h; omega))).2
  | t y => exact (uintL_len (zig_lt (by split <;> omega) (by split <;> omega))).2
  | b x => exact (uintL_len h).2
theorem putW_sm {bs : List Nat} {i : Itm} (hs : Sm bs) (h : wfI i) : Sm (putW bs i) := by
  unfold putW Sm at *
  split
  · exact hs
  · rw [List.length_append]
    have := encI_le h
    omega
theorem runW_sm : ∀ (L : List Itm) (bs b1 : List Nat), Sm bs → (∀ i ∈ L, wfI i) → runW bs L = some b1 → Sm b1
  | [], bs, b1, hs, _, h => by injection h with h; exact h ▸ hs
  | i :: r, bs, b1, hs, hw, h => by
    rw [runW] at h
    split at h
    · exact runW_sm r _ b1 (putW_sm hs (hw i (by simp))) (fun j hj => hw j (by simp [hj])) h
    · cases h
theorem Wtr.base {w : World} {g base : Nat} {bs : List Nat} (h : Wtr w g base bs) : base ≤ w.heap.size := by
  obtain ⟨_, k, _, k2⟩ := h
  have := k.lt
  omega
/-- a list, as it lies: P tells how one of it lies -/
def ListAt {X : Type} (P : World → Nat → Nat → X → Prop) (size base : Nat) (w : World) (A : Option Addr) (xs : List X) : Prop :=
  0 < xs.length → ∃ b off, A = some ⟨b, off, none⟩ ∧ b < base ∧ ∀ i x, xs[i]? = some x → P w b (off + i * size) x
theorem ListAt.belowB {X : Type} {P : World → Nat → Nat → X → Prop} {size base : Nat} {w w1 : World} {A : Option Addr} {xs : List X} (hP : ∀ b o x, b < base → P w b o x → P w1 b o x) (h : ListAt P size base w A xs) : ListAt P size base w1 A xs := fun hl => by
  obtain ⟨b, off, h1, h2, h3⟩ := h hl
  exact ⟨b, off, h1, h2, fun i x hi => hP b _ x h2 (h3 i x hi)⟩
/-- a field that is a list -/
def LField {X : Type} (P : World → Nat → Nat → X → Prop) (size base : Nat) (w : World) (b o : Nat) (xs : List X) : Prop := ∃ A c, w.cell? ⟨b, o, none⟩ = some (.slice A xs.length c) ∧ ListAt P size base w A xs ∧ xs.length ≤ 9223372036854775807
theorem LField.belowB {X : Type} {P : World → Nat → Nat → X → Prop} {size base : Nat} {w w1 : World} {b o : Nat} {xs : List X} (hb : Below base w w1) (hbl : b < base) (hP : ∀ b o x, b < base → P w b o x → P w1 b o x) (h : LField P size base w b o xs) : LField P size base w1 b o xs := by
  obtain ⟨A, c, h1, h2, h3⟩ := h
  exact ⟨A, c, cellB hb hbl h1, h2.belowB hP, h3⟩

/-! ### how things lie, and what they carry -/
def pInt (w : World) (b o : Nat) (z : Int) : Prop := w.cell? ⟨b, o, none⟩ = some (.int .i64 z)
def iInt (z : Int) : List Itm := [.n z]

def pInts (base : Nat) (w : World) (b o : Nat) (x : List Int) : Prop := LField pInt 1 base w b o x
def iInts (x : List Int) : List Itm := itL iInt x
abbrev TStop := Int × Int
def pStop (w : World) (b o : Nat) (x : TStop) : Prop := w.cell? ⟨b, o, none⟩ = some (.int .i64 (x.1)) ∧ w.cell? ⟨b, o + 1, none⟩ = some (.int .i64 (x.2))
def iStop (x : TStop) : List Itm := [.n (x.1)] ++ ([.n (x.2)] ++ [])
abbrev TTail := Int × Int × List (Int × Int)
def pTail (base : Nat) (w : World) (b o : Nat) (x : TTail) : Prop := w.cell? ⟨b, o, none⟩ = some (.int .i64 (x.1)) ∧ w.cell? ⟨b, o + 1, none⟩ = some (.int .i64 (x.2.1)) ∧ LField pStop 2 base w b (o + 2) (x.2.2)
def iTail (x : TTail) : List Itm := [.n (x.1)] ++ ([.n (x.2.1)] ++ (itL iStop (x.2.2) ++ []))
abbrev TRow := (Int × Int × Bool × Int × List (Int × Int)) × (Int × Int × List (Int × Int × List (Int × Int)))
def pRow (base : Nat) (w : World) (b o : Nat) (x : TRow) : Prop := w.cell? ⟨b, o, none⟩ = some (.int .i64 (x.1.1)) ∧ w.cell? ⟨b, o + 1, none⟩ = some (.int .i64 (x.1.2.1)) ∧ w.cell? ⟨b, o + 2, none⟩ = some (.bool (x.1.2.2.1)) ∧ w.cell? ⟨b, o + 3, none⟩ = some (.int .i64 (x.1.2.2.2.1)) ∧ LField pStop 2 base w b (o + 4) (x.1.2.2.2.2) ∧ w.cell? ⟨b, o + 5, none⟩ = some (.int .i64 (x.2.1)) ∧ w.cell? ⟨b, o + 6, none⟩ = some (.int .i64 (x.2.2.1)) ∧ LField (pTail base) 3 base w b (o + 7) (x.2.2.2)
def iRow (x : TRow) : List Itm := [.n (x.1.1)] ++ ([.n (x.1.2.1)] ++ ([.t (x.1.2.2.1)] ++ ([.n (x.1.2.2.2.1)] ++ (itL iStop (x.1.2.2.2.2) ++ ([.n (x.2.1)] ++ ([.n (x.2.2.1)] ++ (itL iTail (x.2.2.2) ++ [])))))))
abbrev TInput := Int × Int × Int × Int
def pInput (w : World) (b o : Nat) (x : TInput) : Prop := w.cell? ⟨b, o, none⟩ = some (.int .i64 (x.1)) ∧ w.cell? ⟨b, o + 1, none⟩ = some (.int .i64 (x.2.1)) ∧ w.cell? ⟨b, o + 2, none⟩ = some (.int .i64 (x.2.2.1)) ∧ w.cell? ⟨b, o + 3, none⟩ = some (.int .i64 (x.2.2.2))
def iInput (x : TInput) : List Itm := [.n (x.1)] ++ ([.n (x.2.1)] ++ ([.n (x.2.2.1)] ++ ([.n (x.2.2.2)] ++ [])))
abbrev TValue := Int × Nat
def pValue (w : World) (b o : Nat) (x : TValue) : Prop := w.cell? ⟨b, o, none⟩ = some (.int .i64 (x.1)) ∧ w.cell? ⟨b, o + 1, none⟩ = some (.int .u64 ((x.2 : Nat) : Int))
def iValue (x : TValue) : List Itm := [.n (x.1)] ++ ([.b (x.2)] ++ [])
abbrev TIns := Int × Int × Int × Int
def pIns (w : World) (b o : Nat) (x : TIns) : Prop := w.cell? ⟨b, o, none⟩ = some (.int .i64 (x.1)) ∧ w.cell? ⟨b, o + 1, none⟩ = some (.int .i64 (x.2.1)) ∧ w.cell? ⟨b, o + 2, none⟩ = some (.int .i64 (x.2.2.1)) ∧ w.cell? ⟨b, o + 3, none⟩ = some (.int .i64 (x.2.2.2))
def iIns (x : TIns) : List Itm := [.n (x.1)] ++ ([.n (x.2.1)] ++ ([.n (x.2.2.1)] ++ ([.n (x.2.2.2)] ++ [])))
abbrev TCode := Int × Int × List (Int × Int × Int × Int) × List (Int × Nat) × List (Int × Int × Int × Int)
def pCode (base : Nat) (w : World) (b o : Nat) (x : TCode) : Prop := w.cell? ⟨b, o, none⟩ = some (.int .i64 (x.1)) ∧ w.cell? ⟨b, o + 1, none⟩ = some (.int .i64 (x.2.1)) ∧ LField pInput 4 base w b (o + 2) (x.2.2.1) ∧ LField pValue 2 base w b (o + 3) (x.2.2.2.1) ∧ LField pIns 4 base w b (o + 4) (x.2.2.2.2)
def iCode (x : TCode) : List Itm := [.n (x.1)] ++ ([.n (x.2.1)] ++ (itL iInput (x.2.2.1) ++ (itL iValue (x.2.2.2.1) ++ (itL iIns (x.2.2.2.2) ++ []))))
abbrev TTable := (Int × List Int × List (List Int) × Int × Int × Int) × (List ((Int × Int × Bool × Int × List (Int × Int)) × (Int × Int × List (Int × Int × List (Int × Int)))) × List (Int × Int × List (Int × Int × Int × Int) × List (Int × Nat) × List (Int × Int × Int × Int)))
def pTable (base : Nat) (w : World) (b o : Nat) (x : TTable) : Prop := w.cell? ⟨b, o, none⟩ = some (.int .i64 (x.1.1)) ∧ LField pInt 1 base w b (o + 1) (x.1.2.1) ∧ LField (pInts base) 1 base w b (o + 2) (x.1.2.2.1) ∧ w.cell? ⟨b, o + 3, none⟩ = some (.int .i64 (x.1.2.2.2.1)) ∧ w.cell? ⟨b, o + 4, none⟩ = some (.int .i64 (x.1.2.2.2.2.1)) ∧ w.cell? ⟨b, o + 5, none⟩ = some (.int .i64 (x.1.2.2.2.2.2)) ∧ LField (pRow base) 8 base w b (o + 6) (x.2.1) ∧ LField (pCode base) 5 base w b (o + 7) (x.2.2)
def iTable (x : TTable) : List Itm := [.n (x.1.1)] ++ (itL iInt (x.1.2.1) ++ (itL iInts (x.1.2.2.1) ++ ([.n (x.1.2.2.2.1)] ++ ([.n (x.1.2.2.2.2.1)] ++ ([.n (x.1.2.2.2.2.2)] ++ (itL iRow (x.2.1) ++ (itL iCode (x.2.2) ++ [])))))))

theorem pInt.belowB {w w1 : World} {base b o : Nat} {x : Int} (hb : Below base w w1) (hbl : b < base) (h : pInt w b o x) : pInt w1 b o x := cellB hb hbl h
theorem pInts.belowB {w w1 : World} {base b o : Nat} {x : List Int} (hb : Below base w w1) (hbl : b < base) (h : pInts base w b o x) : pInts base w1 b o x := LField.belowB hb hbl (fun _ _ _ hl h => pInt.belowB hb hl h) h
theorem pStop.belowB {w w1 : World} {base b o : Nat} {x : TStop} (hb : Below base w w1) (hbl : b < base) (h : pStop w b o x) : pStop w1 b o x := by
  obtain ⟨h0, h1⟩ := h
  exact ⟨cellB hb hbl h0, cellB hb hbl h1⟩
theorem pTail.belowB {w w1 : World} {base b o : Nat} {x : TTail} (hb : Below base w w1) (hbl : b < base) (h : pTail base w b o x) : pTail base w1 b o x := by
  obtain ⟨h0, h1, h2⟩ := h
  exact ⟨cellB hb hbl h0, cellB hb hbl h1, LField.belowB hb hbl (fun _ _ _ hl h => pStop.belowB hb hl h) h2⟩
theorem pRow.belowB {w w1 : World} {base b o : Nat} {x : TRow} (hb : Below base w w1) (hbl : b < base) (h : pRow base w b o x) : pRow base w1 b o x := by
  obtain ⟨h0, h1, h2, h3, h4, h5, h6, h7⟩ := h
  exact ⟨cellB hb hbl h0, cellB hb hbl h1, cellB hb hbl h2, cellB hb hbl h3, LField.belowB hb hbl (fun _ _ _ hl h => pStop.belowB hb hl h) h4, cellB hb hbl h5, cellB hb hbl h6, LField.belowB hb hbl (fun _ _ _ hl h => pTail.belowB hb hl h) h7⟩
theorem pInput.belowB {w w1 : World} {base b o : Nat} {x : TInput} (hb : Below base w w1) (hbl : b < base) (h : pInput w b o x) : pInput w1 b o x := by
  obtain ⟨h0, h1, h2, h3⟩ := h
  exact ⟨cellB hb hbl h0, cellB hb hbl h1, cellB hb hbl h2, cellB hb hbl h3⟩
theorem pValue.belowB {w w1 : World} {base b o : Nat} {x : TValue} (hb : Below base w w1) (hbl : b < base) (h : pValue w b o x) : pValue w1 b o x := by
  obtain ⟨h0, h1⟩ := h
  exact ⟨cellB hb hbl h0, cellB hb hbl h1⟩
theorem pIns.belowB {w w1 : World} {base b o : Nat} {x : TIns} (hb : Below base w w1) (hbl : b < base) (h : pIns w b o x) : pIns w1 b o x := by
  obtain ⟨h0, h1, h2, h3⟩ := h
  exact ⟨cellB hb hbl h0, cellB hb hbl h1, cellB hb hbl h2, cellB hb hbl h3⟩
theorem pCode.belowB {w w1 : World} {base b o : Nat} {x : TCode} (hb : Below base w w1) (hbl : b < base) (h : pCode base w b o x) : pCode base w1 b o x := by
  obtain ⟨h0, h1, h2, h3, h4⟩ := h
  exact ⟨cellB hb hbl h0, cellB hb hbl h1, LField.belowB hb hbl (fun _ _ _ hl h => pInput.belowB hb hl h) h2, LField.belowB hb hbl (fun _ _ _ hl h => pValue.belowB hb hl h) h3, LField.belowB hb hbl (fun _ _ _ hl h => pIns.belowB hb hl h) h4⟩
theorem pTable.belowB {w w1 : World} {base b o : Nat} {x : TTable} (hb : Below base w w1) (hbl : b < base) (h : pTable base w b o x) : pTable base w1 b o x := by
  obtain ⟨h0, h1, h2, h3, h4, h5, h6, h7⟩ := h
  exact ⟨cellB hb hbl h0, LField.belowB hb hbl (fun _ _ _ hl h => pInt.belowB hb hl h) h1, LField.belowB hb hbl (fun _ _ _ hl h => pInts.belowB hb hl h) h2, cellB hb hbl h3, cellB hb hbl h4, cellB hb hbl h5, LField.belowB hb hbl (fun _ _ _ hl h => pRow.belowB hb hl h) h6, LField.belowB hb hbl (fun _ _ _ hl h => pCode.belowB hb hl h) h7⟩

theorem int_w (g base : Nat) (bs : List Nat) (x : Int) (pb po : Nat) (w : World) (h : Wtr w g base bs) (hs : Sm bs) (hpb : pb < base) (hx : pInt w pb po x) (hv : ∀ i ∈ iInt x, wfI i) :
    Calls Try.prog 152 #[.pointer (some ⟨g, 0, none⟩), .pointer (some ⟨pb, po, none⟩)] w (WEnd g base (runW bs (iInt x)) (.tuple #[]) w) := by
  have := hv (.n x) (by simp [iInt])
  exact number_w g base bs x pb po this.1 this.2 w h (by unfold Sm at hs; omega) hx

set_option maxHeartbeats 8000000 in
set_option maxRecDepth 100000 in
theorem list_Int_w (g base : Nat) (bs : List Nat) (xs : List (Int)) (pb po : Nat) (w : World) (h : Wtr w g base bs) (hs : Sm bs) (hpb : pb < base) (hx : LField pInt 1 base w pb po xs) (hv : ∀ x ∈ xs, ∀ i ∈ iInt x, wfI i) :
    Calls Try.prog 102 #[(.iface 57 (.pointer (some ⟨g, 0, none⟩))), .pointer (some ⟨pb, po, none⟩), .func (.methodOf 96 "auspice/image.number") #[] #[]] w (WEnd g base (runW bs (itL iInt xs)) (.tuple #[]) w) := by
  have hmf : ∀ (fn : Fn) (first cap : Array Value) (w : World), (Instr.makeFunc fn first cap).run Try.prog w = .ok (.func fn first cap) w := fun _ _ _ _ => rfl
  have nacount := na_count ⟨g, 0, none⟩
  have mecount := me_count ⟨g, 0, none⟩
  have nanumber := na_number ⟨g, 0, none⟩
  have menumber := me_number ⟨g, 0, none⟩
  obtain ⟨A, c, hp, hA, hlen⟩ := hx
  have CC := count_w g base bs xs.length hlen w.drew (h.later (Below.refl _ _).drew) (by unfold Sm at hs; omega)
  have hsplit : runW bs (itL iInt xs) = (runW bs [.c xs.length]).bind fun b => runW b (xs.flatMap iInt) := by
    unfold itL
    rw [show Itm.c xs.length :: xs.flatMap iInt = [.c xs.length] ++ xs.flatMap iInt from rfl, runW_append]
  rw [hsplit]
  have hbd := Lib.hid ((Below.refl base w).drew)
  clear hsplit
  cases h0 : runW bs [.c xs.length] with
  | none =>
    rw [h0] at CC
    go_enter Try.func102, Try.ntmps102
    go_upto_region 0 with (fail)
    go_region_with (go_at_call 150; refine CC.mono ?_; rintro e u ⟨hb, rfl⟩; refine paysI ⟨#[], []⟩ u ⟨rfl, hbd.out.trans hb, rfl⟩ ?_)
    all_goals trivial
  | some b1 =>
    rw [h0] at CC
    have hs1 := runW_sm _ _ _ hs (by intro i hi; simp at hi; subst hi; exact hlen) h0
    clear h0 h
    show Calls _ _ _ _ (WEnd g base (runW b1 (xs.flatMap iInt)) (.tuple #[]) w)
    go_enter Try.func102, Try.ntmps102
    go_upto_region 0 with (fail)
    go_cut [15, 16] from 7 to 16 (fun n i w' => n = .int .i64 (xs.length : Int) ∧ i = .int .i64 0 ∧ Wtr w' g base b1 ∧ Below base w w')
    case first =>
      go_region_with (go_at_call 150; refine CC.mono ?_; rintro e u ⟨hb, rfl, hw⟩)
      all_goals (go_wp2_with fail; go_meet; exact ⟨rfl, rfl, hw, hbd.out.trans hb⟩)
    case rest =>
    obtain ⟨rfl, rfl, hw, hB0⟩ := hcut
    clear CC hbd
    go_wp2_with fail
    go_loopw [16] (fun vi wr => ∃ (k : Nat) (bk : List Nat), k ≤ xs.length ∧ vi = .int .i64 (k : Int) ∧ Sm bk ∧ Wtr wr g base bk ∧ Below base w wr ∧ runW b1 (xs.flatMap iInt) = runW bk ((xs.drop k).flatMap iInt)) (fun vi _ => xs.length - (intOf vi).toNat)
    case atStart => exact ⟨0, b1, by omega, rfl, hs1, hw, hB0, rfl⟩
    case round =>
      clear hw hs1 hB0
      obtain ⟨k, bk, hk, rfl, hsk, hWk, hBk, hrk⟩ := hrel
      have k0 : (0 : Int) ≤ (k : Int) := by omega
      by_cases hlt : k < xs.length
      · have k1 : (k : Int) < (xs.length : Int) := by omega
        have kne : ((k : Int) == (xs.length : Int)) = false := by rw [beq_eq_false_iff_ne]; omega
        have hc := List.getElem?_eq_getElem hlt
        have hwf := hv _ (List.getElem_mem hlt)
        have hd : xs.drop k = xs[k] :: xs.drop (k + 1) := List.drop_eq_getElem_cons hlt
        rw [hd, List.flatMap_cons] at hrk
        obtain ⟨b, off, rfl, hbl, hall⟩ := hA (by omega)
        have hPk := hall k _ hc
        generalize xs[k] = x at *
        have hp1 := cellB hBk hpb hp
        have CE := int_w g base bk x b (off + k) wr hWk hsk hbl (pInt.belowB hBk hbl (by first | exact hPk | (rw [Nat.mul_one] at hPk; exact hPk))) hwf
        replace hrk := Lib.hid hrk
        replace hd := Lib.hid hd
        replace hBk := Lib.hid hBk
        replace hWk := Lib.hid hWk
        replace hwf := Lib.hid hwf
        clear hall hc hPk
        cases hx0 : runW bk (iInt x) with
        | none =>
          rw [hx0] at CE
          replace hrk := Lib.hid (hrk.out.trans (runW_stop hx0))
          rw [hrk.out]
          replace CE := Lib.hid CE
          clear hx0
          go_wp2_with fail
          refine CE.out.mono ?_; rintro e u ⟨hb, rfl⟩
          go_wp2_with fail
          exact ⟨rfl, hBk.out.trans hb, rfl⟩
        | some b2 =>
          rw [hx0] at CE
          replace hrk := Lib.hid (hrk.out.trans (runW_go hx0))
          have hs2 := runW_sm _ _ _ hsk hwf.out hx0
          replace CE := Lib.hid CE
          clear hx0
          go_wp2_with fail
          refine CE.out.mono ?_; rintro e u ⟨hb, rfl, hw2⟩
          replace hb := Lib.hid (hBk.out.trans hb)
          replace hw2 := Lib.hid hw2
          go_wp2
          go_roundw
          case rel => exact ⟨k + 1, b2, by omega, by go_num, hs2, hw2.out, hb.out, hrk.out⟩
          case measure => simp [intOf]; omega
      · obtain rfl : k = xs.length := by omega
        rw [List.drop_length] at hrk
        have hfin : WEnd g base (runW b1 (xs.flatMap iInt)) (.tuple #[]) w (.returned (.tuple #[])) wr := ⟨hBk, by rw [hrk]; exact ⟨rfl, hWk⟩⟩
        replace hfin := Lib.hid hfin
        clear hrk hWk hBk
        go_wp2
        go_end0
        exact hfin.out


set_option maxHeartbeats 8000000 in
set_option maxRecDepth 100000 in
theorem numbers_w (g base : Nat) (bs : List Nat) (xs : List Int) (pb po : Nat) (w : World) (h : Wtr w g base bs) (hs : Sm bs) (hpb : pb < base) (hx : LField pInt 1 base w pb po xs) (hv : ∀ x ∈ xs, ∀ i ∈ iInt x, wfI i) :
    Calls Try.prog 75 #[(.iface 57 (.pointer (some ⟨g, 0, none⟩))), .pointer (some ⟨pb, po, none⟩)] w (WEnd g base (runW bs (itL iInt xs)) (.tuple #[]) w) := by
  have hmf : ∀ (fn : Fn) (first cap : Array Value) (w : World), (Instr.makeFunc fn first cap).run Try.prog w = .ok (.func fn first cap) w := fun _ _ _ _ => rfl
  have C := list_Int_w g base bs xs pb po w h hs hpb hx hv
  clear h hx
  cases e0 : runW bs (itL iInt xs) with
  | none =>
    rw [e0] at C
    replace C := Lib.hid C
    clear e0
    go_enter Try.func75, Try.ntmps75
    go_wp2_with fail
    refine C.out.mono ?_; rintro e u ⟨hb, rfl⟩
    go_wp2_with fail
    exact ⟨rfl, hb, rfl⟩
  | some b1 =>
    rw [e0] at C
    replace C := Lib.hid C
    clear e0
    go_enter Try.func75, Try.ntmps75
    go_wp2_with fail
    refine C.out.mono ?_; rintro e u ⟨hb, rfl, hw⟩
    go_wp2
    go_end0
    exact ⟨hb, rfl, hw⟩
theorem ints_w (g base : Nat) (bs : List Nat) (x : List Int) (pb po : Nat) (w : World) (h : Wtr w g base bs) (hs : Sm bs) (hpb : pb < base) (hx : pInts base w pb po x) (hv : ∀ i ∈ iInts x, wfI i) :
    Calls Try.prog 75 #[(.iface 57 (.pointer (some ⟨g, 0, none⟩))), .pointer (some ⟨pb, po, none⟩)] w (WEnd g base (runW bs (iInts x)) (.tuple #[]) w) :=
  numbers_w g base bs x pb po w h hs hpb hx fun y hy i hi => hv i (by unfold iInts itL; exact List.mem_cons_of_mem _ (List.mem_flatMap.2 ⟨y, hy, hi⟩))

set_option maxHeartbeats 8000000 in
set_option maxRecDepth 100000 in
theorem list_Ints_w (g base : Nat) (bs : List Nat) (xs : List (List Int)) (pb po : Nat) (w : World) (h : Wtr w g base bs) (hs : Sm bs) (hpb : pb < base) (hx : LField (pInts base) 1 base w pb po xs) (hv : ∀ x ∈ xs, ∀ i ∈ iInts x, wfI i) :
    Calls Try.prog 76 #[(.iface 57 (.pointer (some ⟨g, 0, none⟩))), .pointer (some ⟨pb, po, none⟩), .func (.func 75) #[] #[]] w (WEnd g base (runW bs (itL iInts xs)) (.tuple #[]) w) := by
  have hmf : ∀ (fn : Fn) (first cap : Array Value) (w : World), (Instr.makeFunc fn first cap).run Try.prog w = .ok (.func fn first cap) w := fun _ _ _ _ => rfl
  have nacount := na_count ⟨g, 0, none⟩
  have mecount := me_count ⟨g, 0, none⟩
  obtain ⟨A, c, hp, hA, hlen⟩ := hx
  have CC := count_w g base bs xs.length hlen w.drew (h.later (Below.refl _ _).drew) (by unfold Sm at hs; omega)
  have hsplit : runW bs (itL iInts xs) = (runW bs [.c xs.length]).bind fun b => runW b (xs.flatMap iInts) := by
    unfold itL
    rw [show Itm.c xs.length :: xs.flatMap iInts = [.c xs.length] ++ xs.flatMap iInts from rfl, runW_append]
  rw [hsplit]
  have hbd := Lib.hid ((Below.refl base w).drew)
  clear hsplit
  cases h0 : runW bs [.c xs.length] with
  | none =>
    rw [h0] at CC
    go_enter Try.func76, Try.ntmps76
    go_upto_region 0 with (fail)
    go_region_with (go_at_call 150; refine CC.mono ?_; rintro e u ⟨hb, rfl⟩; refine paysI ⟨#[], []⟩ u ⟨rfl, hbd.out.trans hb, rfl⟩ ?_)
    all_goals trivial
  | some b1 =>
    rw [h0] at CC
    have hs1 := runW_sm _ _ _ hs (by intro i hi; simp at hi; subst hi; exact hlen) h0
    clear h0 h
    show Calls _ _ _ _ (WEnd g base (runW b1 (xs.flatMap iInts)) (.tuple #[]) w)
    go_enter Try.func76, Try.ntmps76
    go_upto_region 0 with (fail)
    go_cut [15, 16] from 7 to 16 (fun n i w' => n = .int .i64 (xs.length : Int) ∧ i = .int .i64 0 ∧ Wtr w' g base b1 ∧ Below base w w')
    case first =>
      go_region_with (go_at_call 150; refine CC.mono ?_; rintro e u ⟨hb, rfl, hw⟩)
      all_goals (go_wp2_with fail; go_meet; exact ⟨rfl, rfl, hw, hbd.out.trans hb⟩)
    case rest =>
    obtain ⟨rfl, rfl, hw, hB0⟩ := hcut
    clear CC hbd
    go_wp2_with fail
    go_loopw [16] (fun vi wr => ∃ (k : Nat) (bk : List Nat), k ≤ xs.length ∧ vi = .int .i64 (k : Int) ∧ Sm bk ∧ Wtr wr g base bk ∧ Below base w wr ∧ runW b1 (xs.flatMap iInts) = runW bk ((xs.drop k).flatMap iInts)) (fun vi _ => xs.length - (intOf vi).toNat)
    case atStart => exact ⟨0, b1, by omega, rfl, hs1, hw, hB0, rfl⟩
    case round =>
      clear hw hs1 hB0
      obtain ⟨k, bk, hk, rfl, hsk, hWk, hBk, hrk⟩ := hrel
      have k0 : (0 : Int) ≤ (k : Int) := by omega
      by_cases hlt : k < xs.length
      · have k1 : (k : Int) < (xs.length : Int) := by omega
        have kne : ((k : Int) == (xs.length : Int)) = false := by rw [beq_eq_false_iff_ne]; omega
        have hc := List.getElem?_eq_getElem hlt
        have hwf := hv _ (List.getElem_mem hlt)
        have hd : xs.drop k = xs[k] :: xs.drop (k + 1) := List.drop_eq_getElem_cons hlt
        rw [hd, List.flatMap_cons] at hrk
        obtain ⟨b, off, rfl, hbl, hall⟩ := hA (by omega)
        have hPk := hall k _ hc
        generalize xs[k] = x at *
        have hp1 := cellB hBk hpb hp
        have CE := ints_w g base bk x b (off + k) wr hWk hsk hbl (pInts.belowB hBk hbl (by first | exact hPk | (rw [Nat.mul_one] at hPk; exact hPk))) hwf
        replace hrk := Lib.hid hrk
        replace hd := Lib.hid hd
        replace hBk := Lib.hid hBk
        replace hWk := Lib.hid hWk
        replace hwf := Lib.hid hwf
        clear hall hc hPk
        cases hx0 : runW bk (iInts x) with
        | none =>
          rw [hx0] at CE
          replace hrk := Lib.hid (hrk.out.trans (runW_stop hx0))
          rw [hrk.out]
          replace CE := Lib.hid CE
          clear hx0
          go_wp2_with fail
          refine CE.out.mono ?_; rintro e u ⟨hb, rfl⟩
          go_wp2_with fail
          exact ⟨rfl, hBk.out.trans hb, rfl⟩
        | some b2 =>
          rw [hx0] at CE
          replace hrk := Lib.hid (hrk.out.trans (runW_go hx0))
          have hs2 := runW_sm _ _ _ hsk hwf.out hx0
          replace CE := Lib.hid CE
          clear hx0
          go_wp2_with fail
          refine CE.out.mono ?_; rintro e u ⟨hb, rfl, hw2⟩
          replace hb := Lib.hid (hBk.out.trans hb)
          replace hw2 := Lib.hid hw2
          go_wp2
          go_roundw
          case rel => exact ⟨k + 1, b2, by omega, by go_num, hs2, hw2.out, hb.out, hrk.out⟩
          case measure => simp [intOf]; omega
      · obtain rfl : k = xs.length := by omega
        rw [List.drop_length] at hrk
        have hfin : WEnd g base (runW b1 (xs.flatMap iInts)) (.tuple #[]) w (.returned (.tuple #[])) wr := ⟨hBk, by rw [hrk]; exact ⟨rfl, hWk⟩⟩
        replace hfin := Lib.hid hfin
        clear hrk hWk hBk
        go_wp2
        go_end0
        exact hfin.out

end Go.Proofs.Ytlfhgmoafgjdcaa
