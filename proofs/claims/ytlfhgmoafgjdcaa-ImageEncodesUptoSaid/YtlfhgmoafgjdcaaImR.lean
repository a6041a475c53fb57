/- The reader of images: its methods, as contracts. -/
import Derived.Test.YtlfhgmoafgjdcaaImQ
import Derived.RegionTactic
import Derived.BigRegion
import Derived.Deep.RegionHeld3
import Derived.Deep.RegionWith
import Derived.Deep.RegionLaw
import Derived.Deep.CutRange
import Derived.Deep.DeepCutAuto
namespace Go.Proofs.Ytlfhgmoafgjdcaa
open Go.ChangeShapes Go.WideShapes Go.ChangeAt Go.RowKit
set_option linter.unusedVariables false
set_option linter.unusedSimpArgs false

theorem uptoL_rd (a b : Int) (l : List Nat) : uptoL a b l = (rdI a b l).map fun x => (.int .i64 x.1, x.2) := by
  unfold uptoL rdI
  cases firstW l with
  | none => rfl
  | some x =>
    simp only [Option.bind_some]
    split <;> rfl
theorem rdI_byt {a b : Int} {l r : List Nat} {z : Int} (hl : Byt l) (h : rdI a b l = some (z, r)) : Byt r := by
  obtain ⟨h1, _⟩ := rdI_back hl h
  exact byt_rest h1 hl
/-- how reading a number ends -/
def NEnd (lo rb g B : Nat) (mk : Int → Value) (res : Option (Int × List Nat)) (w : World) (e : Ending) (w' : World) : Prop :=
  w.grownBy w' (some g) ∧ match res with
  | some (z, r) => e = .returned (mk z) ∧ RdS w' lo rb g B r
  | none => e = .panicked [unfitP]
set_option maxHeartbeats 4000000 in
set_option maxRecDepth 100000 in
theorem read_any (lo rb g B : Nat) (l : List Nat) (a b : Int) (w : World) (h : RdS w lo rb g B l) :
    Calls Try.prog 164 #[.pointer (some ⟨rb, 0, none⟩), .int .i64 a, .int .i64 b] w (NEnd lo rb g B (.int .i64) (rdI a b l) w) := by
  obtain ⟨hb, hr, hl, h4, h5, h6, h7⟩ := h
  have C := uptof_any g B l hl w hr a b
  rw [uptoL_rd] at C
  have r0 : w.cell? ⟨rb, 0, none⟩ = some (.pointer (some ⟨g, 0, none⟩)) := by rw [hb.cell]; rfl
  have hk : ∀ w', w.grownBy w' (some g) → Blk w' rb 77 #[.pointer (some ⟨g, 0, none⟩)] ∧ lo ≤ w'.heap.size := fun w' hg => ⟨hb.grown hg (fun e => by
    have := TyB.ne hb.ty (by obtain ⟨A, c, k1, _⟩ := hr; exact k1.ty) (by decide)
    injection e with e
    exact this e), Nat.le_trans h7 hg.size⟩
  replace hk := Lib.hid hk
  cases hx : rdI a b l with
  | none =>
    rw [hx] at C
    replace C := Lib.hid C
    clear hx hb hr
    go_enter Try.func164, Try.ntmps164
    go_wp2_with fail
    refine C.out.mono ?_; rintro e w1 ⟨h1, rfl, -⟩
    replace h1 := Lib.hid h1
    go_wp2
    exact ⟨rfl, h1.out, rfl⟩
  | some y =>
    obtain ⟨z, r⟩ := y
    have hby := rdI_byt hl hx
    rw [hx] at C
    replace C := Lib.hid C
    clear hx hb hr
    go_enter Try.func164, Try.ntmps164
    go_wp2_with fail
    refine C.out.mono ?_; rintro e w1 ⟨h1, rfl, h2⟩
    obtain ⟨k1, k2⟩ := hk.out w1 h1
    have hS : RdS w1 lo rb g B r := ⟨k1, h2, hby, h4, h5, h6, k2⟩
    replace h1 := Lib.hid h1
    replace hS := Lib.hid hS
    clear k1 k2 h2
    go_wp2
    go_ret
    exact ⟨h1.out, rfl, hS.out⟩
theorem rdC_of (l : List Nat) : rdC l = (rdI 0 1024 l).map fun x => (x.1.toNat, x.2) := rfl
/-- how reading a length ends -/
def CEnd (lo rb g B : Nat) (res : Option (Nat × List Nat)) (w : World) (e : Ending) (w' : World) : Prop :=
  w.grownBy w' (some g) ∧ match res with
  | some (k, r) => e = .returned (.int .i64 ((k : Nat) : Int)) ∧ k ≤ 1024 ∧ RdS w' lo rb g B r
  | none => e = .panicked [unfitP]
set_option maxHeartbeats 4000000 in
set_option maxRecDepth 100000 in
theorem count_r (lo rb g B : Nat) (l : List Nat) (n : Int) (w : World) (h : RdS w lo rb g B l) :
    Calls Try.prog 159 #[.pointer (some ⟨rb, 0, none⟩), .int .i64 n] w (CEnd lo rb g B (rdC l) w) := by
  have C := read_any lo rb g B l 0 1024 w h
  rw [rdC_of]
  have hl := h.2.2.1
  clear h
  cases hx : rdI 0 1024 l with
  | none =>
    rw [hx] at C
    replace C := Lib.hid C
    clear hx
    go_enter Try.func159, Try.ntmps159
    go_wp2_with fail
    refine C.out.mono ?_; rintro e w1 ⟨h1, rfl⟩
    go_wp2
    exact ⟨rfl, h1, rfl⟩
  | some y =>
    obtain ⟨z, r⟩ := y
    obtain ⟨_, z1, z2⟩ := rdI_back hl hx
    rw [hx] at C
    replace C := Lib.hid C
    clear hx
    go_enter Try.func159, Try.ntmps159
    go_wp2_with fail
    refine C.out.mono ?_; rintro e w1 ⟨h1, rfl, hS⟩
    replace h1 := Lib.hid h1
    replace hS := Lib.hid hS
    go_wp2
    go_ret
    refine ⟨h1.out, ?_, by show z.toNat ≤ 1024; omega, hS.out⟩
    show Ending.returned (.int .i64 z) = .returned (.int .i64 ((z.toNat : Nat) : Int))
    rw [Int.toNat_of_nonneg z1]

/-- a value that is stored where it was to go -/
theorem rend_store {X : Type} {lo rb g B G o : Nat} {t : TypeId} {cur : Array Value} {E : World → List Value → X → Prop} {x : X} {r : List Nat} {w w1 : World} {v : Value} (hg : w.grownBy w1 (some g)) (hS : RdS w1 lo rb g B r) (hG : Blk w G t cur) (hne : G ≠ g) (hlo : lo ≤ G) (ho : o < cur.size)
    (hE : ∀ w', E w' [v] x) : REnd lo rb g B G t cur o 1 E (some (x, r)) w (.returned (.tuple #[])) (w1.setCell ⟨G, o, none⟩ v) := by
  have hG1 : Blk w1 G t cur := hG.grown hg (fun e => hne (by injection e))
  refine ⟨(RFr.of_grown hg G).trans (RFr.of_set w1 g G o v), rfl, ?_, [v], rfl, hE _, ?_⟩
  · have h4 := hS.2.2.2.2.1
    exact hS.keep (RFr.of_set w1 lo G o v) (Nat.le_refl _) hlo
  · rw [← putC_one v ho]
    exact hG1.put_ o v
def RdP (w : World) (lo g G o : Nat) (t : TypeId) (cur : Array Value) : Prop := Blk w G t cur ∧ G ≠ g ∧ lo ≤ G ∧ o < cur.size
def eIntV (z : Int) : Value := .int .i64 z
def eBoolV (y : Bool) : Value := .bool y
def eBitsV (x : Nat) : Value := .int .u64 (x : Int)

set_option maxHeartbeats 4000000 in
set_option maxRecDepth 100000 in
theorem number_r (lo rb g B G o : Nat) (t : TypeId) (cur : Array Value) (l : List Nat) (w : World) (h : RdS w lo rb g B l) (hP : RdP w lo g G o t cur) :
    Calls Try.prog 160 #[.pointer (some ⟨rb, 0, none⟩), .pointer (some ⟨G, o, none⟩)] w (REnd lo rb g B G t cur o 1 eInt (rdN l) w) := by
  obtain ⟨hG, hne, hlo, ho⟩ := hP
  have C := read_any lo rb g B l (-1) (1152921504606846976) w h
  have hl := h.2.2.1
  clear h
  have hc0 : w.cell? ⟨G, o, none⟩ = some cur[o] := by rw [hG.cell, Array.getElem?_eq_getElem ho]
  have hk : ∀ w1, w.grownBy w1 (some g) → w1.cell? ⟨G, o, none⟩ = some cur[o] ∧ w1.frozen? ⟨G, o, none⟩ = false := fun w1 hg => by
    have hG1 : Blk w1 G t cur := hG.grown hg (fun e => hne (by injection e))
    exact ⟨by rw [hG1.cell, Array.getElem?_eq_getElem ho], hG1.free o⟩
  generalize cur[o] = co at *
  replace hk := Lib.hid hk
  replace hG := Lib.hid hG
  have hrd : rdN l = (rdI (-1) (1152921504606846976) l).map fun x => (x.1, x.2) := by unfold rdN; cases rdI (-1) 1152921504606846976 l <;> rfl
  rw [hrd]
  cases hx : rdI (-1) (1152921504606846976) l with
  | none =>
    rw [hx] at C
    replace C := Lib.hid C
    clear hx hrd hc0
    go_enter Try.func160, Try.ntmps160
    go_wp2_with fail
    refine C.out.mono ?_; rintro e w1 ⟨h1, rfl⟩
    go_wp2_with fail
    exact ⟨rfl, RFr.of_grown h1 G, rfl⟩
  | some y =>
    obtain ⟨z, r⟩ := y
    obtain ⟨_, z1, z2⟩ := rdI_back hl hx
    rw [hx] at C
    replace C := Lib.hid C
    clear hx hrd hc0
    go_enter Try.func160, Try.ntmps160
    go_wp2_with fail
    refine C.out.mono ?_; rintro e w1 ⟨h1, rfl, hS⟩
    obtain ⟨k1, k2⟩ := hk.out w1 h1
    have hfin := Lib.hid (rend_store (E := eInt) (x := z) (v := eIntV (z)) (o := o) h1 hS hG.out hne hlo ho (fun _ => rfl))
    replace h1 := Lib.hid h1
    replace hS := Lib.hid hS
    go_wp2
    go_end0
    exact hfin.out

set_option maxHeartbeats 4000000 in
set_option maxRecDepth 100000 in
theorem time_r (lo rb g B G o : Nat) (t : TypeId) (cur : Array Value) (l : List Nat) (w : World) (h : RdS w lo rb g B l) (hP : RdP w lo g G o t cur) :
    Calls Try.prog 161 #[.pointer (some ⟨rb, 0, none⟩), .pointer (some ⟨G, o, none⟩)] w (REnd lo rb g B G t cur o 1 eInt (rdN l) w) := by
  obtain ⟨hG, hne, hlo, ho⟩ := hP
  have C := read_any lo rb g B l (-1) (1152921504606846976) w h
  have hl := h.2.2.1
  clear h
  have hc0 : w.cell? ⟨G, o, none⟩ = some cur[o] := by rw [hG.cell, Array.getElem?_eq_getElem ho]
  have hk : ∀ w1, w.grownBy w1 (some g) → w1.cell? ⟨G, o, none⟩ = some cur[o] ∧ w1.frozen? ⟨G, o, none⟩ = false := fun w1 hg => by
    have hG1 : Blk w1 G t cur := hG.grown hg (fun e => hne (by injection e))
    exact ⟨by rw [hG1.cell, Array.getElem?_eq_getElem ho], hG1.free o⟩
  generalize cur[o] = co at *
  replace hk := Lib.hid hk
  replace hG := Lib.hid hG
  have hrd : rdN l = (rdI (-1) (1152921504606846976) l).map fun x => (x.1, x.2) := by unfold rdN; cases rdI (-1) 1152921504606846976 l <;> rfl
  rw [hrd]
  cases hx : rdI (-1) (1152921504606846976) l with
  | none =>
    rw [hx] at C
    replace C := Lib.hid C
    clear hx hrd hc0
    go_enter Try.func161, Try.ntmps161
    go_wp2_with fail
    refine C.out.mono ?_; rintro e w1 ⟨h1, rfl⟩
    go_wp2_with fail
    exact ⟨rfl, RFr.of_grown h1 G, rfl⟩
  | some y =>
    obtain ⟨z, r⟩ := y
    obtain ⟨_, z1, z2⟩ := rdI_back hl hx
    rw [hx] at C
    replace C := Lib.hid C
    clear hx hrd hc0
    go_enter Try.func161, Try.ntmps161
    go_wp2_with fail
    refine C.out.mono ?_; rintro e w1 ⟨h1, rfl, hS⟩
    obtain ⟨k1, k2⟩ := hk.out w1 h1
    have hfin := Lib.hid (rend_store (E := eInt) (x := z) (v := eIntV (z)) (o := o) h1 hS hG.out hne hlo ho (fun _ => rfl))
    replace h1 := Lib.hid h1
    replace hS := Lib.hid hS
    go_wp2
    go_end0
    exact hfin.out

set_option maxHeartbeats 4000000 in
set_option maxRecDepth 100000 in
theorem truth_r (lo rb g B G o : Nat) (t : TypeId) (cur : Array Value) (l : List Nat) (w : World) (h : RdS w lo rb g B l) (hP : RdP w lo g G o t cur) :
    Calls Try.prog 162 #[.pointer (some ⟨rb, 0, none⟩), .pointer (some ⟨G, o, none⟩)] w (REnd lo rb g B G t cur o 1 eBool (rdT l) w) := by
  obtain ⟨hG, hne, hlo, ho⟩ := hP
  have C := read_any lo rb g B l (0) (1) w h
  have hl := h.2.2.1
  clear h
  have hc0 : w.cell? ⟨G, o, none⟩ = some cur[o] := by rw [hG.cell, Array.getElem?_eq_getElem ho]
  have hk : ∀ w1, w.grownBy w1 (some g) → w1.cell? ⟨G, o, none⟩ = some cur[o] ∧ w1.frozen? ⟨G, o, none⟩ = false := fun w1 hg => by
    have hG1 : Blk w1 G t cur := hG.grown hg (fun e => hne (by injection e))
    exact ⟨by rw [hG1.cell, Array.getElem?_eq_getElem ho], hG1.free o⟩
  generalize cur[o] = co at *
  replace hk := Lib.hid hk
  replace hG := Lib.hid hG
  have hrd : rdT l = (rdI (0) (1) l).map fun x => (x.1 == 1, x.2) := by rfl
  rw [hrd]
  cases hx : rdI (0) (1) l with
  | none =>
    rw [hx] at C
    replace C := Lib.hid C
    clear hx hrd hc0
    go_enter Try.func162, Try.ntmps162
    go_wp2_with fail
    refine C.out.mono ?_; rintro e w1 ⟨h1, rfl⟩
    go_wp2_with fail
    exact ⟨rfl, RFr.of_grown h1 G, rfl⟩
  | some y =>
    obtain ⟨z, r⟩ := y
    obtain ⟨_, z1, z2⟩ := rdI_back hl hx
    rw [hx] at C
    replace C := Lib.hid C
    clear hx hrd hc0
    go_enter Try.func162, Try.ntmps162
    go_wp2_with fail
    refine C.out.mono ?_; rintro e w1 ⟨h1, rfl, hS⟩
    obtain ⟨k1, k2⟩ := hk.out w1 h1
    have hfin := Lib.hid (rend_store (E := eBool) (x := z == 1) (v := eBoolV (z == 1)) (o := o) h1 hS hG.out hne hlo ho (fun _ => rfl))
    replace h1 := Lib.hid h1
    replace hS := Lib.hid hS
    go_wp2
    go_end0
    exact hfin.out

set_option maxHeartbeats 4000000 in
set_option maxRecDepth 100000 in
theorem bits_r (lo rb g B G o : Nat) (t : TypeId) (cur : Array Value) (l : List Nat) (w : World) (h : RdS w lo rb g B l) (hP : RdP w lo g G o t cur) :
    Calls Try.prog 158 #[.pointer (some ⟨rb, 0, none⟩), .pointer (some ⟨G, o, none⟩)] w (REnd lo rb g B G t cur o 1 eBits (rdB l) w) := by
  obtain ⟨hG, hne, hlo, ho⟩ := hP
  obtain ⟨hb, hr, hl, h4, h5, h6, h7⟩ := h
  have C := uintf_any g B l hl w hr
  have hnum : numOf l = (rdB l).map fun x => (.int .u64 (x.1 : Int), x.2) := by
    unfold numOf rdB
    cases firstW l <;> rfl
  rw [hnum] at C
  have r0 : w.cell? ⟨rb, 0, none⟩ = some (.pointer (some ⟨g, 0, none⟩)) := by rw [hb.cell]; rfl
  have hc0 : w.cell? ⟨G, o, none⟩ = some cur[o] := by rw [hG.cell, Array.getElem?_eq_getElem ho]
  have hk : ∀ w1, w.grownBy w1 (some g) → w1.cell? ⟨G, o, none⟩ = some cur[o] ∧ w1.frozen? ⟨G, o, none⟩ = false ∧ Blk w1 rb 77 #[.pointer (some ⟨g, 0, none⟩)] ∧ lo ≤ w1.heap.size := fun w1 hg => by
    have hG1 : Blk w1 G t cur := hG.grown hg (fun e => hne (by injection e))
    refine ⟨by rw [hG1.cell, Array.getElem?_eq_getElem ho], hG1.free o, hb.grown hg (fun e => ?_), Nat.le_trans h7 hg.size⟩
    have := TyB.ne hb.ty (by obtain ⟨A, c, k1, _⟩ := hr; exact k1.ty) (by decide)
    injection e with e
    exact this e
  generalize cur[o] = co at *
  replace hk := Lib.hid hk
  replace hG := Lib.hid hG
  cases hx : rdB l with
  | none =>
    rw [hx] at C
    replace C := Lib.hid C
    clear hx hc0 hb hr hnum
    go_enter Try.func158, Try.ntmps158
    go_wp2_with fail
    refine C.out.mono ?_; rintro e w1 ⟨h1, rfl, -⟩
    go_wp2
    exact ⟨rfl, RFr.of_grown h1 G, rfl⟩
  | some y =>
    obtain ⟨z, r⟩ := y
    have hby : Byt r := by
      obtain ⟨e1, _⟩ := fits_b.back l z r hl hx
      exact byt_rest e1 hl
    rw [hx] at C
    replace C := Lib.hid C
    clear hx hc0 hb hr hnum
    go_enter Try.func158, Try.ntmps158
    go_wp2_with fail
    refine C.out.mono ?_; rintro e w1 ⟨h1, rfl, h2⟩
    obtain ⟨k1, k2, k3, k4⟩ := hk.out w1 h1
    have hS : RdS w1 lo rb g B r := ⟨k3, h2, hby, h4, h5, h6, k4⟩
    have hfin := Lib.hid (rend_store (E := eBits) (x := z) (v := eBitsV z) (o := o) h1 hS hG.out hne hlo ho (fun _ => rfl))
    replace h1 := Lib.hid h1
    replace hS := Lib.hid hS
    clear k3 k4 h2
    go_wp2
    go_end0
    exact hfin.out
end Go.Proofs.Ytlfhgmoafgjdcaa
