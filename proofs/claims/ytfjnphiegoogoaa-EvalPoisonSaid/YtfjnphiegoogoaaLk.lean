/- A look: attributes and places of what lies in memory, as contracts. -/
import Derived.Test.YtfjnphiegoogoaaEvK
import Derived.Test.YtfjnphiegoogoaaEvO
import Derived.Deep.RegionHeld3
import Derived.Deep.RegionWith
import Derived.Deep.RegionLaw
import Derived.Laws.MakeOwn
namespace Go.Proofs.Ytfjnphiegoogoaa
open Go.ChangeShapes Go.WideShapes Go.ChangeAt Go.RowKit Go.Fl
set_option linter.unusedVariables false
set_option linter.unusedSimpArgs false

/-- the 64 bits of a whole number -/
def nU (n : Int) : Nat := (IntKind.u64.wrap n).toNat
theorem nU_eq (n : Int) : ((nU n : Nat) : Int) = IntKind.u64.wrap n := by
  unfold nU
  have : 0 ≤ IntKind.u64.wrap n := by rw [IntKind.wrap_u64]; omega
  omega
theorem nU_lt (n : Int) : nU n < 18446744073709551616 := by
  have h := nU_eq n
  have : IntKind.u64.wrap n < 18446744073709551616 := by rw [IntKind.wrap_u64]; omega
  omega

/-- an attribute of an event of a script -/
def attrP (es : List Ev) (p a : Int) : Int × Nat :=
  if p < 0 then (0, 0) else
  match es[p.toNat]? with
  | none => (0, 0)
  | some e => if a = -1 then (1, nU e.2.1) else if a < 0 then (0, 0) else
    match e.2.2[a.toNat]? with
    | none => (0, 0)
    | some v => (clK v.1 v.2, clB v.1 v.2)
/-- the events that a position has -/
def placesP (bs : List (List Int)) (pos : Int) : List Int := if pos < 0 then [] else (bs[pos.toNat]?).getD []

/-- a value is answered -/
def VIs (p : Int × Nat) (w : World) (e : Ending) (w' : World) : Prop := e = .returned (.agg #[.int .i64 p.1, .int .u64 ((p.2 : Nat) : Int)]) ∧ Below w.heap.size w w'
theorem VIs.mk {k : Int} {b : Nat} {x : Int} {w w' : World} (hx : x = (b : Int)) (hb : Below w.heap.size w w') : VIs (k, b) w (.returned (.agg #[.int .i64 k, .int .u64 x])) w' := by
  subst hx; exact ⟨rfl, hb⟩

theorem ofint_e (n : Int) (w : World) :
    Calls Try.prog 79 #[.int .i64 n] w fun e w' => e = .returned (.agg #[.int .i64 1, .int .u64 (IntKind.u64.wrap n)]) ∧ Below w.heap.size w w' := by
  go_enter Try.func79, Try.ntmps79
  go_wp2
  exact bodyPost_ret (v := .agg #[.int .i64 1, .int .u64 (IntKind.u64.wrap n)]) (by simp [results, Try.results79, go_sem]) rfl ⟨rfl, below1 _ _⟩

/-- a look by value -/
abbrev lookV (E B : Option Addr) (ne ce nb cb : Nat) (cur : Int) : Value := .agg #[.slice E ne ce, .slice B nb cb, .int .i64 cur]
abbrev lookO (E B : Option Addr) (ne ce nb cb : Nat) (cur : Int) : Obj := .cells #[.slice E ne ce, .slice B nb cb, .int .i64 cur] 34

/-- a list of whole numbers is answered -/
def PIs (ks : List Int) (w : World) (e : Ending) (w' : World) : Prop := ∃ A cap, e = .returned (.slice A ks.length cap) ∧ IntsAt w' A ks ∧ Below w.heap.size w w'

theorem places_any (E B : Option Addr) (ne ce cb : Nat) (cur : Int) (bs : List (List Int)) (pos : Int) (w : World) (hb : KindsAt w B bs) (hl : bs.length ≤ 9223372036854775807) :
    Calls Try.prog 80 #[lookV E B ne ce bs.length cb cur, .int .i64 pos] w (PIs (placesP bs pos) w) := by
  by_cases h1 : pos < 0
  · have hp : placesP bs pos = [] := by unfold placesP; rw [if_pos h1]
    rw [hp]; clear hp
    go_enter Try.func80, Try.ntmps80
    go_wp2
    go_ret
    exact ⟨none, 0, rfl, fun h => absurd h (by simp), m1 _ _⟩
  obtain ⟨p, rfl⟩ : ∃ p : Nat, pos = (p : Int) := ⟨pos.toNat, by omega⟩
  by_cases h2 : (p : Int) < (bs.length : Int)
  · have hp : placesP bs (p : Int) = bs[p]'(by omega) := by
      unfold placesP; rw [if_neg h1]; simp [List.getElem?_eq_getElem (show p < bs.length by omega)]
    rw [hp]
    have hu := m1 w (lookO E B ne ce bs.length cb cur)
    obtain ⟨b, off, e2, hc⟩ := hb.later hu (by omega)
    obtain ⟨x0, q0, UA, ucap, e3, hI⟩ := hc p _ (List.getElem?_eq_getElem (by omega))
    subst e2 e3
    generalize bs[p] = ks at *
    replace hI := Lib.hid hI
    replace hu := Lib.hid hu
    clear hc hb hp
    go_enter Try.func80, Try.ntmps80
    go_wp2
    go_ret
    exact ⟨_, _, rfl, hI.out, hu.out⟩
  · have hp : placesP bs (p : Int) = [] := by
      unfold placesP; rw [if_neg h1]; simp [List.getElem?_eq_none (show bs.length ≤ p by omega)]
    rw [hp]; clear hp
    go_enter Try.func80, Try.ntmps80
    go_wp2
    go_ret
    exact ⟨none, 0, rfl, fun h => absurd h (by simp), m1 _ _⟩

theorem attrP_in (es : List Ev) (p : Nat) (a : Int) (ev : Ev) (h : es[p]? = some ev) : attrP es (p : Int) a = if a = -1 then (1, nU ev.2.1) else if a < 0 then (0, 0) else
    match ev.2.2[a.toNat]? with
    | none => (0, 0)
    | some v => (clK v.1 v.2, clB v.1 v.2) := by
  unfold attrP
  rw [if_neg (by omega), show ((p : Int)).toNat = p by omega, h]

set_option maxHeartbeats 4000000 in
set_option maxRecDepth 100000 in
theorem attribute_any (E B : Option Addr) (ce nb cb : Nat) (cur : Int) (es : List Ev) (p a : Int) (w : World) (he : EvsAt w E es) (hl : es.length ≤ 9223372036854775807) (hl2 : ∀ e ∈ es, e.2.2.length ≤ 9223372036854775807) :
    Calls Try.prog 78 #[lookV E B es.length ce nb cb cur, .int .i64 p, .int .i64 a] w (VIs (attrP es p a) w) := by
  by_cases h1 : p < 0
  · have hp : attrP es p a = (0, 0) := by unfold attrP; rw [if_pos h1]
    rw [hp]; clear hp
    go_enter Try.func78, Try.ntmps78
    go_wp2
    exact bodyPost_ret (v := .agg #[.int .i64 0, .int .u64 0]) (by simp [results, Try.results78, go_sem]) rfl (.mk rfl (below2 _ _ _))
  obtain ⟨p, rfl⟩ : ∃ q : Nat, p = (q : Int) := ⟨p.toNat, by omega⟩
  by_cases h2 : (p : Int) < (es.length : Int)
  · have hp := attrP_in es p a _ (List.getElem?_eq_getElem (show p < es.length by omega))
    have hlv := hl2 _ (List.getElem_mem (show p < es.length by omega))
    rw [hp]
    have hu := m2 w (lookO E B es.length ce nb cb cur) (.cells #[.int .i64 0, .int .u64 0] 25)
    obtain ⟨b, off, e2, hc⟩ := he.later hu (by omega)
    obtain ⟨q0, q1, VA, vcap, q2, hR⟩ := hc p _ (List.getElem?_eq_getElem (by omega))
    subst e2
    generalize es[p] = ev at *
    obtain ⟨ty, tm, vs⟩ := ev
    simp only at hlv q0 q1 q2 hR ⊢
    clear hc he hp hl2
    replace hu := Lib.hid hu
    by_cases c1 : a = -1
    · rw [if_pos c1]
      have x1 : (a == -1) = true := by simpa using c1
      subst c1
      clear hR q2
      go_enter Try.func78, Try.ntmps78
      go_wp2_with fail
      refine (ofint_e _ _).mono ?_; rintro e w1 ⟨rfl, hb1⟩
      obtain ⟨hc, hf⟩ := bcell hb1
      obtain ⟨_, r1, r2⟩ := put2 (w := w1) (g := w.heap.size + 1) (.int .i64 1) (.int .u64 (IntKind.u64.wrap tm)) (x := .int .i64 0) (y := .int .u64 0) (by rw [hc _ _ (by simp)]; simp [go_sem]) (by rw [hc _ _ (by simp)]; simp [go_sem])
      go_wp2
      exact bodyPost_ret (v := .agg #[.int .i64 1, .int .u64 (IntKind.u64.wrap tm)]) (by simp [results, Try.results78, go_sem, r1, r2]) rfl (.mk (nU_eq _).symm (((below_more hu.out hb1).setCell (by show w.heap.size ≤ w.heap.size + 1; omega) _).setCell (by show w.heap.size ≤ w.heap.size + 1; omega) _))
    rw [if_neg c1]
    have x1 : (a == -1) = false := by simpa using c1
    by_cases c2 : a < 0
    · rw [if_pos c2]
      clear hR q2
      go_enter Try.func78, Try.ntmps78
      go_wp2
      exact bodyPost_ret (v := .agg #[.int .i64 0, .int .u64 0]) (by simp [results, Try.results78, go_sem]) rfl (.mk rfl (by simpa using hu.out))
    rw [if_neg c2]
    obtain ⟨j, rfl⟩ : ∃ q : Nat, a = (q : Int) := ⟨a.toNat, by omega⟩
    by_cases c3 : (j : Int) < (vs.length : Int)
    · have hj : vs[((j : Int)).toNat]? = some (vs[j]'(by omega)) := by rw [show ((j : Int)).toNat = j by omega]; exact List.getElem?_eq_getElem (by omega)
      rw [hj]
      have hbits := hR.2.1 _ (List.getElem_mem (show j < vs.length by omega))
      obtain ⟨b2, off2, e3, hcv⟩ := hR.2.2 (by omega)
      have hjl : j < vs.length := by omega
      have hvk : vs[j]? = some (vs[j].1, vs[j].2) := List.getElem?_eq_getElem hjl
      obtain ⟨z0, z1⟩ := hcv j _ _ hvk
      clear hvk
      subst e3
      generalize vs[j] = v at *
      obtain ⟨k, bb⟩ := v
      simp only at hbits z0 z1 ⊢
      clear hcv hR hj
      have R := Lib.hid (fun w => clean_any k bb w hbits)
      clear hbits
      generalize clK k bb = k2 at *
      generalize clB k bb = b3 at *
      go_enter Try.func78, Try.ntmps78
      go_wp2_with fail
      refine (R.out _).mono ?_; rintro e w1 ⟨rfl, hb1⟩
      obtain ⟨hc, hf⟩ := bcell hb1
      obtain ⟨_, r1, r2⟩ := put2 (w := w1) (g := w.heap.size + 1) (.int .i64 k2) (.int .u64 (b3 : Int)) (x := .int .i64 0) (y := .int .u64 0) (by rw [hc _ _ (by simp)]; simp [go_sem]) (by rw [hc _ _ (by simp)]; simp [go_sem])
      go_wp2
      exact bodyPost_ret (v := .agg #[.int .i64 k2, .int .u64 (b3 : Int)]) (by simp [results, Try.results78, go_sem, r1, r2]) rfl (.mk rfl (((below_more hu.out hb1).setCell (by show w.heap.size ≤ w.heap.size + 1; omega) _).setCell (by show w.heap.size ≤ w.heap.size + 1; omega) _))
    · have hj : vs[((j : Int)).toNat]? = none := by rw [show ((j : Int)).toNat = j by omega]; exact List.getElem?_eq_none (by omega)
      rw [hj]
      clear hR
      go_enter Try.func78, Try.ntmps78
      go_wp2
      exact bodyPost_ret (v := .agg #[.int .i64 0, .int .u64 0]) (by simp [results, Try.results78, go_sem]) rfl (.mk rfl (by simpa using hu.out))
  · have hp : attrP es (p : Int) a = (0, 0) := by
      unfold attrP; rw [if_neg h1]; simp [List.getElem?_eq_none (show es.length ≤ p by omega)]
    rw [hp]; clear hp
    go_enter Try.func78, Try.ntmps78
    go_wp2
    exact bodyPost_ret (v := .agg #[.int .i64 0, .int .u64 0]) (by simp [results, Try.results78, go_sem]) rfl (.mk rfl (below2 _ _ _))
end Go.Proofs.Ytfjnphiegoogoaa
