/- ValueResults: the kind of what any operator makes of any kinds, the program tells as the document does. -/
import Derived.Test.YtpcdeofjadnpbabRows
import Derived.WalkKit
import Derived.ProofKit
import Derived.OpenShut
import Derived.ShutString
import Derived.ChangeOld
import Derived.Below
import Derived.Lib.SmallJoins
import Derived.SizedLaws
import Derived.Test.YtpcdeofjadnpbabAwake
import Derived.Test.YtpcdeofjadnpbabRes
import Derived.Test.YtpcdeofjadnpbabWords
namespace Go.Proofs.Ytpcdeofjadnpbab.valueResults
open Go.ChangeShapes Go.WideShapes Go.ChangeAt Go.RowKit Go.Fl Go.Joins
set_option linter.unusedVariables false

theorem own : ownKnob Try.prog.godebug = none := by kernel_rfl
theorem laidOut : laidOutB Try.prog = true := by kernel_rfl

theorem bytes3 : Try.prog.bytesOf 3 = 8 := by kernel_rfl
/-- what is known of a slice of ints that came in -/
def IntsIn (k : IntKind) (w : World) (a : Option Addr) (len cap : Nat) (zs : List Int) : Prop :=
  (a = none ∧ len = 0 ∧ cap = 0 ∧ zs = []) ∨
  ∃ x, a = some x ∧ len ≤ cap ∧ cap ≤ maxLen ∧ zs.length = cap ∧ (∀ i, i < zs.length → w.cell? (x.add i) = some (.int k (zs.getD i 0))) ∧ ∀ n ∈ zs, (Lit.int k n).wf = true

theorem reads_of {k : IntKind} {w : World} {a : Option Addr} {n c : Nat} {zs : List Int} (h : IntsIn k w a n c zs) :
    RowI k w a n (zs.take n) ∧ Reads w w.heap.size 1 a n ((zs.take n).map (Value.int k)) := by
  rcases h with ⟨rfl, rfl, rfl, rfl⟩ | ⟨x, rfl, hl, hm, hz, hc, _⟩
  · exact ⟨⟨rfl, fun h => absurd h (by simp)⟩, Reads.none_⟩
  · have ht : (zs.take n).length = n := by rw [List.length_take]; omega
    refine ⟨⟨ht, fun hn => ?_⟩, by rw [List.length_map, ht, Nat.mul_one], fun hn => ?_⟩
    · obtain ⟨b, off, rfl, hc2⟩ := ints_at hc (by omega)
      refine ⟨b, off, rfl, fun i z hi => ?_⟩
      have hi2 : i < n := by have := (List.getElem?_eq_some_iff.1 hi).1; omega
      rw [hc2 i (by omega)]
      rw [List.getElem?_take_of_lt hi2] at hi
      rw [List.getD_eq_getElem?_getD, hi]; rfl
    · refine ⟨x, rfl, ?_, fun j u hu => ?_⟩
      · have := block_of_cell (hc 0 (by omega))
        rwa [block_of_add] at this
      · rw [List.getElem?_map] at hu
        obtain ⟨z, hz2, rfl⟩ := Option.map_eq_some_iff.1 hu
        have hj : j < n := by have := (List.getElem?_eq_some_iff.1 hz2).1; omega
        rw [hc j (by omega)]
        rw [List.getElem?_take_of_lt hj] at hz2
        rw [List.getD_eq_getElem?_getD, hz2]; rfl

theorem rowI_later {k : IntKind} {w w1 : World} {A : Option Addr} {n : Nat} {zs : List Int} (h : RowI k w A n zs) (hb : Below w.heap.size w w1) : RowI k w1 A n zs :=
  ⟨h.1, fun hn => by
    obtain ⟨b, off, e, hc⟩ := h.2 hn
    exact ⟨b, off, e, fun i z hi => cell_later hb (hc i z hi)⟩⟩

theorem rowI_own {k : IntKind} {w : World} {base : Nat} {e : TypeId} {v : Value} {n : Nat} {zs : List Int} (hn : zs.length = n) (h : w.ownsRow base e 1 v n (zs.map (Value.int k))) :
    ∃ A cap, v = .slice A n cap ∧ RowI k w A n zs := by
  by_cases z : n = 0
  · subst z
    rcases h.2 with ⟨rfl, _⟩ | ⟨g, cap, cur, rfl, _⟩
    · exact ⟨none, 0, rfl, hn, fun h => absurd h (by simp)⟩
    · exact ⟨some ⟨g, 0, none⟩, cap, rfl, hn, fun h => absurd h (by simp)⟩
  · obtain ⟨g, cap, rfl, _, _⟩ := h.form (by omega)
    have hc := h.cells (g := g) rfl
    refine ⟨_, cap, rfl, hn, fun _ => ⟨g, 0, rfl, fun i x hi => ?_⟩⟩
    have := hc i (.int k x) (by rw [List.getElem?_map, hi]; rfl)
    rw [show (⟨g, 0 + i, none⟩ : Addr) = (⟨g, 0, none⟩ : Addr).add i by unfold Addr.add; split <;> simp_all]
    exact this

theorem int_info : (Try.prog.info? 3).map (fun i => (i.zero, i.size, i.bytes)) = some (some (.int .i64 0), 1, 8) := by kernel_rfl

set_option maxHeartbeats 4000000 in
theorem walk (w : World) (a0 : Int) (w0 : (Lit.int .i64 a0).wf = true) (A1 : Option Addr) (n1 c1 : Nat) (z1 : List Int) (w1 : IntsIn .i64 w A1 n1 c1 z1) (s1 : n1 * 8 ≤ 140737488351232) :
    Calls Try.prog 6 #[.int .i64 a0, .slice A1 n1 c1] w fun e w' => e = .returned (.bool true) ∧ Below w.heap.size w w' := by
  obtain ⟨hrow, hreads⟩ := reads_of w1
  have hn : n1 ≤ 9223372036854775807 := by
    rcases w1 with ⟨_, rfl, _, _⟩ | ⟨_, _, hl, hm, _⟩
    · decide
    · unfold maxLen at hm; omega
  obtain ⟨i0, hi, hz0, hz1, hz2⟩ := info_parts int_info
  have hlen := hrow.1
  have HR := Lib.hid hrow
  have HD := Lib.hid hreads
  have hone : ∀ u ∈ (z1.take n1).map (Value.int .i64), u.oneCell' = true := by
    intro u hu
    obtain ⟨z, _, rfl⟩ := List.mem_map.1 hu
    rfl
  have H1 := Lib.hid hone
  have HL := Lib.hid hlen
  clear hrow hreads hone hlen w1 w0
  go_enter Try.func6, Try.ntmps6
  go_wp2_with fail
  refine (awake_any _).mono ?_; rintro e w1 ⟨rfl, hb1⟩
  go_wp2_with (at_builtin; refine wpList_append_wanted _ (by rfl) (.tmp 8) (.tmp 9) 40 rfl w.heap.size 3 i0 (.int .i64 0) 1 8 Try.underlying40 hi hz0 hz1 hz2 rfl (by decide) (.slice (some ⟨w1.heap.size, 0, none⟩) 0 0) 0 [] rfl ?c0 w.heap.size A1 n1 c1 _ rfl ?c1 H1.out ?c2 ?c3 ?c4 ?_)
  case c0 => exact ⟨rfl, .inr ⟨w1.heap.size, 0, #[], rfl, hb1.size, heap_alloc_new w1 _, Nat.le_refl _, by decide, rfl, rfl⟩⟩
  case c1 => exact (HD.out.below hb1).alloc hb1.size _
  case c2 => unfold maxLen; omega
  case c3 => omega
  case c4 => have := hb1.size; simp; omega
  intro v2 w2 hown2 hg2 _
  have hB2 : Below w.heap.size w w2 := (hb1.alloc hb1.size _).grown hg2 (by have := hb1.size; simp; omega) (fun g hg => by simp [Value.ownBlock] at hg; subst hg; exact hb1.size)
  obtain ⟨A2, cap2, rfl, hrow2⟩ := rowI_own (k := .i64) (zs := z1.take n1) HL.out (by simpa using hown2)
  have R2 := Lib.hid hrow2
  have R1 := Lib.hid (rowI_later HR.out hB2)
  clear hown2 hg2 hrow2 hb1
  go_wp2_with fail
  refine (result_any _ _ _ _ _ _ R2.out hn).mono ?_; rintro e w3 ⟨rfl, q3, rfl⟩
  go_wp2_with fail
  refine (rresult_any _ _ _ _ _ _ (show RowI .i64 (w2.drewN q3) A1 n1 (z1.take n1) from R1.out) hn).mono ?_; rintro e w4 ⟨rfl, q4, rfl⟩
  go_wp2
  go_ret
  exact ⟨rfl, below_drewN hB2 _⟩

set_option maxRecDepth 100000 in
theorem lifted (os : Os) (started : os.Started) (H : Type) (enc : TypeId × Value → H) :
    ReturnsInHanded {} Try.checked os 6 .any (Rows.valueResultsSpec.pre6 enc Try.prog Try.f6 Rows.valueResultsRow.domain false) (Rows.valueResultsSpec.post enc Try.prog Try.f6 false true false false) := by
  refine returnsInHanded_of_change_sized (C := Try.checked) own started (by kernel_rfl) Try.func6
    (ChangeSpec.witness6 (enc := enc) (C := Try.checked) false ⟨#[], #[.int .i64 0, .slice none 0 0], []⟩ 8 (by kernel_rfl) (by kernel_rfl) (by kernel_rfl) (by kernel_rfl)) ?_
  intro W base args ds gs before hval0 hW hcnd hsz0 _
  have hsz : (DataW.weightsEach Try.prog (Try.f6.params.toList ++ Rows.valueResultsSpec.plain.varTypes Try.prog) (ds ++ gs)).all (· ≤ reachBytes) = true := hsz0
  clear hsz0
  have hval : ∀ (j : Nat) t v, Try.f6.params[j]? = some t → args[j]? = some v → Value.okWide Try.prog W .any base t v := hval0
  have hW' := hW
  obtain ⟨p, q, hA0, hV, rfl, hfz, hnd⟩ := hW
  have hA : DataW.TrodAll enc Try.prog W 0 (fun _ => true) true Try.f6.params.toList args.toList ds p := hA0
  rw [Try.params6] at hA hval hsz
  obtain ⟨v0, vs0, d0, ds0, p0, q0, hargs, rfl, rfl, h0, r0⟩ := trodAll_cons hA
  obtain ⟨v1, vs1, d1, ds1, p1, q1, rfl, rfl, rfl, h1, r1⟩ := trodAll_cons r0
  obtain ⟨rfl, rfl, rfl⟩ := trodAll_nil r1
  obtain rfl : args = #[v0, v1] := by cases args; simp_all
  obtain ⟨rfl, rfl⟩ := trodVars_none hV
  have kk0 := h0
  have lt0 : ∀ x ∈ p0, x.block < W.heap.size := by obtain ⟨m, hm⟩ := kk0; exact DataW.trod_lt m _ _ _ hm
  have kk1 := h1
  have lt1 : ∀ x ∈ p1, x.block < W.heap.size := by obtain ⟨m, hm⟩ := kk1; exact DataW.trod_lt m _ _ _ hm
  obtain ⟨a0, rfl, rfl, rfl, w0⟩ := open_int Try.underlying3 (hval 0 3 v0 rfl rfl) h0
  obtain ⟨A1, n1, c1, rfl⟩ := okWide_slice Try.underlying40 (hval 1 40 v1 rfl rfl)
  obtain ⟨z1, w1, s1⟩ : ∃ zs, IntsIn .i64 W A1 n1 c1 zs ∧ n1 * 8 ≤ 140737488351232 := by
    obtain ⟨fuel, hf⟩ := h1
    rcases open_ints Try.underlying40 Try.underlying3 (by kernel_rfl) hf with ⟨hcs, _⟩ | ⟨x, l, c, zs, hcs, _, hl, hm, hz, hx, hcell, hwz⟩
    · simp [Value.cells] at hcs
      obtain ⟨rfl, rfl, rfl⟩ := hcs
      exact ⟨[], .inl ⟨rfl, rfl, rfl, rfl⟩, by decide⟩
    · simp [Value.cells] at hcs
      obtain ⟨rfl, rfl, rfl⟩ := hcs
      simp only [Prod.mk.injEq] at hx
      obtain ⟨rfl, rfl⟩ := hx
      have hb := sized_slice hsz (j := 1) (t := 40) (e := 3) rfl rfl Try.underlying40
      rw [bytes3] at hb
      simp only [lits, List.length_map, List.length_take, List.length_drop, reachBytes] at hb
      simp only [if_true] at hz
      exact ⟨zs, .inr ⟨_, rfl, hl, hm, hz, hcell, hwz⟩, by omega⟩
  clear hA0 hval0
  refine (walk W a0 w0 A1 n1 c1 z1 w1 s1).mono fun e W' ⟨he, bel⟩ => ?_
  subst he
  exact ⟨_, rfl, _, _, _, [], _, [], hW', trodAll_mk1 (shut_bool Try.underlying4 _), (trodAll_cons_mk (Below.trod laidOut (by kernel_rfl) (of_decide_eq_true (by kernel_rfl)) kk0 bel lt0) (trodAll_cons_mk (Below.trod laidOut (by kernel_rfl) (of_decide_eq_true (by kernel_rfl)) kk1 bel lt1) trodAll_mk0)), rfl, bel.frame _, fun h => by cases h⟩

theorem over : Rows.valueResultsRow.holds Try.pinned (OpenSpec.ofChange Rows.valueResultsSpec) :=
  OpenClaim.holds_of_wide 6 Try.f6 rfl rfl rfl rfl rfl rfl rfl ⟨rfl, rfl, rfl, rfl, rfl⟩ rfl rfl rfl rfl rfl (by kernel_rfl) Try.func6 (by kernel_rfl)
    (of_decide_eq_true (by kernel_rfl)) (by unfold Func.isWrapper; first | (rw [if_pos (by decide +kernel)]; kernel_rfl) | (rw [if_neg (by decide +kernel)]; exact ⟨rfl, rfl⟩))
    (fun os started H enc _ => lifted os started H enc)

/-- the statement -/
theorem proved : Rows.ValueResultsSaid :=
  over
#print axioms proved
end Go.Proofs.Ytpcdeofjadnpbab.valueResults
