/- RealSums: floats added one behind the other by the program are the document's sum; the list stays. -/
import Derived.Test.YtpcdeofjadnpbaaRows
import Derived.WalkKit
import Derived.ProofKit
import Derived.OpenShut
import Derived.ShutString
import Derived.ChangeOld
import Derived.Below
import Derived.Lib.SmallJoins
import Derived.SizedLaws
import Derived.Test.YtpcdeofjadnpbaaSum
import Derived.Test.YtpcdeofjadnpbaaWords
namespace Go.Proofs.Ytpcdeofjadnpbaa.realSums
open Go.ChangeShapes Go.WideShapes Go.ChangeAt Go.RowKit Go.Fl Go.Joins
set_option linter.unusedVariables false

theorem own : ownKnob Try.prog.godebug = none := by kernel_rfl
theorem laidOut : laidOutB Try.prog = true := by kernel_rfl

theorem bytes22 : Try.prog.bytesOf 22 = 8 := by kernel_rfl
/-- what is known of a slice of ints that came in -/
def IntsIn (k : IntKind) (w : World) (a : Option Addr) (len cap : Nat) (zs : List Int) : Prop :=
  (a = none ∧ len = 0 ∧ cap = 0 ∧ zs = []) ∨
  ∃ x, a = some x ∧ len ≤ cap ∧ cap ≤ maxLen ∧ zs.length = cap ∧ (∀ i, i < zs.length → w.cell? (x.add i) = some (.int k (zs.getD i 0))) ∧ ∀ n ∈ zs, (Lit.int k n).wf = true

theorem block_of_cell {w : World} {a : Addr} {v : Value} (h : w.cell? a = some v) : a.block < w.heap.size := by
  by_cases c : a.block < w.heap.size
  · exact c
  · unfold World.cell? at h
    rw [Array.getElem?_eq_none (by omega)] at h
    simp at h

def wordsV (ns : List Nat) : List Value := ns.map fun (x : Nat) => Value.int .u64 (x : Int)

theorem reads_of {w : World} {a : Option Addr} {n c : Nat} {zs : List Int} (h : IntsIn .u64 w a n c zs) :
    ∃ ns : List Nat, RowN w a n ns ∧ Reads w w.heap.size 1 a n (wordsV ns) := by
  rcases h with ⟨rfl, rfl, rfl, rfl⟩ | ⟨x, rfl, hl, hm, hz, hc, hwf⟩
  · exact ⟨[], ⟨rfl, by simp, fun h => absurd h (by simp)⟩, Reads.none_⟩
  · have ht : (zs.take n).length = n := by rw [List.length_take]; omega
    have hw2 : ∀ z ∈ zs.take n, ((z.toNat : Nat) : Int) = z ∧ z.toNat < 18446744073709551616 := by
      intro z hz2
      obtain ⟨m, rfl, hlt⟩ := nat_of_wf (hwf z (List.mem_of_mem_take hz2))
      exact ⟨by simp, by simpa using hlt⟩
    refine ⟨(zs.take n).map Int.toNat, ⟨by rw [List.length_map, ht], ?_, fun hn => ?_⟩, by rw [wordsV, List.length_map, List.length_map, ht, Nat.mul_one], fun hn => ?_⟩
    · intro y hy
      obtain ⟨z, hz2, rfl⟩ := List.mem_map.1 hy
      exact (hw2 z hz2).2
    · obtain ⟨b, off, rfl, hc2⟩ := ints_at hc (by omega)
      refine ⟨b, off, rfl, fun i y hi => ?_⟩
      rw [List.getElem?_map] at hi
      obtain ⟨z, hz2, rfl⟩ := Option.map_eq_some_iff.1 hi
      have hi2 : i < n := by have := (List.getElem?_eq_some_iff.1 hz2).1; omega
      rw [hc2 i (by omega), (hw2 z (List.mem_of_getElem? hz2)).1]
      rw [List.getElem?_take_of_lt hi2] at hz2
      rw [List.getD_eq_getElem?_getD, hz2]; rfl
    · refine ⟨x, rfl, ?_, fun j u hu => ?_⟩
      · have := block_of_cell (hc 0 (by omega))
        rwa [block_of_add] at this
      · rw [wordsV, List.map_map, List.getElem?_map] at hu
        obtain ⟨z, hz2, rfl⟩ := Option.map_eq_some_iff.1 hu
        have hj : j < n := by have := (List.getElem?_eq_some_iff.1 hz2).1; omega
        rw [hc j (by omega)]
        have e := (hw2 z (List.mem_of_getElem? hz2)).1
        rw [List.getElem?_take_of_lt hj] at hz2
        rw [List.getD_eq_getElem?_getD, hz2]
        simp only [Function.comp_apply, e]; rfl

theorem rowN_later {w w1 : World} {A : Option Addr} {n : Nat} {ns : List Nat} (h : RowN w A n ns) (hb : Below w.heap.size w w1) : RowN w1 A n ns :=
  ⟨h.1, h.2.1, fun hn => by
    obtain ⟨b, off, e, hc⟩ := h.2.2 hn
    exact ⟨b, off, e, fun i z hi => cell_later hb (hc i z hi)⟩⟩

theorem add_zero_block (g j : Nat) : (⟨g, 0, none⟩ : Addr).add j = ⟨g, j, none⟩ := by unfold Addr.add; split <;> simp_all

theorem word_info : (Try.prog.info? 22).map (fun i => (i.zero, i.size, i.bytes)) = some (some (.int .u64 0), 1, 8) := by kernel_rfl

def IdxR (n : Nat) (i : Value) : Prop := ∃ k : Nat, k ≤ n ∧ i = .int .i64 (k : Int)

theorem new_cell (W : World) (v : Value) (t : TypeId) : (W.alloc (.cells #[v] t)).cell? ⟨W.heap.size, 0, none⟩ = some v := by simp

theorem sum_lit (g : Nat) (w : World) (hc : w.cell? ⟨g, 0, none⟩ = some (.int .u64 9223372036854775808)) :
    Calls Try.prog 38 #[.slice (some ⟨g, 0, none⟩) 1 1] w fun e w' => e = .returned (.tuple #[.int .u64 9223372036854775808, .bool true]) ∧ ∃ k, w' = w.drewN k := by
  have h := sum_any (some ⟨g, 0, none⟩) 1 1 [9223372036854775808] w ⟨rfl, by simp, fun _ => ⟨g, 0, rfl, fun i x hi => by
    match i, hi with
    | 0, hi => simp at hi; subst hi; exact hc⟩⟩ (by decide) (by decide)
  rw [show sumP [9223372036854775808] = 9223372036854775808 by decide] at h
  exact h

set_option maxHeartbeats 4000000 in
theorem walk (w : World) (A0 : Option Addr) (n0 c0 : Nat) (z0 : List Int) (w0 : IntsIn .u64 w A0 n0 c0 z0) (s0 : n0 * 8 ≤ 140737488351232) :
    Calls Try.prog 14 #[.slice A0 n0 c0] w fun e w' => e = .returned (.bool true) ∧ Below w.heap.size w w' := by
  obtain ⟨ns, hrow, hreads⟩ := reads_of w0
  obtain ⟨i0, hi, hz0, hz1, hz2⟩ := info_parts word_info
  have HR := Lib.hid hrow
  have HD := Lib.hid hreads
  have H1 := Lib.hid (show ∀ u ∈ wordsV ns, u.oneCell' = true by
    intro u hu
    obtain ⟨z, _, rfl⟩ := List.mem_map.1 hu
    rfl)
  have HL := Lib.hid hrow.1
  clear hrow hreads w0
  go_enter Try.func14, Try.ntmps14
  go_wp2_with (at_builtin; refine wpList_append_any _ rfl (.tmp 12) (.tmp 13) 36 rfl w.heap.size 22 i0 (.int .u64 0) 1 8 Try.underlying36 hi hz0 hz1 hz2 rfl (by decide) (.slice (some ⟨w.heap.size, 0, none⟩) 0 0) 0 [] rfl ?c0 w.heap.size A0 n0 c0 _ rfl ?c1 H1.out ?c2 ?c3 ?c4 ?_)
  case c0 => exact ⟨rfl, .inr ⟨w.heap.size, 0, #[], rfl, Nat.le_refl _, heap_alloc_new w _, Nat.le_refl _, by decide, rfl, rfl⟩⟩
  case c1 => exact HD.out.alloc (Nat.le_refl _) _
  case c2 => unfold maxLen; omega
  case c3 => omega
  case c4 => simp
  intro v1 w1 hown1 hg1 _
  have hB1 : Below w.heap.size w w1 := ((Below.refl _ w).alloc (Nat.le_refl _) _).grown hg1 (by simp) (fun g hg => by simp [Value.ownBlock] at hg; omega)
  have hs1 := hB1.size
  go_wp2_with (at_builtin; refine wpList_append_own _ rfl (.tmp 14) (.tmp 15) 36 rfl w.heap.size 22 i0 (.int .u64 0) 1 8 Try.underlying36 hi hz0 hz1 hz2 rfl (by decide) v1 n0 (wordsV ns) rfl (hown1.alloc _) ⟨w1.heap.size, 0, none⟩ 1 1 [.int .u64 71] rfl rfl ?d1 ?d2 ?d3 ?d4 ?d5 ?_)
  case d1 =>
    intro j u hj
    match j, hj with
    | 0, hj => simp at hj; subst hj; simp [Addr.add]
  case d2 => intro u hu; simp at hu; subst hu; rfl
  case d3 => unfold maxLen; omega
  case d4 => omega
  case d5 => simp; omega
  intro v2 w2 hown2 hg2 _
  have hB2 : Below w.heap.size w w2 := (hB1.alloc hs1 _).grown hg2 (by simp; omega) (fun g hg => (hown1.lt g hg).1)
  rcases hown2.2 with ⟨_, h0⟩ | ⟨g, cap2, cur, rfl, hgb, hh, hnc, hcm, hcs, htk⟩
  · exact absurd h0 (by omega)
  have hcells := hown2.cells (g := g) rfl
  have c71 : w2.cell? ⟨g, n0, none⟩ = some (.int .u64 71) := by
    rw [← add_zero_block]
    exact hcells n0 _ (by rw [List.getElem?_append_right (by simp [wordsV, HL.out]), show n0 - (wordsV ns).length = 0 by simp [wordsV, HL.out]]; rfl)
  have rIn : RowN w2 (some ⟨g, 0, none⟩) n0 ns := ⟨HL.out, HR.out.2.1, fun _ => ⟨g, 0, rfl, fun i x hi2 => by
    have hl := (List.getElem?_eq_some_iff.1 hi2).1
    have := hcells i (.int .u64 (x : Int)) (by rw [List.getElem?_append_left (by simpa [wordsV] using hl), wordsV, List.getElem?_map, hi2]; rfl)
    rw [add_zero_block] at this
    rw [Nat.zero_add]; exact this⟩⟩
  have R2 := Lib.hid rIn
  have R1 := Lib.hid (rowN_later HR.out hB2)
  have hc1 : n0 ≤ cap2 := by omega
  have hc2 : n0 + 1 ≤ cap2 := hnc
  have hgl : g < w2.heap.size := block_of_cell c71
  clear hown1 hown2 hg1 hg2 hh hcs htk hcells hnc
  go_wp2_with fail
  refine (sum_any _ _ _ _ _ R2.out hc1 (by omega)).mono ?_; rintro e w3 ⟨rfl, q3, rfl⟩
  go_wp2_with fail
  refine (rsum_any _ _ _ _ _ (show RowN (w2.drewN q3) A0 n0 ns from R1.out) (by omega)).mono ?_; rintro e w4 ⟨rfl, q4, rfl⟩
  go_wp2_with fail
  have c72 : ∀ q o, ((w2.drewN q).alloc o).cell? ⟨g, n0, none⟩ = some (.int .u64 71) := fun q o => (World.cell?_alloc_lt (w2.drewN q) o _ hgl).trans c71
  clear c71
  go_loop [32] (fun i => IdxR n0 i) (fun i => n0 - (intOf i).toNat)
  case atStart => exact ⟨0, Nat.zero_le _, rfl⟩
  case round =>
    obtain ⟨k, hk, rfl⟩ := hrel
    by_cases hlt : k < n0
    · obtain ⟨b, off, rfl, hcell⟩ := R1.out.2.2 (by omega)
      obtain ⟨b2, off2, e2, hcell2⟩ := R2.out.2.2 (by omega)
      simp only [Option.some.injEq, Addr.mk.injEq, and_true] at e2
      obtain ⟨rfl, rfl⟩ := e2
      have hk2 : k < ns.length := by rw [HL.out]; exact hlt
      have hxk : ns[k]? = some ns[k] := List.getElem?_eq_getElem hk2
      have r1 := hcell k _ hxk
      have r2 := hcell2 k _ hxk
      generalize ns[k] = x at *
      simp only [Nat.zero_add] at r2
      have ne : ((x : Int) != (x : Int)) = false := by simp
      clear hcell hcell2 hxk c72
      go_wp2
      go_round
      case rel => exact ⟨k + 1, by omega, by go_num⟩
      case measure => simp [intOf]; omega
    · obtain rfl : n0 = k := by omega
      go_wp2_with fail
      refine (sum_lit w2.heap.size _ ?hc).mono ?_
      case hc =>
        exact new_cell (w2.drewN (q3 + q4)) _ _
      rintro e w5 ⟨rfl, q5, rfl⟩
      have hc3 : (n0 : Int) + 1 ≤ (cap2 : Int) := by omega
      go_wp2
      go_ret
      exact ⟨rfl, below_drewN ((below_drewN hB2 (q3 + q4)).alloc hB2.size _) _⟩

set_option maxRecDepth 100000 in
theorem lifted (os : Os) (started : os.Started) (H : Type) (enc : TypeId × Value → H) :
    ReturnsInHanded {} Try.checked os 14 .any (Rows.realSumsSpec.pre6 enc Try.prog Try.f14 Rows.realSumsRow.domain false) (Rows.realSumsSpec.post enc Try.prog Try.f14 false true false false) := by
  refine returnsInHanded_of_change_sized (C := Try.checked) own started (by kernel_rfl) Try.func14
    (ChangeSpec.witness6 (enc := enc) (C := Try.checked) false ⟨#[], #[.slice none 0 0], []⟩ 8 (by kernel_rfl) (by kernel_rfl) (by kernel_rfl) (by kernel_rfl)) ?_
  intro W base args ds gs before hval0 hW hcnd hsz0 _
  have hsz : (DataW.weightsEach Try.prog (Try.f14.params.toList ++ Rows.realSumsSpec.plain.varTypes Try.prog) (ds ++ gs)).all (· ≤ reachBytes) = true := hsz0
  clear hsz0
  have hval : ∀ (j : Nat) t v, Try.f14.params[j]? = some t → args[j]? = some v → Value.okWide Try.prog W .any base t v := hval0
  have hW' := hW
  obtain ⟨p, q, hA0, hV, rfl, hfz, hnd⟩ := hW
  have hA : DataW.TrodAll enc Try.prog W 0 (fun _ => true) true Try.f14.params.toList args.toList ds p := hA0
  rw [Try.params14] at hA hval hsz
  obtain ⟨v0, vs0, d0, ds0, p0, q0, hargs, rfl, rfl, h0, r0⟩ := trodAll_cons hA
  obtain ⟨rfl, rfl, rfl⟩ := trodAll_nil r0
  obtain rfl : args = #[v0] := by cases args; simp_all
  obtain ⟨rfl, rfl⟩ := trodVars_none hV
  have kk0 := h0
  have lt0 : ∀ x ∈ p0, x.block < W.heap.size := by obtain ⟨m, hm⟩ := kk0; exact DataW.trod_lt m _ _ _ hm
  obtain ⟨A0, n0, c0, rfl⟩ := okWide_slice Try.underlying36 (hval 0 36 v0 rfl rfl)
  obtain ⟨z0, w0, s0⟩ : ∃ zs, IntsIn .u64 W A0 n0 c0 zs ∧ n0 * 8 ≤ 140737488351232 := by
    obtain ⟨fuel, hf⟩ := h0
    rcases open_ints Try.underlying36 Try.underlying22 (by kernel_rfl) hf with ⟨hcs, _⟩ | ⟨x, l, c, zs, hcs, _, hl, hm, hz, hx, hcell, hwz⟩
    · simp [Value.cells] at hcs
      obtain ⟨rfl, rfl, rfl⟩ := hcs
      exact ⟨[], .inl ⟨rfl, rfl, rfl, rfl⟩, by decide⟩
    · simp [Value.cells] at hcs
      obtain ⟨rfl, rfl, rfl⟩ := hcs
      simp only [Prod.mk.injEq] at hx
      obtain ⟨rfl, rfl⟩ := hx
      have hb := sized_slice hsz (j := 0) (t := 36) (e := 22) rfl rfl Try.underlying36
      rw [bytes22] at hb
      simp only [lits, List.length_map, List.length_take, List.length_drop, reachBytes] at hb
      simp only [if_true] at hz
      exact ⟨zs, .inr ⟨_, rfl, hl, hm, hz, hcell, hwz⟩, by omega⟩
  clear hA0 hval0
  refine (walk W A0 n0 c0 z0 w0 s0).mono fun e W' ⟨he, bel⟩ => ?_
  subst he
  exact ⟨_, rfl, _, _, _, [], _, [], hW', trodAll_mk1 (shut_bool Try.underlying4 _), (trodAll_cons_mk (Below.trod laidOut (by kernel_rfl) (of_decide_eq_true (by kernel_rfl)) kk0 bel lt0) trodAll_mk0), rfl, bel.frame _, fun h => by cases h⟩

theorem over : Rows.realSumsRow.holds Try.pinned (OpenSpec.ofChange Rows.realSumsSpec) :=
  OpenClaim.holds_of_wide 14 Try.f14 rfl rfl rfl rfl rfl rfl rfl ⟨rfl, rfl, rfl, rfl, rfl⟩ rfl rfl rfl rfl rfl (by kernel_rfl) Try.func14 (by kernel_rfl)
    (of_decide_eq_true (by kernel_rfl)) (by unfold Func.isWrapper; first | (rw [if_pos (by decide +kernel)]; kernel_rfl) | (rw [if_neg (by decide +kernel)]; exact ⟨rfl, rfl⟩))
    (fun os started H enc _ => lifted os started H enc)

/-- the statement -/
theorem proved : Rows.RealSumsSaid :=
  over
#print axioms proved
end Go.Proofs.Ytpcdeofjadnpbaa.realSums
