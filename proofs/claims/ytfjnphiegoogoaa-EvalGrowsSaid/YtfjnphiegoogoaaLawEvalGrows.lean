/- EvalGrows: with one event more at a position the program counts one more, the last is that one's, the first stays, and the sum is it added. -/
import Derived.Test.YtfjnphiegoogoaaRows
import Derived.WalkKit
import Derived.ProofKit
import Derived.OpenShut
import Derived.ShutString
import Derived.ChangeOld
import Derived.Below
import Derived.Lib.SmallJoins
import Derived.SizedLaws
import Derived.Test.YtfjnphiegoogoaaGr
import Derived.Test.YtfjnphiegoogoaaEvN
import Derived.Test.YtfjnphiegoogoaaInvG
import Derived.Test.YtfjnphiegoogoaaInvV
namespace Go.Proofs.Ytfjnphiegoogoaa.evalGrows
open Go.ChangeShapes Go.WideShapes Go.ChangeAt Go.RowKit Go.Joins
set_option linter.unusedVariables false
set_option linter.unusedSimpArgs false

theorem own : ownKnob Try.prog.godebug = none := by kernel_rfl
theorem laidOut : laidOutB Try.prog = true := by kernel_rfl

theorem bytes3 : Try.prog.bytesOf 3 = 8 := by kernel_rfl
/-- what is known of a slice of ints that came in -/
def IntsIn (k : IntKind) (w : World) (a : Option Addr) (len cap : Nat) (zs : List Int) : Prop :=
  (a = none ∧ len = 0 ∧ cap = 0 ∧ zs = []) ∨
  ∃ x, a = some x ∧ len ≤ cap ∧ cap ≤ maxLen ∧ zs.length = cap ∧ (∀ i, i < zs.length → w.cell? (x.add i) = some (.int k (zs.getD i 0))) ∧ ∀ n ∈ zs, (Lit.int k n).wf = true

theorem reads_of {k : IntKind} {w : World} {a : Option Addr} {n c : Nat} {zs : List Int} (h : IntsIn k w a n c zs) :
    RowI k w a n (zs.take n) ∧ Reads w w.heap.size 1 a n ((zs.take n).map (Value.int k)) := by
  rcases h with ⟨rfl, rfl, rfl, rfl⟩ | ⟨x, rfl, hl, hm, hz, hc, _⟩
  · exact ⟨⟨rfl, fun h => absurd h (by simp)⟩, Reads.none_⟩
  · have ht : (zs.take n).length = n := by rw [List.length_take]; omega
    refine ⟨⟨ht, fun hn => ?_⟩, by rw [List.length_map, ht, Nat.mul_one], fun hn => ?_⟩
    · obtain ⟨b, off, rfl, hc2⟩ := ints_at hc (by omega)
      refine ⟨b, off, rfl, fun i z hi => ?_⟩
      have hi2 : i < n := by have := (List.getElem?_eq_some_iff.1 hi).1; omega
      rw [hc2 i (by omega)]
      rw [List.getElem?_take_of_lt hi2] at hi
      rw [List.getD_eq_getElem?_getD, hi]; rfl
    · refine ⟨x, rfl, ?_, fun j u hu => ?_⟩
      · have := block_of_cell (hc 0 (by omega))
        rwa [block_of_add] at this
      · rw [List.getElem?_map] at hu
        obtain ⟨z, hz2, rfl⟩ := Option.map_eq_some_iff.1 hu
        have hj : j < n := by have := (List.getElem?_eq_some_iff.1 hz2).1; omega
        rw [hc j (by omega)]
        rw [List.getElem?_take_of_lt hj] at hz2
        rw [List.getD_eq_getElem?_getD, hz2]; rfl

theorem keepG {w0 wr w1 : World} {E B B' : Option Addr} {es : List Ev} {bs bs' : List (List Int)} {a0 a1 a2 a3 a4 a5 a6 a7 : Addr} {v0 v1 v2 v3 v4 v5 v6 v7 : Value} (hb : Below wr.heap.size wr w1)
    (h : wr.cell? a0 = some v0 ∧ wr.cell? a1 = some v1 ∧ wr.cell? a2 = some v2 ∧ wr.cell? a3 = some v3 ∧ wr.cell? a4 = some v4 ∧ wr.cell? a5 = some v5 ∧ wr.cell? a6 = some v6 ∧ wr.cell? a7 = some v7 ∧ LookIn wr E B es bs ∧ LookIn wr E B' es bs' ∧ Below w0.heap.size w0 wr) :
    w1.cell? a0 = some v0 ∧ w1.cell? a1 = some v1 ∧ w1.cell? a2 = some v2 ∧ w1.cell? a3 = some v3 ∧ w1.cell? a4 = some v4 ∧ w1.cell? a5 = some v5 ∧ w1.cell? a6 = some v6 ∧ w1.cell? a7 = some v7 ∧ LookIn w1 E B es bs ∧ LookIn w1 E B' es bs' ∧ Below w0.heap.size w0 w1 :=
  ⟨cell_later hb h.1, cell_later hb h.2.1, cell_later hb h.2.2.1, cell_later hb h.2.2.2.1, cell_later hb h.2.2.2.2.1, cell_later hb h.2.2.2.2.2.1, cell_later hb h.2.2.2.2.2.2.1, cell_later hb h.2.2.2.2.2.2.2.1, h.2.2.2.2.2.2.2.2.1.later hb, h.2.2.2.2.2.2.2.2.2.1.later hb, mmore h.2.2.2.2.2.2.2.2.2.2 hb⟩
theorem bdrewN {B : Nat} {a w : World} (h : Below B a w) (n : Nat) : Below B a (w.drewN n) := ⟨h.os, h.tape, h.output, h.size, h.block⟩
theorem kinds_one {w : World} {g : Nat} {A : Option Addr} {cap : Nat} {l : List Int} (hB : Blk w g 43 #[.slice A l.length cap]) (hI : IntsAt w A l) : KindsAt w (some ⟨g, 0, none⟩) [l] := fun _ => ⟨g, 0, rfl, fun i ks h => by
  match i, h with
  | 0, h => simp at h; subst h; exact ⟨_, hB.cell 0, A, cap, rfl, hI⟩⟩
theorem look_one {w : World} {E : Option Addr} {g : Nat} {A : Option Addr} {cap : Nat} {l : List Int} {es : List Ev} (hB : Blk w g 43 #[.slice A l.length cap]) (hI : IntsAt w A l) (hE : EvsAt w E es) (h1 : es.length ≤ 9223372036854775807) (h2 : ∀ e ∈ es, e.2.2.length ≤ 9223372036854775807) (h3 : l.length * 16 ≤ 281474976710656) : LookIn w E (some ⟨g, 0, none⟩) es [l] :=
  ⟨hE, kinds_one hB hI, h1, h2, by simp, by intro x hx; simp at hx; subst hx; exact h3⟩
theorem one_ints (l : List Int) : ∀ u ∈ l.map (Value.int .i64), u.oneCell' = true := fun u hu => by obtain ⟨z, _, rfl⟩ := List.mem_map.1 hu; rfl
def PairW (p q : Int × Nat) : Value → World → Prop := fun v w => ∃ g, v = .slice (some ⟨g, 0, none⟩) 2 2 ∧ RowV w (some ⟨g, 0, none⟩) 2 [p, q]
theorem pairw_mono (p q : Int × Nat) : G.MonoW (PairW p q) := fun _ _ _ ⟨g, e, h⟩ hb => ⟨g, e, h.later hb⟩
theorem nU_nat {n : Nat} (h : n ≤ 9223372036854775808) : nU (n : Int) = n := by
  have e := nU_eq (n : Int)
  rw [IntKind.wrap_u64] at e
  omega
theorem infoI9 : (Try.prog.info? 3).map (fun i => (i.zero, i.size, i.bytes)) = some (some (.int .i64 0), 1, 8) := by kernel_rfl
set_option maxHeartbeats 4000000 in
theorem walk (w : World) (A0 : Option Addr) (c0 : Nat) (z0 : List Ev) (w0 : EvsAt w A0 z0) (u0 : z0.length ≤ c0) (x0 : c0 ≤ maxLen) (s0 : z0.length * 40 ≤ 140737488351232) (y0 : ∀ e ∈ z0, e.2.2.length * 16 ≤ 140737488351232) (A1 : Option Addr) (n1 c1 : Nat) (z1 : List Int) (w1 : IntsIn .i64 w A1 n1 c1 z1) (s1 : n1 * 8 ≤ 140737488351232) (a2 b2 : Int) (w2 : (Lit.int .i64 a2).wf = true) (x2 : (Lit.int .i64 b2).wf = true) :
    Calls Try.prog 4 #[.slice A0 z0.length c0, .slice A1 n1 c1, .agg #[.int .i64 a2, .int .i64 b2]] w fun e w' => e = .returned (.bool true) ∧ Below w.heap.size w w' := by
  obtain ⟨hR, hRd⟩ := reads_of w1
  have hl1 : (z1.take n1).length = n1 := hR.1
  have hI : IntsAt w A1 (z1.take n1) := fun hp => by
    obtain ⟨b, off, e, hc⟩ := hR.2 (by omega)
    exact ⟨b, off, e, fun i z hi => hc i z hi⟩
  clear hR w1
  generalize z1.take n1 = l at *
  subst hl1
  obtain ⟨i0, hi, hz0, hz1, hz2⟩ := info_parts infoI9
  have hl63 : l.length ≤ 9223372036854775807 := by omega
  have hz63 : z0.length ≤ 9223372036854775807 := by omega
  have hy63 : ∀ e ∈ z0, e.2.2.length ≤ 9223372036854775807 := fun e he => by have := y0 e he; omega
  replace w0 := Lib.hid w0
  replace hI := Lib.hid hI
  replace hRd := Lib.hid hRd
  replace hy63 := Lib.hid hy63
  clear y0 w2 x2 u0 x0
  go_enter Try.func4, Try.ntmps4
  go_wp2_with fail
  have hB0 := Lib.hid (m1 w (.cells #[.int .i64 a2, .int .i64 b2] 44))
  have q0 : (w.alloc (.cells #[.int .i64 a2, .int .i64 b2] 44)).cell? ⟨w.heap.size, 0, none⟩ = some (.int .i64 a2) := by simp [go_sem]
  have q1 : (w.alloc (.cells #[.int .i64 a2, .int .i64 b2] 44)).cell? ⟨w.heap.size, 1, none⟩ = some (.int .i64 b2) := by simp [go_sem]
  go_quiet (fail)
  go_wp2_with fail
  refine (awake9 _).mono ?_; rintro e u1 ⟨rfl, hb1⟩
  have hB1 := Lib.hid (mmore (bdrewN hB0.out _) hb1)
  clear hb1 hB0 q0 q1
  go_upto_region 5 with (fail)
  have hb3 := m2 u1 (.cells #[.slice A1 l.length c1] 43) (lookO A0 (some ⟨u1.heap.size, 0, none⟩) z0.length c0 1 1 0)
  have gk := (Blk.made u1 43 #[.slice A1 l.length c1]).kept (m1 _ (lookO A0 (some ⟨u1.heap.size, 0, none⟩) z0.length c0 1 1 0))
  have gl : Blk ((u1.alloc (.cells #[.slice A1 l.length c1] 43)).alloc (lookO A0 (some ⟨u1.heap.size, 0, none⟩) z0.length c0 1 1 0)) (u1.heap.size + 1) 34 #[.slice A0 z0.length c0, .slice (some ⟨u1.heap.size, 0, none⟩) 1 1, .int .i64 0] := by
    have := Blk.made (u1.alloc (.cells #[.slice A1 l.length c1] 43)) 34 #[.slice A0 z0.length c0, .slice (some ⟨u1.heap.size, 0, none⟩) 1 1, .int .i64 0]
    simpa using this
  have hB3 := mmore hB1.out hb3
  have L1 := look_one gk (hI.out.later hB3) (w0.out.later hB3) hz63 hy63.out (by omega)
  have R3 := Reads.below hRd.out hB3
  have hs : u1.heap.size + 1 + 1 = ((u1.alloc (.cells #[.slice A1 l.length c1] 43)).alloc (lookO A0 (some ⟨u1.heap.size, 0, none⟩) z0.length c0 1 1 0)).heap.size := by simp
  clear hb3 hB1 gk hI hRd
  generalize u1.heap.size = g1 at *
  generalize (u1.alloc (.cells #[.slice A1 l.length c1] 43)).alloc (lookO A0 (some ⟨g1, 0, none⟩) z0.length c0 1 1 0) = u3 at *
  have hO := World.ownsRow_lit (base := u3.heap.size) (e := 3) (size := 1) u3 #[] 0 (Nat.le_refl _) (by decide) rfl
  have hb4 := m1 u3 (.cells #[] 3)
  have R4 := (R3.more hB3.size).alloc (Nat.le_refl _) (.cells #[] 3)
  replace gl := Lib.hid gl
  replace L1 := Lib.hid L1
  replace hB3 := Lib.hid hB3
  clear R3 hs
  have h63 : 0 + l.length ≤ maxLen := by unfold maxLen; omega
  have hby : (0 + l.length) * 8 ≤ 140737488355328 := by omega
  have h63' : l.length + 1 ≤ maxLen := by unfold maxLen; omega
  have hby' : (l.length + 1) * 8 ≤ 140737488355328 := by omega
  go_wp2_with (at_builtin; refine wpList_append_any _ rfl (.tmp 23) (.tmp 24) 43 rfl u3.heap.size 3 i0 (.int .i64 0) 1 8 Try.underlying43 hi hz0 hz1 hz2 rfl (by decide) _ 0 [] rfl hO u3.heap.size A1 l.length c1 (l.map (Value.int .i64)) rfl R4 (one_ints l) h63 hby (by simp) ?_)
  intro v1 u5 hO5 hgrow _
  have hb5 : Below u3.heap.size u3 u5 := hb4.grown hgrow (by simp) (fun g hg => (hO.lt g hg).1)
  replace hb5 := Lib.hid hb5
  clear hO hb4 R4 hgrow
  go_wp2_with (at_builtin; refine wpList_append_own _ rfl (.tmp 25) (.tmp 27) 43 rfl u3.heap.size 3 i0 (.int .i64 0) 1 8 Try.underlying43 hi hz0 hz1 hz2 rfl (by decide) v1 l.length (l.map (Value.int .i64)) rfl (hO5.alloc _) ⟨u5.heap.size, 0, none⟩ 1 1 [.int .i64 a2] rfl rfl ?c1 ?c2 h63' hby' ?c5 ?_)
  case c1 =>
    intro j u hj
    match j, hj with
    | 0, hj => simp at hj; subst hj; simp [Addr.add]
  case c2 => intro u hu; simp at hu; subst hu; rfl
  case c5 => have := hb5.out.size; simp; omega
  intro v2 u6 hO6 hgrow2 _
  have hb6 : Below u3.heap.size u3 u6 := (mmore hb5.out (m1 _ _)).grown hgrow2 (by have := hb5.out.size; simp; omega) (fun g hg => ((hO5.alloc (.cells #[.int .i64 a2] 3)).lt g hg).1)
  have e6 : l.map (Value.int .i64) ++ [.int .i64 a2] = icells (l ++ [a2]) := by unfold icells; rw [List.map_append]; rfl
  rw [e6, show l.length + 1 = (l ++ [a2]).length by simp] at hO6
  obtain ⟨A2, cap2, rfl, hI2⟩ := own_ints hO6
  replace hb6 := Lib.hid hb6
  replace hI2 := Lib.hid hI2
  clear hO6 hO5 hgrow2 hb5 e6 h63 hby h63' hby' hi hz0 hz1 hz2
  go_upto_region 6 with (fail)
  have hn1 : (l ++ [a2]).length = l.length + 1 := by simp
  have hb7 := m2 u6 (.cells #[.slice A2 (l.length + 1) cap2] 43) (lookO A0 (some ⟨u6.heap.size, 0, none⟩) z0.length c0 1 1 a2)
  have gk := (Blk.made u6 43 #[.slice A2 (l.length + 1) cap2]).kept (m1 _ (lookO A0 (some ⟨u6.heap.size, 0, none⟩) z0.length c0 1 1 a2))
  have gl2 : Blk ((u6.alloc (.cells #[.slice A2 (l.length + 1) cap2] 43)).alloc (lookO A0 (some ⟨u6.heap.size, 0, none⟩) z0.length c0 1 1 a2)) (u6.heap.size + 1) 34 #[.slice A0 z0.length c0, .slice (some ⟨u6.heap.size, 0, none⟩) 1 1, .int .i64 a2] := by
    have := Blk.made (u6.alloc (.cells #[.slice A2 (l.length + 1) cap2] 43)) 34 #[.slice A0 z0.length c0, .slice (some ⟨u6.heap.size, 0, none⟩) 1 1, .int .i64 a2]
    simpa using this
  have gk' : Blk ((u6.alloc (.cells #[.slice A2 (l.length + 1) cap2] 43)).alloc (lookO A0 (some ⟨u6.heap.size, 0, none⟩) z0.length c0 1 1 a2)) u6.heap.size 43 #[.slice A2 (l ++ [a2]).length cap2] := by rw [hn1]; exact gk
  have hb37 := mmore hb6.out hb7
  have hB7 := mmore hB3.out hb37
  have L2 := look_one gk' (hI2.out.later hb7) (w0.out.later hB7) hz63 hy63.out (by rw [hn1]; omega)
  have L1' := L1.out.later hb37
  have gl1 := gl.out.kept hb37
  clear hb7 gk gk' hI2 hb6 hb37 hB3 L1 gl w0
  generalize u6.heap.size = g6 at *
  generalize (u6.alloc (.cells #[.slice A2 (l.length + 1) cap2] 43)).alloc (lookO A0 (some ⟨g6, 0, none⟩) z0.length c0 1 1 a2) = u7 at *
  generalize g1 + 1 = g3 at *
  generalize g6 + 1 = g7 at *
  have D41 := do_any9 A0 (some ⟨g6, 0, none⟩) c0 1 a2 z0 [l ++ [a2]] 41 0 b2 u7 (by unfold LeafOp; decide) L2
  have D27 := fun wz (hL : LookIn wz A0 (some ⟨g6, 0, none⟩) z0 [l ++ [a2]]) => do_any9 A0 (some ⟨g6, 0, none⟩) c0 1 a2 z0 [l ++ [a2]] 27 0 b2 wz (by unfold LeafOp; decide) hL
  have D25b := fun wz (hL : LookIn wz A0 (some ⟨g6, 0, none⟩) z0 [l ++ [a2]]) => do_any9 A0 (some ⟨g6, 0, none⟩) c0 1 a2 z0 [l ++ [a2]] 25 0 0 wz (by unfold LeafOp; decide) hL
  have D25a := fun wz (hL : LookIn wz A0 (some ⟨g1, 0, none⟩) z0 [l]) => do_any9 A0 (some ⟨g1, 0, none⟩) c0 1 0 z0 [l] 25 0 0 wz (by unfold LeafOp; decide) hL
  rw [show leafP 41 0 0 0 b2 z0 [l ++ [a2]] a2 = attrP z0 a2 b2 from rfl] at D41
  rw [gr_last] at D27
  rw [gr_count, nU_nat (by rw [hn1]; omega), hn1] at D25b
  rw [gr_count, nU_nat (by omega)] at D25a
  obtain ⟨xk, xb, hx⟩ : ∃ xk xb, attrP z0 a2 b2 = (xk, xb) := ⟨_, _, rfl⟩
  rw [hx] at D41 D27
  replace hx := Lib.hid hx
  replace D41 := Lib.hid D41
  replace D27 := Lib.hid D27
  replace D25b := Lib.hid D25b
  replace D25a := Lib.hid D25a
  have hadd : IntKind.u64.wrap ((l.length : Int) + 1) = (l.length : Int) + 1 := by rw [IntKind.wrap_u64]; omega
  have y0 : u7.cell? ⟨g7, 0, none⟩ = some (.slice A0 z0.length c0) := gl2.cell 0
  have y1 : u7.cell? ⟨g7, 1, none⟩ = some (.slice (some ⟨g6, 0, none⟩) 1 1) := gl2.cell 1
  have y2 : u7.cell? ⟨g7, 2, none⟩ = some (.int .i64 a2) := gl2.cell 2
  replace hadd := Lib.hid hadd
  replace hn1 := Lib.hid hn1
  have hev := eqV
  have hnv : ∀ (k l b c : Int) (w : World), (binOp .neq 25 (.agg #[.int .i64 k, .int .u64 b]) (.agg #[.int .i64 l, .int .u64 c])).run Try.prog w = .ok (.bool (!decide (k = l ∧ b = c))) w := fun k l b c w => by
    by_cases h1 : k = l <;> by_cases h2 : b = c <;> simp [go_sem, h1, h2]
  have hf0 := fld0
  have hf1 := fld1
  go_wp2_with fail
  refine D41.out.mono ?_; rintro e u8 ⟨rfl, hb8⟩
  have gl1 := gl1.kept hb8
  have gl2 := gl2.kept hb8
  have L1 := L1'.later hb8
  have L2 := L2.later hb8
  have hB := mmore hB7 hb8
  clear D41 L1' hB7 hb8 y0 y1 y2
  go_upto_region 7 with (fail)
  have hb9 := m1 u8 (.cells #[.int .i64 xk, .int .u64 (xb : Int)] 25)
  have gx := Blk.made u8 25 #[.int .i64 xk, .int .u64 (xb : Int)]
  replace gl1 := gl1.kept hb9
  replace gl2 := gl2.kept hb9
  replace L1 := L1.later hb9.drew
  replace L2 := L2.later hb9.drew
  replace hB := (mmore hB hb9).drew
  clear hb9
  generalize u8.alloc (.cells #[.int .i64 xk, .int .u64 (xb : Int)] 25) = u9 at *
  generalize u8.heap.size = g8 at *
  have z0' : u9.drew.cell? ⟨g3, 0, none⟩ = some (.slice A0 z0.length c0) := gl1.cell 0
  have z1' : u9.drew.cell? ⟨g3, 1, none⟩ = some (.slice (some ⟨g1, 0, none⟩) 1 1) := gl1.cell 1
  have z2' : u9.drew.cell? ⟨g3, 2, none⟩ = some (.int .i64 0) := gl1.cell 2
  have z3' : u9.drew.cell? ⟨g7, 0, none⟩ = some (.slice A0 z0.length c0) := gl2.cell 0
  have z4' : u9.drew.cell? ⟨g7, 1, none⟩ = some (.slice (some ⟨g6, 0, none⟩) 1 1) := gl2.cell 1
  have z5' : u9.drew.cell? ⟨g7, 2, none⟩ = some (.int .i64 a2) := gl2.cell 2
  have z6' : u9.drew.cell? ⟨g8, 0, none⟩ = some (.int .i64 xk) := gx.cell 0
  have z7' : u9.drew.cell? ⟨g8, 1, none⟩ = some (.int .u64 (xb : Int)) := gx.cell 1
  replace hadd := hadd.out
  clear gl1 gl2 gx
  have KD := G.keepsD_true []
  refine G.region_words (fun w' => w'.cell? ⟨g3, 0, none⟩ = some (.slice A0 z0.length c0) ∧ w'.cell? ⟨g3, 1, none⟩ = some (.slice (some ⟨g1, 0, none⟩) 1 1) ∧ w'.cell? ⟨g3, 2, none⟩ = some (.int .i64 0) ∧ w'.cell? ⟨g7, 0, none⟩ = some (.slice A0 z0.length c0) ∧ w'.cell? ⟨g7, 1, none⟩ = some (.slice (some ⟨g6, 0, none⟩) 1 1) ∧ w'.cell? ⟨g7, 2, none⟩ = some (.int .i64 a2) ∧ w'.cell? ⟨g8, 0, none⟩ = some (.int .i64 xk) ∧ w'.cell? ⟨g8, 1, none⟩ = some (.int .u64 (xb : Int)) ∧ LookIn w' A0 (some ⟨g1, 0, none⟩) z0 [l] ∧ LookIn w' A0 (some ⟨g6, 0, none⟩) z0 [l ++ [a2]] ∧ Below w.heap.size w w') [G.isW (.int .i64 b2), G.isW (lookV A0 (some ⟨g6, 0, none⟩) z0.length c0 1 1 a2), G.isW (.agg #[.int .i64 xk, .int .u64 (xb : Int)]), G.isW (.agg #[.int .i64 xk, .int .u64 (xb : Int)]), G.isW (.bool false), G.isW (.bool false), G.isW (lookV A0 (some ⟨g6, 0, none⟩) z0.length c0 1 1 a2), G.isW (.agg #[.int .i64 1, .int .u64 ((l.length : Int) + 1)]), G.isW (.int .u64 ((l.length : Int) + 1)), G.isW (lookV A0 (some ⟨g1, 0, none⟩) z0.length c0 1 1 0), G.isW (.agg #[.int .i64 1, .int .u64 (l.length : Int)]), G.isW (.int .u64 (l.length : Int)), G.isW (.int .u64 ((l.length : Int) + 1)), G.isW (.bool false), G.isW (.bool false)] (by kernel_rfl) (by repeat' (first | exact G.monoL_nil | exact G.is_mono _ | exact G.any_mono | refine G.monoL_cons ?_ ?_)) (by kernel_rfl) (by kernel_rfl) (fun _ _ h hb => keepG hb h) ⟨z0', z1', z2', z3', z4', z5', z6', z7', L1, L2, hB⟩ ?_ ?_
  · intro KC
    refine G.stepsL_cons (fun a u hc hdd hd hk hdep => ?_) ?_
    ·
      have d8 : (a.tmps[8]?).getD undef = (.int .i64 b2) := hk 8 (by kernel_rfl)
      refine G.step_val KC KD hc hdd rfl (.int .i64 b2) u (G.wanted_plain rfl) ?_ rfl (Below.refl _ _)
      first | (go_simp; done) | rfl | (simp [go_sem, *]; done)
    refine G.stepsL_cons (fun a u hc hdd hd hk hdep => ?_) ?_
    ·
      have d10 : (a.tmps[10]?).getD undef = (.pointer (some ⟨g7, 0, none⟩)) := hk 10 (by kernel_rfl)
      refine G.step_val KC KD hc hdd rfl (lookV A0 (some ⟨g6, 0, none⟩) z0.length c0 1 1 a2) u (G.wanted_plain rfl) ?_ rfl (Below.refl _ _)
      obtain ⟨s0, s1, s2, s3, s4, s5, s6, s7, -, -, -⟩ := hc
      first | (go_simp; done) | rfl | (simp [go_sem, *]; done)
    refine G.stepsL_cons (fun a u hc hdd hd hk hdep => ?_) ?_
    ·
      have d35 : (a.tmps[35]?).getD undef = (.int .i64 b2) := hdep ⟨0, .data⟩ (by simp) rfl
      have d36 : (a.tmps[36]?).getD undef = (lookV A0 (some ⟨g6, 0, none⟩) z0.length c0 1 1 a2) := hdep ⟨1, .data⟩ (by simp) rfl
      refine G.step_call KC KD hc hdd rfl 14 #[.int .i64 27, .int .i64 0, (.int .i64 b2), (lookV A0 (some ⟨g6, 0, none⟩) z0.length c0 1 1 a2)] (G.wanted_plain rfl) (by first | (go_simp; done) | rfl) ?_
      exact (D27.out u hc.2.2.2.2.2.2.2.2.2.1).mono (by rintro e w' ⟨rfl, hb⟩; exact ⟨_, rfl, rfl, hb⟩)
    refine G.stepsL_cons (fun a u hc hdd hd hk hdep => ?_) ?_
    ·
      have d11 : (a.tmps[11]?).getD undef = (.pointer (some ⟨g8, 0, none⟩)) := hk 11 (by kernel_rfl)
      refine G.step_val KC KD hc hdd rfl (.agg #[.int .i64 xk, .int .u64 (xb : Int)]) u (G.wanted_plain rfl) ?_ rfl (Below.refl _ _)
      obtain ⟨s0, s1, s2, s3, s4, s5, s6, s7, -, -, -⟩ := hc
      first | (go_simp; done) | rfl | (simp [go_sem, *]; done)
    refine G.stepsL_cons (fun a u hc hdd hd hk hdep => ?_) ?_
    ·
      have d37 : (a.tmps[37]?).getD undef = (.agg #[.int .i64 xk, .int .u64 (xb : Int)]) := hdep ⟨2, .data⟩ (by simp) rfl
      have d38 : (a.tmps[38]?).getD undef = (.agg #[.int .i64 xk, .int .u64 (xb : Int)]) := hdep ⟨3, .data⟩ (by simp) rfl
      refine G.step_val KC KD hc hdd rfl (.bool false) u (G.wanted_plain rfl) ?_ rfl (Below.refl _ _)
      first | (go_simp; done) | rfl | (simp [go_sem, *]; done)
    refine G.stepsL_cons (fun a u hc hdd hd hk hdep => ?_) ?_
    ·
      have d39 : (a.tmps[39]?).getD undef = (.bool false) := hdep ⟨4, .data⟩ (by simp) rfl
      refine G.step_val KC KD hc hdd rfl (.bool false) u (G.wanted_plain rfl) ?_ rfl (Below.refl _ _)
      first | (go_simp; done) | rfl | (simp [go_sem, *]; done)
    refine G.stepsL_cons (fun a u hc hdd hd hk hdep => ?_) ?_
    ·
      have d10 : (a.tmps[10]?).getD undef = (.pointer (some ⟨g7, 0, none⟩)) := hk 10 (by kernel_rfl)
      refine G.step_val KC KD hc hdd rfl (lookV A0 (some ⟨g6, 0, none⟩) z0.length c0 1 1 a2) u ((G.wanted_guard (j := 5) (b := false) (c := false) rfl (hdep ⟨5, .guard⟩ (by simp) rfl)).trans rfl) ?_ rfl (Below.refl _ _)
      obtain ⟨s0, s1, s2, s3, s4, s5, s6, s7, -, -, -⟩ := hc
      first | (go_simp; done) | rfl | (simp [go_sem, *]; done)
    refine G.stepsL_cons (fun a u hc hdd hd hk hdep => ?_) ?_
    ·
      have d41 : (a.tmps[41]?).getD undef = (lookV A0 (some ⟨g6, 0, none⟩) z0.length c0 1 1 a2) := hdep ⟨6, .data⟩ (by simp) rfl
      refine G.step_call KC KD hc hdd rfl 14 #[.int .i64 25, .int .i64 0, (.int .i64 0), (lookV A0 (some ⟨g6, 0, none⟩) z0.length c0 1 1 a2)] ((G.wanted_guard (j := 5) (b := false) (c := false) rfl (hdep ⟨5, .chain⟩ (by simp) rfl)).trans rfl) (by first | (go_simp; done) | rfl) ?_
      exact (D25b.out u hc.2.2.2.2.2.2.2.2.2.1).mono (by rintro e w' ⟨rfl, hb⟩; exact ⟨_, rfl, rfl, hb⟩)
    refine G.stepsL_cons (fun a u hc hdd hd hk hdep => ?_) ?_
    ·
      have d42 : (a.tmps[42]?).getD undef = (.agg #[.int .i64 1, .int .u64 ((l.length : Int) + 1)]) := hdep ⟨7, .data⟩ (by simp) rfl
      refine G.step_val KC KD hc hdd rfl (.int .u64 ((l.length : Int) + 1)) u ((G.wanted_guard (j := 5) (b := false) (c := false) rfl (hdep ⟨5, .guard⟩ (by simp) rfl)).trans rfl) ?_ rfl (Below.refl _ _)
      first | (go_simp; done) | rfl | (simp [go_sem, *]; done)
    refine G.stepsL_cons (fun a u hc hdd hd hk hdep => ?_) ?_
    ·
      have d9 : (a.tmps[9]?).getD undef = (.pointer (some ⟨g3, 0, none⟩)) := hk 9 (by kernel_rfl)
      refine G.step_val KC KD hc hdd rfl (lookV A0 (some ⟨g1, 0, none⟩) z0.length c0 1 1 0) u ((G.wanted_guard (j := 5) (b := false) (c := false) rfl (hdep ⟨5, .guard⟩ (by simp) rfl)).trans rfl) ?_ rfl (Below.refl _ _)
      obtain ⟨s0, s1, s2, s3, s4, s5, s6, s7, -, -, -⟩ := hc
      first | (go_simp; done) | rfl | (simp [go_sem, *]; done)
    refine G.stepsL_cons (fun a u hc hdd hd hk hdep => ?_) ?_
    ·
      have d44 : (a.tmps[44]?).getD undef = (lookV A0 (some ⟨g1, 0, none⟩) z0.length c0 1 1 0) := hdep ⟨9, .data⟩ (by simp) rfl
      refine G.step_call KC KD hc hdd rfl 14 #[.int .i64 25, .int .i64 0, (.int .i64 0), (lookV A0 (some ⟨g1, 0, none⟩) z0.length c0 1 1 0)] ((G.wanted_guard (j := 5) (b := false) (c := false) rfl (hdep ⟨5, .guard⟩ (by simp) rfl)).trans rfl) (by first | (go_simp; done) | rfl) ?_
      exact (D25a.out u hc.2.2.2.2.2.2.2.2.1).mono (by rintro e w' ⟨rfl, hb⟩; exact ⟨_, rfl, rfl, hb⟩)
    refine G.stepsL_cons (fun a u hc hdd hd hk hdep => ?_) ?_
    ·
      have d45 : (a.tmps[45]?).getD undef = (.agg #[.int .i64 1, .int .u64 (l.length : Int)]) := hdep ⟨10, .data⟩ (by simp) rfl
      refine G.step_val KC KD hc hdd rfl (.int .u64 (l.length : Int)) u ((G.wanted_guard (j := 5) (b := false) (c := false) rfl (hdep ⟨5, .guard⟩ (by simp) rfl)).trans rfl) ?_ rfl (Below.refl _ _)
      first | (go_simp; done) | rfl | (simp [go_sem, *]; done)
    refine G.stepsL_cons (fun a u hc hdd hd hk hdep => ?_) ?_
    ·
      have d46 : (a.tmps[46]?).getD undef = (.int .u64 (l.length : Int)) := hdep ⟨11, .data⟩ (by simp) rfl
      refine G.step_val KC KD hc hdd rfl (.int .u64 ((l.length : Int) + 1)) u ((G.wanted_guard (j := 5) (b := false) (c := false) rfl (hdep ⟨5, .guard⟩ (by simp) rfl)).trans rfl) ?_ rfl (Below.refl _ _)
      first | (go_simp; done) | rfl | (simp [go_sem, *]; done)
    refine G.stepsL_cons (fun a u hc hdd hd hk hdep => ?_) ?_
    ·
      have d43 : (a.tmps[43]?).getD undef = (.int .u64 ((l.length : Int) + 1)) := hdep ⟨8, .data⟩ (by simp) rfl
      have d47 : (a.tmps[47]?).getD undef = (.int .u64 ((l.length : Int) + 1)) := hdep ⟨12, .data⟩ (by simp) rfl
      refine G.step_val KC KD hc hdd rfl (.bool false) u ((G.wanted_guard (j := 5) (b := false) (c := false) rfl (hdep ⟨5, .guard⟩ (by simp) rfl)).trans rfl) ?_ rfl (Below.refl _ _)
      first | (go_simp; done) | rfl | (simp [go_sem, *]; done)
    refine G.stepsL_cons (fun a u hc hdd hd hk hdep => ?_) ?_
    ·
      have d40 : (a.tmps[40]?).getD undef = (.bool false) := hdep ⟨5, .data⟩ (by simp) rfl
      have d48 : (a.tmps[48]?).getD undef = (.bool false) := hdep ⟨13, .data⟩ (by simp) rfl
      refine G.step_val KC KD hc hdd rfl (.bool false) u (G.wanted_plain rfl) ?_ rfl (Below.refl _ _)
      first | (go_simp; done) | rfl | (simp [go_sem, *]; done)
    exact G.stepsL_nil
  intro vs' wN hN hh
  have eL : vs' 14 = (.bool false) := by
    obtain ⟨-, -, -, -, -, -, -, -, -, -, -, -, -, -, eX, -⟩ := hh
    exact eX
  clear hh
  set_option maxRecDepth 100000 in simp only [List.take_succ_cons, List.take_zero, putAll, Act.put, List.setIfInBounds_toArray, List.set_cons_zero, List.set_cons_succ, Nat.reduceAdd, eL]
  obtain ⟨z0', z1', z2', z3', z4', z5', z6', z7', L1, L2, hB⟩ := hN
  clear D27 D25a D25b
  by_cases hl0 : l.length = 0
  · obtain rfl : l = [] := List.eq_nil_of_length_eq_zero hl0
    have E26 := Lib.hid (fun wz (hL : LookIn wz A0 (some ⟨g6, 0, none⟩) z0 [[] ++ [a2]]) => do_any9 A0 (some ⟨g6, 0, none⟩) c0 1 a2 z0 [[] ++ [a2]] 26 0 b2 wz (by unfold LeafOp; decide) hL)
    have E28 := Lib.hid (fun wz (hL : LookIn wz A0 (some ⟨g6, 0, none⟩) z0 [[] ++ [a2]]) => do_any9 A0 (some ⟨g6, 0, none⟩) c0 1 a2 z0 [[] ++ [a2]] 28 0 b2 wz (by unfold LeafOp; decide) hL)
    have E0 := Lib.hid (fun wz (hL : LookIn wz A0 (some ⟨g1, 0, none⟩) z0 [[]]) => do_any9 A0 (some ⟨g1, 0, none⟩) c0 1 0 z0 [[]] 26 0 b2 wz (by unfold LeafOp; decide) hL)
    rw [show leafP 26 0 0 0 b2 z0 [[] ++ [a2]] a2 = (xk, xb) from hx.out] at E26
    rw [show leafP 28 0 0 0 b2 z0 [[] ++ [a2]] a2 = (xk, xb) from hx.out] at E28
    rw [gr_none] at E0
    simp only [List.length_nil] at *
    go_wp2_with fail
    have KD := G.keepsD_true []
    refine G.region_words (fun w' => w'.cell? ⟨g3, 0, none⟩ = some (.slice A0 z0.length c0) ∧ w'.cell? ⟨g3, 1, none⟩ = some (.slice (some ⟨g1, 0, none⟩) 1 1) ∧ w'.cell? ⟨g3, 2, none⟩ = some (.int .i64 0) ∧ w'.cell? ⟨g7, 0, none⟩ = some (.slice A0 z0.length c0) ∧ w'.cell? ⟨g7, 1, none⟩ = some (.slice (some ⟨g6, 0, none⟩) 1 1) ∧ w'.cell? ⟨g7, 2, none⟩ = some (.int .i64 a2) ∧ w'.cell? ⟨g8, 0, none⟩ = some (.int .i64 xk) ∧ w'.cell? ⟨g8, 1, none⟩ = some (.int .u64 (xb : Int)) ∧ LookIn w' A0 (some ⟨g1, 0, none⟩) z0 [[]] ∧ LookIn w' A0 (some ⟨g6, 0, none⟩) z0 [[] ++ [a2]] ∧ Below w.heap.size w w') [G.isW (.int .i64 b2), G.isW (lookV A0 (some ⟨g6, 0, none⟩) z0.length c0 1 1 a2), G.isW (.agg #[.int .i64 xk, .int .u64 (xb : Int)]), G.isW (.agg #[.int .i64 xk, .int .u64 (xb : Int)]), G.isW (.bool true), G.isW (.bool true), G.isW (.int .i64 b2), G.isW (lookV A0 (some ⟨g6, 0, none⟩) z0.length c0 1 1 a2), G.isW (.agg #[.int .i64 xk, .int .u64 (xb : Int)]), G.isW (.agg #[.int .i64 xk, .int .u64 (xb : Int)]), G.isW (.bool true), G.isW (.bool true), G.isW (.bool true), G.isW (.int .i64 b2), G.isW (lookV A0 (some ⟨g1, 0, none⟩) z0.length c0 1 1 0), G.isW (.agg #[.int .i64 0, .int .u64 0]), G.isW (.int .i64 0), G.isW (.bool true), G.isW (.bool true), G.isW (.bool true)] (by kernel_rfl) (by repeat' (first | exact G.monoL_nil | exact G.is_mono _ | exact G.any_mono | refine G.monoL_cons ?_ ?_)) (by kernel_rfl) (by kernel_rfl) (fun _ _ h hb => keepG hb h) ⟨z0', z1', z2', z3', z4', z5', z6', z7', L1, L2, hB.drew⟩ ?_ ?_
    · intro KC
      refine G.stepsL_cons (fun a u hc hdd hd hk hdep => ?_) ?_
      ·
        have d8 : (a.tmps[8]?).getD undef = (.int .i64 b2) := hk 8 (by kernel_rfl)
        refine G.step_val KC KD hc hdd rfl (.int .i64 b2) u (G.wanted_plain rfl) ?_ rfl (Below.refl _ _)
        first | (go_simp; done) | rfl | (simp [go_sem, *]; done)
      refine G.stepsL_cons (fun a u hc hdd hd hk hdep => ?_) ?_
      ·
        have d10 : (a.tmps[10]?).getD undef = (.pointer (some ⟨g7, 0, none⟩)) := hk 10 (by kernel_rfl)
        refine G.step_val KC KD hc hdd rfl (lookV A0 (some ⟨g6, 0, none⟩) z0.length c0 1 1 a2) u (G.wanted_plain rfl) ?_ rfl (Below.refl _ _)
        obtain ⟨s0, s1, s2, s3, s4, s5, s6, s7, -, -, -⟩ := hc
        first | (go_simp; done) | rfl | (simp [go_sem, *]; done)
      refine G.stepsL_cons (fun a u hc hdd hd hk hdep => ?_) ?_
      ·
        have d53 : (a.tmps[53]?).getD undef = (.int .i64 b2) := hdep ⟨0, .data⟩ (by simp) rfl
        have d54 : (a.tmps[54]?).getD undef = (lookV A0 (some ⟨g6, 0, none⟩) z0.length c0 1 1 a2) := hdep ⟨1, .data⟩ (by simp) rfl
        refine G.step_call KC KD hc hdd rfl 14 #[.int .i64 26, .int .i64 0, (.int .i64 b2), (lookV A0 (some ⟨g6, 0, none⟩) z0.length c0 1 1 a2)] (G.wanted_plain rfl) (by first | (go_simp; done) | rfl) ?_
        exact (E26.out u hc.2.2.2.2.2.2.2.2.2.1).mono (by rintro e w' ⟨rfl, hb⟩; exact ⟨_, rfl, rfl, hb⟩)
      refine G.stepsL_cons (fun a u hc hdd hd hk hdep => ?_) ?_
      ·
        have d11 : (a.tmps[11]?).getD undef = (.pointer (some ⟨g8, 0, none⟩)) := hk 11 (by kernel_rfl)
        refine G.step_val KC KD hc hdd rfl (.agg #[.int .i64 xk, .int .u64 (xb : Int)]) u (G.wanted_plain rfl) ?_ rfl (Below.refl _ _)
        obtain ⟨s0, s1, s2, s3, s4, s5, s6, s7, -, -, -⟩ := hc
        first | (go_simp; done) | rfl | (simp [go_sem, *]; done)
      refine G.stepsL_cons (fun a u hc hdd hd hk hdep => ?_) ?_
      ·
        have d55 : (a.tmps[55]?).getD undef = (.agg #[.int .i64 xk, .int .u64 (xb : Int)]) := hdep ⟨2, .data⟩ (by simp) rfl
        have d56 : (a.tmps[56]?).getD undef = (.agg #[.int .i64 xk, .int .u64 (xb : Int)]) := hdep ⟨3, .data⟩ (by simp) rfl
        refine G.step_val KC KD hc hdd rfl (.bool true) u (G.wanted_plain rfl) ?_ rfl (Below.refl _ _)
        first | (go_simp; done) | rfl | (simp [go_sem, *]; done)
      refine G.stepsL_cons (fun a u hc hdd hd hk hdep => ?_) ?_
      ·
        have d57 : (a.tmps[57]?).getD undef = (.bool true) := hdep ⟨4, .data⟩ (by simp) rfl
        refine G.step_val KC KD hc hdd rfl (.bool true) u (G.wanted_plain rfl) ?_ rfl (Below.refl _ _)
        first | (go_simp; done) | rfl | (simp [go_sem, *]; done)
      refine G.stepsL_cons (fun a u hc hdd hd hk hdep => ?_) ?_
      ·
        have d8 : (a.tmps[8]?).getD undef = (.int .i64 b2) := hk 8 (by kernel_rfl)
        refine G.step_val KC KD hc hdd rfl (.int .i64 b2) u ((G.wanted_guard (j := 5) (b := true) (c := true) rfl (hdep ⟨5, .guard⟩ (by simp) rfl)).trans rfl) ?_ rfl (Below.refl _ _)
        first | (go_simp; done) | rfl | (simp [go_sem, *]; done)
      refine G.stepsL_cons (fun a u hc hdd hd hk hdep => ?_) ?_
      ·
        have d10 : (a.tmps[10]?).getD undef = (.pointer (some ⟨g7, 0, none⟩)) := hk 10 (by kernel_rfl)
        refine G.step_val KC KD hc hdd rfl (lookV A0 (some ⟨g6, 0, none⟩) z0.length c0 1 1 a2) u ((G.wanted_guard (j := 5) (b := true) (c := true) rfl (hdep ⟨5, .guard⟩ (by simp) rfl)).trans rfl) ?_ rfl (Below.refl _ _)
        obtain ⟨s0, s1, s2, s3, s4, s5, s6, s7, -, -, -⟩ := hc
        first | (go_simp; done) | rfl | (simp [go_sem, *]; done)
      refine G.stepsL_cons (fun a u hc hdd hd hk hdep => ?_) ?_
      ·
        have d59 : (a.tmps[59]?).getD undef = (.int .i64 b2) := hdep ⟨6, .data⟩ (by simp) rfl
        have d60 : (a.tmps[60]?).getD undef = (lookV A0 (some ⟨g6, 0, none⟩) z0.length c0 1 1 a2) := hdep ⟨7, .data⟩ (by simp) rfl
        refine G.step_call KC KD hc hdd rfl 14 #[.int .i64 28, .int .i64 0, (.int .i64 b2), (lookV A0 (some ⟨g6, 0, none⟩) z0.length c0 1 1 a2)] ((G.wanted_guard (j := 5) (b := true) (c := true) rfl (hdep ⟨5, .chain⟩ (by simp) rfl)).trans rfl) (by first | (go_simp; done) | rfl) ?_
        exact (E28.out u hc.2.2.2.2.2.2.2.2.2.1).mono (by rintro e w' ⟨rfl, hb⟩; exact ⟨_, rfl, rfl, hb⟩)
      refine G.stepsL_cons (fun a u hc hdd hd hk hdep => ?_) ?_
      ·
        have d11 : (a.tmps[11]?).getD undef = (.pointer (some ⟨g8, 0, none⟩)) := hk 11 (by kernel_rfl)
        refine G.step_val KC KD hc hdd rfl (.agg #[.int .i64 xk, .int .u64 (xb : Int)]) u ((G.wanted_guard (j := 5) (b := true) (c := true) rfl (hdep ⟨5, .guard⟩ (by simp) rfl)).trans rfl) ?_ rfl (Below.refl _ _)
        obtain ⟨s0, s1, s2, s3, s4, s5, s6, s7, -, -, -⟩ := hc
        first | (go_simp; done) | rfl | (simp [go_sem, *]; done)
      refine G.stepsL_cons (fun a u hc hdd hd hk hdep => ?_) ?_
      ·
        have d61 : (a.tmps[61]?).getD undef = (.agg #[.int .i64 xk, .int .u64 (xb : Int)]) := hdep ⟨8, .data⟩ (by simp) rfl
        have d62 : (a.tmps[62]?).getD undef = (.agg #[.int .i64 xk, .int .u64 (xb : Int)]) := hdep ⟨9, .data⟩ (by simp) rfl
        refine G.step_val KC KD hc hdd rfl (.bool true) u ((G.wanted_guard (j := 5) (b := true) (c := true) rfl (hdep ⟨5, .guard⟩ (by simp) rfl)).trans rfl) ?_ rfl (Below.refl _ _)
        first | (go_simp; done) | rfl | (simp [go_sem, *]; done)
      refine G.stepsL_cons (fun a u hc hdd hd hk hdep => ?_) ?_
      ·
        have d58 : (a.tmps[58]?).getD undef = (.bool true) := hdep ⟨5, .data⟩ (by simp) rfl
        have d63 : (a.tmps[63]?).getD undef = (.bool true) := hdep ⟨10, .data⟩ (by simp) rfl
        refine G.step_val KC KD hc hdd rfl (.bool true) u (G.wanted_plain rfl) ?_ rfl (Below.refl _ _)
        first | (go_simp; done) | rfl | (simp [go_sem, *]; done)
      refine G.stepsL_cons (fun a u hc hdd hd hk hdep => ?_) ?_
      ·
        have d64 : (a.tmps[64]?).getD undef = (.bool true) := hdep ⟨11, .data⟩ (by simp) rfl
        refine G.step_val KC KD hc hdd rfl (.bool true) u (G.wanted_plain rfl) ?_ rfl (Below.refl _ _)
        first | (go_simp; done) | rfl | (simp [go_sem, *]; done)
      refine G.stepsL_cons (fun a u hc hdd hd hk hdep => ?_) ?_
      ·
        have d8 : (a.tmps[8]?).getD undef = (.int .i64 b2) := hk 8 (by kernel_rfl)
        refine G.step_val KC KD hc hdd rfl (.int .i64 b2) u ((G.wanted_guard (j := 12) (b := true) (c := true) rfl (hdep ⟨12, .guard⟩ (by simp) rfl)).trans rfl) ?_ rfl (Below.refl _ _)
        first | (go_simp; done) | rfl | (simp [go_sem, *]; done)
      refine G.stepsL_cons (fun a u hc hdd hd hk hdep => ?_) ?_
      ·
        have d9 : (a.tmps[9]?).getD undef = (.pointer (some ⟨g3, 0, none⟩)) := hk 9 (by kernel_rfl)
        refine G.step_val KC KD hc hdd rfl (lookV A0 (some ⟨g1, 0, none⟩) z0.length c0 1 1 0) u ((G.wanted_guard (j := 12) (b := true) (c := true) rfl (hdep ⟨12, .guard⟩ (by simp) rfl)).trans rfl) ?_ rfl (Below.refl _ _)
        obtain ⟨s0, s1, s2, s3, s4, s5, s6, s7, -, -, -⟩ := hc
        first | (go_simp; done) | rfl | (simp [go_sem, *]; done)
      refine G.stepsL_cons (fun a u hc hdd hd hk hdep => ?_) ?_
      ·
        have d66 : (a.tmps[66]?).getD undef = (.int .i64 b2) := hdep ⟨13, .data⟩ (by simp) rfl
        have d67 : (a.tmps[67]?).getD undef = (lookV A0 (some ⟨g1, 0, none⟩) z0.length c0 1 1 0) := hdep ⟨14, .data⟩ (by simp) rfl
        refine G.step_call KC KD hc hdd rfl 14 #[.int .i64 26, .int .i64 0, (.int .i64 b2), (lookV A0 (some ⟨g1, 0, none⟩) z0.length c0 1 1 0)] ((G.wanted_guard (j := 12) (b := true) (c := true) rfl (hdep ⟨12, .chain⟩ (by simp) rfl)).trans rfl) (by first | (go_simp; done) | rfl) ?_
        exact (E0.out u hc.2.2.2.2.2.2.2.2.1).mono (by rintro e w' ⟨rfl, hb⟩; exact ⟨_, rfl, rfl, hb⟩)
      refine G.stepsL_cons (fun a u hc hdd hd hk hdep => ?_) ?_
      ·
        have d68 : (a.tmps[68]?).getD undef = (.agg #[.int .i64 0, .int .u64 0]) := hdep ⟨15, .data⟩ (by simp) rfl
        refine G.step_val KC KD hc hdd rfl (.int .i64 0) u ((G.wanted_guard (j := 12) (b := true) (c := true) rfl (hdep ⟨12, .guard⟩ (by simp) rfl)).trans rfl) ?_ rfl (Below.refl _ _)
        first | (go_simp; done) | rfl | (simp [go_sem, *]; done)
      refine G.stepsL_cons (fun a u hc hdd hd hk hdep => ?_) ?_
      ·
        have d69 : (a.tmps[69]?).getD undef = (.int .i64 0) := hdep ⟨16, .data⟩ (by simp) rfl
        refine G.step_val KC KD hc hdd rfl (.bool true) u ((G.wanted_guard (j := 12) (b := true) (c := true) rfl (hdep ⟨12, .guard⟩ (by simp) rfl)).trans rfl) ?_ rfl (Below.refl _ _)
        first | (go_simp; done) | rfl | (simp [go_sem, *]; done)
      refine G.stepsL_cons (fun a u hc hdd hd hk hdep => ?_) ?_
      ·
        have d65 : (a.tmps[65]?).getD undef = (.bool true) := hdep ⟨12, .data⟩ (by simp) rfl
        have d70 : (a.tmps[70]?).getD undef = (.bool true) := hdep ⟨17, .data⟩ (by simp) rfl
        refine G.step_val KC KD hc hdd rfl (.bool true) u (G.wanted_plain rfl) ?_ rfl (Below.refl _ _)
        first | (go_simp; done) | rfl | (simp [go_sem, *]; done)
      refine G.stepsL_cons (fun a u hc hdd hd hk hdep => ?_) ?_
      ·
        have d71 : (a.tmps[71]?).getD undef = (.bool true) := hdep ⟨18, .data⟩ (by simp) rfl
        refine G.step_val KC KD hc hdd rfl (.bool true) u (G.wanted_plain rfl) ?_ rfl (Below.refl _ _)
        first | (go_simp; done) | rfl | (simp [go_sem, *]; done)
      exact G.stepsL_nil
    intro vs' wN hN hh
    have eL : vs' 19 = (.bool true) := by
      obtain ⟨-, -, -, -, -, -, -, -, -, -, -, -, -, -, -, -, -, -, -, eX, -⟩ := hh
      exact eX
    clear hh
    set_option maxRecDepth 100000 in simp only [List.take_succ_cons, List.take_zero, putAll, Act.put, List.setIfInBounds_toArray, List.set_cons_zero, List.set_cons_succ, Nat.reduceAdd, eL]
    obtain ⟨-, -, -, -, -, -, -, -, -, -, hB⟩ := hN
    go_wp2
    go_ret
    exact ⟨rfl, hB⟩
  · have hne : l ≠ [] := fun h => hl0 (by rw [h]; rfl)
    have E26 := Lib.hid (fun wz (hL : LookIn wz A0 (some ⟨g6, 0, none⟩) z0 [l ++ [a2]]) => do_any9 A0 (some ⟨g6, 0, none⟩) c0 1 a2 z0 [l ++ [a2]] 26 0 b2 wz (by unfold LeafOp; decide) hL)
    have E28 := Lib.hid (fun wz (hL : LookIn wz A0 (some ⟨g6, 0, none⟩) z0 [l ++ [a2]]) => do_any9 A0 (some ⟨g6, 0, none⟩) c0 1 a2 z0 [l ++ [a2]] 28 0 b2 wz (by unfold LeafOp; decide) hL)
    have F26 := Lib.hid (fun wz (hL : LookIn wz A0 (some ⟨g1, 0, none⟩) z0 [l]) => do_any9 A0 (some ⟨g1, 0, none⟩) c0 1 0 z0 [l] 26 0 b2 wz (by unfold LeafOp; decide) hL)
    have F28 := Lib.hid (fun wz (hL : LookIn wz A0 (some ⟨g1, 0, none⟩) z0 [l]) => do_any9 A0 (some ⟨g1, 0, none⟩) c0 1 0 z0 [l] 28 0 b2 wz (by unfold LeafOp; decide) hL)
    rw [gr_first z0 l a2 b2 a2 0 hne] at E26
    rw [gr_sum z0 l a2 b2 a2 0 hne, hx.out] at E28
    have hsl : (leafP 28 0 0 0 b2 z0 [l] 0).2 < 18446744073709551616 := by
      rw [gr_ag 28 (by decide), if_neg hne]
      show (sumP _).2 < _
      exact sumP_lt w (fun v hv => by unfold attrsP at hv; obtain ⟨z, _, rfl⟩ := List.mem_map.1 hv; exact attrP_lt L1.1 z b2)
    have hxl : xb < 18446744073709551616 := by
      have := attrP_lt L1.1 a2 b2
      rw [hx.out] at this
      exact this
    generalize leafP 26 0 0 0 b2 z0 [l] 0 = f at *
    generalize leafP 28 0 0 0 b2 z0 [l] 0 = sm at *
    obtain ⟨fk, fb⟩ := f
    obtain ⟨sk, sb⟩ := sm
    simp only at hsl E28
    have AP := Lib.hid (fun wz (g : Nat) (h : RowV wz (some ⟨g, 0, none⟩) 2 [(sk, sb), (xk, xb)]) => apply_any 1 (some ⟨g, 0, none⟩) 2 2 [(sk, sb), (xk, xb)] wz h)
    generalize appP 1 [(sk, sb), (xk, xb)] = r at *
    obtain ⟨rk, rb⟩ := r
    simp only at AP
    have hl1 : ((l.length : Int) == 0) = false := by simpa using hl0
    go_wp2_with fail
    have KD := G.keepsD_true []
    refine G.region_words (fun w' => w'.cell? ⟨g3, 0, none⟩ = some (.slice A0 z0.length c0) ∧ w'.cell? ⟨g3, 1, none⟩ = some (.slice (some ⟨g1, 0, none⟩) 1 1) ∧ w'.cell? ⟨g3, 2, none⟩ = some (.int .i64 0) ∧ w'.cell? ⟨g7, 0, none⟩ = some (.slice A0 z0.length c0) ∧ w'.cell? ⟨g7, 1, none⟩ = some (.slice (some ⟨g6, 0, none⟩) 1 1) ∧ w'.cell? ⟨g7, 2, none⟩ = some (.int .i64 a2) ∧ w'.cell? ⟨g8, 0, none⟩ = some (.int .i64 xk) ∧ w'.cell? ⟨g8, 1, none⟩ = some (.int .u64 (xb : Int)) ∧ LookIn w' A0 (some ⟨g1, 0, none⟩) z0 [l] ∧ LookIn w' A0 (some ⟨g6, 0, none⟩) z0 [l ++ [a2]] ∧ Below w.heap.size w w') [G.isW (.int .i64 b2), G.isW (lookV A0 (some ⟨g6, 0, none⟩) z0.length c0 1 1 a2), G.isW (.agg #[.int .i64 fk, .int .u64 (fb : Int)]), G.isW (.int .i64 b2), G.isW (lookV A0 (some ⟨g1, 0, none⟩) z0.length c0 1 1 0), G.isW (.agg #[.int .i64 fk, .int .u64 (fb : Int)]), G.isW (.bool true), G.isW (.bool true), G.isW (.int .i64 b2), G.isW (lookV A0 (some ⟨g6, 0, none⟩) z0.length c0 1 1 a2), G.isW (.agg #[.int .i64 rk, .int .u64 (rb : Int)]), G.isW (.int .i64 b2), G.isW (lookV A0 (some ⟨g1, 0, none⟩) z0.length c0 1 1 0), G.isW (.agg #[.int .i64 sk, .int .u64 (sb : Int)]), G.isW (.agg #[.int .i64 xk, .int .u64 (xb : Int)]), PairW (sk, sb) (xk, xb), G.isW (.agg #[.int .i64 rk, .int .u64 (rb : Int)]), G.isW (.bool true), G.isW (.bool true), G.isW (.bool true)] (by kernel_rfl) (by repeat' (first | exact G.monoL_nil | exact G.is_mono _ | exact G.any_mono | exact pairw_mono _ _ | refine G.monoL_cons ?_ ?_)) (by kernel_rfl) (by kernel_rfl) (fun _ _ h hb => keepG hb h) ⟨z0', z1', z2', z3', z4', z5', z6', z7', L1, L2, hB.drew⟩ ?_ ?_
    · intro KC
      refine G.stepsL_cons (fun a u hc hdd hd hk hdep => ?_) ?_
      ·
        have d8 : (a.tmps[8]?).getD undef = (.int .i64 b2) := hk 8 (by kernel_rfl)
        refine G.step_val KC KD hc hdd rfl (.int .i64 b2) u (G.wanted_plain rfl) ?_ rfl (Below.refl _ _)
        first | (go_simp; done) | rfl | (simp [go_sem, *]; done)
      refine G.stepsL_cons (fun a u hc hdd hd hk hdep => ?_) ?_
      ·
        have d10 : (a.tmps[10]?).getD undef = (.pointer (some ⟨g7, 0, none⟩)) := hk 10 (by kernel_rfl)
        refine G.step_val KC KD hc hdd rfl (lookV A0 (some ⟨g6, 0, none⟩) z0.length c0 1 1 a2) u (G.wanted_plain rfl) ?_ rfl (Below.refl _ _)
        obtain ⟨s0, s1, s2, s3, s4, s5, s6, s7, -, -, -⟩ := hc
        first | (go_simp; done) | rfl | (simp [go_sem, *]; done)
      refine G.stepsL_cons (fun a u hc hdd hd hk hdep => ?_) ?_
      ·
        have d72 : (a.tmps[72]?).getD undef = (.int .i64 b2) := hdep ⟨0, .data⟩ (by simp) rfl
        have d73 : (a.tmps[73]?).getD undef = (lookV A0 (some ⟨g6, 0, none⟩) z0.length c0 1 1 a2) := hdep ⟨1, .data⟩ (by simp) rfl
        refine G.step_call KC KD hc hdd rfl 14 #[.int .i64 26, .int .i64 0, (.int .i64 b2), (lookV A0 (some ⟨g6, 0, none⟩) z0.length c0 1 1 a2)] (G.wanted_plain rfl) (by first | (go_simp; done) | rfl) ?_
        exact (E26.out u hc.2.2.2.2.2.2.2.2.2.1).mono (by rintro e w' ⟨rfl, hb⟩; exact ⟨_, rfl, rfl, hb⟩)
      refine G.stepsL_cons (fun a u hc hdd hd hk hdep => ?_) ?_
      ·
        have d8 : (a.tmps[8]?).getD undef = (.int .i64 b2) := hk 8 (by kernel_rfl)
        refine G.step_val KC KD hc hdd rfl (.int .i64 b2) u (G.wanted_plain rfl) ?_ rfl (Below.refl _ _)
        first | (go_simp; done) | rfl | (simp [go_sem, *]; done)
      refine G.stepsL_cons (fun a u hc hdd hd hk hdep => ?_) ?_
      ·
        have d9 : (a.tmps[9]?).getD undef = (.pointer (some ⟨g3, 0, none⟩)) := hk 9 (by kernel_rfl)
        refine G.step_val KC KD hc hdd rfl (lookV A0 (some ⟨g1, 0, none⟩) z0.length c0 1 1 0) u (G.wanted_plain rfl) ?_ rfl (Below.refl _ _)
        obtain ⟨s0, s1, s2, s3, s4, s5, s6, s7, -, -, -⟩ := hc
        first | (go_simp; done) | rfl | (simp [go_sem, *]; done)
      refine G.stepsL_cons (fun a u hc hdd hd hk hdep => ?_) ?_
      ·
        have d75 : (a.tmps[75]?).getD undef = (.int .i64 b2) := hdep ⟨3, .data⟩ (by simp) rfl
        have d76 : (a.tmps[76]?).getD undef = (lookV A0 (some ⟨g1, 0, none⟩) z0.length c0 1 1 0) := hdep ⟨4, .data⟩ (by simp) rfl
        refine G.step_call KC KD hc hdd rfl 14 #[.int .i64 26, .int .i64 0, (.int .i64 b2), (lookV A0 (some ⟨g1, 0, none⟩) z0.length c0 1 1 0)] (G.wanted_plain rfl) (by first | (go_simp; done) | rfl) ?_
        exact (F26.out u hc.2.2.2.2.2.2.2.2.1).mono (by rintro e w' ⟨rfl, hb⟩; exact ⟨_, rfl, rfl, hb⟩)
      refine G.stepsL_cons (fun a u hc hdd hd hk hdep => ?_) ?_
      ·
        have d74 : (a.tmps[74]?).getD undef = (.agg #[.int .i64 fk, .int .u64 (fb : Int)]) := hdep ⟨2, .data⟩ (by simp) rfl
        have d77 : (a.tmps[77]?).getD undef = (.agg #[.int .i64 fk, .int .u64 (fb : Int)]) := hdep ⟨5, .data⟩ (by simp) rfl
        refine G.step_val KC KD hc hdd rfl (.bool true) u (G.wanted_plain rfl) ?_ rfl (Below.refl _ _)
        first | (go_simp; done) | rfl | (simp [go_sem, *]; done)
      refine G.stepsL_cons (fun a u hc hdd hd hk hdep => ?_) ?_
      ·
        have d78 : (a.tmps[78]?).getD undef = (.bool true) := hdep ⟨6, .data⟩ (by simp) rfl
        refine G.step_val KC KD hc hdd rfl (.bool true) u (G.wanted_plain rfl) ?_ rfl (Below.refl _ _)
        first | (go_simp; done) | rfl | (simp [go_sem, *]; done)
      refine G.stepsL_cons (fun a u hc hdd hd hk hdep => ?_) ?_
      ·
        have d8 : (a.tmps[8]?).getD undef = (.int .i64 b2) := hk 8 (by kernel_rfl)
        refine G.step_val KC KD hc hdd rfl (.int .i64 b2) u ((G.wanted_guard (j := 7) (b := true) (c := true) rfl (hdep ⟨7, .guard⟩ (by simp) rfl)).trans rfl) ?_ rfl (Below.refl _ _)
        first | (go_simp; done) | rfl | (simp [go_sem, *]; done)
      refine G.stepsL_cons (fun a u hc hdd hd hk hdep => ?_) ?_
      ·
        have d10 : (a.tmps[10]?).getD undef = (.pointer (some ⟨g7, 0, none⟩)) := hk 10 (by kernel_rfl)
        refine G.step_val KC KD hc hdd rfl (lookV A0 (some ⟨g6, 0, none⟩) z0.length c0 1 1 a2) u ((G.wanted_guard (j := 7) (b := true) (c := true) rfl (hdep ⟨7, .guard⟩ (by simp) rfl)).trans rfl) ?_ rfl (Below.refl _ _)
        obtain ⟨s0, s1, s2, s3, s4, s5, s6, s7, -, -, -⟩ := hc
        first | (go_simp; done) | rfl | (simp [go_sem, *]; done)
      refine G.stepsL_cons (fun a u hc hdd hd hk hdep => ?_) ?_
      ·
        have d80 : (a.tmps[80]?).getD undef = (.int .i64 b2) := hdep ⟨8, .data⟩ (by simp) rfl
        have d81 : (a.tmps[81]?).getD undef = (lookV A0 (some ⟨g6, 0, none⟩) z0.length c0 1 1 a2) := hdep ⟨9, .data⟩ (by simp) rfl
        refine G.step_call KC KD hc hdd rfl 14 #[.int .i64 28, .int .i64 0, (.int .i64 b2), (lookV A0 (some ⟨g6, 0, none⟩) z0.length c0 1 1 a2)] ((G.wanted_guard (j := 7) (b := true) (c := true) rfl (hdep ⟨7, .chain⟩ (by simp) rfl)).trans rfl) (by first | (go_simp; done) | rfl) ?_
        exact (E28.out u hc.2.2.2.2.2.2.2.2.2.1).mono (by rintro e w' ⟨rfl, hb⟩; exact ⟨_, rfl, rfl, hb⟩)
      refine G.stepsL_cons (fun a u hc hdd hd hk hdep => ?_) ?_
      ·
        have d8 : (a.tmps[8]?).getD undef = (.int .i64 b2) := hk 8 (by kernel_rfl)
        refine G.step_val KC KD hc hdd rfl (.int .i64 b2) u ((G.wanted_guard (j := 7) (b := true) (c := true) rfl (hdep ⟨7, .guard⟩ (by simp) rfl)).trans rfl) ?_ rfl (Below.refl _ _)
        first | (go_simp; done) | rfl | (simp [go_sem, *]; done)
      refine G.stepsL_cons (fun a u hc hdd hd hk hdep => ?_) ?_
      ·
        have d9 : (a.tmps[9]?).getD undef = (.pointer (some ⟨g3, 0, none⟩)) := hk 9 (by kernel_rfl)
        refine G.step_val KC KD hc hdd rfl (lookV A0 (some ⟨g1, 0, none⟩) z0.length c0 1 1 0) u ((G.wanted_guard (j := 7) (b := true) (c := true) rfl (hdep ⟨7, .guard⟩ (by simp) rfl)).trans rfl) ?_ rfl (Below.refl _ _)
        obtain ⟨s0, s1, s2, s3, s4, s5, s6, s7, -, -, -⟩ := hc
        first | (go_simp; done) | rfl | (simp [go_sem, *]; done)
      refine G.stepsL_cons (fun a u hc hdd hd hk hdep => ?_) ?_
      ·
        have d83 : (a.tmps[83]?).getD undef = (.int .i64 b2) := hdep ⟨11, .data⟩ (by simp) rfl
        have d84 : (a.tmps[84]?).getD undef = (lookV A0 (some ⟨g1, 0, none⟩) z0.length c0 1 1 0) := hdep ⟨12, .data⟩ (by simp) rfl
        refine G.step_call KC KD hc hdd rfl 14 #[.int .i64 28, .int .i64 0, (.int .i64 b2), (lookV A0 (some ⟨g1, 0, none⟩) z0.length c0 1 1 0)] ((G.wanted_guard (j := 7) (b := true) (c := true) rfl (hdep ⟨7, .guard⟩ (by simp) rfl)).trans rfl) (by first | (go_simp; done) | rfl) ?_
        exact (F28.out u hc.2.2.2.2.2.2.2.2.1).mono (by rintro e w' ⟨rfl, hb⟩; exact ⟨_, rfl, rfl, hb⟩)
      refine G.stepsL_cons (fun a u hc hdd hd hk hdep => ?_) ?_
      ·
        have d11 : (a.tmps[11]?).getD undef = (.pointer (some ⟨g8, 0, none⟩)) := hk 11 (by kernel_rfl)
        refine G.step_val KC KD hc hdd rfl (.agg #[.int .i64 xk, .int .u64 (xb : Int)]) u ((G.wanted_guard (j := 7) (b := true) (c := true) rfl (hdep ⟨7, .guard⟩ (by simp) rfl)).trans rfl) ?_ rfl (Below.refl _ _)
        obtain ⟨s0, s1, s2, s3, s4, s5, s6, s7, -, -, -⟩ := hc
        first | (go_simp; done) | rfl | (simp [go_sem, *]; done)
      refine G.stepsL_cons (fun a u hc hdd hd hk hdep => ?_) ?_
      ·
        have d85 : (a.tmps[85]?).getD undef = (.agg #[.int .i64 sk, .int .u64 (sb : Int)]) := hdep ⟨13, .data⟩ (by simp) rfl
        have d86 : (a.tmps[86]?).getD undef = (.agg #[.int .i64 xk, .int .u64 (xb : Int)]) := hdep ⟨14, .data⟩ (by simp) rfl
        refine G.step_val KC KD hc hdd rfl (.slice (some ⟨u.heap.size, 0, none⟩) 2 2) (u.alloc (.cells #[.int .i64 sk, .int .u64 (sb : Int), .int .i64 xk, .int .u64 (xb : Int)] 25)) ((G.wanted_guard (j := 7) (b := true) (c := true) rfl (hdep ⟨7, .guard⟩ (by simp) rfl)).trans rfl) ?_ ⟨u.heap.size, rfl, row_two (k1 := sk) (k2 := xk) hsl hxl (by simp [go_sem]) (by simp [go_sem]) (by simp [go_sem]) (by simp [go_sem])⟩ (m1 _ _)
        first | (go_simp; done) | rfl | (simp [go_sem, *]; done)
      refine G.stepsL_cons (fun a u hc hdd hd hk hdep => ?_) ?_
      ·
        have d87' : (PairW (sk, sb) (xk, xb)) ((a.tmps[87]?).getD undef) u := hdep ⟨15, .data⟩ (by simp) rfl
        obtain ⟨gq, d87, hq⟩ := d87'
        refine G.step_call KC KD hc hdd rfl 15 #[.int .i64 1, .slice (some ⟨gq, 0, none⟩) 2 2] ((G.wanted_guard (j := 7) (b := true) (c := true) rfl (hdep ⟨7, .guard⟩ (by simp) rfl)).trans rfl) (by first | (go_simp; done) | rfl) ?_
        exact (AP.out u gq hq).mono (by rintro e w' ⟨rfl, hb⟩; exact ⟨_, rfl, rfl, hb⟩)
      refine G.stepsL_cons (fun a u hc hdd hd hk hdep => ?_) ?_
      ·
        have d82 : (a.tmps[82]?).getD undef = (.agg #[.int .i64 rk, .int .u64 (rb : Int)]) := hdep ⟨10, .data⟩ (by simp) rfl
        have d88 : (a.tmps[88]?).getD undef = (.agg #[.int .i64 rk, .int .u64 (rb : Int)]) := hdep ⟨16, .data⟩ (by simp) rfl
        refine G.step_val KC KD hc hdd rfl (.bool true) u ((G.wanted_guard (j := 7) (b := true) (c := true) rfl (hdep ⟨7, .guard⟩ (by simp) rfl)).trans rfl) ?_ rfl (Below.refl _ _)
        first | (go_simp; done) | rfl | (simp [go_sem, *]; done)
      refine G.stepsL_cons (fun a u hc hdd hd hk hdep => ?_) ?_
      ·
        have d79 : (a.tmps[79]?).getD undef = (.bool true) := hdep ⟨7, .data⟩ (by simp) rfl
        have d89 : (a.tmps[89]?).getD undef = (.bool true) := hdep ⟨17, .data⟩ (by simp) rfl
        refine G.step_val KC KD hc hdd rfl (.bool true) u (G.wanted_plain rfl) ?_ rfl (Below.refl _ _)
        first | (go_simp; done) | rfl | (simp [go_sem, *]; done)
      refine G.stepsL_cons (fun a u hc hdd hd hk hdep => ?_) ?_
      ·
        have d90 : (a.tmps[90]?).getD undef = (.bool true) := hdep ⟨18, .data⟩ (by simp) rfl
        refine G.step_val KC KD hc hdd rfl (.bool true) u (G.wanted_plain rfl) ?_ rfl (Below.refl _ _)
        first | (go_simp; done) | rfl | (simp [go_sem, *]; done)
      exact G.stepsL_nil
    intro vs' wN hN hh
    have eL : vs' 19 = (.bool true) := by
      obtain ⟨-, -, -, -, -, -, -, -, -, -, -, -, -, -, -, -, -, -, -, eX, -⟩ := hh
      exact eX
    clear hh
    set_option maxRecDepth 100000 in simp only [List.take_succ_cons, List.take_zero, putAll, Act.put, List.setIfInBounds_toArray, List.set_cons_zero, List.set_cons_succ, Nat.reduceAdd, eL]
    obtain ⟨-, -, -, -, -, -, -, -, -, -, hB⟩ := hN
    go_wp2
    go_ret
    exact ⟨rfl, hB⟩

set_option maxRecDepth 100000 in
theorem lifted (os : Os) (started : os.Started) (H : Type) (enc : TypeId × Value → H) :
    ReturnsInHanded {} Try.checked os 4 .any (Rows.evalGrowsSpec.pre6 enc Try.prog Try.f4 Rows.evalGrowsRow.domain false) (Rows.evalGrowsSpec.post enc Try.prog Try.f4 false true false false) := by
  refine returnsInHanded_of_change_sized (C := Try.checked) own started (by kernel_rfl) Try.func4
    (ChangeSpec.witness6 (enc := enc) (C := Try.checked) false ⟨#[], #[.slice none 0 0, .slice none 0 0, .agg #[.int .i64 0, .int .i64 0]], []⟩ 8 (by kernel_rfl) (by kernel_rfl) (by kernel_rfl) (by kernel_rfl)) ?_
  intro W base args ds gs before hval0 hW hcnd hsz0 _
  have hsz : (DataW.weightsEach Try.prog (Try.f4.params.toList ++ Rows.evalGrowsSpec.plain.varTypes Try.prog) (ds ++ gs)).all (· ≤ reachBytes) = true := hsz0
  clear hsz0
  have hval : ∀ (j : Nat) t v, Try.f4.params[j]? = some t → args[j]? = some v → Value.okWide Try.prog W .any base t v := hval0
  have hW' := hW
  obtain ⟨p, q, hA0, hV, rfl, hfz, hnd⟩ := hW
  have hA : DataW.TrodAll enc Try.prog W 0 (fun _ => true) true Try.f4.params.toList args.toList ds p := hA0
  rw [Try.params4] at hA hval hsz
  obtain ⟨v0, vs0, d0, ds0, p0, q0, hargs, rfl, rfl, h0, r0⟩ := trodAll_cons hA
  obtain ⟨v1, vs1, d1, ds1, p1, q1, rfl, rfl, rfl, h1, r1⟩ := trodAll_cons r0
  obtain ⟨v2, vs2, d2, ds2, p2, q2, rfl, rfl, rfl, h2, r2⟩ := trodAll_cons r1
  obtain ⟨rfl, rfl, rfl⟩ := trodAll_nil r2
  obtain rfl : args = #[v0, v1, v2] := by cases args; simp_all
  obtain ⟨rfl, rfl⟩ := trodVars_none hV
  have kk0 := h0
  have lt0 : ∀ x ∈ p0, x.block < W.heap.size := by obtain ⟨m, hm⟩ := kk0; exact DataW.trod_lt m _ _ _ hm
  have kk1 := h1
  have lt1 : ∀ x ∈ p1, x.block < W.heap.size := by obtain ⟨m, hm⟩ := kk1; exact DataW.trod_lt m _ _ _ hm
  have kk2 := h2
  have lt2 : ∀ x ∈ p2, x.block < W.heap.size := by obtain ⟨m, hm⟩ := kk2; exact DataW.trod_lt m _ _ _ hm
  obtain ⟨A0, c0, z0, rfl, uu0, xx0, w0, ss0, yy0⟩ := open_events9 (hval 0 28 v0 rfl rfl) h0 (wb_each hsz (j := 0) (t := 28) rfl rfl)
  obtain ⟨A1, n1, c1, rfl⟩ := okWide_slice Try.underlying43 (hval 1 43 v1 rfl rfl)
  obtain ⟨z1, w1, s1⟩ : ∃ zs, IntsIn .i64 W A1 n1 c1 zs ∧ n1 * 8 ≤ 140737488351232 := by
    obtain ⟨fuel, hf⟩ := h1
    rcases open_ints Try.underlying43 Try.underlying3 (by kernel_rfl) hf with ⟨hcs, _⟩ | ⟨x, l, c, zs, hcs, _, hl, hm, hz, hx, hcell, hwz⟩
    · simp [Value.cells] at hcs
      obtain ⟨rfl, rfl, rfl⟩ := hcs
      exact ⟨[], .inl ⟨rfl, rfl, rfl, rfl⟩, by decide⟩
    · simp [Value.cells] at hcs
      obtain ⟨rfl, rfl, rfl⟩ := hcs
      simp only [Prod.mk.injEq] at hx
      obtain ⟨rfl, rfl⟩ := hx
      have hb := sized_slice hsz (j := 1) (t := 43) (e := 3) rfl rfl Try.underlying43
      rw [bytes3] at hb
      simp only [lits, List.length_map, List.length_take, List.length_drop, reachBytes] at hb
      simp only [if_true] at hz
      exact ⟨zs, .inr ⟨_, rfl, hl, hm, hz, hcell, hwz⟩, by omega⟩
  obtain ⟨a2, b2, rfl, w2, x2⟩ := open_two Try.underlying44 Try.underlying3 (by kernel_rfl) (by kernel_rfl) (hval 2 44 v2 rfl rfl) h2
  clear hA0 hval0
  refine (walk W A0 c0 z0 w0 uu0 xx0 ss0 yy0 A1 n1 c1 z1 w1 s1 a2 b2 w2 x2).mono fun e W' ⟨he, bel⟩ => ?_
  subst he
  exact ⟨_, rfl, _, _, _, [], _, [], hW', trodAll_mk1 (shut_bool Try.underlying4 _), (trodAll_cons_mk (Below.trod laidOut (by kernel_rfl) (of_decide_eq_true (by kernel_rfl)) kk0 bel lt0) (trodAll_cons_mk (Below.trod laidOut (by kernel_rfl) (of_decide_eq_true (by kernel_rfl)) kk1 bel lt1) (trodAll_cons_mk (Below.trod laidOut (by kernel_rfl) (of_decide_eq_true (by kernel_rfl)) kk2 bel lt2) trodAll_mk0))), rfl, bel.frame _, fun h => by cases h⟩

theorem over : Rows.evalGrowsRow.holds Try.pinned (OpenSpec.ofChange Rows.evalGrowsSpec) :=
  OpenClaim.holds_of_wide 4 Try.f4 rfl rfl rfl rfl rfl rfl rfl ⟨rfl, rfl, rfl, rfl, rfl⟩ rfl rfl rfl rfl rfl (by kernel_rfl) Try.func4 (by kernel_rfl)
    (of_decide_eq_true (by kernel_rfl)) (by unfold Func.isWrapper; first | (rw [if_pos (by decide +kernel)]; kernel_rfl) | (rw [if_neg (by decide +kernel)]; exact ⟨rfl, rfl⟩))
    (fun os started H enc _ => lifted os started H enc)

/-- the statement -/
theorem proved : Rows.EvalGrowsSaid :=
  over
#print axioms proved
end Go.Proofs.Ytfjnphiegoogoaa.evalGrows
