/- LawN, EvQ -/
import Derived.Test.YtfjnphiegoogoaaZ24
import Derived.Test.YtfjnphiegoogoaaZ09
import Derived.Test.YtfjnphiegoogoaaZ22
import Derived.Test.YtfjnphiegoogoaaZ00
import Derived.Deep.Matrix
import Derived.Lib.SmallJoins
/- LawN -/
namespace Go.Proofs.Ytfjnphiegoogoaa.evn
open Go.ChangeShapes Go.WideShapes Go.ChangeAt Go.RowKit Go.Fl
set_option linter.unusedVariables false
set_option linter.unusedSimpArgs false
theorem keep10 {w wr w1 : World} {a0 a1 a2 a3 a4 a5 a6 a7 a8 a9 : Addr} {v0 v1 v2 v3 v4 v5 v6 v7 v8 v9 : Value} (hb : Below wr.heap.size wr w1) (h : wr.cell? a0 = some v0 ∧ wr.cell? a1 = some v1 ∧ wr.cell? a2 = some v2 ∧ wr.cell? a3 = some v3 ∧ wr.cell? a4 = some v4 ∧ wr.cell? a5 = some v5 ∧ wr.cell? a6 = some v6 ∧ wr.cell? a7 = some v7 ∧ wr.cell? a8 = some v8 ∧ wr.cell? a9 = some v9 ∧ Below w.heap.size w wr) : w1.cell? a0 = some v0 ∧ w1.cell? a1 = some v1 ∧ w1.cell? a2 = some v2 ∧ w1.cell? a3 = some v3 ∧ w1.cell? a4 = some v4 ∧ w1.cell? a5 = some v5 ∧ w1.cell? a6 = some v6 ∧ w1.cell? a7 = some v7 ∧ w1.cell? a8 = some v8 ∧ w1.cell? a9 = some v9 ∧ Below w.heap.size w w1 := by
  obtain ⟨h0, h1, h2, h3, h4, h5, h6, h7, h8, h9, h10⟩ := h
  exact ⟨cell_later hb h0, cell_later hb h1, cell_later hb h2, cell_later hb h3, cell_later hb h4, cell_later hb h5, cell_later hb h6, cell_later hb h7, cell_later hb h8, cell_later hb h9, mmore h10 hb⟩
theorem bel10 {w wr : World} {a0 a1 a2 a3 a4 a5 a6 a7 a8 a9 : Addr} {v0 v1 v2 v3 v4 v5 v6 v7 v8 v9 : Value} (h : wr.cell? a0 = some v0 ∧ wr.cell? a1 = some v1 ∧ wr.cell? a2 = some v2 ∧ wr.cell? a3 = some v3 ∧ wr.cell? a4 = some v4 ∧ wr.cell? a5 = some v5 ∧ wr.cell? a6 = some v6 ∧ wr.cell? a7 = some v7 ∧ wr.cell? a8 = some v8 ∧ wr.cell? a9 = some v9 ∧ Below w.heap.size w wr) : Below w.heap.size w wr := h.2.2.2.2.2.2.2.2.2.2
def BlkW (n : Nat) (t : TypeId) (cs : Array Value) : Value → World → Prop := fun v w => ∃ g, v = .pointer (some ⟨g, 0, none⟩) ∧ Blk w g t cs ∧ n ≤ g
theorem blkw_mono (n : Nat) (t : TypeId) (cs : Array Value) : G.MonoW (BlkW n t cs) := fun _ _ _ ⟨g, e, h, hn⟩ hb => ⟨g, e, h.kept hb, hn⟩
def OneN (t : NT) : Value → World → Prop := fun v w => ∃ g, v = .slice (some ⟨g, 0, none⟩) 1 1 ∧ NodesIs w (some ⟨g, 0, none⟩) [t]
theorem onen_mono (t : NT) : G.MonoW (OneN t) := fun _ _ _ ⟨g, e, h⟩ hb => ⟨g, e, h.later hb⟩
theorem nodes_one {w : World} {b o : Nat} {t : NT} (h : NodeIs w ⟨b, o, none⟩ t) : NodesIs w (some ⟨b, o, none⟩) [t] := by
  refine ⟨fun _ => ⟨_, _, rfl⟩, fun i x hi ab ao e => ?_⟩
  cases e
  match i, hi with
  | 0, hi =>
    simp at hi
    subst hi
    simpa using h
theorem node_made {w : World} (u : World) (hb : Below w.heap.size w u) (op kd vk : Int) (vb : Nat) (pos attr : Int) (A : Option Addr) (c : Nat) (args : List NT) (x : vb < 18446744073709551616) (hN : NodesIs w A args) :
    NodesIs (u.alloc (.cells #[.int .i64 op, .int .i64 kd, .slice A args.length c, .int .i64 vk, .int .u64 (vb : Int), .int .i64 pos, .int .i64 attr] 27)) (some ⟨u.heap.size, 0, none⟩) [.mk op kd vk vb pos attr args] := by
  have hk := Blk.made u 27 #[.int .i64 op, .int .i64 kd, .slice A args.length c, .int .i64 vk, .int .u64 (vb : Int), .int .i64 pos, .int .i64 attr]
  have hN' := NodesIs.later (mmore hb (m1 u (.cells #[.int .i64 op, .int .i64 kd, .slice A args.length c, .int .i64 vk, .int .u64 (vb : Int), .int .i64 pos, .int .i64 attr] 27))) hN
  exact nodes_one (.mk _ _ op kd vk vb pos attr args A c (hk.cell 0) (hk.cell 1) (hk.cell 2) (hk.cell 3) (hk.cell 4) (hk.cell 5) (hk.cell 6) x hN'.1 hN'.2)
def Kept4 (w4 : World) (g gr gk wh : Nat) (V RV LK ND : TypeId) (cv cl cn : Array Value) (w : World) : Prop := Blk w g V cv ∧ Blk w gr RV cv ∧ Blk w gk LK cl ∧ Blk w wh ND cn ∧ Below w4.heap.size w4 w
theorem Kept4.keep {w4 : World} {g gr gk wh : Nat} {V RV LK ND : TypeId} {cv cl cn : Array Value} {w w' : World} (h : Kept4 w4 g gr gk wh V RV LK ND cv cl cn w) (hb : Below w.heap.size w w') : Kept4 w4 g gr gk wh V RV LK ND cv cl cn w' := ⟨h.1.kept hb, h.2.1.kept hb, h.2.2.1.kept hb, h.2.2.2.1.kept hb, mmore h.2.2.2.2 hb⟩
set_option maxHeartbeats 8000000 in
set_option maxRecDepth 100000 in
theorem walk (w : World) (op0 kd0 vk0 : Int) (vb0 : Nat) (pos0 attr0 : Int) (AN0 : Option Addr) (cN0 : Nat) (t0 : List NT) (x0 : vb0 < 18446744073709551616) (n0 : NodesIs w AN0 t0) (hb0 : NT.sizes t0 + 1 ≤ 1048576) (A1 : Option Addr) (c1 : Nat) (z1 : List Ev) (w1 : EvsAt w A1 z1) (u1 : z1.length ≤ c1) (xx1 : c1 ≤ maxLen) (s1 : z1.length * 40 ≤ 140737488351232) (y1 : ∀ e ∈ z1, e.2.2.length * 16 ≤ 140737488351232) (A2 : Option Addr) (c2 : Nat) (z2 : List (List Int)) (cu2 : Int) (w2 : KindsAt w A2 z2) (s2 : z2.length * 24 ≤ 140737488351232) (y2 : ∀ l ∈ z2, l.length * 8 ≤ 140737488351232) (v2 : ∀ l ∈ z2, l.length ≤ 1048576) :
    Calls Try.prog 3 #[.agg #[.int .i64 op0, .int .i64 kd0, .slice AN0 t0.length cN0, .int .i64 vk0, .int .u64 (vb0 : Int), .int .i64 pos0, .int .i64 attr0], .slice A1 z1.length c1, .agg #[.slice A2 z2.length c2, .int .i64 cu2]] w fun e w' => e = .returned (.bool true) ∧ Below w.heap.size w w' := by
  have hL : LookIn w A1 A2 z1 z2 := ⟨w1, w2, by omega, fun e he => by have := y1 e he; omega, by omega, fun l hl => by have := y2 l hl; omega⟩
  have hP : ∀ pos, (placesP z2 pos).length ≤ 1099511627776 := fun pos => by
    unfold placesP
    split
    · simp
    · cases hx : z2[pos.toNat]? with
      | none => simp
      | some l => have := v2 l (List.mem_of_getElem? hx); simp only [Option.getD_some]; omega
  have hs1 : NT.sizes t0 + 1 ≤ 1048576 := hb0
  have h2 := m2 w (.cells #[.int .i64 op0, .int .i64 kd0, .slice AN0 t0.length cN0, .int .i64 vk0, .int .u64 (vb0 : Int), .int .i64 pos0, .int .i64 attr0] 27) (.cells #[.slice A2 z2.length c2, .int .i64 cu2] 31)
  have nb : Blk ((w.alloc (.cells #[.int .i64 op0, .int .i64 kd0, .slice AN0 t0.length cN0, .int .i64 vk0, .int .u64 (vb0 : Int), .int .i64 pos0, .int .i64 attr0] 27)).alloc (.cells #[.slice A2 z2.length c2, .int .i64 cu2] 31)) w.heap.size 27 #[.int .i64 op0, .int .i64 kd0, .slice AN0 t0.length cN0, .int .i64 vk0, .int .u64 (vb0 : Int), .int .i64 pos0, .int .i64 attr0] := (Blk.made w _ _).kept (m1 _ _)
  have pb : Blk ((w.alloc (.cells #[.int .i64 op0, .int .i64 kd0, .slice AN0 t0.length cN0, .int .i64 vk0, .int .u64 (vb0 : Int), .int .i64 pos0, .int .i64 attr0] 27)).alloc (.cells #[.slice A2 z2.length c2, .int .i64 cu2] 31)) (w.heap.size + 1) 31 #[.slice A2 z2.length c2, .int .i64 cu2] := by
    have := Blk.made (w.alloc (.cells #[.int .i64 op0, .int .i64 kd0, .slice AN0 t0.length cN0, .int .i64 vk0, .int .u64 (vb0 : Int), .int .i64 pos0, .int .i64 attr0] 27)) 31 #[.slice A2 z2.length c2, .int .i64 cu2]
    simpa using this
  replace hL := Lib.hid hL
  replace hP := Lib.hid hP
  replace n0 := Lib.hid n0
  clear w1 w2 y1 y2 v2
  go_enter Try.func3, Try.ntmps3
  go_upto_region 1 with (fail)
  generalize (w.alloc (.cells #[.int .i64 op0, .int .i64 kd0, .slice AN0 t0.length cN0, .int .i64 vk0, .int .u64 (vb0 : Int), .int .i64 pos0, .int .i64 attr0] 27)).alloc (.cells #[.slice A2 z2.length c2, .int .i64 cu2] 31) = u at *
  have q0 := nb.cell 0
  have q1 := nb.cell 1
  have q2 := nb.cell 2
  have q3 := nb.cell 3
  have q4 := nb.cell 4
  have q5 := nb.cell 5
  have q6 := nb.cell 6
  simp only [List.getElem?_toArray, List.getElem?_cons_zero, List.getElem?_cons_succ] at q0 q1 q2 q3 q4 q5 q6
  have hin : NodesIs (u.alloc (.cells #[.int .i64 op0, .int .i64 kd0, .slice AN0 t0.length cN0, .int .i64 vk0, .int .u64 (vb0 : Int), .int .i64 pos0, .int .i64 attr0] 27)) (some ⟨u.heap.size, 0, none⟩) [NT.mk op0 kd0 vk0 vb0 pos0 attr0 t0] := by
    have hb := Blk.made u 27 #[.int .i64 op0, .int .i64 kd0, .slice AN0 t0.length cN0, .int .i64 vk0, .int .u64 (vb0 : Int), .int .i64 pos0, .int .i64 attr0]
    have hN := NodesIs.later (mmore h2 (m1 u (.cells #[.int .i64 op0, .int .i64 kd0, .slice AN0 t0.length cN0, .int .i64 vk0, .int .u64 (vb0 : Int), .int .i64 pos0, .int .i64 attr0] 27))) n0.out
    refine ⟨fun _ => ⟨_, _, rfl⟩, fun i t hi ab ao e => ?_⟩
    cases e
    match i, hi with
    | 0, hi =>
      simp at hi
      subst hi
      exact .mk _ _ op0 kd0 vk0 vb0 pos0 attr0 t0 AN0 cN0 (hb.cell 0) (hb.cell 1) (hb.cell 2) (hb.cell 3) (hb.cell 4) (hb.cell 5) (hb.cell 6) x0 hN.1 hN.2
  have TW0 := (twin_any (NT.sizes [NT.mk op0 kd0 vk0 vb0 pos0 attr0 t0] + 1) [NT.mk op0 kd0 vk0 vb0 pos0 attr0 t0] (by omega) (by simp only [NT.sizes, NT.size_mk]; omega) (some ⟨u.heap.size, 0, none⟩) 1 _ hin)
  have TW : Hid (Calls Try.prog 7 #[.slice (some ⟨u.heap.size, 0, none⟩) 1 1] (u.alloc (.cells #[.int .i64 op0, .int .i64 kd0, .slice AN0 t0.length cN0, .int .i64 vk0, .int .u64 (vb0 : Int), .int .i64 pos0, .int .i64 attr0] 27)) fun e w' => ∃ A' c', e = .returned (.slice A' 1 c') ∧ NodesP w' (fun b => (u.alloc (.cells #[.int .i64 op0, .int .i64 kd0, .slice AN0 t0.length cN0, .int .i64 vk0, .int .u64 (vb0 : Int), .int .i64 pos0, .int .i64 attr0] 27)).heap.size ≤ b) A' [NT.mk op0 kd0 vk0 vb0 pos0 attr0 t0] ∧ Below (u.alloc (.cells #[.int .i64 op0, .int .i64 kd0, .slice AN0 t0.length cN0, .int .i64 vk0, .int .u64 (vb0 : Int), .int .i64 pos0, .int .i64 attr0] 27)).heap.size (u.alloc (.cells #[.int .i64 op0, .int .i64 kd0, .slice AN0 t0.length cN0, .int .i64 vk0, .int .u64 (vb0 : Int), .int .i64 pos0, .int .i64 attr0] 27)) w') := Lib.hid TW0
  clear TW0
  replace nb := Lib.hid nb
  replace pb := Lib.hid pb
  replace h2 := Lib.hid h2
  clear hin
  go_wp2_with fail
  refine TW.out.mono ?_; rintro e w3 ⟨A3x, c3x, rfl, hC, hb3⟩
  have hb3' := mmore (m1 u (.cells #[.int .i64 op0, .int .i64 kd0, .slice AN0 t0.length cN0, .int .i64 vk0, .int .u64 (vb0 : Int), .int .i64 pos0, .int .i64 attr0] 27)) hb3
  have nb3 := nb.out.kept hb3'
  have pb3 := pb.out.kept hb3'
  have hW3 := mmore h2.out hb3'
  obtain ⟨ab, ao, rfl⟩ := hC.1 (by simp)
  have hC0 := hC.2 0 _ rfl ab ao rfl
  rw [Nat.zero_mul, Nat.add_zero] at hC0
  clear hC TW hb3 hb3' q0 q1 q2 q3 q4 q5 q6 nb pb h2
  have p0 : w3.cell? ⟨w.heap.size + 1, 0, none⟩ = some (.slice A2 z2.length c2) := pb3.cell 0
  have p1 : w3.cell? ⟨w.heap.size + 1, 1, none⟩ = some (.int .i64 cu2) := pb3.cell 1
  replace nb3 := Lib.hid nb3
  replace pb3 := Lib.hid pb3
  replace hW3 := Lib.hid hW3
  replace hC0 := Lib.hid hC0
  go_upto_region 3 with (fail)
  have hb4 := m1 w3 (lookO A1 A2 z1.length c1 z2.length c2 cu2)
  have kb4 := Blk.made w3 34 #[.slice A1 z1.length c1, .slice A2 z2.length c2, .int .i64 cu2]
  have nb4 := nb3.out.kept hb4
  have pb4 := pb3.out.kept hb4
  have hW4 := mmore hW3.out hb4
  have hC4 := hC0.out.later hb4
  clear nb3 pb3 hW3 hC0 p0 p1 hb4
  generalize w3.heap.size = gk at *
  generalize w3.alloc (lookO A1 A2 z1.length c1 z2.length c2 cu2) = w4 at *
  have hI4 := hC4.is
  have hroot := hC4
  generalize hT : NT.mk op0 kd0 vk0 vb0 pos0 attr0 t0 = T at hroot
  cases hroot with
  | mk _ _ op1 kd1 vk1 vb1 pos1 attr1 t1 A3 c3 d0 d1 d2 d3 d4 d5 d6 dvb dp dS dA dk =>
  simp only [NT.mk.injEq] at hT
  obtain ⟨rfl, rfl, rfl, rfl, rfl, rfl, rfl⟩ := hT
  have EN := fun wz (hb : Below w4.heap.size w4 wz) => enode_any A1 A2 c1 c2 cu2 z1 z2 _ op0 kd0 vk0 vb0 pos0 attr0 A3 c3 t0 wz (by omega) x0 (NodesP.later hb ⟨dA, dk⟩) (hL.out.later (mmore hW4 hb))
  have RN := fun wz (hb : Below w4.heap.size w4 wz) => rnode_any A1 A2 c1 c2 cu2 z1 z2 (NT.sizes t0 + 1) op0 kd0 vk0 vb0 pos0 attr0 AN0 cN0 t0 (by omega) (by omega) wz x0 (NodesIs.later (mmore hW4 hb) n0.out) (hL.out.later (mmore hW4 hb)) hP.out
  have AN := fun wz (hb : Below w4.heap.size w4 wz) => all_this A1 A2 z1.length c1 z2.length c2 cu2 ab ao c3x _ wz (ask_any A1 A2 c1 c2 cu2 z1 z2 _ ab ao (NT.mk op0 kd0 vk0 vb0 pos0 attr0 t0) wz (by rw [NT.size_mk]; omega) (hC4.later hb) (hL.out.later (mmore hW4 hb)))
  generalize evT (lfP z1 z2 cu2) (NT.mk op0 kd0 vk0 vb0 pos0 attr0 t0) = x at *
  obtain ⟨xk, xb⟩ := x
  have k0 : w4.cell? ⟨gk, 0, none⟩ = some (.slice A1 z1.length c1) := kb4.cell 0
  have k1 : w4.cell? ⟨gk, 1, none⟩ = some (.slice A2 z2.length c2) := kb4.cell 1
  have k2 : w4.cell? ⟨gk, 2, none⟩ = some (.int .i64 cu2) := kb4.cell 2
  replace EN := Lib.hid EN
  replace RN := Lib.hid RN
  replace AN := Lib.hid AN
  replace nb4 := Lib.hid nb4
  replace pb4 := Lib.hid pb4
  replace kb4 := Lib.hid kb4
  replace hW4 := Lib.hid hW4
  replace hI4 := Lib.hid hI4
  clear hC4 dp dS dA dk
  have D0 := Lib.hid (And.intro d0 (And.intro d1 (And.intro d2 (And.intro d3 (And.intro d4 (And.intro d5 (And.intro d6 (And.intro k0 (And.intro k1 (And.intro k2 (Below.refl w4.heap.size w4)))))))))))
  have SN : ∀ (wz : World) (gp : Nat), Below w4.heap.size w4 wz → NodesIs wz (some ⟨gp, 0, none⟩) [NT.mk op0 kd0 vk0 vb0 pos0 attr0 t0] → Calls Try.prog 13 #[.slice (some ⟨ab, ao, none⟩) 1 c3x, .slice (some ⟨gp, 0, none⟩) 1 1] wz fun e w' => e = .returned (.bool true) ∧ Below wz.heap.size wz w' := fun wz gp hb hN => same_nodes (NT.sizes [NT.mk op0 kd0 vk0 vb0 pos0 attr0 t0] + 1) _ (Nat.lt_succ_self _) (by simp only [NT.sizes, NT.size_mk]; omega) (some ⟨ab, ao, none⟩) (some ⟨gp, 0, none⟩) c3x 1 wz (NodesIs.later hb (nodes_one hI4.out)) hN
  replace SN := Lib.hid SN
  clear k0 k1 k2 d0 d1 d2 d3 d4 d5 d6
  go_wp2_with fail
  have KD := G.keepsD_true []
  have KC : G.KeepsC (fun w' => w'.cell? ⟨ab, ao, none⟩ = some (.int .i64 op0) ∧ w'.cell? ⟨ab, ao + 1, none⟩ = some (.int .i64 kd0) ∧ w'.cell? ⟨ab, ao + 2, none⟩ = some (.slice A3 t0.length c3) ∧ w'.cell? ⟨ab, ao + 3, none⟩ = some (.int .i64 vk0) ∧ w'.cell? ⟨ab, ao + 4, none⟩ = some (.int .u64 (vb0 : Int)) ∧ w'.cell? ⟨ab, ao + 5, none⟩ = some (.int .i64 pos0) ∧ w'.cell? ⟨ab, ao + 6, none⟩ = some (.int .i64 attr0) ∧ w'.cell? ⟨gk, 0, none⟩ = some (.slice A1 z1.length c1) ∧ w'.cell? ⟨gk, 1, none⟩ = some (.slice A2 z2.length c2) ∧ w'.cell? ⟨gk, 2, none⟩ = some (.int .i64 cu2) ∧ Below w4.heap.size w4 w') := fun _ _ h hb => keep10 hb h
  refine G.region_wordsG 6 (fun w' => w'.cell? ⟨ab, ao, none⟩ = some (.int .i64 op0) ∧ w'.cell? ⟨ab, ao + 1, none⟩ = some (.int .i64 kd0) ∧ w'.cell? ⟨ab, ao + 2, none⟩ = some (.slice A3 t0.length c3) ∧ w'.cell? ⟨ab, ao + 3, none⟩ = some (.int .i64 vk0) ∧ w'.cell? ⟨ab, ao + 4, none⟩ = some (.int .u64 (vb0 : Int)) ∧ w'.cell? ⟨ab, ao + 5, none⟩ = some (.int .i64 pos0) ∧ w'.cell? ⟨ab, ao + 6, none⟩ = some (.int .i64 attr0) ∧ w'.cell? ⟨gk, 0, none⟩ = some (.slice A1 z1.length c1) ∧ w'.cell? ⟨gk, 1, none⟩ = some (.slice A2 z2.length c2) ∧ w'.cell? ⟨gk, 2, none⟩ = some (.int .i64 cu2) ∧ Below w4.heap.size w4 w') (fun _ _ => True) [G.isW (.slice (some ⟨ab, ao, none⟩) 1 c3x), G.isW (.pointer (some ⟨ab, ao, none⟩)), G.isW (.agg #[.int .i64 op0, .int .i64 kd0, .slice A3 t0.length c3, .int .i64 vk0, .int .u64 (vb0 : Int), .int .i64 pos0, .int .i64 attr0]), G.isW (.agg #[.slice A1 z1.length c1, .slice A2 z2.length c2, .int .i64 cu2]), G.isW (.agg #[.int .i64 xk, .int .u64 (xb : Int)]), BlkW w4.heap.size 25 #[.int .i64 0, .int .u64 0]] (by kernel_rfl) (by repeat' (first | exact G.monoL_nil | exact G.is_mono _ | exact G.any_mono | exact blkw_mono _ _ _ | refine G.monoL_cons ?_ ?_)) (by kernel_rfl) (by kernel_rfl) (keep10 (Below.refl _ w4).drew D0.out) trivial ?_ ?_
  ·
    refine G.stepsL_cons (fun a u hc hdd hd hk hdep => ?_) ?_
    ·
      have d7 : (a.tmps[7]?).getD undef = (.slice (some ⟨ab, ao, none⟩) 1 c3x) := hk 7 (by kernel_rfl)
      refine G.step_val KC KD hc hdd rfl (.slice (some ⟨ab, ao, none⟩) 1 c3x) u (G.wanted_plain rfl) ?_ rfl (Below.refl _ _)
      first | (go_simp; done) | rfl | (simp [go_sem, *]; done)
    refine G.stepsL_cons (fun a u hc hdd hd hk hdep => ?_) ?_
    ·
      have d20 : (a.tmps[20]?).getD undef = (.slice (some ⟨ab, ao, none⟩) 1 c3x) := hdep ⟨0, .data⟩ (by simp) rfl
      refine G.step_val KC KD hc hdd rfl (.pointer (some ⟨ab, ao, none⟩)) u (G.wanted_plain rfl) ?_ rfl (Below.refl _ _)
      first | (go_simp; done) | rfl | (simp [go_sem, *]; done)
    refine G.stepsL_cons (fun a u hc hdd hd hk hdep => ?_) ?_
    ·
      have d21 : (a.tmps[21]?).getD undef = (.pointer (some ⟨ab, ao, none⟩)) := hdep ⟨1, .data⟩ (by simp) rfl
      refine G.step_val KC KD hc hdd rfl (.agg #[.int .i64 op0, .int .i64 kd0, .slice A3 t0.length c3, .int .i64 vk0, .int .u64 (vb0 : Int), .int .i64 pos0, .int .i64 attr0]) u (G.wanted_plain rfl) ?_ rfl (Below.refl _ _)
      obtain ⟨s0, s1, s2, s3, s4, s5, s6, s7, s8, s9, -⟩ := hc
      first | (go_simp; done) | rfl | (simp [go_sem, *]; done)
    refine G.stepsL_cons (fun a u hc hdd hd hk hdep => ?_) ?_
    ·
      have d8 : (a.tmps[8]?).getD undef = (.pointer (some ⟨gk, 0, none⟩)) := hk 8 (by kernel_rfl)
      refine G.step_val KC KD hc hdd rfl (.agg #[.slice A1 z1.length c1, .slice A2 z2.length c2, .int .i64 cu2]) u (G.wanted_plain rfl) ?_ rfl (Below.refl _ _)
      obtain ⟨s0, s1, s2, s3, s4, s5, s6, s7, s8, s9, -⟩ := hc
      first | (go_simp; done) | rfl | (simp [go_sem, *]; done)
    refine G.stepsL_cons (fun a u hc hdd hd hk hdep => ?_) ?_
    ·
      have d22 : (a.tmps[22]?).getD undef = (.agg #[.int .i64 op0, .int .i64 kd0, .slice A3 t0.length c3, .int .i64 vk0, .int .u64 (vb0 : Int), .int .i64 pos0, .int .i64 attr0]) := hdep ⟨2, .data⟩ (by simp) rfl
      have d23 : (a.tmps[23]?).getD undef = (.agg #[.slice A1 z1.length c1, .slice A2 z2.length c2, .int .i64 cu2]) := hdep ⟨3, .data⟩ (by simp) rfl
      refine G.step_call KC KD hc hdd rfl 8 #[.agg #[.int .i64 op0, .int .i64 kd0, .slice A3 t0.length c3, .int .i64 vk0, .int .u64 (vb0 : Int), .int .i64 pos0, .int .i64 attr0], .agg #[.slice A1 z1.length c1, .slice A2 z2.length c2, .int .i64 cu2]] (G.wanted_plain rfl) (by first | (go_simp; done) | rfl) ?_
      exact (EN.out u (bel10 hc)).mono (by rintro e w' ⟨rfl, hb⟩; exact ⟨_, rfl, rfl, hb⟩)
    refine G.stepsL_cons (fun a u hc hdd hd hk hdep => ?_) ?_
    ·
      refine G.step_val KC KD hc hdd rfl (.pointer (some ⟨u.heap.size, 0, none⟩)) (u.alloc (.cells #[.int .i64 0, .int .u64 0] 25)) (G.wanted_plain rfl) ?_ ⟨u.heap.size, rfl, Blk.made _ _ _, (bel10 hc).size⟩ (m1 _ _)
      first | (go_simp; done) | rfl | (simp [go_sem, *]; done)
    exact G.stepsL_nil
  intro vs' wN hN _ hh
  have e4 : vs' 4 = (.agg #[.int .i64 xk, .int .u64 (xb : Int)]) := by
    obtain ⟨-, -, -, -, eX, -⟩ := hh
    exact eX
  obtain ⟨g, e5, bg, hgn⟩ : (BlkW w4.heap.size 25 #[.int .i64 0, .int .u64 0]) (vs' 5) wN := by
    obtain ⟨-, -, -, -, -, eX, -⟩ := hh
    exact eX
  have x0 : wN.cell? ⟨g, 0, none⟩ = some (.int .i64 0) := bg.cell 0
  have x1 : wN.cell? ⟨g, 1, none⟩ = some (.int .u64 0) := bg.cell 1
  have f0 : wN.frozen? ⟨g, 0, none⟩ = false := bg.free 0
  have f1 : wN.frozen? ⟨g, 1, none⟩ = false := bg.free 1
  have bC : Blk ((wN.setCell ⟨g, 0, none⟩ (.int .i64 xk)).setCell ⟨g, 1, none⟩ (.int .u64 (xb : Int))) g 25 #[.int .i64 xk, .int .u64 (xb : Int)] := (bg.put_ 0 (.int .i64 xk)).put_ 1 (.int .u64 (xb : Int))
  have hC4 : Below w4.heap.size w4 ((wN.setCell ⟨g, 0, none⟩ (.int .i64 xk)).setCell ⟨g, 1, none⟩ (.int .u64 (xb : Int))) := ((bel10 hN).setCell (p := ⟨g, 0, none⟩) hgn _).setCell (p := ⟨g, 1, none⟩) hgn _
  replace bC := Lib.hid bC
  replace hC4 := Lib.hid hC4
  clear hh hN hgn bg
  set_option maxRecDepth 100000 in simp only [List.take_succ_cons, List.take_zero, putAll, Act.put, List.setIfInBounds_toArray, List.set_cons_zero, List.set_cons_succ, Nat.reduceAdd, e4, e5]
  refine wpAny_ready (rs := [6]) (by kernel_rfl) (by simp) ?_
  refine AllReady.cons rfl (fun K hK => ?_) AllReady.nil
  go_simp
  refine hK _ _ ?_
  clear hK K x0 x1 f0 f1 e4 e5
  refine wpAny_done (by kernel_rfl) ?_ _

  generalize (wN.setCell ⟨g, 0, none⟩ (.int .i64 xk)).setCell ⟨g, 1, none⟩ (.int .u64 (xb : Int)) = wc at *
  have nbc := nb4.out.kept hC4.out
  have pbc := pb4.out.kept hC4.out
  have q0 := nbc.cell 0
  have q1 := nbc.cell 1
  have q2 := nbc.cell 2
  have q3 := nbc.cell 3
  have q4 := nbc.cell 4
  have q5 := nbc.cell 5
  have q6 := nbc.cell 6
  have p0 := pbc.cell 0
  have p1 := pbc.cell 1
  simp only [List.getElem?_toArray, List.getElem?_cons_zero, List.getElem?_cons_succ] at q0 q1 q2 q3 q4 q5 q6 p0 p1
  replace nbc := Lib.hid nbc
  replace pbc := Lib.hid pbc
  have kbc := Lib.hid (kb4.out.kept hC4.out)
  clear nb4 pb4 kb4
  go_wp2_with fail
  refine (RN.out _ hC4.out).mono ?_; rintro e w6 ⟨rfl, hb6⟩
  have KP : Kept4 w4 g w6.heap.size gk w.heap.size 25 36 34 27 #[.int .i64 xk, .int .u64 (xb : Int)] #[.slice A1 z1.length c1, .slice A2 z2.length c2, .int .i64 cu2] #[.int .i64 op0, .int .i64 kd0, .slice AN0 t0.length cN0, .int .i64 vk0, .int .u64 (vb0 : Int), .int .i64 pos0, .int .i64 attr0] (w6.alloc (.cells #[.int .i64 xk, .int .u64 (xb : Int)] 36)) := ⟨(bC.out.kept hb6).kept (m1 _ _), Blk.made _ _ _, (kbc.out.kept hb6).kept (m1 _ _), (nbc.out.kept hb6).kept (m1 _ _), mmore (mmore hC4.out hb6) (m1 _ _)⟩
  replace KP := Lib.hid KP
  clear q0 q1 q2 q3 q4 q5 q6 p0 p1 nbc pbc kbc bC hC4 hb6
  go_wp2_with fail
  generalize w6.heap.size = gr at *
  generalize w6.alloc (.cells #[.int .i64 xk, .int .u64 (xb : Int)] 36) = w7 at *
  have EQ : ∀ u : World, (if xk = 2 then if (xb : Int) = 1 then Result.ok (Next.value (.bool true)) u else Result.ok (Next.value (.bool false)) u else Result.ok (Next.value (.bool false)) u) = Result.ok (Next.value (.bool (decide ((xk, xb) = (2, 1))))) u := fun u => by
    by_cases h1 : xk = 2 <;> by_cases h2 : xb = 1
    · subst h1 h2; simp
    · have h3 : ¬ (xb : Int) = 1 := by omega
      subst h1; simp [h2, h3]
    · subst h2; simp [h1]
    · simp [h1, h2]
  generalize decide ((xk, xb) = (2, 1)) = bb at *
  replace EQ := Lib.hid EQ
  have KD := G.keepsD_true []
  refine G.region_words (Kept4 w4 g gr gk w.heap.size 25 36 34 27 #[.int .i64 xk, .int .u64 (xb : Int)] #[.slice A1 z1.length c1, .slice A2 z2.length c2, .int .i64 cu2] #[.int .i64 op0, .int .i64 kd0, .slice AN0 t0.length cN0, .int .i64 vk0, .int .u64 (vb0 : Int), .int .i64 pos0, .int .i64 attr0]) [G.isW (.bool true), G.isW (.bool true), G.isW (.agg #[.int .i64 xk, .int .u64 (xb : Int)]), G.isW (.agg #[.int .i64 xk, .int .u64 (xb : Int)]), G.isW (.bool true), G.isW (.bool true), G.isW (.bool true), G.isW (.slice (some ⟨ab, ao, none⟩) 1 c3x), G.isW (.agg #[.slice A1 z1.length c1, .slice A2 z2.length c2, .int .i64 cu2]), G.isW (.bool bb), G.isW (.agg #[.int .i64 xk, .int .u64 (xb : Int)]), G.isW (.agg #[.int .i64 2, .int .u64 1]), G.isW (.bool bb), G.isW (.bool true), G.isW (.bool true), G.isW (.bool true), G.isW (.slice (some ⟨ab, ao, none⟩) 1 c3x), G.isW (.agg #[.int .i64 op0, .int .i64 kd0, .slice AN0 t0.length cN0, .int .i64 vk0, .int .u64 (vb0 : Int), .int .i64 pos0, .int .i64 attr0]), OneN (.mk op0 kd0 vk0 vb0 pos0 attr0 t0), G.isW (.bool true), G.isW (.bool true), G.isW (.bool true)] (by kernel_rfl) (by repeat' (first | exact G.monoL_nil | exact G.is_mono _ | exact G.any_mono | exact onen_mono _ | refine G.monoL_cons ?_ ?_)) (by kernel_rfl) (by kernel_rfl) (fun _ _ h hb => Kept4.keep h hb) (KP.out.keep (Below.refl _ _).drew) ?_ ?_
  · intro KC
    refine G.stepsL_cons (fun a u hc hdd hd hk hdep => ?_) ?_
    ·
      refine G.step_call KC KD hc hdd rfl 10 #[] (G.wanted_plain rfl) (by first | (go_simp; done) | rfl) ?_
      exact (awake9 u).mono (by rintro e w' ⟨rfl, hb⟩; exact ⟨_, rfl, rfl, hb⟩)
    refine G.stepsL_cons (fun a u hc hdd hd hk hdep => ?_) ?_
    ·
      have d32 : (a.tmps[32]?).getD undef = (.bool true) := hdep ⟨0, .data⟩ (by simp) rfl
      refine G.step_val KC KD hc hdd rfl (.bool true) u (G.wanted_plain rfl) ?_ rfl (Below.refl _ _)
      first | (go_simp; done) | rfl | (simp [go_sem, *]; done)
    refine G.stepsL_cons (fun a u hc hdd hd hk hdep => ?_) ?_
    ·
      have d9 : (a.tmps[9]?).getD undef = (.pointer (some ⟨g, 0, none⟩)) := hk 9 (by kernel_rfl)
      refine G.step_val KC KD hc hdd rfl (.agg #[.int .i64 xk, .int .u64 (xb : Int)]) u ((G.wanted_guard (j := 1) (b := true) (c := true) rfl (hdep ⟨1, .guard⟩ (by simp) rfl)).trans rfl) ?_ rfl (Below.refl _ _)
      have hx := hc
      obtain ⟨b1, b2, b3, b4, -⟩ := hx
      have s10 := b1.cell 0
      have s11 := b1.cell 1
      have s20 := b2.cell 0
      have s21 := b2.cell 1
      have s30 := b3.cell 0
      have s31 := b3.cell 1
      have s32 := b3.cell 2
      have s40 := b4.cell 0
      have s41 := b4.cell 1
      have s42 := b4.cell 2
      have s43 := b4.cell 3
      have s44 := b4.cell 4
      have s45 := b4.cell 5
      have s46 := b4.cell 6
      simp only [List.getElem?_toArray, List.getElem?_cons_zero, List.getElem?_cons_succ] at s10 s11 s20 s21 s30 s31 s32 s40 s41 s42 s43 s44 s45 s46
      clear b1 b2 b3 b4
      first | (go_simp; done) | rfl | (simp [go_sem, *]; done)
    refine G.stepsL_cons (fun a u hc hdd hd hk hdep => ?_) ?_
    ·
      have d10 : (a.tmps[10]?).getD undef = (.pointer (some ⟨gr, 0, none⟩)) := hk 10 (by kernel_rfl)
      refine G.step_val KC KD hc hdd rfl (.agg #[.int .i64 xk, .int .u64 (xb : Int)]) u ((G.wanted_guard (j := 1) (b := true) (c := true) rfl (hdep ⟨1, .guard⟩ (by simp) rfl)).trans rfl) ?_ rfl (Below.refl _ _)
      have hx := hc
      obtain ⟨b1, b2, b3, b4, -⟩ := hx
      have s10 := b1.cell 0
      have s11 := b1.cell 1
      have s20 := b2.cell 0
      have s21 := b2.cell 1
      have s30 := b3.cell 0
      have s31 := b3.cell 1
      have s32 := b3.cell 2
      have s40 := b4.cell 0
      have s41 := b4.cell 1
      have s42 := b4.cell 2
      have s43 := b4.cell 3
      have s44 := b4.cell 4
      have s45 := b4.cell 5
      have s46 := b4.cell 6
      simp only [List.getElem?_toArray, List.getElem?_cons_zero, List.getElem?_cons_succ] at s10 s11 s20 s21 s30 s31 s32 s40 s41 s42 s43 s44 s45 s46
      clear b1 b2 b3 b4
      first | (go_simp; done) | rfl | (simp [go_sem, *]; done)
    refine G.stepsL_cons (fun a u hc hdd hd hk hdep => ?_) ?_
    ·
      have d34 : (a.tmps[34]?).getD undef = (.agg #[.int .i64 xk, .int .u64 (xb : Int)]) := hdep ⟨2, .data⟩ (by simp) rfl
      have d35 : (a.tmps[35]?).getD undef = (.agg #[.int .i64 xk, .int .u64 (xb : Int)]) := hdep ⟨3, .data⟩ (by simp) rfl
      refine G.step_val KC KD hc hdd rfl (.bool true) u ((G.wanted_guard (j := 1) (b := true) (c := true) rfl (hdep ⟨1, .guard⟩ (by simp) rfl)).trans rfl) ?_ rfl (Below.refl _ _)
      first | (go_simp; done) | (simp [go_sem, *]; done)
    refine G.stepsL_cons (fun a u hc hdd hd hk hdep => ?_) ?_
    ·
      have d33 : (a.tmps[33]?).getD undef = (.bool true) := hdep ⟨1, .data⟩ (by simp) rfl
      have d36 : (a.tmps[36]?).getD undef = (.bool true) := hdep ⟨4, .data⟩ (by simp) rfl
      refine G.step_val KC KD hc hdd rfl (.bool true) u (G.wanted_plain rfl) ?_ rfl (Below.refl _ _)
      first | (go_simp; done) | rfl | (simp [go_sem, *]; done)
    refine G.stepsL_cons (fun a u hc hdd hd hk hdep => ?_) ?_
    ·
      have d37 : (a.tmps[37]?).getD undef = (.bool true) := hdep ⟨5, .data⟩ (by simp) rfl
      refine G.step_val KC KD hc hdd rfl (.bool true) u (G.wanted_plain rfl) ?_ rfl (Below.refl _ _)
      first | (go_simp; done) | rfl | (simp [go_sem, *]; done)
    refine G.stepsL_cons (fun a u hc hdd hd hk hdep => ?_) ?_
    ·
      have d7 : (a.tmps[7]?).getD undef = (.slice (some ⟨ab, ao, none⟩) 1 c3x) := hk 7 (by kernel_rfl)
      refine G.step_val KC KD hc hdd rfl (.slice (some ⟨ab, ao, none⟩) 1 c3x) u ((G.wanted_guard (j := 6) (b := true) (c := true) rfl (hdep ⟨6, .guard⟩ (by simp) rfl)).trans rfl) ?_ rfl (Below.refl _ _)
      first | (go_simp; done) | rfl | (simp [go_sem, *]; done)
    refine G.stepsL_cons (fun a u hc hdd hd hk hdep => ?_) ?_
    ·
      have d8 : (a.tmps[8]?).getD undef = (.pointer (some ⟨gk, 0, none⟩)) := hk 8 (by kernel_rfl)
      refine G.step_val KC KD hc hdd rfl (.agg #[.slice A1 z1.length c1, .slice A2 z2.length c2, .int .i64 cu2]) u ((G.wanted_guard (j := 6) (b := true) (c := true) rfl (hdep ⟨6, .guard⟩ (by simp) rfl)).trans rfl) ?_ rfl (Below.refl _ _)
      have hx := hc
      obtain ⟨b1, b2, b3, b4, -⟩ := hx
      have s10 := b1.cell 0
      have s11 := b1.cell 1
      have s20 := b2.cell 0
      have s21 := b2.cell 1
      have s30 := b3.cell 0
      have s31 := b3.cell 1
      have s32 := b3.cell 2
      have s40 := b4.cell 0
      have s41 := b4.cell 1
      have s42 := b4.cell 2
      have s43 := b4.cell 3
      have s44 := b4.cell 4
      have s45 := b4.cell 5
      have s46 := b4.cell 6
      simp only [List.getElem?_toArray, List.getElem?_cons_zero, List.getElem?_cons_succ] at s10 s11 s20 s21 s30 s31 s32 s40 s41 s42 s43 s44 s45 s46
      clear b1 b2 b3 b4
      first | (go_simp; done) | rfl | (simp [go_sem, *]; done)
    refine G.stepsL_cons (fun a u hc hdd hd hk hdep => ?_) ?_
    ·
      have d39 : (a.tmps[39]?).getD undef = (.slice (some ⟨ab, ao, none⟩) 1 c3x) := hdep ⟨7, .data⟩ (by simp) rfl
      have d40 : (a.tmps[40]?).getD undef = (.agg #[.slice A1 z1.length c1, .slice A2 z2.length c2, .int .i64 cu2]) := hdep ⟨8, .data⟩ (by simp) rfl
      refine G.step_call KC KD hc hdd rfl 11 #[.slice (some ⟨ab, ao, none⟩) 1 c3x, .agg #[.slice A1 z1.length c1, .slice A2 z2.length c2, .int .i64 cu2]] ((G.wanted_guard (j := 6) (b := true) (c := true) rfl (hdep ⟨6, .chain⟩ (by simp) rfl)).trans rfl) (by first | (go_simp; done) | rfl) ?_
      exact (AN.out u hc.2.2.2.2).mono (by rintro e w' ⟨rfl, hb⟩; exact ⟨_, rfl, rfl, hb⟩)
    refine G.stepsL_cons (fun a u hc hdd hd hk hdep => ?_) ?_
    ·
      have d10 : (a.tmps[10]?).getD undef = (.pointer (some ⟨gr, 0, none⟩)) := hk 10 (by kernel_rfl)
      refine G.step_val KC KD hc hdd rfl (.agg #[.int .i64 xk, .int .u64 (xb : Int)]) u ((G.wanted_guard (j := 6) (b := true) (c := true) rfl (hdep ⟨6, .guard⟩ (by simp) rfl)).trans rfl) ?_ rfl (Below.refl _ _)
      have hx := hc
      obtain ⟨b1, b2, b3, b4, -⟩ := hx
      have s10 := b1.cell 0
      have s11 := b1.cell 1
      have s20 := b2.cell 0
      have s21 := b2.cell 1
      have s30 := b3.cell 0
      have s31 := b3.cell 1
      have s32 := b3.cell 2
      have s40 := b4.cell 0
      have s41 := b4.cell 1
      have s42 := b4.cell 2
      have s43 := b4.cell 3
      have s44 := b4.cell 4
      have s45 := b4.cell 5
      have s46 := b4.cell 6
      simp only [List.getElem?_toArray, List.getElem?_cons_zero, List.getElem?_cons_succ] at s10 s11 s20 s21 s30 s31 s32 s40 s41 s42 s43 s44 s45 s46
      clear b1 b2 b3 b4
      first | (go_simp; done) | rfl | (simp [go_sem, *]; done)
    refine G.stepsL_cons (fun a u hc hdd hd hk hdep => ?_) ?_
    ·
      refine G.step_call KC KD hc hdd rfl 12 #[.bool true] ((G.wanted_guard (j := 6) (b := true) (c := true) rfl (hdep ⟨6, .guard⟩ (by simp) rfl)).trans rfl) (by first | (go_simp; done) | rfl) ?_
      exact (rtruth_true u).mono (by rintro e w' ⟨rfl, hb⟩; exact ⟨_, rfl, rfl, hb⟩)
    refine G.stepsL_cons (fun a u hc hdd hd hk hdep => ?_) ?_
    ·
      have d42 : (a.tmps[42]?).getD undef = (.agg #[.int .i64 xk, .int .u64 (xb : Int)]) := hdep ⟨10, .data⟩ (by simp) rfl
      have d43 : (a.tmps[43]?).getD undef = (.agg #[.int .i64 2, .int .u64 1]) := hdep ⟨11, .data⟩ (by simp) rfl
      refine G.step_val KC KD hc hdd rfl (.bool bb) u ((G.wanted_guard (j := 6) (b := true) (c := true) rfl (hdep ⟨6, .guard⟩ (by simp) rfl)).trans rfl) ?_ rfl (Below.refl _ _)
      go_simp
      exact EQ.out u
    refine G.stepsL_cons (fun a u hc hdd hd hk hdep => ?_) ?_
    ·
      have d41 : (a.tmps[41]?).getD undef = (.bool bb) := hdep ⟨9, .data⟩ (by simp) rfl
      have d44 : (a.tmps[44]?).getD undef = (.bool bb) := hdep ⟨12, .data⟩ (by simp) rfl
      refine G.step_val KC KD hc hdd rfl (.bool true) u ((G.wanted_guard (j := 6) (b := true) (c := true) rfl (hdep ⟨6, .guard⟩ (by simp) rfl)).trans rfl) ?_ rfl (Below.refl _ _)
      cases bb <;> first | (go_simp; done) | (simp [go_sem, *]; done)
    refine G.stepsL_cons (fun a u hc hdd hd hk hdep => ?_) ?_
    ·
      have d38 : (a.tmps[38]?).getD undef = (.bool true) := hdep ⟨6, .data⟩ (by simp) rfl
      have d45 : (a.tmps[45]?).getD undef = (.bool true) := hdep ⟨13, .data⟩ (by simp) rfl
      refine G.step_val KC KD hc hdd rfl (.bool true) u (G.wanted_plain rfl) ?_ rfl (Below.refl _ _)
      first | (go_simp; done) | rfl | (simp [go_sem, *]; done)
    refine G.stepsL_cons (fun a u hc hdd hd hk hdep => ?_) ?_
    ·
      have d46 : (a.tmps[46]?).getD undef = (.bool true) := hdep ⟨14, .data⟩ (by simp) rfl
      refine G.step_val KC KD hc hdd rfl (.bool true) u (G.wanted_plain rfl) ?_ rfl (Below.refl _ _)
      first | (go_simp; done) | rfl | (simp [go_sem, *]; done)
    refine G.stepsL_cons (fun a u hc hdd hd hk hdep => ?_) ?_
    ·
      have d7 : (a.tmps[7]?).getD undef = (.slice (some ⟨ab, ao, none⟩) 1 c3x) := hk 7 (by kernel_rfl)
      refine G.step_val KC KD hc hdd rfl (.slice (some ⟨ab, ao, none⟩) 1 c3x) u ((G.wanted_guard (j := 15) (b := true) (c := true) rfl (hdep ⟨15, .guard⟩ (by simp) rfl)).trans rfl) ?_ rfl (Below.refl _ _)
      first | (go_simp; done) | rfl | (simp [go_sem, *]; done)
    refine G.stepsL_cons (fun a u hc hdd hd hk hdep => ?_) ?_
    ·
      have d3 : (a.tmps[3]?).getD undef = (.pointer (some ⟨w.heap.size, 0, none⟩)) := hk 3 (by kernel_rfl)
      refine G.step_val KC KD hc hdd rfl (.agg #[.int .i64 op0, .int .i64 kd0, .slice AN0 t0.length cN0, .int .i64 vk0, .int .u64 (vb0 : Int), .int .i64 pos0, .int .i64 attr0]) u ((G.wanted_guard (j := 15) (b := true) (c := true) rfl (hdep ⟨15, .guard⟩ (by simp) rfl)).trans rfl) ?_ rfl (Below.refl _ _)
      have hx := hc
      obtain ⟨b1, b2, b3, b4, -⟩ := hx
      have s10 := b1.cell 0
      have s11 := b1.cell 1
      have s20 := b2.cell 0
      have s21 := b2.cell 1
      have s30 := b3.cell 0
      have s31 := b3.cell 1
      have s32 := b3.cell 2
      have s40 := b4.cell 0
      have s41 := b4.cell 1
      have s42 := b4.cell 2
      have s43 := b4.cell 3
      have s44 := b4.cell 4
      have s45 := b4.cell 5
      have s46 := b4.cell 6
      simp only [List.getElem?_toArray, List.getElem?_cons_zero, List.getElem?_cons_succ] at s10 s11 s20 s21 s30 s31 s32 s40 s41 s42 s43 s44 s45 s46
      clear b1 b2 b3 b4
      first | (go_simp; done) | rfl | (simp [go_sem, *]; done)
    refine G.stepsL_cons (fun a u hc hdd hd hk hdep => ?_) ?_
    ·
      have d49 : (a.tmps[49]?).getD undef = (.agg #[.int .i64 op0, .int .i64 kd0, .slice AN0 t0.length cN0, .int .i64 vk0, .int .u64 (vb0 : Int), .int .i64 pos0, .int .i64 attr0]) := hdep ⟨17, .data⟩ (by simp) rfl
      have hNN := node_made u hc.2.2.2.2 op0 kd0 vk0 vb0 pos0 attr0 AN0 cN0 t0 x0 (NodesIs.later hW4.out n0.out)
      refine G.step_val KC KD hc hdd rfl (.slice (some ⟨u.heap.size, 0, none⟩) 1 1) (u.alloc (.cells #[.int .i64 op0, .int .i64 kd0, .slice AN0 t0.length cN0, .int .i64 vk0, .int .u64 (vb0 : Int), .int .i64 pos0, .int .i64 attr0] 27)) ((G.wanted_guard (j := 15) (b := true) (c := true) rfl (hdep ⟨15, .guard⟩ (by simp) rfl)).trans rfl) ?_ ⟨u.heap.size, rfl, hNN⟩ (m1 _ _)
      first | (go_simp; done) | rfl | (simp [go_sem, *]; done)
    refine G.stepsL_cons (fun a u hc hdd hd hk hdep => ?_) ?_
    ·
      have d48 : (a.tmps[48]?).getD undef = (.slice (some ⟨ab, ao, none⟩) 1 c3x) := hdep ⟨16, .data⟩ (by simp) rfl
      have d50' : (OneN (.mk op0 kd0 vk0 vb0 pos0 attr0 t0)) ((a.tmps[50]?).getD undef) u := hdep ⟨18, .data⟩ (by simp) rfl
      obtain ⟨gp, d50, hp⟩ := d50'
      refine G.step_call KC KD hc hdd rfl 13 #[.slice (some ⟨ab, ao, none⟩) 1 c3x, .slice (some ⟨gp, 0, none⟩) 1 1] ((G.wanted_guard (j := 15) (b := true) (c := true) rfl (hdep ⟨15, .chain⟩ (by simp) rfl)).trans rfl) (by first | (go_simp; done) | rfl) ?_
      exact (SN.out u gp hc.2.2.2.2 hp).mono (by rintro e w' ⟨rfl, hb⟩; exact ⟨_, rfl, rfl, hb⟩)
    refine G.stepsL_cons (fun a u hc hdd hd hk hdep => ?_) ?_
    ·
      have d47 : (a.tmps[47]?).getD undef = (.bool true) := hdep ⟨15, .data⟩ (by simp) rfl
      have d51 : (a.tmps[51]?).getD undef = (.bool true) := hdep ⟨19, .data⟩ (by simp) rfl
      refine G.step_val KC KD hc hdd rfl (.bool true) u (G.wanted_plain rfl) ?_ rfl (Below.refl _ _)
      first | (go_simp; done) | rfl | (simp [go_sem, *]; done)
    refine G.stepsL_cons (fun a u hc hdd hd hk hdep => ?_) ?_
    ·
      have d52 : (a.tmps[52]?).getD undef = (.bool true) := hdep ⟨20, .data⟩ (by simp) rfl
      refine G.step_val KC KD hc hdd rfl (.bool true) u (G.wanted_plain rfl) ?_ rfl (Below.refl _ _)
      first | (go_simp; done) | rfl | (simp [go_sem, *]; done)
    exact G.stepsL_nil
  intro vs' wN hN hh
  have e21 : vs' 21 = (.bool true) := by
    obtain ⟨-, -, -, -, -, -, -, -, -, -, -, -, -, -, -, -, -, -, -, -, -, eX, -⟩ := hh
    exact eX
  have hW5 := mmore hW4.out hN.2.2.2.2
  clear hh hN
  set_option maxRecDepth 100000 in simp only [putAll, Act.put, List.setIfInBounds_toArray, List.set_cons_zero, List.set_cons_succ, Nat.reduceAdd, e21]
  go_wp2
  exact bodyPost_ret (v := .bool true) (by simp [results, Try.results3, go_sem]) rfl ⟨rfl, hW5⟩
end Go.Proofs.Ytfjnphiegoogoaa.evn

/- EvQ -/
namespace Go.Proofs.Ytfjnphiegoogoaa
open Go.ChangeShapes Go.WideShapes Go.ChangeAt Go.RowKit Go.Joins
set_option linter.unusedVariables false
set_option linter.unusedSimpArgs false
section
variable {H : Type} {enc : TypeId × Value → H} {w : World}
set_option maxRecDepth 100000 in
theorem open_place9 {r : Reach} {b0 : Nat} {v : Value} {d : DataW H} {p : List MemPlace} (hv : Value.okWide Try.prog w r b0 31 v) (h : DataW.Trod enc Try.prog w 0 (fun _ => true) true 31 v d p) (hw : WB Try.prog 31 d) :
    ∃ (A : Option Addr) (c : Nat) (bs : List (List Int)) (cu : Int), v = .agg #[.slice A bs.length c, .int .i64 cu] ∧ KindsAt w A bs ∧ bs.length * 24 ≤ 140737488351232 ∧ ∀ l ∈ bs, l.length * 8 ≤ 140737488351232 := by
  obtain ⟨v0, v1, y0, y1, n, rfl, rfl, rfl, t0, t1⟩ := open_agg2 Try.underlying31 (by kernel_rfl) (by kernel_rfl) hv h
  obtain ⟨cu, e1, _, _⟩ := DataW.trod_int Try.underlying3 t1
  simp at e1
  subst e1
  have hW0 : WB Try.prog 29 y0.1 := wb_agg Try.underlying31 hw (j := 0) rfl rfl
  rcases Go.Deep.open_int_rows Try.underlying29 Try.underlying43 Try.underlying3 (by kernel_rfl) (by kernel_rfl) t0 with ⟨hcs, _⟩ | ⟨a, len, cap, Af, L, C, Z, hcs, _, hl, hm, hx, hcell⟩
  · simp at hcs
    subst hcs
    exact ⟨none, 0, [], _, rfl, fun hp => absurd hp (by simp), by decide, by simp⟩
  · simp at hcs
    subst hcs
    rw [hx] at hW0
    obtain ⟨hb, hw2⟩ := wb_slice Try.underlying29 hW0
    rw [show Try.prog.bytesOf 43 = 24 by kernel_rfl] at hb
    simp only [List.length_map, List.length_range, reachBytes] at hb
    refine ⟨some a, cap, (List.range len).map fun r => (Z r).take (L r), _, by simp; rfl, fun hp => ?_, by simpa using hb, fun l hm' => ?_⟩
    · have hp' : 0 < len := by simpa using hp
      obtain ⟨b, off, rfl⟩ := spot_of (hcell 0 (by omega)).1
      refine ⟨b, off, rfl, fun i ks hi => ?_⟩
      have hil : i < len := by have := (List.getElem?_eq_some_iff.1 hi).1; simpa using this
      rw [List.getElem?_map, List.getElem?_range hil] at hi
      simp at hi
      subst hi
      obtain ⟨h0, h1, h2, h3, h4, h5, h6⟩ := hcell i (by omega)
      rw [add_plain] at h0
      refine ⟨_, h0, Af i, C i, by rw [List.length_take, h3, Nat.min_eq_left h1], fun hp2 => ?_⟩
      cases hA : Af i with
      | none => rw [List.length_take, h3] at hp2; have := h5 hA; omega
      | some a' =>
        have hc := (h6 a' hA).2
        obtain ⟨b2, off2, rfl⟩ := spot_of (hc 0 (by rw [List.length_take, h3] at hp2; omega))
        refine ⟨b2, off2, rfl, fun j z hj => ?_⟩
        have hj2 : j < L i := by have := (List.getElem?_eq_some_iff.1 hj).1; rw [List.length_take] at this; omega
        rw [List.getElem?_take_of_lt hj2] at hj
        have := hc j (by omega)
        rw [add_plain, List.getD_eq_getElem?_getD, hj] at this
        exact this
    · obtain ⟨i, hi, rfl⟩ := List.mem_map.1 hm'
      have hi' := List.mem_range.1 hi
      have hW := hw2 _ (List.mem_map.2 ⟨i, hi, rfl⟩)
      obtain ⟨h0, h1, h2, h3, h4, h5, h6⟩ := hcell i (by omega)
      rw [List.length_take]
      cases hA : Af i with
      | none => have := h5 hA; omega
      | some a' =>
        rw [hA] at hW
        have hb2 := (wb_slice Try.underlying43 hW).1
        rw [show Try.prog.bytesOf 3 = 8 by kernel_rfl] at hb2
        simp only [lits, List.length_map, List.length_take, h3, reachBytes] at hb2
        omega
end
end Go.Proofs.Ytfjnphiegoogoaa
