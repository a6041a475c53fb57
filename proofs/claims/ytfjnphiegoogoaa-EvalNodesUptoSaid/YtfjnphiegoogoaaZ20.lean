/- RApp -/
import Derived.Test.YtfjnphiegoogoaaZ19
import Derived.Test.YtfjnphiegoogoaaZ00
import Derived.Deep.RegionHeld3
/- RApp -/
namespace Go.Proofs.Ytfjnphiegoogoaa
open Go.ChangeShapes Go.WideShapes Go.ChangeAt Go.RowKit Go.Fl
set_option linter.unusedVariables false
set_option linter.unusedSimpArgs false

theorem infoR : (Try.prog.info? 36).map (fun i => (i.zero, i.size, i.bytes)) = some (some (.agg #[.int .i64 0, .int .u64 0]), 2, 16) := by kernel_rfl
theorem infoK : (Try.prog.info? 3).map (fun i => (i.zero, i.size, i.bytes)) = some (some (.int .i64 0), 1, 8) := by kernel_rfl

/-- two rows of the call's own whose elements are of two types lie apart -/
theorem own_own_ne {w : World} {base base' : Nat} {e e' : TypeId} {size size' n n' : Nat} {v v' : Value} {xs xs' : List Value} (h : w.ownsRow base e size v n xs) (h' : w.ownsRow base' e' size' v' n' xs') (hne : e ≠ e') : v.ownBlock = none ∨ v.ownBlock ≠ v'.ownBlock := by
  rcases h.2 with ⟨rfl, _⟩ | ⟨g, cap, cur, rfl, _, hh, _⟩
  · left; rfl
  · right
    intro e1
    rcases h'.2 with ⟨rfl, _⟩ | ⟨g', cap', cur', rfl, _, hh', _⟩
    · simp [Value.ownBlock] at e1
    · have : g = g' := by simpa [Value.ownBlock] using e1
      subst this
      rw [hh] at hh'
      injection hh' with h1
      injection h1 with _ h2
      exact hne h2

def cleans (vs : List (Int × Nat)) : List (Int × Nat) := vs.map fun v => (clK v.1 v.2, clB v.1 v.2)
def kinds (vs : List (Int × Nat)) : List Int := vs.map fun v => clK v.1 v.2
def cellsK (zs : List Int) : List Value := zs.map fun z => .int .i64 z
theorem cleans_snoc (vs : List (Int × Nat)) (k : Nat) (v : Int × Nat) (h : vs[k]? = some v) : cellsV ((cleans vs).take (k + 1)) = cellsV ((cleans vs).take k) ++ [.int .i64 (clK v.1 v.2), .int .u64 ((clB v.1 v.2 : Nat) : Int)] :=
  cellsV_snoc (cleans vs) k (clK v.1 v.2, clB v.1 v.2) (by simp [cleans, h])
theorem kinds_snoc (vs : List (Int × Nat)) (k : Nat) (v : Int × Nat) (h : vs[k]? = some v) : cellsK ((kinds vs).take (k + 1)) = cellsK ((kinds vs).take k) ++ [.int .i64 (clK v.1 v.2)] := by
  rw [List.take_add_one]
  simp [cellsK, kinds, h]
theorem own_rowK {w : World} {base n : Nat} {e : TypeId} {v : Value} {zs : List Int} (hn : zs.length = n) (h : w.ownsRow base e 1 v n (cellsK zs)) : ∃ A cap, v = .slice A n cap ∧ RowI .i64 w A n zs := by
  subst hn
  by_cases z : zs.length = 0
  · have hnil : zs = [] := List.eq_nil_of_length_eq_zero z
    subst hnil
    rcases h.2 with ⟨rfl, _⟩ | ⟨g, cap, cur, rfl, _⟩
    · exact ⟨none, 0, rfl, rfl, fun h => absurd h (by simp)⟩
    · exact ⟨some ⟨g, 0, none⟩, cap, rfl, rfl, fun h => absurd h (by simp)⟩
  · obtain ⟨g, cap, rfl, _, _⟩ := h.form (by omega)
    have hc := h.cells (g := g) rfl
    refine ⟨_, cap, rfl, rfl, fun _ => ⟨g, 0, rfl, fun i z hi => ?_⟩⟩
    have hx : (cellsK zs)[i]? = some (.int .i64 z) := by simp [cellsK, hi]
    have := hc _ _ hx
    rw [show (⟨g, 0 + i, none⟩ : Addr) = (⟨g, 0, none⟩ : Addr).add i by unfold Addr.add; split <;> simp_all]
    exact this

def RAppR (u : World) (vs : List (Int × Nat)) (l m i : Value) (wr : World) : Prop :=
  ∃ k : Nat, k ≤ vs.length ∧ i = .int .i64 (k : Int) ∧ wr.ownsRow u.heap.size 36 2 l k (cellsV ((cleans vs).take k)) ∧ wr.ownsRow u.heap.size 3 1 m k (cellsK ((kinds vs).take k)) ∧ Below u.heap.size u wr

/-- any two clean values of one kind, as the document compares them -/
theorem rcompare_any (op k : Int) (b c : Nat) (w : World) (h7 : 7 ≤ op) (h12 : op ≤ 12) (h1 : isClean (k, b)) (h2 : isClean (k, c)) (hb : b < 18446744073709551616) (hc : c < 18446744073709551616) :
    Calls Try.prog 35 #[.int .i64 op, .agg #[.int .i64 k, .int .u64 (b : Int)], .agg #[.int .i64 k, .int .u64 (c : Int)]] w fun e w' => e = .returned (.agg #[.int .i64 2, .int .u64 ((b2n (cmpB op k b c) : Nat) : Int)]) ∧ Below w.heap.size w w' := by
  by_cases k4 : k = 4
  · subst k4
    have hr : b2n (cmpS op (eqB b c) (ltB b c) (ltB c b)) = b2n (cmpB op 4 b c) := rfl
    by_cases e : c = b <;> cases l : decide (vordP 4 b 4 c < 0)
    · exact rcmp_r01 op b c _ w h7 h12 hb hc l e hr
    · exact rcmp_r11 op b c _ w h7 h12 hb hc l e hr
    · exact rcmp_r00 op b c _ w h7 h12 hb hc l (fun h => e h.symm) hr
    · exact rcmp_r10 op b c _ w h7 h12 hb hc l (fun h => e h.symm) hr
  · have hv := vord_whole k b c k4 h1 h2
    have hE : eqV2 k b c = decide (b = c) := by
      unfold eqV2
      rw [if_neg k4]
      rw [Bool.eq_iff_iff]; simp; omega
    have hk1 : k = 1 ∨ (b < 9223372036854775808 ∧ c < 9223372036854775808) := by
      by_cases k1 : k = 1
      · exact .inl k1
      · right
        unfold isClean at h1 h2
        simp only at h1 h2
        have a := clB_small k b (by rw [h1.1]; exact k1) (by rw [h1.1]; exact k4)
        have d := clB_small k c (by rw [h2.1]; exact k1) (by rw [h2.1]; exact k4)
        rw [h1.2] at a; rw [h2.2] at d
        omega
    have hL : ltV k b c = decide (wrap64 (b : Int) < wrap64 (c : Int)) := by unfold ltV; rw [if_neg k4]
    have hG : ltV k c b = decide (wrap64 (c : Int) < wrap64 (b : Int)) := by unfold ltV; rw [if_neg k4]
    have wb : wrap64 (b : Int) = wrap64 (c : Int) ↔ b = c := by unfold wrap64; omega
    rcases (show wrap64 (b : Int) < wrap64 (c : Int) ∨ b = c ∨ wrap64 (c : Int) < wrap64 (b : Int) by omega) with h | h | h
    · exact rcmp_w0 op k b c _ w h7 h12 k4 hb hc (by rw [hv, hL]; exact decide_eq_true h) (by omega) (by unfold cmpB; rw [hE, hL, hG, decide_eq_false (by omega : ¬ b = c), decide_eq_true h, decide_eq_false (by omega)])
    · subst h
      exact rcmp_w1 op k b b _ w h7 h12 k4 hb hc (by rw [hv, hL]; exact decide_eq_false (by omega)) rfl (by unfold cmpB; rw [hE, hL, decide_eq_true rfl, decide_eq_false (by omega)])
    · exact rcmp_w2 op k b c _ w h7 h12 k4 hb hc (by rw [hv, hL]; exact decide_eq_false (by omega)) (by omega) (by unfold cmpB; rw [hE, hL, hG, decide_eq_false (by omega : ¬ b = c), decide_eq_false (by omega), decide_eq_true h])

/-! ### the end, in plain words -/
theorem cells_two {w : World} {b off : Nat} {v1 v2 : Int × Nat} (h : ∀ (i : Nat) (k : Int) (c : Nat), [v1, v2][i]? = some (k, c) → w.cell? ⟨b, off + i * 2, none⟩ = some (.int .i64 k) ∧ w.cell? ⟨b, off + i * 2 + 1, none⟩ = some (.int .u64 (c : Int))) :
    w.cell? ⟨b, off, none⟩ = some (.int .i64 v1.1) ∧ w.cell? ⟨b, off + 1, none⟩ = some (.int .u64 (v1.2 : Int)) ∧ w.cell? ⟨b, off + 2, none⟩ = some (.int .i64 v2.1) ∧ w.cell? ⟨b, off + 2 + 1, none⟩ = some (.int .u64 (v2.2 : Int)) := by
  have h0 := h 0 v1.1 v1.2 rfl
  have h1 := h 1 v2.1 v2.2 rfl
  simp only [Nat.zero_mul, Nat.add_zero, Nat.one_mul] at h0 h1
  exact ⟨h0.1, h0.2, h1.1, h1.2⟩
theorem cells_one {w : World} {b off : Nat} {v1 : Int × Nat} (h : ∀ (i : Nat) (k : Int) (c : Nat), [v1][i]? = some (k, c) → w.cell? ⟨b, off + i * 2, none⟩ = some (.int .i64 k) ∧ w.cell? ⟨b, off + i * 2 + 1, none⟩ = some (.int .u64 (c : Int))) :
    w.cell? ⟨b, off, none⟩ = some (.int .i64 v1.1) ∧ w.cell? ⟨b, off + 1, none⟩ = some (.int .u64 (v1.2 : Int)) := by
  have h0 := h 0 v1.1 v1.2 rfl
  simp only [Nat.zero_mul, Nat.add_zero] at h0
  exact h0

theorem app_none (op : Int) (vs : List (Int × Nat)) (h : vs.length = 2 → op ≠ 13 ∧ op ≠ 14) (hz : resP op (kinds vs) = 0) : appP op vs = (0, 0) := by
  match vs, h, hz with
  | [], _, _ => rfl
  | [a], _, hz =>
    have hz : r1P op (clK a.1 a.2) = 0 := hz
    show appOne op (clK a.1 a.2) (clB a.1 a.2) = (0, 0)
    generalize clK a.1 a.2 = k at *
    unfold r1P at hz
    unfold appOne
    (repeat' split at hz) <;> (repeat' split) <;> first | rfl | (exfalso; omega)
  | [a, b], h, hz =>
    obtain ⟨n13, n14⟩ := h rfl
    have hz : resP op [clK a.1 a.2, clK b.1 b.2] = 0 := hz
    show appTwo op (clK a.1 a.2) (clB a.1 a.2) (clK b.1 b.2) (clB b.1 b.2) = (0, 0)
    unfold appTwo
    rw [if_neg n13, if_neg n14, if_pos]
    by_cases e : clK a.1 a.2 = clK b.1 b.2
    · right
      rw [← e] at hz
      rw [resP_eq]; exact hz
    · exact .inl e
  | _ :: _ :: _ :: _, _, _ => rfl

theorem clean_clean (k : Int) (b : Nat) : isClean (clK k b, clB k b) := by
  have h := cn_cn b
  unfold isClean clK clB
  simp only
  (repeat' split) <;> first | omega | simp_all
theorem res_shape (op : Int) (vs : List (Int × Nat)) (hz : resP op (kinds vs) ≠ 0) : (∃ a, vs = [a] ∧ r1P op (clK a.1 a.2) ≠ 0) ∨ ∃ a b, vs = [a, b] ∧ clK a.1 a.2 = clK b.1 b.2 ∧ r2P op (clK a.1 a.2) ≠ 0 := by
  match vs, hz with
  | [], hz => exact absurd rfl hz
  | [a], hz => exact .inl ⟨a, rfl, hz⟩
  | [a, b], hz =>
    right
    have hz : resP op [clK a.1 a.2, clK b.1 b.2] ≠ 0 := hz
    by_cases e : clK a.1 a.2 = clK b.1 b.2
    · refine ⟨a, b, rfl, e, ?_⟩
      rw [← e, ← resP_eq] at hz
      exact hz
    · exact absurd (resP_ne op _ _ e).symm hz
  | _ :: _ :: _ :: _, hz => exact absurd rfl hz

theorem two_shape (op x : Int) (hr : r2P op x ≠ 0) (n13 : op ≠ 13) (n14 : op ≠ 14) : (7 ≤ op ∧ op ≤ 12 ∧ r2P op x = 2) ∨ (x = 4 ∧ 1 ≤ op ∧ op ≤ 4) ∨ (x = 1 ∧ 1 ≤ op ∧ op ≤ 5) := by
  unfold r2P at hr ⊢
  (repeat' split at hr) <;> (repeat' split) <;> omega
theorem one_shape (op x : Int) (hr : r1P op x ≠ 0) : (op = 6 ∧ x = 1) ∨ (op = 6 ∧ x = 4) ∨ (op = 15 ∧ x = 2) ∨ (op = 16 ∧ x = 1) ∨ (op = 17 ∧ x = 4) := by
  unfold r1P at hr
  (repeat' split at hr) <;> omega
theorem not_b2n (c : Nat) (h : isClean (2, c)) : appOne 15 2 c = (2, b2n (wrap64 (c : Int) == 0)) := by
  have hc : c ≤ 1 := by
    have := cl_bool 2 c h.1
    have e : clB 2 c = c := h.2
    rw [e] at this; exact this
  unfold appOne
  rw [if_pos ⟨rfl, rfl⟩]
  have e : (wrap64 (c : Int) == 0) = decide (c = 0) := by
    rw [Bool.eq_iff_iff]; simp; unfold wrap64; omega
  rw [e]
  unfold b2n
  by_cases z : c = 0 <;> simp [z]

set_option maxHeartbeats 8000000 in
set_option maxRecDepth 100000 in
theorem rapply_any (op : Int) (A : Option Addr) (n cap : Nat) (vs : List (Int × Nat)) (w : World) (hv : RowV w A n vs) (hreach : n * 16 ≤ 140737488351232) :
    Calls Try.prog 21 #[.int .i64 op, .slice A n cap] w fun e w' => e = .returned (.agg #[.int .i64 (appP op vs).1, .int .u64 (((appP op vs).2 : Nat) : Int)]) ∧ Below w.heap.size w w' := by
  obtain ⟨i0, hi, hz0, hz1, hz2⟩ := info_parts infoR
  obtain ⟨j0, hj, hy0, hy1, hy2⟩ := info_parts infoK
  obtain ⟨hlen, hbits, hc0⟩ := hv
  obtain rfl : vs.length = n := hlen
  go_enter Try.func21, Try.ntmps21
  go_wp2_with fail
  have hb0 := below1 w (.cells #[.int .i64 0, .int .u64 0] 36)
  have p4 : (w.alloc (.cells #[.int .i64 0, .int .u64 0] 36)).cell? ⟨w.heap.size, 0, none⟩ = some (.int .i64 0) := by simp [go_sem]
  have p5 : (w.alloc (.cells #[.int .i64 0, .int .u64 0] 36)).cell? ⟨w.heap.size, 1, none⟩ = some (.int .u64 0) := by simp [go_sem]
  have p6 : (w.alloc (.cells #[.int .i64 0, .int .u64 0] 36)).frozen? ⟨w.heap.size, 0, none⟩ = false := by simp [go_sem]
  have p7 : (w.alloc (.cells #[.int .i64 0, .int .u64 0] 36)).frozen? ⟨w.heap.size, 1, none⟩ = false := by simp [go_sem]
  generalize w.alloc (.cells #[.int .i64 0, .int .u64 0] 36) = u at *
  have hg0 := block_of_cell p4
  have P := Lib.hid (And.intro hb0 (And.intro p4 (And.intro p5 (And.intro p6 (And.intro p7 hg0)))))
  clear p4 p5 p6 p7 hg0
  go_loopw [5, 6, 15] (fun l m i wr => RAppR u vs l m i wr) (fun _ _ i _ => vs.length - (intOf i).toNat)
  case atStart => exact ⟨0, Nat.zero_le _, rfl, World.ownsRow_nil _ _ _ _, World.ownsRow_nil _ _ _ _, Below.refl _ _⟩
  case round =>
    obtain ⟨k, hk, rfl, hL, hK, hB⟩ := hrel
    by_cases hlt : k < vs.length
    · obtain ⟨b, off, rfl, hcell⟩ := hc0 (by omega)
      have hvk : vs[k]? = some ((vs[k]).1, (vs[k]).2) := by rw [List.getElem?_eq_getElem hlt]
      have hbk : (vs[k]).2 < 18446744073709551616 := hbits _ (List.getElem_mem hlt)
      obtain ⟨r0, r1⟩ := hcell k _ _ hvk
      have r0 := cell_later hB (cell_later hb0 r0)
      have r1 := cell_later hB (cell_later hb0 r1)
      have sn1 := Lib.hid (cleans_snoc vs k _ hvk)
      have sn2 := Lib.hid (kinds_snoc vs k _ hvk)
      generalize vs[k].1 = x at *
      generalize vs[k].2 = c at *
      clear hcell hvk hc0 hbits hb0
      go_wp2_with fail
      refine (rclean_any _ _ _ hbk).mono ?_; rintro e w1 ⟨rfl, hb1⟩
      generalize clK x c = x' at *
      generalize clB x c = c' at *
      have hL1 := own_below (hL.alloc _) hb1
      have hK1 := own_below (hK.alloc _) hb1
      have hB1 : Below u.heap.size u w1 := below_more (hB.alloc hB.size _) hb1
      have hs1 := hB1.size
      clear r0 r1 hL hK hb1 hbk
      go_wp2_with (at_builtin; refine wpList_append_own _ rfl (.tmp 21) (.tmp 23) 57 rfl u.heap.size 36 i0 (.agg #[.int .i64 0, .int .u64 0]) 2 16 Try.underlying57 hi hz0 hz1 hz2 rfl (by decide) u5 k (cellsV ((cleans vs).take k)) rfl ((hL1.alloc _).alloc _) ⟨w1.heap.size + 1, 0, none⟩ 1 1 [.int .i64 x', .int .u64 (c' : Int)] rfl rfl ?c1 ?c2 ?c3 ?c4 ?c5 ?_)
      case c1 =>
        intro j u hj
        match j, hj with
        | 0, hj => simp at hj; subst hj; simp [Addr.add]
        | 1, hj => simp at hj; subst hj; simp [Addr.add]
      case c2 => intro u hu; simp at hu; rcases hu with rfl | rfl <;> rfl
      case c3 => unfold maxLen; omega
      case c4 => omega
      case c5 => simp; omega
      intro v' w2 hL2 hgrow _
      rw [← sn1.out] at hL2
      have hK2 := ((hK1.alloc _).alloc _).kept hgrow (own_own_ne hK1 hL1 (by decide))
      have hB2 : Below u.heap.size u w2 := ((hB1.alloc hs1 _).alloc (by simp; omega) _).grown hgrow (by simp; omega) (fun g hg => (hL1.lt g hg).1)
      have q0 : w2.cell? ⟨w1.heap.size, 0, none⟩ = some (.int .i64 x') := hgrow.cell (by simp) (fun e => Nat.lt_irrefl _ (hL1.lt _ e.symm).2)
      have hs2 := hB2.size
      have hq := block_of_cell q0
      clear hL1 hK1 hB1 hgrow
      go_wp2_with (at_builtin; refine wpList_append_own _ rfl (.tmp 25) (.tmp 28) 43 rfl u.heap.size 3 j0 (.int .i64 0) 1 8 Try.underlying43 hj hy0 hy1 hy2 rfl (by decide) u6 k (cellsK ((kinds vs).take k)) rfl (hK2.alloc _) ⟨w2.heap.size, 0, none⟩ 1 1 [.int .i64 x'] rfl rfl ?d1 ?d2 ?d3 ?d4 ?d5 ?_)
      case d2 => rfl
      case d3 => unfold maxLen; omega
      case d4 => omega
      case d5 => omega
      intro v'' w3 hK3 hgrow _
      rw [← sn2.out] at hK3
      have hL3 := (hL2.alloc _).kept hgrow (own_own_ne hL2 hK2 (by decide))
      have hB3 : Below u.heap.size u w3 := (hB2.alloc hs2 _).grown hgrow (by simp; omega) (fun g hg => (hK2.lt g hg).1)
      clear hL2 hK2 hgrow q0 hq hB2
      go_wp2
      go_roundw
      case rel => exact ⟨k + 1, by omega, by go_num, hL3, hK3, hB3⟩
      case measure => simp [intOf]; omega
    · obtain rfl : k = vs.length := by omega
      have cl : (cleans vs).length = vs.length := by simp [cleans]
      have kl : (kinds vs).length = vs.length := by simp [kinds]
      rw [← cl, List.take_length, cl] at hL
      rw [← kl, List.take_length, kl] at hK
      have hbc : ∀ v ∈ cleans vs, v.2 < 18446744073709551616 := by
        intro v hm
        obtain ⟨a, ha, rfl⟩ := List.mem_map.1 hm
        exact clB_lt2 a.1 (hbits a ha)
      obtain ⟨A1, cap1, h5, hR⟩ := own_row (by rw [cl]; exact hL) hbc
      rw [cl] at h5 hR
      obtain ⟨A2, cap2, rfl, hS⟩ := own_rowK kl hK
      subst h5
      replace hS := Lib.hid hS
      replace hbc := Lib.hid hbc
      obtain ⟨p1, p4, p5, p6, p7, hg0⟩ := P.out
      have hB9 := below_more p1 hB
      have p4 := cell_later hB p4
      have p5 := cell_later hB p5
      have p6 := (hB.frozen (p := ⟨w.heap.size, 0, none⟩) hg0).trans p6
      have p7 := (hB.frozen (p := ⟨w.heap.size, 1, none⟩) hg0).trans p7
      have hlo := fun g off h => (hL.lt g (show (Value.slice A1 vs.length cap1).ownBlock = some g by rw [show A1 = some ⟨g, off, none⟩ from h]; rfl)).1
      have hg1 : w.heap.size < wr.heap.size := block_of_cell p4
      have hg0 : w.heap.size < u.heap.size := hg0
      clear P p1 hL hK hB hb0 hc0 hi hj
      by_cases hlog : vs.length = 2 ∧ (op = 13 ∨ op = 14)
      · obtain ⟨h2, ho⟩ := hlog
        obtain ⟨v1, v2, rfl⟩ : ∃ v1 v2, vs = [v1, v2] := by match vs, h2 with | [a, b], _ => exact ⟨a, b, rfl⟩
        obtain ⟨b, off, rfl, hcell⟩ := hR.2.2 (by simp)
        have hlo := hlo b off rfl
        have ne1 : ¬ b = w.heap.size := by omega
        have ne2 : ¬ w.heap.size = b := by omega
        obtain ⟨z0, z1, z2, z3⟩ := cells_two (v1 := (clK v1.1 v1.2, clB v1.1 v1.2)) (v2 := (clK v2.1 v2.2, clB v2.1 v2.2)) hcell
        simp only at z0 z1 z2 z3
        have hk1 := cl_bool v1.1 v1.2
        clear hcell hR hS hbc cl kl hbits hreach h2
        have n00 : (0 : Int) ≤ 0 := by omega
        have n02 : (0 : Int) < 2 := by omega
        have n12 : (1 : Int) < 2 := by omega
        rcases ho with rfl | rfl
        · have E : appP 13 [v1, v2] = bo2 0 (clK v1.1 v1.2) (clB v1.1 v1.2) (clK v2.1 v2.2) (clB v2.1 v2.2) := rfl
          replace E := Lib.hid E
          generalize clK v1.1 v1.2 = x at *
          generalize clB v1.1 v1.2 = c at *
          generalize clK v2.1 v2.2 = y at *
          generalize clB v2.1 v2.2 = d at *
          have RL := Lib.hid (fun w => rlogic_0 x c y d w hk1)
          generalize bo2 0 x c y d = r' at *
          clear hk1
          go_wp2_with fail
          go_region_held3 (fun w' => w'.cell? ⟨b, off, none⟩ = some (.int .i64 x) ∧ w'.cell? ⟨b, off + 1, none⟩ = some (.int .u64 (c : Int)) ∧ w'.cell? ⟨b, off + 2, none⟩ = some (.int .i64 y) ∧ w'.cell? ⟨b, off + 2 + 1, none⟩ = some (.int .u64 (d : Int))) (go_keep) ((go_at_call 33; refine (RL.out _).mono ?_; rintro e w1 ⟨rfl, hb1⟩; have p4 := cell_later hb1 p4; have p5 := cell_later hb1 p5; have p6 := (hb1.frozen (p := ⟨w.heap.size, 0, none⟩) hg1).trans p6; have p7 := (hb1.frozen (p := ⟨w.heap.size, 1, none⟩) hg1).trans p7; have hB9 := below_more hB9.drew hb1; have z0 := cell_later hb1 z0; have z1 := cell_later hb1 z1; have z2 := cell_later hb1 z2; have z3 := cell_later hb1 z3))
          obtain ⟨_, q1, q2⟩ := put2 (.int .i64 r'.1) (.int .u64 ((r'.2 : Nat) : Int)) p4 p5
          have B2 := ((hB9.setCell (p := ⟨w.heap.size, 0, none⟩) (Nat.le_refl _) (.int .i64 r'.1)).setCell (p := ⟨w.heap.size, 1, none⟩) (Nat.le_refl _) (.int .u64 ((r'.2 : Nat) : Int)))
          go_wp2
          exact bodyPost_ret (v := .agg #[.int .i64 r'.1, .int .u64 ((r'.2 : Nat) : Int)]) (by simp [results, Try.results21, go_sem, q1, q2]) rfl ⟨by rw [E.out], B2⟩
        · have E : appP 14 [v1, v2] = bo2 1 (clK v1.1 v1.2) (clB v1.1 v1.2) (clK v2.1 v2.2) (clB v2.1 v2.2) := rfl
          replace E := Lib.hid E
          generalize clK v1.1 v1.2 = x at *
          generalize clB v1.1 v1.2 = c at *
          generalize clK v2.1 v2.2 = y at *
          generalize clB v2.1 v2.2 = d at *
          have RL := Lib.hid (fun w => rlogic_1 x c y d w hk1)
          generalize bo2 1 x c y d = r' at *
          clear hk1
          go_wp2_with fail
          go_region_held3 (fun w' => w'.cell? ⟨b, off, none⟩ = some (.int .i64 x) ∧ w'.cell? ⟨b, off + 1, none⟩ = some (.int .u64 (c : Int)) ∧ w'.cell? ⟨b, off + 2, none⟩ = some (.int .i64 y) ∧ w'.cell? ⟨b, off + 2 + 1, none⟩ = some (.int .u64 (d : Int))) (go_keep) ((go_at_call 33; refine (RL.out _).mono ?_; rintro e w1 ⟨rfl, hb1⟩; have p4 := cell_later hb1 p4; have p5 := cell_later hb1 p5; have p6 := (hb1.frozen (p := ⟨w.heap.size, 0, none⟩) hg1).trans p6; have p7 := (hb1.frozen (p := ⟨w.heap.size, 1, none⟩) hg1).trans p7; have hB9 := below_more hB9.drew hb1; have z0 := cell_later hb1 z0; have z1 := cell_later hb1 z1; have z2 := cell_later hb1 z2; have z3 := cell_later hb1 z3))
          obtain ⟨_, q1, q2⟩ := put2 (.int .i64 r'.1) (.int .u64 ((r'.2 : Nat) : Int)) p4 p5
          have B2 := ((hB9.setCell (p := ⟨w.heap.size, 0, none⟩) (Nat.le_refl _) (.int .i64 r'.1)).setCell (p := ⟨w.heap.size, 1, none⟩) (Nat.le_refl _) (.int .u64 ((r'.2 : Nat) : Int)))
          go_wp2
          exact bodyPost_ret (v := .agg #[.int .i64 r'.1, .int .u64 ((r'.2 : Nat) : Int)]) (by simp [results, Try.results21, go_sem, q1, q2]) rfl ⟨by rw [E.out], B2⟩
      · have hlog' : vs.length = 2 → op ≠ 13 ∧ op ≠ 14 := fun h => by constructor <;> (intro e; exact hlog ⟨h, by omega⟩)
        by_cases hz : resP op (kinds vs) = 0
        · have E := app_none op vs hlog' hz
          replace E := Lib.hid E
          have RS := Lib.hid (fun w' hS => rresult_any op A2 vs.length cap2 (kinds vs) w' hS (by omega))
          rw [hz] at RS
          have f2 : (((vs.length : Nat) : Int) == 2) = true ∧ (op == 13) = false ∧ (op == 14) = false ∨ (((vs.length : Nat) : Int) == 2) = false := by
            by_cases h2 : vs.length = 2
            · left
              obtain ⟨n13, n14⟩ := hlog' h2
              refine ⟨?_, ?_, ?_⟩
              · rw [beq_iff_eq]; omega
              · rw [beq_eq_false_iff_ne]; exact n13
              · rw [beq_eq_false_iff_ne]; exact n14
            · right
              rw [beq_eq_false_iff_ne]; omega
          rcases f2 with ⟨f2, f13, f14⟩ | f2
          all_goals
            clear hR hbc hbits hlog hlog' hz
            go_wp2_with (go_at_call 34; refine (RS.out _ hS.out).mono ?_; rintro e w1 ⟨rfl, nn, rfl⟩)
            have hB9 := below_drewN hB9 nn
            replace p4 : (wr.drewN nn).cell? ⟨w.heap.size, 0, none⟩ = some (.int .i64 0) := p4
            replace p5 : (wr.drewN nn).cell? ⟨w.heap.size, 1, none⟩ = some (.int .u64 0) := p5
            obtain ⟨_, q1, q2⟩ := put2 (.int .i64 0) (.int .u64 0) p4 p5
            have B2 := ((hB9.setCell (p := ⟨w.heap.size, 0, none⟩) (Nat.le_refl _) (.int .i64 0)).setCell (p := ⟨w.heap.size, 1, none⟩) (Nat.le_refl _) (.int .u64 0))
            go_wp2
            exact bodyPost_ret (v := .agg #[.int .i64 0, .int .u64 0]) (by simp [results, Try.results21, go_sem, q1, q2]) rfl ⟨by first | (rw [E.out]; done) | (rw [E.out]; rfl), B2⟩
        · obtain ⟨z, hz'⟩ : ∃ z, resP op (kinds vs) = z := ⟨_, rfl⟩
          have RS := Lib.hid (fun w' hS => rresult_any op A2 vs.length cap2 (kinds vs) w' hS (by omega))
          have SH := res_shape op vs hz
          rw [hz'] at RS hz
          have fz : (z == 0) = false := by simpa using hz
          clear hz' hz
          rcases SH with ⟨v1, rfl, hr⟩ | ⟨v1, v2, rfl, hkk, hr⟩
          · obtain ⟨b, off, rfl, hcell⟩ := hR.2.2 (by simp)
            obtain ⟨z0, z1⟩ := cells_one (v1 := (clK v1.1 v1.2, clB v1.1 v1.2)) hcell
            simp only at z0 z1
            have cl1 : isClean (clK v1.1 v1.2, clB v1.1 v1.2) := clean_clean _ _
            have bc1 := clB_lt2 v1.1 (hbits v1 (by simp))
            have E : appP op [v1] = appOne op (clK v1.1 v1.2) (clB v1.1 v1.2) := rfl
            replace E := Lib.hid E
            clear hcell hR hbc hbits hlog hlog' cl kl
            generalize clK v1.1 v1.2 = x at *
            generalize clB v1.1 v1.2 = c at *
            have nn0 : (0 : Int) ≤ 0 := by omega
            have nn1 : (0 : Int) < 1 := by omega
            have nn2 : (1 : Int) - 1 < 1 := by omega
            go_upto_region 15 with (go_at_call 34; refine (RS.out _ hS.out).mono ?_; rintro e w1 ⟨rfl, nn, rfl⟩)
            replace hB9 := below_drewN hB9 nn
            replace p4 : (wr.drewN nn).cell? ⟨w.heap.size, 0, none⟩ = some (.int .i64 0) := p4
            replace p5 : (wr.drewN nn).cell? ⟨w.heap.size, 1, none⟩ = some (.int .u64 0) := p5
            replace p6 : (wr.drewN nn).frozen? ⟨w.heap.size, 0, none⟩ = false := p6
            replace p7 : (wr.drewN nn).frozen? ⟨w.heap.size, 1, none⟩ = false := p7
            replace hg1 : w.heap.size < (wr.drewN nn).heap.size := by simpa using hg1
            replace z0 : (wr.drewN nn).cell? ⟨b, off, none⟩ = some (.int .i64 x) := z0
            replace z1 : (wr.drewN nn).cell? ⟨b, off + 1, none⟩ = some (.int .u64 (c : Int)) := z1
            clear hS RS hk hlt hreach
            generalize wr.drewN nn = wn at *
            go_cut [11, 12] from 57 to 66 (fun p q w' => ∃ g h, p = .pointer (some ⟨g, 0, none⟩) ∧ q = .pointer (some ⟨h, 0, none⟩) ∧ w'.cell? ⟨g, 0, none⟩ = some (.int .i64 x) ∧ w'.cell? ⟨g, 1, none⟩ = some (.int .u64 (c : Int)) ∧ w'.cell? ⟨h, 0, none⟩ = some (.int .i64 x) ∧ w'.cell? ⟨h, 1, none⟩ = some (.int .u64 (c : Int)) ∧ Below wn.heap.size wn w')
            case first =>
              have nw1 : IntKind.i64.wrap 0 = 0 := by decide
              go_region_held3 (fun w' => w'.cell? ⟨b, off, none⟩ = some (.int .i64 x) ∧ w'.cell? ⟨b, off + 1, none⟩ = some (.int .u64 (c : Int))) (go_keep) (fail)
              all_goals go_wp2_with fail
              all_goals go_meet
              all_goals exact ⟨_, _, rfl, rfl, by simp, by simp, by simp, by simp, (below2 _ _ _).drew⟩
            case rest =>
              obtain ⟨g, h, rfl, rfl, s0, s1, s2, s3, hBn⟩ := hcut
              replace p4 := cell_later hBn p4
              replace p5 := cell_later hBn p5
              replace p6 := (hBn.frozen (p := ⟨w.heap.size, 0, none⟩) hg1).trans p6
              replace p7 := (hBn.frozen (p := ⟨w.heap.size, 1, none⟩) hg1).trans p7
              replace hB9 := below_more hB9 hBn
              replace hg1 := block_of_cell p4
              clear hBn z0 z1
              rcases one_shape op x hr with ⟨rfl, rfl⟩ | ⟨rfl, rfl⟩ | ⟨rfl, rfl⟩ | ⟨rfl, rfl⟩ | ⟨rfl, rfl⟩
              · replace E : appP 6 [v1] = pairI (chk (0 - wrap64 (c : Int))) := E.out
                have H := fun w => rwhole_neg (wrap64 (c : Int)) (wrap64 (c : Int)) w (w64 _)
                simp only [resB_eq] at H
                replace H := Lib.hid H
                unfold pairI at E
                generalize chk (0 - wrap64 (c : Int)) = r at *
                generalize resK r = r1 at *
                generalize resN r = r2 at *
                replace E := Lib.hid E
                clear hr cl1 bc1
                go_wp2_with (go_at_call 37; refine (H.out _).mono ?_; rintro e w1 ⟨rfl, hb1⟩; have p4 := cell_later hb1 p4; have p5 := cell_later hb1 p5; have p6 := (hb1.frozen (p := ⟨w.heap.size, 0, none⟩) hg1).trans p6; have p7 := (hb1.frozen (p := ⟨w.heap.size, 1, none⟩) hg1).trans p7; have hB9 := below_more hB9 hb1)
                obtain ⟨_, q1, q2⟩ := put2 (.int .i64 r1) (.int .u64 ((r2 : Nat) : Int)) p4 p5
                have B2 := ((hB9.setCell (p := ⟨w.heap.size, 0, none⟩) (Nat.le_refl _) (.int .i64 r1)).setCell (p := ⟨w.heap.size, 1, none⟩) (Nat.le_refl _) (.int .u64 ((r2 : Nat) : Int)))
                go_wp2
                exact bodyPost_ret (v := .agg #[.int .i64 r1, .int .u64 ((r2 : Nat) : Int)]) (by simp [results, Try.results21, go_sem, q1, q2]) rfl ⟨by first | (rw [E.out]; done) | (rw [E.out]; rfl), B2⟩
              · replace E : appP 6 [v1] = (4, ngP c) := E.out
                have H := Lib.hid (fun w => rfloat_neg c c w bc1)
                generalize ngP c = r at *
                replace E := Lib.hid E
                clear hr cl1 bc1
                go_wp2_with (go_at_call 36; refine (H.out _).mono ?_; rintro e w1 ⟨rfl, hb1⟩; have p4 := cell_later hb1 p4; have p5 := cell_later hb1 p5; have p6 := (hb1.frozen (p := ⟨w.heap.size, 0, none⟩) hg1).trans p6; have p7 := (hb1.frozen (p := ⟨w.heap.size, 1, none⟩) hg1).trans p7; have hB9 := below_more hB9 hb1)
                obtain ⟨_, q1, q2⟩ := put2 (.int .i64 4) (.int .u64 ((r : Nat) : Int)) p4 p5
                have B2 := ((hB9.setCell (p := ⟨w.heap.size, 0, none⟩) (Nat.le_refl _) (.int .i64 4)).setCell (p := ⟨w.heap.size, 1, none⟩) (Nat.le_refl _) (.int .u64 ((r : Nat) : Int)))
                go_wp2
                exact bodyPost_ret (v := .agg #[.int .i64 4, .int .u64 ((r : Nat) : Int)]) (by simp [results, Try.results21, go_sem, q1, q2]) rfl ⟨by first | (rw [E.out]; done) | (rw [E.out]; rfl), B2⟩
              · replace E : appP 15 [v1] = (2, b2n (wrap64 (c : Int) == 0)) := by rw [E.out]; exact not_b2n c cl1
                have H := Lib.hid (fun w => rwhole_not (wrap64 (c : Int)) (wrap64 (c : Int)) w)
                generalize b2n (wrap64 (c : Int) == 0) = r at *
                replace E := Lib.hid E
                clear hr cl1 bc1
                go_wp2_with (go_at_call 37; refine (H.out _).mono ?_; rintro e w1 ⟨rfl, hb1⟩; have p4 := cell_later hb1 p4; have p5 := cell_later hb1 p5; have p6 := (hb1.frozen (p := ⟨w.heap.size, 0, none⟩) hg1).trans p6; have p7 := (hb1.frozen (p := ⟨w.heap.size, 1, none⟩) hg1).trans p7; have hB9 := below_more hB9 hb1)
                obtain ⟨_, q1, q2⟩ := put2 (.int .i64 2) (.int .u64 ((r : Nat) : Int)) p4 p5
                have B2 := ((hB9.setCell (p := ⟨w.heap.size, 0, none⟩) (Nat.le_refl _) (.int .i64 2)).setCell (p := ⟨w.heap.size, 1, none⟩) (Nat.le_refl _) (.int .u64 ((r : Nat) : Int)))
                go_wp2
                exact bodyPost_ret (v := .agg #[.int .i64 2, .int .u64 ((r : Nat) : Int)]) (by simp [results, Try.results21, go_sem, q1, q2]) rfl ⟨by first | (rw [E.out]; done) | (rw [E.out]; rfl), B2⟩
              · replace E : appP 16 [v1] = (4, ofI (wrap64 (c : Int))) := E.out
                have H := Lib.hid (fun w => rwhole_real (wrap64 (c : Int)) (wrap64 (c : Int)) w (w64 _))
                generalize ofI (wrap64 (c : Int)) = r at *
                replace E := Lib.hid E
                clear hr cl1 bc1
                go_wp2_with (go_at_call 37; refine (H.out _).mono ?_; rintro e w1 ⟨rfl, hb1⟩; have p4 := cell_later hb1 p4; have p5 := cell_later hb1 p5; have p6 := (hb1.frozen (p := ⟨w.heap.size, 0, none⟩) hg1).trans p6; have p7 := (hb1.frozen (p := ⟨w.heap.size, 1, none⟩) hg1).trans p7; have hB9 := below_more hB9 hb1)
                obtain ⟨_, q1, q2⟩ := put2 (.int .i64 4) (.int .u64 ((r : Nat) : Int)) p4 p5
                have B2 := ((hB9.setCell (p := ⟨w.heap.size, 0, none⟩) (Nat.le_refl _) (.int .i64 4)).setCell (p := ⟨w.heap.size, 1, none⟩) (Nat.le_refl _) (.int .u64 ((r : Nat) : Int)))
                go_wp2
                exact bodyPost_ret (v := .agg #[.int .i64 4, .int .u64 ((r : Nat) : Int)]) (by simp [results, Try.results21, go_sem, q1, q2]) rfl ⟨by first | (rw [E.out]; done) | (rw [E.out]; rfl), B2⟩
              · replace E : appP 17 [v1] = (2, b2n (!eqB c c)) := E.out
                have H := Lib.hid (fun w => rfloat_nan c c w bc1)
                generalize b2n (!eqB c c) = r at *
                replace E := Lib.hid E
                clear hr cl1 bc1
                go_wp2_with (go_at_call 36; refine (H.out _).mono ?_; rintro e w1 ⟨rfl, hb1⟩; have p4 := cell_later hb1 p4; have p5 := cell_later hb1 p5; have p6 := (hb1.frozen (p := ⟨w.heap.size, 0, none⟩) hg1).trans p6; have p7 := (hb1.frozen (p := ⟨w.heap.size, 1, none⟩) hg1).trans p7; have hB9 := below_more hB9 hb1)
                obtain ⟨_, q1, q2⟩ := put2 (.int .i64 2) (.int .u64 ((r : Nat) : Int)) p4 p5
                have B2 := ((hB9.setCell (p := ⟨w.heap.size, 0, none⟩) (Nat.le_refl _) (.int .i64 2)).setCell (p := ⟨w.heap.size, 1, none⟩) (Nat.le_refl _) (.int .u64 ((r : Nat) : Int)))
                go_wp2
                exact bodyPost_ret (v := .agg #[.int .i64 2, .int .u64 ((r : Nat) : Int)]) (by simp [results, Try.results21, go_sem, q1, q2]) rfl ⟨by first | (rw [E.out]; done) | (rw [E.out]; rfl), B2⟩
          · obtain ⟨b, off, rfl, hcell⟩ := hR.2.2 (by simp)
            obtain ⟨z0, z1, z2, z3⟩ := cells_two (v1 := (clK v1.1 v1.2, clB v1.1 v1.2)) (v2 := (clK v2.1 v2.2, clB v2.1 v2.2)) hcell
            simp only at z0 z1 z2 z3
            have cl1 : isClean (clK v1.1 v1.2, clB v1.1 v1.2) := clean_clean _ _
            have bc1 := clB_lt2 v1.1 (hbits v1 (by simp))
            have cl2 : isClean (clK v2.1 v2.2, clB v2.1 v2.2) := clean_clean _ _
            have bc2 := clB_lt2 v2.1 (hbits v2 (by simp))
            rw [← hkk] at z2 cl2
            obtain ⟨n13, n14⟩ := hlog' rfl
            have E : appP op [v1, v2] = appTwo op (clK v1.1 v1.2) (clB v1.1 v1.2) (clK v1.1 v1.2) (clB v2.1 v2.2) := by show appTwo _ _ _ _ _ = _; rw [← hkk]
            replace E := Lib.hid E
            clear hcell hR hbc hbits hlog hlog' cl kl hkk
            generalize clK v1.1 v1.2 = x at *
            generalize clB v1.1 v1.2 = c at *
            generalize clB v2.1 v2.2 = d at *
            have f13 : (op == 13) = false := by simpa using n13
            have f14 : (op == 14) = false := by simpa using n14
            have nn0 : (0 : Int) ≤ 0 := by omega
            have nn1 : (0 : Int) < 2 := by omega
            have nn2 : (2 : Int) - 1 < 2 := by omega
            go_upto_region 15 with (go_at_call 34; refine (RS.out _ hS.out).mono ?_; rintro e w1 ⟨rfl, nn, rfl⟩)
            replace hB9 := below_drewN hB9 nn
            replace p4 : (wr.drewN nn).cell? ⟨w.heap.size, 0, none⟩ = some (.int .i64 0) := p4
            replace p5 : (wr.drewN nn).cell? ⟨w.heap.size, 1, none⟩ = some (.int .u64 0) := p5
            replace p6 : (wr.drewN nn).frozen? ⟨w.heap.size, 0, none⟩ = false := p6
            replace p7 : (wr.drewN nn).frozen? ⟨w.heap.size, 1, none⟩ = false := p7
            replace hg1 : w.heap.size < (wr.drewN nn).heap.size := by simpa using hg1
            replace z0 : (wr.drewN nn).cell? ⟨b, off, none⟩ = some (.int .i64 x) := z0
            replace z1 : (wr.drewN nn).cell? ⟨b, off + 1, none⟩ = some (.int .u64 (c : Int)) := z1
            replace z2 : (wr.drewN nn).cell? ⟨b, off + 2, none⟩ = some (.int .i64 x) := z2
            replace z3 : (wr.drewN nn).cell? ⟨b, off + 2 + 1, none⟩ = some (.int .u64 (d : Int)) := z3
            clear hS RS hk hlt hreach
            generalize wr.drewN nn = wn at *
            go_cut [11, 12] from 57 to 66 (fun p q w' => ∃ g h, p = .pointer (some ⟨g, 0, none⟩) ∧ q = .pointer (some ⟨h, 0, none⟩) ∧ w'.cell? ⟨g, 0, none⟩ = some (.int .i64 x) ∧ w'.cell? ⟨g, 1, none⟩ = some (.int .u64 (c : Int)) ∧ w'.cell? ⟨h, 0, none⟩ = some (.int .i64 x) ∧ w'.cell? ⟨h, 1, none⟩ = some (.int .u64 (d : Int)) ∧ Below wn.heap.size wn w')
            case first =>
              have nw1 : IntKind.i64.wrap 1 = 1 := by decide
              go_region_held3 (fun w' => w'.cell? ⟨b, off, none⟩ = some (.int .i64 x) ∧ w'.cell? ⟨b, off + 1, none⟩ = some (.int .u64 (c : Int)) ∧ w'.cell? ⟨b, off + 2, none⟩ = some (.int .i64 x) ∧ w'.cell? ⟨b, off + 2 + 1, none⟩ = some (.int .u64 (d : Int))) (go_keep) (fail)
              all_goals go_wp2_with fail
              all_goals go_meet
              all_goals exact ⟨_, _, rfl, rfl, by simp, by simp, by simp, by simp, (below2 _ _ _).drew⟩
            case rest =>
              obtain ⟨g, h, rfl, rfl, s0, s1, s2, s3, hBn⟩ := hcut
              replace p4 := cell_later hBn p4
              replace p5 := cell_later hBn p5
              replace p6 := (hBn.frozen (p := ⟨w.heap.size, 0, none⟩) hg1).trans p6
              replace p7 := (hBn.frozen (p := ⟨w.heap.size, 1, none⟩) hg1).trans p7
              replace hB9 := below_more hB9 hBn
              replace hg1 := block_of_cell p4
              clear hBn z0 z1 z2 z3
              have hc3 : (7 ≤ op ∧ op ≤ 12 ∧ r2P op x = 2) ∨ (x = 4 ∧ 1 ≤ op ∧ op ≤ 4) ∨ (x = 1 ∧ 1 ≤ op ∧ op ≤ 5) := two_shape op x hr n13 n14
              rcases hc3 with ⟨h7, h12, h2⟩ | ⟨rfl, h1, h4⟩ | ⟨rfl, h1, h5⟩
              · replace E : appP op [v1, v2] = (2, b2n (cmpB op x c d)) := by rw [E.out]; unfold appTwo; rw [if_neg n13, if_neg n14, if_neg (by omega), if_pos h2]
                have H := Lib.hid (fun w => rcompare_any op x c d w h7 h12 cl1 cl2 bc1 bc2)
                generalize b2n (cmpB op x c d) = r at *
                replace E := Lib.hid E
                clear hr h2 cl1 cl2 bc1 bc2 n13 n14
                go_wp2_with (go_at_call 35; refine (H.out _).mono ?_; rintro e w1 ⟨rfl, hb1⟩; have p4 := cell_later hb1 p4; have p5 := cell_later hb1 p5; have p6 := (hb1.frozen (p := ⟨w.heap.size, 0, none⟩) hg1).trans p6; have p7 := (hb1.frozen (p := ⟨w.heap.size, 1, none⟩) hg1).trans p7; have hB9 := below_more hB9 hb1)
                obtain ⟨_, q1, q2⟩ := put2 (.int .i64 2) (.int .u64 ((r : Nat) : Int)) p4 p5
                have B2 := ((hB9.setCell (p := ⟨w.heap.size, 0, none⟩) (Nat.le_refl _) (.int .i64 2)).setCell (p := ⟨w.heap.size, 1, none⟩) (Nat.le_refl _) (.int .u64 ((r : Nat) : Int)))
                go_wp2
                exact bodyPost_ret (v := .agg #[.int .i64 2, .int .u64 ((r : Nat) : Int)]) (by simp [results, Try.results21, go_sem, q1, q2]) rfl ⟨by first | (rw [E.out]; done) | (rw [E.out]; rfl), B2⟩
              · have h2 : r2P op 4 = 4 := by unfold r2P; rw [if_pos (by omega)]
                replace E : appP op [v1, v2] = (4, ansR op c d) := by rw [E.out]; unfold appTwo; rw [if_neg n13, if_neg n14, if_neg (by omega), if_neg (by omega), if_neg (by decide)]
                have H := Lib.hid (fun w => rfloat_do op c d w h1 h4 bc1 bc2)
                generalize ansR op c d = r at *
                replace E := Lib.hid E
                clear hr h2 cl1 cl2 bc1 bc2 n13 n14
                go_wp2_with (go_at_call 36; refine (H.out _).mono ?_; rintro e w1 ⟨rfl, hb1⟩; have p4 := cell_later hb1 p4; have p5 := cell_later hb1 p5; have p6 := (hb1.frozen (p := ⟨w.heap.size, 0, none⟩) hg1).trans p6; have p7 := (hb1.frozen (p := ⟨w.heap.size, 1, none⟩) hg1).trans p7; have hB9 := below_more hB9 hb1)
                obtain ⟨_, q1, q2⟩ := put2 (.int .i64 4) (.int .u64 ((r : Nat) : Int)) p4 p5
                have B2 := ((hB9.setCell (p := ⟨w.heap.size, 0, none⟩) (Nat.le_refl _) (.int .i64 4)).setCell (p := ⟨w.heap.size, 1, none⟩) (Nat.le_refl _) (.int .u64 ((r : Nat) : Int)))
                go_wp2
                exact bodyPost_ret (v := .agg #[.int .i64 4, .int .u64 ((r : Nat) : Int)]) (by simp [results, Try.results21, go_sem, q1, q2]) rfl ⟨by first | (rw [E.out]; done) | (rw [E.out]; rfl), B2⟩
              · have h2 : r2P op 1 = 1 := by unfold r2P; rw [if_pos (by omega)]
                replace E : appP op [v1, v2] = pairI (ansI op (wrap64 (c : Int)) (wrap64 (d : Int))) := by rw [E.out]; unfold appTwo; rw [if_neg n13, if_neg n14, if_neg (by omega), if_neg (by omega), if_pos rfl]
                have H := fun w => rwhole_any op (wrap64 (c : Int)) (wrap64 (d : Int)) w h1 h5 (w64 _) (w64 _)
                simp only [resB_eq] at H
                replace H := Lib.hid H
                unfold pairI at E
                generalize ansI op (wrap64 (c : Int)) (wrap64 (d : Int)) = r at *
                generalize resK r = r1 at *
                generalize resN r = r2 at *
                replace E := Lib.hid E
                clear hr h2 cl1 cl2 bc1 bc2 n13 n14
                go_wp2_with (go_at_call 37; refine (H.out _).mono ?_; rintro e w1 ⟨rfl, hb1⟩; have p4 := cell_later hb1 p4; have p5 := cell_later hb1 p5; have p6 := (hb1.frozen (p := ⟨w.heap.size, 0, none⟩) hg1).trans p6; have p7 := (hb1.frozen (p := ⟨w.heap.size, 1, none⟩) hg1).trans p7; have hB9 := below_more hB9 hb1)
                obtain ⟨_, q1, q2⟩ := put2 (.int .i64 r1) (.int .u64 ((r2 : Nat) : Int)) p4 p5
                have B2 := ((hB9.setCell (p := ⟨w.heap.size, 0, none⟩) (Nat.le_refl _) (.int .i64 r1)).setCell (p := ⟨w.heap.size, 1, none⟩) (Nat.le_refl _) (.int .u64 ((r2 : Nat) : Int)))
                go_wp2
                exact bodyPost_ret (v := .agg #[.int .i64 r1, .int .u64 ((r2 : Nat) : Int)]) (by simp [results, Try.results21, go_sem, q1, q2]) rfl ⟨by first | (rw [E.out]; done) | (rw [E.out]; rfl), B2⟩
end Go.Proofs.Ytfjnphiegoogoaa
