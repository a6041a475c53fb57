/- NdG, NdH -/
import Derived.Test.YtfjnphiegoogoaaZ21
import Derived.Test.YtfjnphiegoogoaaZ22
/- NdG -/
namespace Go.Proofs.Ytfjnphiegoogoaa
open Go.ChangeShapes Go.WideShapes Go.ChangeAt Go.RowKit Go.Fl
set_option linter.unusedVariables false
set_option linter.unusedSimpArgs false

theorem cellsV_at9 (vs : List (Int × Nat)) : ∀ (i : Nat) (k : Int) (c : Nat), vs[i]? = some (k, c) → (cellsV vs)[i * 2]? = some (.int .i64 k) ∧ (cellsV vs)[i * 2 + 1]? = some (.int .u64 (c : Int)) := by
  induction vs with
  | nil => intro i k c h; simp at h
  | cons v vs ih =>
    intro i k c h
    cases i with
    | zero => simp at h; subst h; exact ⟨rfl, rfl⟩
    | succ i =>
      have := ih i k c (by simpa using h)
      rw [show (i + 1) * 2 = i * 2 + 2 by omega]
      exact this
theorem own_row9 {w : World} {base : Nat} {e : TypeId} {v : Value} {vs : List (Int × Nat)} (h : w.ownsRow base e 2 v vs.length (cellsV vs)) (hb : ∀ v ∈ vs, v.2 < 18446744073709551616) :
    ∃ A cap, v = .slice A vs.length cap ∧ vs.length ≤ cap ∧ cap ≤ maxLen ∧ RowV w A vs.length vs := by
  rcases h.2 with ⟨rfl, hz⟩ | ⟨g, cap, cur, rfl, _, _, h2, h3, _⟩
  · have hnil : vs = [] := List.eq_nil_of_length_eq_zero hz
    subst hnil
    exact ⟨none, 0, rfl, Nat.le_refl _, by unfold maxLen; omega, rfl, hb, fun h => absurd h (by simp)⟩
  · refine ⟨_, cap, rfl, h2, h3, rfl, hb, fun _ => ⟨g, 0, rfl, fun i k c hi => ?_⟩⟩
    have hc := h.cells (g := g) rfl
    have hx := cellsV_at9 vs i k c hi
    have e0 := hc _ _ hx.1
    have e1 := hc _ _ hx.2
    constructor
    · rw [show (⟨g, 0 + i * 2, none⟩ : Addr) = (⟨g, 0, none⟩ : Addr).add (i * 2) by unfold Addr.add; split <;> simp_all]; exact e0
    · rw [show (⟨g, 0 + i * 2 + 1, none⟩ : Addr) = (⟨g, 0, none⟩ : Addr).add (i * 2 + 1) by unfold Addr.add; split <;> simp_all]; exact e1
theorem news_two9 (w : World) (t : TypeId) (x y : Value) : ∀ (j : Nat) (u : Value), [x, y][j]? = some u → (w.alloc (.cells #[x, y] t)).cell? ((⟨w.heap.size, 0, none⟩ : Addr).add j) = some u := by
  intro j u hj
  match j, hj with
  | 0, hj => simp at hj; subst hj; simp [Addr.add]
  | 1, hj => simp at hj; subst hj; simp [Addr.add]
theorem one_two9 (a b : Int) : ∀ u ∈ [Value.int .i64 a, Value.int .u64 b], u.oneCell' = true := by
  intro u hu; simp at hu; rcases hu with rfl | rfl <;> rfl
theorem rover_any (op : Int) (hop : LeafOp op) (h40 : op ≠ 40) (h41 : op ≠ 41) (A : Option Addr) (cap : Nat) (vs : List (Int × Nat)) (w : World) (hv : RowV w A vs.length vs) (hcap : vs.length ≤ cap) (hmax : cap ≤ maxLen) (hl : vs.length ≤ 1099511627776) (h0c : vs = [] → A = none ∧ cap = 0 ∨ True) :
    Calls Try.prog 20 #[.int .i64 op, .slice A vs.length cap] w (VIs (overP op vs) w) := by
  unfold overP
  by_cases h25 : op = 25
  · subst h25; rw [if_pos rfl]; exact rover_25 A cap vs w hv hcap hmax hl
  rw [if_neg h25]
  by_cases hn : vs = []
  · subst hn; rw [if_pos rfl]; exact rover_none op A cap w (by simpa using h25)
  rw [if_neg hn]
  have h0 : 0 < vs.length := by
    cases vs with
    | nil => exact absurd rfl hn
    | cons v l => simp
  unfold aggP
  rcases hop with rfl | rfl | rfl | rfl | rfl | rfl | rfl | rfl | rfl | rfl
  · exact absurd rfl h25
  · exact rover_26 A cap vs w hv hcap hmax hl h0
  · exact rover_27 A cap vs w hv hcap hmax hl h0
  · exact rover_28 A cap vs w hv hcap hmax hl h0
  · exact rover_29 A cap vs w hv hcap hmax hl h0
  · exact rover_30 A cap vs w hv hcap hmax hl h0
  · exact rover_31 A cap vs w hv hcap hmax hl h0
  · exact absurd rfl h40
  · exact absurd rfl h41
  · exact rover_42 A cap vs w hv hcap hmax hl h0
theorem leafP_over (op vk : Int) (vb : Nat) (pos attr : Int) (es : List Ev) (bs : List (List Int)) (cur : Int) (h40 : op ≠ 40) (h41 : op ≠ 41) : leafP op vk vb pos attr es bs cur = overP op (attrsP es bs pos attr) := by
  unfold leafP overP
  rw [if_neg h40, if_neg h41]
  have hl : (attrsP es bs pos attr).length = (placesP bs pos).length := by unfold attrsP; rw [List.length_map]
  rw [hl]
  have hn : attrsP es bs pos attr = [] ↔ placesP bs pos = [] := by unfold attrsP; rw [List.map_eq_nil_iff]
  split
  · rfl
  · by_cases h : placesP bs pos = []
    · rw [if_pos h, if_pos (hn.2 h)]
    · rw [if_neg h, if_neg (fun e => h (hn.1 e))]

set_option maxHeartbeats 8000000 in
set_option maxRecDepth 100000 in
theorem rnode_const (E B A : Option Addr) (ce cb n c : Nat) (cur kd vk : Int) (vb : Nat) (pos attr : Int) (es : List Ev) (bs : List (List Int)) (w : World) (hvb : vb < 18446744073709551616) :
    Calls Try.prog 9 #[.agg #[.int .i64 40, .int .i64 kd, .slice A n c, .int .i64 vk, .int .u64 (vb : Int), .int .i64 pos, .int .i64 attr], .slice E es.length ce, .slice B bs.length cb, .int .i64 cur] w (VIs (clK vk vb, clB vk vb) w) := by
  have hu := m2 w (.cells #[.int .i64 40, .int .i64 kd, .slice A n c, .int .i64 vk, .int .u64 (vb : Int), .int .i64 pos, .int .i64 attr] 27) (.cells #[.int .i64 0, .int .u64 0] 36)
  have nb := (Blk.made w 27 #[.int .i64 40, .int .i64 kd, .slice A n c, .int .i64 vk, .int .u64 (vb : Int), .int .i64 pos, .int .i64 attr]).kept (m1 _ (.cells #[.int .i64 0, .int .u64 0] 36))
  have zb : Blk ((w.alloc (.cells #[.int .i64 40, .int .i64 kd, .slice A n c, .int .i64 vk, .int .u64 (vb : Int), .int .i64 pos, .int .i64 attr] 27)).alloc (.cells #[.int .i64 0, .int .u64 0] 36)) (w.heap.size + 1) 36 #[.int .i64 0, .int .u64 0] := by
    have := Blk.made (w.alloc (.cells #[.int .i64 40, .int .i64 kd, .slice A n c, .int .i64 vk, .int .u64 (vb : Int), .int .i64 pos, .int .i64 attr] 27)) 36 #[.int .i64 0, .int .u64 0]
    simpa using this
  have O := Lib.hid (fun w => rclean_any vk vb w hvb)
  generalize clK vk vb = k at *
  generalize clB vk vb = d at *
  replace hu := Lib.hid hu
  replace nb := Lib.hid nb
  replace zb := Lib.hid zb
  go_enter Try.func9, Try.ntmps9
  go_wp2_with fail
  refine (O.out _).mono ?_; rintro e w1 ⟨rfl, hb1⟩
  have z1 := zb.out.kept hb1
  have hW := mmore hu.out hb1
  have x0 : w1.cell? ⟨w.heap.size + 1, 0, none⟩ = some (.int .i64 0) := z1.cell 0
  have x1 : w1.cell? ⟨w.heap.size + 1, 1, none⟩ = some (.int .u64 0) := z1.cell 1
  have f0 : w1.frozen? ⟨w.heap.size + 1, 0, none⟩ = false := z1.free 0
  have f1 : w1.frozen? ⟨w.heap.size + 1, 1, none⟩ = false := z1.free 1
  obtain ⟨_, r1, r2⟩ := put2 (w := w1) (g := w.heap.size + 1) (.int .i64 k) (.int .u64 (d : Int)) x0 x1
  replace r1 := Lib.hid r1
  replace r2 := Lib.hid r2
  replace hW := Lib.hid hW
  go_wp2
  exact bodyPost_ret (v := .agg #[.int .i64 k, .int .u64 (d : Int)]) (by simp [results, Try.results9, go_sem, r1.out, r2.out]) rfl (.mk rfl ((hW.out.setCell (by show w.heap.size ≤ w.heap.size + 1; omega) _).setCell (by show w.heap.size ≤ w.heap.size + 1; omega) _))

set_option maxHeartbeats 8000000 in
set_option maxRecDepth 100000 in
theorem rnode_cur (E B A : Option Addr) (ce cb n c : Nat) (cur kd vk : Int) (vb : Nat) (pos attr : Int) (es : List Ev) (bs : List (List Int)) (w : World) (hL : LookIn w E B es bs) :
    Calls Try.prog 9 #[.agg #[.int .i64 41, .int .i64 kd, .slice A n c, .int .i64 vk, .int .u64 (vb : Int), .int .i64 pos, .int .i64 attr], .slice E es.length ce, .slice B bs.length cb, .int .i64 cur] w (VIs (attrP es cur attr) w) := by
  have hu := m2 w (.cells #[.int .i64 41, .int .i64 kd, .slice A n c, .int .i64 vk, .int .u64 (vb : Int), .int .i64 pos, .int .i64 attr] 27) (.cells #[.int .i64 0, .int .u64 0] 36)
  have nb := (Blk.made w 27 #[.int .i64 41, .int .i64 kd, .slice A n c, .int .i64 vk, .int .u64 (vb : Int), .int .i64 pos, .int .i64 attr]).kept (m1 _ (.cells #[.int .i64 0, .int .u64 0] 36))
  have zb : Blk ((w.alloc (.cells #[.int .i64 41, .int .i64 kd, .slice A n c, .int .i64 vk, .int .u64 (vb : Int), .int .i64 pos, .int .i64 attr] 27)).alloc (.cells #[.int .i64 0, .int .u64 0] 36)) (w.heap.size + 1) 36 #[.int .i64 0, .int .u64 0] := by
    have := Blk.made (w.alloc (.cells #[.int .i64 41, .int .i64 kd, .slice A n c, .int .i64 vk, .int .u64 (vb : Int), .int .i64 pos, .int .i64 attr] 27)) 36 #[.int .i64 0, .int .u64 0]
    simpa using this
  have hLu := hL.later hu
  have O := rattr_any E ce es cur attr _ hLu.1 hLu.2.2.1 hLu.2.2.2.1
  generalize attrP es cur attr = x at *
  obtain ⟨k, d⟩ := x
  replace O := Lib.hid O
  replace hu := Lib.hid hu
  replace nb := Lib.hid nb
  replace zb := Lib.hid zb
  clear hL hLu
  go_enter Try.func9, Try.ntmps9
  go_wp2_with fail
  refine O.out.mono ?_; rintro e w1 ⟨rfl, hb1⟩
  have z1 := zb.out.kept hb1
  have hW := mmore hu.out hb1
  have x0 : w1.cell? ⟨w.heap.size + 1, 0, none⟩ = some (.int .i64 0) := z1.cell 0
  have x1 : w1.cell? ⟨w.heap.size + 1, 1, none⟩ = some (.int .u64 0) := z1.cell 1
  have f0 : w1.frozen? ⟨w.heap.size + 1, 0, none⟩ = false := z1.free 0
  have f1 : w1.frozen? ⟨w.heap.size + 1, 1, none⟩ = false := z1.free 1
  obtain ⟨_, r1, r2⟩ := put2 (w := w1) (g := w.heap.size + 1) (.int .i64 k) (.int .u64 (d : Int)) x0 x1
  replace r1 := Lib.hid r1
  replace r2 := Lib.hid r2
  replace hW := Lib.hid hW
  go_wp2
  exact bodyPost_ret (v := .agg #[.int .i64 k, .int .u64 (d : Int)]) (by simp [results, Try.results9, go_sem, r1.out, r2.out]) rfl (.mk rfl ((hW.out.setCell (by show w.heap.size ≤ w.heap.size + 1; omega) _).setCell (by show w.heap.size ≤ w.heap.size + 1; omega) _))

def RnR (u : World) (vs : List (Int × Nat)) (k : Nat) (v : Value) (wr : World) : Prop :=
  wr.ownsRow u.heap.size 36 2 v k (cellsV (vs.take k)) ∧ Below u.heap.size u wr

set_option maxHeartbeats 8000000 in
set_option maxRecDepth 100000 in
theorem rnode_agg42 (E B A : Option Addr) (ce cb n c : Nat) (cur kd vk : Int) (vb : Nat) (pos attr : Int) (es : List Ev) (bs : List (List Int)) (w : World) (hL : LookIn w E B es bs) (hpl : (placesP bs pos).length ≤ 1099511627776) :
    Calls Try.prog 9 #[.agg #[.int .i64 42, .int .i64 kd, .slice A n c, .int .i64 vk, .int .u64 (vb : Int), .int .i64 pos, .int .i64 attr], .slice E es.length ce, .slice B bs.length cb, .int .i64 cur] w (VIs (leafP 42 vk vb pos attr es bs cur) w) := by
  have hop : LeafOp 42 := by unfold LeafOp; omega
  rw [show leafP 42 vk vb pos attr es bs cur = overP 42 (attrsP es bs pos attr) from leafP_over 42 vk vb pos attr es bs cur (by omega) (by omega)]
  have hu := m2 w (.cells #[.int .i64 42, .int .i64 kd, .slice A n c, .int .i64 vk, .int .u64 (vb : Int), .int .i64 pos, .int .i64 attr] 27) (.cells #[.int .i64 0, .int .u64 0] 36)
  have nb := (Blk.made w 27 #[.int .i64 42, .int .i64 kd, .slice A n c, .int .i64 vk, .int .u64 (vb : Int), .int .i64 pos, .int .i64 attr]).kept (m1 _ (.cells #[.int .i64 0, .int .u64 0] 36))
  have zb : Blk ((w.alloc (.cells #[.int .i64 42, .int .i64 kd, .slice A n c, .int .i64 vk, .int .u64 (vb : Int), .int .i64 pos, .int .i64 attr] 27)).alloc (.cells #[.int .i64 0, .int .u64 0] 36)) (w.heap.size + 1) 36 #[.int .i64 0, .int .u64 0] := by
    have := Blk.made (w.alloc (.cells #[.int .i64 42, .int .i64 kd, .slice A n c, .int .i64 vk, .int .u64 (vb : Int), .int .i64 pos, .int .i64 attr] 27)) 36 #[.int .i64 0, .int .u64 0]
    simpa using this
  obtain ⟨i0, hi, hz0, hz1, hz2⟩ := info_parts infoR
  have hvl : (attrsP es bs pos attr).length = (placesP bs pos).length := by unfold attrsP; rw [List.length_map]
  have hbits : ∀ v ∈ attrsP es bs pos attr, v.2 < 18446744073709551616 := by
    intro v hv
    unfold attrsP at hv
    obtain ⟨z, _, rfl⟩ := List.mem_map.1 hv
    exact attrP_lt hL.1 z attr
  have hvs : ∀ k z, (placesP bs pos)[k]? = some z → (attrsP es bs pos attr)[k]? = some (attrP es z attr) := fun k z h => by unfold attrsP; rw [List.getElem?_map, h]; rfl
  generalize attrsP es bs pos attr = vs at *
  have OV := fun wz (Az : Option Addr) (cz : Nat) (h1 : RowV wz Az vs.length vs) (h2 : vs.length ≤ cz) (h3 : cz ≤ maxLen) => rover_any 42 hop (by omega) (by omega) Az cz vs wz h1 h2 h3 (by omega) (fun _ => .inr trivial)
  generalize overP 42 vs = y at *
  obtain ⟨yk, yb⟩ := y
  replace OV := Lib.hid OV
  have hnbs := hL.2.2.2.2.1
  have hLu := hL.later hu
  by_cases hp : 0 ≤ pos ∧ pos < (bs.length : Int)
  · obtain ⟨p, rfl⟩ : ∃ p : Nat, pos = (p : Int) := ⟨pos.toNat, by omega⟩
    have hpp : p < bs.length := by omega
    have hpl' : placesP bs (p : Int) = bs[p] := by
      unfold placesP; rw [if_neg (by omega)]; simp [List.getElem?_eq_getElem hpp]
    rw [hpl'] at hvl hvs hpl
    obtain ⟨b2, off2, e2, hcb⟩ := hLu.2.1 (by omega)
    obtain ⟨x2, q0, UA, ucap, e3, hI⟩ := hcb p _ (List.getElem?_eq_getElem hpp)
    subst e2 e3
    generalize bs[p] = ks at *
    have gp : (p : Int) ≥ 0 := by omega
    have gq : (p : Int) < (bs.length : Int) := by omega
    replace hbits := Lib.hid hbits
    replace hvs := Lib.hid hvs
    replace hvl := Lib.hid hvl
    replace hI := Lib.hid hI
    replace hL := Lib.hid hL
    replace hLu := Lib.hid hLu
    replace hi := Lib.hid hi
    replace hz0 := Lib.hid hz0
    replace hz1 := Lib.hid hz1
    replace hz2 := Lib.hid hz2
    replace hu := Lib.hid hu
    replace zb := Lib.hid zb
    replace hcb := Lib.hid hcb
    replace hpl' := Lib.hid hpl'
    clear hcb hpl' hL hp
    go_enter Try.func9, Try.ntmps9
    go_wp2_with fail
    generalize (w.alloc (.cells #[.int .i64 42, .int .i64 kd, .slice A n c, .int .i64 vk, .int .u64 (vb : Int), .int .i64 (p : Int), .int .i64 attr] 27)).alloc (.cells #[.int .i64 0, .int .u64 0] 36) = u at *
    replace nb := Lib.hid nb
    go_loopw [9, 57] (fun v i wr => ∃ k : Nat, k ≤ ks.length ∧ i = .int .i64 (k : Int) ∧ RnR u vs k v wr) (fun _ i _ => ks.length - (intOf i).toNat)
    case atStart => exact ⟨0, Nat.zero_le _, rfl, World.ownsRow_nil _ _ _ _, Below.refl _ _⟩
    case round =>
      obtain ⟨k, hk, rfl, hO, hB⟩ := hrel
      have nbr := nb.out.kept hB
      have n5 : wr.cell? ⟨w.heap.size, 5, none⟩ = some (.int .i64 (p : Int)) := nbr.cell 5
      have n6 : wr.cell? ⟨w.heap.size, 6, none⟩ = some (.int .i64 attr) := nbr.cell 6
      have n0 : wr.cell? ⟨w.heap.size, 0, none⟩ = some (.int .i64 42) := nbr.cell 0
      by_cases hkl : k < ks.length
      · obtain ⟨b3, off3, e4, hI3⟩ := hI.out (by omega)
        have r0 := cell_later hB (hI3 k _ (List.getElem?_eq_getElem hkl))
        subst e4
        have hvk := hvs.out k _ (List.getElem?_eq_getElem hkl)
        have O := rattr_any E ce es ks[k] attr wr (hLu.out.later hB).1 hLu.out.2.2.1 hLu.out.2.2.2.1
        generalize ks[k] = z at *
        have sn := Lib.hid (cellsV_snoc vs k _ hvk)
        generalize attrP es z attr = x at *
        obtain ⟨xk, xb⟩ := x
        replace O := Lib.hid O
        replace hI3 := Lib.hid hI3
        clear hI3 hvk
        have li : (k : Int) < (ks.length : Int) := by omega
        go_wp2_with fail
        refine O.out.mono ?_; rintro e w1 ⟨rfl, hb1⟩
        have hO1 := own_below hO hb1
        have hB1 := mmore hB hb1
        clear hO hb1
        have hs1 := hB1.size
        go_wp2_with (at_builtin; refine wpList_append_own _ rfl (.tmp 61) (.tmp 67) 57 rfl u.heap.size 36 i0 (.agg #[.int .i64 0, .int .u64 0]) 2 16 Try.underlying57 hi.out hz0.out hz1.out hz2.out rfl (by decide) u9 k (cellsV (vs.take k)) rfl (hO1.alloc _) ⟨w1.heap.size, 0, none⟩ 1 1 [.int .i64 xk, .int .u64 (xb : Int)] rfl rfl (news_two9 _ _ _ _) (one_two9 _ _) ?c3 ?c4 ?c5 ?_)
        case c3 => unfold maxLen; omega
        case c4 => omega
        case c5 => simp; omega
        intro v' w2 hO2 hgrow _
        rw [← sn.out] at hO2
        have hB2 : Below u.heap.size u w2 := (hB1.alloc hs1 _).grown hgrow (by simp; omega) (fun g hg => (hO1.lt g hg).1)
        clear hO1 hB1 nbr n5 n6 n0 r0
        go_wp2
        go_roundw
        case rel => exact ⟨k + 1, by omega, by go_num, hO2, hB2⟩
        case measure => simp [intOf]; omega
      · obtain rfl : k = ks.length := by omega
        rw [← hvl.out, List.take_length] at hO
        obtain ⟨Az, cz, rfl, hc1, hc2, hR⟩ := own_row9 hO hbits.out
        have O := Lib.hid (OV.out wr Az cz hR hc1 hc2)
        have zr := zb.out.kept hB
        have hW := mmore hu.out hB
        clear hO hR hB OV
        go_wp2_with fail
        refine O.out.mono ?_; rintro e w1 ⟨rfl, hb1⟩
        have z1 := zr.kept hb1
        have hW1 := mmore hW hb1
        clear hW zr nbr n5 n6 n0 hb1
        have x0 : w1.cell? ⟨w.heap.size + 1, 0, none⟩ = some (.int .i64 0) := z1.cell 0
        have x1 : w1.cell? ⟨w.heap.size + 1, 1, none⟩ = some (.int .u64 0) := z1.cell 1
        have f0 : w1.frozen? ⟨w.heap.size + 1, 0, none⟩ = false := z1.free 0
        have f1 : w1.frozen? ⟨w.heap.size + 1, 1, none⟩ = false := z1.free 1
        obtain ⟨_, r1, r2⟩ := put2 (w := w1) (g := w.heap.size + 1) (.int .i64 yk) (.int .u64 (yb : Int)) x0 x1
        replace r1 := Lib.hid r1
        replace r2 := Lib.hid r2
        replace hW1 := Lib.hid hW1
        go_wp2
        exact bodyPost_ret (v := .agg #[.int .i64 yk, .int .u64 (yb : Int)]) (by simp [results, Try.results9, go_sem, r1.out, r2.out]) rfl (.mk rfl ((hW1.out.setCell (by show w.heap.size ≤ w.heap.size + 1; omega) _).setCell (by show w.heap.size ≤ w.heap.size + 1; omega) _))
  · have hnil : placesP bs pos = [] := by
      unfold placesP
      by_cases h : pos < 0
      · rw [if_pos h]
      · rw [if_neg h, List.getElem?_eq_none (by omega)]; rfl
    rw [hnil] at hvl
    have hvn : vs = [] := List.eq_nil_of_length_eq_zero hvl
    subst hvn
    have O := fun wz => OV.out wz none 0 ⟨rfl, by simp, fun h => absurd h (by simp)⟩ (Nat.le_refl _) (by unfold maxLen; omega)
    simp only [List.length_nil] at O
    replace O := Lib.hid O
    clear OV hbits hvs hvl hLu hL hi hz0 hz1 hz2 hpl
    replace hu := Lib.hid hu
    replace zb := Lib.hid zb
    by_cases hp0 : pos ≥ 0
    · have hp1 : ¬ pos < (bs.length : Int) := by omega
      clear hp
      go_enter Try.func9, Try.ntmps9
      go_wp2_with fail
      refine (O.out _).mono ?_; rintro e w1 ⟨rfl, hb1⟩
      have z1 := zb.out.kept hb1
      have hW1 := mmore hu.out hb1
      have x0 : w1.cell? ⟨w.heap.size + 1, 0, none⟩ = some (.int .i64 0) := z1.cell 0
      have x1 : w1.cell? ⟨w.heap.size + 1, 1, none⟩ = some (.int .u64 0) := z1.cell 1
      have f0 : w1.frozen? ⟨w.heap.size + 1, 0, none⟩ = false := z1.free 0
      have f1 : w1.frozen? ⟨w.heap.size + 1, 1, none⟩ = false := z1.free 1
      obtain ⟨_, r1, r2⟩ := put2 (w := w1) (g := w.heap.size + 1) (.int .i64 yk) (.int .u64 (yb : Int)) x0 x1
      replace r1 := Lib.hid r1
      replace r2 := Lib.hid r2
      replace hW1 := Lib.hid hW1
      go_wp2
      exact bodyPost_ret (v := .agg #[.int .i64 yk, .int .u64 (yb : Int)]) (by simp [results, Try.results9, go_sem, r1.out, r2.out]) rfl (.mk rfl ((hW1.out.setCell (by show w.heap.size ≤ w.heap.size + 1; omega) _).setCell (by show w.heap.size ≤ w.heap.size + 1; omega) _))
    · clear hp
      go_enter Try.func9, Try.ntmps9
      go_wp2_with fail
      refine (O.out _).mono ?_; rintro e w1 ⟨rfl, hb1⟩
      have z1 := zb.out.kept hb1
      have hW1 := mmore hu.out hb1
      have x0 : w1.cell? ⟨w.heap.size + 1, 0, none⟩ = some (.int .i64 0) := z1.cell 0
      have x1 : w1.cell? ⟨w.heap.size + 1, 1, none⟩ = some (.int .u64 0) := z1.cell 1
      have f0 : w1.frozen? ⟨w.heap.size + 1, 0, none⟩ = false := z1.free 0
      have f1 : w1.frozen? ⟨w.heap.size + 1, 1, none⟩ = false := z1.free 1
      obtain ⟨_, r1, r2⟩ := put2 (w := w1) (g := w.heap.size + 1) (.int .i64 yk) (.int .u64 (yb : Int)) x0 x1
      replace r1 := Lib.hid r1
      replace r2 := Lib.hid r2
      replace hW1 := Lib.hid hW1
      go_wp2
      exact bodyPost_ret (v := .agg #[.int .i64 yk, .int .u64 (yb : Int)]) (by simp [results, Try.results9, go_sem, r1.out, r2.out]) rfl (.mk rfl ((hW1.out.setCell (by show w.heap.size ≤ w.heap.size + 1; omega) _).setCell (by show w.heap.size ≤ w.heap.size + 1; omega) _))

set_option maxHeartbeats 8000000 in
set_option maxRecDepth 100000 in
theorem rnode_aggB (E B A : Option Addr) (ce cb n c : Nat) (cur kd vk : Int) (vb : Nat) (pos attr : Int) (es : List Ev) (bs : List (List Int)) (w : World) (op : Int) (h1 : 25 ≤ op) (h2 : op ≤ 31) (hL : LookIn w E B es bs) (hpl : (placesP bs pos).length ≤ 1099511627776) :
    Calls Try.prog 9 #[.agg #[.int .i64 op, .int .i64 kd, .slice A n c, .int .i64 vk, .int .u64 (vb : Int), .int .i64 pos, .int .i64 attr], .slice E es.length ce, .slice B bs.length cb, .int .i64 cur] w (VIs (leafP op vk vb pos attr es bs cur) w) := by
  have x40 : (op == 40) = false := by simp; omega
  have x41 : (op == 41) = false := by simp; omega
  have x42 : (op == 42) = false := by simp; omega
  have hop : LeafOp op := by unfold LeafOp; omega
  have g1 : op ≥ 25 := h1
  rw [show leafP op vk vb pos attr es bs cur = overP op (attrsP es bs pos attr) from leafP_over op vk vb pos attr es bs cur (by omega) (by omega)]
  have hu := m2 w (.cells #[.int .i64 op, .int .i64 kd, .slice A n c, .int .i64 vk, .int .u64 (vb : Int), .int .i64 pos, .int .i64 attr] 27) (.cells #[.int .i64 0, .int .u64 0] 36)
  have nb := (Blk.made w 27 #[.int .i64 op, .int .i64 kd, .slice A n c, .int .i64 vk, .int .u64 (vb : Int), .int .i64 pos, .int .i64 attr]).kept (m1 _ (.cells #[.int .i64 0, .int .u64 0] 36))
  have zb : Blk ((w.alloc (.cells #[.int .i64 op, .int .i64 kd, .slice A n c, .int .i64 vk, .int .u64 (vb : Int), .int .i64 pos, .int .i64 attr] 27)).alloc (.cells #[.int .i64 0, .int .u64 0] 36)) (w.heap.size + 1) 36 #[.int .i64 0, .int .u64 0] := by
    have := Blk.made (w.alloc (.cells #[.int .i64 op, .int .i64 kd, .slice A n c, .int .i64 vk, .int .u64 (vb : Int), .int .i64 pos, .int .i64 attr] 27)) 36 #[.int .i64 0, .int .u64 0]
    simpa using this
  obtain ⟨i0, hi, hz0, hz1, hz2⟩ := info_parts infoR
  have hvl : (attrsP es bs pos attr).length = (placesP bs pos).length := by unfold attrsP; rw [List.length_map]
  have hbits : ∀ v ∈ attrsP es bs pos attr, v.2 < 18446744073709551616 := by
    intro v hv
    unfold attrsP at hv
    obtain ⟨z, _, rfl⟩ := List.mem_map.1 hv
    exact attrP_lt hL.1 z attr
  have hvs : ∀ k z, (placesP bs pos)[k]? = some z → (attrsP es bs pos attr)[k]? = some (attrP es z attr) := fun k z h => by unfold attrsP; rw [List.getElem?_map, h]; rfl
  generalize attrsP es bs pos attr = vs at *
  have OV := fun wz (Az : Option Addr) (cz : Nat) (h1 : RowV wz Az vs.length vs) (h2 : vs.length ≤ cz) (h3 : cz ≤ maxLen) => rover_any op hop (by omega) (by omega) Az cz vs wz h1 h2 h3 (by omega) (fun _ => .inr trivial)
  generalize overP op vs = y at *
  obtain ⟨yk, yb⟩ := y
  replace OV := Lib.hid OV
  have hnbs := hL.2.2.2.2.1
  have hLu := hL.later hu
  by_cases hp : 0 ≤ pos ∧ pos < (bs.length : Int)
  · obtain ⟨p, rfl⟩ : ∃ p : Nat, pos = (p : Int) := ⟨pos.toNat, by omega⟩
    have hpp : p < bs.length := by omega
    have hpl' : placesP bs (p : Int) = bs[p] := by
      unfold placesP; rw [if_neg (by omega)]; simp [List.getElem?_eq_getElem hpp]
    rw [hpl'] at hvl hvs hpl
    obtain ⟨b2, off2, e2, hcb⟩ := hLu.2.1 (by omega)
    obtain ⟨x2, q0, UA, ucap, e3, hI⟩ := hcb p _ (List.getElem?_eq_getElem hpp)
    subst e2 e3
    generalize bs[p] = ks at *
    have gp : (p : Int) ≥ 0 := by omega
    have gq : (p : Int) < (bs.length : Int) := by omega
    replace hbits := Lib.hid hbits
    replace hvs := Lib.hid hvs
    replace hvl := Lib.hid hvl
    replace hI := Lib.hid hI
    replace hL := Lib.hid hL
    replace hLu := Lib.hid hLu
    replace hi := Lib.hid hi
    replace hz0 := Lib.hid hz0
    replace hz1 := Lib.hid hz1
    replace hz2 := Lib.hid hz2
    replace hu := Lib.hid hu
    replace zb := Lib.hid zb
    replace hcb := Lib.hid hcb
    replace hpl' := Lib.hid hpl'
    clear hcb hpl' hL hp
    go_enter Try.func9, Try.ntmps9
    go_wp2_with fail
    generalize (w.alloc (.cells #[.int .i64 op, .int .i64 kd, .slice A n c, .int .i64 vk, .int .u64 (vb : Int), .int .i64 (p : Int), .int .i64 attr] 27)).alloc (.cells #[.int .i64 0, .int .u64 0] 36) = u at *
    replace nb := Lib.hid nb
    go_loopw [9, 57] (fun v i wr => ∃ k : Nat, k ≤ ks.length ∧ i = .int .i64 (k : Int) ∧ RnR u vs k v wr) (fun _ i _ => ks.length - (intOf i).toNat)
    case atStart => exact ⟨0, Nat.zero_le _, rfl, World.ownsRow_nil _ _ _ _, Below.refl _ _⟩
    case round =>
      obtain ⟨k, hk, rfl, hO, hB⟩ := hrel
      have nbr := nb.out.kept hB
      have n5 : wr.cell? ⟨w.heap.size, 5, none⟩ = some (.int .i64 (p : Int)) := nbr.cell 5
      have n6 : wr.cell? ⟨w.heap.size, 6, none⟩ = some (.int .i64 attr) := nbr.cell 6
      have n0 : wr.cell? ⟨w.heap.size, 0, none⟩ = some (.int .i64 op) := nbr.cell 0
      by_cases hkl : k < ks.length
      · obtain ⟨b3, off3, e4, hI3⟩ := hI.out (by omega)
        have r0 := cell_later hB (hI3 k _ (List.getElem?_eq_getElem hkl))
        subst e4
        have hvk := hvs.out k _ (List.getElem?_eq_getElem hkl)
        have O := rattr_any E ce es ks[k] attr wr (hLu.out.later hB).1 hLu.out.2.2.1 hLu.out.2.2.2.1
        generalize ks[k] = z at *
        have sn := Lib.hid (cellsV_snoc vs k _ hvk)
        generalize attrP es z attr = x at *
        obtain ⟨xk, xb⟩ := x
        replace O := Lib.hid O
        replace hI3 := Lib.hid hI3
        clear hI3 hvk
        have li : (k : Int) < (ks.length : Int) := by omega
        go_wp2_with fail
        refine O.out.mono ?_; rintro e w1 ⟨rfl, hb1⟩
        have hO1 := own_below hO hb1
        have hB1 := mmore hB hb1
        clear hO hb1
        have hs1 := hB1.size
        go_wp2_with (at_builtin; refine wpList_append_own _ rfl (.tmp 61) (.tmp 67) 57 rfl u.heap.size 36 i0 (.agg #[.int .i64 0, .int .u64 0]) 2 16 Try.underlying57 hi.out hz0.out hz1.out hz2.out rfl (by decide) u9 k (cellsV (vs.take k)) rfl (hO1.alloc _) ⟨w1.heap.size, 0, none⟩ 1 1 [.int .i64 xk, .int .u64 (xb : Int)] rfl rfl (news_two9 _ _ _ _) (one_two9 _ _) ?c3 ?c4 ?c5 ?_)
        case c3 => unfold maxLen; omega
        case c4 => omega
        case c5 => simp; omega
        intro v' w2 hO2 hgrow _
        rw [← sn.out] at hO2
        have hB2 : Below u.heap.size u w2 := (hB1.alloc hs1 _).grown hgrow (by simp; omega) (fun g hg => (hO1.lt g hg).1)
        clear hO1 hB1 nbr n5 n6 n0 r0
        go_wp2
        go_roundw
        case rel => exact ⟨k + 1, by omega, by go_num, hO2, hB2⟩
        case measure => simp [intOf]; omega
      · obtain rfl : k = ks.length := by omega
        rw [← hvl.out, List.take_length] at hO
        obtain ⟨Az, cz, rfl, hc1, hc2, hR⟩ := own_row9 hO hbits.out
        have O := Lib.hid (OV.out wr Az cz hR hc1 hc2)
        have zr := zb.out.kept hB
        have hW := mmore hu.out hB
        clear hO hR hB OV
        go_wp2_with fail
        refine O.out.mono ?_; rintro e w1 ⟨rfl, hb1⟩
        have z1 := zr.kept hb1
        have hW1 := mmore hW hb1
        clear hW zr nbr n5 n6 n0 hb1
        have x0 : w1.cell? ⟨w.heap.size + 1, 0, none⟩ = some (.int .i64 0) := z1.cell 0
        have x1 : w1.cell? ⟨w.heap.size + 1, 1, none⟩ = some (.int .u64 0) := z1.cell 1
        have f0 : w1.frozen? ⟨w.heap.size + 1, 0, none⟩ = false := z1.free 0
        have f1 : w1.frozen? ⟨w.heap.size + 1, 1, none⟩ = false := z1.free 1
        obtain ⟨_, r1, r2⟩ := put2 (w := w1) (g := w.heap.size + 1) (.int .i64 yk) (.int .u64 (yb : Int)) x0 x1
        replace r1 := Lib.hid r1
        replace r2 := Lib.hid r2
        replace hW1 := Lib.hid hW1
        go_wp2
        exact bodyPost_ret (v := .agg #[.int .i64 yk, .int .u64 (yb : Int)]) (by simp [results, Try.results9, go_sem, r1.out, r2.out]) rfl (.mk rfl ((hW1.out.setCell (by show w.heap.size ≤ w.heap.size + 1; omega) _).setCell (by show w.heap.size ≤ w.heap.size + 1; omega) _))
  · have hnil : placesP bs pos = [] := by
      unfold placesP
      by_cases h : pos < 0
      · rw [if_pos h]
      · rw [if_neg h, List.getElem?_eq_none (by omega)]; rfl
    rw [hnil] at hvl
    have hvn : vs = [] := List.eq_nil_of_length_eq_zero hvl
    subst hvn
    have O := fun wz => OV.out wz none 0 ⟨rfl, by simp, fun h => absurd h (by simp)⟩ (Nat.le_refl _) (by unfold maxLen; omega)
    simp only [List.length_nil] at O
    replace O := Lib.hid O
    clear OV hbits hvs hvl hLu hL hi hz0 hz1 hz2 hpl
    replace hu := Lib.hid hu
    replace zb := Lib.hid zb
    by_cases hp0 : pos ≥ 0
    · have hp1 : ¬ pos < (bs.length : Int) := by omega
      clear hp
      go_enter Try.func9, Try.ntmps9
      go_wp2_with fail
      refine (O.out _).mono ?_; rintro e w1 ⟨rfl, hb1⟩
      have z1 := zb.out.kept hb1
      have hW1 := mmore hu.out hb1
      have x0 : w1.cell? ⟨w.heap.size + 1, 0, none⟩ = some (.int .i64 0) := z1.cell 0
      have x1 : w1.cell? ⟨w.heap.size + 1, 1, none⟩ = some (.int .u64 0) := z1.cell 1
      have f0 : w1.frozen? ⟨w.heap.size + 1, 0, none⟩ = false := z1.free 0
      have f1 : w1.frozen? ⟨w.heap.size + 1, 1, none⟩ = false := z1.free 1
      obtain ⟨_, r1, r2⟩ := put2 (w := w1) (g := w.heap.size + 1) (.int .i64 yk) (.int .u64 (yb : Int)) x0 x1
      replace r1 := Lib.hid r1
      replace r2 := Lib.hid r2
      replace hW1 := Lib.hid hW1
      go_wp2
      exact bodyPost_ret (v := .agg #[.int .i64 yk, .int .u64 (yb : Int)]) (by simp [results, Try.results9, go_sem, r1.out, r2.out]) rfl (.mk rfl ((hW1.out.setCell (by show w.heap.size ≤ w.heap.size + 1; omega) _).setCell (by show w.heap.size ≤ w.heap.size + 1; omega) _))
    · clear hp
      go_enter Try.func9, Try.ntmps9
      go_wp2_with fail
      refine (O.out _).mono ?_; rintro e w1 ⟨rfl, hb1⟩
      have z1 := zb.out.kept hb1
      have hW1 := mmore hu.out hb1
      have x0 : w1.cell? ⟨w.heap.size + 1, 0, none⟩ = some (.int .i64 0) := z1.cell 0
      have x1 : w1.cell? ⟨w.heap.size + 1, 1, none⟩ = some (.int .u64 0) := z1.cell 1
      have f0 : w1.frozen? ⟨w.heap.size + 1, 0, none⟩ = false := z1.free 0
      have f1 : w1.frozen? ⟨w.heap.size + 1, 1, none⟩ = false := z1.free 1
      obtain ⟨_, r1, r2⟩ := put2 (w := w1) (g := w.heap.size + 1) (.int .i64 yk) (.int .u64 (yb : Int)) x0 x1
      replace r1 := Lib.hid r1
      replace r2 := Lib.hid r2
      replace hW1 := Lib.hid hW1
      go_wp2
      exact bodyPost_ret (v := .agg #[.int .i64 yk, .int .u64 (yb : Int)]) (by simp [results, Try.results9, go_sem, r1.out, r2.out]) rfl (.mk rfl ((hW1.out.setCell (by show w.heap.size ≤ w.heap.size + 1; omega) _).setCell (by show w.heap.size ≤ w.heap.size + 1; omega) _))

end Go.Proofs.Ytfjnphiegoogoaa

/- NdH -/
namespace Go.Proofs.Ytfjnphiegoogoaa
open Go.ChangeShapes Go.WideShapes Go.ChangeAt Go.RowKit Go.Fl
set_option linter.unusedVariables false
set_option linter.unusedSimpArgs false


set_option maxHeartbeats 8000000 in
set_option maxRecDepth 100000 in
theorem rnode_op (E B A : Option Addr) (ce cb n c : Nat) (cur kd vk : Int) (vb : Nat) (pos attr : Int) (es : List Ev) (bs : List (List Int)) (w : World) (op : Int) (vs : List (Int × Nat)) (hop : ¬ LeafOp op) (hvl : vs.length = n) (hn : n ≤ 1099511627776) (hbits : ∀ v ∈ vs, v.2 < 18446744073709551616)
    (hK : ∀ (k : Nat) (v : Int × Nat), vs[k]? = some v → ∃ (ab ao : Nat) (op1 kd1 vk1 : Int) (vb1 : Nat) (pos1 attr1 : Int) (A1 : Option Addr) (n1 c1 : Nat), A = some ⟨ab, ao, none⟩ ∧
      w.cell? ⟨ab, ao + k * 7, none⟩ = some (.int .i64 op1) ∧ w.cell? ⟨ab, ao + k * 7 + 1, none⟩ = some (.int .i64 kd1) ∧ w.cell? ⟨ab, ao + k * 7 + 2, none⟩ = some (.slice A1 n1 c1) ∧ w.cell? ⟨ab, ao + k * 7 + 3, none⟩ = some (.int .i64 vk1) ∧ w.cell? ⟨ab, ao + k * 7 + 4, none⟩ = some (.int .u64 (vb1 : Int)) ∧ w.cell? ⟨ab, ao + k * 7 + 5, none⟩ = some (.int .i64 pos1) ∧ w.cell? ⟨ab, ao + k * 7 + 6, none⟩ = some (.int .i64 attr1) ∧
      ∀ wz, Below w.heap.size w wz → Calls Try.prog 9 #[.agg #[.int .i64 op1, .int .i64 kd1, .slice A1 n1 c1, .int .i64 vk1, .int .u64 (vb1 : Int), .int .i64 pos1, .int .i64 attr1], .slice E es.length ce, .slice B bs.length cb, .int .i64 cur] wz (VIs v wz)) :
    Calls Try.prog 9 #[.agg #[.int .i64 op, .int .i64 kd, .slice A n c, .int .i64 vk, .int .u64 (vb : Int), .int .i64 pos, .int .i64 attr], .slice E es.length ce, .slice B bs.length cb, .int .i64 cur] w (VIs (appP op vs) w) := by
  have h0 : ¬ op = 25 ∧ ¬ op = 26 ∧ ¬ op = 27 ∧ ¬ op = 28 ∧ ¬ op = 29 ∧ ¬ op = 30 ∧ ¬ op = 31 ∧ ¬ op = 40 ∧ ¬ op = 41 ∧ ¬ op = 42 := by unfold LeafOp at hop; omega
  have x40 : (op == 40) = false := by simp; omega
  have x41 : (op == 41) = false := by simp; omega
  have x42 : (op == 42) = false := by simp; omega
  have hu := m2 w (.cells #[.int .i64 op, .int .i64 kd, .slice A n c, .int .i64 vk, .int .u64 (vb : Int), .int .i64 pos, .int .i64 attr] 27) (.cells #[.int .i64 0, .int .u64 0] 36)
  have nb := (Blk.made w 27 #[.int .i64 op, .int .i64 kd, .slice A n c, .int .i64 vk, .int .u64 (vb : Int), .int .i64 pos, .int .i64 attr]).kept (m1 _ (.cells #[.int .i64 0, .int .u64 0] 36))
  have zb : Blk ((w.alloc (.cells #[.int .i64 op, .int .i64 kd, .slice A n c, .int .i64 vk, .int .u64 (vb : Int), .int .i64 pos, .int .i64 attr] 27)).alloc (.cells #[.int .i64 0, .int .u64 0] 36)) (w.heap.size + 1) 36 #[.int .i64 0, .int .u64 0] := by
    have := Blk.made (w.alloc (.cells #[.int .i64 op, .int .i64 kd, .slice A n c, .int .i64 vk, .int .u64 (vb : Int), .int .i64 pos, .int .i64 attr] 27)) 36 #[.int .i64 0, .int .u64 0]
    simpa using this
  obtain ⟨i0, hi, hz0, hz1, hz2⟩ := info_parts infoR
  have AP := fun wz (Az : Option Addr) (cz : Nat) (h1 : RowV wz Az n vs) => rapply_any op Az n cz vs wz h1 (by omega)
  generalize appP op vs = y at *
  obtain ⟨yk, yb⟩ := y
  simp only at AP
  replace AP := Lib.hid AP
  have key : (op ≥ 25 ∧ ¬ op ≤ 31) ∨ ¬ op ≥ 25 := by omega
  replace hbits := Lib.hid hbits
  replace hK := Lib.hid hK
  replace hvl := Lib.hid hvl
  replace hi := Lib.hid hi
  replace hz0 := Lib.hid hz0
  replace hz1 := Lib.hid hz1
  replace hz2 := Lib.hid hz2
  replace hu := Lib.hid hu
  replace zb := Lib.hid zb
  clear hop h0
  go_enter Try.func9, Try.ntmps9
  go_upto_region 5 with (fail)
  go_cut [40] from 5 to 5 (fun b wr => b = .bool false ∧ wr = (w.alloc (.cells #[.int .i64 op, .int .i64 kd, .slice A n c, .int .i64 vk, .int .u64 (vb : Int), .int .i64 pos, .int .i64 attr] 27)).alloc (.cells #[.int .i64 0, .int .u64 0] 36))
  case first =>
    rcases key with ⟨k1, k2⟩ | k1
    · go_wp2_with fail
      go_meet
      exact ⟨rfl, rfl⟩
    · go_wp2_with fail
      go_meet
      exact ⟨rfl, rfl⟩
  case rest =>
    obtain ⟨rfl, rfl⟩ := hcut
    clear key
    generalize (w.alloc (.cells #[.int .i64 op, .int .i64 kd, .slice A n c, .int .i64 vk, .int .u64 (vb : Int), .int .i64 pos, .int .i64 attr] 27)).alloc (.cells #[.int .i64 0, .int .u64 0] 36) = u at *
    have m2' : u.cell? ⟨w.heap.size, 2, none⟩ = some (.slice A n c) := nb.cell 2
    replace nb := Lib.hid nb
    go_wp2_with fail
    clear m2'
    go_loopw [12, 77] (fun v i wr => ∃ k : Nat, k ≤ n ∧ i = .int .i64 (k : Int) ∧ RnR u vs k v wr) (fun _ i _ => n - (intOf i).toNat)
    case atStart => exact ⟨0, Nat.zero_le _, rfl, World.ownsRow_nil _ _ _ _, Below.refl _ _⟩
    case round =>
      obtain ⟨k, hk, rfl, hO, hB⟩ := hrel
      have nbr := nb.out.kept hB
      have n2 : wr.cell? ⟨w.heap.size, 2, none⟩ = some (.slice A n c) := nbr.cell 2
      have n0 : wr.cell? ⟨w.heap.size, 0, none⟩ = some (.int .i64 op) := nbr.cell 0
      have hWr := mmore hu.out hB
      by_cases hkl : k < n
      · have hkv : k < vs.length := by rw [hvl.out]; exact hkl
        obtain ⟨ab, ao, op1, kd1, vk1, vb1, pos1, attr1, A1, n1, c1, rfl, d0, d1, d2, d3, d4, d5, d6, hC⟩ := hK.out k _ (List.getElem?_eq_getElem hkv)
        have hvk : vs[k]? = some (vs[k]'hkv) := List.getElem?_eq_getElem hkv
        have sn := Lib.hid (cellsV_snoc vs k _ hvk)
        generalize vs[k] = x at *
        obtain ⟨xk, xb⟩ := x
        have d0 := cell_later hWr d0
        have d1 := cell_later hWr d1
        have d2 := cell_later hWr d2
        have d3 := cell_later hWr d3
        have d4 := cell_later hWr d4
        have d5 := cell_later hWr d5
        have d6 := cell_later hWr d6
        have O := Lib.hid (hC wr hWr)
        clear hC hvk nbr
        have li : (k : Int) < (n : Int) := by omega
        go_wp2_with fail
        refine O.out.mono ?_; rintro e w1 ⟨rfl, hb1⟩
        have hO1 := own_below hO hb1
        have hB1 := mmore hB hb1
        clear hO hb1
        have hs1 := hB1.size
        go_wp2_with (at_builtin; refine wpList_append_own _ rfl (.tmp 80) (.tmp 90) 57 rfl u.heap.size 36 i0 (.agg #[.int .i64 0, .int .u64 0]) 2 16 Try.underlying57 hi.out hz0.out hz1.out hz2.out rfl (by decide) u12 k (cellsV (vs.take k)) rfl (hO1.alloc _) ⟨w1.heap.size, 0, none⟩ 1 1 [.int .i64 xk, .int .u64 (xb : Int)] rfl rfl (news_two9 _ _ _ _) (one_two9 _ _) ?c3 ?c4 ?c5 ?_)
        case c3 => unfold maxLen; omega
        case c4 => omega
        case c5 => simp; omega
        intro v' w2 hO2 hgrow _
        rw [← sn.out] at hO2
        have hB2 : Below u.heap.size u w2 := (hB1.alloc hs1 _).grown hgrow (by simp; omega) (fun g hg => (hO1.lt g hg).1)
        clear hO1 hB1 n2 n0 d0 d1 d2 d3 d4 d5 d6
        go_wp2
        go_roundw
        case rel => exact ⟨k + 1, by omega, by go_num, hO2, hB2⟩
        case measure => simp [intOf]; omega
      · obtain rfl : k = n := by omega
        rw [← hvl.out, List.take_length] at hO
        obtain ⟨Az, cz, rfl, hc1, hc2, hR⟩ := own_row9 hO hbits.out
        rw [hvl.out] at hR
        have O := Lib.hid (AP.out wr Az cz hR)
        have zr := zb.out.kept hB
        have hvl2 := hvl.out
        clear hO hR hB AP
        rw [hvl2]
        go_wp2_with fail
        refine O.out.mono ?_; rintro e w1 ⟨rfl, hb1⟩
        have z1 := zr.kept hb1
        have hW1 := mmore hWr hb1
        clear hWr zr nbr n2 n0 hb1
        have x0 : w1.cell? ⟨w.heap.size + 1, 0, none⟩ = some (.int .i64 0) := z1.cell 0
        have x1 : w1.cell? ⟨w.heap.size + 1, 1, none⟩ = some (.int .u64 0) := z1.cell 1
        have f0 : w1.frozen? ⟨w.heap.size + 1, 0, none⟩ = false := z1.free 0
        have f1 : w1.frozen? ⟨w.heap.size + 1, 1, none⟩ = false := z1.free 1
        obtain ⟨_, r1, r2⟩ := put2 (w := w1) (g := w.heap.size + 1) (.int .i64 yk) (.int .u64 (yb : Int)) x0 x1
        replace r1 := Lib.hid r1
        replace r2 := Lib.hid r2
        replace hW1 := Lib.hid hW1
        go_wp2
        exact bodyPost_ret (v := .agg #[.int .i64 yk, .int .u64 (yb : Int)]) (by simp [results, Try.results9, go_sem, r1.out, r2.out]) rfl (.mk rfl ((hW1.out.setCell (by show w.heap.size ≤ w.heap.size + 1; omega) _).setCell (by show w.heap.size ≤ w.heap.size + 1; omega) _))

theorem rnode_any (E B : Option Addr) (ce cb : Nat) (cur : Int) (es : List Ev) (bs : List (List Int)) : ∀ (m : Nat) (op kd vk : Int) (vb : Nat) (pos attr : Int) (A : Option Addr) (c : Nat) (args : List NT), NT.sizes args < m → NT.sizes args ≤ 1099511627776 →
    ∀ (w : World), vb < 18446744073709551616 → NodesIs w A args → LookIn w E B es bs → (∀ pos, (placesP bs pos).length ≤ 1099511627776) →
    Calls Try.prog 9 #[.agg #[.int .i64 op, .int .i64 kd, .slice A args.length c, .int .i64 vk, .int .u64 (vb : Int), .int .i64 pos, .int .i64 attr], .slice E es.length ce, .slice B bs.length cb, .int .i64 cur] w (VIs (evT (lfP es bs cur) (.mk op kd vk vb pos attr args)) w) := by
  intro m
  induction m with
  | zero => intro op kd vk vb pos attr A c args h; omega
  | succ m ih =>
    intro op kd vk vb pos attr A c args hm hs w hvb hN hL hP
    rw [evT]
    by_cases hop : LeafOp op
    · rw [if_pos hop]
      show Calls _ _ _ w (VIs (leafP op vk vb pos attr es bs cur) w)
      by_cases h40 : op = 40
      · subst h40
        exact rnode_const E B A ce cb args.length c cur kd vk vb pos attr es bs w hvb
      by_cases h41 : op = 41
      · subst h41
        exact rnode_cur E B A ce cb args.length c cur kd vk vb pos attr es bs w hL
      by_cases h42 : op = 42
      · subst h42
        exact rnode_agg42 E B A ce cb args.length c cur kd vk vb pos attr es bs w hL (hP pos)
      · exact rnode_aggB E B A ce cb args.length c cur kd vk vb pos attr es bs w op (by unfold LeafOp at hop; omega) (by unfold LeafOp at hop; omega) hL (hP pos)
    · rw [if_neg hop]
      refine rnode_op E B A ce cb args.length c cur kd vk vb pos attr es bs w op (evTs (lfP es bs cur) args) hop (evTs_len _ _) ?_ ?_ ?_
      · have := NT.size_len args; omega
      · intro v hv
        rw [evTs_map] at hv
        obtain ⟨t, ht, rfl⟩ := List.mem_map.1 hv
        obtain ⟨i, hi, rfl⟩ := List.getElem_of_mem ht
        obtain ⟨ab, ao, e⟩ := hN.1 (by omega)
        exact evT_lt hL.1 bs cur (hN.2 i _ (List.getElem?_eq_getElem hi) ab ao e)
      · intro k v hv
        have hkl : k < args.length := by have := (List.getElem?_eq_some_iff.1 hv).1; rw [evTs_len] at this; exact this
        rw [evTs_at _ (List.getElem?_eq_getElem hkl)] at hv
        obtain rfl := Option.some.inj hv
        obtain ⟨ab, ao, e⟩ := hN.1 (by omega)
        have hc := hN.2 k _ (List.getElem?_eq_getElem hkl) ab ao e
        have hz := NT.size_mem (List.getElem_mem hkl)
        generalize args[k] = t at *
        cases hc with
        | mk _ _ op1 kd1 vk1 vb1 pos1 attr1 args1 A1 c1 h0 h1 h2 h3 h4 h5 h6 hvb1 hA1 hk1 =>
          unfold NT.size at hz
          refine ⟨ab, ao, op1, kd1, vk1, vb1, pos1, attr1, A1, args1.length, c1, e, h0, h1, h2, h3, h4, h5, h6, fun wz hwz => ?_⟩
          exact ih op1 kd1 vk1 vb1 pos1 attr1 A1 c1 args1 (by omega) (by omega) wz hvb1 (NodesIs.later hwz ⟨hA1, hk1⟩) (hL.later hwz) hP

end Go.Proofs.Ytfjnphiegoogoaa
