/- An aggregate, or an attribute, of a look, and events with one number each, as contracts. -/
import Derived.Test.YtfjnphiegoogoaaLkG
import Derived.Test.YtfjnphiegoogoaaLkH
namespace Go.Proofs.Ytfjnphiegoogoaa
open Go.ChangeShapes Go.WideShapes Go.ChangeAt Go.RowKit Go.Fl
set_option linter.unusedVariables false
set_option linter.unusedSimpArgs false

theorem leaf_any (E B : Option Addr) (ce cb : Nat) (cur : Int) (es : List Ev) (bs : List (List Int)) (b o : Nat) (op vk : Int) (vb : Nat) (pos attr : Int) (w : World) (hop : LeafOp op) (hvb : vb < 18446744073709551616) (hn : NodeC w b o op vk vb pos attr) (hL : LookIn w E B es bs) :
    Asks 54 E B es.length ce bs.length cb cur b o (leafP op vk vb pos attr es bs cur) w := by
  intro wz hz
  have hn := hn.later hz
  have hL := hL.later hz
  unfold leafP
  by_cases h40 : op = 40
  · subst h40; rw [if_pos rfl]; exact leaf_const E B _ _ _ _ cur b o vk vb pos attr wz hn hvb
  rw [if_neg h40]
  by_cases h41 : op = 41
  · subst h41; rw [if_pos rfl]; exact leaf_cur E B ce cb cur es bs b o vk vb pos attr wz hn hL
  rw [if_neg h41]
  by_cases h25 : op = 25
  · subst h25; rw [if_pos rfl]; exact leaf_count E B ce cb cur es bs b o vk vb pos attr wz hn hL
  rw [if_neg h25]
  by_cases hp : placesP bs pos = []
  · rw [if_pos hp]
    exact leaf_empty E B ce cb cur es bs b o op vk vb pos attr wz (by simpa using h40) (by simpa using h41) (by simpa using h25) hn hL hp
  rw [if_neg hp]
  unfold aggP
  rcases hop with rfl | rfl | rfl | rfl | rfl | rfl | rfl | rfl | rfl | rfl
  · exact absurd rfl h25
  · exact leaf_26 E B ce cb cur es bs b o vk vb pos attr wz hn hL hp
  · exact leaf_27 E B ce cb cur es bs b o vk vb pos attr wz hn hL hp
  · exact leaf_28 E B ce cb cur es bs b o vk vb pos attr wz hn hL hp
  · exact leaf_29 E B ce cb cur es bs b o vk vb pos attr wz hn hL hp
  · exact leaf_30 E B ce cb cur es bs b o vk vb pos attr wz hn hL hp
  · exact leaf_31 E B ce cb cur es bs b o vk vb pos attr wz hn hL hp
  · exact absurd rfl h40
  · exact absurd rfl h41
  · exact leaf_42 E B ce cb cur es bs b o vk vb pos attr wz hn hL hp

theorem node_leaf (E B : Option Addr) (ce cb : Nat) (cur : Int) (es : List Ev) (bs : List (List Int)) (op kd : Int) (A : Option Addr) (na ca : Nat) (vk : Int) (vb : Nat) (pos attr : Int) (w : World) (hop : LeafOp op) (hvb : vb < 18446744073709551616) (hL : LookIn w E B es bs) :
    Calls Try.prog 8 #[.agg #[.int .i64 op, .int .i64 kd, .slice A na ca, .int .i64 vk, .int .u64 (vb : Int), .int .i64 pos, .int .i64 attr], lookV E B es.length ce bs.length cb cur] w (VIs (leafP op vk vb pos attr es bs cur) w) :=
  node_any E B _ ce _ cb cur op kd A na ca vk vb pos attr _ w fun wz hz hB =>
    ask_leaf E B _ ce _ cb cur w.heap.size 0 op _ wz hop (hB.cell 0) (leaf_any E B ce cb cur es bs w.heap.size 0 op vk vb pos attr wz hop hvb ⟨hB.cell 0, hB.cell 3, hB.cell 4, hB.cell 5, hB.cell 6⟩ (hL.later hz))

set_option maxHeartbeats 4000000 in
set_option maxRecDepth 100000 in
theorem do_any9 (E B : Option Addr) (ce cb : Nat) (cur : Int) (es : List Ev) (bs : List (List Int)) (op pos attr : Int) (w : World) (hop : LeafOp op) (hL : LookIn w E B es bs) :
    Calls Try.prog 14 #[.int .i64 op, .int .i64 pos, .int .i64 attr, lookV E B es.length ce bs.length cb cur] w (VIs (leafP op 0 0 pos attr es bs cur) w) := by
  have hu := m2 w (lookO E B es.length ce bs.length cb cur) (.cells #[.int .i64 0, .int .u64 0] 25)
  have O := node_leaf E B ce cb cur es bs op 0 none 0 0 0 0 pos attr _ hop (by decide) (hL.later hu)
  generalize leafP op 0 0 pos attr es bs cur = x at *
  obtain ⟨xk, xb⟩ := x
  replace O := Lib.hid O
  replace hu := Lib.hid hu
  clear hL hop
  go_enter Try.func14, Try.ntmps14
  go_wp2_with fail
  refine O.out.mono ?_; rintro e w1 ⟨rfl, hb1⟩
  obtain ⟨hc, hf⟩ := bcell hb1
  obtain ⟨_, r1, r2⟩ := put2 (w := w1) (g := w.heap.size + 1) (.int .i64 xk) (.int .u64 (xb : Int)) (x := .int .i64 0) (y := .int .u64 0) (by rw [hc _ _ (by simp)]; simp [go_sem]) (by rw [hc _ _ (by simp)]; simp [go_sem])
  go_wp2
  exact bodyPost_ret (v := .agg #[.int .i64 xk, .int .u64 (xb : Int)]) (by simp [results, Try.results14, go_sem, r1, r2]) rfl (.mk rfl (((mmore hu.out hb1).setCell (by show w.heap.size ≤ w.heap.size + 1; omega) _).setCell (by show w.heap.size ≤ w.heap.size + 1; omega) _))

/-! ### events with one number each -/
def intEv (z : Int) : Ev := (0, 0, [(1, nU z)])
def icE (gs : List Nat) : List Value := gs.flatMap fun g => [.int .i64 0, .int .i64 0, .slice (some ⟨g, 0, none⟩) 1 1]
theorem icE_snoc (gs : List Nat) (g : Nat) : icE (gs ++ [g]) = icE gs ++ [.int .i64 0, .int .i64 0, .slice (some ⟨g, 0, none⟩) 1 1] := by simp [icE]
theorem icE_at : ∀ (gs : List Nat) (i g : Nat), gs[i]? = some g → (icE gs)[i * 3]? = some (.int .i64 0) ∧ (icE gs)[i * 3 + 1]? = some (.int .i64 0) ∧ (icE gs)[i * 3 + 2]? = some (.slice (some ⟨g, 0, none⟩) 1 1)
  | [], i, g, h => by simp at h
  | x :: gs, 0, g, h => by simp at h; subst h; exact ⟨rfl, rfl, rfl⟩
  | x :: gs, i + 1, g, h => by
    have := icE_at gs i g (by simpa using h)
    rw [show (i + 1) * 3 = i * 3 + 3 by omega]
    exact this
def Ones (w : World) (B : Nat) (zs : List Int) (gs : List Nat) : Prop := ∀ (i g : Nat) (z : Int), gs[i]? = some g → zs[i]? = some z → Blk w g 25 #[.int .i64 1, .int .u64 ((nU z : Nat) : Int)]
theorem infoEv9 : (Try.prog.info? 65).map (fun i => (i.zero, i.size, i.bytes)) = some (some (.agg #[.int .i64 0, .int .i64 0, .slice none 0 0]), 3, 40) := by kernel_rfl
theorem own_ones {w : World} {base B : Nat} {v : Value} {zs : List Int} {gs : List Nat} (hl : gs.length = zs.length) (h : w.ownsRow base 65 3 v zs.length (icE gs)) (ho : Ones w B zs gs) :
    ∃ A cap, v = .slice A zs.length cap ∧ EvsAt w A (zs.map intEv) := by
  have key : ∀ g, (∀ j u, (icE gs)[j]? = some u → w.cell? ((⟨g, 0, none⟩ : Addr).add j) = some u) → EvsAt w (some ⟨g, 0, none⟩) (zs.map intEv) := by
    intro g hc _
    refine ⟨g, 0, rfl, fun i e he => ?_⟩
    rw [List.getElem?_map] at he
    obtain ⟨z, hz, rfl⟩ := Option.map_eq_some_iff.1 he
    have hi := (List.getElem?_eq_some_iff.1 hz).1
    have hg : gs[i]? = some (gs[i]'(by omega)) := List.getElem?_eq_getElem (by omega)
    obtain ⟨a0, a1, a2⟩ := icE_at gs i _ hg
    have b0 := hc _ _ a0
    have b1 := hc _ _ a1
    have b2 := hc _ _ a2
    have ea : ∀ j, (⟨g, 0, none⟩ : Addr).add j = ⟨g, 0 + j, none⟩ := fun j => by unfold Addr.add; split <;> simp_all
    rw [ea] at b0 b1 b2
    have hO := ho i _ z hg hz
    refine ⟨b0, b1, _, 1, b2, rfl, ?_, fun _ => ⟨_, 0, rfl, fun k x c hk => ?_⟩⟩
    · intro v hv; simp [intEv] at hv; subst hv; exact nU_lt z
    · match k, hk with
      | 0, hk => simp [intEv] at hk; obtain ⟨rfl, rfl⟩ := hk; exact ⟨hO.cell 0, hO.cell 1⟩
  by_cases h0 : zs.length = 0
  · rcases h.2 with ⟨rfl, _⟩ | ⟨g, cap, cur, rfl, _⟩
    · exact ⟨none, 0, by rw [h0], fun hp => absurd hp (by simp [h0])⟩
    · exact ⟨_, cap, by rfl, fun hp => absurd hp (by simp [h0])⟩
  · obtain ⟨g, cap, rfl, _, _⟩ := h.form (by omega)
    exact ⟨_, cap, rfl, key g (h.cells (g := g) rfl)⟩
def IntsR (w : World) (zs : List Int) (v i : Value) (wr : World) : Prop :=
  ∃ (k : Nat) (gs : List Nat), k ≤ zs.length ∧ i = .int .i64 (k : Int) ∧ gs.length = k ∧ wr.ownsRow w.heap.size 65 3 v k (icE gs) ∧ Ones wr 0 zs gs ∧ Below w.heap.size w wr
/-- events are answered -/
def EIs (es : List Ev) (w : World) (e : Ending) (w' : World) : Prop := ∃ A cap, e = .returned (.slice A es.length cap) ∧ EvsAt w' A es ∧ Below w.heap.size w w'

set_option maxHeartbeats 8000000 in
set_option maxRecDepth 100000 in
theorem ints_any (A : Option Addr) (cap : Nat) (zs : List Int) (w : World) (hA : IntsAt w A zs) (hr : zs.length * 40 ≤ 140737488351232) :
    Calls Try.prog 16 #[.slice A zs.length cap] w (EIs (zs.map intEv) w) := by
  obtain ⟨i0, hi, hz0, hz1, hz2⟩ := info_parts infoEv9
  replace hA := Lib.hid hA
  go_enter Try.func16, Try.ntmps16
  go_wp2_with fail
  go_loopw [3, 8] (fun v i wr => IntsR w zs v i wr) (fun _ i _ => zs.length - (intOf i).toNat)
  case atStart => exact ⟨0, [], Nat.zero_le _, rfl, rfl, World.ownsRow_nil _ _ _ _, fun i g z h => by simp at h, Below.refl _ _⟩
  case round =>
    obtain ⟨k, gs, hk, rfl, hl, hO, hU, hB⟩ := hrel
    by_cases hkl : k < zs.length
    · obtain ⟨b, off, e2, hc⟩ := hA.out (by omega)
      have q0 := hc k _ (List.getElem?_eq_getElem hkl)
      have hzk : zs[k]? = some zs[k] := List.getElem?_eq_getElem hkl
      subst e2
      generalize zs[k] = z at *
      have q0 := cell_later hB q0
      have hn := nU_eq z
      have hUz : Blk (wr.alloc (.cells #[.int .i64 1, .int .u64 (IntKind.u64.wrap z)] 25)) wr.heap.size 25 #[.int .i64 1, .int .u64 ((nU z : Nat) : Int)] := by rw [hn]; exact Blk.made _ _ _
      have hs0 := hB.size
      have hB1 := Lib.hid (mmore hB (m2 wr (.cells #[.int .i64 1, .int .u64 (IntKind.u64.wrap z)] 25) (.cells #[.int .i64 0, .int .i64 0, .slice (some ⟨wr.heap.size, 0, none⟩) 1 1] 65)))
      have hUz2 := Lib.hid (hUz.kept (m1 _ (.cells #[.int .i64 0, .int .i64 0, .slice (some ⟨wr.heap.size, 0, none⟩) 1 1] 65)))
      have hU2 := Lib.hid (fun i g x (h : gs[i]? = some g) h' => (hU i g x h h').kept (m2 wr (.cells #[.int .i64 1, .int .u64 (IntKind.u64.wrap z)] 25) (.cells #[.int .i64 0, .int .i64 0, .slice (some ⟨wr.heap.size, 0, none⟩) 1 1] 65)))
      replace hzk := Lib.hid hzk
      replace hl := Lib.hid hl
      clear hUz hU hB hc hn
      go_wp2_with (at_builtin; refine wpList_append_own _ rfl (.tmp 12) (.tmp 18) 28 rfl w.heap.size 65 i0 (.agg #[.int .i64 0, .int .i64 0, .slice none 0 0]) 3 40 Try.underlying28 hi hz0 hz1 hz2 rfl (by decide) u3 k (icE gs) rfl ((hO.alloc _).alloc _) ⟨wr.heap.size + 1, 0, none⟩ 1 1 [.int .i64 0, .int .i64 0, .slice (some ⟨wr.heap.size, 0, none⟩) 1 1] rfl rfl ?c1 ?c2 ?c3 ?c4 ?c5 ?_)
      case c1 =>
        intro j u hj
        match j, hj with
        | 0, hj => simp at hj; subst hj; simp [Addr.add]
        | 1, hj => simp at hj; subst hj; simp [Addr.add]
        | 2, hj => simp at hj; subst hj; simp [Addr.add]
      case c2 => intro u hu; simp at hu; rcases hu with rfl | rfl | rfl <;> rfl
      case c3 => unfold maxLen; omega
      case c4 => omega
      case c5 => first | omega | (simp; omega)
      intro v' w4 hO4 hgrow _
      rw [← icE_snoc] at hO4
      have hO6 := (hO.alloc (.cells #[.int .i64 1, .int .u64 (IntKind.u64.wrap z)] 25)).alloc (.cells #[.int .i64 0, .int .i64 0, .slice (some ⟨wr.heap.size, 0, none⟩) 1 1] 65)
      have hB4 : Below w.heap.size w w4 := hB1.out.grown hgrow (by simp; omega) (fun g hg => (hO6.lt g hg).1)
      have hU4 : Ones w4 0 zs (gs ++ [wr.heap.size]) := by
        intro i g x h h'
        by_cases c : i < k
        · rw [List.getElem?_append_left (by rw [hl.out]; exact c)] at h
          exact (hU2.out i g x h h').grown hgrow ((hU2.out i g x h h').own_ne hO6 (by decide))
        · have hi2 := (List.getElem?_eq_some_iff.1 h).1
          have : i = k := by simp [hl.out] at hi2; omega
          subst this
          rw [List.getElem?_append_right (by rw [hl.out]; omega), hl.out, Nat.sub_self] at h
          rw [hzk.out] at h'
          injection h' with h'
          simp at h
          subst h h'
          exact hUz2.out.grown hgrow (hUz2.out.own_ne hO6 (by decide))
      replace hU4 := Lib.hid hU4
      replace hB4 := Lib.hid hB4
      clear hU2 hUz2 hO hO6 hgrow hB1 q0
      go_wp2
      go_roundw
      case rel => exact ⟨k + 1, gs ++ [wr.heap.size], by omega, by go_num, by simp [hl.out], hO4, hU4.out, hB4.out⟩
      case measure => simp [intOf]; omega
    · obtain rfl : k = zs.length := by omega
      obtain ⟨A', cap', rfl, hE⟩ := own_ones hl hO hU
      replace hE := Lib.hid hE
      replace hB := Lib.hid hB
      clear hO hU
      go_wp2
      go_ret
      exact ⟨A', cap', by rw [List.length_map]; rfl, hE.out, hB.out⟩
end Go.Proofs.Ytfjnphiegoogoaa
