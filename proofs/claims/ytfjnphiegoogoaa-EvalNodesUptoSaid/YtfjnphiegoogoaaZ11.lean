/- LkH, LkI, LkJ -/
import Derived.Test.YtfjnphiegoogoaaZ08
import Derived.Test.YtfjnphiegoogoaaZ10
/- LkH -/
namespace Go.Proofs.Ytfjnphiegoogoaa
open Go.ChangeShapes Go.WideShapes Go.ChangeAt Go.RowKit Go.Fl
set_option linter.unusedVariables false
set_option linter.unusedSimpArgs false

def LeafOp (op : Int) : Prop := op = 25 ∨ op = 26 ∨ op = 27 ∨ op = 28 ∨ op = 29 ∨ op = 30 ∨ op = 31 ∨ op = 40 ∨ op = 41 ∨ op = 42
theorem isleaf_25 (w : World) : Calls Try.prog 53 #[.int .i64 25] w fun e w' => e = .returned (.bool true) ∧ w = w' := by
  go_enter Try.func53, Try.ntmps53
  go_wp2
  go_ret
  exact ⟨rfl, rfl⟩
theorem isleaf_26 (w : World) : Calls Try.prog 53 #[.int .i64 26] w fun e w' => e = .returned (.bool true) ∧ w = w' := by
  go_enter Try.func53, Try.ntmps53
  go_wp2
  go_ret
  exact ⟨rfl, rfl⟩
theorem isleaf_27 (w : World) : Calls Try.prog 53 #[.int .i64 27] w fun e w' => e = .returned (.bool true) ∧ w = w' := by
  go_enter Try.func53, Try.ntmps53
  go_wp2
  go_ret
  exact ⟨rfl, rfl⟩
theorem isleaf_28 (w : World) : Calls Try.prog 53 #[.int .i64 28] w fun e w' => e = .returned (.bool true) ∧ w = w' := by
  go_enter Try.func53, Try.ntmps53
  go_wp2
  go_ret
  exact ⟨rfl, rfl⟩
theorem isleaf_29 (w : World) : Calls Try.prog 53 #[.int .i64 29] w fun e w' => e = .returned (.bool true) ∧ w = w' := by
  go_enter Try.func53, Try.ntmps53
  go_wp2
  go_ret
  exact ⟨rfl, rfl⟩
theorem isleaf_30 (w : World) : Calls Try.prog 53 #[.int .i64 30] w fun e w' => e = .returned (.bool true) ∧ w = w' := by
  go_enter Try.func53, Try.ntmps53
  go_wp2
  go_ret
  exact ⟨rfl, rfl⟩
theorem isleaf_31 (w : World) : Calls Try.prog 53 #[.int .i64 31] w fun e w' => e = .returned (.bool true) ∧ w = w' := by
  go_enter Try.func53, Try.ntmps53
  go_wp2
  go_ret
  exact ⟨rfl, rfl⟩
theorem isleaf_40 (w : World) : Calls Try.prog 53 #[.int .i64 40] w fun e w' => e = .returned (.bool true) ∧ w = w' := by
  go_enter Try.func53, Try.ntmps53
  go_wp2
  go_ret
  exact ⟨rfl, rfl⟩
theorem isleaf_41 (w : World) : Calls Try.prog 53 #[.int .i64 41] w fun e w' => e = .returned (.bool true) ∧ w = w' := by
  go_enter Try.func53, Try.ntmps53
  go_wp2
  go_ret
  exact ⟨rfl, rfl⟩
theorem isleaf_42 (w : World) : Calls Try.prog 53 #[.int .i64 42] w fun e w' => e = .returned (.bool true) ∧ w = w' := by
  go_enter Try.func53, Try.ntmps53
  go_wp2
  go_ret
  exact ⟨rfl, rfl⟩
theorem isleaf_yes (op : Int) (h : LeafOp op) (w : World) : Calls Try.prog 53 #[.int .i64 op] w fun e w' => e = .returned (.bool true) ∧ w = w' := by
  rcases h with rfl | rfl | rfl | rfl | rfl | rfl | rfl | rfl | rfl | rfl
  · exact isleaf_25 w
  · exact isleaf_26 w
  · exact isleaf_27 w
  · exact isleaf_28 w
  · exact isleaf_29 w
  · exact isleaf_30 w
  · exact isleaf_31 w
  · exact isleaf_40 w
  · exact isleaf_41 w
  · exact isleaf_42 w
theorem operands_leaf (b o : Nat) (op : Int) (w : World) (h : LeafOp op) (hn : w.cell? ⟨b, o, none⟩ = some (.int .i64 op)) :
    Calls Try.prog 27 #[.pointer (some ⟨b, o, none⟩)] w fun e w' => e = .returned (.slice none 0 0) ∧ w = w' := by
  have L := Lib.hid (fun w => isleaf_yes op h w)
  go_enter Try.func27, Try.ntmps27
  go_wp2_with (go_at_call 53; refine (L.out _).mono ?_; rintro e w' ⟨rfl, rfl⟩)
  go_ret
  exact ⟨rfl, rfl⟩
theorem rest_leaf (b o : Nat) (op : Int) (w : World) (h : LeafOp op) (hn : w.cell? ⟨b, o, none⟩ = some (.int .i64 op)) :
    Calls Try.prog 52 #[.pointer (some ⟨b, o, none⟩), .func (.func 27) #[] #[], .int .i64 200] w fun e w' => e = .returned (.int .i64 199) ∧ w = w' := by
  have L := Lib.hid (operands_leaf b o op w h hn)
  go_enter Try.func52, Try.ntmps52
  go_wp2_with (go_at_call 27; refine L.out.mono ?_; rintro e w' ⟨rfl, rfl⟩)
  go_loop [2, 16] (fun m i => m = .int .i64 199 ∧ i = .int .i64 0) (fun _ _ => 0)
  case atStart => exact ⟨rfl, rfl⟩
  case round =>
    obtain ⟨rfl, rfl⟩ := hrel
    go_wp2
    go_ret
    exact ⟨rfl, rfl⟩
theorem few_leaf (b o : Nat) (op : Int) (w : World) (h : LeafOp op) (hn : w.cell? ⟨b, o, none⟩ = some (.int .i64 op)) :
    Calls Try.prog 26 #[.pointer (some ⟨b, o, none⟩), .func (.func 27) #[] #[], .int .i64 200] w fun e w' => e = .returned (.bool true) ∧ w = w' := by
  have L := Lib.hid (rest_leaf b o op w h hn)
  go_enter Try.func26, Try.ntmps26
  go_wp2_with (go_at_call 52; refine L.out.mono ?_; rintro e w' ⟨rfl, rfl⟩)
  go_ret
  exact ⟨rfl, rfl⟩

/-- what is asked answers x, whatever has been made since -/
def Asks (f : FuncId) (E B : Option Addr) (ne ce nb cb : Nat) (cur : Int) (b o : Nat) (x : Int × Nat) (w : World) : Prop :=
  ∀ wz, Below w.heap.size w wz → Calls Try.prog f #[lookV E B ne ce nb cb cur, .pointer (some ⟨b, o, none⟩)] wz (VIs x wz)
theorem Asks.later {f : FuncId} {E B : Option Addr} {ne ce nb cb : Nat} {cur : Int} {b o : Nat} {x : Int × Nat} {w w1 : World} (h : Asks f E B ne ce nb cb cur b o x w) (hb : Below w.heap.size w w1) : Asks f E B ne ce nb cb cur b o x w1 :=
  fun wz hz => h wz (mmore hb hz)

theorem down_leaf (E B : Option Addr) (ne ce nb cb : Nat) (cur : Int) (b o : Nat) (op : Int) (x : Int × Nat) (w : World) (h : LeafOp op) (hn : w.cell? ⟨b, o, none⟩ = some (.int .i64 op)) (hA : Asks 54 E B ne ce nb cb cur b o x w) :
    Calls Try.prog 28 #[lookV E B ne ce nb cb cur, .pointer (some ⟨b, o, none⟩)] w (VIs x w) := by
  obtain ⟨xk, xb⟩ := x
  have L := Lib.hid (fun w => isleaf_yes op h w)
  have hu := m2 w (lookO E B ne ce nb cb cur) (.cells #[.int .i64 0, .int .u64 0] 25)
  have O := Lib.hid (hA _ hu)
  have hn := cell_later hu hn
  replace hu := Lib.hid hu
  clear hA h
  go_enter Try.func28, Try.ntmps28
  go_wp2_with (first | (go_at_call 53; refine (L.out _).mono ?_; rintro e w' ⟨rfl, rfl⟩) | fail)
  refine O.out.mono ?_; rintro e w1 ⟨rfl, hb1⟩
  obtain ⟨hc, hf⟩ := bcell hb1
  obtain ⟨_, r1, r2⟩ := put2 (w := w1) (g := w.heap.size + 1) (.int .i64 xk) (.int .u64 (xb : Int)) (x := .int .i64 0) (y := .int .u64 0) (by rw [hc _ _ (by simp)]; simp [go_sem]) (by rw [hc _ _ (by simp)]; simp [go_sem])
  go_wp2
  exact bodyPost_ret (v := .agg #[.int .i64 xk, .int .u64 (xb : Int)]) (by simp [results, Try.results28, go_sem, r1, r2]) rfl (.mk rfl (((below_more hu.out hb1).setCell (by show w.heap.size ≤ w.heap.size + 1; omega) _).setCell (by show w.heap.size ≤ w.heap.size + 1; omega) _))
theorem ask_few (E B : Option Addr) (ne ce nb cb : Nat) (cur : Int) (b o : Nat) (x : Int × Nat) (w : World)
    (hF : ∀ wz, Below w.heap.size w wz → Calls Try.prog 26 #[.pointer (some ⟨b, o, none⟩), .func (.func 27) #[] #[], .int .i64 200] wz fun e w' => e = .returned (.bool true) ∧ wz = w') (hA : Asks 28 E B ne ce nb cb cur b o x w) :
    Calls Try.prog 17 #[lookV E B ne ce nb cb cur, .pointer (some ⟨b, o, none⟩)] w (VIs x w) := by
  obtain ⟨xk, xb⟩ := x
  have hu := m2 w (lookO E B ne ce nb cb cur) (.cells #[.int .i64 0, .int .u64 0] 25)
  have L := Lib.hid (hF _ hu)
  have O := Lib.hid (hA _ hu)
  replace hu := Lib.hid hu
  clear hA hF
  go_enter Try.func17, Try.ntmps17
  go_wp2_with (first | (go_at_call 26; refine L.out.mono ?_; rintro e w' ⟨rfl, rfl⟩) | fail)
  refine O.out.mono ?_; rintro e w1 ⟨rfl, hb1⟩
  obtain ⟨hc, hf⟩ := bcell hb1
  obtain ⟨_, r1, r2⟩ := put2 (w := w1) (g := w.heap.size + 1) (.int .i64 xk) (.int .u64 (xb : Int)) (x := .int .i64 0) (y := .int .u64 0) (by rw [hc _ _ (by simp)]; simp [go_sem]) (by rw [hc _ _ (by simp)]; simp [go_sem])
  go_wp2
  exact bodyPost_ret (v := .agg #[.int .i64 xk, .int .u64 (xb : Int)]) (by simp [results, Try.results17, go_sem, r1, r2]) rfl (.mk rfl (((below_more hu.out hb1).setCell (by show w.heap.size ≤ w.heap.size + 1; omega) _).setCell (by show w.heap.size ≤ w.heap.size + 1; omega) _))
theorem ask_leaf (E B : Option Addr) (ne ce nb cb : Nat) (cur : Int) (b o : Nat) (op : Int) (x : Int × Nat) (w : World) (h : LeafOp op) (hn : w.cell? ⟨b, o, none⟩ = some (.int .i64 op)) (hA : Asks 54 E B ne ce nb cb cur b o x w) :
    Calls Try.prog 17 #[lookV E B ne ce nb cb cur, .pointer (some ⟨b, o, none⟩)] w (VIs x w) :=
  ask_few E B ne ce nb cb cur b o x w (fun wz hz => few_leaf b o op wz h (cell_later hz hn)) fun wz hz => down_leaf E B ne ce nb cb cur b o op x wz h (cell_later hz hn) (hA.later hz)

theorem zNode : (Try.prog.info? 27).map (fun i => (i.zero, i.size, i.bytes)) = some (some (.agg #[.int .i64 0, .int .i64 0, .slice none 0 0, .int .i64 0, .int .u64 0, .int .i64 0, .int .i64 0]), 7, 72) := by kernel_rfl

set_option maxHeartbeats 4000000 in
set_option maxRecDepth 100000 in
theorem node_any (E B : Option Addr) (ne ce nb cb : Nat) (cur op kd : Int) (A : Option Addr) (na ca : Nat) (vk : Int) (vb : Nat) (pos attr : Int) (x : Int × Nat) (w : World)
    (hA : ∀ wz, Below w.heap.size w wz → Blk wz w.heap.size 27 #[.int .i64 op, .int .i64 kd, .slice A na ca, .int .i64 vk, .int .u64 (vb : Int), .int .i64 pos, .int .i64 attr] → Calls Try.prog 17 #[lookV E B ne ce nb cb cur, .pointer (some ⟨w.heap.size, 0, none⟩)] wz (VIs x wz)) :
    Calls Try.prog 8 #[.agg #[.int .i64 op, .int .i64 kd, .slice A na ca, .int .i64 vk, .int .u64 (vb : Int), .int .i64 pos, .int .i64 attr], lookV E B ne ce nb cb cur] w (VIs x w) := by
  obtain ⟨xk, xb⟩ := x
  have hu := (m2 w (.cells #[.int .i64 op, .int .i64 kd, .slice A na ca, .int .i64 vk, .int .u64 (vb : Int), .int .i64 pos, .int .i64 attr] 27) (lookO E B ne ce nb cb cur)).alloc (by simp; omega) (.cells #[.int .i64 0, .int .u64 0] 25)
  have hB := ((Blk.made w 27 #[.int .i64 op, .int .i64 kd, .slice A na ca, .int .i64 vk, .int .u64 (vb : Int), .int .i64 pos, .int .i64 attr]).kept (m1 _ (lookO E B ne ce nb cb cur))).kept (m1 _ (.cells #[.int .i64 0, .int .u64 0] 25))
  have O := Lib.hid (hA _ hu hB)
  replace hu := Lib.hid hu
  clear hA hB
  go_enter Try.func8, Try.ntmps8
  go_wp2_with fail
  refine O.out.mono ?_; rintro e w1 ⟨rfl, hb1⟩
  obtain ⟨hc, hf⟩ := bcell hb1
  obtain ⟨_, r1, r2⟩ := put2 (w := w1) (g := w.heap.size + 1 + 1) (.int .i64 xk) (.int .u64 (xb : Int)) (x := .int .i64 0) (y := .int .u64 0) (by rw [hc _ _ (by simp)]; simp [go_sem]) (by rw [hc _ _ (by simp)]; simp [go_sem])
  go_wp2
  exact bodyPost_ret (v := .agg #[.int .i64 xk, .int .u64 (xb : Int)]) (by simp [results, Try.results8, go_sem, r1, r2]) rfl (.mk rfl (((mmore hu.out hb1).setCell (by show w.heap.size ≤ w.heap.size + 1 + 1; omega) _).setCell (by show w.heap.size ≤ w.heap.size + 1 + 1; omega) _))
end Go.Proofs.Ytfjnphiegoogoaa

/- LkI -/
namespace Go.Proofs.Ytfjnphiegoogoaa
open Go.ChangeShapes Go.WideShapes Go.ChangeAt Go.RowKit Go.Fl
set_option linter.unusedVariables false
set_option linter.unusedSimpArgs false

theorem leaf_any (E B : Option Addr) (ce cb : Nat) (cur : Int) (es : List Ev) (bs : List (List Int)) (b o : Nat) (op vk : Int) (vb : Nat) (pos attr : Int) (w : World) (hop : LeafOp op) (hvb : vb < 18446744073709551616) (hn : NodeC w b o op vk vb pos attr) (hL : LookIn w E B es bs) :
    Asks 54 E B es.length ce bs.length cb cur b o (leafP op vk vb pos attr es bs cur) w := by
  intro wz hz
  have hn := hn.later hz
  have hL := hL.later hz
  unfold leafP
  by_cases h40 : op = 40
  · subst h40; rw [if_pos rfl]; exact leaf_const E B _ _ _ _ cur b o vk vb pos attr wz hn hvb
  rw [if_neg h40]
  by_cases h41 : op = 41
  · subst h41; rw [if_pos rfl]; exact leaf_cur E B ce cb cur es bs b o vk vb pos attr wz hn hL
  rw [if_neg h41]
  by_cases h25 : op = 25
  · subst h25; rw [if_pos rfl]; exact leaf_count E B ce cb cur es bs b o vk vb pos attr wz hn hL
  rw [if_neg h25]
  by_cases hp : placesP bs pos = []
  · rw [if_pos hp]
    exact leaf_empty E B ce cb cur es bs b o op vk vb pos attr wz (by simpa using h40) (by simpa using h41) (by simpa using h25) hn hL hp
  rw [if_neg hp]
  unfold aggP
  rcases hop with rfl | rfl | rfl | rfl | rfl | rfl | rfl | rfl | rfl | rfl
  · exact absurd rfl h25
  · exact leaf_26 E B ce cb cur es bs b o vk vb pos attr wz hn hL hp
  · exact leaf_27 E B ce cb cur es bs b o vk vb pos attr wz hn hL hp
  · exact leaf_28 E B ce cb cur es bs b o vk vb pos attr wz hn hL hp
  · exact leaf_29 E B ce cb cur es bs b o vk vb pos attr wz hn hL hp
  · exact leaf_30 E B ce cb cur es bs b o vk vb pos attr wz hn hL hp
  · exact leaf_31 E B ce cb cur es bs b o vk vb pos attr wz hn hL hp
  · exact absurd rfl h40
  · exact absurd rfl h41
  · exact leaf_42 E B ce cb cur es bs b o vk vb pos attr wz hn hL hp

theorem node_leaf (E B : Option Addr) (ce cb : Nat) (cur : Int) (es : List Ev) (bs : List (List Int)) (op kd : Int) (A : Option Addr) (na ca : Nat) (vk : Int) (vb : Nat) (pos attr : Int) (w : World) (hop : LeafOp op) (hvb : vb < 18446744073709551616) (hL : LookIn w E B es bs) :
    Calls Try.prog 8 #[.agg #[.int .i64 op, .int .i64 kd, .slice A na ca, .int .i64 vk, .int .u64 (vb : Int), .int .i64 pos, .int .i64 attr], lookV E B es.length ce bs.length cb cur] w (VIs (leafP op vk vb pos attr es bs cur) w) :=
  node_any E B _ ce _ cb cur op kd A na ca vk vb pos attr _ w fun wz hz hB =>
    ask_leaf E B _ ce _ cb cur w.heap.size 0 op _ wz hop (hB.cell 0) (leaf_any E B ce cb cur es bs w.heap.size 0 op vk vb pos attr wz hop hvb ⟨hB.cell 0, hB.cell 3, hB.cell 4, hB.cell 5, hB.cell 6⟩ (hL.later hz))

set_option maxHeartbeats 4000000 in
set_option maxRecDepth 100000 in
theorem do_any9 (E B : Option Addr) (ce cb : Nat) (cur : Int) (es : List Ev) (bs : List (List Int)) (op pos attr : Int) (w : World) (hop : LeafOp op) (hL : LookIn w E B es bs) :
    Calls Try.prog 14 #[.int .i64 op, .int .i64 pos, .int .i64 attr, lookV E B es.length ce bs.length cb cur] w (VIs (leafP op 0 0 pos attr es bs cur) w) := by
  have hu := m2 w (lookO E B es.length ce bs.length cb cur) (.cells #[.int .i64 0, .int .u64 0] 25)
  have O := node_leaf E B ce cb cur es bs op 0 none 0 0 0 0 pos attr _ hop (by decide) (hL.later hu)
  generalize leafP op 0 0 pos attr es bs cur = x at *
  obtain ⟨xk, xb⟩ := x
  replace O := Lib.hid O
  replace hu := Lib.hid hu
  clear hL hop
  go_enter Try.func14, Try.ntmps14
  go_wp2_with fail
  refine O.out.mono ?_; rintro e w1 ⟨rfl, hb1⟩
  obtain ⟨hc, hf⟩ := bcell hb1
  obtain ⟨_, r1, r2⟩ := put2 (w := w1) (g := w.heap.size + 1) (.int .i64 xk) (.int .u64 (xb : Int)) (x := .int .i64 0) (y := .int .u64 0) (by rw [hc _ _ (by simp)]; simp [go_sem]) (by rw [hc _ _ (by simp)]; simp [go_sem])
  go_wp2
  exact bodyPost_ret (v := .agg #[.int .i64 xk, .int .u64 (xb : Int)]) (by simp [results, Try.results14, go_sem, r1, r2]) rfl (.mk rfl (((mmore hu.out hb1).setCell (by show w.heap.size ≤ w.heap.size + 1; omega) _).setCell (by show w.heap.size ≤ w.heap.size + 1; omega) _))

/-! ### events with one number each -/
def intEv (z : Int) : Ev := (0, 0, [(1, nU z)])
def icE (gs : List Nat) : List Value := gs.flatMap fun g => [.int .i64 0, .int .i64 0, .slice (some ⟨g, 0, none⟩) 1 1]
theorem icE_snoc (gs : List Nat) (g : Nat) : icE (gs ++ [g]) = icE gs ++ [.int .i64 0, .int .i64 0, .slice (some ⟨g, 0, none⟩) 1 1] := by simp [icE]
theorem icE_at : ∀ (gs : List Nat) (i g : Nat), gs[i]? = some g → (icE gs)[i * 3]? = some (.int .i64 0) ∧ (icE gs)[i * 3 + 1]? = some (.int .i64 0) ∧ (icE gs)[i * 3 + 2]? = some (.slice (some ⟨g, 0, none⟩) 1 1)
  | [], i, g, h => by simp at h
  | x :: gs, 0, g, h => by simp at h; subst h; exact ⟨rfl, rfl, rfl⟩
  | x :: gs, i + 1, g, h => by
    have := icE_at gs i g (by simpa using h)
    rw [show (i + 1) * 3 = i * 3 + 3 by omega]
    exact this
def Ones (w : World) (B : Nat) (zs : List Int) (gs : List Nat) : Prop := ∀ (i g : Nat) (z : Int), gs[i]? = some g → zs[i]? = some z → Blk w g 25 #[.int .i64 1, .int .u64 ((nU z : Nat) : Int)]
theorem infoEv9 : (Try.prog.info? 65).map (fun i => (i.zero, i.size, i.bytes)) = some (some (.agg #[.int .i64 0, .int .i64 0, .slice none 0 0]), 3, 40) := by kernel_rfl
theorem own_ones {w : World} {base B : Nat} {v : Value} {zs : List Int} {gs : List Nat} (hl : gs.length = zs.length) (h : w.ownsRow base 65 3 v zs.length (icE gs)) (ho : Ones w B zs gs) :
    ∃ A cap, v = .slice A zs.length cap ∧ EvsAt w A (zs.map intEv) := by
  have key : ∀ g, (∀ j u, (icE gs)[j]? = some u → w.cell? ((⟨g, 0, none⟩ : Addr).add j) = some u) → EvsAt w (some ⟨g, 0, none⟩) (zs.map intEv) := by
    intro g hc _
    refine ⟨g, 0, rfl, fun i e he => ?_⟩
    rw [List.getElem?_map] at he
    obtain ⟨z, hz, rfl⟩ := Option.map_eq_some_iff.1 he
    have hi := (List.getElem?_eq_some_iff.1 hz).1
    have hg : gs[i]? = some (gs[i]'(by omega)) := List.getElem?_eq_getElem (by omega)
    obtain ⟨a0, a1, a2⟩ := icE_at gs i _ hg
    have b0 := hc _ _ a0
    have b1 := hc _ _ a1
    have b2 := hc _ _ a2
    have ea : ∀ j, (⟨g, 0, none⟩ : Addr).add j = ⟨g, 0 + j, none⟩ := fun j => by unfold Addr.add; split <;> simp_all
    rw [ea] at b0 b1 b2
    have hO := ho i _ z hg hz
    refine ⟨b0, b1, _, 1, b2, rfl, ?_, fun _ => ⟨_, 0, rfl, fun k x c hk => ?_⟩⟩
    · intro v hv; simp [intEv] at hv; subst hv; exact nU_lt z
    · match k, hk with
      | 0, hk => simp [intEv] at hk; obtain ⟨rfl, rfl⟩ := hk; exact ⟨hO.cell 0, hO.cell 1⟩
  by_cases h0 : zs.length = 0
  · rcases h.2 with ⟨rfl, _⟩ | ⟨g, cap, cur, rfl, _⟩
    · exact ⟨none, 0, by rw [h0], fun hp => absurd hp (by simp [h0])⟩
    · exact ⟨_, cap, by rfl, fun hp => absurd hp (by simp [h0])⟩
  · obtain ⟨g, cap, rfl, _, _⟩ := h.form (by omega)
    exact ⟨_, cap, rfl, key g (h.cells (g := g) rfl)⟩
def IntsR (w : World) (zs : List Int) (v i : Value) (wr : World) : Prop :=
  ∃ (k : Nat) (gs : List Nat), k ≤ zs.length ∧ i = .int .i64 (k : Int) ∧ gs.length = k ∧ wr.ownsRow w.heap.size 65 3 v k (icE gs) ∧ Ones wr 0 zs gs ∧ Below w.heap.size w wr
/-- events are answered -/
def EIs (es : List Ev) (w : World) (e : Ending) (w' : World) : Prop := ∃ A cap, e = .returned (.slice A es.length cap) ∧ EvsAt w' A es ∧ Below w.heap.size w w'

set_option maxHeartbeats 8000000 in
set_option maxRecDepth 100000 in
theorem ints_any (A : Option Addr) (cap : Nat) (zs : List Int) (w : World) (hA : IntsAt w A zs) (hr : zs.length * 40 ≤ 140737488351232) :
    Calls Try.prog 16 #[.slice A zs.length cap] w (EIs (zs.map intEv) w) := by
  obtain ⟨i0, hi, hz0, hz1, hz2⟩ := info_parts infoEv9
  replace hA := Lib.hid hA
  go_enter Try.func16, Try.ntmps16
  go_wp2_with fail
  go_loopw [3, 8] (fun v i wr => IntsR w zs v i wr) (fun _ i _ => zs.length - (intOf i).toNat)
  case atStart => exact ⟨0, [], Nat.zero_le _, rfl, rfl, World.ownsRow_nil _ _ _ _, fun i g z h => by simp at h, Below.refl _ _⟩
  case round =>
    obtain ⟨k, gs, hk, rfl, hl, hO, hU, hB⟩ := hrel
    by_cases hkl : k < zs.length
    · obtain ⟨b, off, e2, hc⟩ := hA.out (by omega)
      have q0 := hc k _ (List.getElem?_eq_getElem hkl)
      have hzk : zs[k]? = some zs[k] := List.getElem?_eq_getElem hkl
      subst e2
      generalize zs[k] = z at *
      have q0 := cell_later hB q0
      have hn := nU_eq z
      have hUz : Blk (wr.alloc (.cells #[.int .i64 1, .int .u64 (IntKind.u64.wrap z)] 25)) wr.heap.size 25 #[.int .i64 1, .int .u64 ((nU z : Nat) : Int)] := by rw [hn]; exact Blk.made _ _ _
      have hs0 := hB.size
      have hB1 := Lib.hid (mmore hB (m2 wr (.cells #[.int .i64 1, .int .u64 (IntKind.u64.wrap z)] 25) (.cells #[.int .i64 0, .int .i64 0, .slice (some ⟨wr.heap.size, 0, none⟩) 1 1] 65)))
      have hUz2 := Lib.hid (hUz.kept (m1 _ (.cells #[.int .i64 0, .int .i64 0, .slice (some ⟨wr.heap.size, 0, none⟩) 1 1] 65)))
      have hU2 := Lib.hid (fun i g x (h : gs[i]? = some g) h' => (hU i g x h h').kept (m2 wr (.cells #[.int .i64 1, .int .u64 (IntKind.u64.wrap z)] 25) (.cells #[.int .i64 0, .int .i64 0, .slice (some ⟨wr.heap.size, 0, none⟩) 1 1] 65)))
      replace hzk := Lib.hid hzk
      replace hl := Lib.hid hl
      clear hUz hU hB hc hn
      go_wp2_with (at_builtin; refine wpList_append_own _ rfl (.tmp 12) (.tmp 18) 28 rfl w.heap.size 65 i0 (.agg #[.int .i64 0, .int .i64 0, .slice none 0 0]) 3 40 Try.underlying28 hi hz0 hz1 hz2 rfl (by decide) u3 k (icE gs) rfl ((hO.alloc _).alloc _) ⟨wr.heap.size + 1, 0, none⟩ 1 1 [.int .i64 0, .int .i64 0, .slice (some ⟨wr.heap.size, 0, none⟩) 1 1] rfl rfl ?c1 ?c2 ?c3 ?c4 ?c5 ?_)
      case c1 =>
        intro j u hj
        match j, hj with
        | 0, hj => simp at hj; subst hj; simp [Addr.add]
        | 1, hj => simp at hj; subst hj; simp [Addr.add]
        | 2, hj => simp at hj; subst hj; simp [Addr.add]
      case c2 => intro u hu; simp at hu; rcases hu with rfl | rfl | rfl <;> rfl
      case c3 => unfold maxLen; omega
      case c4 => omega
      case c5 => first | omega | (simp; omega)
      intro v' w4 hO4 hgrow _
      rw [← icE_snoc] at hO4
      have hO6 := (hO.alloc (.cells #[.int .i64 1, .int .u64 (IntKind.u64.wrap z)] 25)).alloc (.cells #[.int .i64 0, .int .i64 0, .slice (some ⟨wr.heap.size, 0, none⟩) 1 1] 65)
      have hB4 : Below w.heap.size w w4 := hB1.out.grown hgrow (by simp; omega) (fun g hg => (hO6.lt g hg).1)
      have hU4 : Ones w4 0 zs (gs ++ [wr.heap.size]) := by
        intro i g x h h'
        by_cases c : i < k
        · rw [List.getElem?_append_left (by rw [hl.out]; exact c)] at h
          exact (hU2.out i g x h h').grown hgrow ((hU2.out i g x h h').own_ne hO6 (by decide))
        · have hi2 := (List.getElem?_eq_some_iff.1 h).1
          have : i = k := by simp [hl.out] at hi2; omega
          subst this
          rw [List.getElem?_append_right (by rw [hl.out]; omega), hl.out, Nat.sub_self] at h
          rw [hzk.out] at h'
          injection h' with h'
          simp at h
          subst h h'
          exact hUz2.out.grown hgrow (hUz2.out.own_ne hO6 (by decide))
      replace hU4 := Lib.hid hU4
      replace hB4 := Lib.hid hB4
      clear hU2 hUz2 hO hO6 hgrow hB1 q0
      go_wp2
      go_roundw
      case rel => exact ⟨k + 1, gs ++ [wr.heap.size], by omega, by go_num, by simp [hl.out], hO4, hU4.out, hB4.out⟩
      case measure => simp [intOf]; omega
    · obtain rfl : k = zs.length := by omega
      obtain ⟨A', cap', rfl, hE⟩ := own_ones hl hO hU
      replace hE := Lib.hid hE
      replace hB := Lib.hid hB
      clear hO hU
      go_wp2
      go_ret
      exact ⟨A', cap', by rw [List.length_map]; rfl, hE.out, hB.out⟩
end Go.Proofs.Ytfjnphiegoogoaa

/- LkJ -/
namespace Go.Proofs.Ytfjnphiegoogoaa
open Go.ChangeShapes Go.WideShapes Go.ChangeAt Go.RowKit Go.Fl
set_option linter.unusedVariables false
set_option linter.unusedSimpArgs false

theorem keepK {w0 wr w1 : World} {E B : Option Addr} {es : List Ev} {bs : List (List Int)} {a0 a1 a2 a3 a4 : Addr} {v0 v1 v2 v3 v4 : Value} (hb : Below wr.heap.size wr w1)
    (h : wr.cell? a0 = some v0 ∧ wr.cell? a1 = some v1 ∧ wr.cell? a2 = some v2 ∧ wr.cell? a3 = some v3 ∧ wr.cell? a4 = some v4 ∧ LookIn wr E B es bs ∧ Below w0.heap.size w0 wr) :
    w1.cell? a0 = some v0 ∧ w1.cell? a1 = some v1 ∧ w1.cell? a2 = some v2 ∧ w1.cell? a3 = some v3 ∧ w1.cell? a4 = some v4 ∧ LookIn w1 E B es bs ∧ Below w0.heap.size w0 w1 :=
  ⟨cell_later hb h.1, cell_later hb h.2.1, cell_later hb h.2.2.1, cell_later hb h.2.2.2.1, cell_later hb h.2.2.2.2.1, h.2.2.2.2.2.1.later hb, mmore h.2.2.2.2.2.2 hb⟩
theorem fld0 (k b : Int) (w : World) : (Instr.field 25 (.agg #[.int .i64 k, .int .u64 b]) 0).run Try.prog w = .ok (.int .i64 k) w := by kernel_rfl
theorem fld1 (k b : Int) (w : World) : (Instr.field 25 (.agg #[.int .i64 k, .int .u64 b]) 1).run Try.prog w = .ok (.int .u64 b) w := by kernel_rfl
def esA : List Ev := [5, 7, 9].map intEv
def bsA : List (List Int) := [[0, 1]]
theorem awk1 : leafP 28 0 0 0 0 esA bsA 2 = (1, 12) := by kernel_rfl
theorem awk2 : (leafP 31 0 0 0 0 esA bsA 2).1 = 0 := by kernel_rfl
theorem awk3 : (leafP 27 0 0 0 0 esA bsA 2).2 = 7 := by kernel_rfl
theorem awk4 : (leafP 41 0 0 0 0 esA bsA 2).2 = 9 := by kernel_rfl
theorem awk5 : (leafP 25 0 0 1 0 esA bsA 2).1 = 1 := by kernel_rfl
theorem ints_lit (w : World) : IntsAt (w.alloc (.cells #[.int .i64 5, .int .i64 7, .int .i64 9] 2)) (some ⟨w.heap.size, 0, none⟩) [5, 7, 9] := fun _ => ⟨w.heap.size, 0, rfl, fun i z h => by
  match i, h with
  | 0, h => simp at h; subst h; simp [go_sem]
  | 1, h => simp at h; subst h; simp [go_sem]
  | 2, h => simp at h; subst h; simp [go_sem]⟩
theorem kinds_lit (w : World) : KindsAt ((w.alloc (.cells #[.int .i64 0, .int .i64 1] 3)).alloc (.cells #[.slice (some ⟨w.heap.size, 0, none⟩) 2 2] 43)) (some ⟨w.heap.size + 1, 0, none⟩) bsA := fun _ => ⟨w.heap.size + 1, 0, rfl, fun i ks h => by
  match i, h with
  | 0, h =>
    simp [bsA] at h; subst h
    refine ⟨_, by simp [go_sem], some ⟨w.heap.size, 0, none⟩, 2, rfl, fun _ => ⟨w.heap.size, 0, rfl, fun j z hj => ?_⟩⟩
    match j, hj with
    | 0, hj => simp at hj; subst hj; simp [go_sem]
    | 1, hj => simp at hj; subst hj; simp [go_sem]⟩

set_option maxHeartbeats 8000000 in
set_option maxRecDepth 100000 in
theorem awake9 (w : World) : Calls Try.prog 10 #[] w fun e w' => e = .returned (.bool true) ∧ Below w.heap.size w w' := by
  have he := eqV
  have hf0 := fld0
  have hf1 := fld1
  obtain ⟨q2, e2⟩ : ∃ q, leafP 31 0 0 0 0 esA bsA 2 = (0, q) := ⟨_, Prod.ext awk2 rfl⟩
  obtain ⟨q3, e3⟩ : ∃ q, leafP 27 0 0 0 0 esA bsA 2 = (q, 7) := ⟨_, Prod.ext rfl awk3⟩
  obtain ⟨q4, e4⟩ : ∃ q, leafP 41 0 0 0 0 esA bsA 2 = (q, 9) := ⟨_, Prod.ext rfl awk4⟩
  obtain ⟨q5, e5⟩ : ∃ q, leafP 25 0 0 1 0 esA bsA 2 = (1, q) := ⟨_, Prod.ext awk5 rfl⟩
  have D1 := Lib.hid (fun E B cE wz (hL : LookIn wz E B esA bsA) => do_any9 E B cE 1 2 esA bsA 28 0 0 wz (by unfold LeafOp; decide) hL)
  have D2 := Lib.hid (fun E B cE wz (hL : LookIn wz E B esA bsA) => do_any9 E B cE 1 2 esA bsA 31 0 0 wz (by unfold LeafOp; decide) hL)
  have D3 := Lib.hid (fun E B cE wz (hL : LookIn wz E B esA bsA) => do_any9 E B cE 1 2 esA bsA 27 0 0 wz (by unfold LeafOp; decide) hL)
  have D4 := Lib.hid (fun E B cE wz (hL : LookIn wz E B esA bsA) => do_any9 E B cE 1 2 esA bsA 41 0 0 wz (by unfold LeafOp; decide) hL)
  have D5 := Lib.hid (fun E B cE wz (hL : LookIn wz E B esA bsA) => do_any9 E B cE 1 2 esA bsA 25 1 0 wz (by unfold LeafOp; decide) hL)
  rw [awk1] at D1
  rw [e2] at D2
  rw [e3] at D3
  rw [e4] at D4
  rw [e5] at D5
  clear e2 e3 e4 e5
  go_enter Try.func10, Try.ntmps10
  go_wp2_with fail
  refine (ints_any (some ⟨w.heap.size, 0, none⟩) 3 [5, 7, 9] _ (ints_lit w) (by decide)).mono ?_; rintro e w1 ⟨E, cE, rfl, hE, hb1⟩
  have hB1 := mmore (m1 w (.cells #[.int .i64 5, .int .i64 7, .int .i64 9] 2)) hb1
  clear hb1
  go_upto_region 3 with (fail)
  have hb2 := m2 w1 (.cells #[.int .i64 0, .int .i64 1] 3) (.cells #[.slice (some ⟨w1.heap.size, 0, none⟩) 2 2] 43)
  have hK := kinds_lit w1
  have hE2 := hE.later hb2
  have hB2 := mmore hB1 hb2
  have hg : w1.heap.size + 1 + 1 = ((w1.alloc (.cells #[.int .i64 0, .int .i64 1] 3)).alloc (.cells #[.slice (some ⟨w1.heap.size, 0, none⟩) 2 2] 43)).heap.size := by simp
  clear hE hB1 hb2
  generalize w1.heap.size + 1 = gB at *
  rw [hg]
  clear hg
  generalize (w1.alloc (.cells #[.int .i64 0, .int .i64 1] 3)).alloc (.cells #[.slice (some ⟨w1.heap.size, 0, none⟩) 2 2] 43) = w2 at *
  have hb3 := m2 w2 (lookO E (some ⟨gB, 0, none⟩) 3 cE 1 1 2) (.cells #[.int .i64 1, .int .u64 12] 25)
  have hL : LookIn ((w2.alloc (lookO E (some ⟨gB, 0, none⟩) 3 cE 1 1 2)).alloc (.cells #[.int .i64 1, .int .u64 12] 25)).drew E (some ⟨gB, 0, none⟩) esA bsA :=
    LookIn.later (w := w2) ⟨hE2, hK, by decide, by intro e he; simp [esA, intEv] at he; rcases he with rfl | rfl | rfl <;> decide, by decide, by intro l hl; simp [bsA] at hl; subst hl; decide⟩ hb3.drew
  have z0 : ((w2.alloc (lookO E (some ⟨gB, 0, none⟩) 3 cE 1 1 2)).alloc (.cells #[.int .i64 1, .int .u64 12] 25)).drew.cell? ⟨w2.heap.size, 0, none⟩ = some (.slice E 3 cE) := by simp [go_sem]
  have z1 : ((w2.alloc (lookO E (some ⟨gB, 0, none⟩) 3 cE 1 1 2)).alloc (.cells #[.int .i64 1, .int .u64 12] 25)).drew.cell? ⟨w2.heap.size, 1, none⟩ = some (.slice (some ⟨gB, 0, none⟩) 1 1) := by simp [go_sem]
  have z2 : ((w2.alloc (lookO E (some ⟨gB, 0, none⟩) 3 cE 1 1 2)).alloc (.cells #[.int .i64 1, .int .u64 12] 25)).drew.cell? ⟨w2.heap.size, 2, none⟩ = some (.int .i64 2) := by simp [go_sem]
  have z3 : ((w2.alloc (lookO E (some ⟨gB, 0, none⟩) 3 cE 1 1 2)).alloc (.cells #[.int .i64 1, .int .u64 12] 25)).drew.cell? ⟨w2.heap.size + 1, 0, none⟩ = some (.int .i64 1) := by simp [go_sem]
  have z4 : ((w2.alloc (lookO E (some ⟨gB, 0, none⟩) 3 cE 1 1 2)).alloc (.cells #[.int .i64 1, .int .u64 12] 25)).drew.cell? ⟨w2.heap.size + 1, 1, none⟩ = some (.int .u64 12) := by simp [go_sem]
  have z6 : Below w.heap.size w ((w2.alloc (lookO E (some ⟨gB, 0, none⟩) 3 cE 1 1 2)).alloc (.cells #[.int .i64 1, .int .u64 12] 25)).drew := (mmore hB2 hb3).drew
  have z5 := hL
  clear hL hE2 hK hB2 hb3
  generalize (w2.alloc (lookO E (some ⟨gB, 0, none⟩) 3 cE 1 1 2)).alloc (.cells #[.int .i64 1, .int .u64 12] 25) = w3 at *
  generalize w2.heap.size + 1 = gt at *
  generalize w2.heap.size = gl at *
  have KD := G.keepsD_true []
  refine G.region_words (fun w' => w'.cell? ⟨gl, 0, none⟩ = some (.slice E 3 cE) ∧ w'.cell? ⟨gl, 1, none⟩ = some (.slice (some ⟨gB, 0, none⟩) 1 1) ∧ w'.cell? ⟨gl, 2, none⟩ = some (.int .i64 2) ∧ w'.cell? ⟨gt, 0, none⟩ = some (.int .i64 1) ∧ w'.cell? ⟨gt, 1, none⟩ = some (.int .u64 12) ∧ LookIn w' E (some ⟨gB, 0, none⟩) esA bsA ∧ Below w.heap.size w w') [G.isW (lookV E (some ⟨gB, 0, none⟩) 3 cE 1 1 2), G.isW (.agg #[.int .i64 1, .int .u64 12]), G.isW (.agg #[.int .i64 1, .int .u64 12]), G.isW (.bool true), G.isW (.bool true), G.isW (lookV E (some ⟨gB, 0, none⟩) 3 cE 1 1 2), G.isW (.agg #[.int .i64 0, .int .u64 (q2 : Int)]), G.isW (.int .i64 0), G.isW (.bool true), G.isW (.bool true), G.isW (.bool true), G.isW (lookV E (some ⟨gB, 0, none⟩) 3 cE 1 1 2), G.isW (.agg #[.int .i64 q3, .int .u64 7]), G.isW (.int .u64 7), G.isW (.bool true), G.isW (.bool true), G.isW (.bool true), G.isW (lookV E (some ⟨gB, 0, none⟩) 3 cE 1 1 2), G.isW (.agg #[.int .i64 q4, .int .u64 9]), G.isW (.int .u64 9), G.isW (.bool true), G.isW (.bool true), G.isW (.bool true), G.isW (lookV E (some ⟨gB, 0, none⟩) 3 cE 1 1 2), G.isW (.agg #[.int .i64 1, .int .u64 (q5 : Int)]), G.isW (.int .i64 1), G.isW (.bool true), G.isW (.bool true), G.isW (.bool true)] (by kernel_rfl) (by repeat' (first | exact G.monoL_nil | exact G.is_mono _ | exact G.any_mono | refine G.monoL_cons ?_ ?_)) (by kernel_rfl) (by kernel_rfl) (fun _ _ h hb => keepK hb h) ⟨z0, z1, z2, z3, z4, z5, z6⟩ ?_ ?_
  · intro KC
    refine G.stepsL_cons (fun a u hc hdd hd hk hdep => ?_) ?_
    ·
      have d1 : (a.tmps[1]?).getD undef = (.pointer (some ⟨gl, 0, none⟩)) := hk 1 (by kernel_rfl)
      refine G.step_val KC KD hc hdd rfl (lookV E (some ⟨gB, 0, none⟩) 3 cE 1 1 2) u (G.wanted_plain rfl) ?_ rfl (Below.refl _ _)
      first | (go_simp; done) | rfl | (simp [go_sem, *]; done)
    refine G.stepsL_cons (fun a u hc hdd hd hk hdep => ?_) ?_
    ·
      have d9 : (a.tmps[9]?).getD undef = (lookV E (some ⟨gB, 0, none⟩) 3 cE 1 1 2) := hdep ⟨0, .data⟩ (by simp) rfl
      refine G.step_call KC KD hc hdd rfl 14 #[.int .i64 28, .int .i64 0, .int .i64 0, (lookV E (some ⟨gB, 0, none⟩) 3 cE 1 1 2)] (G.wanted_plain rfl) (by first | (go_simp; done) | rfl) ?_
      exact (D1.out E _ cE u hc.2.2.2.2.2.1).mono (by rintro e w' ⟨rfl, hb⟩; exact ⟨_, rfl, rfl, hb⟩)
    refine G.stepsL_cons (fun a u hc hdd hd hk hdep => ?_) ?_
    ·
      have d2 : (a.tmps[2]?).getD undef = (.pointer (some ⟨gt, 0, none⟩)) := hk 2 (by kernel_rfl)
      refine G.step_val KC KD hc hdd rfl (.agg #[.int .i64 1, .int .u64 12]) u (G.wanted_plain rfl) ?_ rfl (Below.refl _ _)
      first | (go_simp; done) | rfl | (simp [go_sem, *]; done)
    refine G.stepsL_cons (fun a u hc hdd hd hk hdep => ?_) ?_
    ·
      have d10 : (a.tmps[10]?).getD undef = (.agg #[.int .i64 1, .int .u64 12]) := hdep ⟨1, .data⟩ (by simp) rfl
      have d11 : (a.tmps[11]?).getD undef = (.agg #[.int .i64 1, .int .u64 12]) := hdep ⟨2, .data⟩ (by simp) rfl
      refine G.step_val KC KD hc hdd rfl (.bool true) u (G.wanted_plain rfl) ?_ rfl (Below.refl _ _)
      first | (go_simp; done) | rfl | (simp [go_sem, *]; done)
    refine G.stepsL_cons (fun a u hc hdd hd hk hdep => ?_) ?_
    ·
      have d12 : (a.tmps[12]?).getD undef = (.bool true) := hdep ⟨3, .data⟩ (by simp) rfl
      refine G.step_val KC KD hc hdd rfl (.bool true) u (G.wanted_plain rfl) ?_ rfl (Below.refl _ _)
      first | (go_simp; done) | rfl | (simp [go_sem, *]; done)
    refine G.stepsL_cons (fun a u hc hdd hd hk hdep => ?_) ?_
    ·
      have d1 : (a.tmps[1]?).getD undef = (.pointer (some ⟨gl, 0, none⟩)) := hk 1 (by kernel_rfl)
      refine G.step_val KC KD hc hdd rfl (lookV E (some ⟨gB, 0, none⟩) 3 cE 1 1 2) u ((G.wanted_guard (j := 4) (b := true) (c := true) rfl (hdep ⟨4, .guard⟩ (by simp) rfl)).trans rfl) ?_ rfl (Below.refl _ _)
      first | (go_simp; done) | rfl | (simp [go_sem, *]; done)
    refine G.stepsL_cons (fun a u hc hdd hd hk hdep => ?_) ?_
    ·
      have d14 : (a.tmps[14]?).getD undef = (lookV E (some ⟨gB, 0, none⟩) 3 cE 1 1 2) := hdep ⟨5, .data⟩ (by simp) rfl
      refine G.step_call KC KD hc hdd rfl 14 #[.int .i64 31, .int .i64 0, .int .i64 0, (lookV E (some ⟨gB, 0, none⟩) 3 cE 1 1 2)] ((G.wanted_guard (j := 4) (b := true) (c := true) rfl (hdep ⟨4, .chain⟩ (by simp) rfl)).trans rfl) (by first | (go_simp; done) | rfl) ?_
      exact (D2.out E _ cE u hc.2.2.2.2.2.1).mono (by rintro e w' ⟨rfl, hb⟩; exact ⟨_, rfl, rfl, hb⟩)
    refine G.stepsL_cons (fun a u hc hdd hd hk hdep => ?_) ?_
    ·
      have d15 : (a.tmps[15]?).getD undef = (.agg #[.int .i64 0, .int .u64 (q2 : Int)]) := hdep ⟨6, .data⟩ (by simp) rfl
      refine G.step_val KC KD hc hdd rfl (.int .i64 0) u ((G.wanted_guard (j := 4) (b := true) (c := true) rfl (hdep ⟨4, .guard⟩ (by simp) rfl)).trans rfl) ?_ rfl (Below.refl _ _)
      first | (go_simp; done) | rfl | (simp [go_sem, *]; done)
    refine G.stepsL_cons (fun a u hc hdd hd hk hdep => ?_) ?_
    ·
      have d16 : (a.tmps[16]?).getD undef = (.int .i64 0) := hdep ⟨7, .data⟩ (by simp) rfl
      refine G.step_val KC KD hc hdd rfl (.bool true) u ((G.wanted_guard (j := 4) (b := true) (c := true) rfl (hdep ⟨4, .guard⟩ (by simp) rfl)).trans rfl) ?_ rfl (Below.refl _ _)
      first | (go_simp; done) | rfl | (simp [go_sem, *]; done)
    refine G.stepsL_cons (fun a u hc hdd hd hk hdep => ?_) ?_
    ·
      have d13 : (a.tmps[13]?).getD undef = (.bool true) := hdep ⟨4, .data⟩ (by simp) rfl
      have d17 : (a.tmps[17]?).getD undef = (.bool true) := hdep ⟨8, .data⟩ (by simp) rfl
      refine G.step_val KC KD hc hdd rfl (.bool true) u (G.wanted_plain rfl) ?_ rfl (Below.refl _ _)
      first | (go_simp; done) | rfl | (simp [go_sem, *]; done)
    refine G.stepsL_cons (fun a u hc hdd hd hk hdep => ?_) ?_
    ·
      have d18 : (a.tmps[18]?).getD undef = (.bool true) := hdep ⟨9, .data⟩ (by simp) rfl
      refine G.step_val KC KD hc hdd rfl (.bool true) u (G.wanted_plain rfl) ?_ rfl (Below.refl _ _)
      first | (go_simp; done) | rfl | (simp [go_sem, *]; done)
    refine G.stepsL_cons (fun a u hc hdd hd hk hdep => ?_) ?_
    ·
      have d1 : (a.tmps[1]?).getD undef = (.pointer (some ⟨gl, 0, none⟩)) := hk 1 (by kernel_rfl)
      refine G.step_val KC KD hc hdd rfl (lookV E (some ⟨gB, 0, none⟩) 3 cE 1 1 2) u ((G.wanted_guard (j := 10) (b := true) (c := true) rfl (hdep ⟨10, .guard⟩ (by simp) rfl)).trans rfl) ?_ rfl (Below.refl _ _)
      first | (go_simp; done) | rfl | (simp [go_sem, *]; done)
    refine G.stepsL_cons (fun a u hc hdd hd hk hdep => ?_) ?_
    ·
      have d20 : (a.tmps[20]?).getD undef = (lookV E (some ⟨gB, 0, none⟩) 3 cE 1 1 2) := hdep ⟨11, .data⟩ (by simp) rfl
      refine G.step_call KC KD hc hdd rfl 14 #[.int .i64 27, .int .i64 0, .int .i64 0, (lookV E (some ⟨gB, 0, none⟩) 3 cE 1 1 2)] ((G.wanted_guard (j := 10) (b := true) (c := true) rfl (hdep ⟨10, .chain⟩ (by simp) rfl)).trans rfl) (by first | (go_simp; done) | rfl) ?_
      exact (D3.out E _ cE u hc.2.2.2.2.2.1).mono (by rintro e w' ⟨rfl, hb⟩; exact ⟨_, rfl, rfl, hb⟩)
    refine G.stepsL_cons (fun a u hc hdd hd hk hdep => ?_) ?_
    ·
      have d21 : (a.tmps[21]?).getD undef = (.agg #[.int .i64 q3, .int .u64 7]) := hdep ⟨12, .data⟩ (by simp) rfl
      refine G.step_val KC KD hc hdd rfl (.int .u64 7) u ((G.wanted_guard (j := 10) (b := true) (c := true) rfl (hdep ⟨10, .guard⟩ (by simp) rfl)).trans rfl) ?_ rfl (Below.refl _ _)
      first | (go_simp; done) | rfl | (simp [go_sem, *]; done)
    refine G.stepsL_cons (fun a u hc hdd hd hk hdep => ?_) ?_
    ·
      have d22 : (a.tmps[22]?).getD undef = (.int .u64 7) := hdep ⟨13, .data⟩ (by simp) rfl
      refine G.step_val KC KD hc hdd rfl (.bool true) u ((G.wanted_guard (j := 10) (b := true) (c := true) rfl (hdep ⟨10, .guard⟩ (by simp) rfl)).trans rfl) ?_ rfl (Below.refl _ _)
      first | (go_simp; done) | rfl | (simp [go_sem, *]; done)
    refine G.stepsL_cons (fun a u hc hdd hd hk hdep => ?_) ?_
    ·
      have d19 : (a.tmps[19]?).getD undef = (.bool true) := hdep ⟨10, .data⟩ (by simp) rfl
      have d23 : (a.tmps[23]?).getD undef = (.bool true) := hdep ⟨14, .data⟩ (by simp) rfl
      refine G.step_val KC KD hc hdd rfl (.bool true) u (G.wanted_plain rfl) ?_ rfl (Below.refl _ _)
      first | (go_simp; done) | rfl | (simp [go_sem, *]; done)
    refine G.stepsL_cons (fun a u hc hdd hd hk hdep => ?_) ?_
    ·
      have d24 : (a.tmps[24]?).getD undef = (.bool true) := hdep ⟨15, .data⟩ (by simp) rfl
      refine G.step_val KC KD hc hdd rfl (.bool true) u (G.wanted_plain rfl) ?_ rfl (Below.refl _ _)
      first | (go_simp; done) | rfl | (simp [go_sem, *]; done)
    refine G.stepsL_cons (fun a u hc hdd hd hk hdep => ?_) ?_
    ·
      have d1 : (a.tmps[1]?).getD undef = (.pointer (some ⟨gl, 0, none⟩)) := hk 1 (by kernel_rfl)
      refine G.step_val KC KD hc hdd rfl (lookV E (some ⟨gB, 0, none⟩) 3 cE 1 1 2) u ((G.wanted_guard (j := 16) (b := true) (c := true) rfl (hdep ⟨16, .guard⟩ (by simp) rfl)).trans rfl) ?_ rfl (Below.refl _ _)
      first | (go_simp; done) | rfl | (simp [go_sem, *]; done)
    refine G.stepsL_cons (fun a u hc hdd hd hk hdep => ?_) ?_
    ·
      have d26 : (a.tmps[26]?).getD undef = (lookV E (some ⟨gB, 0, none⟩) 3 cE 1 1 2) := hdep ⟨17, .data⟩ (by simp) rfl
      refine G.step_call KC KD hc hdd rfl 14 #[.int .i64 41, .int .i64 0, .int .i64 0, (lookV E (some ⟨gB, 0, none⟩) 3 cE 1 1 2)] ((G.wanted_guard (j := 16) (b := true) (c := true) rfl (hdep ⟨16, .chain⟩ (by simp) rfl)).trans rfl) (by first | (go_simp; done) | rfl) ?_
      exact (D4.out E _ cE u hc.2.2.2.2.2.1).mono (by rintro e w' ⟨rfl, hb⟩; exact ⟨_, rfl, rfl, hb⟩)
    refine G.stepsL_cons (fun a u hc hdd hd hk hdep => ?_) ?_
    ·
      have d27 : (a.tmps[27]?).getD undef = (.agg #[.int .i64 q4, .int .u64 9]) := hdep ⟨18, .data⟩ (by simp) rfl
      refine G.step_val KC KD hc hdd rfl (.int .u64 9) u ((G.wanted_guard (j := 16) (b := true) (c := true) rfl (hdep ⟨16, .guard⟩ (by simp) rfl)).trans rfl) ?_ rfl (Below.refl _ _)
      first | (go_simp; done) | rfl | (simp [go_sem, *]; done)
    refine G.stepsL_cons (fun a u hc hdd hd hk hdep => ?_) ?_
    ·
      have d28 : (a.tmps[28]?).getD undef = (.int .u64 9) := hdep ⟨19, .data⟩ (by simp) rfl
      refine G.step_val KC KD hc hdd rfl (.bool true) u ((G.wanted_guard (j := 16) (b := true) (c := true) rfl (hdep ⟨16, .guard⟩ (by simp) rfl)).trans rfl) ?_ rfl (Below.refl _ _)
      first | (go_simp; done) | rfl | (simp [go_sem, *]; done)
    refine G.stepsL_cons (fun a u hc hdd hd hk hdep => ?_) ?_
    ·
      have d25 : (a.tmps[25]?).getD undef = (.bool true) := hdep ⟨16, .data⟩ (by simp) rfl
      have d29 : (a.tmps[29]?).getD undef = (.bool true) := hdep ⟨20, .data⟩ (by simp) rfl
      refine G.step_val KC KD hc hdd rfl (.bool true) u (G.wanted_plain rfl) ?_ rfl (Below.refl _ _)
      first | (go_simp; done) | rfl | (simp [go_sem, *]; done)
    refine G.stepsL_cons (fun a u hc hdd hd hk hdep => ?_) ?_
    ·
      have d30 : (a.tmps[30]?).getD undef = (.bool true) := hdep ⟨21, .data⟩ (by simp) rfl
      refine G.step_val KC KD hc hdd rfl (.bool true) u (G.wanted_plain rfl) ?_ rfl (Below.refl _ _)
      first | (go_simp; done) | rfl | (simp [go_sem, *]; done)
    refine G.stepsL_cons (fun a u hc hdd hd hk hdep => ?_) ?_
    ·
      have d1 : (a.tmps[1]?).getD undef = (.pointer (some ⟨gl, 0, none⟩)) := hk 1 (by kernel_rfl)
      refine G.step_val KC KD hc hdd rfl (lookV E (some ⟨gB, 0, none⟩) 3 cE 1 1 2) u ((G.wanted_guard (j := 22) (b := true) (c := true) rfl (hdep ⟨22, .guard⟩ (by simp) rfl)).trans rfl) ?_ rfl (Below.refl _ _)
      first | (go_simp; done) | rfl | (simp [go_sem, *]; done)
    refine G.stepsL_cons (fun a u hc hdd hd hk hdep => ?_) ?_
    ·
      have d32 : (a.tmps[32]?).getD undef = (lookV E (some ⟨gB, 0, none⟩) 3 cE 1 1 2) := hdep ⟨23, .data⟩ (by simp) rfl
      refine G.step_call KC KD hc hdd rfl 14 #[.int .i64 25, .int .i64 1, .int .i64 0, (lookV E (some ⟨gB, 0, none⟩) 3 cE 1 1 2)] ((G.wanted_guard (j := 22) (b := true) (c := true) rfl (hdep ⟨22, .chain⟩ (by simp) rfl)).trans rfl) (by first | (go_simp; done) | rfl) ?_
      exact (D5.out E _ cE u hc.2.2.2.2.2.1).mono (by rintro e w' ⟨rfl, hb⟩; exact ⟨_, rfl, rfl, hb⟩)
    refine G.stepsL_cons (fun a u hc hdd hd hk hdep => ?_) ?_
    ·
      have d33 : (a.tmps[33]?).getD undef = (.agg #[.int .i64 1, .int .u64 (q5 : Int)]) := hdep ⟨24, .data⟩ (by simp) rfl
      refine G.step_val KC KD hc hdd rfl (.int .i64 1) u ((G.wanted_guard (j := 22) (b := true) (c := true) rfl (hdep ⟨22, .guard⟩ (by simp) rfl)).trans rfl) ?_ rfl (Below.refl _ _)
      first | (go_simp; done) | rfl | (simp [go_sem, *]; done)
    refine G.stepsL_cons (fun a u hc hdd hd hk hdep => ?_) ?_
    ·
      have d34 : (a.tmps[34]?).getD undef = (.int .i64 1) := hdep ⟨25, .data⟩ (by simp) rfl
      refine G.step_val KC KD hc hdd rfl (.bool true) u ((G.wanted_guard (j := 22) (b := true) (c := true) rfl (hdep ⟨22, .guard⟩ (by simp) rfl)).trans rfl) ?_ rfl (Below.refl _ _)
      first | (go_simp; done) | rfl | (simp [go_sem, *]; done)
    refine G.stepsL_cons (fun a u hc hdd hd hk hdep => ?_) ?_
    ·
      have d31 : (a.tmps[31]?).getD undef = (.bool true) := hdep ⟨22, .data⟩ (by simp) rfl
      have d35 : (a.tmps[35]?).getD undef = (.bool true) := hdep ⟨26, .data⟩ (by simp) rfl
      refine G.step_val KC KD hc hdd rfl (.bool true) u (G.wanted_plain rfl) ?_ rfl (Below.refl _ _)
      first | (go_simp; done) | rfl | (simp [go_sem, *]; done)
    refine G.stepsL_cons (fun a u hc hdd hd hk hdep => ?_) ?_
    ·
      have d36 : (a.tmps[36]?).getD undef = (.bool true) := hdep ⟨27, .data⟩ (by simp) rfl
      refine G.step_val KC KD hc hdd rfl (.bool true) u (G.wanted_plain rfl) ?_ rfl (Below.refl _ _)
      first | (go_simp; done) | rfl | (simp [go_sem, *]; done)
    exact G.stepsL_nil
  intro vs' wN hN hh
  have eL : vs' 28 = .bool true := by
    obtain ⟨-, -, -, -, -, -, -, -, -, -, -, -, -, -, -, -, -, -, -, -, -, -, -, -, -, -, -, -, eX, -⟩ := hh
    exact eX
  clear hh
  set_option maxRecDepth 100000 in simp only [List.take_succ_cons, List.take_zero, putAll, Act.put, List.setIfInBounds_toArray, List.set_cons_zero, List.set_cons_succ, Nat.reduceAdd, eL]
  obtain ⟨-, -, -, -, -, -, hW⟩ := hN
  go_wp2
  go_ret
  exact ⟨rfl, hW⟩
end Go.Proofs.Ytfjnphiegoogoaa
