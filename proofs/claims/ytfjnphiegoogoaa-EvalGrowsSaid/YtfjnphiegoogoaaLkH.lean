/- Asking a leaf, from the look's face down, as contracts. -/
import Derived.Test.YtfjnphiegoogoaaLkF
namespace Go.Proofs.Ytfjnphiegoogoaa
open Go.ChangeShapes Go.WideShapes Go.ChangeAt Go.RowKit Go.Fl
set_option linter.unusedVariables false
set_option linter.unusedSimpArgs false

def LeafOp (op : Int) : Prop := op = 25 ∨ op = 26 ∨ op = 27 ∨ op = 28 ∨ op = 29 ∨ op = 30 ∨ op = 31 ∨ op = 40 ∨ op = 41 ∨ op = 42
theorem isleaf_25 (w : World) : Calls Try.prog 53 #[.int .i64 25] w fun e w' => e = .returned (.bool true) ∧ w = w' := by
  go_enter Try.func53, Try.ntmps53
  go_wp2
  go_ret
  exact ⟨rfl, rfl⟩
theorem isleaf_26 (w : World) : Calls Try.prog 53 #[.int .i64 26] w fun e w' => e = .returned (.bool true) ∧ w = w' := by
  go_enter Try.func53, Try.ntmps53
  go_wp2
  go_ret
  exact ⟨rfl, rfl⟩
theorem isleaf_27 (w : World) : Calls Try.prog 53 #[.int .i64 27] w fun e w' => e = .returned (.bool true) ∧ w = w' := by
  go_enter Try.func53, Try.ntmps53
  go_wp2
  go_ret
  exact ⟨rfl, rfl⟩
theorem isleaf_28 (w : World) : Calls Try.prog 53 #[.int .i64 28] w fun e w' => e = .returned (.bool true) ∧ w = w' := by
  go_enter Try.func53, Try.ntmps53
  go_wp2
  go_ret
  exact ⟨rfl, rfl⟩
theorem isleaf_29 (w : World) : Calls Try.prog 53 #[.int .i64 29] w fun e w' => e = .returned (.bool true) ∧ w = w' := by
  go_enter Try.func53, Try.ntmps53
  go_wp2
  go_ret
  exact ⟨rfl, rfl⟩
theorem isleaf_30 (w : World) : Calls Try.prog 53 #[.int .i64 30] w fun e w' => e = .returned (.bool true) ∧ w = w' := by
  go_enter Try.func53, Try.ntmps53
  go_wp2
  go_ret
  exact ⟨rfl, rfl⟩
theorem isleaf_31 (w : World) : Calls Try.prog 53 #[.int .i64 31] w fun e w' => e = .returned (.bool true) ∧ w = w' := by
  go_enter Try.func53, Try.ntmps53
  go_wp2
  go_ret
  exact ⟨rfl, rfl⟩
theorem isleaf_40 (w : World) : Calls Try.prog 53 #[.int .i64 40] w fun e w' => e = .returned (.bool true) ∧ w = w' := by
  go_enter Try.func53, Try.ntmps53
  go_wp2
  go_ret
  exact ⟨rfl, rfl⟩
theorem isleaf_41 (w : World) : Calls Try.prog 53 #[.int .i64 41] w fun e w' => e = .returned (.bool true) ∧ w = w' := by
  go_enter Try.func53, Try.ntmps53
  go_wp2
  go_ret
  exact ⟨rfl, rfl⟩
theorem isleaf_42 (w : World) : Calls Try.prog 53 #[.int .i64 42] w fun e w' => e = .returned (.bool true) ∧ w = w' := by
  go_enter Try.func53, Try.ntmps53
  go_wp2
  go_ret
  exact ⟨rfl, rfl⟩
theorem isleaf_yes (op : Int) (h : LeafOp op) (w : World) : Calls Try.prog 53 #[.int .i64 op] w fun e w' => e = .returned (.bool true) ∧ w = w' := by
  rcases h with rfl | rfl | rfl | rfl | rfl | rfl | rfl | rfl | rfl | rfl
  · exact isleaf_25 w
  · exact isleaf_26 w
  · exact isleaf_27 w
  · exact isleaf_28 w
  · exact isleaf_29 w
  · exact isleaf_30 w
  · exact isleaf_31 w
  · exact isleaf_40 w
  · exact isleaf_41 w
  · exact isleaf_42 w
theorem operands_leaf (b o : Nat) (op : Int) (w : World) (h : LeafOp op) (hn : w.cell? ⟨b, o, none⟩ = some (.int .i64 op)) :
    Calls Try.prog 27 #[.pointer (some ⟨b, o, none⟩)] w fun e w' => e = .returned (.slice none 0 0) ∧ w = w' := by
  have L := Lib.hid (fun w => isleaf_yes op h w)
  go_enter Try.func27, Try.ntmps27
  go_wp2_with (go_at_call 53; refine (L.out _).mono ?_; rintro e w' ⟨rfl, rfl⟩)
  go_ret
  exact ⟨rfl, rfl⟩
theorem rest_leaf (b o : Nat) (op : Int) (w : World) (h : LeafOp op) (hn : w.cell? ⟨b, o, none⟩ = some (.int .i64 op)) :
    Calls Try.prog 52 #[.pointer (some ⟨b, o, none⟩), .func (.func 27) #[] #[], .int .i64 200] w fun e w' => e = .returned (.int .i64 199) ∧ w = w' := by
  have L := Lib.hid (operands_leaf b o op w h hn)
  go_enter Try.func52, Try.ntmps52
  go_wp2_with (go_at_call 27; refine L.out.mono ?_; rintro e w' ⟨rfl, rfl⟩)
  go_loop [2, 16] (fun m i => m = .int .i64 199 ∧ i = .int .i64 0) (fun _ _ => 0)
  case atStart => exact ⟨rfl, rfl⟩
  case round =>
    obtain ⟨rfl, rfl⟩ := hrel
    go_wp2
    go_ret
    exact ⟨rfl, rfl⟩
theorem few_leaf (b o : Nat) (op : Int) (w : World) (h : LeafOp op) (hn : w.cell? ⟨b, o, none⟩ = some (.int .i64 op)) :
    Calls Try.prog 26 #[.pointer (some ⟨b, o, none⟩), .func (.func 27) #[] #[], .int .i64 200] w fun e w' => e = .returned (.bool true) ∧ w = w' := by
  have L := Lib.hid (rest_leaf b o op w h hn)
  go_enter Try.func26, Try.ntmps26
  go_wp2_with (go_at_call 52; refine L.out.mono ?_; rintro e w' ⟨rfl, rfl⟩)
  go_ret
  exact ⟨rfl, rfl⟩

/-- what is asked answers x, whatever has been made since -/
def Asks (f : FuncId) (E B : Option Addr) (ne ce nb cb : Nat) (cur : Int) (b o : Nat) (x : Int × Nat) (w : World) : Prop :=
  ∀ wz, Below w.heap.size w wz → Calls Try.prog f #[lookV E B ne ce nb cb cur, .pointer (some ⟨b, o, none⟩)] wz (VIs x wz)
theorem Asks.later {f : FuncId} {E B : Option Addr} {ne ce nb cb : Nat} {cur : Int} {b o : Nat} {x : Int × Nat} {w w1 : World} (h : Asks f E B ne ce nb cb cur b o x w) (hb : Below w.heap.size w w1) : Asks f E B ne ce nb cb cur b o x w1 :=
  fun wz hz => h wz (mmore hb hz)

theorem down_leaf (E B : Option Addr) (ne ce nb cb : Nat) (cur : Int) (b o : Nat) (op : Int) (x : Int × Nat) (w : World) (h : LeafOp op) (hn : w.cell? ⟨b, o, none⟩ = some (.int .i64 op)) (hA : Asks 54 E B ne ce nb cb cur b o x w) :
    Calls Try.prog 28 #[lookV E B ne ce nb cb cur, .pointer (some ⟨b, o, none⟩)] w (VIs x w) := by
  obtain ⟨xk, xb⟩ := x
  have L := Lib.hid (fun w => isleaf_yes op h w)
  have hu := m2 w (lookO E B ne ce nb cb cur) (.cells #[.int .i64 0, .int .u64 0] 25)
  have O := Lib.hid (hA _ hu)
  have hn := cell_later hu hn
  replace hu := Lib.hid hu
  clear hA h
  go_enter Try.func28, Try.ntmps28
  go_wp2_with (first | (go_at_call 53; refine (L.out _).mono ?_; rintro e w' ⟨rfl, rfl⟩) | fail)
  refine O.out.mono ?_; rintro e w1 ⟨rfl, hb1⟩
  obtain ⟨hc, hf⟩ := bcell hb1
  obtain ⟨_, r1, r2⟩ := put2 (w := w1) (g := w.heap.size + 1) (.int .i64 xk) (.int .u64 (xb : Int)) (x := .int .i64 0) (y := .int .u64 0) (by rw [hc _ _ (by simp)]; simp [go_sem]) (by rw [hc _ _ (by simp)]; simp [go_sem])
  go_wp2
  exact bodyPost_ret (v := .agg #[.int .i64 xk, .int .u64 (xb : Int)]) (by simp [results, Try.results28, go_sem, r1, r2]) rfl (.mk rfl (((below_more hu.out hb1).setCell (by show w.heap.size ≤ w.heap.size + 1; omega) _).setCell (by show w.heap.size ≤ w.heap.size + 1; omega) _))
theorem ask_few (E B : Option Addr) (ne ce nb cb : Nat) (cur : Int) (b o : Nat) (x : Int × Nat) (w : World)
    (hF : ∀ wz, Below w.heap.size w wz → Calls Try.prog 26 #[.pointer (some ⟨b, o, none⟩), .func (.func 27) #[] #[], .int .i64 200] wz fun e w' => e = .returned (.bool true) ∧ wz = w') (hA : Asks 28 E B ne ce nb cb cur b o x w) :
    Calls Try.prog 17 #[lookV E B ne ce nb cb cur, .pointer (some ⟨b, o, none⟩)] w (VIs x w) := by
  obtain ⟨xk, xb⟩ := x
  have hu := m2 w (lookO E B ne ce nb cb cur) (.cells #[.int .i64 0, .int .u64 0] 25)
  have L := Lib.hid (hF _ hu)
  have O := Lib.hid (hA _ hu)
  replace hu := Lib.hid hu
  clear hA hF
  go_enter Try.func17, Try.ntmps17
  go_wp2_with (first | (go_at_call 26; refine L.out.mono ?_; rintro e w' ⟨rfl, rfl⟩) | fail)
  refine O.out.mono ?_; rintro e w1 ⟨rfl, hb1⟩
  obtain ⟨hc, hf⟩ := bcell hb1
  obtain ⟨_, r1, r2⟩ := put2 (w := w1) (g := w.heap.size + 1) (.int .i64 xk) (.int .u64 (xb : Int)) (x := .int .i64 0) (y := .int .u64 0) (by rw [hc _ _ (by simp)]; simp [go_sem]) (by rw [hc _ _ (by simp)]; simp [go_sem])
  go_wp2
  exact bodyPost_ret (v := .agg #[.int .i64 xk, .int .u64 (xb : Int)]) (by simp [results, Try.results17, go_sem, r1, r2]) rfl (.mk rfl (((below_more hu.out hb1).setCell (by show w.heap.size ≤ w.heap.size + 1; omega) _).setCell (by show w.heap.size ≤ w.heap.size + 1; omega) _))
theorem ask_leaf (E B : Option Addr) (ne ce nb cb : Nat) (cur : Int) (b o : Nat) (op : Int) (x : Int × Nat) (w : World) (h : LeafOp op) (hn : w.cell? ⟨b, o, none⟩ = some (.int .i64 op)) (hA : Asks 54 E B ne ce nb cb cur b o x w) :
    Calls Try.prog 17 #[lookV E B ne ce nb cb cur, .pointer (some ⟨b, o, none⟩)] w (VIs x w) :=
  ask_few E B ne ce nb cb cur b o x w (fun wz hz => few_leaf b o op wz h (cell_later hz hn)) fun wz hz => down_leaf E B ne ce nb cb cur b o op x wz h (cell_later hz hn) (hA.later hz)

theorem zNode : (Try.prog.info? 27).map (fun i => (i.zero, i.size, i.bytes)) = some (some (.agg #[.int .i64 0, .int .i64 0, .slice none 0 0, .int .i64 0, .int .u64 0, .int .i64 0, .int .i64 0]), 7, 72) := by kernel_rfl

set_option maxHeartbeats 4000000 in
set_option maxRecDepth 100000 in
theorem node_any (E B : Option Addr) (ne ce nb cb : Nat) (cur op kd : Int) (A : Option Addr) (na ca : Nat) (vk : Int) (vb : Nat) (pos attr : Int) (x : Int × Nat) (w : World)
    (hA : ∀ wz, Below w.heap.size w wz → Blk wz w.heap.size 27 #[.int .i64 op, .int .i64 kd, .slice A na ca, .int .i64 vk, .int .u64 (vb : Int), .int .i64 pos, .int .i64 attr] → Calls Try.prog 17 #[lookV E B ne ce nb cb cur, .pointer (some ⟨w.heap.size, 0, none⟩)] wz (VIs x wz)) :
    Calls Try.prog 8 #[.agg #[.int .i64 op, .int .i64 kd, .slice A na ca, .int .i64 vk, .int .u64 (vb : Int), .int .i64 pos, .int .i64 attr], lookV E B ne ce nb cb cur] w (VIs x w) := by
  obtain ⟨xk, xb⟩ := x
  have hu := (m2 w (.cells #[.int .i64 op, .int .i64 kd, .slice A na ca, .int .i64 vk, .int .u64 (vb : Int), .int .i64 pos, .int .i64 attr] 27) (lookO E B ne ce nb cb cur)).alloc (by simp; omega) (.cells #[.int .i64 0, .int .u64 0] 25)
  have hB := ((Blk.made w 27 #[.int .i64 op, .int .i64 kd, .slice A na ca, .int .i64 vk, .int .u64 (vb : Int), .int .i64 pos, .int .i64 attr]).kept (m1 _ (lookO E B ne ce nb cb cur))).kept (m1 _ (.cells #[.int .i64 0, .int .u64 0] 25))
  have O := Lib.hid (hA _ hu hB)
  replace hu := Lib.hid hu
  clear hA hB
  go_enter Try.func8, Try.ntmps8
  go_wp2_with fail
  refine O.out.mono ?_; rintro e w1 ⟨rfl, hb1⟩
  obtain ⟨hc, hf⟩ := bcell hb1
  obtain ⟨_, r1, r2⟩ := put2 (w := w1) (g := w.heap.size + 1 + 1) (.int .i64 xk) (.int .u64 (xb : Int)) (x := .int .i64 0) (y := .int .u64 0) (by rw [hc _ _ (by simp)]; simp [go_sem]) (by rw [hc _ _ (by simp)]; simp [go_sem])
  go_wp2
  exact bodyPost_ret (v := .agg #[.int .i64 xk, .int .u64 (xb : Int)]) (by simp [results, Try.results8, go_sem, r1, r2]) rfl (.mk rfl (((mmore hu.out hb1).setCell (by show w.heap.size ≤ w.heap.size + 1 + 1; omega) _).setCell (by show w.heap.size ≤ w.heap.size + 1 + 1; omega) _))
end Go.Proofs.Ytfjnphiegoogoaa
