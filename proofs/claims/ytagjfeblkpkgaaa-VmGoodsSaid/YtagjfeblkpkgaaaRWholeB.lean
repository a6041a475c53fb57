/- What 'whole' answers in the document's package, as contracts. -/
import Derived.Test.YtagjfeblkpkgaaaRWhole
namespace Go.Proofs.Ytagjfeblkpkgaaa
open Go.ChangeShapes Go.WideShapes Go.ChangeAt Go.RowKit Go.Fl

theorem below1s (w : World) (o : Obj) (x y : Value) : Below w.heap.size w (((w.alloc o).setCell ⟨w.heap.size, 0, none⟩ x).setCell ⟨w.heap.size, 1, none⟩ y) :=
  ((below1 w o).setCell (p := ⟨w.heap.size, 0, none⟩) (Nat.le_refl _) _).setCell (p := ⟨w.heap.size, 1, none⟩) (Nat.le_refl _) _

theorem rwhole_add (a b : Int) (w : World) (ha : I64 a) (hb : I64 b) :
    Calls Try.prog 41 #[.int .i64 1, .int .i64 a, .int .i64 b] w fun e w' => e = .returned (.agg #[.int .i64 (resK (chk (a + b))), .int .u64 (resB (chk (a + b)))]) ∧ Below w.heap.size w w' := by
  unfold chk
  by_cases h : I64 (a + b)
  · rw [if_pos h]
    show Calls _ _ _ _ fun e w' => e = .returned (.agg #[.int .i64 1, .int .u64 (IntKind.u64.wrap (a + b))]) ∧ _
    unfold I64 at *
    have hw : IntKind.i64.wrap (a + b) = a + b := by rw [IntKind.wrap_i64]; omega
    have hw1 : 0 ≤ b → IntKind.i64.wrap (9223372036854775807 - b) = 9223372036854775807 - b := by intro h; rw [IntKind.wrap_i64]; omega
    have hw2 : b < 0 → IntKind.i64.wrap (-9223372036854775808 - b) = -9223372036854775808 - b := by intro h; rw [IntKind.wrap_i64]; omega
    by_cases s : 0 ≤ b
    · have hw3 := hw1 s
      clear hw1 hw2
      go_enter Try.func41, Try.ntmps41
      go_wp2
      all_goals first | (exfalso; omega) | (exfalso; simp only [Bool.not_eq_false', Bool.not_eq_true', decide_eq_true_eq, decide_eq_false_iff_not] at *; omega) | exact bodyPost_ret (v := .agg #[.int .i64 1, .int .u64 (IntKind.u64.wrap (a + b))]) (by simp [results, Try.results41, go_sem]) rfl ⟨rfl, by first | exact below1 _ _ | exact below1s _ _ _ _⟩
    · have hw3 := hw2 (by omega)
      have s' : b < 0 := by omega
      clear hw1 hw2 s
      go_enter Try.func41, Try.ntmps41
      go_wp2
      all_goals first | (exfalso; omega) | (exfalso; simp only [Bool.not_eq_false', Bool.not_eq_true', decide_eq_true_eq, decide_eq_false_iff_not] at *; omega) | exact bodyPost_ret (v := .agg #[.int .i64 1, .int .u64 (IntKind.u64.wrap (a + b))]) (by simp [results, Try.results41, go_sem]) rfl ⟨rfl, by first | exact below1 _ _ | exact below1s _ _ _ _⟩
  · rw [if_neg h]
    show Calls _ _ _ _ fun e w' => e = .returned (.agg #[.int .i64 0, .int .u64 0]) ∧ _
    unfold I64 at *
    have hw1 : 0 ≤ b → IntKind.i64.wrap (9223372036854775807 - b) = 9223372036854775807 - b := by intro h; rw [IntKind.wrap_i64]; omega
    have hw2 : b < 0 → IntKind.i64.wrap (-9223372036854775808 - b) = -9223372036854775808 - b := by intro h; rw [IntKind.wrap_i64]; omega
    by_cases s : 0 ≤ b
    · have hw3 := hw1 s
      clear hw1 hw2
      go_enter Try.func41, Try.ntmps41
      go_wp2
      all_goals first | (exfalso; omega) | (exfalso; simp only [Bool.not_eq_false', Bool.not_eq_true', decide_eq_true_eq, decide_eq_false_iff_not] at *; omega) | exact bodyPost_ret (v := .agg #[.int .i64 0, .int .u64 0]) (by simp [results, Try.results41, go_sem]) rfl ⟨rfl, by first | exact below1 _ _ | exact below1s _ _ _ _⟩
    · have hw3 := hw2 (by omega)
      have s' : b < 0 := by omega
      clear hw1 hw2 s
      go_enter Try.func41, Try.ntmps41
      go_wp2
      all_goals first | (exfalso; omega) | (exfalso; simp only [Bool.not_eq_false', Bool.not_eq_true', decide_eq_true_eq, decide_eq_false_iff_not] at *; omega) | exact bodyPost_ret (v := .agg #[.int .i64 0, .int .u64 0]) (by simp [results, Try.results41, go_sem]) rfl ⟨rfl, by first | exact below1 _ _ | exact below1s _ _ _ _⟩

theorem rwhole_sub (a b : Int) (w : World) (ha : I64 a) (hb : I64 b) :
    Calls Try.prog 41 #[.int .i64 2, .int .i64 a, .int .i64 b] w fun e w' => e = .returned (.agg #[.int .i64 (resK (chk (a - b))), .int .u64 (resB (chk (a - b)))]) ∧ Below w.heap.size w w' := by
  unfold chk
  by_cases h : I64 (a - b)
  · rw [if_pos h]
    show Calls _ _ _ _ fun e w' => e = .returned (.agg #[.int .i64 1, .int .u64 (IntKind.u64.wrap (a - b))]) ∧ _
    unfold I64 at *
    have hw : IntKind.i64.wrap (a - b) = a - b := by rw [IntKind.wrap_i64]; omega
    have hw1 : b < 0 → IntKind.i64.wrap (9223372036854775807 + b) = 9223372036854775807 + b := by intro h; rw [IntKind.wrap_i64]; omega
    have hw2 : 0 ≤ b → IntKind.i64.wrap (-9223372036854775808 + b) = -9223372036854775808 + b := by intro h; rw [IntKind.wrap_i64]; omega
    by_cases s : 0 ≤ b
    · have hw3 := hw2 s
      clear hw1 hw2
      go_enter Try.func41, Try.ntmps41
      go_wp2
      all_goals first | (exfalso; omega) | (exfalso; simp only [Bool.not_eq_false', Bool.not_eq_true', decide_eq_true_eq, decide_eq_false_iff_not] at *; omega) | exact bodyPost_ret (v := .agg #[.int .i64 1, .int .u64 (IntKind.u64.wrap (a - b))]) (by simp [results, Try.results41, go_sem]) rfl ⟨rfl, by first | exact below1 _ _ | exact below1s _ _ _ _⟩
    · have hw3 := hw1 (by omega)
      have s' : b < 0 := by omega
      clear hw1 hw2 s
      go_enter Try.func41, Try.ntmps41
      go_wp2
      all_goals first | (exfalso; omega) | (exfalso; simp only [Bool.not_eq_false', Bool.not_eq_true', decide_eq_true_eq, decide_eq_false_iff_not] at *; omega) | exact bodyPost_ret (v := .agg #[.int .i64 1, .int .u64 (IntKind.u64.wrap (a - b))]) (by simp [results, Try.results41, go_sem]) rfl ⟨rfl, by first | exact below1 _ _ | exact below1s _ _ _ _⟩
  · rw [if_neg h]
    show Calls _ _ _ _ fun e w' => e = .returned (.agg #[.int .i64 0, .int .u64 0]) ∧ _
    unfold I64 at *
    have hw1 : b < 0 → IntKind.i64.wrap (9223372036854775807 + b) = 9223372036854775807 + b := by intro h; rw [IntKind.wrap_i64]; omega
    have hw2 : 0 ≤ b → IntKind.i64.wrap (-9223372036854775808 + b) = -9223372036854775808 + b := by intro h; rw [IntKind.wrap_i64]; omega
    by_cases s : 0 ≤ b
    · have hw3 := hw2 s
      clear hw1 hw2
      go_enter Try.func41, Try.ntmps41
      go_wp2
      all_goals first | (exfalso; omega) | (exfalso; simp only [Bool.not_eq_false', Bool.not_eq_true', decide_eq_true_eq, decide_eq_false_iff_not] at *; omega) | exact bodyPost_ret (v := .agg #[.int .i64 0, .int .u64 0]) (by simp [results, Try.results41, go_sem]) rfl ⟨rfl, by first | exact below1 _ _ | exact below1s _ _ _ _⟩
    · have hw3 := hw1 (by omega)
      have s' : b < 0 := by omega
      clear hw1 hw2 s
      go_enter Try.func41, Try.ntmps41
      go_wp2
      all_goals first | (exfalso; omega) | (exfalso; simp only [Bool.not_eq_false', Bool.not_eq_true', decide_eq_true_eq, decide_eq_false_iff_not] at *; omega) | exact bodyPost_ret (v := .agg #[.int .i64 0, .int .u64 0]) (by simp [results, Try.results41, go_sem]) rfl ⟨rfl, by first | exact below1 _ _ | exact below1s _ _ _ _⟩

/-- the sign: as 0 - a -/
theorem rwhole_neg (a b : Int) (w : World) (ha : I64 a) :
    Calls Try.prog 41 #[.int .i64 6, .int .i64 a, .int .i64 b] w fun e w' => e = .returned (.agg #[.int .i64 (resK (chk (0 - a))), .int .u64 (resB (chk (0 - a)))]) ∧ Below w.heap.size w w' := by
  unfold chk
  have E : (-9223372036854775808 ≤ 0 - a ∧ 0 - a ≤ 9223372036854775807) ↔ I64 (0 - a) := Iff.rfl
  by_cases m : a = -9223372036854775808
  · subst m
    rw [if_neg (by decide)]
    show Calls _ _ _ _ fun e w' => e = .returned (.agg #[.int .i64 0, .int .u64 0]) ∧ _
    clear ha E
    go_enter Try.func41, Try.ntmps41
    go_wp2
    all_goals exact bodyPost_ret (v := .agg #[.int .i64 0, .int .u64 0]) (by simp [results, Try.results41, go_sem]) rfl ⟨rfl, by first | exact below1 _ _ | exact below1s _ _ _ _⟩
  · rw [if_pos (by unfold I64 at *; omega)]
    show Calls _ _ _ _ fun e w' => e = .returned (.agg #[.int .i64 1, .int .u64 (IntKind.u64.wrap (0 - a))]) ∧ _
    unfold I64 at ha
    have hw : IntKind.i64.wrap (0 - a) = -a := by rw [IntKind.wrap_i64]; omega
    have hn : IntKind.i64.wrap (-a) = -a := by rw [IntKind.wrap_i64]; omega
    rw [show (0 : Int) - a = -a by omega]
    have hw1 : 0 ≤ a → IntKind.i64.wrap (-9223372036854775808 + a) = -9223372036854775808 + a := by intro h; rw [IntKind.wrap_i64]; omega
    have hw2 : a < 0 → IntKind.i64.wrap (9223372036854775807 + a) = 9223372036854775807 + a := by intro h; rw [IntKind.wrap_i64]; omega
    by_cases s : 0 ≤ a
    · have hw3 := hw1 s
      clear hw1 hw2 E
      go_enter Try.func41, Try.ntmps41
      go_wp2
      all_goals first | (exfalso; omega) | (exfalso; simp only [Bool.not_eq_false', Bool.not_eq_true', decide_eq_true_eq, decide_eq_false_iff_not] at *; omega) | exact bodyPost_ret (v := .agg #[.int .i64 1, .int .u64 (IntKind.u64.wrap (-a))]) (by simp [results, Try.results41, go_sem]) rfl ⟨rfl, by first | exact below1 _ _ | exact below1s _ _ _ _⟩
    · have hw3 := hw2 (by omega)
      have s' : a < 0 := by omega
      have hu : IntKind.u64.wrap (-a) = -a := by rw [IntKind.wrap_u64]; omega
      rw [hu]
      clear hw1 hw2 E s
      go_enter Try.func41, Try.ntmps41
      go_wp2
      all_goals first | (exfalso; omega) | (exfalso; simp only [Bool.not_eq_false', Bool.not_eq_true', decide_eq_true_eq, decide_eq_false_iff_not] at *; omega) | exact bodyPost_ret (v := .agg #[.int .i64 1, .int .u64 (-a)]) (by simp [results, Try.results41, go_sem]) rfl ⟨rfl, by first | exact below1 _ _ | exact below1s _ _ _ _⟩

theorem rwhole_mul (a b : Int) (w : World) (ha : I64 a) (hb : I64 b) :
    Calls Try.prog 41 #[.int .i64 3, .int .i64 a, .int .i64 b] w fun e w' => e = .returned (.agg #[.int .i64 (resK (chk (a * b))), .int .u64 (resB (chk (a * b)))]) ∧ Below w.heap.size w w' := by
  have H := Lib.hid (fun w => product_any a b w ha hb)
  unfold chk
  by_cases h : I64 (a * b)
  · rw [if_pos h]
    show Calls _ _ _ _ fun e w' => e = .returned (.agg #[.int .i64 1, .int .u64 (IntKind.u64.wrap (a * b))]) ∧ _
    rw [decide_eq_true h] at H
    replace h := Lib.hid h
    clear ha hb
    go_enter Try.func41, Try.ntmps41
    go_wp2_with (go_at_call 61; refine (H.out _).mono ?_; rintro e w' ⟨s, rfl, hs, rfl⟩; obtain rfl := hs h.out; clear hs)
    all_goals exact bodyPost_ret (v := .agg #[.int .i64 1, .int .u64 (IntKind.u64.wrap (a * b))]) (by simp [results, Try.results41, go_sem]) rfl ⟨rfl, by first | exact below1 _ _ | exact below1s _ _ _ _⟩
  · rw [if_neg h]
    show Calls _ _ _ _ fun e w' => e = .returned (.agg #[.int .i64 0, .int .u64 0]) ∧ _
    rw [decide_eq_false h] at H
    clear ha hb h
    go_enter Try.func41, Try.ntmps41
    go_wp2_with (go_at_call 61; refine (H.out _).mono ?_; rintro e w' ⟨s, rfl, hs, rfl⟩; clear hs)
    all_goals exact bodyPost_ret (v := .agg #[.int .i64 0, .int .u64 0]) (by simp [results, Try.results41, go_sem]) rfl ⟨rfl, by first | exact below1 _ _ | exact below1s _ _ _ _⟩

theorem rwhole_quo (a b : Int) (w : World) (ha : I64 a) :
    Calls Try.prog 41 #[.int .i64 4, .int .i64 a, .int .i64 b] w fun e w' => e = .returned (.agg #[.int .i64 (resK (quoP a b)), .int .u64 (resB (quoP a b))]) ∧ Below w.heap.size w w' := by
  unfold quoP
  by_cases h0 : b = 0
  · rw [if_pos h0]
    subst h0
    show Calls _ _ _ _ fun e w' => e = .returned (.agg #[.int .i64 0, .int .u64 0]) ∧ _
    go_enter Try.func41, Try.ntmps41
    go_wp2
    all_goals exact bodyPost_ret (v := .agg #[.int .i64 0, .int .u64 0]) (by simp [results, Try.results41, go_sem]) rfl ⟨rfl, by first | exact below1 _ _ | exact below1s _ _ _ _⟩
  rw [if_neg h0]
  by_cases hm : a = -9223372036854775808 ∧ b = -1
  · obtain ⟨rfl, rfl⟩ := hm
    rw [show chk ((-9223372036854775808 : Int).tdiv (-1)) = none by decide]
    show Calls _ _ _ _ fun e w' => e = .returned (.agg #[.int .i64 0, .int .u64 0]) ∧ _
    go_enter Try.func41, Try.ntmps41
    go_wp2
    all_goals exact bodyPost_ret (v := .agg #[.int .i64 0, .int .u64 0]) (by simp [results, Try.results41, go_sem]) rfl ⟨rfl, by first | exact below1 _ _ | exact below1s _ _ _ _⟩
  have h1 := tdiv_i64 a b ha h0 hm
  have hq : IntKind.i64.wrap (a.tdiv b) = a.tdiv b := by rw [IntKind.wrap_i64]; unfold I64 at h1; omega
  have hq2 : wrap64 (a.tdiv b) = a.tdiv b := by unfold I64 at h1; unfold wrap64; omega
  rw [show chk (a.tdiv b) = some (a.tdiv b) by unfold chk; rw [if_pos h1]]
  show Calls _ _ _ _ fun e w' => e = .returned (.agg #[.int .i64 1, .int .u64 (IntKind.u64.wrap (a.tdiv b))]) ∧ _
  have f0 : (b != 0) = true := by simpa using h0
  clear ha h1
  by_cases c : b = -1
  · have f1 : (a != -9223372036854775808) = true := by simpa using fun e => hm ⟨e, c⟩
    have f2 : (b != -1) = false := by simpa using c
    clear hm c
    go_enter Try.func41, Try.ntmps41
    go_wp2
    all_goals exact bodyPost_ret (v := .agg #[.int .i64 1, .int .u64 (IntKind.u64.wrap (a.tdiv b))]) (by simp [results, Try.results41, go_sem]) rfl ⟨rfl, by first | exact below1 _ _ | exact below1s _ _ _ _⟩
  · have f2 : (b != -1) = true := by simpa using c
    clear hm c
    go_enter Try.func41, Try.ntmps41
    go_wp2
    all_goals exact bodyPost_ret (v := .agg #[.int .i64 1, .int .u64 (IntKind.u64.wrap (a.tdiv b))]) (by simp [results, Try.results41, go_sem]) rfl ⟨rfl, by first | exact below1 _ _ | exact below1s _ _ _ _⟩

theorem rwhole_rem (a b : Int) (w : World) (ha : I64 a) :
    Calls Try.prog 41 #[.int .i64 5, .int .i64 a, .int .i64 b] w fun e w' => e = .returned (.agg #[.int .i64 (resK (remP a b)), .int .u64 (resB (remP a b))]) ∧ Below w.heap.size w w' := by
  unfold remP
  by_cases h0 : b = 0
  · rw [if_pos h0]
    subst h0
    show Calls _ _ _ _ fun e w' => e = .returned (.agg #[.int .i64 0, .int .u64 0]) ∧ _
    go_enter Try.func41, Try.ntmps41
    go_wp2
    all_goals exact bodyPost_ret (v := .agg #[.int .i64 0, .int .u64 0]) (by simp [results, Try.results41, go_sem]) rfl ⟨rfl, by first | exact below1 _ _ | exact below1s _ _ _ _⟩
  rw [if_neg h0]
  show Calls _ _ _ _ fun e w' => e = .returned (.agg #[.int .i64 1, .int .u64 (IntKind.u64.wrap (a.tmod b))]) ∧ _
  by_cases c : b = -1
  · subst c
    rw [show a.tmod (-1) = 0 by rw [Int.tmod_neg, Int.tmod_one], show IntKind.u64.wrap 0 = 0 by rw [IntKind.wrap_u64]; rfl]
    clear ha h0
    go_enter Try.func41, Try.ntmps41
    go_wp2
    all_goals exact bodyPost_ret (v := .agg #[.int .i64 1, .int .u64 0]) (by simp [results, Try.results41, go_sem]) rfl ⟨rfl, by first | exact below1 _ _ | exact below1s _ _ _ _⟩
  · have h1 := tmod_i64 a b ha
    have hq : IntKind.i64.wrap (a.tmod b) = a.tmod b := by rw [IntKind.wrap_i64]; unfold I64 at h1; omega
    have hq2 : wrap64 (a.tmod b) = a.tmod b := by unfold I64 at h1; unfold wrap64; omega
    have f0 : (b != 0) = true := by simpa using h0
    have f2 : (b != -1) = true := by simpa using c
    clear ha h1 c
    go_enter Try.func41, Try.ntmps41
    go_wp2
    all_goals exact bodyPost_ret (v := .agg #[.int .i64 1, .int .u64 (IntKind.u64.wrap (a.tmod b))]) (by simp [results, Try.results41, go_sem]) rfl ⟨rfl, by first | exact below1 _ _ | exact below1s _ _ _ _⟩

theorem rwhole_any (op a b : Int) (w : World) (h1 : 1 ≤ op) (h5 : op ≤ 5) (ha : I64 a) (hb : I64 b) :
    Calls Try.prog 41 #[.int .i64 op, .int .i64 a, .int .i64 b] w fun e w' => e = .returned (.agg #[.int .i64 (resK (ansI op a b)), .int .u64 (resB (ansI op a b))]) ∧ Below w.heap.size w w' := by
  rcases (show op = 1 ∨ op = 2 ∨ op = 3 ∨ op = 4 ∨ op = 5 by omega) with rfl | rfl | rfl | rfl | rfl
  · exact rwhole_add a b w ha hb
  · exact rwhole_sub a b w ha hb
  · exact rwhole_mul a b w ha hb
  · exact rwhole_quo a b w ha
  · exact rwhole_rem a b w ha

theorem rwhole_real (a b : Int) (w : World) (ha : I64 a) :
    Calls Try.prog 41 #[.int .i64 16, .int .i64 a, .int .i64 b] w fun e w' => e = .returned (.agg #[.int .i64 4, .int .u64 ((ofI a : Nat) : Int)]) ∧ Below w.heap.size w w' := by
  have H := Lib.hid (fun w => rofint_any a w ha.1 ha.2)
  generalize ofI a = r at *
  clear ha
  go_enter Try.func41, Try.ntmps41
  go_wp2_with (go_at_call 60; refine (H.out _).mono ?_; rintro e w' ⟨rfl, rfl⟩)
  all_goals exact bodyPost_ret (v := .agg #[.int .i64 4, .int .u64 ((r : Nat) : Int)]) (by simp [results, Try.results41, go_sem]) rfl ⟨rfl, by first | exact below1 _ _ | exact below1s _ _ _ _⟩

theorem rwhole_not (a b : Int) (w : World) :
    Calls Try.prog 41 #[.int .i64 15, .int .i64 a, .int .i64 b] w fun e w' => e = .returned (.agg #[.int .i64 2, .int .u64 ((b2n (a == 0) : Nat) : Int)]) ∧ Below w.heap.size w w' := by
  obtain ⟨x, hx⟩ : ∃ x, (a == 0) = x := ⟨_, rfl⟩
  rw [hx]
  go_enter Try.func41, Try.ntmps41
  go_wp2_with fail
  refine (truth_v x _).mono ?_; rintro e w1 ⟨rfl, hb1⟩
  obtain ⟨hc, hf⟩ := bcell hb1
  have p4 : w1.cell? ⟨w.heap.size, 0, none⟩ = some (.int .i64 0) := by rw [hc _ _ (by simp)]; simp
  have p5 : w1.cell? ⟨w.heap.size, 1, none⟩ = some (.int .u64 0) := by rw [hc _ _ (by simp)]; simp
  have p6 : w1.frozen? ⟨w.heap.size, 0, none⟩ = false := by rw [hf _ _ (by simp)]; simp
  have p7 : w1.frozen? ⟨w.heap.size, 1, none⟩ = false := by rw [hf _ _ (by simp)]; simp
  obtain ⟨_, q1, q2⟩ := put2 (.int .i64 2) (.int .u64 ((b2n x : Nat) : Int)) p4 p5
  have hB := below_more (below1 w _) hb1
  clear hc hf hb1
  go_wp2
  exact bodyPost_ret (v := .agg #[.int .i64 2, .int .u64 ((b2n x : Nat) : Int)]) (by simp [results, Try.results41, go_sem, q1, q2]) rfl ⟨rfl, (hB.setCell (p := ⟨w.heap.size, 0, none⟩) (Nat.le_refl _) _).setCell (p := ⟨w.heap.size, 1, none⟩) (Nat.le_refl _) _⟩

end Go.Proofs.Ytagjfeblkpkgaaa
