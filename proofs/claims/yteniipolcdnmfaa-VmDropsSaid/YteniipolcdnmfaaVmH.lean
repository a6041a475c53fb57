/- The program's Good, as a contract, for every code. -/
import Derived.Test.YteniipolcdnmfaaVmG
namespace Go.Proofs.Yteniipolcdnmfaa
open Go.ChangeShapes Go.WideShapes Go.ChangeAt Go.RowKit Go.Fl
set_option linter.unusedVariables false
set_option linter.unusedSimpArgs false
theorem all_not {α : Type} (l : List α) (p : α → Bool) : l.all p = !(l.any fun x => !p x) := by
  induction l with
  | nil => rfl
  | cons x xs ih => simp only [List.all_cons, List.any_cons, ih, Bool.not_or, Bool.not_not]

set_option maxHeartbeats 8000000 in
theorem isbad_any (op kd ps at_ : Int) (w : World) : Calls Try.prog 23 #[.agg #[.int .i64 op, .int .i64 kd, .int .i64 ps, .int .i64 at_]] w (BOut (!inputB (op, kd, ps, at_)) w) := by
  have hw := m1 w (.cells #[.int .i64 op, .int .i64 kd, .int .i64 ps, .int .i64 at_] 31)
  have i0 : (w.alloc (.cells #[.int .i64 op, .int .i64 kd, .int .i64 ps, .int .i64 at_] 31)).cell? ⟨w.heap.size, 0, none⟩ = some (.int .i64 op) := by simp
  have i1 : (w.alloc (.cells #[.int .i64 op, .int .i64 kd, .int .i64 ps, .int .i64 at_] 31)).cell? ⟨w.heap.size, 1, none⟩ = some (.int .i64 kd) := by simp
  have i2 : (w.alloc (.cells #[.int .i64 op, .int .i64 kd, .int .i64 ps, .int .i64 at_] 31)).cell? ⟨w.heap.size, 2, none⟩ = some (.int .i64 ps) := by simp
  have i3 : (w.alloc (.cells #[.int .i64 op, .int .i64 kd, .int .i64 ps, .int .i64 at_] 31)).cell? ⟨w.heap.size, 3, none⟩ = some (.int .i64 at_) := by simp
  generalize hr : (!inputB (op, kd, ps, at_)) = r
  replace hr := Lib.hid hr.symm
  have L := isleaf_any op
  by_cases h40 : op = 40
  · subst h40
    rw [show leafC 40 = true by decide] at L
    replace L := Lib.hid L
    have hl : leafB 40 = false := by decide
    have hE := Lib.hid (show true = r by rw [hr.out]; simp [inputB, hl])
    clear hr hl
    go_enter Try.func23, Try.ntmps23
    go_wp2_with fail
    refine (L.out _).mono ?_; rintro e w1 ⟨rfl, hb1⟩
    replace i0 := cell_later hb1 i0
    replace i1 := cell_later hb1 i1
    replace i2 := cell_later hb1 i2
    replace i3 := cell_later hb1 i3
    replace hw := below_more hw hb1
    clear hb1 L
    go_wp2
    go_ret
    first | exact bout_eq hE.out hw | exact ⟨by rw [← hE.out]; simp; omega, hw⟩
  · have f40 : (op == 40) = false := by simpa using h40
    have hc : leafC op = leafB op := by simp [leafC, h40]
    rw [hc] at L
    cases hl : leafB op with
    | false =>
      rw [hl] at L
      replace L := Lib.hid L
      clear hc h40
      have hE := Lib.hid (show true = r by rw [hr.out]; simp [inputB, hl])
      clear hr hl
      go_enter Try.func23, Try.ntmps23
      go_wp2_with fail
      refine (L.out _).mono ?_; rintro e w1 ⟨rfl, hb1⟩
      replace i0 := cell_later hb1 i0
      replace i1 := cell_later hb1 i1
      replace i2 := cell_later hb1 i2
      replace i3 := cell_later hb1 i3
      replace hw := below_more hw hb1
      clear hb1 L
      go_wp2
      go_ret
      first | exact bout_eq hE.out hw | exact ⟨by rw [← hE.out]; simp; omega, hw⟩
    | true =>
      rw [hl] at L
      replace L := Lib.hid L
      clear hc h40
      by_cases k1 : kd < 1
      · have hE := Lib.hid (show true = r by rw [hr.out]; simp [inputB, hl]; omega)
        clear hr hl
        go_enter Try.func23, Try.ntmps23
        go_wp2_with fail
        refine (L.out _).mono ?_; rintro e w1 ⟨rfl, hb1⟩
        replace i0 := cell_later hb1 i0
        replace i1 := cell_later hb1 i1
        replace i2 := cell_later hb1 i2
        replace i3 := cell_later hb1 i3
        replace hw := below_more hw hb1
        clear hb1 L
        go_wp2
        go_ret
        first | exact bout_eq hE.out hw | exact ⟨by rw [← hE.out]; simp; omega, hw⟩
      · by_cases k2 : kd > 4
        · have hE := Lib.hid (show true = r by rw [hr.out]; simp [inputB, hl]; omega)
          clear hr hl
          go_enter Try.func23, Try.ntmps23
          go_wp2_with fail
          refine (L.out _).mono ?_; rintro e w1 ⟨rfl, hb1⟩
          replace i0 := cell_later hb1 i0
          replace i1 := cell_later hb1 i1
          replace i2 := cell_later hb1 i2
          replace i3 := cell_later hb1 i3
          replace hw := below_more hw hb1
          clear hb1 L
          go_wp2
          go_ret
          first | exact bout_eq hE.out hw | exact ⟨by rw [← hE.out]; simp; omega, hw⟩
        · by_cases p1 : ps < 0
          · have hE := Lib.hid (show true = r by rw [hr.out]; simp [inputB, hl]; omega)
            clear hr hl
            go_enter Try.func23, Try.ntmps23
            go_wp2_with fail
            refine (L.out _).mono ?_; rintro e w1 ⟨rfl, hb1⟩
            replace i0 := cell_later hb1 i0
            replace i1 := cell_later hb1 i1
            replace i2 := cell_later hb1 i2
            replace i3 := cell_later hb1 i3
            replace hw := below_more hw hb1
            clear hb1 L
            go_wp2
            go_ret
            first | exact bout_eq hE.out hw | exact ⟨by rw [← hE.out]; simp; omega, hw⟩
          · by_cases p2 : ps ≥ 8
            · have hE := Lib.hid (show true = r by rw [hr.out]; simp [inputB, hl]; omega)
              clear hr hl
              go_enter Try.func23, Try.ntmps23
              go_wp2_with fail
              refine (L.out _).mono ?_; rintro e w1 ⟨rfl, hb1⟩
              replace i0 := cell_later hb1 i0
              replace i1 := cell_later hb1 i1
              replace i2 := cell_later hb1 i2
              replace i3 := cell_later hb1 i3
              replace hw := below_more hw hb1
              clear hb1 L
              go_wp2
              go_ret
              first | exact bout_eq hE.out hw | exact ⟨by rw [← hE.out]; simp; omega, hw⟩
            · by_cases h41 : op = 41
              · have f41 : (op == 41) = true := by simpa using h41
                by_cases p0 : ps = 0
                · have fp : (ps != 0) = false := by simp [p0]
                  by_cases a1 : at_ < -1
                  · have hE := Lib.hid (show true = r by rw [hr.out]; simp [inputB, hl]; omega)
                    clear hr hl h41 p0
                    go_enter Try.func23, Try.ntmps23
                    go_wp2_with fail
                    refine (L.out _).mono ?_; rintro e w1 ⟨rfl, hb1⟩
                    replace i0 := cell_later hb1 i0
                    replace i1 := cell_later hb1 i1
                    replace i2 := cell_later hb1 i2
                    replace i3 := cell_later hb1 i3
                    replace hw := below_more hw hb1
                    clear hb1 L
                    go_wp2
                    go_ret
                    first | exact bout_eq hE.out hw | exact ⟨by rw [← hE.out]; simp; omega, hw⟩
                  · by_cases a2 : at_ ≥ 8
                    · have hE := Lib.hid (show true = r by rw [hr.out]; simp [inputB, hl]; omega)
                      clear hr hl h41 p0
                      go_enter Try.func23, Try.ntmps23
                      go_wp2_with fail
                      refine (L.out _).mono ?_; rintro e w1 ⟨rfl, hb1⟩
                      replace i0 := cell_later hb1 i0
                      replace i1 := cell_later hb1 i1
                      replace i2 := cell_later hb1 i2
                      replace i3 := cell_later hb1 i3
                      replace hw := below_more hw hb1
                      clear hb1 L
                      go_wp2
                      go_ret
                      first | exact bout_eq hE.out hw | exact ⟨by rw [← hE.out]; simp; omega, hw⟩
                    · have f25 : (op == 25) = false := by simp [h41]
                      have hE := Lib.hid (show false = r by rw [hr.out]; simp [inputB, hl]; omega)
                      clear hr h41 hl p0
                      go_enter Try.func23, Try.ntmps23
                      go_wp2_with fail
                      refine (L.out _).mono ?_; rintro e w1 ⟨rfl, hb1⟩
                      replace i0 := cell_later hb1 i0
                      replace i1 := cell_later hb1 i1
                      replace i2 := cell_later hb1 i2
                      replace i3 := cell_later hb1 i3
                      replace hw := below_more hw hb1
                      clear hb1 L
                      go_wp2
                      go_ret
                      first | exact bout_eq hE.out hw | exact ⟨by rw [← hE.out]; simp; omega, hw⟩
                · have fp : (ps != 0) = true := by simpa using p0
                  have hE := Lib.hid (show true = r by rw [hr.out]; simp [inputB, hl]; omega)
                  clear hr p0 hl h41
                  go_enter Try.func23, Try.ntmps23
                  go_wp2_with fail
                  refine (L.out _).mono ?_; rintro e w1 ⟨rfl, hb1⟩
                  replace i0 := cell_later hb1 i0
                  replace i1 := cell_later hb1 i1
                  replace i2 := cell_later hb1 i2
                  replace i3 := cell_later hb1 i3
                  replace hw := below_more hw hb1
                  clear hb1 L
                  go_wp2
                  go_ret
                  first | exact bout_eq hE.out hw | exact ⟨by rw [← hE.out]; simp; omega, hw⟩
              · have f41 : (op == 41) = false := by simpa using h41
                by_cases a1 : at_ < -1
                · have hE := Lib.hid (show true = r by rw [hr.out]; simp [inputB, hl]; omega)
                  clear hr hl
                  go_enter Try.func23, Try.ntmps23
                  go_wp2_with fail
                  refine (L.out _).mono ?_; rintro e w1 ⟨rfl, hb1⟩
                  replace i0 := cell_later hb1 i0
                  replace i1 := cell_later hb1 i1
                  replace i2 := cell_later hb1 i2
                  replace i3 := cell_later hb1 i3
                  replace hw := below_more hw hb1
                  clear hb1 L
                  go_wp2
                  go_ret
                  first | exact bout_eq hE.out hw | exact ⟨by rw [← hE.out]; simp; omega, hw⟩
                · by_cases a2 : at_ ≥ 8
                  · have hE := Lib.hid (show true = r by rw [hr.out]; simp [inputB, hl]; omega)
                    clear hr hl
                    go_enter Try.func23, Try.ntmps23
                    go_wp2_with fail
                    refine (L.out _).mono ?_; rintro e w1 ⟨rfl, hb1⟩
                    replace i0 := cell_later hb1 i0
                    replace i1 := cell_later hb1 i1
                    replace i2 := cell_later hb1 i2
                    replace i3 := cell_later hb1 i3
                    replace hw := below_more hw hb1
                    clear hb1 L
                    go_wp2
                    go_ret
                    first | exact bout_eq hE.out hw | exact ⟨by rw [← hE.out]; simp; omega, hw⟩
                  · by_cases h25 : op = 25
                    · have f25 : (op == 25) = true := by simpa using h25
                      by_cases a0 : at_ = 0
                      · have fa : (at_ != 0) = false := by simp [a0]
                        have hE := Lib.hid (show false = r by rw [hr.out]; simp [inputB, hl]; omega)
                        clear hr hl h25 a0
                        go_enter Try.func23, Try.ntmps23
                        go_wp2_with fail
                        refine (L.out _).mono ?_; rintro e w1 ⟨rfl, hb1⟩
                        replace i0 := cell_later hb1 i0
                        replace i1 := cell_later hb1 i1
                        replace i2 := cell_later hb1 i2
                        replace i3 := cell_later hb1 i3
                        replace hw := below_more hw hb1
                        clear hb1 L
                        go_wp2
                        go_ret
                        first | exact bout_eq hE.out hw | exact ⟨by rw [← hE.out]; simp; omega, hw⟩
                      · have fa : (at_ != 0) = true := by simpa using a0
                        have hE := Lib.hid (show true = r by rw [hr.out]; simp [inputB, hl]; omega)
                        clear hr a0 hl h25
                        go_enter Try.func23, Try.ntmps23
                        go_wp2_with fail
                        refine (L.out _).mono ?_; rintro e w1 ⟨rfl, hb1⟩
                        replace i0 := cell_later hb1 i0
                        replace i1 := cell_later hb1 i1
                        replace i2 := cell_later hb1 i2
                        replace i3 := cell_later hb1 i3
                        replace hw := below_more hw hb1
                        clear hb1 L
                        go_wp2
                        go_ret
                        first | exact bout_eq hE.out hw | exact ⟨by rw [← hE.out]; simp; omega, hw⟩
                    · have f25 : (op == 25) = false := by simpa using h25
                      have hE := Lib.hid (show false = r by rw [hr.out]; simp [inputB, hl]; omega)
                      clear hr h25 hl
                      go_enter Try.func23, Try.ntmps23
                      go_wp2_with fail
                      refine (L.out _).mono ?_; rintro e w1 ⟨rfl, hb1⟩
                      replace i0 := cell_later hb1 i0
                      replace i1 := cell_later hb1 i1
                      replace i2 := cell_later hb1 i2
                      replace i3 := cell_later hb1 i3
                      replace hw := below_more hw hb1
                      clear hb1 L
                      go_wp2
                      go_ret
                      first | exact bout_eq hE.out hw | exact ⟨by rw [← hE.out]; simp; omega, hw⟩

theorem neV (k l b c : Int) (w : World) : (binOp .neq 34 (.agg #[.int .i64 k, .int .u64 b]) (.agg #[.int .i64 l, .int .u64 c])).run Try.prog w = .ok (.bool (!decide (k = l ∧ b = c))) w := by
  by_cases h1 : k = l <;> by_cases h2 : b = c <;> simp [go_sem, h1, h2]
set_option maxHeartbeats 1000000 in
theorem isloose_any (k : Int) (b : Nat) (w : World) (hb2 : b < 18446744073709551616) : Calls Try.prog 25 #[.agg #[.int .i64 k, .int .u64 (b : Int)]] w (BOut (!cleanB (k, b)) w) := by
  have hw := m1 w (.cells #[.int .i64 k, .int .u64 (b : Int)] 34)
  have x0 : (w.alloc (.cells #[.int .i64 k, .int .u64 (b : Int)] 34)).cell? ⟨w.heap.size, 0, none⟩ = some (.int .i64 k) := by simp
  have x1 : (w.alloc (.cells #[.int .i64 k, .int .u64 (b : Int)] 34)).cell? ⟨w.heap.size, 1, none⟩ = some (.int .u64 (b : Int)) := by simp
  have hE : (!decide (k = clK k b ∧ (b : Int) = ((clB k b : Nat) : Int))) = !cleanB (k, b) := by
    unfold cleanB clV
    simp only [Prod.mk.injEq]
    congr 2
    exact propext ⟨fun h => ⟨h.1.symm, by omega⟩, fun h => ⟨h.1.symm, by omega⟩⟩
  rw [← hE]
  clear hE
  have hCl := Lib.hid (fun u => clean_any k b u hb2)
  generalize clK k b = kk at *
  generalize clB k b = bb at *
  go_enter Try.func25, Try.ntmps25
  go_upto_region 1 with (fail)
  generalize w.alloc (.cells #[.int .i64 k, .int .u64 (b : Int)] 34) = u0 at *
  have KD := G.keepsD_true []
  refine G.region_words (fun w' => w'.cell? ⟨w.heap.size, 0, none⟩ = some (.int .i64 k) ∧ w'.cell? ⟨w.heap.size, 1, none⟩ = some (.int .u64 (b : Int)) ∧ Below w.heap.size w w') [G.isW (.agg #[.int .i64 k, .int .u64 (b : Int)]), G.isW (.agg #[.int .i64 k, .int .u64 (b : Int)]), G.isW (.agg #[.int .i64 kk, .int .u64 (bb : Int)]), G.isW (.bool (!decide (k = kk ∧ (b : Int) = (bb : Int)))), G.isW (.bool (!decide (k = kk ∧ (b : Int) = (bb : Int))))] (by kernel_rfl) (by repeat' (first | exact G.monoL_nil | exact G.is_mono _ | exact G.any_mono | refine G.monoL_cons ?_ ?_)) (by kernel_rfl) (by kernel_rfl) (fun _ _ h hb => ⟨cell_later hb h.1, cell_later hb h.2.1, below_more h.2.2 hb⟩) ⟨x0, x1, hw.drew⟩ ?_ ?_
  · intro KC
    refine G.stepsL_cons (fun a u hc hdd hd hk hdep => ?_) ?_
    ·
      have d1 : (a.tmps[1]?).getD undef = (.pointer (some ⟨w.heap.size, 0, none⟩)) := hk 1 (by kernel_rfl)
      refine G.step_val KC KD hc hdd rfl (.agg #[.int .i64 k, .int .u64 (b : Int)]) u (G.wanted_plain rfl) ?_ rfl (Below.refl _ _)
      obtain ⟨s0, s1, -⟩ := hc
      first | (go_simp; done) | rfl | (simp [go_sem, *]; done)
    refine G.stepsL_cons (fun a u hc hdd hd hk hdep => ?_) ?_
    ·
      have d1 : (a.tmps[1]?).getD undef = (.pointer (some ⟨w.heap.size, 0, none⟩)) := hk 1 (by kernel_rfl)
      refine G.step_val KC KD hc hdd rfl (.agg #[.int .i64 k, .int .u64 (b : Int)]) u (G.wanted_plain rfl) ?_ rfl (Below.refl _ _)
      obtain ⟨s0, s1, -⟩ := hc
      first | (go_simp; done) | rfl | (simp [go_sem, *]; done)
    refine G.stepsL_cons (fun a u hc hdd hd hk hdep => ?_) ?_
    ·
      have d4 : (a.tmps[4]?).getD undef = (.agg #[.int .i64 k, .int .u64 (b : Int)]) := hdep ⟨1, .data⟩ (by simp) rfl
      refine G.step_call KC KD hc hdd rfl 42 #[.agg #[.int .i64 k, .int .u64 (b : Int)]] (G.wanted_plain rfl) (by first | (go_simp; done) | rfl) ?_
      exact (hCl.out u).mono (by rintro e w' ⟨rfl, hb⟩; exact ⟨_, rfl, rfl, hb⟩)
    refine G.stepsL_cons (fun a u hc hdd hd hk hdep => ?_) ?_
    ·
      have d3 : (a.tmps[3]?).getD undef = (.agg #[.int .i64 k, .int .u64 (b : Int)]) := hdep ⟨0, .data⟩ (by simp) rfl
      have d5 : (a.tmps[5]?).getD undef = (.agg #[.int .i64 kk, .int .u64 (bb : Int)]) := hdep ⟨2, .data⟩ (by simp) rfl
      refine G.step_val KC KD hc hdd rfl (.bool (!decide (k = kk ∧ (b : Int) = (bb : Int)))) u (G.wanted_plain rfl) ?_ rfl (Below.refl _ _)
      go_simp
      by_cases e1 : k = kk <;> by_cases e2 : (b : Int) = (bb : Int) <;> simp [e1, e2]
    refine G.stepsL_cons (fun a u hc hdd hd hk hdep => ?_) ?_
    ·
      have d6 : (a.tmps[6]?).getD undef = (.bool (!decide (k = kk ∧ (b : Int) = (bb : Int)))) := hdep ⟨3, .data⟩ (by simp) rfl
      refine G.step_val KC KD hc hdd rfl (.bool (!decide (k = kk ∧ (b : Int) = (bb : Int)))) u (G.wanted_plain rfl) ?_ rfl (Below.refl _ _)
      first | (go_simp; done) | rfl | (simp [go_sem, *]; done)
    exact G.stepsL_nil
  intro vs' wN hN hh
  have e4 : vs' 4 = (.bool (!decide (k = kk ∧ (b : Int) = (bb : Int)))) := by
    obtain ⟨-, -, -, -, eX, -⟩ := hh
    exact eX
  clear hh
  set_option maxRecDepth 100000 in simp only [List.take_succ_cons, List.take_zero, putAll, Act.put, List.setIfInBounds_toArray, List.set_cons_zero, List.set_cons_succ, Nat.reduceAdd, e4]
  obtain ⟨-, -, hB⟩ := hN
  clear hw x0 x1 e4
  go_wp2
  go_ret
  exact ⟨rfl, hB⟩

set_option maxHeartbeats 1000000 in
theorem inp_idx (A : Option Addr) (cap : Nat) (l : List I4) (w : World) (h : QuadAt w A l) (hl : l.length ≤ 9223372036854775806) :
    Calls Try.prog 39 #[.slice A l.length cap, .func (.func 23) #[] #[]] w fun e w' => ∃ k : Int, e = .returned (.int .i64 k) ∧ decide (k ≥ 0) = l.any (fun x => !inputB x) ∧ Below w.heap.size w w' := by
  go_enter Try.func39, Try.ntmps39
  replace h := Lib.hid h
  go_wp2_with fail
  go_loopw [8] (fun i wr => ∃ k : Nat, k ≤ l.length ∧ i = .int .i64 (k : Int) ∧ (l.take k).any (fun x => !inputB x) = false ∧ Below w.heap.size w wr) (fun i _ => l.length - (intOf i).toNat)
  case atStart => exact ⟨0, Nat.zero_le _, rfl, rfl, Below.refl _ _⟩
  case round =>
    obtain ⟨k, hk, rfl, hall, hB⟩ := hrel
    replace hall := Lib.hid hall
    by_cases hlt : k < l.length
    · obtain ⟨b, off, rfl, hc⟩ := h.out (by omega)
      have hz := List.getElem?_eq_getElem hlt
      obtain ⟨q0, q1, q2, q3⟩ := hc k _ hz
      replace q0 := cell_later hB q0
      replace q1 := cell_later hB q1
      replace q2 := cell_later hB q2
      replace q3 := cell_later hB q3
      clear hc
      have hstep : (!inputB l[k]) = false → (l.take (k + 1)).any (fun x => !inputB x) = false := fun hx => by
        rw [List.take_add_one, hz, List.any_append, hall.out]; simpa using hx
      have hyes : (!inputB l[k]) = true → l.any (fun x => !inputB x) = true := fun hx => by
        rw [List.any_eq_true]
        exact ⟨l[k], List.getElem_mem hlt, hx⟩
      have hBad := isbad_any l[k].1 l[k].2.1 l[k].2.2.1 l[k].2.2.2
      have k0 : (0 : Int) ≤ (k : Int) := by omega
      have k1 : (k : Int) < (l.length : Int) := by omega
      have k3 := Lib.hid hlt
      clear hz
      generalize l[k] = x at *
      generalize (!inputB x) = y at *
      replace hBad := Lib.hid hBad
      replace hB := Lib.hid hB
      cases y with
      | false =>
        replace hstep := Lib.hid (hstep rfl)
        clear hyes hk
        go_wp2_with fail
        refine (hBad.out _).mono ?_; rintro e w2 ⟨rfl, hb1⟩
        have hB2 := below_more hB.out hb1
        clear hb1
        go_wp2
        go_roundw
        case rel => exact ⟨k + 1, by have := k3.out; omega, by go_num, hstep.out, hB2⟩
        case measure => have := k3.out; simp [intOf]; omega
      | true =>
        replace hyes := Lib.hid (hyes rfl)
        clear hstep hk
        go_wp2_with fail
        refine (hBad.out _).mono ?_; rintro e w2 ⟨rfl, hb1⟩
        have hB2 := below_more hB.out hb1
        clear hb1
        go_wp2
        go_ret
        exact ⟨_, rfl, by rw [hyes.out]; simp, hB2⟩
    · obtain rfl : k = l.length := by omega
      have hall := hall.out
      rw [List.take_length] at hall
      replace hall := Lib.hid hall
      go_wp2
      go_ret
      exact ⟨_, rfl, by rw [hall.out]; decide, hB⟩
theorem inp_has (A : Option Addr) (cap : Nat) (l : List I4) (w : World) (h : QuadAt w A l) (hl : l.length ≤ 9223372036854775806) :
    Calls Try.prog 22 #[.slice A l.length cap, .func (.func 23) #[] #[]] w (BOut (l.any fun x => !inputB x) w) := by
  have I := Lib.hid (inp_idx A cap l w h hl)
  go_enter Try.func22, Try.ntmps22
  go_wp2_with fail
  refine I.out.mono ?_; rintro e w1 ⟨k, rfl, hk, hb1⟩
  replace hk := Lib.hid hk
  go_wp2
  go_ret
  exact bout_eq hk.out hb1

set_option maxHeartbeats 1000000 in
theorem con_idx (A : Option Addr) (cap : Nat) (l : List VN) (w : World) (h : RowV w A l.length l) (hl : l.length ≤ 9223372036854775806) :
    Calls Try.prog 41 #[.slice A l.length cap, .func (.func 25) #[] #[]] w fun e w' => ∃ k : Int, e = .returned (.int .i64 k) ∧ decide (k ≥ 0) = l.any (fun x => !cleanB x) ∧ Below w.heap.size w w' := by
  go_enter Try.func41, Try.ntmps41
  replace h := Lib.hid h
  go_wp2_with fail
  go_loopw [8] (fun i wr => ∃ k : Nat, k ≤ l.length ∧ i = .int .i64 (k : Int) ∧ (l.take k).any (fun x => !cleanB x) = false ∧ Below w.heap.size w wr) (fun i _ => l.length - (intOf i).toNat)
  case atStart => exact ⟨0, Nat.zero_le _, rfl, rfl, Below.refl _ _⟩
  case round =>
    obtain ⟨k, hk, rfl, hall, hB⟩ := hrel
    replace hall := Lib.hid hall
    by_cases hlt : k < l.length
    · obtain ⟨b, off, rfl, hc⟩ := h.out.2.2 (by omega)
      have hz := List.getElem?_eq_getElem hlt
      obtain ⟨q0, q1⟩ := hc k l[k].1 l[k].2 hz
      replace q0 := cell_later hB q0
      replace q1 := cell_later hB q1
      clear hc
      have hstep : (!cleanB l[k]) = false → (l.take (k + 1)).any (fun x => !cleanB x) = false := fun hx => by
        rw [List.take_add_one, hz, List.any_append, hall.out]; simpa using hx
      have hyes : (!cleanB l[k]) = true → l.any (fun x => !cleanB x) = true := fun hx => by
        rw [List.any_eq_true]
        exact ⟨l[k], List.getElem_mem hlt, hx⟩
      have hBad := fun u => isloose_any l[k].1 l[k].2 u (h.out.2.1 _ (List.getElem_mem hlt))
      have k0 : (0 : Int) ≤ (k : Int) := by omega
      have k1 : (k : Int) < (l.length : Int) := by omega
      have k3 := Lib.hid hlt
      clear hz
      generalize l[k] = x at *
      generalize (!cleanB x) = y at *
      replace hBad := Lib.hid hBad
      replace hB := Lib.hid hB
      cases y with
      | false =>
        replace hstep := Lib.hid (hstep rfl)
        clear hyes hk
        go_wp2_with fail
        refine (hBad.out _).mono ?_; rintro e w2 ⟨rfl, hb1⟩
        have hB2 := below_more hB.out hb1
        clear hb1
        go_wp2
        go_roundw
        case rel => exact ⟨k + 1, by have := k3.out; omega, by go_num, hstep.out, hB2⟩
        case measure => have := k3.out; simp [intOf]; omega
      | true =>
        replace hyes := Lib.hid (hyes rfl)
        clear hstep hk
        go_wp2_with fail
        refine (hBad.out _).mono ?_; rintro e w2 ⟨rfl, hb1⟩
        have hB2 := below_more hB.out hb1
        clear hb1
        go_wp2
        go_ret
        exact ⟨_, rfl, by rw [hyes.out]; simp, hB2⟩
    · obtain rfl : k = l.length := by omega
      have hall := hall.out
      rw [List.take_length] at hall
      replace hall := Lib.hid hall
      go_wp2
      go_ret
      exact ⟨_, rfl, by rw [hall.out]; decide, hB⟩
theorem con_has (A : Option Addr) (cap : Nat) (l : List VN) (w : World) (h : RowV w A l.length l) (hl : l.length ≤ 9223372036854775806) :
    Calls Try.prog 24 #[.slice A l.length cap, .func (.func 25) #[] #[]] w (BOut (l.any fun x => !cleanB x) w) := by
  have I := Lib.hid (con_idx A cap l w h hl)
  go_enter Try.func24, Try.ntmps24
  go_wp2_with fail
  refine I.out.mono ?_; rintro e w1 ⟨k, rfl, hk, hb1⟩
  replace hk := Lib.hid hk
  go_wp2
  go_ret
  exact bout_eq hk.out hb1

set_option maxHeartbeats 4000000 in
theorem vgood_any (c : CodeP) (v : CV) (w : World) (hc : CodeIn w c v) : Calls Try.prog 11 #[codeV c v] w (BOut (goodC c) w) := by
  have hw := m1 w (codeO c v)
  have hcode : CodeAt (w.alloc (codeO c v)) w.heap.size c v := CodeAt.new w c v
  unfold codeO at hw hcode
  obtain ⟨s0, s1, s2, s3, s4⟩ := hcode
  have hG := fun u h1 h2 => goodlist_any c v u h1 h2
  unfold codeV at hG
  show Calls _ _ #[.agg #[.int .i64 c.regs, .int .i64 c.slots, .slice v.xA c.ins.length v.xC, .slice v.cA c.cs.length v.cC, .slice v.lA c.list.length v.lC]] _ _
  generalize hr : goodC c = r
  have hE := Lib.hid hr.symm
  clear hr
  by_cases g0 : c.regs < 1
  · have hE2 := Lib.hid (show false = r by rw [hE.out]; simp [goodC, sizesB]; omega)
    clear hE 
    go_enter Try.func11, Try.ntmps11
    go_upto_region 1 with (fail)
    generalize w.alloc (.cells #[.int .i64 c.regs, .int .i64 c.slots, .slice v.xA c.ins.length v.xC, .slice v.cA c.cs.length v.cC, .slice v.lA c.list.length v.lC] 26) = u at *
    go_wp2
    go_ret
    exact bout_eq hE2.out hw
  by_cases g1 : c.regs > 1024
  · have hE2 := Lib.hid (show false = r by rw [hE.out]; simp [goodC, sizesB]; omega)
    clear hE 
    go_enter Try.func11, Try.ntmps11
    go_upto_region 1 with (fail)
    generalize w.alloc (.cells #[.int .i64 c.regs, .int .i64 c.slots, .slice v.xA c.ins.length v.xC, .slice v.cA c.cs.length v.cC, .slice v.lA c.list.length v.lC] 26) = u at *
    go_wp2
    go_ret
    exact bout_eq hE2.out hw
  by_cases g2 : c.slots < 0
  · have hE2 := Lib.hid (show false = r by rw [hE.out]; simp [goodC, sizesB]; omega)
    clear hE 
    go_enter Try.func11, Try.ntmps11
    go_upto_region 1 with (fail)
    generalize w.alloc (.cells #[.int .i64 c.regs, .int .i64 c.slots, .slice v.xA c.ins.length v.xC, .slice v.cA c.cs.length v.cC, .slice v.lA c.list.length v.lC] 26) = u at *
    go_wp2
    go_ret
    exact bout_eq hE2.out hw
  by_cases g3 : c.slots > 256
  · have hE2 := Lib.hid (show false = r by rw [hE.out]; simp [goodC, sizesB]; omega)
    clear hE 
    go_enter Try.func11, Try.ntmps11
    go_upto_region 1 with (fail)
    generalize w.alloc (.cells #[.int .i64 c.regs, .int .i64 c.slots, .slice v.xA c.ins.length v.xC, .slice v.cA c.cs.length v.cC, .slice v.lA c.list.length v.lC] 26) = u at *
    go_wp2
    go_ret
    exact bout_eq hE2.out hw
  by_cases g4 : (c.list.length : Int) < 1
  · have hE2 := Lib.hid (show false = r by rw [hE.out]; simp [goodC, sizesB]; omega)
    clear hE 
    go_enter Try.func11, Try.ntmps11
    go_upto_region 1 with (fail)
    generalize w.alloc (.cells #[.int .i64 c.regs, .int .i64 c.slots, .slice v.xA c.ins.length v.xC, .slice v.cA c.cs.length v.cC, .slice v.lA c.list.length v.lC] 26) = u at *
    go_wp2
    go_ret
    exact bout_eq hE2.out hw
  by_cases g5 : (c.list.length : Int) > 1024
  · have hE2 := Lib.hid (show false = r by rw [hE.out]; simp [goodC, sizesB]; omega)
    clear hE 
    go_enter Try.func11, Try.ntmps11
    go_upto_region 1 with (fail)
    generalize w.alloc (.cells #[.int .i64 c.regs, .int .i64 c.slots, .slice v.xA c.ins.length v.xC, .slice v.cA c.cs.length v.cC, .slice v.lA c.list.length v.lC] 26) = u at *
    go_wp2
    go_ret
    exact bout_eq hE2.out hw
  have hs : sizesB c = true := by simp [sizesB]; omega
  have hE2 := Lib.hid (show r = (goodL c noneW c.list && !(c.ins.any fun x => !inputB x) && !(c.cs.any fun x => !cleanB x)) by rw [hE.out]; unfold goodC; rw [hs, all_not c.ins inputB, all_not c.cs cleanB]; rfl)
  replace hG := Lib.hid (fun u h1 => hG u h1 hs)
  have szI := hc.szI
  have szC := hc.szC
  have hI := Lib.hid (fun u (h : CodeIn u c v) => inp_has v.xA v.xC c.ins u h.ins (by omega))
  have hC := Lib.hid (fun u (h : CodeIn u c v) => con_has v.cA v.cC c.cs u h.cs (by omega))
  replace hc := hc.later hw
  clear hE hs szI szC
  generalize goodL c noneW c.list = bG at *
  generalize (c.ins.any fun x => !inputB x) = bI at *
  generalize (c.cs.any fun x => !cleanB x) = bC at *
  cases bG with
  | false =>
    go_enter Try.func11, Try.ntmps11
    go_upto_region 1 with (fail)
    generalize w.alloc (.cells #[.int .i64 c.regs, .int .i64 c.slots, .slice v.xA c.ins.length v.xC, .slice v.cA c.cs.length v.cC, .slice v.lA c.list.length v.lC] 26) = u at *
    go_wp2_with fail
    refine (hG.out _ hc).mono ?_; rintro e w2 ⟨rfl, hb1⟩
    replace s2 := cell_later hb1 s2
    replace s3 := cell_later hb1 s3
    replace hw := below_more hw hb1
    replace hc := hc.later hb1
    clear hb1
    go_wp2
    go_ret
    exact bout_eq (by rw [hE2.out]; simp) hw
  | true =>
    cases bI with
    | true =>
      go_enter Try.func11, Try.ntmps11
      go_upto_region 1 with (fail)
      generalize w.alloc (.cells #[.int .i64 c.regs, .int .i64 c.slots, .slice v.xA c.ins.length v.xC, .slice v.cA c.cs.length v.cC, .slice v.lA c.list.length v.lC] 26) = u at *
      go_wp2_with fail
      refine (hG.out _ hc).mono ?_; rintro e w2 ⟨rfl, hb1⟩
      replace s2 := cell_later hb1 s2
      replace s3 := cell_later hb1 s3
      replace hw := below_more hw hb1
      replace hc := hc.later hb1
      clear hb1
      go_wp2_with fail
      refine (hI.out _ hc).mono ?_; rintro e w3 ⟨rfl, hb1⟩
      replace s2 := cell_later hb1 s2
      replace s3 := cell_later hb1 s3
      replace hw := below_more hw hb1
      replace hc := hc.later hb1
      clear hb1
      go_wp2
      go_ret
      exact bout_eq (by rw [hE2.out]; simp) hw
    | false =>
      cases bC with
      | true =>
        go_enter Try.func11, Try.ntmps11
        go_upto_region 1 with (fail)
        generalize w.alloc (.cells #[.int .i64 c.regs, .int .i64 c.slots, .slice v.xA c.ins.length v.xC, .slice v.cA c.cs.length v.cC, .slice v.lA c.list.length v.lC] 26) = u at *
        go_wp2_with fail
        refine (hG.out _ hc).mono ?_; rintro e w2 ⟨rfl, hb1⟩
        replace s2 := cell_later hb1 s2
        replace s3 := cell_later hb1 s3
        replace hw := below_more hw hb1
        replace hc := hc.later hb1
        clear hb1
        go_wp2_with fail
        refine (hI.out _ hc).mono ?_; rintro e w3 ⟨rfl, hb1⟩
        replace s2 := cell_later hb1 s2
        replace s3 := cell_later hb1 s3
        replace hw := below_more hw hb1
        replace hc := hc.later hb1
        clear hb1
        go_wp2_with fail
        refine (hC.out _ hc).mono ?_; rintro e w4 ⟨rfl, hb1⟩
        replace s2 := cell_later hb1 s2
        replace s3 := cell_later hb1 s3
        replace hw := below_more hw hb1
        replace hc := hc.later hb1
        clear hb1
        go_wp2
        go_ret
        exact bout_eq (by rw [hE2.out]; simp) hw
      | false =>
        go_enter Try.func11, Try.ntmps11
        go_upto_region 1 with (fail)
        generalize w.alloc (.cells #[.int .i64 c.regs, .int .i64 c.slots, .slice v.xA c.ins.length v.xC, .slice v.cA c.cs.length v.cC, .slice v.lA c.list.length v.lC] 26) = u at *
        go_wp2_with fail
        refine (hG.out _ hc).mono ?_; rintro e w2 ⟨rfl, hb1⟩
        replace s2 := cell_later hb1 s2
        replace s3 := cell_later hb1 s3
        replace hw := below_more hw hb1
        replace hc := hc.later hb1
        clear hb1
        go_wp2_with fail
        refine (hI.out _ hc).mono ?_; rintro e w3 ⟨rfl, hb1⟩
        replace s2 := cell_later hb1 s2
        replace s3 := cell_later hb1 s3
        replace hw := below_more hw hb1
        replace hc := hc.later hb1
        clear hb1
        go_wp2_with fail
        refine (hC.out _ hc).mono ?_; rintro e w4 ⟨rfl, hb1⟩
        replace s2 := cell_later hb1 s2
        replace s3 := cell_later hb1 s3
        replace hw := below_more hw hb1
        replace hc := hc.later hb1
        clear hb1
        go_wp2
        go_ret
        exact bout_eq (by rw [hE2.out]; simp) hw
end Go.Proofs.Yteniipolcdnmfaa
