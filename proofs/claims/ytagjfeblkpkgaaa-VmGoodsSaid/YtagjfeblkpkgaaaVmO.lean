/- The document's Leaf, Input, Reads, as contracts. -/
import Derived.Test.YtagjfeblkpkgaaaVmF
import Derived.Test.YtagjfeblkpkgaaaVmJ
namespace Go.Proofs.Ytagjfeblkpkgaaa
open Go.ChangeShapes Go.WideShapes Go.ChangeAt Go.RowKit Go.Fl
set_option linter.unusedVariables false
set_option linter.unusedSimpArgs false
theorem rleaf_any (op : Int) (w : World) : Calls Try.prog 50 #[.int .i64 op] w (BOut (leafB op) w) := by
  by_cases h41 : op = 41
  · subst h41
    have hE := Lib.hid (show true = leafB 41 by decide)
    go_enter Try.func50, Try.ntmps50
    go_wp2
    go_ret
    first | exact bout_eq hE.out (Below.refl _ _) | exact ⟨by rw [← hE.out]; simp; omega, Below.refl _ _⟩
  by_cases h42 : op = 42
  · subst h42
    have hE := Lib.hid (show true = leafB 42 by decide)
    go_enter Try.func50, Try.ntmps50
    go_wp2
    go_ret
    first | exact bout_eq hE.out (Below.refl _ _) | exact ⟨by rw [← hE.out]; simp; omega, Below.refl _ _⟩
  have f41 : (op == 41) = false := by simpa using h41
  have f42 : (op == 42) = false := by simpa using h42
  by_cases h25 : op ≥ 25
  · by_cases h31 : op ≤ 31
    · have hE := Lib.hid (show true = leafB op by simp [leafB]; omega)
      clear h41 h42
      go_enter Try.func50, Try.ntmps50
      go_wp2
      go_ret
      first | exact bout_eq hE.out (Below.refl _ _) | exact ⟨by rw [← hE.out]; simp; omega, Below.refl _ _⟩
    · have hE := Lib.hid (show false = leafB op by simp [leafB]; omega)
      clear h41 h42
      go_enter Try.func50, Try.ntmps50
      go_wp2
      go_ret
      first | exact bout_eq hE.out (Below.refl _ _) | exact ⟨by rw [← hE.out]; simp; omega, Below.refl _ _⟩
  · have hE := Lib.hid (show false = leafB op by simp [leafB]; omega)
    clear h41 h42
    go_enter Try.func50, Try.ntmps50
    go_wp2
    go_ret
    first | exact bout_eq hE.out (Below.refl _ _) | exact ⟨by rw [← hE.out]; simp; omega, Below.refl _ _⟩

set_option maxHeartbeats 8000000 in
theorem rinput_any (op kd ps at_ : Int) (w : World) : Calls Try.prog 26 #[.agg #[.int .i64 op, .int .i64 kd, .int .i64 ps, .int .i64 at_]] w (BOut (inputB (op, kd, ps, at_)) w) := by
  have hw := m1 w (.cells #[.int .i64 op, .int .i64 kd, .int .i64 ps, .int .i64 at_] 43)
  have i0 : (w.alloc (.cells #[.int .i64 op, .int .i64 kd, .int .i64 ps, .int .i64 at_] 43)).cell? ⟨w.heap.size, 0, none⟩ = some (.int .i64 op) := by simp
  have i1 : (w.alloc (.cells #[.int .i64 op, .int .i64 kd, .int .i64 ps, .int .i64 at_] 43)).cell? ⟨w.heap.size, 1, none⟩ = some (.int .i64 kd) := by simp
  have i2 : (w.alloc (.cells #[.int .i64 op, .int .i64 kd, .int .i64 ps, .int .i64 at_] 43)).cell? ⟨w.heap.size, 2, none⟩ = some (.int .i64 ps) := by simp
  have i3 : (w.alloc (.cells #[.int .i64 op, .int .i64 kd, .int .i64 ps, .int .i64 at_] 43)).cell? ⟨w.heap.size, 3, none⟩ = some (.int .i64 at_) := by simp
  generalize hr : inputB (op, kd, ps, at_) = r
  replace hr := Lib.hid hr.symm
  have L := rleaf_any op
  cases hl : leafB op with
  | false =>
    rw [hl] at L
    replace L := Lib.hid L
    have hE := Lib.hid (show false = r by rw [hr.out]; simp [inputB, hl]; try omega)
    clear hr hl
    go_enter Try.func26, Try.ntmps26
    go_wp2_with fail
    refine (L.out _).mono ?_; rintro e w1 ⟨rfl, hb1⟩
    replace i0 := cell_later hb1 i0
    replace i1 := cell_later hb1 i1
    replace i2 := cell_later hb1 i2
    replace i3 := cell_later hb1 i3
    replace hw := below_more hw hb1
    clear hb1 L
    go_wp2
    go_ret
    first | exact bout_eq hE.out hw | exact ⟨by rw [← hE.out]; simp; omega, hw⟩
  | true =>
    rw [hl] at L
    replace L := Lib.hid L
    by_cases k1 : kd ≥ 1
    · by_cases k2 : kd ≤ 4
      · by_cases p1 : ps ≥ 0
        · by_cases p2 : ps ≤ 7
          · by_cases a1 : at_ ≥ -1
            · by_cases a2 : at_ ≤ 7
              · by_cases h41 : op = 41
                · have f41 : (op != 41) = false := by simp [h41]
                  by_cases p0 : ps = 0
                  · have fp : (ps == 0) = true := by simp [p0]
                    have h25 : ¬ op = 25 := by omega
                    have f25 : (op != 25) = true := by simpa using h25
                    have hE := Lib.hid (show true = r by rw [hr.out]; simp [inputB, hl]; try omega)
                    clear hr hl h25 h41 p0
                    go_enter Try.func26, Try.ntmps26
                    go_wp2_with fail
                    refine (L.out _).mono ?_; rintro e w1 ⟨rfl, hb1⟩
                    replace i0 := cell_later hb1 i0
                    replace i1 := cell_later hb1 i1
                    replace i2 := cell_later hb1 i2
                    replace i3 := cell_later hb1 i3
                    replace hw := below_more hw hb1
                    clear hb1 L
                    go_wp2
                    go_ret
                    first | exact bout_eq hE.out hw | exact ⟨by rw [← hE.out]; simp; omega, hw⟩
                  · have fp : (ps == 0) = false := by simpa using p0
                    have hE := Lib.hid (show false = r by rw [hr.out]; simp [inputB, hl]; try omega)
                    clear hr hl h41 p0
                    go_enter Try.func26, Try.ntmps26
                    go_wp2_with fail
                    refine (L.out _).mono ?_; rintro e w1 ⟨rfl, hb1⟩
                    replace i0 := cell_later hb1 i0
                    replace i1 := cell_later hb1 i1
                    replace i2 := cell_later hb1 i2
                    replace i3 := cell_later hb1 i3
                    replace hw := below_more hw hb1
                    clear hb1 L
                    go_wp2
                    go_ret
                    first | exact bout_eq hE.out hw | exact ⟨by rw [← hE.out]; simp; omega, hw⟩
                · have f41 : (op != 41) = true := by simpa using h41
                  by_cases h25 : op = 25
                  · have f25 : (op != 25) = false := by simp [h25]
                    by_cases a0 : at_ = 0
                    · have fa : (at_ == 0) = true := by simp [a0]
                      have hE := Lib.hid (show true = r by rw [hr.out]; simp [inputB, hl]; try omega)
                      clear hr hl h25 a0 h41
                      go_enter Try.func26, Try.ntmps26
                      go_wp2_with fail
                      refine (L.out _).mono ?_; rintro e w1 ⟨rfl, hb1⟩
                      replace i0 := cell_later hb1 i0
                      replace i1 := cell_later hb1 i1
                      replace i2 := cell_later hb1 i2
                      replace i3 := cell_later hb1 i3
                      replace hw := below_more hw hb1
                      clear hb1 L
                      go_wp2
                      go_ret
                      first | exact bout_eq hE.out hw | exact ⟨by rw [← hE.out]; simp; omega, hw⟩
                    · have fa : (at_ == 0) = false := by simpa using a0
                      have hE := Lib.hid (show false = r by rw [hr.out]; simp [inputB, hl]; try omega)
                      clear hr a0 hl h25 h41
                      go_enter Try.func26, Try.ntmps26
                      go_wp2_with fail
                      refine (L.out _).mono ?_; rintro e w1 ⟨rfl, hb1⟩
                      replace i0 := cell_later hb1 i0
                      replace i1 := cell_later hb1 i1
                      replace i2 := cell_later hb1 i2
                      replace i3 := cell_later hb1 i3
                      replace hw := below_more hw hb1
                      clear hb1 L
                      go_wp2
                      go_ret
                      first | exact bout_eq hE.out hw | exact ⟨by rw [← hE.out]; simp; omega, hw⟩
                  · have f25 : (op != 25) = true := by simpa using h25
                    have hE := Lib.hid (show true = r by rw [hr.out]; simp [inputB, hl]; try omega)
                    clear hr h25 hl h41
                    go_enter Try.func26, Try.ntmps26
                    go_wp2_with fail
                    refine (L.out _).mono ?_; rintro e w1 ⟨rfl, hb1⟩
                    replace i0 := cell_later hb1 i0
                    replace i1 := cell_later hb1 i1
                    replace i2 := cell_later hb1 i2
                    replace i3 := cell_later hb1 i3
                    replace hw := below_more hw hb1
                    clear hb1 L
                    go_wp2
                    go_ret
                    first | exact bout_eq hE.out hw | exact ⟨by rw [← hE.out]; simp; omega, hw⟩
              · have hE := Lib.hid (show false = r by rw [hr.out]; simp [inputB, hl]; try omega)
                clear hr hl
                go_enter Try.func26, Try.ntmps26
                go_wp2_with fail
                refine (L.out _).mono ?_; rintro e w1 ⟨rfl, hb1⟩
                replace i0 := cell_later hb1 i0
                replace i1 := cell_later hb1 i1
                replace i2 := cell_later hb1 i2
                replace i3 := cell_later hb1 i3
                replace hw := below_more hw hb1
                clear hb1 L
                go_wp2
                go_ret
                first | exact bout_eq hE.out hw | exact ⟨by rw [← hE.out]; simp; omega, hw⟩
            · have hE := Lib.hid (show false = r by rw [hr.out]; simp [inputB, hl]; try omega)
              clear hr hl
              go_enter Try.func26, Try.ntmps26
              go_wp2_with fail
              refine (L.out _).mono ?_; rintro e w1 ⟨rfl, hb1⟩
              replace i0 := cell_later hb1 i0
              replace i1 := cell_later hb1 i1
              replace i2 := cell_later hb1 i2
              replace i3 := cell_later hb1 i3
              replace hw := below_more hw hb1
              clear hb1 L
              go_wp2
              go_ret
              first | exact bout_eq hE.out hw | exact ⟨by rw [← hE.out]; simp; omega, hw⟩
          · have hE := Lib.hid (show false = r by rw [hr.out]; simp [inputB, hl]; try omega)
            clear hr hl
            go_enter Try.func26, Try.ntmps26
            go_wp2_with fail
            refine (L.out _).mono ?_; rintro e w1 ⟨rfl, hb1⟩
            replace i0 := cell_later hb1 i0
            replace i1 := cell_later hb1 i1
            replace i2 := cell_later hb1 i2
            replace i3 := cell_later hb1 i3
            replace hw := below_more hw hb1
            clear hb1 L
            go_wp2
            go_ret
            first | exact bout_eq hE.out hw | exact ⟨by rw [← hE.out]; simp; omega, hw⟩
        · have hE := Lib.hid (show false = r by rw [hr.out]; simp [inputB, hl]; try omega)
          clear hr hl
          go_enter Try.func26, Try.ntmps26
          go_wp2_with fail
          refine (L.out _).mono ?_; rintro e w1 ⟨rfl, hb1⟩
          replace i0 := cell_later hb1 i0
          replace i1 := cell_later hb1 i1
          replace i2 := cell_later hb1 i2
          replace i3 := cell_later hb1 i3
          replace hw := below_more hw hb1
          clear hb1 L
          go_wp2
          go_ret
          first | exact bout_eq hE.out hw | exact ⟨by rw [← hE.out]; simp; omega, hw⟩
      · have hE := Lib.hid (show false = r by rw [hr.out]; simp [inputB, hl]; try omega)
        clear hr hl
        go_enter Try.func26, Try.ntmps26
        go_wp2_with fail
        refine (L.out _).mono ?_; rintro e w1 ⟨rfl, hb1⟩
        replace i0 := cell_later hb1 i0
        replace i1 := cell_later hb1 i1
        replace i2 := cell_later hb1 i2
        replace i3 := cell_later hb1 i3
        replace hw := below_more hw hb1
        clear hb1 L
        go_wp2
        go_ret
        first | exact bout_eq hE.out hw | exact ⟨by rw [← hE.out]; simp; omega, hw⟩
    · have hE := Lib.hid (show false = r by rw [hr.out]; simp [inputB, hl]; try omega)
      clear hr hl
      go_enter Try.func26, Try.ntmps26
      go_wp2_with fail
      refine (L.out _).mono ?_; rintro e w1 ⟨rfl, hb1⟩
      replace i0 := cell_later hb1 i0
      replace i1 := cell_later hb1 i1
      replace i2 := cell_later hb1 i2
      replace i3 := cell_later hb1 i3
      replace hw := below_more hw hb1
      clear hb1 L
      go_wp2
      go_ret
      first | exact bout_eq hE.out hw | exact ⟨by rw [← hE.out]; simp; omega, hw⟩

def readsR (x : I4) : List Int := if x.1 = 52 then [x.2.2.1] else [x.2.2.1, x.2.2.2].take (opsP x.1)
theorem readsR_len (x : I4) : (readsR x).length ≤ 2 := by unfold readsR; split <;> simp <;> omega
set_option maxHeartbeats 2000000 in
theorem rreads_any (op d ia ib : Int) (w : World) : Calls Try.prog 27 #[.agg #[.int .i64 op, .int .i64 d, .int .i64 ia, .int .i64 ib]] w (IOut (readsR (op, d, ia, ib)) w) := by
  have hw := m1 w (.cells #[.int .i64 op, .int .i64 d, .int .i64 ia, .int .i64 ib] 39)
  by_cases h52 : op = 52
  · subst h52
    rw [show readsR (52, d, ia, ib) = [ia] from rfl]
    go_enter Try.func27, Try.ntmps27
    go_wp2
    go_ret
    exact ⟨_, _, rfl, by simpa using isAt_one (w.alloc (.cells #[.int .i64 52, .int .i64 d, .int .i64 ia, .int .i64 ib] 39)) ia, hw.alloc (by simp) _⟩
  have hR : readsR (op, d, ia, ib) = [ia, ib].take (opsP op) := by
    unfold readsR
    rw [if_neg h52]
  rw [hR]
  clear hR
  have f52 : (op == 52) = false := by simpa using h52
  have O := Lib.hid (roperands_any op)
  have hi : InsAt (w.alloc (.cells #[.int .i64 op, .int .i64 d, .int .i64 ia, .int .i64 ib] 39)) w.heap.size (op, d, ia, ib) := insAt_new w (op, d, ia, ib)
  have hn : opsP op = 0 ∨ opsP op = 1 ∨ opsP op = 2 := by have := ops_le op; omega
  generalize opsP op = n at *
  clear h52
  have i0 := hi.1
  rcases hn with rfl | rfl | rfl
  · go_enter Try.func27, Try.ntmps27
    go_upto_region 3 with (fail)
    clear i0
    generalize w.alloc (.cells #[.int .i64 op, .int .i64 d, .int .i64 ia, .int .i64 ib] 39) = u0 at *
    have KD := G.keepsD_true []
    refine G.region_words (fun w' => InsAt w' w.heap.size (op, d, ia, ib) ∧ Below w.heap.size w w') [G.isW (.pointer (some ⟨w.heap.size, 2, none⟩)), G.isW (.int .i64 ia), G.isW (.pointer (some ⟨w.heap.size, 3, none⟩)), G.isW (.int .i64 ib), TwI ia ib 2, G.isW (.pointer (some ⟨w.heap.size, 0, none⟩)), G.isW (.int .i64 op), G.isW (.int .i64 0), TwI ia ib 0, TwI ia ib 0] (by kernel_rfl) (by repeat' (first | exact G.monoL_nil | exact G.is_mono _ | exact G.any_mono | exact twi_mono _ _ _ | refine G.monoL_cons ?_ ?_)) (by kernel_rfl) (by kernel_rfl) (fun _ _ h hb => ⟨h.1.later hb, below_more h.2 hb⟩) ⟨hi.later (Below.refl _ _).drew, hw.drew⟩ ?_ ?_
    · intro KC
      refine G.stepsL_cons (fun a u hc hdd hd hk hdep => ?_) ?_
      ·
        have d1 : (a.tmps[1]?).getD undef = (.pointer (some ⟨w.heap.size, 0, none⟩)) := hk 1 (by kernel_rfl)
        refine G.step_val KC KD hc hdd rfl (.pointer (some ⟨w.heap.size, 2, none⟩)) u (G.wanted_plain rfl) ?_ rfl (Below.refl _ _)
        first | (go_simp; done) | rfl | (simp [go_sem, *]; done)
      refine G.stepsL_cons (fun a u hc hdd hd hk hdep => ?_) ?_
      ·
        have d9 : (a.tmps[9]?).getD undef = (.pointer (some ⟨w.heap.size, 2, none⟩)) := hdep ⟨0, .data⟩ (by simp) rfl
        refine G.step_val KC KD hc hdd rfl (.int .i64 ia) u (G.wanted_plain rfl) ?_ rfl (Below.refl _ _)
        obtain ⟨i0, i1, i2, i3⟩ := hc.1
        first | (go_simp; done) | rfl | (simp [go_sem, *]; done)
      refine G.stepsL_cons (fun a u hc hdd hd hk hdep => ?_) ?_
      ·
        have d1 : (a.tmps[1]?).getD undef = (.pointer (some ⟨w.heap.size, 0, none⟩)) := hk 1 (by kernel_rfl)
        refine G.step_val KC KD hc hdd rfl (.pointer (some ⟨w.heap.size, 3, none⟩)) u (G.wanted_plain rfl) ?_ rfl (Below.refl _ _)
        first | (go_simp; done) | rfl | (simp [go_sem, *]; done)
      refine G.stepsL_cons (fun a u hc hdd hd hk hdep => ?_) ?_
      ·
        have d11 : (a.tmps[11]?).getD undef = (.pointer (some ⟨w.heap.size, 3, none⟩)) := hdep ⟨2, .data⟩ (by simp) rfl
        refine G.step_val KC KD hc hdd rfl (.int .i64 ib) u (G.wanted_plain rfl) ?_ rfl (Below.refl _ _)
        obtain ⟨i0, i1, i2, i3⟩ := hc.1
        first | (go_simp; done) | rfl | (simp [go_sem, *]; done)
      refine G.stepsL_cons (fun a u hc hdd hd hk hdep => ?_) ?_
      ·
        have d10 : (a.tmps[10]?).getD undef = (.int .i64 ia) := hdep ⟨1, .data⟩ (by simp) rfl
        have d12 : (a.tmps[12]?).getD undef = (.int .i64 ib) := hdep ⟨3, .data⟩ (by simp) rfl
        refine G.step_val KC KD hc hdd rfl (.slice (some ⟨u.heap.size, 0, none⟩) 2 2) (u.alloc (.cells #[.int .i64 ia, .int .i64 ib] 3)) (G.wanted_plain rfl) ?_ ⟨u.heap.size, rfl, isAt_two u ia ib⟩ (m1 _ _)
        first | (go_simp; done) | rfl | (simp [go_sem, *]; done)
      refine G.stepsL_cons (fun a u hc hdd hd hk hdep => ?_) ?_
      ·
        have d1 : (a.tmps[1]?).getD undef = (.pointer (some ⟨w.heap.size, 0, none⟩)) := hk 1 (by kernel_rfl)
        refine G.step_val KC KD hc hdd rfl (.pointer (some ⟨w.heap.size, 0, none⟩)) u (G.wanted_plain rfl) ?_ rfl (Below.refl _ _)
        first | (go_simp; done) | rfl | (simp [go_sem, *]; done)
      refine G.stepsL_cons (fun a u hc hdd hd hk hdep => ?_) ?_
      ·
        have d14 : (a.tmps[14]?).getD undef = (.pointer (some ⟨w.heap.size, 0, none⟩)) := hdep ⟨5, .data⟩ (by simp) rfl
        refine G.step_val KC KD hc hdd rfl (.int .i64 op) u (G.wanted_plain rfl) ?_ rfl (Below.refl _ _)
        obtain ⟨i0, i1, i2, i3⟩ := hc.1
        first | (go_simp; done) | rfl | (simp [go_sem, *]; done)
      refine G.stepsL_cons (fun a u hc hdd hd hk hdep => ?_) ?_
      ·
        have d15 : (a.tmps[15]?).getD undef = (.int .i64 op) := hdep ⟨6, .data⟩ (by simp) rfl
        refine G.step_call KC KD hc hdd rfl 17 #[.int .i64 op] (G.wanted_plain rfl) (by first | (go_simp; done) | rfl) ?_
        exact (O.out u).mono (by rintro e w' ⟨rfl, hb⟩; exact ⟨_, rfl, rfl, hb⟩)
      refine G.stepsL_cons (fun a u hc hdd hd hk hdep => ?_) ?_
      ·
        have d13' : (TwI ia ib 2) ((a.tmps[13]?).getD undef) u := hdep ⟨4, .data⟩ (by simp) rfl
        obtain ⟨g4, d13, h4⟩ := d13'
        have d16 : (a.tmps[16]?).getD undef = (.int .i64 0) := hdep ⟨7, .data⟩ (by simp) rfl
        refine G.step_val KC KD hc hdd rfl (.slice (some ⟨g4, 0, none⟩) 0 2) u (G.wanted_plain rfl) ?_ ⟨g4, rfl, h4⟩ (Below.refl _ _)
        first | (go_simp; done) | rfl | (simp [go_sem, *]; done)
      refine G.stepsL_cons (fun a u hc hdd hd hk hdep => ?_) ?_
      ·
        have d17' : (TwI ia ib 0) ((a.tmps[17]?).getD undef) u := hdep ⟨8, .data⟩ (by simp) rfl
        obtain ⟨g8, d17, h8⟩ := d17'
        refine G.step_val KC KD hc hdd rfl (.slice (some ⟨g8, 0, none⟩) 0 2) u (G.wanted_plain rfl) ?_ ⟨g8, rfl, h8⟩ (Below.refl _ _)
        first | (go_simp; done) | rfl | (simp [go_sem, *]; done)
      exact G.stepsL_nil
    intro vs' wN hN hh
    obtain ⟨g, e9, h9⟩ : TwI ia ib 0 (vs' 9) wN := by
      obtain ⟨-, -, -, -, -, -, -, -, -, eX, -⟩ := hh
      exact eX
    clear hh
    set_option maxRecDepth 100000 in simp only [List.take_succ_cons, List.take_zero, putAll, Act.put, List.setIfInBounds_toArray, List.set_cons_zero, List.set_cons_succ, Nat.reduceAdd, e9]
    obtain ⟨-, hB⟩ := hN
    go_wp2
    go_ret
    exact ⟨some ⟨g, 0, none⟩, 2, rfl, h9.take 0, hB⟩
  · go_enter Try.func27, Try.ntmps27
    go_upto_region 3 with (fail)
    clear i0
    generalize w.alloc (.cells #[.int .i64 op, .int .i64 d, .int .i64 ia, .int .i64 ib] 39) = u0 at *
    have KD := G.keepsD_true []
    refine G.region_words (fun w' => InsAt w' w.heap.size (op, d, ia, ib) ∧ Below w.heap.size w w') [G.isW (.pointer (some ⟨w.heap.size, 2, none⟩)), G.isW (.int .i64 ia), G.isW (.pointer (some ⟨w.heap.size, 3, none⟩)), G.isW (.int .i64 ib), TwI ia ib 2, G.isW (.pointer (some ⟨w.heap.size, 0, none⟩)), G.isW (.int .i64 op), G.isW (.int .i64 1), TwI ia ib 1, TwI ia ib 1] (by kernel_rfl) (by repeat' (first | exact G.monoL_nil | exact G.is_mono _ | exact G.any_mono | exact twi_mono _ _ _ | refine G.monoL_cons ?_ ?_)) (by kernel_rfl) (by kernel_rfl) (fun _ _ h hb => ⟨h.1.later hb, below_more h.2 hb⟩) ⟨hi.later (Below.refl _ _).drew, hw.drew⟩ ?_ ?_
    · intro KC
      refine G.stepsL_cons (fun a u hc hdd hd hk hdep => ?_) ?_
      ·
        have d1 : (a.tmps[1]?).getD undef = (.pointer (some ⟨w.heap.size, 0, none⟩)) := hk 1 (by kernel_rfl)
        refine G.step_val KC KD hc hdd rfl (.pointer (some ⟨w.heap.size, 2, none⟩)) u (G.wanted_plain rfl) ?_ rfl (Below.refl _ _)
        first | (go_simp; done) | rfl | (simp [go_sem, *]; done)
      refine G.stepsL_cons (fun a u hc hdd hd hk hdep => ?_) ?_
      ·
        have d9 : (a.tmps[9]?).getD undef = (.pointer (some ⟨w.heap.size, 2, none⟩)) := hdep ⟨0, .data⟩ (by simp) rfl
        refine G.step_val KC KD hc hdd rfl (.int .i64 ia) u (G.wanted_plain rfl) ?_ rfl (Below.refl _ _)
        obtain ⟨i0, i1, i2, i3⟩ := hc.1
        first | (go_simp; done) | rfl | (simp [go_sem, *]; done)
      refine G.stepsL_cons (fun a u hc hdd hd hk hdep => ?_) ?_
      ·
        have d1 : (a.tmps[1]?).getD undef = (.pointer (some ⟨w.heap.size, 0, none⟩)) := hk 1 (by kernel_rfl)
        refine G.step_val KC KD hc hdd rfl (.pointer (some ⟨w.heap.size, 3, none⟩)) u (G.wanted_plain rfl) ?_ rfl (Below.refl _ _)
        first | (go_simp; done) | rfl | (simp [go_sem, *]; done)
      refine G.stepsL_cons (fun a u hc hdd hd hk hdep => ?_) ?_
      ·
        have d11 : (a.tmps[11]?).getD undef = (.pointer (some ⟨w.heap.size, 3, none⟩)) := hdep ⟨2, .data⟩ (by simp) rfl
        refine G.step_val KC KD hc hdd rfl (.int .i64 ib) u (G.wanted_plain rfl) ?_ rfl (Below.refl _ _)
        obtain ⟨i0, i1, i2, i3⟩ := hc.1
        first | (go_simp; done) | rfl | (simp [go_sem, *]; done)
      refine G.stepsL_cons (fun a u hc hdd hd hk hdep => ?_) ?_
      ·
        have d10 : (a.tmps[10]?).getD undef = (.int .i64 ia) := hdep ⟨1, .data⟩ (by simp) rfl
        have d12 : (a.tmps[12]?).getD undef = (.int .i64 ib) := hdep ⟨3, .data⟩ (by simp) rfl
        refine G.step_val KC KD hc hdd rfl (.slice (some ⟨u.heap.size, 0, none⟩) 2 2) (u.alloc (.cells #[.int .i64 ia, .int .i64 ib] 3)) (G.wanted_plain rfl) ?_ ⟨u.heap.size, rfl, isAt_two u ia ib⟩ (m1 _ _)
        first | (go_simp; done) | rfl | (simp [go_sem, *]; done)
      refine G.stepsL_cons (fun a u hc hdd hd hk hdep => ?_) ?_
      ·
        have d1 : (a.tmps[1]?).getD undef = (.pointer (some ⟨w.heap.size, 0, none⟩)) := hk 1 (by kernel_rfl)
        refine G.step_val KC KD hc hdd rfl (.pointer (some ⟨w.heap.size, 0, none⟩)) u (G.wanted_plain rfl) ?_ rfl (Below.refl _ _)
        first | (go_simp; done) | rfl | (simp [go_sem, *]; done)
      refine G.stepsL_cons (fun a u hc hdd hd hk hdep => ?_) ?_
      ·
        have d14 : (a.tmps[14]?).getD undef = (.pointer (some ⟨w.heap.size, 0, none⟩)) := hdep ⟨5, .data⟩ (by simp) rfl
        refine G.step_val KC KD hc hdd rfl (.int .i64 op) u (G.wanted_plain rfl) ?_ rfl (Below.refl _ _)
        obtain ⟨i0, i1, i2, i3⟩ := hc.1
        first | (go_simp; done) | rfl | (simp [go_sem, *]; done)
      refine G.stepsL_cons (fun a u hc hdd hd hk hdep => ?_) ?_
      ·
        have d15 : (a.tmps[15]?).getD undef = (.int .i64 op) := hdep ⟨6, .data⟩ (by simp) rfl
        refine G.step_call KC KD hc hdd rfl 17 #[.int .i64 op] (G.wanted_plain rfl) (by first | (go_simp; done) | rfl) ?_
        exact (O.out u).mono (by rintro e w' ⟨rfl, hb⟩; exact ⟨_, rfl, rfl, hb⟩)
      refine G.stepsL_cons (fun a u hc hdd hd hk hdep => ?_) ?_
      ·
        have d13' : (TwI ia ib 2) ((a.tmps[13]?).getD undef) u := hdep ⟨4, .data⟩ (by simp) rfl
        obtain ⟨g4, d13, h4⟩ := d13'
        have d16 : (a.tmps[16]?).getD undef = (.int .i64 1) := hdep ⟨7, .data⟩ (by simp) rfl
        refine G.step_val KC KD hc hdd rfl (.slice (some ⟨g4, 0, none⟩) 1 2) u (G.wanted_plain rfl) ?_ ⟨g4, rfl, h4⟩ (Below.refl _ _)
        first | (go_simp; done) | rfl | (simp [go_sem, *]; done)
      refine G.stepsL_cons (fun a u hc hdd hd hk hdep => ?_) ?_
      ·
        have d17' : (TwI ia ib 1) ((a.tmps[17]?).getD undef) u := hdep ⟨8, .data⟩ (by simp) rfl
        obtain ⟨g8, d17, h8⟩ := d17'
        refine G.step_val KC KD hc hdd rfl (.slice (some ⟨g8, 0, none⟩) 1 2) u (G.wanted_plain rfl) ?_ ⟨g8, rfl, h8⟩ (Below.refl _ _)
        first | (go_simp; done) | rfl | (simp [go_sem, *]; done)
      exact G.stepsL_nil
    intro vs' wN hN hh
    obtain ⟨g, e9, h9⟩ : TwI ia ib 1 (vs' 9) wN := by
      obtain ⟨-, -, -, -, -, -, -, -, -, eX, -⟩ := hh
      exact eX
    clear hh
    set_option maxRecDepth 100000 in simp only [List.take_succ_cons, List.take_zero, putAll, Act.put, List.setIfInBounds_toArray, List.set_cons_zero, List.set_cons_succ, Nat.reduceAdd, e9]
    obtain ⟨-, hB⟩ := hN
    go_wp2
    go_ret
    exact ⟨some ⟨g, 0, none⟩, 2, rfl, h9.take 1, hB⟩
  · go_enter Try.func27, Try.ntmps27
    go_upto_region 3 with (fail)
    clear i0
    generalize w.alloc (.cells #[.int .i64 op, .int .i64 d, .int .i64 ia, .int .i64 ib] 39) = u0 at *
    have KD := G.keepsD_true []
    refine G.region_words (fun w' => InsAt w' w.heap.size (op, d, ia, ib) ∧ Below w.heap.size w w') [G.isW (.pointer (some ⟨w.heap.size, 2, none⟩)), G.isW (.int .i64 ia), G.isW (.pointer (some ⟨w.heap.size, 3, none⟩)), G.isW (.int .i64 ib), TwI ia ib 2, G.isW (.pointer (some ⟨w.heap.size, 0, none⟩)), G.isW (.int .i64 op), G.isW (.int .i64 2), TwI ia ib 2, TwI ia ib 2] (by kernel_rfl) (by repeat' (first | exact G.monoL_nil | exact G.is_mono _ | exact G.any_mono | exact twi_mono _ _ _ | refine G.monoL_cons ?_ ?_)) (by kernel_rfl) (by kernel_rfl) (fun _ _ h hb => ⟨h.1.later hb, below_more h.2 hb⟩) ⟨hi.later (Below.refl _ _).drew, hw.drew⟩ ?_ ?_
    · intro KC
      refine G.stepsL_cons (fun a u hc hdd hd hk hdep => ?_) ?_
      ·
        have d1 : (a.tmps[1]?).getD undef = (.pointer (some ⟨w.heap.size, 0, none⟩)) := hk 1 (by kernel_rfl)
        refine G.step_val KC KD hc hdd rfl (.pointer (some ⟨w.heap.size, 2, none⟩)) u (G.wanted_plain rfl) ?_ rfl (Below.refl _ _)
        first | (go_simp; done) | rfl | (simp [go_sem, *]; done)
      refine G.stepsL_cons (fun a u hc hdd hd hk hdep => ?_) ?_
      ·
        have d9 : (a.tmps[9]?).getD undef = (.pointer (some ⟨w.heap.size, 2, none⟩)) := hdep ⟨0, .data⟩ (by simp) rfl
        refine G.step_val KC KD hc hdd rfl (.int .i64 ia) u (G.wanted_plain rfl) ?_ rfl (Below.refl _ _)
        obtain ⟨i0, i1, i2, i3⟩ := hc.1
        first | (go_simp; done) | rfl | (simp [go_sem, *]; done)
      refine G.stepsL_cons (fun a u hc hdd hd hk hdep => ?_) ?_
      ·
        have d1 : (a.tmps[1]?).getD undef = (.pointer (some ⟨w.heap.size, 0, none⟩)) := hk 1 (by kernel_rfl)
        refine G.step_val KC KD hc hdd rfl (.pointer (some ⟨w.heap.size, 3, none⟩)) u (G.wanted_plain rfl) ?_ rfl (Below.refl _ _)
        first | (go_simp; done) | rfl | (simp [go_sem, *]; done)
      refine G.stepsL_cons (fun a u hc hdd hd hk hdep => ?_) ?_
      ·
        have d11 : (a.tmps[11]?).getD undef = (.pointer (some ⟨w.heap.size, 3, none⟩)) := hdep ⟨2, .data⟩ (by simp) rfl
        refine G.step_val KC KD hc hdd rfl (.int .i64 ib) u (G.wanted_plain rfl) ?_ rfl (Below.refl _ _)
        obtain ⟨i0, i1, i2, i3⟩ := hc.1
        first | (go_simp; done) | rfl | (simp [go_sem, *]; done)
      refine G.stepsL_cons (fun a u hc hdd hd hk hdep => ?_) ?_
      ·
        have d10 : (a.tmps[10]?).getD undef = (.int .i64 ia) := hdep ⟨1, .data⟩ (by simp) rfl
        have d12 : (a.tmps[12]?).getD undef = (.int .i64 ib) := hdep ⟨3, .data⟩ (by simp) rfl
        refine G.step_val KC KD hc hdd rfl (.slice (some ⟨u.heap.size, 0, none⟩) 2 2) (u.alloc (.cells #[.int .i64 ia, .int .i64 ib] 3)) (G.wanted_plain rfl) ?_ ⟨u.heap.size, rfl, isAt_two u ia ib⟩ (m1 _ _)
        first | (go_simp; done) | rfl | (simp [go_sem, *]; done)
      refine G.stepsL_cons (fun a u hc hdd hd hk hdep => ?_) ?_
      ·
        have d1 : (a.tmps[1]?).getD undef = (.pointer (some ⟨w.heap.size, 0, none⟩)) := hk 1 (by kernel_rfl)
        refine G.step_val KC KD hc hdd rfl (.pointer (some ⟨w.heap.size, 0, none⟩)) u (G.wanted_plain rfl) ?_ rfl (Below.refl _ _)
        first | (go_simp; done) | rfl | (simp [go_sem, *]; done)
      refine G.stepsL_cons (fun a u hc hdd hd hk hdep => ?_) ?_
      ·
        have d14 : (a.tmps[14]?).getD undef = (.pointer (some ⟨w.heap.size, 0, none⟩)) := hdep ⟨5, .data⟩ (by simp) rfl
        refine G.step_val KC KD hc hdd rfl (.int .i64 op) u (G.wanted_plain rfl) ?_ rfl (Below.refl _ _)
        obtain ⟨i0, i1, i2, i3⟩ := hc.1
        first | (go_simp; done) | rfl | (simp [go_sem, *]; done)
      refine G.stepsL_cons (fun a u hc hdd hd hk hdep => ?_) ?_
      ·
        have d15 : (a.tmps[15]?).getD undef = (.int .i64 op) := hdep ⟨6, .data⟩ (by simp) rfl
        refine G.step_call KC KD hc hdd rfl 17 #[.int .i64 op] (G.wanted_plain rfl) (by first | (go_simp; done) | rfl) ?_
        exact (O.out u).mono (by rintro e w' ⟨rfl, hb⟩; exact ⟨_, rfl, rfl, hb⟩)
      refine G.stepsL_cons (fun a u hc hdd hd hk hdep => ?_) ?_
      ·
        have d13' : (TwI ia ib 2) ((a.tmps[13]?).getD undef) u := hdep ⟨4, .data⟩ (by simp) rfl
        obtain ⟨g4, d13, h4⟩ := d13'
        have d16 : (a.tmps[16]?).getD undef = (.int .i64 2) := hdep ⟨7, .data⟩ (by simp) rfl
        refine G.step_val KC KD hc hdd rfl (.slice (some ⟨g4, 0, none⟩) 2 2) u (G.wanted_plain rfl) ?_ ⟨g4, rfl, h4⟩ (Below.refl _ _)
        first | (go_simp; done) | rfl | (simp [go_sem, *]; done)
      refine G.stepsL_cons (fun a u hc hdd hd hk hdep => ?_) ?_
      ·
        have d17' : (TwI ia ib 2) ((a.tmps[17]?).getD undef) u := hdep ⟨8, .data⟩ (by simp) rfl
        obtain ⟨g8, d17, h8⟩ := d17'
        refine G.step_val KC KD hc hdd rfl (.slice (some ⟨g8, 0, none⟩) 2 2) u (G.wanted_plain rfl) ?_ ⟨g8, rfl, h8⟩ (Below.refl _ _)
        first | (go_simp; done) | rfl | (simp [go_sem, *]; done)
      exact G.stepsL_nil
    intro vs' wN hN hh
    obtain ⟨g, e9, h9⟩ : TwI ia ib 2 (vs' 9) wN := by
      obtain ⟨-, -, -, -, -, -, -, -, -, eX, -⟩ := hh
      exact eX
    clear hh
    set_option maxRecDepth 100000 in simp only [List.take_succ_cons, List.take_zero, putAll, Act.put, List.setIfInBounds_toArray, List.set_cons_zero, List.set_cons_succ, Nat.reduceAdd, e9]
    obtain ⟨-, hB⟩ := hN
    go_wp2
    go_ret
    exact ⟨some ⟨g, 0, none⟩, 2, rfl, h9.take 2, hB⟩
end Go.Proofs.Ytagjfeblkpkgaaa
