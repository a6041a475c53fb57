/- A pool that is made; the document's Same. -/
import Derived.Test.YtdgbnibnhajfoaaPoG
import Derived.Test.YtdgbnibnhajfoaaPoE
namespace Go.Proofs.Ytdgbnibnhajfoaa
open Go.ChangeShapes Go.WideShapes Go.ChangeAt Go.RowKit
set_option linter.unusedVariables false
set_option linter.unusedSimpArgs false

def newS (most : Int) : PS := ⟨most, [], [], fun _ => none⟩
theorem new_any (most : Int) (w : World) : Calls Try.prog 8 #[.int .i64 most] w fun e w' => ∃ p, e = .returned (.pointer (some ⟨p, 0, none⟩)) ∧ PAt w.heap.size p (fun k => w.heap.size ≤ k) (newS most) w' ∧ Below w.heap.size w w' := by
  have hm := m2 w (.map #[] 0) (.cells #[.int .i64 most, .slice none 0 0, .slice none 0 0, .map (some w.heap.size)] 60)
  have h1 := (EMap.new encL w).later (m1 (w.alloc (.map #[] 0)) (.cells #[.int .i64 most, .slice none 0 0, .slice none 0 0, .map (some w.heap.size)] 60))
  have h2 := Blk.made (w.alloc (.map #[] 0)) 60 #[.int .i64 most, .slice none 0 0, .slice none 0 0, .map (some w.heap.size)]
  have hs : (w.alloc (.map #[] 0)).heap.size = w.heap.size + 1 := by simp
  rw [hs] at h2
  have hend := Lib.hid (show PAt w.heap.size (w.heap.size + 1) (fun k => w.heap.size ≤ k) (newS most) ((w.alloc (.map #[] 0)).alloc (.cells #[.int .i64 most, .slice none 0 0, .slice none 0 0, .map (some w.heap.size)] 60)) from
    ⟨w.heap.size, .slice none 0 0, .slice none 0 0, ⟨h2, World.ownsRow_nil _ _ _ _, World.ownsRow_nil _ _ _ _, h1, by simp, Nat.le_refl _⟩, fun k hk => by
      rcases hk with e | e | e | e
      · simp [e]
      · simp [e]
      · cases e
      · cases e⟩)
  replace hm := Lib.hid hm
  have hmk : (Instr.makeMap 52 none).run Try.prog w = .ok (.map (some w.heap.size)) (w.alloc (.map #[] 0)) := run_makeMap_plain w _
  clear h1 h2 hs
  go_enter Try.func8, Try.ntmps8
  go_wp2
  go_ret
  exact ⟨_, rfl, hend.out, hm.out⟩

set_option maxHeartbeats 8000000 in
set_option maxRecDepth 100000 in
theorem same_any (A1 A2 : Option Addr) (n1 n2 c1 c2 : Nat) (l1 l2 : List (List Int)) (w : World) (h1 : RowsAt w A1 l1) (h2 : RowsAt w A2 l2) (e1 : l1.length = n1) (e2 : l2.length = n2) (b1 : n1 ≤ 4611686018427387904) (b2 : n2 ≤ 4611686018427387904) (d1 : ∀ l ∈ l1, l.length ≤ 4611686018427387904) (d2 : ∀ l ∈ l2, l.length ≤ 4611686018427387904) :
    Calls Try.prog 21 #[.slice A1 n1 c1, .slice A2 n2 c2] w fun e w' => e = .returned (.bool (decide (l1 = l2))) ∧ ∃ n, w' = w.drewN n := by
  by_cases hl : n1 = n2
  · subst hl
    have k9 : (n1 : Int) ≤ 9223372036854775807 := by omega
    replace h1 := Lib.hid h1
    replace h2 := Lib.hid h2
    replace e1 := Lib.hid e1
    replace e2 := Lib.hid e2
    replace d1 := Lib.hid d1
    replace d2 := Lib.hid d2
    clear b1 b2
    go_enter Try.func21, Try.ntmps21
    go_wp2_with fail
    go_loopw [14] (fun i wr => ∃ k : Nat, k ≤ n1 ∧ i = .int .i64 (k : Int) ∧ (∀ j, j < k → l1[j]? = l2[j]?) ∧ ∃ n, wr = w.drewN n) (fun i _ => n1 - (intOf i).toNat)
    case atStart => exact ⟨0, Nat.zero_le _, rfl, fun j hj => absurd hj (by omega), 0, rfl⟩
    case round =>
      obtain ⟨k, hk, rfl, hT, n, rfl⟩ := hrel
      replace hT := Lib.hid hT
      by_cases hlt : k < n1
      · obtain ⟨g1, o1, rfl, hc1⟩ := h1.out (by rw [e1.out]; omega)
        obtain ⟨g2, o2, rfl, hc2⟩ := h2.out (by rw [e2.out]; omega)
        have hx1 : l1[k]? = some (l1[k]'(by rw [e1.out]; exact hlt)) := List.getElem?_eq_getElem _
        have hx2 : l2[k]? = some (l2[k]'(by rw [e2.out]; exact hlt)) := List.getElem?_eq_getElem _
        obtain ⟨u1, q1, B1, z1, rfl, hi1⟩ := hc1 k _ hx1
        obtain ⟨u2, q2, B2, z2, rfl, hi2⟩ := hc2 k _ hx2
        have hd1 := d1.out _ (List.mem_of_getElem? hx1)
        have hd2 := d2.out _ (List.mem_of_getElem? hx2)
        generalize l1[k]'(by rw [e1.out]; exact hlt) = r1 at *
        generalize l2[k]'(by rw [e2.out]; exact hlt) = r2 at *
        have k0 : (0 : Int) ≤ (k : Int) := by omega
        have k1 : (k : Int) < (n1 : Int) := by omega
        replace hx1 := Lib.hid hx1
        replace hx2 := Lib.hid hx2
        clear hc1 hc2
        by_cases hq : r1.length = r2.length
        · have m9 : (r1.length : Int) ≤ 9223372036854775807 := by omega
          obtain ⟨m, hm⟩ : ∃ m, r1.length = m := ⟨_, rfl⟩
          rw [← hq] at q2
          rw [hm] at q1 q2 m9
          replace hi1 := Lib.hid hi1
          replace hi2 := Lib.hid hi2
          have k3 := Lib.hid hlt
          replace hq := Lib.hid hq
          replace hm := Lib.hid hm
          clear hd1 hd2
          go_wp2_with fail
          go_quiet (fail)
          go_wp2_with fail
          go_loopw [33] (fun i wr => ∃ j : Nat, j ≤ m ∧ i = .int .i64 (j : Int) ∧ (∀ t, t < j → r1[t]? = r2[t]?) ∧ ∃ n, wr = w.drewN n) (fun i _ => m - (intOf i).toNat)
          case atStart => exact ⟨0, Nat.zero_le _, rfl, fun j hj => absurd hj (by omega), _, rfl⟩
          case round =>
            obtain ⟨j, hj, rfl, hT2, n', rfl⟩ := hrel
            replace hT2 := Lib.hid hT2
            by_cases hjl : j < m
            · obtain ⟨g3, o3, rfl, hc3⟩ := hi1.out (by rw [hm.out]; omega)
              obtain ⟨g4, o4, rfl, hc4⟩ := hi2.out (by rw [← hq.out, hm.out]; omega)
              have hy1 : r1[j]? = some (r1[j]'(by rw [hm.out]; exact hjl)) := List.getElem?_eq_getElem _
              have hy2 : r2[j]? = some (r2[j]'(by rw [← hq.out, hm.out]; exact hjl)) := List.getElem?_eq_getElem _
              have p1 := hc3 j _ hy1
              have p2 := hc4 j _ hy2
              generalize r1[j]'(by rw [hm.out]; exact hjl) = y1 at *
              generalize r2[j]'(by rw [← hq.out, hm.out]; exact hjl) = y2 at *
              have j0 : (0 : Int) ≤ (j : Int) := by omega
              have j1 : (j : Int) < (m : Int) := by omega
              have k4 := Lib.hid hjl
              replace hy1 := Lib.hid hy1
              replace hy2 := Lib.hid hy2
              clear hc3 hc4
              by_cases hy : y1 = y2
              · subst hy
                go_wp2_with fail
                go_quiet (fail)
                go_wp2
                go_roundw
                case rel => exact ⟨j + 1, k4.out, by go_num, fun t ht => by
                  by_cases h : t = j
                  · subst h; rw [hy1.out, hy2.out]
                  · exact hT2.out t (by omega), _, by first | rfl | (simp; rfl)⟩
                case measure => have := k4.out; simp [intOf]; omega
              · have hne : (y1 != y2) = true := by simp [hy]
                have hres : decide (l1 = l2) = false := by
                  simp only [decide_eq_false_iff_not]
                  rintro rfl
                  have := hx1.out.symm.trans hx2.out
                  injection this with this
                  subst this
                  have := hy1.out.symm.trans hy2.out
                  injection this with this
                  exact hy this
                replace hres := Lib.hid hres
                clear hy
                go_wp2_with fail
                go_quiet (fail)
                go_wp2
                go_ret
                exact ⟨by rw [hres.out]; rfl, _, by first | rfl | (simp; rfl)⟩
            · obtain rfl : j = m := by omega
              have hrr : r1 = r2 := by
                apply List.ext_getElem?
                intro t
                by_cases ht : t < j
                · exact hT2.out t ht
                · rw [List.getElem?_eq_none (by rw [hm.out]; omega), List.getElem?_eq_none (by rw [← hq.out, hm.out]; omega)]
              replace hrr := Lib.hid hrr
              go_wp2
              go_roundw
              case rel => exact ⟨k + 1, k3.out, by go_num, fun t ht => by
                by_cases h : t = k
                · subst h; rw [hx1.out, hx2.out, hrr.out]
                · exact hT.out t (by omega), _, rfl⟩
              case measure => have := k3.out; simp [intOf]; omega
        · have hne : ((r1.length : Int) != (r2.length : Int)) = true := by simp; omega
          have hres : decide (l1 = l2) = false := by
            simp only [decide_eq_false_iff_not]
            rintro rfl
            have := hx1.out.symm.trans hx2.out
            injection this with this
            subst this
            exact hq rfl
          obtain ⟨m1, hm1⟩ : ∃ m, r1.length = m := ⟨_, rfl⟩
          obtain ⟨m2, hm2⟩ : ∃ m, r2.length = m := ⟨_, rfl⟩
          rw [hm1] at q1 hne
          rw [hm2] at q2 hne
          replace hres := Lib.hid hres
          clear hq hd1 hd2 hm1 hm2 hi1 hi2
          go_wp2_with fail
          go_quiet (fail)
          go_wp2
          go_ret
          exact ⟨by rw [hres.out]; rfl, _, by first | rfl | (simp; rfl)⟩
      · obtain rfl : k = n1 := by omega
        have hrr : decide (l1 = l2) = true := by
          simp only [decide_eq_true_eq]
          apply List.ext_getElem?
          intro t
          by_cases ht : t < k
          · exact hT.out t ht
          · rw [List.getElem?_eq_none (by rw [e1.out]; omega), List.getElem?_eq_none (by rw [e2.out]; omega)]
        replace hrr := Lib.hid hrr
        go_wp2
        go_ret
        exact ⟨by rw [hrr.out]; rfl, _, rfl⟩
  · have hne : ((n1 : Int) != (n2 : Int)) = true := by simp; omega
    have hres : decide (l1 = l2) = false := by
      simp only [decide_eq_false_iff_not]
      rintro rfl
      omega
    rw [hres]
    clear h1 h2 hl d1 d2
    go_enter Try.func21, Try.ntmps21
    go_wp2
    go_ret
    exact ⟨rfl, 0, rfl⟩
end Go.Proofs.Ytdgbnibnhajfoaa
