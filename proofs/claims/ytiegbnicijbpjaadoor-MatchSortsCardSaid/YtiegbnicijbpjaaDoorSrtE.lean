/- Are two lists of matches alike: the document's Same, as a contract. -/
import Derived.Test.YtiegbnicijbpjaaDoorSrtD
import Derived.Test.YtiegbnicijbpjaaDoorROrd
namespace Go.Proofs.YtiegbnicijbpjaaDoor
open Go.ChangeShapes Go.WideShapes Go.ChangeAt Go.RowKit
set_option linter.unusedVariables false
set_option linter.unusedSimpArgs false

def sameL : List MT → List MT → Bool
  | [], [] => true
  | x :: xs, y :: ys => cmpS x y == 0 && sameL xs ys
  | _, _ => false
theorem sameL_len : ∀ {xs ys : List MT}, xs.length ≠ ys.length → sameL xs ys = false
  | [], [], h => absurd rfl h
  | [], _ :: _, _ => rfl
  | _ :: _, [], _ => rfl
  | x :: xs, y :: ys, h => by simp only [sameL, sameL_len (xs := xs) (ys := ys) (by simpa using h), Bool.and_false]
set_option maxHeartbeats 4000000 in
set_option maxRecDepth 100000 in
theorem rsame_any (A B : Option Addr) (ca cb : Nat) (ms ns : List MT) (w : World) (hA : MatsAt w A ms) (hB : MatsAt w B ns) (hs : Small ms) (ht : Small ns) :
    Calls Tryd.prog 7 #[.slice A ms.length ca, .slice B ns.length cb] w fun e w' => e = .returned (.bool (sameL ms ns)) ∧ Below w.heap.size w w' := by
  replace hA := Lib.hid hA
  replace hB := Lib.hid hB
  have hs1 := hs.1
  have ht1 := ht.1
  replace hs := Lib.hid hs
  replace ht := Lib.hid ht
  go_enter Tryd.func7, Tryd.ntmps7
  by_cases hl : ms.length = ns.length
  · have hl0 : ((ms.length : Int) != (ns.length : Int)) = false := by simp; omega
    replace hl := Lib.hid hl
    go_wp2_with fail
    go_loopw [13] (fun i wr => ∃ k : Nat, k ≤ ms.length ∧ i = .int .i64 (k : Int) ∧ sameL ms ns = sameL (ms.drop k) (ns.drop k) ∧ Below w.heap.size w wr) (fun i _ => ms.length - (intOf i).toNat)
    case atStart => exact ⟨0, Nat.zero_le _, rfl, rfl, Below.refl _ _⟩
    case round =>
      obtain ⟨k, hk, rfl, he, hW⟩ := hrel
      have k0 : (0 : Int) ≤ (k : Int) := by omega
      by_cases hlt : k < ms.length
      · have k1 : (k : Int) < (ms.length : Int) := by omega
        have k2 : (k : Int) < (ns.length : Int) := by have := hl.out; omega
        have hlt2 : k < ns.length := by have := hl.out; omega
        obtain ⟨b, off, rfl, hc⟩ := hA.out (by omega)
        obtain ⟨b2, off2, rfl, hc2⟩ := hB.out (by omega)
        obtain ⟨r0, r1, A2, c2, r2, hR⟩ := hc k _ (List.getElem?_eq_getElem hlt)
        obtain ⟨q0, q1, B2, e2, q2, hQ⟩ := hc2 k _ (List.getElem?_eq_getElem hlt2)
        have hsm := hs.out.2 _ (List.getElem_mem hlt)
        have htm := ht.out.2 _ (List.getElem_mem hlt2)
        rw [drop_at hlt, drop_at hlt2] at he
        simp only [sameL] at he
        generalize ms[k] = x at *
        generalize ns[k] = y at *
        obtain ⟨s1, b1, p1⟩ := x
        obtain ⟨s3, b3, p3⟩ := y
        have hsm : p1.length * 24 ≤ 140737488351232 ∧ ∀ l ∈ p1, l.length * 8 ≤ 140737488351232 := hsm
        have htm : p3.length * 24 ≤ 140737488351232 ∧ ∀ l ∈ p3, l.length * 8 ≤ 140737488351232 := htm
        have O := fun w' hA hB => rorder_any A2 B2 c2 e2 s1 b1 s3 b3 p1 p3 w' hA hB (by have := hsm.1; omega) (by have := htm.1; omega) (fun l h => by have := hsm.2 l h; omega) (fun l h => by have := htm.2 l h; omega)
        have base : wr.cell? ⟨b, off + k * 3, none⟩ = some (.int .i64 s1) ∧ wr.cell? ⟨b, off + k * 3 + 1, none⟩ = some (.int .i64 b1) ∧ wr.cell? ⟨b, off + k * 3 + 2, none⟩ = some (.slice A2 p1.length c2) ∧
            wr.cell? ⟨b2, off2 + k * 3, none⟩ = some (.int .i64 s3) ∧ wr.cell? ⟨b2, off2 + k * 3 + 1, none⟩ = some (.int .i64 b3) ∧ wr.cell? ⟨b2, off2 + k * 3 + 2, none⟩ = some (.slice B2 p3.length e2) ∧ RowsAt wr A2 p1 ∧ RowsAt wr B2 p3 ∧ Below w.heap.size w wr :=
          ⟨cell_later hW r0, cell_later hW r1, cell_later hW r2, cell_later hW q0, cell_later hW q1, cell_later hW q2, hR.later hW, hQ.later hW, hW⟩
        clear hc hc2 r0 r1 r2 q0 q1 q2 hR hQ hW hsm htm
        change _ = (ordM s1 b1 p1 s3 b3 p3 == 0 && _) at he
        generalize ordM s1 b1 p1 s3 b3 p3 = o at *
        have O' : ∀ w', RowsAt w' A2 p1 → RowsAt w' B2 p3 → Calls Tryd.prog 16 #[matV s1 b1 A2 p1.length c2, matV s3 b3 B2 p3.length e2] w' fun e w1 => e = .returned (.int .i64 o) ∧ Below w'.heap.size w' w1 := O
        replace O := Lib.hid O'
        clear O'
        have base' := base
        obtain ⟨d0, d1, d2, d3, d4, d5, dA, dB, dW⟩ := base'
        by_cases h0 : o = 0
        · subst h0
          have he2 := Lib.hid (show sameL ms ns = sameL (ms.drop (k + 1)) (ns.drop (k + 1)) by simpa using he)
          clear he
          go_upto_region 6 with (fail)
          go_region_held3 (fun w' => w'.cell? ⟨b, off + k * 3, none⟩ = some (.int .i64 s1) ∧ w'.cell? ⟨b, off + k * 3 + 1, none⟩ = some (.int .i64 b1) ∧ w'.cell? ⟨b, off + k * 3 + 2, none⟩ = some (.slice A2 p1.length c2) ∧
            w'.cell? ⟨b2, off2 + k * 3, none⟩ = some (.int .i64 s3) ∧ w'.cell? ⟨b2, off2 + k * 3 + 1, none⟩ = some (.int .i64 b3) ∧ w'.cell? ⟨b2, off2 + k * 3 + 2, none⟩ = some (.slice B2 p3.length e2) ∧ RowsAt w' A2 p1 ∧ RowsAt w' B2 p3 ∧ Below w.heap.size w w')
            (first | exact ⟨d0, d1, d2, d3, d4, d5, dA, dB, dW.drew⟩ | go_keep | exact ordKeep hb1 (by first | assumption | exact ⟨by assumption, by assumption, by assumption, by assumption, by assumption, by assumption, by assumption, by assumption, by assumption⟩) | assumption)
            (first | (go_at_call 16; refine (O.out _ (by first | assumption | exact rowsL (by assumption)) (by first | assumption | exact rowsR (by assumption))).mono ?_; rintro e w1 ⟨rfl, hb1⟩))
          rename_i hS
          have hBz := hS.2.2.2.2.2.2.2.2
          replace hBz := Lib.hid hBz
          clear hS base d0 d1 d2 d3 d4 d5 dA dB dW
          go_wp2_with fail
          go_roundw
          case rel => exact ⟨k + 1, by omega, by go_num, he2.out, hBz.out⟩
          case measure => simp [intOf]; omega
        · have h0b : (o != 0) = true := by simpa using h0
          have he2 := Lib.hid (show sameL ms ns = false by rw [he]; simp [h0])
          clear he
          go_upto_region 6 with (fail)
          go_region_held3 (fun w' => w'.cell? ⟨b, off + k * 3, none⟩ = some (.int .i64 s1) ∧ w'.cell? ⟨b, off + k * 3 + 1, none⟩ = some (.int .i64 b1) ∧ w'.cell? ⟨b, off + k * 3 + 2, none⟩ = some (.slice A2 p1.length c2) ∧
            w'.cell? ⟨b2, off2 + k * 3, none⟩ = some (.int .i64 s3) ∧ w'.cell? ⟨b2, off2 + k * 3 + 1, none⟩ = some (.int .i64 b3) ∧ w'.cell? ⟨b2, off2 + k * 3 + 2, none⟩ = some (.slice B2 p3.length e2) ∧ RowsAt w' A2 p1 ∧ RowsAt w' B2 p3 ∧ Below w.heap.size w w')
            (first | exact ⟨d0, d1, d2, d3, d4, d5, dA, dB, dW.drew⟩ | go_keep | exact ordKeep hb1 (by first | assumption | exact ⟨by assumption, by assumption, by assumption, by assumption, by assumption, by assumption, by assumption, by assumption, by assumption⟩) | assumption)
            (first | (go_at_call 16; refine (O.out _ (by first | assumption | exact rowsL (by assumption)) (by first | assumption | exact rowsR (by assumption))).mono ?_; rintro e w1 ⟨rfl, hb1⟩))
          rename_i hS
          have hBz := hS.2.2.2.2.2.2.2.2
          replace hBz := Lib.hid hBz
          clear hS base d0 d1 d2 d3 d4 d5 dA dB dW
          go_wp2_with fail
          go_ret
          exact ⟨sret_bool he2.out.symm, hBz.out⟩
      · have hke : k = ms.length := by omega
        have k1 : ¬ (k : Int) < (ms.length : Int) := by omega
        rw [drop_end hlt, drop_end (by have := hl.out; omega)] at he
        subst hke
        replace he := Lib.hid he
        replace hW := Lib.hid hW
        go_wp2_with fail
        go_ret
        exact ⟨sret_bool he.out.symm, hW.out⟩
  · have hl0 : ((ms.length : Int) != (ns.length : Int)) = true := by simp; omega
    have he := Lib.hid (sameL_len hl)
    go_wp2_with fail
    go_ret
    exact ⟨sret_bool he.out.symm, Below.refl _ _⟩
end Go.Proofs.YtiegbnicijbpjaaDoor
