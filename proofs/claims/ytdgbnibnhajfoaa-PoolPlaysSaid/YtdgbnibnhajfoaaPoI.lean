/- The chapter's example of layer 23. -/
import Derived.Test.YtdgbnibnhajfoaaPoH
namespace Go.Proofs.Ytdgbnibnhajfoaa
open Go.ChangeShapes Go.WideShapes Go.ChangeAt Go.RowKit
set_option linter.unusedVariables false
set_option linter.unusedSimpArgs false

/-- a pool turned by a call, none but new blocks -/
theorem POut.low {B p N : Nat} {s : PS} {w0 w w' : World} (h : POut B p (fun k => N ≤ k) w s w') (hb : Below w0.heap.size w0 w) (hN : w0.heap.size = N) : PAt B p (fun k => N ≤ k) s w' ∧ Below w0.heap.size w0 w' := by
  have := hb.size
  exact ⟨h.1.more fun k hk => by rcases hk with hk | hk <;> omega, h.2.below (by subst hN; exact hb) fun k hk => by omega⟩
theorem below_mid {w0 w w' : World} (hb : Below w0.heap.size w0 w) (h : Below w.heap.size w w') : Below w0.heap.size w0 w' := mmore hb h
def aw1 : PS := addP (newS 3) (-1, 5, true)
def aw2 : PS := addP aw1 (0, 7, false)
def aw3 : PS := holdP aw2 1 ⟨0, 7, false, 1, 1⟩
theorem lit_rows (w : World) (cs : List Value) (ks : List Int) (b : Nat) (c : Nat) (hb : Blk w b 3 (ks.map (Value.int .i64)).toArray) : RowsAt (w.alloc (.cells #[.slice (some ⟨b, 0, none⟩) ks.length c] 44)) (some ⟨w.heap.size, 0, none⟩) [ks] := by
  intro _
  refine ⟨_, 0, rfl, fun i l hi => ?_⟩
  have h0 : i = 0 := by have := (List.getElem?_eq_some_iff.1 hi).1; simpa using this
  subst h0
  simp at hi
  subst hi
  refine ⟨.slice (some ⟨b, 0, none⟩) ks.length c, by simp, _, c, rfl, fun _ => ⟨b, 0, rfl, fun j z hz => ?_⟩⟩
  have hb2 := hb.kept (m1 w (.cells #[.slice (some ⟨b, 0, none⟩) ks.length c] 44))
  rw [Nat.zero_add, hb2.cell, List.getElem?_toArray, List.getElem?_map, hz]
  rfl
set_option maxHeartbeats 8000000 in
set_option maxRecDepth 100000 in
theorem awake23 (w : World) : Calls Try.prog 10 #[] w fun e w' => e = .returned (.bool true) ∧ Below w.heap.size w w' := by
  have C1 := Lib.hid (new_any 3 w)
  obtain ⟨N, hN⟩ : ∃ n, w.heap.size = n := ⟨_, rfl⟩
  go_enter Try.func10, Try.ntmps10
  go_wp2_with fail
  refine C1.out.mono ?_
  rintro e w1 ⟨p, rfl, hP, hb⟩
  rw [hN] at hP
  clear C1
  have C2 := Lib.hid (add_new_root_true hP 5 (by decide) rfl (by decide) rfl (by decide))
  replace hb := Lib.hid hb
  clear hP
  go_wp2_with fail
  refine C2.out.mono ?_
  rintro e w2 ⟨rfl, hP⟩
  obtain ⟨hP, hb2⟩ := hP.low hb.out hN
  clear C2 hb
  have C3 := Lib.hid (add_new_kid_false (s := aw1) hP 7 (by decide) 0 ⟨-1, 5, true, 1, 1⟩ (by rfl) (by decide) (by decide) (by decide) rfl (by decide))
  replace hb2 := Lib.hid hb2
  clear hP
  go_wp2_with fail
  refine C3.out.mono ?_
  rintro e w3 ⟨rfl, hP⟩
  obtain ⟨hP, hb⟩ := hP.low hb2.out hN
  clear C3 hb2
  have C4 := Lib.hid (add_there_kid_false (s := aw2) hP 7 (by decide) 0 ⟨-1, 5, true, 1, 2⟩ (by rfl) 1 ⟨0, 7, false, 1, 1⟩ (by decide) (by rfl) (by decide) (by decide))
  replace hb := Lib.hid hb
  clear hP
  go_wp2_with fail
  refine C4.out.mono ?_
  rintro e w4 ⟨rfl, hP⟩
  obtain ⟨hP, hb2⟩ := hP.low hb.out hN
  clear C4 hb
  have C5 := held_any (s := aw3) hP 1 (by decide)
  rw [show heldP aw3 1 = 2 by rfl] at C5
  replace C5 := Lib.hid C5
  have C6 := path_any (s := aw3) hP 1 (by decide) [⟨0, 7, false, 2, 2⟩, ⟨-1, 5, true, 1, 2⟩] ⟨by rfl, by rfl, by rfl⟩ (by decide) (by
    intro k c hk
    match k, hk with
    | 0, hk => cases hk; decide
    | 1, hk => cases hk; decide
    | k + 2, hk => simp [aw3, aw2, aw1, holdP, addP, bump, newS, newC, findP] at hk)
  rw [show pathL [⟨0, 7, false, 2, 2⟩, ⟨-1, 5, true, 1, 2⟩] = [[5, 7]] by rfl] at C6
  replace C6 := Lib.hid C6
  replace hP := Lib.hid hP
  replace hb2 := Lib.hid hb2
  go_wp2_with fail
  refine C5.out.mono ?_
  rintro e w5 ⟨rfl, rfl⟩
  go_wp2_with fail
  refine C6.out.mono ?_
  rintro e w6 ⟨A, c, rfl, hR, hb6⟩
  have hm := m2 w6 (.cells #[.int .i64 5, .int .i64 7] 3) (.cells #[.slice (some ⟨w6.heap.size, 0, none⟩) 2 2] 44)
  have hR1 := hR.later hm
  have hR2 := lit_rows _ [] [5, 7] w6.heap.size 2 (Blk.made w6 3 #[.int .i64 5, .int .i64 7])
  have hs6 : (w6.alloc (.cells #[.int .i64 5, .int .i64 7] 3)).heap.size = w6.heap.size + 1 := by simp
  rw [hs6] at hR2
  have C7 := Lib.hid (same_any A _ 1 1 c 1 [[5, 7]] [[5, 7]] _ hR1 hR2 rfl rfl (by decide) (by decide) (by decide) (by decide))
  have hP6 := Lib.hid (hP.out.later (hb6.trans (hm.mono hb6.size)))
  have hb7 := Lib.hid (below_mid hb2.out (mmore hb6 hm))
  clear hR hR1 hR2 hm hb6 hb2 hP C5 C6
  go_wp2_with fail
  refine C7.out.mono ?_
  rintro e w7 ⟨rfl, n, rfl⟩
  have hP7 := hP6.out.later (below_dn _ n)
  have hb8 := Lib.hid (below_mid hb7.out (below_dn _ n))
  generalize ((w6.alloc (.cells #[.int .i64 5, .int .i64 7] 3)).alloc (.cells #[.slice (some ⟨w6.heap.size, 0, none⟩) 2 2] 44)).drewN n = w8 at *
  have C8 := used_any hP7
  rw [show usedP (holdP aw2 1 ⟨0, 7, false, 1, 1⟩) = 2 by rfl] at C8
  replace C8 := Lib.hid C8
  clear hP7 hP6 hb7 C7
  go_wp2_with fail
  refine C8.out.mono ?_
  rintro e w9 ⟨rfl, n', rfl⟩
  go_wp2
  go_ret
  exact ⟨rfl, below_mid hb8.out (below_dn _ _)⟩
theorem drop_nil (i : Int) (w : World) : Calls Try.prog 15 #[.pointer none, .int .i64 i] w fun e w' => e = .returned (.bool false) ∧ w = w' := by
  have C := Lib.hid (fun u => find_nil i u)
  go_enter Try.func15, Try.ntmps15
  go_wp2_with fail
  refine (C.out _).mono ?_
  rintro e w1 ⟨rfl, rfl⟩
  go_wp2
  go_ret
  exact ⟨rfl, rfl⟩
end Go.Proofs.Ytdgbnibnhajfoaa
