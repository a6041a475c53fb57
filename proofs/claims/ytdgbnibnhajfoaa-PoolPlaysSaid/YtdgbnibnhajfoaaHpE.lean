/- A pool's free numbers as a heap: what is put in, what is taken out. -/
import Derived.Test.YtdgbnibnhajfoaaHpD
namespace Go.Proofs.Ytdgbnibnhajfoaa
open Go.ChangeShapes Go.WideShapes Go.ChangeAt Go.RowKit
set_option linter.unusedVariables false
set_option linter.unusedSimpArgs false

theorem own_cut {w : World} {B : Nat} {e : TypeId} {g n cap m : Nat} {xs : List Value} (h : w.ownsRow B e 1 (.slice (some ⟨g, 0, none⟩) n cap) n xs) (hm : m ≤ n) : w.ownsRow B e 1 (.slice (some ⟨g, 0, none⟩) m cap) m (xs.take m) := by
  rcases h.2 with ⟨h', _⟩ | ⟨g', cap', cur, h', hb, hg, hnc, hcm, hcs, htake⟩
  · cases h'
  · injection h' with h1 _ h3
    injection h1 with h1
    injection h1 with h1
    subst h1 h3
    have hl := h.1
    refine ⟨by rw [List.length_take]; omega, .inr ⟨g, cap, cur, rfl, hb, hg, by omega, hcm, hcs, ?_⟩⟩
    have := congrArg (List.take m) htake
    rw [List.take_take, Nat.min_eq_left (by omega)] at this
    rw [Nat.mul_one]; exact this
set_option maxHeartbeats 4000000 in
theorem npop_any (B p M : Nat) (vA vF : Value) (s : PS) (w : World) (h : PX B p M vA vF s w) (n : Nat) (hn : s.free.length = n + 1) (hs : n < 1000000) :
    Calls Try.prog 56 #[.pointer (some ⟨p, 2, none⟩)] w fun e w' => e = .returned (.iface 3 (.int .i64 (hget s.free n))) ∧
      ∃ vF', PX B p M vA vF' { s with free := s.free.take n } w' ∧ PFr (fun k => k = p) w w' ∧ vF'.ownBlock = vF.ownBlock := by
  obtain ⟨n1, n2, n3, n4, n5, n6⟩ := h.ne_A
  have d2 : w.cell? ⟨p, 2, none⟩ = some vF := h.blk.cell 2
  have f2 := h.blk.free 2
  obtain ⟨g, cap, rfl, _, _, hc⟩ := h.toN.form (by omega)
  have hx := (hc n (by omega)).1
  rw [hn] at d2
  have hsame : (Value.slice (some ⟨g, 0, none⟩) s.free.length cap).ownBlock = (Value.slice (some ⟨g, 0, none⟩) n cap).ownBlock := rfl
  have hset := mset w ⟨p, 2, none⟩ (.slice (some ⟨g, 0, none⟩) n cap)
  have hend := Lib.hid (show ∃ vF', PX B p M vA vF' { s with free := s.free.take n } (w.setCell ⟨p, 2, none⟩ (.slice (some ⟨g, 0, none⟩) n cap)) ∧ PFr (fun k => k = p) w (w.setCell ⟨p, 2, none⟩ (.slice (some ⟨g, 0, none⟩) n cap)) ∧ vF'.ownBlock = (Value.slice (some ⟨g, 0, none⟩) s.free.length cap).ownBlock from by
    have hF := h.free
    rw [hn] at hF
    have hcut := own_cut hF (Nat.le_succ n)
    rw [← List.map_take] at hcut
    have hlen : (s.free.take n).length = n := by rw [List.length_take]; omega
    refine ⟨.slice (some ⟨g, 0, none⟩) n cap, ⟨h.blk.put_ 2 _, mown_set h.all (fun e => n1 e.symm) _, ?_, h.num.grown hset (fun e => n3 (by injection e with e; exact e.symm)), h.low⟩, PFr.of_grown hset fun k e => by injection e with e; exact e.symm, rfl⟩
    simp only
    rw [hlen]
    exact mown_set (p := ⟨p, 2, none⟩) hcut (fun e => n2 e.symm) _)
  have hcap : n + 1 ≤ cap := by
    have hF := h.free
    rcases hF.2 with ⟨h', _⟩ | ⟨g', cap', cur, h', hb, hg, hnc, hcm, hcs, htake⟩
    · cases h'
    · injection h' with _ _ h3
      omega
  have hcapm : cap ≤ 9223372036854775807 := by
    have hF := h.free
    rcases hF.2 with ⟨h', _⟩ | ⟨g', cap', cur, h', hb, hg, hnc, hcm, hcs, htake⟩
    · cases h'
    · injection h' with _ _ h3
      unfold maxLen at hcm
      omega
  have k0 : (0 : Int) ≤ (n : Int) := by omega
  have k1 : (n : Int) < (n : Int) + 1 := by omega
  have k2 : (n : Int) ≤ (cap : Int) := by omega
  have k3 : (n : Int) < 1000000 := by omega
  generalize hget s.free n = x at *
  clear h hc n1 n2 n3 n4 n5 n6 hset hsame
  go_enter Try.func56, Try.ntmps56
  go_wp2
  go_ret
  exact ⟨rfl, hend.out⟩
/-- what a pool's free numbers have come to -/
def FreeTo (B p M : Nat) (vA vF : Value) (s : PS) (w : World) (l : List Int) (w' : World) : Prop :=
  ∃ vF', PX B p M vA vF' { s with free := l } w' ∧ PFr (fun k => k = p ∨ vF.ownBlock = some k) w w' ∧ ∀ k, vF'.ownBlock = some k → vF.ownBlock = some k ∨ w.heap.size ≤ k
set_option maxHeartbeats 4000000 in
theorem hpush_any (B p M : Nat) (vA vF : Value) (s : PS) (w : World) (h : PX B p M vA vF s w) (hh : HeapN s.free s.free.length) (k : Int) (hs : s.free.length < 900000) :
    Calls Try.prog 35 #[.iface 75 (.pointer (some ⟨p, 2, none⟩)), .iface 3 (.int .i64 k)] w fun e w' => e = .returned (.tuple #[]) ∧ ∃ l, HeapN l l.length ∧ l.Perm (k :: s.free) ∧ FreeTo B p M vA vF s w l w' := by
  have C := Lib.hid (npush_any B p M vA vF s w h k (by omega))
  have hM := fun n => meth_push n p 2 w
  have hup := Lib.hid (UpI.push hh k)
  replace h := Lib.hid h
  obtain ⟨n, hN⟩ : ∃ n, s.free.length = n := ⟨_, rfl⟩
  have n64 : (n : Int) < 900000 := by omega
  go_enter Try.func35, Try.ntmps35
  go_wp2_with fail
  refine C.out.mono ?_
  rintro e w1 ⟨rfl, vF', h1, hf1, ho1⟩
  have hN1 := h1.toN
  have hl1 : (s.free ++ [k]).length = n + 1 := by simp [hN]
  have hU := up_any hN1 n (by show n < (s.free ++ [k]).length; omega) (by rw [← hN]; exact hup.out) (by show (s.free ++ [k]).length < _; omega)
  obtain ⟨g, cap, hv, _⟩ := hN1.form (by show 0 < (s.free ++ [k]).length; omega)
  have hc1 := hN1.cell
  simp only at hv
  rw [hl1] at hv
  rw [hv] at hc1
  have hM1 := fun m => meth_len m p 2 w1 _ _ _ hc1
  have hL := Lib.hid (fun u => lenI_any (some ⟨g, 0, none⟩) (n + 1) cap u)
  replace hU := Lib.hid hU
  replace h1 := Lib.hid h1
  replace hf1 := Lib.hid hf1
  replace ho1 := Lib.hid ho1
  replace hv := Lib.hid hv
  replace hl1 := Lib.hid hl1
  replace hN := Lib.hid hN
  clear hN1 hM C
  go_wp2_with fail
  refine (hL.out _).mono ?_
  rintro e w2 ⟨rfl, rfl⟩
  go_wp2_with fail
  refine hU.out.mono ?_
  rintro e w2 ⟨rfl, l', hh', hp', hN', hg'⟩
  have h2 := h1.out.ofN hN' hg'
  have hend := Lib.hid (show FreeTo B p M vA vF s w l' w2 from ⟨vF', h2, hf1.out.trans (PFr.of_grown (D := fun q => vF'.ownBlock = some q) hg' fun q e => e) fun q e => by
    rcases ho1.out q e with e | e
    · exact .inl (.inr e)
    · exact .inr e, ho1.out⟩)
  replace hh' := Lib.hid hh'
  replace hp' := Lib.hid hp'
  clear h2 hN' hg' hM1 hc1
  go_wp2
  refine bodyPost_end (results_none rfl _ _ _) rfl ?_
  exact ⟨rfl, l', hh'.out, hp'.out.trans (by simp), hend.out⟩
set_option maxHeartbeats 4000000 in
theorem hpop_any (B p M : Nat) (vA vF : Value) (s : PS) (w : World) (h : PX B p M vA vF s w) (hh : HeapN s.free s.free.length) (n : Nat) (hn : s.free.length = n + 1) (hs : n < 900000) :
    Calls Try.prog 32 #[.iface 75 (.pointer (some ⟨p, 2, none⟩))] w fun e w' => e = .returned (.iface 3 (.int .i64 (hget s.free 0))) ∧ ∃ l, HeapN l l.length ∧ s.free.Perm (hget s.free 0 :: l) ∧ FreeTo B p M vA vF s w l w' := by
  have hN0 := h.toN
  obtain ⟨g, cap, hv, _⟩ := hN0.form (by omega)
  have hS := swap_any hN0 (i := 0) (j := n) (by omega) (by omega) (by omega)
  have hc0 := hN0.cell
  rw [hn] at hv
  rw [hv] at hc0
  have hM0 := fun m => meth_len m p 2 w _ _ _ hc0
  have hM1 := fun m => meth_swap m p 2 w _ _ _ hc0
  have hL := Lib.hid (fun u => lenI_any (some ⟨g, 0, none⟩) (n + 1) cap u)
  have n64 : (n : Int) < 900000 := by omega
  have hdn := DnI.swap (by rw [← hn]; exact hh) hn
  have hpm := swapL_perm (l := s.free) (i := 0) (j := n) (by omega) (by omega)
  have hsl : (swapL s.free 0 n).length = n + 1 := by rw [swapL_len]; exact hn
  have hlast : hget (swapL s.free 0 n) n = hget s.free 0 := by rw [swapL_get (by omega) (by omega), if_pos rfl]
  rw [hv] at hS
  replace hS := Lib.hid hS
  replace h := Lib.hid h
  replace hdn := Lib.hid hdn
  replace hpm := Lib.hid hpm
  replace hv := Lib.hid hv
  replace hn := Lib.hid hn
  replace hsl := Lib.hid hsl
  replace hlast := Lib.hid hlast
  clear hN0
  go_enter Try.func32, Try.ntmps32
  go_wp2_with fail
  refine (hL.out _).mono ?_
  rintro e w1 ⟨rfl, rfl⟩
  go_wp2_with fail
  refine hS.out.mono ?_
  rintro e w1 ⟨rfl, hN1, hG1⟩
  rw [← hv.out] at hN1 hG1
  have h1 := h.out.ofN hN1 hG1
  have hD := down_any hN1 n (by rw [hsl.out]; omega) hdn.out (by rw [hsl.out]; omega)
  replace hD := Lib.hid hD
  replace h1 := Lib.hid h1
  replace hG1 := Lib.hid hG1
  clear hN1 hM0 hM1
  go_wp2_with fail
  refine hD.out.mono ?_
  rintro e w2 ⟨b, rfl, l', hh', hp', hk', hN2, hG2⟩
  have h2 := h1.out.ofN hN2 hG2
  have hl2 : l'.length = n + 1 := by rw [hp'.length_eq, hsl.out]
  have P := npop_any B p M vA vF _ w2 h2 n hl2 (by omega)
  have hx : hget l' n = hget s.free 0 := by rw [hk' n (Nat.le_refl _), hlast.out]
  simp only at P
  rw [hx] at P
  replace P := Lib.hid P
  have hM2 := fun m => meth_pop m p 2 w2
  have hG12 := Lib.hid (mgrown hG1.out hG2 fun k hk => .inl hk)
  have hht := Lib.hid (show HeapN (l'.take n) (l'.take n).length from by
    have hlt : (l'.take n).length = n := by rw [List.length_take]; omega
    rw [hlt]
    intro k k0 kn
    have ht : ∀ j, j < n → hget (l'.take n) j = hget l' j := fun j hj => by
      unfold hget
      rw [List.getD_eq_getElem?_getD, List.getD_eq_getElem?_getD, List.getElem?_take_of_lt hj]
    rw [ht _ (by omega), ht _ kn]
    exact hh' k k0 kn)
  have hpt := Lib.hid (show s.free.Perm (hget s.free 0 :: l'.take n) from by
    have e : l' = l'.take n ++ [hget s.free 0] := by
      have e1 := (List.take_append_drop n l').symm
      have e2 : l'.drop n = [hget s.free 0] := by
        rw [List.drop_eq_getElem_cons (by omega), List.drop_eq_nil_of_le (by omega)]
        congr 1
        rw [← hx]
        exact (hget_at (List.getElem?_eq_getElem (by omega))).symm
      rw [e2] at e1
      exact e1
    have p1 : l'.Perm (hget s.free 0 :: l'.take n) := by
      conv => lhs; rw [e]
      exact List.perm_append_singleton _ _
    exact hpm.out.symm.trans (hp'.symm.trans p1))
  clear hh' hp' hk' hN2 hG2 h2 hx hl2
  go_wp2_with fail
  refine P.out.mono ?_
  rintro e w3 ⟨rfl, vF', h3, hf3, ho3⟩
  have hend := Lib.hid (show FreeTo B p M vA vF s w (l'.take n) w3 from ⟨vF', h3, (PFr.of_grown (D := fun k => k = p ∨ vF.ownBlock = some k) hG12.out fun q e => .inr e).trans hf3 fun q e => .inl (.inl e), fun k hk => .inl (by rw [← ho3]; exact hk)⟩)
  clear h3 hf3 ho3 hM2
  go_wp2
  go_ret
  exact ⟨rfl, _, hht.out, hpt.out, hend.out⟩
end Go.Proofs.Ytdgbnibnhajfoaa
