/- The program's Good, as a contract, for every code. -/
import Derived.Test.YteniipolcdnmfaaVmF
namespace Go.Proofs.Yteniipolcdnmfaa
open Go.ChangeShapes Go.WideShapes Go.ChangeAt Go.RowKit Go.Fl
set_option linter.unusedVariables false
set_option linter.unusedSimpArgs false

theorem infoB : (Try.prog.info? 4).map (fun i => (i.zero, i.size, i.bytes)) = some (some (.bool false), 1, 1) := by kernel_rfl
theorem noes_eq (n : Nat) : madeCells (#[.bool false] : Array Value) (n * 1) = boolsA (List.replicate n false) := by
  apply Array.ext (by simp [boolsA, size_madeCells])
  intro i h1 h2
  simp [madeCells, boolsA, Nat.mod_one]
theorem make_noes (w : World) (n : Nat) (hn : n ≤ 1024) : (Instr.makeSlice 64 (.int .i64 (n : Int)) (.int .i64 (n : Int))).run Try.prog w = .ok (.slice (some ⟨w.heap.size, 0, none⟩) n n) (w.alloc (.cells (boolsA (List.replicate n false)) 4)) := by
  obtain ⟨i0, hi, hz0, hz1, hz2⟩ := info_parts infoB
  have := run_make (P := Try.prog) w 64 4 i0 _ Try.underlying64 hi hz0 .i64 .i64 (n : Int) (n : Int) (by omega) (by omega) (by rw [hz2]; omega) (by omega)
  rw [hz1, Int.toNat_natCast] at this
  rw [this, ← noes_eq]
  rfl
def BlW (B n : Nat) : Value → World → Prop := fun v w => ∃ g, v = .slice (some ⟨g, 0, none⟩) n n ∧ B ≤ g ∧ Bl w g (List.replicate n false)
theorem blw_mono (B n : Nat) : G.MonoW (BlW B n) := fun _ _ _ ⟨g, e, hB, h⟩ hb => ⟨g, e, hB, h.kept hb⟩
def WaW (B nr ns : Nat) : Value → World → Prop := fun v w => ∃ g h, v = .agg #[.slice (some ⟨g, 0, none⟩) nr nr, .slice (some ⟨h, 0, none⟩) ns ns] ∧ B ≤ g ∧ B ≤ h ∧ g ≠ h ∧ Bl w g (List.replicate nr false) ∧ Bl w h (List.replicate ns false)
theorem waw_mono (B nr ns : Nat) : G.MonoW (WaW B nr ns) := fun _ _ _ ⟨g, h, e, h1, h2, h3, h4, h5⟩ hb => ⟨g, h, e, h1, h2, h3, h4.kept hb, h5.kept hb⟩
theorem goodL_here (c : CodeP) (s : WrS) (l : List I4) (k : Nat) (x : I4) (h : l[k]? = some x) :
    goodL c s (l.drop k) = ((decide (k + 1 = l.length) == decide (x.1 = 52)) && formedB x && thereB c x && hasB s x && goodL c (noteP s x) (l.drop (k + 1))) := by
  obtain ⟨hk, e⟩ := List.getElem?_eq_some_iff.1 h
  rw [List.drop_eq_getElem_cons hk, e]
  have : (decide (l.drop (k + 1) = [])) = decide (k + 1 = l.length) := by
    congr 1
    rw [List.drop_eq_nil_iff]
    exact propext ⟨fun h => by omega, fun h => by omega⟩
  show ((decide (l.drop (k + 1) = []) == decide (x.1 = 52)) && _ && _ && _ && _) = _
  rw [this]
theorem there_slot {c : CodeP} {op d a b : Int} (h : thereB c (op, d, a, b) = true) : op = 53 ∨ op = 54 → 0 ≤ a ∧ a < c.slots := by
  intro ho
  unfold thereB at h
  simp only [Bool.and_eq_true] at h
  have h2 := h.2
  rw [if_neg (by omega), if_neg (by omega), if_pos ho] at h2
  simpa [belowB] using h2
theorem there_reg {c : CodeP} {op d a b : Int} (h : thereB c (op, d, a, b) = true) : writesB op = true → 0 ≤ d ∧ d < c.regs := by
  intro hw
  unfold thereB at h
  simp only [Bool.and_eq_true] at h
  have h1 := h.1
  rw [hw] at h1
  simpa [belowB] using h1
/-- between two rounds, and within one: where the code, what has been written, and the instruction lie -/
structure GJ (w : World) (c : CodeP) (v : CV) (W gr gs : Nat) (br bs : List Bool) (u : World) : Prop where
  code : CodeAt u w.heap.size c v
  wr : WrIn W gr gs br bs u
  bel : Below w.heap.size w u
theorem GJ.later {w u u1 : World} {c : CodeP} {v : CV} {W gr gs : Nat} {br bs : List Bool} (h : GJ w c v W gr gs br bs u) (hb : Below u.heap.size u u1) : GJ w c v W gr gs br bs u1 := ⟨h.code.later hb, h.wr.later hb, below_more h.bel hb⟩
theorem GJ.step {w u u1 : World} {c : CodeP} {v : CV} {W gr gs : Nat} {br bs br' bs' : List Bool} (h : GJ w c v W gr gs br bs u) (hw : WrIn W gr gs br' bs' u1) (hb : ButRS gr gs u u1) (hg : w.heap.size + 1 ≤ gr ∧ w.heap.size + 1 ≤ gs) : GJ w c v W gr gs br' bs' u1 := by
  have cel : ∀ i x, u.cell? ⟨w.heap.size, i, none⟩ = some x → u1.cell? ⟨w.heap.size, i, none⟩ = some x := fun i x hv => by
    rw [World.cell?_of_block (hb.block w.heap.size (mblock hv) (by omega) (by omega))]; exact hv
  obtain ⟨a0, a1, a2, a3, a4⟩ := h.code
  exact ⟨⟨cel _ _ a0, cel _ _ a1, cel _ _ a2, cel _ _ a3, cel _ _ a4⟩, hw, hb.below h.bel (by omega) (by omega)⟩

set_option maxHeartbeats 8000000 in
set_option maxRecDepth 100000 in
theorem goodlist_any (c : CodeP) (v : CV) (w : World) (hc : CodeIn w c v) (hsz : sizesB c = true) : Calls Try.prog 21 #[codeV c v] w (BOut (goodL c noneW c.list) w) := by
  obtain ⟨xA, xC, cA, cC, lA, lC⟩ := v
  generalize hr : goodL c noneW c.list = r at *
  replace hE := Lib.hid hr.symm
  clear hr
  obtain ⟨nr, hr0, hnr⟩ : ∃ nr : Nat, (nr : Int) = c.regs ∧ nr ≤ 1024 := ⟨c.regs.toNat, by simp [sizesB] at hsz; omega, by simp [sizesB] at hsz; omega⟩
  obtain ⟨ns, hs0, hns⟩ : ∃ ns : Nat, (ns : Int) = c.slots ∧ ns ≤ 1024 := ⟨c.slots.toNat, by simp [sizesB] at hsz; omega, by simp [sizesB] at hsz; omega⟩
  have hlen : c.list.length ≤ 1024 := by simp [sizesB] at hsz; omega
  replace hr0 := Lib.hid hr0
  replace hs0 := Lib.hid hs0
  replace hnr := Lib.hid hnr
  replace hns := Lib.hid hns
  replace hlen := Lib.hid hlen
  have hcode : CodeAt (w.alloc (codeO c ⟨xA, xC, cA, cC, lA, lC⟩)) w.heap.size c ⟨xA, xC, cA, cC, lA, lC⟩ := CodeAt.new w c ⟨xA, xC, cA, cC, lA, lC⟩
  have hu := m1 w (codeO c ⟨xA, xC, cA, cC, lA, lC⟩)
  unfold codeO at hcode hu
  show Calls _ _ #[.agg #[.int .i64 c.regs, .int .i64 c.slots, .slice xA c.ins.length xC, .slice cA c.cs.length cC, .slice lA c.list.length lC]] _ _
  clear hsz
  go_enter Try.func21, Try.ntmps21
  go_upto_region 1 with (fail)
  generalize w.alloc (.cells #[.int .i64 c.regs, .int .i64 c.slots, .slice xA c.ins.length xC, .slice cA c.cs.length cC, .slice lA c.list.length lC] 26) = u0 at *
  have KD := keepsD_own [9, 12]
  have KC : G.KeepsC (fun w' => CodeAt w' w.heap.size c ⟨xA, xC, cA, cC, lA, lC⟩ ∧ Below w.heap.size w w') := fun _ _ h hb => ⟨h.1.later hb, below_more h.2 hb⟩
  refine G.region_wordsG 8 (fun w' => CodeAt w' w.heap.size c ⟨xA, xC, cA, cC, lA, lC⟩ ∧ Below w.heap.size w w') (DistO [9, 12]) [G.isW (.pointer (some ⟨w.heap.size, 0, none⟩)), G.isW (.int .i64 (nr : Int)), BlW (w.heap.size + 1) nr, G.isW (.pointer (some ⟨w.heap.size, 1, none⟩)), G.isW (.int .i64 (ns : Int)), BlW (w.heap.size + 1) ns, WaW (w.heap.size + 1) nr ns, BkW (w.heap.size + 1) 66 #[.slice none 0 0, .slice none 0 0]] (by kernel_rfl) (by repeat' (first | exact G.monoL_nil | exact G.is_mono _ | exact G.any_mono | exact blw_mono _ _ | exact waw_mono _ _ _ | exact bkw_mono _ _ _ | refine G.monoL_cons ?_ ?_)) (by kernel_rfl) (by kernel_rfl) ⟨hcode, hu.drew⟩ (disto_none (by intro p hp; simp at hp; rcases hp with rfl | rfl <;> rfl)) ?_ ?_
  ·
    refine G.stepsL_cons (fun a u hc hdd hd hk hdep => ?_) ?_
    ·
      have d1 : (a.tmps[1]?).getD undef = (.pointer (some ⟨w.heap.size, 0, none⟩)) := hk 1 (by kernel_rfl)
      refine G.step_val KC KD hc hdd rfl (.pointer (some ⟨w.heap.size, 0, none⟩)) u (G.wanted_plain rfl) ?_ rfl (Below.refl _ _)
      first | (go_simp; done) | rfl | (simp [go_sem, *]; done)
    refine G.stepsL_cons (fun a u hc hdd hd hk hdep => ?_) ?_
    ·
      have d7 : (a.tmps[7]?).getD undef = (.pointer (some ⟨w.heap.size, 0, none⟩)) := hdep ⟨0, .data⟩ (by simp) rfl
      refine G.step_val KC KD hc hdd rfl (.int .i64 (nr : Int)) u (G.wanted_plain rfl) ?_ rfl (Below.refl _ _)
      obtain ⟨s0, s1, s2, s3, s4⟩ := hc.1
      dsimp only at s2 s3 s4
      rw [← hr0.out] at s0
      rw [← hs0.out] at s1
      first | (go_simp; done) | rfl | (simp [go_sem, *]; done)
    refine G.stepsL_cons (fun a u hc hdd hd hk hdep => ?_) ?_
    ·
      have d8 : (a.tmps[8]?).getD undef = (.int .i64 (nr : Int)) := hdep ⟨1, .data⟩ (by simp) rfl
      have hmk := make_noes u nr hnr.out
      refine G.step_valD KC hc (.slice (some ⟨u.heap.size, 0, none⟩) nr nr) (u.alloc (.cells (boolsA (List.replicate nr false)) 4)) (G.wanted_plain rfl) ?_ ⟨u.heap.size, rfl, mblock hc.1.1, Blk.made u _ _⟩ (m1 _ _) (disto_new 9 _ _ _ hdd)
      first | (go_simp; done) | rfl | (simp [go_sem, *]; done)
    refine G.stepsL_cons (fun a u hc hdd hd hk hdep => ?_) ?_
    ·
      have d1 : (a.tmps[1]?).getD undef = (.pointer (some ⟨w.heap.size, 0, none⟩)) := hk 1 (by kernel_rfl)
      refine G.step_val KC KD hc hdd rfl (.pointer (some ⟨w.heap.size, 1, none⟩)) u (G.wanted_plain rfl) ?_ rfl (Below.refl _ _)
      first | (go_simp; done) | rfl | (simp [go_sem, *]; done)
    refine G.stepsL_cons (fun a u hc hdd hd hk hdep => ?_) ?_
    ·
      have d10 : (a.tmps[10]?).getD undef = (.pointer (some ⟨w.heap.size, 1, none⟩)) := hdep ⟨3, .data⟩ (by simp) rfl
      refine G.step_val KC KD hc hdd rfl (.int .i64 (ns : Int)) u (G.wanted_plain rfl) ?_ rfl (Below.refl _ _)
      obtain ⟨s0, s1, s2, s3, s4⟩ := hc.1
      dsimp only at s2 s3 s4
      rw [← hr0.out] at s0
      rw [← hs0.out] at s1
      first | (go_simp; done) | rfl | (simp [go_sem, *]; done)
    refine G.stepsL_cons (fun a u hc hdd hd hk hdep => ?_) ?_
    ·
      have d11 : (a.tmps[11]?).getD undef = (.int .i64 (ns : Int)) := hdep ⟨4, .data⟩ (by simp) rfl
      have hmk := make_noes u ns hns.out
      refine G.step_valD KC hc (.slice (some ⟨u.heap.size, 0, none⟩) ns ns) (u.alloc (.cells (boolsA (List.replicate ns false)) 4)) (G.wanted_plain rfl) ?_ ⟨u.heap.size, rfl, mblock hc.1.1, Blk.made u _ _⟩ (m1 _ _) (disto_new 12 _ _ _ hdd)
      first | (go_simp; done) | rfl | (simp [go_sem, *]; done)
    refine G.stepsL_cons (fun a u hc hdd hd hk hdep => ?_) ?_
    ·
      have d9' : (BlW (w.heap.size + 1) nr) ((a.tmps[9]?).getD undef) u := hdep ⟨2, .data⟩ (by simp) rfl
      obtain ⟨g2, d9, hg2, h2⟩ := d9'
      have d12' : (BlW (w.heap.size + 1) ns) ((a.tmps[12]?).getD undef) u := hdep ⟨5, .data⟩ (by simp) rfl
      obtain ⟨g5, d12, hg5, h5⟩ := d12'
      have hne : g2 ≠ g5 := fun e => (hdd 9 (by simp) g2 (by unfold slotO; rw [d9]; rfl)).2 12 (by simp) (by decide) (by unfold slotO; rw [d12, e]; rfl)
      refine G.step_val KC KD hc hdd rfl (.agg #[.slice (some ⟨g2, 0, none⟩) nr nr, .slice (some ⟨g5, 0, none⟩) ns ns]) u (G.wanted_plain rfl) ?_ ⟨g2, g5, rfl, hg2, hg5, hne, h2, h5⟩ (Below.refl _ _)
      first | (go_simp; done) | rfl | (simp [go_sem, *]; done)
    refine G.stepsL_cons (fun a u hc hdd hd hk hdep => ?_) ?_
    ·
      refine G.step_val KC KD hc hdd rfl (.pointer (some ⟨u.heap.size, 0, none⟩)) (u.alloc (.cells #[.slice none 0 0, .slice none 0 0] 66)) (G.wanted_plain rfl) ?_ ⟨u.heap.size, rfl, mblock hc.1.1, Blk.made u _ _⟩ (m1 _ _)
      first | (go_simp; done) | rfl | (simp [go_sem, *]; done)
    exact G.stepsL_nil
  intro vs' wN hN hD hh
  obtain ⟨gr, gs, e6, hgr, hgs, hne, hR, hS⟩ : WaW (w.heap.size + 1) nr ns (vs' 6) wN := by
    obtain ⟨-, -, -, -, -, -, eX, -⟩ := hh
    exact eX
  obtain ⟨M, e7, hM, hB⟩ : BkW (w.heap.size + 1) 66 #[.slice none 0 0, .slice none 0 0] (vs' 7) wN := by
    obtain ⟨-, -, -, -, -, -, -, eX, -⟩ := hh
    exact eX
  clear hh hD hcode hu
  obtain ⟨hcode, hu⟩ := hN
  set_option maxRecDepth 100000 in simp only [List.take_succ_cons, List.take_zero, putAll, Act.put, List.setIfInBounds_toArray, List.set_cons_zero, List.set_cons_succ, Nat.reduceAdd, e6, e7]
  have b0 : wN.cell? ⟨M, 0, none⟩ = some (.slice none 0 0) := hB.cell 0
  have b1 : wN.cell? ⟨M, 1, none⟩ = some (.slice none 0 0) := hB.cell 1
  have f0 := hB.free 0
  have f1 := hB.free 1
  have nR : M ≠ gr := fun e => by
    subst e; unfold Bl Blk at hR; unfold Blk at hB; rw [hB] at hR; injection hR with h1; injection h1 with _ h1; exact absurd h1 (by decide)
  have nS : M ≠ gs := fun e => by
    subst e; unfold Bl Blk at hS; unfold Blk at hB; rw [hB] at hS; injection hS with h1; injection h1 with _ h1; exact absurd h1 (by decide)
  have nM : M ≠ w.heap.size := by omega
  have r0 : Blk ((wN.setCell ⟨M, 0, none⟩ (.slice (some ⟨gr, 0, none⟩) nr nr)).setCell ⟨M, 1, none⟩ (.slice (some ⟨gs, 0, none⟩) ns ns)) M 66 #[.slice (some ⟨gr, 0, none⟩) nr nr, .slice (some ⟨gs, 0, none⟩) ns ns] := by
    have := (hB.put_ 0 (.slice (some ⟨gr, 0, none⟩) nr nr)).put_ 1 (.slice (some ⟨gs, 0, none⟩) ns ns)
    simpa using this
  have hR2 : Bl ((wN.setCell ⟨M, 0, none⟩ (.slice (some ⟨gr, 0, none⟩) nr nr)).setCell ⟨M, 1, none⟩ (.slice (some ⟨gs, 0, none⟩) ns ns)) gr (List.replicate nr false) := Blk.else_ (p := ⟨M, 1, none⟩) (Blk.else_ (p := ⟨M, 0, none⟩) hR nR _) nR _
  have hS2 : Bl ((wN.setCell ⟨M, 0, none⟩ (.slice (some ⟨gr, 0, none⟩) nr nr)).setCell ⟨M, 1, none⟩ (.slice (some ⟨gs, 0, none⟩) ns ns)) gs (List.replicate ns false) := Blk.else_ (p := ⟨M, 1, none⟩) (Blk.else_ (p := ⟨M, 0, none⟩) hS nS _) nS _
  have hcode2 : CodeAt ((wN.setCell ⟨M, 0, none⟩ (.slice (some ⟨gr, 0, none⟩) nr nr)).setCell ⟨M, 1, none⟩ (.slice (some ⟨gs, 0, none⟩) ns ns)) w.heap.size c ⟨xA, xC, cA, cC, lA, lC⟩ := by
    obtain ⟨a0, a1, a2, a3, a4⟩ := hcode
    refine ⟨?_, ?_, ?_, ?_, ?_⟩ <;> (rw [World.cell?_setCell_other _ _ _ _ (fun e => nM (by injection e)), World.cell?_setCell_other _ _ _ _ (fun e => nM (by injection e))]; assumption)
  have hu2 := (hu.setCell (p := ⟨M, 0, none⟩) (by show w.heap.size ≤ M; omega) (.slice (some ⟨gr, 0, none⟩) nr nr)).setCell (p := ⟨M, 1, none⟩) (by show w.heap.size ≤ M; omega) (.slice (some ⟨gs, 0, none⟩) ns ns)
  refine wpAny_ready (rs := [8]) (by kernel_rfl) (by simp) ?_
  refine AllReady.cons rfl (fun K hK => ?_) AllReady.nil
  go_simp
  refine hK _ _ ?_
  clear hK K b0 b1 f0 f1 e6 e7 hB hcode hu hR hS nM
  refine wpAny_done (by kernel_rfl) ?_ _
  generalize (wN.setCell ⟨M, 0, none⟩ (.slice (some ⟨gr, 0, none⟩) nr nr)).setCell ⟨M, 1, none⟩ (.slice (some ⟨gs, 0, none⟩) ns ns) = u at *
  have hJ : GJ w c ⟨xA, xC, cA, cC, lA, lC⟩ M gr gs (List.replicate nr false) (List.replicate ns false) u := ⟨hcode2, ⟨by simpa using r0.cell 0, by simpa using r0.cell 1, hR2, hS2, ⟨nR, nS⟩, hne, by simp; have := hnr.out; omega, by simp; have := hns.out; omega⟩, hu2⟩
  have hg := Lib.hid (And.intro hgr hgs)
  have hl := hcode2.2.2.2.2
  dsimp only at hl
  replace hE := Lib.hid (show r = goodL c (bfn (List.replicate nr false), bfn (List.replicate ns false)) c.list by rw [hE.out, bfn_none, bfn_none]; rfl)
  have hb0 : (List.replicate nr false).length = nr ∧ (List.replicate ns false).length = ns := by simp
  have hlist := Lib.hid (show QuadAt w lA c.list from hc.list)
  replace hJ := Lib.hid hJ
  replace hb0 := Lib.hid hb0
  clear hgr hgs hne nR nS r0 hR2 hS2 hcode2 hu2 hM hc
  generalize List.replicate nr false = br0 at *
  generalize List.replicate ns false = bs0 at *
  go_wp2_with fail
  go_loopw [17] (fun i wr => ∃ (k : Nat) (br bs : List Bool), k ≤ c.list.length ∧ i = .int .i64 (k : Int) ∧ goodL c (bfn br0, bfn bs0) c.list = goodL c (bfn br, bfn bs) (c.list.drop k) ∧ br.length = nr ∧ bs.length = ns ∧ GJ w c ⟨xA, xC, cA, cC, lA, lC⟩ M gr gs br bs wr) (fun i _ => c.list.length - (intOf i).toNat)
  case atStart => exact ⟨0, br0, bs0, Nat.zero_le _, rfl, by simp, hb0.out.1, hb0.out.2, hJ.out⟩
  case round =>
    obtain ⟨k, br, bs, hk, rfl, hgo, hbr, hbs, hJr⟩ := hrel
    clear hJ hl hb0
    have hJ := hJr
    replace hbr := Lib.hid hbr
    replace hbs := Lib.hid hbs
    by_cases hlt : k < c.list.length
    · obtain ⟨bb, off, rfl, hcells⟩ := hlist.out (by omega)
      have hx := List.getElem?_eq_getElem hlt
      obtain ⟨q0, q1, q2, q3⟩ := hcells k _ hx
      rw [goodL_here c _ c.list k _ hx] at hgo
      replace q0 := cell_later hJ.bel q0
      replace q1 := cell_later hJ.bel q1
      replace q2 := cell_later hJ.bel q2
      replace q3 := cell_later hJ.bel q3
      have hl4 := hJ.code.2.2.2.2
      dsimp only at hl4
      clear hcells hx
      have hlen2 := hlen.out
      have hlast : ((k : Int) == (c.list.length : Int) - 1) = decide (k + 1 = c.list.length) := by
        by_cases e : k + 1 = c.list.length
        · have e2 : (k : Int) = (c.list.length : Int) - 1 := by omega
          simp [e, e2]
        · have e2 : ¬ (k : Int) = (c.list.length : Int) - 1 := by omega
          simp [e, e2]
      have hwr : IntKind.i64.wrap ((c.list.length : Int) - 1) = (c.list.length : Int) - 1 := by rw [IntKind.wrap_i64]; omega
      generalize c.list[k] = x at *
      obtain ⟨op, d, ia, ib⟩ := x
      simp only at hgo q0 q1 q2 q3
      have h52 : (op == 52) = decide (op = 52) := beqd op 52
      have hF := formed_any op d ia ib
      have hT := there_any c ⟨xA, xC, cA, cC, some ⟨bb, off, none⟩, lC⟩ op d ia ib
      unfold codeV at hT
      dsimp only at hT
      have hts := there_slot (c := c) (op := op) (d := d) (a := ia) (b := ib)
      have htr := there_reg (c := c) (op := op) (d := d) (a := ia) (b := ib)
      rw [← hr0.out] at htr
      rw [← hs0.out] at hts
      have hH := fun u hw hp => has_any M gr gs br bs op d ia ib u hw hp
      have hN := fun u hw hp hq => note_any M gr gs br bs op d ia ib u hw hp hq
      generalize decide (k + 1 = c.list.length) = lb at *
      generalize decide (op = 52) = ob at *
      generalize formedB (op, d, ia, ib) = bF at *
      generalize thereB c (op, d, ia, ib) = bT at *
      generalize hasB (bfn br, bfn bs) (op, d, ia, ib) = bH at *
      generalize noteP (bfn br, bfn bs) (op, d, ia, ib) = ss at *
      generalize goodL c (bfn br0, bfn bs0) c.list = z at *
      replace hgo := Lib.hid hgo
      replace hF := Lib.hid hF
      replace hT := Lib.hid hT
      replace hN := Lib.hid hN
      replace hH := Lib.hid hH
      replace hts := Lib.hid hts
      replace htr := Lib.hid htr
      have k0 : (0 : Int) ≤ (k : Int) := by omega
      have k1 : (k : Int) < (c.list.length : Int) := by omega
      have hb := m1 wr (.cells #[.int .i64 op, .int .i64 d, .int .i64 ia, .int .i64 ib] 42)
      have hi : InsAt (wr.alloc (.cells #[.int .i64 op, .int .i64 d, .int .i64 ia, .int .i64 ib] 42)) wr.heap.size (op, d, ia, ib) := insAt_new wr (op, d, ia, ib)
      replace hJ := hJ.later hb
      clear hJr hb hlist
      obtain ⟨s0, s1, s2, s3, s4⟩ := hJ.code
      dsimp only at s2 s3 s4
      obtain ⟨i0, i1, i2, i3⟩ := id hi
      have hlb : ob = lb ∨ ob = !lb := by cases lb <;> cases ob <;> simp
      rcases hlb with rfl | rfl
      · cases bF with
        | false =>
          go_upto_region 5 with (fail)
          generalize wr.alloc (.cells #[.int .i64 op, .int .i64 d, .int .i64 ia, .int .i64 ib] 42) = u1 at *
          clear q0 q1 q2 q3
          go_wp2_with fail
          refine (hF.out _).mono ?_; rintro e w2 ⟨rfl, hb1⟩
          replace hJ := hJ.later hb1
          replace hi := hi.later hb1
          clear hb1 s0 s1 s2 s3 s4 i0 i1 i2 i3
          obtain ⟨s0, s1, s2, s3, s4⟩ := hJ.code
          dsimp only at s2 s3 s4
          obtain ⟨i0, i1, i2, i3⟩ := id hi
          have hgo2 := Lib.hid (show false = r by rw [hE.out, hgo.out]; simp)
          have hB := hJ.bel
          clear hJ
          go_wp2
          go_ret
          exact bout_eq hgo2.out hB
        | true =>
          cases bT with
          | false =>
            go_upto_region 5 with (fail)
            generalize wr.alloc (.cells #[.int .i64 op, .int .i64 d, .int .i64 ia, .int .i64 ib] 42) = u1 at *
            clear q0 q1 q2 q3
            go_wp2_with fail
            refine (hF.out _).mono ?_; rintro e w2 ⟨rfl, hb1⟩
            replace hJ := hJ.later hb1
            replace hi := hi.later hb1
            clear hb1 s0 s1 s2 s3 s4 i0 i1 i2 i3
            obtain ⟨s0, s1, s2, s3, s4⟩ := hJ.code
            dsimp only at s2 s3 s4
            obtain ⟨i0, i1, i2, i3⟩ := id hi
            go_wp2_with fail
            refine (hT.out _).mono ?_; rintro e w3 ⟨rfl, hb1⟩
            replace hJ := hJ.later hb1
            replace hi := hi.later hb1
            clear hb1 s0 s1 s2 s3 s4 i0 i1 i2 i3
            obtain ⟨s0, s1, s2, s3, s4⟩ := hJ.code
            dsimp only at s2 s3 s4
            obtain ⟨i0, i1, i2, i3⟩ := id hi
            have hgo2 := Lib.hid (show false = r by rw [hE.out, hgo.out]; simp)
            have hB := hJ.bel
            clear hJ
            go_wp2
            go_ret
            exact bout_eq hgo2.out hB
          | true =>
            cases bH with
            | false =>
              go_upto_region 5 with (fail)
              generalize wr.alloc (.cells #[.int .i64 op, .int .i64 d, .int .i64 ia, .int .i64 ib] 42) = u1 at *
              clear q0 q1 q2 q3
              go_wp2_with fail
              refine (hF.out _).mono ?_; rintro e w2 ⟨rfl, hb1⟩
              replace hJ := hJ.later hb1
              replace hi := hi.later hb1
              clear hb1 s0 s1 s2 s3 s4 i0 i1 i2 i3
              obtain ⟨s0, s1, s2, s3, s4⟩ := hJ.code
              dsimp only at s2 s3 s4
              obtain ⟨i0, i1, i2, i3⟩ := id hi
              go_wp2_with fail
              refine (hT.out _).mono ?_; rintro e w3 ⟨rfl, hb1⟩
              replace hJ := hJ.later hb1
              replace hi := hi.later hb1
              clear hb1 s0 s1 s2 s3 s4 i0 i1 i2 i3
              obtain ⟨s0, s1, s2, s3, s4⟩ := hJ.code
              dsimp only at s2 s3 s4
              obtain ⟨i0, i1, i2, i3⟩ := id hi
              go_wp2_with fail
              refine (hH.out _ hJ.wr (fun h => by have := hts.out (by first | rfl | trivial) (.inr h); rw [hbs.out]; exact this)).mono ?_; rintro e w4 ⟨rfl, hb1⟩
              replace hJ := hJ.later hb1
              replace hi := hi.later hb1
              clear hb1 s0 s1 s2 s3 s4 i0 i1 i2 i3
              obtain ⟨s0, s1, s2, s3, s4⟩ := hJ.code
              dsimp only at s2 s3 s4
              obtain ⟨i0, i1, i2, i3⟩ := id hi
              have hgo2 := Lib.hid (show false = r by rw [hE.out, hgo.out]; simp)
              have hB := hJ.bel
              clear hJ
              go_wp2
              go_ret
              exact bout_eq hgo2.out hB
            | true =>
              go_upto_region 5 with (fail)
              generalize wr.alloc (.cells #[.int .i64 op, .int .i64 d, .int .i64 ia, .int .i64 ib] 42) = u1 at *
              clear q0 q1 q2 q3
              go_wp2_with fail
              refine (hF.out _).mono ?_; rintro e w2 ⟨rfl, hb1⟩
              replace hJ := hJ.later hb1
              replace hi := hi.later hb1
              clear hb1 s0 s1 s2 s3 s4 i0 i1 i2 i3
              obtain ⟨s0, s1, s2, s3, s4⟩ := hJ.code
              dsimp only at s2 s3 s4
              obtain ⟨i0, i1, i2, i3⟩ := id hi
              go_wp2_with fail
              refine (hT.out _).mono ?_; rintro e w3 ⟨rfl, hb1⟩
              replace hJ := hJ.later hb1
              replace hi := hi.later hb1
              clear hb1 s0 s1 s2 s3 s4 i0 i1 i2 i3
              obtain ⟨s0, s1, s2, s3, s4⟩ := hJ.code
              dsimp only at s2 s3 s4
              obtain ⟨i0, i1, i2, i3⟩ := id hi
              go_wp2_with fail
              refine (hH.out _ hJ.wr (fun h => by have := hts.out (by first | rfl | trivial) (.inr h); rw [hbs.out]; exact this)).mono ?_; rintro e w4 ⟨rfl, hb1⟩
              replace hJ := hJ.later hb1
              replace hi := hi.later hb1
              clear hb1 s0 s1 s2 s3 s4 i0 i1 i2 i3
              obtain ⟨s0, s1, s2, s3, s4⟩ := hJ.code
              dsimp only at s2 s3 s4
              obtain ⟨i0, i1, i2, i3⟩ := id hi
              go_wp2_with fail
              refine (hN.out _ hJ.wr (fun h => by have := hts.out (by first | rfl | trivial) (.inl h); rw [hbs.out]; exact this) (fun h => by have := htr.out (by first | rfl | trivial) h; rw [hbr.out]; exact this)).mono ?_; rintro e w5 ⟨br', bs', rfl, hW', e1, e2, e3, hBut⟩
              have hJ' := hJ.step hW' hBut hg.out
              have hgo2 := Lib.hid (show z = goodL c (bfn br', bfn bs') (c.list.drop (k + 1)) by rw [hgo.out, e3]; simp)
              have e4 := Lib.hid (e1.trans hbr.out)
              have e5 := Lib.hid (e2.trans hbs.out)
              clear hW' hBut e1 e2 e3 hJ s0 s1 s2 s3 s4 i0 i1 i2 i3 hi
              go_wp2
              go_roundw
              case rel => exact ⟨k + 1, br', bs', by omega, by go_num, hgo2.out, e4.out, e5.out, hJ'⟩
              case measure => simp [intOf]; omega
      · have hgo2 := Lib.hid (show false = r by rw [hE.out, hgo.out]; simp)
        have hB := hJ.bel
        go_upto_region 5 with (fail)
        generalize wr.alloc (.cells #[.int .i64 op, .int .i64 d, .int .i64 ia, .int .i64 ib] 42) = u1 at *
        clear q0 q1 q2 q3
        clear hJ
        go_wp2
        go_ret
        exact bout_eq hgo2.out hB
    · obtain rfl : k = c.list.length := by omega
      rw [List.drop_length] at hgo
      have hgo2 : r = true := by rw [hE.out, hgo]; rfl
      replace hgo2 := Lib.hid hgo2
      have hB := hJ.bel
      clear hJ hJr hgo
      go_wp2
      go_ret
      exact bout_eq hgo2.out.symm hB
end Go.Proofs.Yteniipolcdnmfaa
