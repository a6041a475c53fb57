/- Encode, as a contract. -/
import Derived.Test.YtlfhgmoafgjdcaaImG
namespace Go.Proofs.Ytlfhgmoafgjdcaa
open Go.ChangeShapes Go.WideShapes Go.ChangeAt Go.RowKit
set_option linter.unusedVariables false
set_option linter.unusedSimpArgs false
theorem conv_lit2 (w : World) (cs : Array Value) : (convert 31 31 (.slice (some ⟨w.heap.size + 1, 0, none⟩) 4 4)).run Try.prog ((w.alloc (.cells cs 27)).alloc (.cells #[.int .u8 65, .int .u8 85, .int .u8 83, .int .u8 80] 5)) = .ok (.slice (some ⟨w.heap.size + 1, 0, none⟩) 4 4) ((w.alloc (.cells cs 27)).alloc (.cells #[.int .u8 65, .int .u8 85, .int .u8 83, .int .u8 80] 5 (4, 5))) := by
  have := Lib.run_convert_bytes_const (P := Try.prog) (w.alloc (.cells cs 27)) 31 5 #[.int .u8 65, .int .u8 85, .int .u8 83, .int .u8 80] 4 4 Try.underlying31 Try.underlying5
  have e9 : (w.alloc (.cells cs 27)).heap.size = w.heap.size + 1 := by simp
  rw [e9] at this
  exact this
theorem encI_byt (i : Itm) : Byt (encI i) := by cases i <;> exact uintL_byt _
theorem runW_byt : ∀ (L : List Itm) (bs x : List Nat), Byt bs → runW bs L = some x → Byt x
  | [], bs, x, hb, h => by injection h with h; exact h ▸ hb
  | i :: r, bs, x, hb, h => by
    rw [runW] at h
    split at h
    · refine runW_byt r _ x ?_ h
      unfold putW
      split
      · exact hb
      · intro z hz
        rcases List.mem_append.1 hz with k | k
        · exact hb z k
        · exact encI_byt i z k
    · cases h
def encB : Option (List Nat) → Int × Option (List Nat)
  | none => (3, none)
  | some bs => if 65536 < bs.length + 4 then (2, none) else (0, some (bs ++ le4 (sumL bs)))
/-- what a table's image is -/
def encP (x : TTable) : Int × Option (List Nat) := encB (runW ausp (iTable x))
def EncIs (x : TTable) (w : World) (e : Ending) (w' : World) : Prop := Below w.heap.size w w' ∧ ∃ v, e = .returned (.tuple #[v, .int .i64 (encP x).1]) ∧
  match (encP x).2 with | none => v = .slice none 0 0 | some bs => ∃ A c, v = .slice A bs.length c ∧ w'.ownsRow w.heap.size 5 1 v bs.length (bcells bs)
theorem EncIs.no {x : TTable} {w w' : World} {k : Int} (hd : encP x = (k, none)) (hb : Below w.heap.size w w') : EncIs x w (.returned (.tuple #[.slice none 0 0, .int .i64 k])) w' := ⟨hb, _, by rw [hd], by rw [hd]⟩
theorem EncIs.yes {x : TTable} {w w4 w5 w6 : World} {L : List Nat} {A3 : Option Addr} {c3 : Nat} (hd : encP x = (0, some L)) (h1 : Below w.heap.size w w4) (h2 : Below (w.heap.size + 1) w4 w5) (h3 : Below (w.heap.size + 1) w5 w6)
    (ho : w6.ownsRow (w.heap.size + 1) 5 1 (.slice A3 L.length c3) L.length (bcells L)) : EncIs x w (.returned (.tuple #[.slice A3 L.length c3, .int .i64 0])) w6 := by
  have h23 := h2.trans h3
  refine ⟨⟨h23.os.trans h1.os, h23.tape.trans h1.tape, h23.output.trans h1.output, Nat.le_trans h1.size h23.size, fun k hk => (h23.block k (by omega)).trans (h1.block k hk)⟩, _, by rw [hd], ?_⟩
  rw [hd]
  refine ⟨A3, c3, rfl, ho.1, ?_⟩
  rcases ho.2 with k | ⟨g, cap, cur, k1, k2, k3⟩
  · exact .inl k
  · exact .inr ⟨g, cap, cur, k1, by omega, k3⟩
set_option maxHeartbeats 8000000 in
set_option maxRecDepth 1000000 in
theorem encode_any (x : TTable) (z0 : Int) (A1 : Option Addr) (n1 c1 : Nat) (A2 : Option Addr) (n2 c2 : Nat) (z3 z4 z5 : Int) (A6 : Option Addr) (n6 c6 : Nat) (A7 : Option Addr) (n7 c7 : Nat) (w : World)
    (hx : pTable (w.heap.size + 1) (w.alloc (.cells #[.int .i64 z0, .slice A1 n1 c1, .slice A2 n2 c2, .int .i64 z3, .int .i64 z4, .int .i64 z5, .slice A6 n6 c6, .slice A7 n7 c7] 27)) w.heap.size 0 x) (hv : ∀ i ∈ iTable x, wfI i) :
    Calls Try.prog 10 #[.agg #[.int .i64 z0, .slice A1 n1 c1, .slice A2 n2 c2, .int .i64 z3, .int .i64 z4, .int .i64 z5, .slice A6 n6 c6, .slice A7 n7 c7]] w (EncIs x w) := by
  have hcv := conv_lit2 w #[.int .i64 z0, .slice A1 n1 c1, .slice A2 n2 c2, .int .i64 z3, .int .i64 z4, .int .i64 z5, .slice A6 n6 c6, .slice A7 n7 c7]
  replace hx := Lib.hid hx
  replace hv := Lib.hid hv
  go_enter Try.func10, Try.ntmps10
  go_wp2_with fail
  generalize hw1 : w.alloc (.cells #[.int .i64 z0, .slice A1 n1 c1, .slice A2 n2 c2, .int .i64 z3, .int .i64 z4, .int .i64 z5, .slice A6 n6 c6, .slice A7 n7 c7] 27) = w1 at *
  have h1s : w1.heap.size = w.heap.size + 1 := by rw [← hw1]; simp
  have hB1 : Below w.heap.size w w1 := by rw [← hw1]; exact m1 w _
  clear hw1 hcv
  have hl1 := lit_bys w1
  have hs2 : (w1.alloc (.cells #[.int .u8 65, .int .u8 85, .int .u8 83, .int .u8 80] 5 (4, 5))).heap.size = w.heap.size + 1 + 1 := by simp [h1s]
  have hb12 := m1 w1 (.cells #[.int .u8 65, .int .u8 85, .int .u8 83, .int .u8 80] 5 (4, 5))
  generalize w1.alloc (.cells #[.int .u8 65, .int .u8 85, .int .u8 83, .int .u8 80] 5 (4, 5)) = w2 at *
  have hl2 := hl1.later (m1 w2 (.cells #[.slice (some ⟨w.heap.size + 1, 0, none⟩) 4 4] 59))
  have hmk := Blk.made w2 59 #[.slice (some ⟨w.heap.size + 1, 0, none⟩) 4 4]
  have hb23 := mmore hb12 (m1 w2 (.cells #[.slice (some ⟨w.heap.size + 1, 0, none⟩) 4 4] 59))
  generalize w2.alloc (.cells #[.slice (some ⟨w.heap.size + 1, 0, none⟩) 4 4] 59) = w3 at *
  rw [hs2] at hmk
  rw [h1s] at hl2 hb23
  have hW : Wtr w3 (w.heap.size + 1 + 1) (w.heap.size + 1) ausp := by
    refine ⟨_, hmk, .inr ?_, by omega⟩
    obtain ⟨ad, e, _, hc⟩ := hl2.2 (by decide)
    injection e with e
    subst e
    exact ⟨_, rfl, by decide, hc, by decide⟩
  have hx3 := pTable.belowB hb23 (by omega) hx.out
  have CT := Table_w (w.heap.size + 1 + 1) (w.heap.size + 1) ausp x w.heap.size 0 w3 hW (by unfold Sm; decide) (by omega) hx3 hv.out
  have hB3 : Below w.heap.size w w3 := ⟨hb23.os.trans hB1.os, hb23.tape.trans hB1.tape, hb23.output.trans hB1.output, Nat.le_trans hB1.size hb23.size, fun k hk => (hb23.block k (by omega)).trans (hB1.block k hk)⟩
  clear hx3 hW hb23 hmk hl2 hb12 hl1 hB1
  cases hr : runW ausp (iTable x) with
  | none =>
    rw [hr] at CT
    have hd : encP x = (3, none) := by unfold encP; rw [hr]; rfl
    have hfin := fun w' (hb : Below w.heap.size w w') => EncIs.no hd hb
    replace hfin := Lib.hid hfin
    have CC := carried_any _ _ w3 (fun _ => False) (fun w' => Below (w.heap.size + 1) w3 w') (CT.mono (fun e w' hh => Or.inr ⟨hh.2, hh.1⟩))
    refine CC.mono ?_; rintro e w4 (⟨rfl, hF⟩ | ⟨rfl, hF⟩)
    · exact hF.elim
    have hB4 : Below w.heap.size w w4 := ⟨hF.os.trans hB3.os, hF.tape.trans hB3.tape, hF.output.trans hB3.output, Nat.le_trans hB3.size hF.size, fun k hk => (hF.block k (by omega)).trans (hB3.block k hk)⟩
    have hB4 := Lib.hid hB4
    clear CC CT hF hr hd hB3
    go_wp2
    go_ret2
    exact hfin.out _ hB4.out
  | some bs =>
    rw [hr] at CT
    have CC := carried_any _ _ w3 (fun w' => Below (w.heap.size + 1) w3 w' ∧ Wtr w' (w.heap.size + 1 + 1) (w.heap.size + 1) bs) (fun _ => False) (CT.mono (fun e w' hh => Or.inl ⟨hh.2.1, hh.1, hh.2.2⟩))
    refine CC.mono ?_; rintro e w4 (⟨rfl, hF, hW4⟩ | ⟨rfl, hF⟩)
    rotate_left
    · exact hF.elim
    have hB4 : Below w.heap.size w w4 := ⟨hF.os.trans hB3.os, hF.tape.trans hB3.tape, hF.output.trans hB3.output, Nat.le_trans hB3.size hF.size, fun k hk => (hF.block k (by omega)).trans (hB3.block k hk)⟩
    have hB4 := Lib.hid hB4
    have hsm : bs.length ≤ 65546 := runW_sm _ _ _ (by unfold Sm; decide) hv.out hr
    have hbyt : Byt bs := runW_byt _ _ _ (by intro z hz; simp [ausp] at hz; rcases hz with rfl | rfl | rfl | rfl <;> omega) hr
    obtain ⟨v0, kb, kr, kg⟩ := hW4
    obtain ⟨A, c, rfl, _, _⟩ := kr.slice
    have hc : w4.cell? ⟨w.heap.size + 1 + 1, 0, none⟩ = some (.slice A bs.length c) := kb.cell 0
    have hd0 : encP x = encB (some bs) := by unfold encP; rw [hr]
    clear CC CT hF hr hB3
    by_cases hlong : 65536 < bs.length + 4
    · have hd : encP x = (2, none) := by rw [hd0]; show (if 65536 < bs.length + 4 then _ else _) = _; rw [if_pos hlong]
      have hfin := fun w' (hb : Below w.heap.size w w') => EncIs.no hd hb
      replace hfin := Lib.hid hfin
      have i1 : (65536 : Int) < (bs.length : Int) + 4 := by omega
      have i2 : IntKind.i64.wrap ((bs.length : Int) + 4) = (bs.length : Int) + 4 := by rw [IntKind.wrap_i64]; omega
      clear hd hd0 kb kr
      generalize bs.length = m at *
      go_wp2
      go_ret2
      exact hfin.out _ hB4.out
    · have hd : encP x = (0, some (bs ++ le4 (sumL bs))) := by rw [hd0]; show (if 65536 < bs.length + 4 then _ else _) = _; rw [if_neg hlong]
      have i1 : ¬ (65536 : Int) < (bs.length : Int) + 4 := by omega
      have i2 : IntKind.i64.wrap ((bs.length : Int) + 4) = (bs.length : Int) + 4 := by rw [IntKind.wrap_i64]; omega
      have IS := isum_any A bs c hbyt w4.drew (kr.bys.later (Below.refl _ _).drew) (by omega)
      obtain ⟨i0, hi, hz0, hz1, hz2⟩ := info_parts infoB
      replace IS := Lib.hid IS
      replace hd := Lib.hid hd
      have hbase : w.heap.size + 1 ≤ w4.heap.size := by have := kb.lt; omega
      have hbd := Lib.hid (Below.refl (w.heap.size + 1) w4)
      replace kb := Lib.hid kb
      replace kr := Lib.hid kr
      replace hi := Lib.hid hi
      replace hz1 := Lib.hid hz1
      replace hz2 := Lib.hid hz2
      clear hd0 hbyt
      clear kg hsm
      go_upto_region 6 with (fail)
      go_region_law (first
        | ((try go_simp); go_at_call 23; refine IS.out.mono ?_; rintro e w5 ⟨Ar, cr, rfl, hO, hb2⟩; have hb3 := (hbd.out.drew.trans (hb2.mono hbase)); have kb2 := kb.out.kept ((Below.refl w4.heap.size w4).drew.trans hb2); have kr2 := kr.out.later ((Below.refl w4.heap.size w4).drew.trans hb2); have s2 : w5.cell? ⟨w.heap.size + 1 + 1, 0, none⟩ = some (.slice A bs.length c) := (by rw [kb2.cell]; rfl); have hz3 := hb3.size; have hBr := (Bys.of_own hO).2; replace hb3 := Lib.hid hb3; replace kb2 := Lib.hid kb2; replace kr2 := Lib.hid kr2; replace hBr := Lib.hid hBr; clear hO hb2)
        | (refine step_append_W (v := .slice A bs.length c) (base := w.heap.size + 1) (bs := bs) (news := le4 (sumL bs)) rfl (.tmp 25) (.tmp 30) rfl rfl hi.out hz0 hz1.out hz2.out rfl Ar cr (le4 (sumL bs)).length rfl rfl kr2.out hBr.out (by simp [le4]) (by simp [le4]; omega) (by omega) ?_; intro v' w6 ho hb4 hk4; obtain ⟨A3, c3, rfl, -, -⟩ := bslice_of ho; replace ho := Lib.hid ho; replace hb4 := Lib.hid hb4; clear hk4))
      all_goals have hq := EncIs.yes hd.out hB4.out hb3.out hb4.out ho.out
      all_goals rw [List.length_append] at hq
      all_goals replace hq := Lib.hid hq
      all_goals clear hd hB4 hb3 hb4 ho kb2 kr2 hBr s2 hc kb kr IS
      all_goals go_wp2
      all_goals go_ret2
      all_goals exact hq.out
end Go.Proofs.Ytlfhgmoafgjdcaa
