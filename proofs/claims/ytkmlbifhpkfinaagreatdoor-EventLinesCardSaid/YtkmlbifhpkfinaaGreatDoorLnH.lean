/- The document's line of an event, as a contract. -/
import Derived.Test.YtkmlbifhpkfinaaGreatDoorLnF
import Derived.Test.YtkmlbifhpkfinaaGreatDoorLnG
import Derived.Test.YtkmlbifhpkfinaaGreatDoorEvF
import Derived.Test.YtkmlbifhpkfinaaGreatDoorEvR
namespace Go.Proofs.YtkmlbifhpkfinaaGreatDoor
open Go.ChangeShapes Go.WideShapes Go.ChangeAt Go.RowKit Go.Fl
set_option linter.unusedVariables false
set_option linter.unusedSimpArgs false

theorem joinW_snoc : ∀ (a : List UInt8) (ws : List (List UInt8)) (b : List UInt8), joinW (a :: (ws ++ [b])) = joinW (a :: ws) ++ 32 :: b
  | a, [], b => by rw [List.nil_append, joinW_cons, joinW_one, joinW_one]
  | a, c :: r, b => by rw [List.cons_append, joinW_cons, joinW_cons, joinW_snoc c r b]; simp
theorem bl_app (a b : List UInt8) : bl a ++ bl b = bl (a ++ b) := by
  apply ByteArray.ext
  apply Array.ext'
  simp [bl, ByteArray.toList_data_append]
/-- the line up to the k-th value -/
def lnT (ss : List ByteArray) (nm : ByteArray) (tm : Int) (vs : List (Int × Nat)) (k : Nat) : ByteArray := bl (joinW (nm.data.toList :: Lib.itoa tm :: (vs.take k).map (wordW ss)))
theorem lnT_zero (ss : List ByteArray) (nm : ByteArray) (tm : Int) (vs : List (Int × Nat)) : nm ++ (⟨#[32]⟩ : ByteArray) ++ bl (Lib.itoa tm) = lnT ss nm tm vs 0 := by
  unfold lnT
  rw [List.take_zero, List.map_nil, joinW_cons, joinW_one]
  rw [show (⟨#[32]⟩ : ByteArray) = bl [32] from rfl, ← bl_of nm, bl_app, bl_app, bl_list]
  simp
theorem lnT_snoc (ss : List ByteArray) (nm : ByteArray) (tm : Int) (vs : List (Int × Nat)) (k : Nat) (v : Int × Nat) (h : vs[k]? = some v) : lnT ss nm tm vs k ++ ((⟨#[32]⟩ : ByteArray) ++ bl (wordW ss v)) = lnT ss nm tm vs (k + 1) := by
  unfold lnT
  rw [show (⟨#[32]⟩ : ByteArray) = bl [32] from rfl, bl_app, bl_app, List.take_add_one, h]
  simp only [Option.toList_some, List.map_append, List.map_cons, List.map_nil]
  rw [show Lib.itoa tm :: ((vs.take k).map (wordW ss) ++ [wordW ss v]) = (Lib.itoa tm :: (vs.take k).map (wordW ss)) ++ [wordW ss v] from rfl, joinW_snoc]
  rfl
theorem lnT_size {ss : List ByteArray} {nm : ByteArray} {tm : Int} {vs : List (Int × Nat)} {k : Nat} (hn : nm.size ≤ 25) (h0 : -9223372036854775808 ≤ tm) (h1 : tm ≤ 9223372036854775807) (hv : ∀ v ∈ vs, (wordW ss v).length ≤ 25) (h8 : vs.length ≤ 8) : (lnT ss nm tm vs k).size ≤ 1000 := by
  unfold lnT
  rw [bl_size]
  have hi := Lib.itoa_length_le tm h0 h1
  have := join_len (nm.data.toList :: Lib.itoa tm :: (vs.take k).map (wordW ss)) (fun a ha => by
    rcases List.mem_cons.1 ha with rfl | ha
    · rw [list_len]; exact hn
    · rcases List.mem_cons.1 ha with rfl | ha
      · omega
      · obtain ⟨v, hv', rfl⟩ := List.mem_map.1 ha
        exact hv v (List.mem_of_mem_take hv'))
  have hl : (nm.data.toList :: Lib.itoa tm :: (vs.take k).map (wordW ss)).length ≤ 10 := by simp; omega
  omega
theorem sp_false : (⟨#[32, 102, 97, 108, 115, 101]⟩ : ByteArray) = (⟨#[32]⟩ : ByteArray) ++ bl falseB := by decide +kernel
theorem sp_true : (⟨#[32, 116, 114, 117, 101]⟩ : ByteArray) = (⟨#[32]⟩ : ByteArray) ++ bl trueB := by decide +kernel
theorem sp_name (s : ByteArray) : (⟨#[32, 39]⟩ : ByteArray) ++ s = (⟨#[32]⟩ : ByteArray) ++ bl (39 :: s.data.toList) := by
  rw [show (⟨#[32, 39]⟩ : ByteArray) = bl [32, 39] from rfl, show (⟨#[32]⟩ : ByteArray) = bl [32] from rfl, bl_app]
  conv => lhs; rw [← bl_of s]
  rw [bl_app]
  rfl
theorem word_3 {ss : List ByteArray} {vb : Nat} {nm : ByteArray} (h : ss[vb]? = some nm) : wordW ss (3, vb) = 39 :: nm.data.toList := by
  unfold wordW; rw [if_neg (by simp), if_neg (by simp), if_pos rfl, h]; rfl

theorem ix_zero (a b : ByteArray) (w : World) : (Instr.index 67 (.agg #[.string a, .string b]) (.int .u64 0)).run Tryz.prog w = .ok (.string a) w := by
  simp [Instr.index, run_underlying Tryz.underlying67, asIntOf, go_sem]
theorem ix_one (a b : ByteArray) (w : World) : (Instr.index 67 (.agg #[.string a, .string b]) (.int .u64 1)).run Tryz.prog w = .ok (.string b) w := by
  simp [Instr.index, run_underlying Tryz.underlying67, asIntOf, go_sem]
set_option maxHeartbeats 8000000 in
set_option maxRecDepth 100000 in
theorem rline_any (A C B : Option Addr) (cap capC capB : Nat) (ts : List ST) (ss : List ByteArray) (ty tm : Int) (vs : List (Int × Nat)) (w : World) (hA : TypesAt w A ts) (hS : SymsAt w C ss) (hv : RowV w B vs.length vs) (b1 : ts.length * 40 ≤ 140737488351232) (b2 : ∀ t ∈ ts, t.2.length * 24 ≤ 140737488351232) (hc1 : ss.length ≤ capC) (hc2 : capC ≤ maxLen) (hl : vs.length * 16 ≤ 140737488351232) :
    Calls Tryz.prog 10 #[.agg #[.slice A ts.length cap, .slice C ss.length capC], .agg #[.int .i64 ty, .int .i64 tm, .slice B vs.length capB]] w (LineR ts ss ty tm vs w) := by
  have hu := m2 w (.cells #[.slice A ts.length cap, .slice C ss.length capC] 25) (.cells #[.int .i64 ty, .int .i64 tm, .slice B vs.length capB] 28)
  have k0 : Blk ((w.alloc (.cells #[.slice A ts.length cap, .slice C ss.length capC] 25)).alloc (.cells #[.int .i64 ty, .int .i64 tm, .slice B vs.length capB] 28)) w.heap.size 25 #[.slice A ts.length cap, .slice C ss.length capC] := (Blk.made _ _ _).kept (m1 _ _)
  have k1 : Blk ((w.alloc (.cells #[.slice A ts.length cap, .slice C ss.length capC] 25)).alloc (.cells #[.int .i64 ty, .int .i64 tm, .slice B vs.length capB] 28)) (w.heap.size + 1) 28 #[.int .i64 ty, .int .i64 tm, .slice B vs.length capB] := by
    have := Blk.made (w.alloc (.cells #[.slice A ts.length cap, .slice C ss.length capC] 25)) 28 #[.int .i64 ty, .int .i64 tm, .slice B vs.length capB]
    simpa using this
  have hAu := hA.later hu
  have hSu := hS.later hu
  have hVu := hv.later hu
  clear hA hS hv
  replace b2 := Lib.hid b2
  have hlv : vs.length ≤ 9223372036854775807 := by omega
  go_enter Tryz.func10, Tryz.ntmps10
  go_wp2_with fail
  generalize (w.alloc (.cells #[.slice A ts.length cap, .slice C ss.length capC] 25)).alloc (.cells #[.int .i64 ty, .int .i64 tm, .slice B vs.length capB] 28) = u at *
  refine (rvalid_any A C B cap capC capB ts ss ty tm vs u hAu hSu hVu b1 b2.out hc1 hc2 hlv).mono ?_; rintro e w1 ⟨q, rfl, hq, hb1⟩
  cases q
  · have hno : ¬ EvOk ts ss ty tm vs := fun h => by have := hq.2 h; cases this
    replace hno := Lib.hid hno
    have hB1 := mmore hu hb1
    clear hq hAu hSu hVu k0 k1 hb1
    go_wp2_with fail
    go_ret
    exact LineR.no hno.out hB1
  · have hok : EvOk ts ss ty tm vs := hq.1 rfl
    have hbits := hVu.2.1
    obtain ⟨t, x, rfl, hx, h8, hWW, hLL⟩ := line_parts hok hbits
    have h0 : 0 ≤ tm := by obtain ⟨_, _, _, _, h0, _⟩ := ok_parts hok; exact h0
    have h1 : tm ≤ 1152921504606846976 := by obtain ⟨_, _, _, _, _, h1, _⟩ := ok_parts hok; exact h1
    have hnm : NameP x.1 := ((ok_well hok.1).1.2.1 t x.1 (by rw [List.getElem?_map, hx]; rfl)).1
    have hwl : ∀ v ∈ vs, (wordW ss v).length ≤ 25 := fun v hv => by
      obtain ⟨i, hi, rfl⟩ := List.getElem_of_mem hv
      obtain ⟨y, hV, _⟩ := line_val hok (List.getElem?_eq_getElem hi)
      exact word_len hok.1 hV
    have FIN : lnT ss x.1 tm vs vs.length = bl (lineB ts ss (t : Int) tm vs) := by unfold lnT lineB; rw [hWW, List.take_length]
    have YES := fun w' (h : Below w.heap.size w w') => LineR.yes hok h
    rw [← FIN] at YES
    have LZ := fun k => lnT_size (ss := ss) (nm := x.1) (tm := tm) (vs := vs) (k := k) (by have := hnm.2.1; omega) (by omega) (by omega) hwl h8
    have Z0 := lnT_zero ss x.1 tm vs
    have SN := fun (k : Nat) (v : Int × Nat) hk => lnT_snoc ss x.1 tm vs k v hk
    have LV := fun (k : Nat) (v : Int × Nat) (hk : vs[k]? = some v) => line_val hok hk
    have hsy := fun (n : Nat) (h : n < ss.length) => (ok_sym hok.1 h).2.1
    have hnz := hnm.2.1
    have ht : t < ts.length := (List.getElem?_eq_some_iff.1 hx).1
    obtain ⟨tb, toff, rfl, htc⟩ := hAu (by omega)
    obtain ⟨tu, t0, _, _⟩ := htc t x hx
    have DI := fun w => rdecimal_any tm w (by omega) (by omega)
    change ∀ w, Calls Tryz.prog 21 #[.int .i64 tm] w fun e w' => e = .returned (.string (bl (Lib.itoa tm))) ∧ Below w.heap.size w w' at DI
    have hDz : (bl (Lib.itoa tm)).size ≤ 21 := by rw [bl_size]; exact Lib.itoa_length_le _ (by omega) (by omega)
    generalize lnT ss x.1 tm vs = L at *
    generalize bl (Lib.itoa tm) = TM at *
    have t00 : (0 : Int) ≤ (t : Int) := by omega
    have t11 : (t : Int) < (ts.length : Int) := by omega
    have j0 := k0.kept hb1
    have j1 := k1.kept hb1
    have hB1 := mmore hu hb1
    have d0 : w1.cell? ⟨w.heap.size, 0, none⟩ = some (.slice (some ⟨tb, toff, none⟩) ts.length cap) := j0.cell 0
    have d2 : w1.cell? ⟨w.heap.size + 1, 0, none⟩ = some (.int .i64 (t : Int)) := j1.cell 0
    have d3 : w1.cell? ⟨w.heap.size + 1, 1, none⟩ = some (.int .i64 tm) := j1.cell 1
    have t0 := cell_later hb1 t0
    replace YES := Lib.hid YES
    replace LZ := Lib.hid LZ
    replace Z0 := Lib.hid Z0
    replace SN := Lib.hid SN
    replace LV := Lib.hid LV
    replace hsy := Lib.hid hsy
    replace DI := Lib.hid DI
    replace hVu := Lib.hid hVu
    replace hSu := Lib.hid hSu
    clear hq hAu htc hok hx hWW hLL FIN hwl hnm hbits k0 k1
    generalize x.1 = nm at *
    have s1 : ¬ 9223372036854775807 < nm.size + 1 := by omega
    have s2 : ¬ 9223372036854775807 < nm.size + 1 + TM.size := by omega
    go_upto_region 3 with (fail)
    go_cut [5] from 12 to 23 (fun v w' => v = .string (L 0) ∧ Below w1.heap.size w1 w')
    case first =>
      go_region_law (first | (go_simp; go_at_call 21; refine (DI.out _).mono ?_; rintro e w2 ⟨rfl, hb2⟩; have hb2' := Lib.hid (mmore ((Below.refl _ w1).drew) hb2); have d0' := cell_later hb2'.out d0; have d2' := cell_later hb2'.out d2; have t0' := cell_later hb2'.out t0))
      all_goals (go_wp2_with fail; go_meet; exact ⟨by rw [Z0.out], hb2'.out⟩)
    case rest =>
      obtain ⟨rfl, hB5⟩ := hcut
      have x2 : w1.cell? ⟨w.heap.size + 1, 2, none⟩ = some (.slice B vs.length capB) := j1.cell 2
      have e2 := cell_later hB5 x2
      clear x2 d0 d2 d3 t0 DI Z0 s1 s2
      go_wp2_with fail
      go_loopw [5, 27] (fun v i wr => ∃ k : Nat, k ≤ vs.length ∧ i = .int .i64 (k : Int) ∧ v = .string (L k) ∧ Below w1.heap.size w1 wr) (fun _ i _ => vs.length - (intOf i).toNat)
      case atStart => exact ⟨0, by omega, rfl, rfl, hB5⟩
      case round =>
        obtain ⟨k, hk, rfl, rfl, hB⟩ := hrel
        clear e2
        have k00 : (0 : Int) ≤ (k : Int) := by omega
        have lz := LZ.out k
        by_cases hlt : k < vs.length
        · have k11 : (k : Int) < (vs.length : Int) := by omega
          obtain ⟨b, off, rfl, hvc⟩ := hVu.out.2.2 (by omega)
          have hvk : vs[k]? = some (vs[k].1, vs[k].2) := List.getElem?_eq_getElem hlt
          have hvb := hVu.out.2.1 _ (List.getElem_mem hlt)
          obtain ⟨q0, q1⟩ := hvc k _ _ hvk
          obtain ⟨y, hV, hy0, hy1⟩ := LV.out k _ hvk
          have SNk := SN.out k _ hvk
          obtain ⟨hk1, hV1, hV2, hV3⟩ := hV
          have hvb : vs[k].2 < 18446744073709551616 := hvb
          have hk1 : vs[k].1 = y := hk1
          have hV1 : clK vs[k].1 vs[k].2 = vs[k].1 := hV1
          have hV3 : vs[k].1 = 3 → (vs[k].2 : Int) < ss.length := hV3
          clear hV2
          generalize vs[k].1 = vk at *
          generalize vs[k].2 = vb at *
          subst hk1
          have q0 := cell_later (hb1.trans (hB.mono hb1.size)) q0
          have q1 := cell_later (hb1.trans (hB.mono hb1.size)) q1
          have J0 := j0.kept hB
          replace SNk := Lib.hid SNk
          clear hvc hvk
          go_upto_region 7 with (fail)
          have hw8 := m1 wr (.cells #[.int .i64 vk, .int .u64 (vb : Int)] 64)
          have hB8 := mmore hB hw8
          have J8 := J0.kept hw8
          have g0 : (wr.alloc (.cells #[.int .i64 vk, .int .u64 (vb : Int)] 64)).cell? ⟨wr.heap.size, 0, none⟩ = some (.int .i64 vk) := by simp [go_sem]
          have g1 : (wr.alloc (.cells #[.int .i64 vk, .int .u64 (vb : Int)] 64)).cell? ⟨wr.heap.size, 1, none⟩ = some (.int .u64 (vb : Int)) := by simp [go_sem]
          clear q0 q1 J0 hB hw8
          generalize wr.heap.size = g8 at *
          generalize wr.alloc (.cells #[.int .i64 vk, .int .u64 (vb : Int)] 64) = wz at *
          by_cases c1 : vk = 1
          · subst c1
            rw [word_1] at SNk
            have hr := wrap64_range (vb : Int)
            have DX := fun w => rdecimal_any (wrap64 (vb : Int)) w hr.1 hr.2
            change ∀ w, Calls Tryz.prog 21 #[.int .i64 (wrap64 (vb : Int))] w fun e w' => e = .returned (.string (bl (Lib.itoa (wrap64 (vb : Int))))) ∧ Below w.heap.size w w' at DX
            have hz : (bl (Lib.itoa (wrap64 (vb : Int)))).size ≤ 21 := by rw [bl_size]; exact Lib.itoa_length_le _ hr.1 hr.2
            generalize bl (Lib.itoa (wrap64 (vb : Int))) = X at *
            have s1 : ¬ 9223372036854775807 < 1 + X.size := by omega
            have s2 : ¬ 9223372036854775807 < (L k).size + (1 + X.size) := by omega
            replace DX := Lib.hid DX
            clear hV1 hV3 hr
            go_wp2_with fail
            refine (DX.out _).mono ?_; rintro e w3 ⟨rfl, hb3⟩
            have hB9 := mmore hB8 hb3
            go_wp2
            go_roundw
            case rel => exact ⟨k + 1, by omega, by go_num, by rw [← SNk.out], hB9⟩
            case measure => simp [intOf]; omega
          · by_cases c2 : vk = 2
            · subst c2
              have e2 := clB_bool hV1 rfl
              clear hV1 hV3
              have IX0 := fun w => ix_zero ⟨#[32, 102, 97, 108, 115, 101]⟩ ⟨#[32, 116, 114, 117, 101]⟩ w
              have IX1 := fun w => ix_one ⟨#[32, 102, 97, 108, 115, 101]⟩ ⟨#[32, 116, 114, 117, 101]⟩ w
              rcases e2 with rfl | rfl
              · rw [word_20, ← sp_false] at SNk
                have s2 : ¬ 9223372036854775807 < (L k).size + 6 := by omega
                go_wp2
                go_roundw
                case rel => exact ⟨k + 1, by omega, by go_num, by rw [← SNk.out], hB8⟩
                case measure => simp [intOf]; omega
              · rw [word_21, ← sp_true] at SNk
                have s2 : ¬ 9223372036854775807 < (L k).size + 5 := by omega
                go_wp2
                go_roundw
                case rel => exact ⟨k + 1, by omega, by go_num, by rw [← SNk.out], hB8⟩
                case measure => simp [intOf]; omega
            · by_cases c3 : vk = 3
              · subst c3
                have hl2 : vb < ss.length := by have := hV3 rfl; omega
                obtain ⟨bS, oS, rfl, hc⟩ := hSu.out (by omega)
                have hsv : ss[vb]? = some ss[vb] := List.getElem?_eq_getElem hl2
                have q2 := cell_later (hb1.trans (hB8.mono hb1.size)) (hc vb _ hsv)
                have hnm := hsy.out vb hl2
                rw [word_3 hsv, ← sp_name] at SNk
                generalize ss[vb] = sx at *
                have l0 : (0 : Int) ≤ (vb : Int) := by omega
                have l1 : (vb : Int) < (ss.length : Int) := by omega
                have s1 : ¬ 9223372036854775807 < 2 + sx.size := by omega
                have s2 : ¬ 9223372036854775807 < (L k).size + (2 + sx.size) := by omega
                have e1 : wz.cell? ⟨w.heap.size, 1, none⟩ = some (.slice (some ⟨bS, oS, none⟩) ss.length capC) := J8.cell 1
                clear hc hsv hV1 hV3
                go_wp2
                go_roundw
                case rel => exact ⟨k + 1, by omega, by go_num, by rw [← SNk.out], hB8⟩
                case measure => simp [intOf]; omega
              · obtain rfl : vk = 4 := by omega
                rw [word_4] at SNk
                have TX := fun w => rtext_any vb w hvb
                change ∀ w, Calls Tryz.prog 22 #[.int .u64 (vb : Int)] w fun e w' => e = .returned (.string (bl (textB (cn vb)))) ∧ w = w' at TX
                have hz : (bl (textB (cn vb))).size ≤ 25 := by rw [bl_size]; exact hexK_l16 _
                generalize bl (textB (cn vb)) = X at *
                have s1 : ¬ 9223372036854775807 < 1 + X.size := by omega
                have s2 : ¬ 9223372036854775807 < (L k).size + (1 + X.size) := by omega
                replace TX := Lib.hid TX
                clear hV1 hV3
                go_wp2_with fail
                refine (TX.out _).mono ?_; rintro e w3 ⟨rfl, rfl⟩
                go_wp2
                go_roundw
                case rel => exact ⟨k + 1, by omega, by go_num, by rw [← SNk.out], hB8⟩
                case measure => simp [intOf]; omega
        · obtain rfl : k = vs.length := by omega
          have k11 : ¬ (vs.length : Int) < (vs.length : Int) := by omega
          have hB9 := mmore hB1 hB
          go_wp2
          go_ret
          exact YES.out _ hB9
end Go.Proofs.YtkmlbifhpkfinaaGreatDoor
