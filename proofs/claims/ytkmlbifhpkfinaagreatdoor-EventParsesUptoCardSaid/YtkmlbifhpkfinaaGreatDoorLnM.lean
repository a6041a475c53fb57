/- One text of several (LnH, LnI, LnJ, LnK, LnL). -/
import Derived.Test.YtkmlbifhpkfinaaGreatDoorLnF
import Derived.Test.YtkmlbifhpkfinaaGreatDoorLnG
import Derived.Test.YtkmlbifhpkfinaaGreatDoorEvF
import Derived.Test.YtkmlbifhpkfinaaGreatDoorEvR
import Derived.Maps.AppendAt
namespace Go.Proofs.YtkmlbifhpkfinaaGreatDoor
open Go.ChangeShapes Go.WideShapes Go.ChangeAt Go.RowKit Go.Fl
set_option linter.unusedVariables false
set_option linter.unusedSimpArgs false

theorem joinW_snoc : ∀ (a : List UInt8) (ws : List (List UInt8)) (b : List UInt8), joinW (a :: (ws ++ [b])) = joinW (a :: ws) ++ 32 :: b
  | a, [], b => by rw [List.nil_append, joinW_cons, joinW_one, joinW_one]
  | a, c :: r, b => by rw [List.cons_append, joinW_cons, joinW_cons, joinW_snoc c r b]; simp
theorem bl_app (a b : List UInt8) : bl a ++ bl b = bl (a ++ b) := by
  apply ByteArray.ext
  apply Array.ext'
  simp [bl, ByteArray.toList_data_append]
/-- the line up to the k-th value -/
def lnT (ss : List ByteArray) (nm : ByteArray) (tm : Int) (vs : List (Int × Nat)) (k : Nat) : ByteArray := bl (joinW (nm.data.toList :: Lib.itoa tm :: (vs.take k).map (wordW ss)))
theorem lnT_zero (ss : List ByteArray) (nm : ByteArray) (tm : Int) (vs : List (Int × Nat)) : nm ++ (⟨#[32]⟩ : ByteArray) ++ bl (Lib.itoa tm) = lnT ss nm tm vs 0 := by
  unfold lnT
  rw [List.take_zero, List.map_nil, joinW_cons, joinW_one]
  rw [show (⟨#[32]⟩ : ByteArray) = bl [32] from rfl, ← bl_of nm, bl_app, bl_app, bl_list]
  simp
theorem lnT_snoc (ss : List ByteArray) (nm : ByteArray) (tm : Int) (vs : List (Int × Nat)) (k : Nat) (v : Int × Nat) (h : vs[k]? = some v) : lnT ss nm tm vs k ++ ((⟨#[32]⟩ : ByteArray) ++ bl (wordW ss v)) = lnT ss nm tm vs (k + 1) := by
  unfold lnT
  rw [show (⟨#[32]⟩ : ByteArray) = bl [32] from rfl, bl_app, bl_app, List.take_add_one, h]
  simp only [Option.toList_some, List.map_append, List.map_cons, List.map_nil]
  rw [show Lib.itoa tm :: ((vs.take k).map (wordW ss) ++ [wordW ss v]) = (Lib.itoa tm :: (vs.take k).map (wordW ss)) ++ [wordW ss v] from rfl, joinW_snoc]
  rfl
theorem lnT_size {ss : List ByteArray} {nm : ByteArray} {tm : Int} {vs : List (Int × Nat)} {k : Nat} (hn : nm.size ≤ 25) (h0 : -9223372036854775808 ≤ tm) (h1 : tm ≤ 9223372036854775807) (hv : ∀ v ∈ vs, (wordW ss v).length ≤ 25) (h8 : vs.length ≤ 8) : (lnT ss nm tm vs k).size ≤ 1000 := by
  unfold lnT
  rw [bl_size]
  have hi := Lib.itoa_length_le tm h0 h1
  have := join_len (nm.data.toList :: Lib.itoa tm :: (vs.take k).map (wordW ss)) (fun a ha => by
    rcases List.mem_cons.1 ha with rfl | ha
    · rw [list_len]; exact hn
    · rcases List.mem_cons.1 ha with rfl | ha
      · omega
      · obtain ⟨v, hv', rfl⟩ := List.mem_map.1 ha
        exact hv v (List.mem_of_mem_take hv'))
  have hl : (nm.data.toList :: Lib.itoa tm :: (vs.take k).map (wordW ss)).length ≤ 10 := by simp; omega
  omega
theorem sp_false : (⟨#[32, 102, 97, 108, 115, 101]⟩ : ByteArray) = (⟨#[32]⟩ : ByteArray) ++ bl falseB := by decide +kernel
theorem sp_true : (⟨#[32, 116, 114, 117, 101]⟩ : ByteArray) = (⟨#[32]⟩ : ByteArray) ++ bl trueB := by decide +kernel
theorem sp_name (s : ByteArray) : (⟨#[32, 39]⟩ : ByteArray) ++ s = (⟨#[32]⟩ : ByteArray) ++ bl (39 :: s.data.toList) := by
  rw [show (⟨#[32, 39]⟩ : ByteArray) = bl [32, 39] from rfl, show (⟨#[32]⟩ : ByteArray) = bl [32] from rfl, bl_app]
  conv => lhs; rw [← bl_of s]
  rw [bl_app]
  rfl
theorem word_3 {ss : List ByteArray} {vb : Nat} {nm : ByteArray} (h : ss[vb]? = some nm) : wordW ss (3, vb) = 39 :: nm.data.toList := by
  unfold wordW; rw [if_neg (by simp), if_neg (by simp), if_pos rfl, h]; rfl

theorem ix_zero (a b : ByteArray) (w : World) : (Instr.index 67 (.agg #[.string a, .string b]) (.int .u64 0)).run Tryz.prog w = .ok (.string a) w := by
  simp [Instr.index, run_underlying Tryz.underlying67, asIntOf, go_sem]
theorem ix_one (a b : ByteArray) (w : World) : (Instr.index 67 (.agg #[.string a, .string b]) (.int .u64 1)).run Tryz.prog w = .ok (.string b) w := by
  simp [Instr.index, run_underlying Tryz.underlying67, asIntOf, go_sem]
set_option maxHeartbeats 8000000 in
set_option maxRecDepth 100000 in
theorem rline_any (A C B : Option Addr) (cap capC capB : Nat) (ts : List ST) (ss : List ByteArray) (ty tm : Int) (vs : List (Int × Nat)) (w : World) (hA : TypesAt w A ts) (hS : SymsAt w C ss) (hv : RowV w B vs.length vs) (b1 : ts.length * 40 ≤ 140737488351232) (b2 : ∀ t ∈ ts, t.2.length * 24 ≤ 140737488351232) (hc1 : ss.length ≤ capC) (hc2 : capC ≤ maxLen) (hl : vs.length * 16 ≤ 140737488351232) :
    Calls Tryz.prog 10 #[.agg #[.slice A ts.length cap, .slice C ss.length capC], .agg #[.int .i64 ty, .int .i64 tm, .slice B vs.length capB]] w (LineR ts ss ty tm vs w) := by
  have hu := m2 w (.cells #[.slice A ts.length cap, .slice C ss.length capC] 25) (.cells #[.int .i64 ty, .int .i64 tm, .slice B vs.length capB] 28)
  have k0 : Blk ((w.alloc (.cells #[.slice A ts.length cap, .slice C ss.length capC] 25)).alloc (.cells #[.int .i64 ty, .int .i64 tm, .slice B vs.length capB] 28)) w.heap.size 25 #[.slice A ts.length cap, .slice C ss.length capC] := (Blk.made _ _ _).kept (m1 _ _)
  have k1 : Blk ((w.alloc (.cells #[.slice A ts.length cap, .slice C ss.length capC] 25)).alloc (.cells #[.int .i64 ty, .int .i64 tm, .slice B vs.length capB] 28)) (w.heap.size + 1) 28 #[.int .i64 ty, .int .i64 tm, .slice B vs.length capB] := by
    have := Blk.made (w.alloc (.cells #[.slice A ts.length cap, .slice C ss.length capC] 25)) 28 #[.int .i64 ty, .int .i64 tm, .slice B vs.length capB]
    simpa using this
  have hAu := hA.later hu
  have hSu := hS.later hu
  have hVu := hv.later hu
  clear hA hS hv
  replace b2 := Lib.hid b2
  have hlv : vs.length ≤ 9223372036854775807 := by omega
  go_enter Tryz.func10, Tryz.ntmps10
  go_wp2_with fail
  generalize (w.alloc (.cells #[.slice A ts.length cap, .slice C ss.length capC] 25)).alloc (.cells #[.int .i64 ty, .int .i64 tm, .slice B vs.length capB] 28) = u at *
  refine (rvalid_any A C B cap capC capB ts ss ty tm vs u hAu hSu hVu b1 b2.out hc1 hc2 hlv).mono ?_; rintro e w1 ⟨q, rfl, hq, hb1⟩
  cases q
  · have hno : ¬ EvOk ts ss ty tm vs := fun h => by have := hq.2 h; cases this
    replace hno := Lib.hid hno
    have hB1 := mmore hu hb1
    clear hq hAu hSu hVu k0 k1 hb1
    go_wp2_with fail
    go_ret
    exact LineR.no hno.out hB1
  · have hok : EvOk ts ss ty tm vs := hq.1 rfl
    have hbits := hVu.2.1
    obtain ⟨t, x, rfl, hx, h8, hWW, hLL⟩ := line_parts hok hbits
    have h0 : 0 ≤ tm := by obtain ⟨_, _, _, _, h0, _⟩ := ok_parts hok; exact h0
    have h1 : tm ≤ 1152921504606846976 := by obtain ⟨_, _, _, _, _, h1, _⟩ := ok_parts hok; exact h1
    have hnm : NameP x.1 := ((ok_well hok.1).1.2.1 t x.1 (by rw [List.getElem?_map, hx]; rfl)).1
    have hwl : ∀ v ∈ vs, (wordW ss v).length ≤ 25 := fun v hv => by
      obtain ⟨i, hi, rfl⟩ := List.getElem_of_mem hv
      obtain ⟨y, hV, _⟩ := line_val hok (List.getElem?_eq_getElem hi)
      exact word_len hok.1 hV
    have FIN : lnT ss x.1 tm vs vs.length = bl (lineB ts ss (t : Int) tm vs) := by unfold lnT lineB; rw [hWW, List.take_length]
    have YES := fun w' (h : Below w.heap.size w w') => LineR.yes hok h
    rw [← FIN] at YES
    have LZ := fun k => lnT_size (ss := ss) (nm := x.1) (tm := tm) (vs := vs) (k := k) (by have := hnm.2.1; omega) (by omega) (by omega) hwl h8
    have Z0 := lnT_zero ss x.1 tm vs
    have SN := fun (k : Nat) (v : Int × Nat) hk => lnT_snoc ss x.1 tm vs k v hk
    have LV := fun (k : Nat) (v : Int × Nat) (hk : vs[k]? = some v) => line_val hok hk
    have hsy := fun (n : Nat) (h : n < ss.length) => (ok_sym hok.1 h).2.1
    have hnz := hnm.2.1
    have ht : t < ts.length := (List.getElem?_eq_some_iff.1 hx).1
    obtain ⟨tb, toff, rfl, htc⟩ := hAu (by omega)
    obtain ⟨tu, t0, _, _⟩ := htc t x hx
    have DI := fun w => rdecimal_any tm w (by omega) (by omega)
    change ∀ w, Calls Tryz.prog 21 #[.int .i64 tm] w fun e w' => e = .returned (.string (bl (Lib.itoa tm))) ∧ Below w.heap.size w w' at DI
    have hDz : (bl (Lib.itoa tm)).size ≤ 21 := by rw [bl_size]; exact Lib.itoa_length_le _ (by omega) (by omega)
    generalize lnT ss x.1 tm vs = L at *
    generalize bl (Lib.itoa tm) = TM at *
    have t00 : (0 : Int) ≤ (t : Int) := by omega
    have t11 : (t : Int) < (ts.length : Int) := by omega
    have j0 := k0.kept hb1
    have j1 := k1.kept hb1
    have hB1 := mmore hu hb1
    have d0 : w1.cell? ⟨w.heap.size, 0, none⟩ = some (.slice (some ⟨tb, toff, none⟩) ts.length cap) := j0.cell 0
    have d2 : w1.cell? ⟨w.heap.size + 1, 0, none⟩ = some (.int .i64 (t : Int)) := j1.cell 0
    have d3 : w1.cell? ⟨w.heap.size + 1, 1, none⟩ = some (.int .i64 tm) := j1.cell 1
    have t0 := cell_later hb1 t0
    replace YES := Lib.hid YES
    replace LZ := Lib.hid LZ
    replace Z0 := Lib.hid Z0
    replace SN := Lib.hid SN
    replace LV := Lib.hid LV
    replace hsy := Lib.hid hsy
    replace DI := Lib.hid DI
    replace hVu := Lib.hid hVu
    replace hSu := Lib.hid hSu
    clear hq hAu htc hok hx hWW hLL FIN hwl hnm hbits k0 k1
    generalize x.1 = nm at *
    have s1 : ¬ 9223372036854775807 < nm.size + 1 := by omega
    have s2 : ¬ 9223372036854775807 < nm.size + 1 + TM.size := by omega
    go_upto_region 3 with (fail)
    go_cut [5] from 12 to 23 (fun v w' => v = .string (L 0) ∧ Below w1.heap.size w1 w')
    case first =>
      go_region_law (first | (go_simp; go_at_call 21; refine (DI.out _).mono ?_; rintro e w2 ⟨rfl, hb2⟩; have hb2' := Lib.hid (mmore ((Below.refl _ w1).drew) hb2); have d0' := cell_later hb2'.out d0; have d2' := cell_later hb2'.out d2; have t0' := cell_later hb2'.out t0))
      all_goals (go_wp2_with fail; go_meet; exact ⟨by rw [Z0.out], hb2'.out⟩)
    case rest =>
      obtain ⟨rfl, hB5⟩ := hcut
      have x2 : w1.cell? ⟨w.heap.size + 1, 2, none⟩ = some (.slice B vs.length capB) := j1.cell 2
      have e2 := cell_later hB5 x2
      clear x2 d0 d2 d3 t0 DI Z0 s1 s2
      go_wp2_with fail
      go_loopw [5, 27] (fun v i wr => ∃ k : Nat, k ≤ vs.length ∧ i = .int .i64 (k : Int) ∧ v = .string (L k) ∧ Below w1.heap.size w1 wr) (fun _ i _ => vs.length - (intOf i).toNat)
      case atStart => exact ⟨0, by omega, rfl, rfl, hB5⟩
      case round =>
        obtain ⟨k, hk, rfl, rfl, hB⟩ := hrel
        clear e2
        have k00 : (0 : Int) ≤ (k : Int) := by omega
        have lz := LZ.out k
        by_cases hlt : k < vs.length
        · have k11 : (k : Int) < (vs.length : Int) := by omega
          obtain ⟨b, off, rfl, hvc⟩ := hVu.out.2.2 (by omega)
          have hvk : vs[k]? = some (vs[k].1, vs[k].2) := List.getElem?_eq_getElem hlt
          have hvb := hVu.out.2.1 _ (List.getElem_mem hlt)
          obtain ⟨q0, q1⟩ := hvc k _ _ hvk
          obtain ⟨y, hV, hy0, hy1⟩ := LV.out k _ hvk
          have SNk := SN.out k _ hvk
          obtain ⟨hk1, hV1, hV2, hV3⟩ := hV
          have hvb : vs[k].2 < 18446744073709551616 := hvb
          have hk1 : vs[k].1 = y := hk1
          have hV1 : clK vs[k].1 vs[k].2 = vs[k].1 := hV1
          have hV3 : vs[k].1 = 3 → (vs[k].2 : Int) < ss.length := hV3
          clear hV2
          generalize vs[k].1 = vk at *
          generalize vs[k].2 = vb at *
          subst hk1
          have q0 := cell_later (hb1.trans (hB.mono hb1.size)) q0
          have q1 := cell_later (hb1.trans (hB.mono hb1.size)) q1
          have J0 := j0.kept hB
          replace SNk := Lib.hid SNk
          clear hvc hvk
          go_upto_region 7 with (fail)
          have hw8 := m1 wr (.cells #[.int .i64 vk, .int .u64 (vb : Int)] 64)
          have hB8 := mmore hB hw8
          have J8 := J0.kept hw8
          have g0 : (wr.alloc (.cells #[.int .i64 vk, .int .u64 (vb : Int)] 64)).cell? ⟨wr.heap.size, 0, none⟩ = some (.int .i64 vk) := by simp [go_sem]
          have g1 : (wr.alloc (.cells #[.int .i64 vk, .int .u64 (vb : Int)] 64)).cell? ⟨wr.heap.size, 1, none⟩ = some (.int .u64 (vb : Int)) := by simp [go_sem]
          clear q0 q1 J0 hB hw8
          generalize wr.heap.size = g8 at *
          generalize wr.alloc (.cells #[.int .i64 vk, .int .u64 (vb : Int)] 64) = wz at *
          by_cases c1 : vk = 1
          · subst c1
            rw [word_1] at SNk
            have hr := wrap64_range (vb : Int)
            have DX := fun w => rdecimal_any (wrap64 (vb : Int)) w hr.1 hr.2
            change ∀ w, Calls Tryz.prog 21 #[.int .i64 (wrap64 (vb : Int))] w fun e w' => e = .returned (.string (bl (Lib.itoa (wrap64 (vb : Int))))) ∧ Below w.heap.size w w' at DX
            have hz : (bl (Lib.itoa (wrap64 (vb : Int)))).size ≤ 21 := by rw [bl_size]; exact Lib.itoa_length_le _ hr.1 hr.2
            generalize bl (Lib.itoa (wrap64 (vb : Int))) = X at *
            have s1 : ¬ 9223372036854775807 < 1 + X.size := by omega
            have s2 : ¬ 9223372036854775807 < (L k).size + (1 + X.size) := by omega
            replace DX := Lib.hid DX
            clear hV1 hV3 hr
            go_wp2_with fail
            refine (DX.out _).mono ?_; rintro e w3 ⟨rfl, hb3⟩
            have hB9 := mmore hB8 hb3
            go_wp2
            go_roundw
            case rel => exact ⟨k + 1, by omega, by go_num, by rw [← SNk.out], hB9⟩
            case measure => simp [intOf]; omega
          · by_cases c2 : vk = 2
            · subst c2
              have e2 := clB_bool hV1 rfl
              clear hV1 hV3
              have IX0 := fun w => ix_zero ⟨#[32, 102, 97, 108, 115, 101]⟩ ⟨#[32, 116, 114, 117, 101]⟩ w
              have IX1 := fun w => ix_one ⟨#[32, 102, 97, 108, 115, 101]⟩ ⟨#[32, 116, 114, 117, 101]⟩ w
              rcases e2 with rfl | rfl
              · rw [word_20, ← sp_false] at SNk
                have s2 : ¬ 9223372036854775807 < (L k).size + 6 := by omega
                go_wp2
                go_roundw
                case rel => exact ⟨k + 1, by omega, by go_num, by rw [← SNk.out], hB8⟩
                case measure => simp [intOf]; omega
              · rw [word_21, ← sp_true] at SNk
                have s2 : ¬ 9223372036854775807 < (L k).size + 5 := by omega
                go_wp2
                go_roundw
                case rel => exact ⟨k + 1, by omega, by go_num, by rw [← SNk.out], hB8⟩
                case measure => simp [intOf]; omega
            · by_cases c3 : vk = 3
              · subst c3
                have hl2 : vb < ss.length := by have := hV3 rfl; omega
                obtain ⟨bS, oS, rfl, hc⟩ := hSu.out (by omega)
                have hsv : ss[vb]? = some ss[vb] := List.getElem?_eq_getElem hl2
                have q2 := cell_later (hb1.trans (hB8.mono hb1.size)) (hc vb _ hsv)
                have hnm := hsy.out vb hl2
                rw [word_3 hsv, ← sp_name] at SNk
                generalize ss[vb] = sx at *
                have l0 : (0 : Int) ≤ (vb : Int) := by omega
                have l1 : (vb : Int) < (ss.length : Int) := by omega
                have s1 : ¬ 9223372036854775807 < 2 + sx.size := by omega
                have s2 : ¬ 9223372036854775807 < (L k).size + (2 + sx.size) := by omega
                have e1 : wz.cell? ⟨w.heap.size, 1, none⟩ = some (.slice (some ⟨bS, oS, none⟩) ss.length capC) := J8.cell 1
                clear hc hsv hV1 hV3
                go_wp2
                go_roundw
                case rel => exact ⟨k + 1, by omega, by go_num, by rw [← SNk.out], hB8⟩
                case measure => simp [intOf]; omega
              · obtain rfl : vk = 4 := by omega
                rw [word_4] at SNk
                have TX := fun w => rtext_any vb w hvb
                change ∀ w, Calls Tryz.prog 22 #[.int .u64 (vb : Int)] w fun e w' => e = .returned (.string (bl (textB (cn vb)))) ∧ w = w' at TX
                have hz : (bl (textB (cn vb))).size ≤ 25 := by rw [bl_size]; exact hexK_l16 _
                generalize bl (textB (cn vb)) = X at *
                have s1 : ¬ 9223372036854775807 < 1 + X.size := by omega
                have s2 : ¬ 9223372036854775807 < (L k).size + (1 + X.size) := by omega
                replace TX := Lib.hid TX
                clear hV1 hV3
                go_wp2_with fail
                refine (TX.out _).mono ?_; rintro e w3 ⟨rfl, rfl⟩
                go_wp2
                go_roundw
                case rel => exact ⟨k + 1, by omega, by go_num, by rw [← SNk.out], hB8⟩
                case measure => simp [intOf]; omega
        · obtain rfl : k = vs.length := by omega
          have k11 : ¬ (vs.length : Int) < (vs.length : Int) := by omega
          have hB9 := mmore hB1 hB
          go_wp2
          go_ret
          exact YES.out _ hB9
end Go.Proofs.YtkmlbifhpkfinaaGreatDoor
namespace Go.Proofs.YtkmlbifhpkfinaaGreatDoor
open Go.ChangeShapes Go.WideShapes Go.ChangeAt Go.RowKit Go.Fl
set_option linter.unusedVariables false
set_option linter.unusedSimpArgs false

/-- what stands between blanks -/
def splitW : List UInt8 → List UInt8 → List (List UInt8)
  | acc, [] => [acc]
  | acc, c :: r => if c == 32 then acc :: splitW [] r else splitW (acc ++ [c]) r
theorem splitW_word : ∀ (a acc r : List UInt8), noSp a → splitW acc (a ++ 32 :: r) = (acc ++ a) :: splitW [] r
  | [], acc, r, _ => by simp [splitW]
  | c :: a, acc, r, h => by
    have hc := h c (by simp)
    have := splitW_word a (acc ++ [c]) r (fun d hd => h d (by simp [hd]))
    simp only [List.cons_append, splitW, hc]
    rw [if_neg (by simp), this]
    simp
theorem splitW_last : ∀ (a acc : List UInt8), noSp a → splitW acc a = [acc ++ a]
  | [], acc, _ => by simp [splitW]
  | c :: a, acc, h => by
    have hc := h c (by simp)
    have := splitW_last a (acc ++ [c]) (fun d hd => h d (by simp [hd]))
    simp only [splitW, hc]
    rw [if_neg (by simp), this]
    simp
theorem splitW_join : ∀ (a : List UInt8) (ws : List (List UInt8)), (∀ w ∈ a :: ws, noSp w) → splitW [] (joinW (a :: ws)) = a :: ws
  | a, [], h => by rw [joinW_one, splitW_last _ _ (h a (by simp))]; simp
  | a, b :: r, h => by
    rw [joinW_cons, splitW_word _ _ _ (h a (by simp)), splitW_join b r (fun w hw => h w (by simp at hw ⊢; right; exact hw))]
    simp
theorem splitW_len : ∀ (l acc : List UInt8), (splitW acc l).length ≤ l.length + 1
  | [], acc => by simp [splitW]
  | c :: r, acc => by
    simp only [splitW]
    split
    · have := splitW_len r []; simp; omega
    · have := splitW_len r (acc ++ [c]); simp; omega
theorem splitW_ne (l acc : List UInt8) : splitW acc l ≠ [] := by
  cases l with
  | nil => simp [splitW]
  | cons c r =>
    simp only [splitW]
    split
    · simp
    · exact splitW_ne r _
theorem one_byte (s : ByteArray) (k : Nat) (h : k < s.size) : s.extract k (k + 1) = bl [s[k]] := by
  rw [bl_ext (ext_list s k (k + 1))]
  have hl : k < s.data.toList.length := by rw [list_len]; exact h
  rw [show k + 1 - k = 1 by omega, List.drop_eq_getElem_cons hl]
  rfl
theorem drop_byte (s : ByteArray) (k : Nat) (h : k < s.size) : s.data.toList.drop k = s[k] :: s.data.toList.drop (k + 1) := by
  have hl : k < s.data.toList.length := by rw [list_len]; exact h
  rw [List.drop_eq_getElem_cons hl]
  rfl

set_option maxHeartbeats 8000000 in
set_option maxRecDepth 100000 in
theorem rwords_any (s : ByteArray) (w : World) (hs : s.size ≤ 1048576) :
    Calls Tryz.prog 27 #[.string s] w fun e w' => ∃ v, e = .returned v ∧ w'.ownsRow w.heap.size 9 1 v (splitW [] s.data.toList).length (scells ((splitW [] s.data.toList).map bl)) ∧ Below w.heap.size w w' := by
  obtain ⟨i0, hi, hz0, hz1, hz2⟩ := info_parts infoStr
  have hfin : ∀ (done : List (List UInt8)) (acc : List UInt8), done ++ splitW acc [] = splitW [] s.data.toList → scells (done.map bl) ++ [.string (bl acc)] = scells ((splitW [] s.data.toList).map bl) ∧ (splitW [] s.data.toList).length = done.length + 1 := fun done acc h => by
    rw [← h]
    simp [splitW, scells]
  have hlenL := splitW_len s.data.toList []
  rw [list_len] at hlenL
  have hstart : ([] : List (List UInt8)) ++ splitW [] (s.data.toList.drop 0) = splitW [] s.data.toList := by simp
  generalize splitW [] s.data.toList = L at *
  replace hfin := Lib.hid hfin
  replace hstart := Lib.hid hstart
  go_enter Tryz.func27, Tryz.ntmps27
  go_wp2_with fail
  go_loopw [3, 4, 5] (fun v x i wr => ∃ (k : Nat) (done : List (List UInt8)) (acc : List UInt8), k ≤ s.size ∧ i = .int .i64 (k : Int) ∧ x = .string (bl acc) ∧ done.length + acc.length ≤ k ∧ Hid (done ++ splitW acc (s.data.toList.drop k) = L) ∧ wr.ownsRow w.heap.size 9 1 v done.length (scells (done.map bl)) ∧ Below w.heap.size w wr) (fun _ _ i _ => s.size - (intOf i).toNat)
  case atStart => exact ⟨0, [], [], Nat.zero_le _, rfl, rfl, by simp, hstart, World.ownsRow_nil _ _ _ _, Below.refl _ _⟩
  case round =>
    obtain ⟨k, done, acc, hk, rfl, rfl, hl, hD, hO, hB⟩ := hrel
    have k00 : (0 : Int) ≤ (k : Int) := by omega
    have hbs := hB.size
    by_cases hlt : k < s.size
    · have k11 : (k : Int) < (s.size : Int) := by omega
      have hdb := drop_byte s k hlt
      have hob := one_byte s k hlt
      by_cases hc : s[k] = 32
      · have hD2 : Hid ((done ++ [acc]) ++ splitW [] (s.data.toList.drop (k + 1)) = L) := Lib.hid (by
          rw [← hD.out, hdb, hc]
          simp [splitW])
        have hcI : (((s[k]'hlt).toNat : Int) == 32) = true := by rw [hc]; rfl
        have SN : scells ((done ++ [acc]).map bl) = scells (done.map bl) ++ [.string (bl acc)] := by simp [scells]
        have LN : (done ++ [acc]).length = done.length + 1 := by simp
        replace SN := Lib.hid SN
        replace LN := Lib.hid LN
        clear hdb hob hD hc
        go_wp2_with (at_builtin; refine wpList_append_own _ rfl (.tmp 16) (.tmp 18) 23 rfl w.heap.size 9 i0 (.string ⟨#[]⟩) 1 16 Tryz.underlying23 hi hz0 hz1 hz2 rfl (by decide) u3 done.length (scells (done.map bl)) rfl (hO.alloc _) ⟨wr.heap.size, 0, none⟩ 1 1 [.string (bl acc)] rfl rfl ?c1 ?c2 ?c3 ?c4 ?c5 ?_)
        case c1 =>
          intro j u hj
          match j, hj with
          | 0, hj => simp at hj; subst hj; simp [Addr.add]
        case c2 => first | trivial | (intro u hu; simp at hu; subst hu; rfl)
        case c3 => unfold maxLen; omega
        case c4 => omega
        case c5 => first | omega | (simp; omega)
        intro v' w4 hO4 hgrow _
        rw [← SN.out, ← LN.out] at hO4
        have hB4 : Below w.heap.size w w4 := (hB.alloc hbs _).grown hgrow (by simp; omega) (fun g hg => (hO.lt g hg).1)
        have hl4 : (done ++ [acc]).length + ([] : List UInt8).length ≤ k + 1 := by rw [LN.out]; simp; omega
        replace hl4 := Lib.hid hl4
        clear hO hgrow hB
        go_wp2
        go_roundw
        case rel => exact ⟨k + 1, done ++ [acc], [], by omega, by go_num, rfl, hl4.out, hD2, hO4, hB4⟩
        case measure => simp [intOf]; omega
      · have hcb : (s[k] == 32) = false := by simpa using hc
        have hD2 : Hid (done ++ splitW (acc ++ [s[k]]) (s.data.toList.drop (k + 1)) = L) := Lib.hid (by
          rw [← hD.out, hdb]
          simp [splitW, hcb])
        have hcI : (((s[k]'hlt).toNat : Int) == 32) = false := by
          apply beq_eq_false_iff_ne.2
          intro e
          exact hc (UInt8.toNat_inj.1 (by show (s[k]'hlt).toNat = 32; omega))
        have hap : bl acc ++ s.extract k (k + 1) = bl (acc ++ [s[k]]) := by rw [hob, bl_app]
        have hl4 : Hid (done.length + (acc ++ [s[k]]).length ≤ k + 1) := Lib.hid (by simp; omega)
        have hz1' : (s.extract k (k + 1)).size = 1 := by rw [hob]; rfl
        have hz2' : (bl acc).size ≤ k := by rw [bl_size]; omega
        have lq : ¬ 9223372036854775807 < (bl acc).size + (s.extract k (k + 1)).size := by omega
        have k4 : (0 : Int) ≤ (k : Int) + 1 := by omega
        have k5 : (k : Int) ≤ (k : Int) + 1 := by omega
        have k6 : (k : Int) + 1 ≤ (s.size : Int) := by omega
        have k7 : IntKind.i64.wrap ((k : Int) + 1) = (k : Int) + 1 := by rw [IntKind.wrap_i64]; omega
        replace hap := Lib.hid hap
        replace hz1' := Lib.hid hz1'
        clear hdb hob hD hc hcb
        go_wp2
        exact ⟨⟨k + 1, done, acc ++ [s[k]], by omega, by go_num, by rw [hap.out], hl4.out, hD2, hO, hB⟩, by simp [intOf]; omega⟩
    · obtain rfl : k = s.size := by omega
      have k11 : ¬ (s.size : Int) < (s.size : Int) := by omega
      have hd0 : s.data.toList.drop s.size = [] := List.drop_eq_nil_of_le (by rw [list_len]; omega)
      rw [hd0] at hD
      obtain ⟨SN, LN⟩ := hfin.out done acc hD.out
      replace SN := Lib.hid SN
      replace LN := Lib.hid LN
      clear hD hd0
      go_wp2_with (at_builtin; refine wpList_append_own _ rfl (.tmp 27) (.tmp 29) 23 rfl w.heap.size 9 i0 (.string ⟨#[]⟩) 1 16 Tryz.underlying23 hi hz0 hz1 hz2 rfl (by decide) u3 done.length (scells (done.map bl)) rfl (hO.alloc _) ⟨wr.heap.size, 0, none⟩ 1 1 [.string (bl acc)] rfl rfl ?c1 ?c2 ?c3 ?c4 ?c5 ?_)
      case c2 => first | trivial | (intro u hu; simp at hu; subst hu; rfl)
      case c3 => unfold maxLen; omega
      case c4 => omega
      case c5 => first | omega | (simp; omega)
      intro v' w4 hO4 hgrow _
      rw [SN.out, ← LN.out] at hO4
      have hB4 : Below w.heap.size w w4 := (hB.alloc hbs _).grown hgrow (by simp; omega) (fun g hg => (hO.lt g hg).1)
      clear hO hgrow hB
      go_wp2
      go_ret
      exact ⟨_, rfl, hO4, hB4⟩
end Go.Proofs.YtkmlbifhpkfinaaGreatDoor
namespace Go.Proofs.YtkmlbifhpkfinaaGreatDoor
open Go.ChangeShapes Go.WideShapes Go.ChangeAt Go.RowKit Go.Fl
set_option linter.unusedVariables false
set_option linter.unusedSimpArgs false

def valU : Nat → List UInt8 → Nat
  | acc, [] => acc
  | acc, c :: r => valU (acc * 10 + (c.toNat - 48)) r
theorem valU_app : ∀ (l : List UInt8) (acc : Nat) (c : UInt8), valU acc (l ++ [c]) = valU acc l * 10 + (c.toNat - 48)
  | [], acc, c => rfl
  | d :: r, acc, c => valU_app r _ c
theorem valU_dd (u : Nat) : valU 0 (Lib.decDigits u) = u := by
  induction u using Lib.decDigits.induct with
  | case1 u h =>
    rw [Lib.decDigits, dif_pos h]
    show 0 * 10 + ((UInt8.ofNat (48 + u)).toNat - 48) = u
    rw [ofNat_dig u h]
    omega
  | case2 u h ih =>
    rw [Lib.decDigits, dif_neg h, valU_app, ih, ofNat_dig _ (Nat.mod_lt _ (by decide))]
    omega
theorem dd_len19 (u : Nat) (h : u ≤ 9223372036854775808) : (Lib.decDigits u).length ≤ 19 := dec_len 19 u (by decide) (Nat.lt_of_le_of_lt h (by decide))
/-- the digits behind a sign -/
def numD : List UInt8 → List UInt8
  | [] => []
  | c :: r => if c == 45 then r else c :: r
theorem num_at {l : List UInt8} {x : Int} (h0 : -9223372036854775808 ≤ x) (h1 : x ≤ 9223372036854775807) (h : l = Lib.itoa x) :
    ∃ u : Nat, numD l = Lib.decDigits u ∧ u ≤ 9223372036854775808 ∧ ((x = (u : Int) ∧ (numD l).length = l.length ∧ x ≤ 9223372036854775807) ∨ (x = -(u : Int) ∧ (numD l).length + 1 = l.length)) := by
  subst h
  by_cases h : 0 ≤ x
  · obtain ⟨u, rfl⟩ : ∃ u : Nat, x = (u : Int) := ⟨x.toNat, by omega⟩
    rw [Lib.itoa_nonneg]
    have hd := dd_dig u
    have e : numD (Lib.decDigits u) = Lib.decDigits u := by
      cases hl : Lib.decDigits u with
      | nil => rfl
      | cons c r =>
        rw [hl] at hd
        have hc := hd c (by simp)
        have : (c == 45) = false := by
          apply beq_eq_false_iff_ne.2
          rintro rfl
          have : (45 : UInt8).toNat = 45 := rfl
          omega
        simp [numD, this]
    exact ⟨u, e, by omega, .inl ⟨rfl, by rw [e], by omega⟩⟩
  · obtain ⟨u, rfl, hu⟩ : ∃ u : Nat, x = -(u : Int) ∧ 1 ≤ u := ⟨(-x).toNat, by omega, by omega⟩
    rw [Lib.itoa_neg u hu]
    exact ⟨u, by simp [numD], by omega, .inr ⟨rfl, by simp [numD]⟩⟩
def NumR (s : ByteArray) (w : World) (e : Ending) (w' : World) : Prop :=
  (∃ (m : Int) (b : Bool), e = .returned (.tuple #[.int .i64 m, .bool b]) ∧ -9223372036854775808 ≤ m ∧ m ≤ 9223372036854775807 ∧ (∀ x : Int, -9223372036854775808 ≤ x → x ≤ 9223372036854775807 → s.data.toList = Lib.itoa x → m = x)) ∧ Below w.heap.size w w'

set_option maxHeartbeats 8000000 in
set_option maxRecDepth 100000 in
theorem rnumber_any (s : ByteArray) (w : World) (hs : s.size ≤ 281474976710656) :
    Calls Tryz.prog 29 #[.string s] w (NumR s w) := by
  have hNU : ∀ x : Int, -9223372036854775808 ≤ x → x ≤ 9223372036854775807 → s.data.toList = Lib.itoa x → ∃ u : Nat, numD s.data.toList = Lib.decDigits u ∧ u ≤ 9223372036854775808 ∧ ((x = (u : Int) ∧ (numD s.data.toList).length = s.data.toList.length ∧ x ≤ 9223372036854775807) ∨ (x = -(u : Int) ∧ (numD s.data.toList).length + 1 = s.data.toList.length)) := fun x h0 h1 h => num_at h0 h1 h
  by_cases hz : s.size = 0
  · have hd : s.data.toList = numD s.data.toList := by
      have : s.data.toList = [] := List.eq_nil_of_length_eq_zero (by rw [list_len]; exact hz)
      rw [this]
      rfl
    rw [← hd] at hNU
    have c0 : ¬ (0 : Int) < (s.size : Int) := by omega
    have hdn : ¬ (s.size : Int) < (s.size : Int) := by omega
    replace hNU := Lib.hid hNU
    clear hd
    · go_enter Tryz.func29, Tryz.ntmps29
      go_upto_region 4 with (fail)
      clear c0 hz
      go_wp2_with fail
      go_loopw [5, 6] (fun x i wr => ∃ k n : Nat, k ≤ s.size ∧ k ≤ 19 ∧ n < 10 ^ k ∧ i = .int .i64 (k : Int) ∧ x = .int .u64 (n : Int) ∧ Hid (valU n (s.data.toList.drop k) = valU 0 s.data.toList) ∧ w = wr) (fun _ i _ => s.size - (intOf i).toNat)
      case atStart => exact ⟨0, 0, Nat.zero_le _, by decide, by decide, rfl, rfl, Lib.hid (by simp), rfl⟩
      case round =>
        obtain ⟨k, n, hk, hk19, hn, rfl, rfl, hV, rfl⟩ := hrel
        have k00 : (0 : Int) ≤ (k : Int) := by omega
        have hn10 : n < 10 ^ 19 := Nat.lt_of_lt_of_le hn (Nat.pow_le_pow_right (by decide) hk19)
        by_cases hlt : k < s.size
        · have k11 : (k : Int) < (s.size : Int) := by omega
          have hdb := drop_byte s k hlt
          have RD := fun w => rdigit_any ((s[k]'hlt).toNat : Int) w
          have hc256 : (s[k]'hlt).toNat < 256 := UInt8.toNat_lt _
          by_cases hdg : digC ((s[k]'hlt).toNat : Int) = true
          · rw [hdg] at RD
            by_cases h18 : k ≤ 18
            · have k18 : ¬ (18 : Int) < (k : Int) := by omega
              have hr : 48 ≤ (s[k]'hlt).toNat ∧ (s[k]'hlt).toNat ≤ 57 := by unfold digC at hdg; have := of_decide_eq_true hdg; omega
              have hV2 : Hid (valU (n * 10 + ((s[k]'hlt).toNat - 48)) (s.data.toList.drop (k + 1)) = valU 0 s.data.toList) := Lib.hid (by rw [← hV.out, hdb]; rfl)
              have hn2 : n * 10 + ((s[k]'hlt).toNat - 48) < 10 ^ (k + 1) := by rw [Nat.pow_succ]; omega
              have hn18 : n < 10 ^ 18 := Nat.lt_of_lt_of_le hn (Nat.pow_le_pow_right (by decide) h18)
              have e1 : IntKind.u64.wrap (10 * (n : Int)) = 10 * (n : Int) := by rw [IntKind.wrap_u64]; omega
              have e2 : IntKind.u8.wrap (((s[k]'hlt).toNat : Int) - 48) = (((s[k]'hlt).toNat - 48 : Nat) : Int) := by rw [IntKind.wrap_u8]; omega
              have e3 : IntKind.u64.wrap (((s[k]'hlt).toNat - 48 : Nat) : Int) = (((s[k]'hlt).toNat - 48 : Nat) : Int) := by rw [IntKind.wrap_u64]; omega
              have e4 : IntKind.u64.wrap (10 * (n : Int) + (((s[k]'hlt).toNat - 48 : Nat) : Int)) = ((n * 10 + ((s[k]'hlt).toNat - 48) : Nat) : Int) := by rw [IntKind.wrap_u64]; omega
              have hmk : Hid (∀ z : Int, z = ((n * 10 + ((s[k]'hlt).toNat - 48) : Nat) : Int) → ∃ k' n' : Nat, k' ≤ s.size ∧ k' ≤ 19 ∧ n' < 10 ^ k' ∧ Value.int .i64 ((k : Int) + 1) = .int .i64 (k' : Int) ∧ Value.int .u64 z = .int .u64 (n' : Int) ∧ Hid (valU n' (s.data.toList.drop k') = valU 0 s.data.toList)) := Lib.hid (fun z hz => ⟨k + 1, _, by omega, by omega, hn2, by go_num, by rw [hz], hV2⟩)
              replace RD := Lib.hid RD
              clear hV hdb hdg hn2 hV2 hNU
              go_wp2_with (go_at_call 46; refine (RD.out _).mono ?_; rintro e w1 ⟨rfl, rfl⟩)
              exact ⟨by obtain ⟨k', n', a1, a2, a3, a4, a5, a6⟩ := hmk.out ((n : Int) * 10 + (((s[k]'hlt).toNat - 48 : Nat) : Int)) (by omega); exact ⟨k', n', a1, a2, a3, a4, a5, a6, trivial⟩, by simp [intOf]; omega⟩
            · have k18 : (18 : Int) < (k : Int) := by omega
              have hno : Hid (∀ x : Int, -9223372036854775808 ≤ x → x ≤ 9223372036854775807 → s.data.toList = Lib.itoa x → (0 : Int) = x) := Lib.hid (fun x h0 h1 h => by
                obtain ⟨u, hu, hu2, _⟩ := hNU.out x h0 h1 h
                have := dd_len19 u (by omega)
                rw [← hu, list_len] at this
                omega)
              replace RD := Lib.hid RD
              clear hV hdb hdg hNU
              go_wp2_with (go_at_call 46; refine (RD.out _).mono ?_; rintro e w1 ⟨rfl, rfl⟩)
              exact bodyPost_ret (v := .tuple #[.int .i64 0, .bool false]) (by simp [results, Tryz.results29, go_sem]) rfl ⟨⟨0, false, rfl, by decide, by decide, hno.out⟩, Below.refl _ _⟩
          · have hdg' : digC ((s[k]'hlt).toNat : Int) = false := by simpa using hdg
            rw [hdg'] at RD
            have hno : Hid (∀ x : Int, -9223372036854775808 ≤ x → x ≤ 9223372036854775807 → s.data.toList = Lib.itoa x → (0 : Int) = x) := Lib.hid (fun x h0 h1 h => by
              obtain ⟨u, hu, hu2, _⟩ := hNU.out x h0 h1 h
              have h3 := dd_dig u (s[k]'hlt) (by rw [← hu]; exact List.getElem_mem (h := by rw [list_len]; exact hlt))
              exfalso
              apply hdg
              unfold digC
              apply decide_eq_true
              omega)
            replace RD := Lib.hid RD
            clear hV hdb hdg hNU
            go_wp2_with (go_at_call 46; refine (RD.out _).mono ?_; rintro e w1 ⟨rfl, rfl⟩)
            exact bodyPost_ret (v := .tuple #[.int .i64 0, .bool false]) (by simp [results, Tryz.results29, go_sem]) rfl ⟨⟨0, false, rfl, by decide, by decide, hno.out⟩, Below.refl _ _⟩
        · obtain rfl : k = s.size := by omega
          have k11 : ¬ (s.size : Int) < (s.size : Int) := by omega
          have hd0 : s.data.toList.drop s.size = [] := List.drop_eq_nil_of_le (by rw [list_len]; omega)
          have hV2 : n = valU 0 s.data.toList := by have := hV.out; rw [hd0] at this; exact this
          have hM : ∀ x : Int, -9223372036854775808 ≤ x → x ≤ 9223372036854775807 → s.data.toList = Lib.itoa x → (wrap64 (n : Int)) = x := fun x h0 h1 h => by
            obtain ⟨u, hu, hu2, hx⟩ := hNU.out x h0 h1 h
            rw [hu, valU_dd] at hV2
            subst hV2
            have hl1 := list_len s
            have hl2 := list_len s
            rcases hx with ⟨rfl, hlen, h9⟩ | ⟨rfl, hlen⟩
            · first | (exfalso; omega) | (unfold wrap64; omega)
            · first | (exfalso; omega) | (rw [IntKind.wrap_i64]; unfold wrap64; omega)
          have hMr : -9223372036854775808 ≤ (wrap64 (n : Int)) ∧ (wrap64 (n : Int)) ≤ 9223372036854775807 := by first | exact wrap64_range _ | (rw [IntKind.wrap_i64]; omega)
          have DX := fun w => rdecimal_any ((wrap64 (n : Int))) w hMr.1 hMr.2
          change ∀ w, Calls Tryz.prog 21 #[.int .i64 ((wrap64 (n : Int)))] w fun e w' => e = .returned (.string (bl (Lib.itoa ((wrap64 (n : Int)))))) ∧ Below w.heap.size w w' at DX
          generalize bl (Lib.itoa ((wrap64 (n : Int)))) = X at *
          generalize hMM : (wrap64 (n : Int)) = M at *
          replace DX := Lib.hid DX
          replace hM := Lib.hid hM
          clear hV hV2 hd0 hNU hn hn10
          by_cases hdp : 0 < s.size
          · have kp : (0 : Int) < (s.size : Int) := by omega
            go_wp2_with fail
            (first | rw [hMM] | (try simp only [hMM]))
            refine (DX.out _).mono ?_; rintro e w1 ⟨rfl, hb1⟩
            go_wp2
            exact bodyPost_ret (v := .tuple #[.int .i64 M, .bool (X.toList == s.toList)]) (by simp [results, Tryz.results29, go_sem]) rfl ⟨⟨M, _, rfl, hMr.1, hMr.2, hM.out⟩, hb1⟩
          · have kp : ¬ (0 : Int) < (s.size : Int) := by omega
            go_wp2
            all_goals (first | rw [hMM] | (try simp only [hMM]))
            all_goals exact bodyPost_ret (v := .tuple #[.int .i64 M, .bool false]) (by simp [results, Tryz.results29, go_sem]) rfl ⟨⟨M, _, rfl, hMr.1, hMr.2, hM.out⟩, Below.refl _ _⟩
  · have hpos : 0 < s.size := by omega
    have hdb0 := drop_byte s 0 hpos
    rw [List.drop_zero] at hdb0
    by_cases h45 : s[0] = 45
    · have hd : (s.extract 1 s.size).data.toList = numD s.data.toList := by
        rw [hdb0, h45]
        rw [ext_drop, bl_list]
        simp [numD]
      have hdz : (s.extract 1 s.size).size + 1 = s.size := by rw [ext_drop, bl_size, List.length_drop, list_len]; omega
      have c0 : (0 : Int) < (s.size : Int) := by omega
      have c1 : (((s[0]'hpos).toNat : Int) == 45) = true := by rw [h45]; rfl
      have c2 : (1 : Int) ≤ (s.size : Int) := by omega
      rw [← hd] at hNU
      replace hNU := Lib.hid hNU
      have hdn : ((s.extract 1 s.size).size : Int) < (s.size : Int) := by omega
      clear hd hdb0 h45 hz
      go_enter Tryz.func29, Tryz.ntmps29
      go_upto_region 4 with (fail)
      generalize s.extract 1 s.size = d at *
      go_wp2_with fail
      go_loopw [5, 6] (fun x i wr => ∃ k n : Nat, k ≤ d.size ∧ k ≤ 19 ∧ n < 10 ^ k ∧ i = .int .i64 (k : Int) ∧ x = .int .u64 (n : Int) ∧ Hid (valU n (d.data.toList.drop k) = valU 0 d.data.toList) ∧ w = wr) (fun _ i _ => d.size - (intOf i).toNat)
      case atStart => exact ⟨0, 0, Nat.zero_le _, by decide, by decide, rfl, rfl, Lib.hid (by simp), rfl⟩
      case round =>
        obtain ⟨k, n, hk, hk19, hn, rfl, rfl, hV, rfl⟩ := hrel
        have k00 : (0 : Int) ≤ (k : Int) := by omega
        have hn10 : n < 10 ^ 19 := Nat.lt_of_lt_of_le hn (Nat.pow_le_pow_right (by decide) hk19)
        by_cases hlt : k < d.size
        · have k11 : (k : Int) < (d.size : Int) := by omega
          have hdb := drop_byte d k hlt
          have RD := fun w => rdigit_any ((d[k]'hlt).toNat : Int) w
          have hc256 : (d[k]'hlt).toNat < 256 := UInt8.toNat_lt _
          by_cases hdg : digC ((d[k]'hlt).toNat : Int) = true
          · rw [hdg] at RD
            by_cases h18 : k ≤ 18
            · have k18 : ¬ (18 : Int) < (k : Int) := by omega
              have hr : 48 ≤ (d[k]'hlt).toNat ∧ (d[k]'hlt).toNat ≤ 57 := by unfold digC at hdg; have := of_decide_eq_true hdg; omega
              have hV2 : Hid (valU (n * 10 + ((d[k]'hlt).toNat - 48)) (d.data.toList.drop (k + 1)) = valU 0 d.data.toList) := Lib.hid (by rw [← hV.out, hdb]; rfl)
              have hn2 : n * 10 + ((d[k]'hlt).toNat - 48) < 10 ^ (k + 1) := by rw [Nat.pow_succ]; omega
              have hn18 : n < 10 ^ 18 := Nat.lt_of_lt_of_le hn (Nat.pow_le_pow_right (by decide) h18)
              have e1 : IntKind.u64.wrap (10 * (n : Int)) = 10 * (n : Int) := by rw [IntKind.wrap_u64]; omega
              have e2 : IntKind.u8.wrap (((d[k]'hlt).toNat : Int) - 48) = (((d[k]'hlt).toNat - 48 : Nat) : Int) := by rw [IntKind.wrap_u8]; omega
              have e3 : IntKind.u64.wrap (((d[k]'hlt).toNat - 48 : Nat) : Int) = (((d[k]'hlt).toNat - 48 : Nat) : Int) := by rw [IntKind.wrap_u64]; omega
              have e4 : IntKind.u64.wrap (10 * (n : Int) + (((d[k]'hlt).toNat - 48 : Nat) : Int)) = ((n * 10 + ((d[k]'hlt).toNat - 48) : Nat) : Int) := by rw [IntKind.wrap_u64]; omega
              have hmk : Hid (∀ z : Int, z = ((n * 10 + ((d[k]'hlt).toNat - 48) : Nat) : Int) → ∃ k' n' : Nat, k' ≤ d.size ∧ k' ≤ 19 ∧ n' < 10 ^ k' ∧ Value.int .i64 ((k : Int) + 1) = .int .i64 (k' : Int) ∧ Value.int .u64 z = .int .u64 (n' : Int) ∧ Hid (valU n' (d.data.toList.drop k') = valU 0 d.data.toList)) := Lib.hid (fun z hz => ⟨k + 1, _, by omega, by omega, hn2, by go_num, by rw [hz], hV2⟩)
              replace RD := Lib.hid RD
              clear hV hdb hdg hn2 hV2 hNU
              go_wp2_with (go_at_call 46; refine (RD.out _).mono ?_; rintro e w1 ⟨rfl, rfl⟩)
              exact ⟨by obtain ⟨k', n', a1, a2, a3, a4, a5, a6⟩ := hmk.out ((n : Int) * 10 + (((d[k]'hlt).toNat - 48 : Nat) : Int)) (by omega); exact ⟨k', n', a1, a2, a3, a4, a5, a6, trivial⟩, by simp [intOf]; omega⟩
            · have k18 : (18 : Int) < (k : Int) := by omega
              have hno : Hid (∀ x : Int, -9223372036854775808 ≤ x → x ≤ 9223372036854775807 → s.data.toList = Lib.itoa x → (0 : Int) = x) := Lib.hid (fun x h0 h1 h => by
                obtain ⟨u, hu, hu2, _⟩ := hNU.out x h0 h1 h
                have := dd_len19 u (by omega)
                rw [← hu, list_len] at this
                omega)
              replace RD := Lib.hid RD
              clear hV hdb hdg hNU
              go_wp2_with (go_at_call 46; refine (RD.out _).mono ?_; rintro e w1 ⟨rfl, rfl⟩)
              exact bodyPost_ret (v := .tuple #[.int .i64 0, .bool false]) (by simp [results, Tryz.results29, go_sem]) rfl ⟨⟨0, false, rfl, by decide, by decide, hno.out⟩, Below.refl _ _⟩
          · have hdg' : digC ((d[k]'hlt).toNat : Int) = false := by simpa using hdg
            rw [hdg'] at RD
            have hno : Hid (∀ x : Int, -9223372036854775808 ≤ x → x ≤ 9223372036854775807 → s.data.toList = Lib.itoa x → (0 : Int) = x) := Lib.hid (fun x h0 h1 h => by
              obtain ⟨u, hu, hu2, _⟩ := hNU.out x h0 h1 h
              have h3 := dd_dig u (d[k]'hlt) (by rw [← hu]; exact List.getElem_mem (h := by rw [list_len]; exact hlt))
              exfalso
              apply hdg
              unfold digC
              apply decide_eq_true
              omega)
            replace RD := Lib.hid RD
            clear hV hdb hdg hNU
            go_wp2_with (go_at_call 46; refine (RD.out _).mono ?_; rintro e w1 ⟨rfl, rfl⟩)
            exact bodyPost_ret (v := .tuple #[.int .i64 0, .bool false]) (by simp [results, Tryz.results29, go_sem]) rfl ⟨⟨0, false, rfl, by decide, by decide, hno.out⟩, Below.refl _ _⟩
        · obtain rfl : k = d.size := by omega
          have k11 : ¬ (d.size : Int) < (d.size : Int) := by omega
          have hd0 : d.data.toList.drop d.size = [] := List.drop_eq_nil_of_le (by rw [list_len]; omega)
          have hV2 : n = valU 0 d.data.toList := by have := hV.out; rw [hd0] at this; exact this
          have hM : ∀ x : Int, -9223372036854775808 ≤ x → x ≤ 9223372036854775807 → s.data.toList = Lib.itoa x → (IntKind.i64.wrap (-(wrap64 (n : Int)))) = x := fun x h0 h1 h => by
            obtain ⟨u, hu, hu2, hx⟩ := hNU.out x h0 h1 h
            rw [hu, valU_dd] at hV2
            subst hV2
            have hl1 := list_len s
            have hl2 := list_len d
            rcases hx with ⟨rfl, hlen, h9⟩ | ⟨rfl, hlen⟩
            · first | (exfalso; omega) | (unfold wrap64; omega)
            · first | (exfalso; omega) | (rw [IntKind.wrap_i64]; unfold wrap64; omega)
          have hMr : -9223372036854775808 ≤ (IntKind.i64.wrap (-(wrap64 (n : Int)))) ∧ (IntKind.i64.wrap (-(wrap64 (n : Int)))) ≤ 9223372036854775807 := by first | exact wrap64_range _ | (rw [IntKind.wrap_i64]; omega)
          have DX := fun w => rdecimal_any ((IntKind.i64.wrap (-(wrap64 (n : Int))))) w hMr.1 hMr.2
          change ∀ w, Calls Tryz.prog 21 #[.int .i64 ((IntKind.i64.wrap (-(wrap64 (n : Int)))))] w fun e w' => e = .returned (.string (bl (Lib.itoa ((IntKind.i64.wrap (-(wrap64 (n : Int)))))))) ∧ Below w.heap.size w w' at DX
          generalize bl (Lib.itoa ((IntKind.i64.wrap (-(wrap64 (n : Int)))))) = X at *
          generalize hMM : (IntKind.i64.wrap (-(wrap64 (n : Int)))) = M at *
          replace DX := Lib.hid DX
          replace hM := Lib.hid hM
          clear hV hV2 hd0 hNU hn hn10
          by_cases hdp : 0 < d.size
          · have kp : (0 : Int) < (d.size : Int) := by omega
            go_wp2_with fail
            (first | rw [hMM] | (try simp only [hMM]))
            refine (DX.out _).mono ?_; rintro e w1 ⟨rfl, hb1⟩
            go_wp2
            exact bodyPost_ret (v := .tuple #[.int .i64 M, .bool (X.toList == s.toList)]) (by simp [results, Tryz.results29, go_sem]) rfl ⟨⟨M, _, rfl, hMr.1, hMr.2, hM.out⟩, hb1⟩
          · have kp : ¬ (0 : Int) < (d.size : Int) := by omega
            go_wp2
            all_goals (first | rw [hMM] | (try simp only [hMM]))
            all_goals exact bodyPost_ret (v := .tuple #[.int .i64 M, .bool false]) (by simp [results, Tryz.results29, go_sem]) rfl ⟨⟨M, _, rfl, hMr.1, hMr.2, hM.out⟩, Below.refl _ _⟩
    · have hd : s.data.toList = numD s.data.toList := by
        have hb : (s[0] == 45) = false := by simpa using h45
        rw [hdb0]
        simp [numD, hb]
      rw [← hd] at hNU
      have c0 : (0 : Int) < (s.size : Int) := by omega
      have c1 : (((s[0]'hpos).toNat : Int) == 45) = false := by
        apply beq_eq_false_iff_ne.2
        intro e
        exact h45 (UInt8.toNat_inj.1 (by show (s[0]'hpos).toNat = 45; omega))
      have hdn : ¬ (s.size : Int) < (s.size : Int) := by omega
      replace hNU := Lib.hid hNU
      clear hd hdb0 h45 hz
      go_enter Tryz.func29, Tryz.ntmps29
      go_upto_region 4 with (fail)
      go_wp2_with fail
      go_loopw [5, 6] (fun x i wr => ∃ k n : Nat, k ≤ s.size ∧ k ≤ 19 ∧ n < 10 ^ k ∧ i = .int .i64 (k : Int) ∧ x = .int .u64 (n : Int) ∧ Hid (valU n (s.data.toList.drop k) = valU 0 s.data.toList) ∧ w = wr) (fun _ i _ => s.size - (intOf i).toNat)
      case atStart => exact ⟨0, 0, Nat.zero_le _, by decide, by decide, rfl, rfl, Lib.hid (by simp), rfl⟩
      case round =>
        obtain ⟨k, n, hk, hk19, hn, rfl, rfl, hV, rfl⟩ := hrel
        have k00 : (0 : Int) ≤ (k : Int) := by omega
        have hn10 : n < 10 ^ 19 := Nat.lt_of_lt_of_le hn (Nat.pow_le_pow_right (by decide) hk19)
        by_cases hlt : k < s.size
        · have k11 : (k : Int) < (s.size : Int) := by omega
          have hdb := drop_byte s k hlt
          have RD := fun w => rdigit_any ((s[k]'hlt).toNat : Int) w
          have hc256 : (s[k]'hlt).toNat < 256 := UInt8.toNat_lt _
          by_cases hdg : digC ((s[k]'hlt).toNat : Int) = true
          · rw [hdg] at RD
            by_cases h18 : k ≤ 18
            · have k18 : ¬ (18 : Int) < (k : Int) := by omega
              have hr : 48 ≤ (s[k]'hlt).toNat ∧ (s[k]'hlt).toNat ≤ 57 := by unfold digC at hdg; have := of_decide_eq_true hdg; omega
              have hV2 : Hid (valU (n * 10 + ((s[k]'hlt).toNat - 48)) (s.data.toList.drop (k + 1)) = valU 0 s.data.toList) := Lib.hid (by rw [← hV.out, hdb]; rfl)
              have hn2 : n * 10 + ((s[k]'hlt).toNat - 48) < 10 ^ (k + 1) := by rw [Nat.pow_succ]; omega
              have hn18 : n < 10 ^ 18 := Nat.lt_of_lt_of_le hn (Nat.pow_le_pow_right (by decide) h18)
              have e1 : IntKind.u64.wrap (10 * (n : Int)) = 10 * (n : Int) := by rw [IntKind.wrap_u64]; omega
              have e2 : IntKind.u8.wrap (((s[k]'hlt).toNat : Int) - 48) = (((s[k]'hlt).toNat - 48 : Nat) : Int) := by rw [IntKind.wrap_u8]; omega
              have e3 : IntKind.u64.wrap (((s[k]'hlt).toNat - 48 : Nat) : Int) = (((s[k]'hlt).toNat - 48 : Nat) : Int) := by rw [IntKind.wrap_u64]; omega
              have e4 : IntKind.u64.wrap (10 * (n : Int) + (((s[k]'hlt).toNat - 48 : Nat) : Int)) = ((n * 10 + ((s[k]'hlt).toNat - 48) : Nat) : Int) := by rw [IntKind.wrap_u64]; omega
              have hmk : Hid (∀ z : Int, z = ((n * 10 + ((s[k]'hlt).toNat - 48) : Nat) : Int) → ∃ k' n' : Nat, k' ≤ s.size ∧ k' ≤ 19 ∧ n' < 10 ^ k' ∧ Value.int .i64 ((k : Int) + 1) = .int .i64 (k' : Int) ∧ Value.int .u64 z = .int .u64 (n' : Int) ∧ Hid (valU n' (s.data.toList.drop k') = valU 0 s.data.toList)) := Lib.hid (fun z hz => ⟨k + 1, _, by omega, by omega, hn2, by go_num, by rw [hz], hV2⟩)
              replace RD := Lib.hid RD
              clear hV hdb hdg hn2 hV2 hNU
              go_wp2_with (go_at_call 46; refine (RD.out _).mono ?_; rintro e w1 ⟨rfl, rfl⟩)
              exact ⟨by obtain ⟨k', n', a1, a2, a3, a4, a5, a6⟩ := hmk.out ((n : Int) * 10 + (((s[k]'hlt).toNat - 48 : Nat) : Int)) (by omega); exact ⟨k', n', a1, a2, a3, a4, a5, a6, trivial⟩, by simp [intOf]; omega⟩
            · have k18 : (18 : Int) < (k : Int) := by omega
              have hno : Hid (∀ x : Int, -9223372036854775808 ≤ x → x ≤ 9223372036854775807 → s.data.toList = Lib.itoa x → (0 : Int) = x) := Lib.hid (fun x h0 h1 h => by
                obtain ⟨u, hu, hu2, _⟩ := hNU.out x h0 h1 h
                have := dd_len19 u (by omega)
                rw [← hu, list_len] at this
                omega)
              replace RD := Lib.hid RD
              clear hV hdb hdg hNU
              go_wp2_with (go_at_call 46; refine (RD.out _).mono ?_; rintro e w1 ⟨rfl, rfl⟩)
              exact bodyPost_ret (v := .tuple #[.int .i64 0, .bool false]) (by simp [results, Tryz.results29, go_sem]) rfl ⟨⟨0, false, rfl, by decide, by decide, hno.out⟩, Below.refl _ _⟩
          · have hdg' : digC ((s[k]'hlt).toNat : Int) = false := by simpa using hdg
            rw [hdg'] at RD
            have hno : Hid (∀ x : Int, -9223372036854775808 ≤ x → x ≤ 9223372036854775807 → s.data.toList = Lib.itoa x → (0 : Int) = x) := Lib.hid (fun x h0 h1 h => by
              obtain ⟨u, hu, hu2, _⟩ := hNU.out x h0 h1 h
              have h3 := dd_dig u (s[k]'hlt) (by rw [← hu]; exact List.getElem_mem (h := by rw [list_len]; exact hlt))
              exfalso
              apply hdg
              unfold digC
              apply decide_eq_true
              omega)
            replace RD := Lib.hid RD
            clear hV hdb hdg hNU
            go_wp2_with (go_at_call 46; refine (RD.out _).mono ?_; rintro e w1 ⟨rfl, rfl⟩)
            exact bodyPost_ret (v := .tuple #[.int .i64 0, .bool false]) (by simp [results, Tryz.results29, go_sem]) rfl ⟨⟨0, false, rfl, by decide, by decide, hno.out⟩, Below.refl _ _⟩
        · obtain rfl : k = s.size := by omega
          have k11 : ¬ (s.size : Int) < (s.size : Int) := by omega
          have hd0 : s.data.toList.drop s.size = [] := List.drop_eq_nil_of_le (by rw [list_len]; omega)
          have hV2 : n = valU 0 s.data.toList := by have := hV.out; rw [hd0] at this; exact this
          have hM : ∀ x : Int, -9223372036854775808 ≤ x → x ≤ 9223372036854775807 → s.data.toList = Lib.itoa x → (wrap64 (n : Int)) = x := fun x h0 h1 h => by
            obtain ⟨u, hu, hu2, hx⟩ := hNU.out x h0 h1 h
            rw [hu, valU_dd] at hV2
            subst hV2
            have hl1 := list_len s
            have hl2 := list_len s
            rcases hx with ⟨rfl, hlen, h9⟩ | ⟨rfl, hlen⟩
            · first | (exfalso; omega) | (unfold wrap64; omega)
            · first | (exfalso; omega) | (rw [IntKind.wrap_i64]; unfold wrap64; omega)
          have hMr : -9223372036854775808 ≤ (wrap64 (n : Int)) ∧ (wrap64 (n : Int)) ≤ 9223372036854775807 := by first | exact wrap64_range _ | (rw [IntKind.wrap_i64]; omega)
          have DX := fun w => rdecimal_any ((wrap64 (n : Int))) w hMr.1 hMr.2
          change ∀ w, Calls Tryz.prog 21 #[.int .i64 ((wrap64 (n : Int)))] w fun e w' => e = .returned (.string (bl (Lib.itoa ((wrap64 (n : Int)))))) ∧ Below w.heap.size w w' at DX
          generalize bl (Lib.itoa ((wrap64 (n : Int)))) = X at *
          generalize hMM : (wrap64 (n : Int)) = M at *
          replace DX := Lib.hid DX
          replace hM := Lib.hid hM
          clear hV hV2 hd0 hNU hn hn10
          by_cases hdp : 0 < s.size
          · have kp : (0 : Int) < (s.size : Int) := by omega
            go_wp2_with fail
            (first | rw [hMM] | (try simp only [hMM]))
            refine (DX.out _).mono ?_; rintro e w1 ⟨rfl, hb1⟩
            go_wp2
            exact bodyPost_ret (v := .tuple #[.int .i64 M, .bool (X.toList == s.toList)]) (by simp [results, Tryz.results29, go_sem]) rfl ⟨⟨M, _, rfl, hMr.1, hMr.2, hM.out⟩, hb1⟩
          · have kp : ¬ (0 : Int) < (s.size : Int) := by omega
            go_wp2
            all_goals (first | rw [hMM] | (try simp only [hMM]))
            all_goals exact bodyPost_ret (v := .tuple #[.int .i64 M, .bool false]) (by simp [results, Tryz.results29, go_sem]) rfl ⟨⟨M, _, rfl, hMr.1, hMr.2, hM.out⟩, Below.refl _ _⟩
end Go.Proofs.YtkmlbifhpkfinaaGreatDoor
namespace Go.Proofs.YtkmlbifhpkfinaaGreatDoor
open Go.ChangeShapes Go.WideShapes Go.ChangeAt Go.RowKit Go.Fl
set_option linter.unusedVariables false
set_option linter.unusedSimpArgs false

theorem hexK_at : ∀ (k n j : Nat), j < k → (hexK k n)[j]? = some (hexC (n / 16 ^ (k - 1 - j) % 16))
  | 0, n, j, h => by omega
  | k + 1, n, j, h => by
    simp only [hexK]
    by_cases hj : j < k
    · rw [List.getElem?_append_left (by rw [hexK_len]; exact hj), hexK_at k (n / 16) j hj, Nat.div_div_eq_div_mul]
      congr 4
      rw [show k + 1 - 1 - j = (k - 1 - j) + 1 by omega, Nat.pow_succ, Nat.mul_comm]
    · obtain rfl : j = k := by omega
      rw [List.getElem?_append_right (by rw [hexK_len]; exact Nat.le_refl _), hexK_len]
      simp
theorem hexC_inj : ∀ a, a < 16 → ∀ b, b < 16 → hexC a = hexC b → a = b := by decide +kernel
theorem dig16 : ∀ d : Nat, (h : d < 16) → (⟨#[48, 49, 50, 51, 52, 53, 54, 55, 56, 57, 97, 98, 99, 100, 101, 102]⟩ : ByteArray)[d]'h = hexC d := by decide
theorem textB_at (n j : Nat) (h1 : 1 ≤ j) (h : j < 17) : (textB n)[j]? = some (hexC (n / 16 ^ (16 - j) % 16)) := by
  obtain ⟨i, rfl⟩ : ∃ i, j = i + 1 := ⟨j - 1, by omega⟩
  rw [textB, List.getElem?_cons_succ, hexK_at 16 n i (by omega), show 16 - (i + 1) = 16 - 1 - i by omega]
theorem shift_hex (c i : Nat) (h1 : 1 ≤ i) (h : i < 17) : 16 * (c / 16 ^ (17 - i)) + c / 16 ^ (16 - i) % 16 = c / 16 ^ (16 - i) := by
  have e : c / 16 ^ (17 - i) = c / 16 ^ (16 - i) / 16 := by
    rw [Nat.div_div_eq_div_mul, show 17 - i = (16 - i) + 1 by omega, Nat.pow_succ]
  rw [e]
  omega
def BitsR (s : ByteArray) (w : World) (e : Ending) (w' : World) : Prop :=
  (∃ n : Nat, e = .returned (.int .u64 (n : Int)) ∧ n < 18446744073709551616 ∧ (∀ m, m < 18446744073709551616 → s.data.toList = textB (cn m) → n = cn m)) ∧ Below w.heap.size w w'

set_option maxHeartbeats 8000000 in
set_option maxRecDepth 100000 in
theorem rbits_any (s : ByteArray) (w : World) (hs : s.size ≤ 281474976710656) :
    Calls Tryz.prog 30 #[.string s] w (BitsR s w) := by
  go_enter Tryz.func30, Tryz.ntmps30
  go_wp2_with fail
  go_loopw [3, 4] (fun a j wr => ∃ (x i : Nat), 1 ≤ i ∧ i ≤ s.size + 1 ∧ x < 18446744073709551616 ∧ a = .int .u64 (x : Int) ∧ j = .int .i64 (i : Int) ∧ Hid (∀ m, m < 18446744073709551616 → s.data.toList = textB (cn m) → x = cn m / 16 ^ (17 - i)) ∧ Below w.heap.size w wr) (fun _ j _ => s.size + 1 - (intOf j).toNat)
  case atStart => exact ⟨0, 1, Nat.le_refl _, by omega, by decide, rfl, rfl, Lib.hid (fun m hm h => by have := cn_lt hm; rw [Nat.div_eq_of_lt (by show cn m < 16 ^ 16; omega)]), Below.refl _ _⟩
  case round =>
    obtain ⟨x, i, hi1, hi2, hx, rfl, rfl, hX, hB⟩ := hrel
    have i00 : (0 : Int) ≤ (i : Int) := by omega
    by_cases hlt : i < s.size
    · have i11 : (i : Int) < (s.size : Int) := by omega
      go_wp2_with fail
      go_loopw [5, 6] (fun d j wr' => ∃ (dd k : Nat), k ≤ 16 ∧ dd < 16 ∧ d = .int .u64 (dd : Int) ∧ j = .int .i64 (k : Int) ∧ Hid (∀ v, v < 16 → s[i]'hlt = hexC v → v < k → dd = v) ∧ Below w.heap.size w wr') (fun _ j _ => 16 - (intOf j).toNat)
      case atStart => exact ⟨0, 0, by decide, by decide, rfl, rfl, Lib.hid (fun v _ _ h => absurd h (Nat.not_lt_zero _)), hB⟩
      case round =>
        obtain ⟨dd, k, hk, hdd, rfl, rfl, hD, hB2⟩ := hrel
        have k00 : (0 : Int) ≤ (k : Int) := by omega
        by_cases hk16 : k < 16
        · have k11 : (k : Int) < 16 := by omega
          have dg := dig16 k hk16
          by_cases hE : s[i] = hexC k
          · have hEI : (((hexC k).toNat : Int) == ((s[i]'hlt).toNat : Int)) = true := by rw [hE]; simp
            have hD2 : Hid (∀ v, v < 16 → s[i]'hlt = hexC v → v < k + 1 → k = v) := Lib.hid (fun v hv h _ => hexC_inj k hk16 v hv (by rw [← hE, h]))
            have kw : IntKind.u64.wrap (k : Int) = (k : Int) := by rw [IntKind.wrap_u64]; omega
            clear hD hE
            go_wp2_with fail
            go_quiet (fail)
            go_wp2
            go_roundw
            case rel => exact ⟨k, k + 1, by omega, by omega, rfl, by go_num, hD2, Below.drewN' hB2 _⟩
            case measure => simp [intOf]; omega
          · have hEI : (((hexC k).toNat : Int) == ((s[i]'hlt).toNat : Int)) = false := by
              apply beq_eq_false_iff_ne.2
              intro e
              exact hE (UInt8.toNat_inj.1 (by omega))
            have hD2 : Hid (∀ v, v < 16 → s[i]'hlt = hexC v → v < k + 1 → dd = v) := Lib.hid (fun v hv h hvk => by
              by_cases hvk2 : v < k
              · exact hD.out v hv h hvk2
              · obtain rfl : v = k := by omega
                exact absurd h hE)
            clear hD hE
            go_wp2_with fail
            go_quiet (fail)
            go_wp2
            go_roundw
            case rel => exact ⟨dd, k + 1, by omega, hdd, rfl, by go_num, hD2, Below.drewN' hB2 _⟩
            case measure => simp [intOf]; omega
        · obtain rfl : k = 16 := by omega
          have k11 : ¬ (16 : Int) < 16 := by omega
          have hx2 : ∀ m, m < 18446744073709551616 → s.data.toList = textB (cn m) → dd = cn m / 16 ^ (16 - i) % 16 ∧ i < 17 := fun m hm h => by
            have hl : s.size = 17 := by rw [← list_len, h, textB_len]
            have h2 := textB_at (cn m) i hi1 (by omega)
            rw [← h, List.getElem?_eq_getElem (by rw [list_len]; exact hlt)] at h2
            injection h2 with h2
            exact ⟨hD.out _ (Nat.mod_lt _ (by decide)) h2 (Nat.mod_lt _ (by decide)), by omega⟩
          have hX2 : Hid (∀ m, m < 18446744073709551616 → s.data.toList = textB (cn m) → (16 * x + dd) % 18446744073709551616 = cn m / 16 ^ (17 - (i + 1))) := Lib.hid (fun m hm h => by
            obtain ⟨e1, e2⟩ := hx2 m hm h
            rw [hX.out m hm h, e1, shift_hex (cn m) i hi1 e2, show 17 - (i + 1) = 16 - i by omega]
            exact Nat.mod_eq_of_lt (Nat.lt_of_le_of_lt (Nat.div_le_self _ _) (cn_lt hm)))
          have e1 : IntKind.u64.wrap (IntKind.u64.wrap ((x : Int) * 16) + (dd : Int)) = (((16 * x + dd) % 18446744073709551616 : Nat) : Int) := by rw [IntKind.wrap_u64, IntKind.wrap_u64]; omega
          have hlt2 : (16 * x + dd) % 18446744073709551616 < 18446744073709551616 := Nat.mod_lt _ (by decide)
          generalize (16 * x + dd) % 18446744073709551616 = x' at *
          have hmk : Hid (∀ z : Int, z = (x' : Int) → ∃ (x i' : Nat), 1 ≤ i' ∧ i' ≤ s.size + 1 ∧ x < 18446744073709551616 ∧ Value.int .u64 z = .int .u64 (x : Int) ∧ Value.int .i64 ((i : Int) + 1) = .int .i64 (i' : Int) ∧ Hid (∀ m, m < 18446744073709551616 → s.data.toList = textB (cn m) → x = cn m / 16 ^ (17 - i'))) := Lib.hid (fun z hz => ⟨x', i + 1, by omega, by omega, hlt2, by rw [hz], by go_num, hX2⟩)
          replace e1 := Lib.hid e1
          clear hX hD hx2 hX2
          go_wp2
          exact ⟨by obtain ⟨x1, i1, a1, a2, a3, a4, a5, a6⟩ := hmk.out _ e1.out; exact ⟨x1, i1, a1, a2, a3, a4, a5, a6, hB2⟩, by simp [intOf]; omega⟩
    · have i11 : ¬ (i : Int) < (s.size : Int) := by omega
      have RC := fun w => rcanon_any x w hx
      have hfin : Hid (∀ m, m < 18446744073709551616 → s.data.toList = textB (cn m) → cn x = cn m) := Lib.hid (fun m hm h => by
        have hl : s.size = 17 := by rw [← list_len, h, textB_len]
        have e := hX.out m hm h
        have hi : i = 17 ∨ i = 18 := by omega
        rcases hi with rfl | rfl
        · rw [e]; simp [cn_cn]
        · rw [e]; simp [cn_cn])
      have hcl := cn_lt hx
      replace RC := Lib.hid RC
      clear hX
      go_wp2_with fail
      refine (RC.out _).mono ?_; rintro e w1 ⟨rfl, rfl⟩
      go_wp2
      go_ret
      exact ⟨⟨cn x, rfl, hcl, hfin.out⟩, hB⟩
end Go.Proofs.YtkmlbifhpkfinaaGreatDoor
namespace Go.Proofs.YtkmlbifhpkfinaaGreatDoor
open Go.ChangeShapes Go.WideShapes Go.ChangeAt Go.RowKit Go.Fl
set_option linter.unusedVariables false
set_option linter.unusedSimpArgs false

def GrH (ts : List ST) (ss : List ByteArray) (l : List UInt8) (t n : Int) (k : Nat) (vs : List (Int × Nat)) : Prop :=
  ∀ ty' tm' vs', EvOk ts ss ty' tm' vs' → (∀ v ∈ vs', v.2 < 18446744073709551616) → l = lineB ts ss ty' tm' vs' → t = ty' ∧ n = tm' ∧ vs = vs'.take k
def GrI (u : World) (g : Nat) (t n : Int) (vs : List (Int × Nat)) (v : Value) (W : World) : Prop :=
  Blk W g 28 #[.int .i64 t, .int .i64 n, v] ∧ W.ownsRow u.heap.size 64 2 v vs.length (cellsV vs) ∧ Below u.heap.size u W
theorem splitW_each : ∀ (l acc : List UInt8) (a : List UInt8), a ∈ splitW acc l → a.length ≤ acc.length + l.length
  | [], acc, a, h => by simp [splitW] at h; subst h; simp
  | c :: r, acc, a, h => by
    simp only [splitW] at h
    split at h
    · rcases List.mem_cons.1 h with rfl | h
      · simp
      · have := splitW_each r [] a h; simp at this ⊢; omega
    · have := splitW_each r (acc ++ [c]) a h; simp at this ⊢; omega
section
variable {ts : List ST} {ss : List ByteArray} {l : List UInt8} {t n : Int} {k : Nat} {vs : List (Int × Nat)}
theorem line_split {ty' tm' : Int} {vs' : List (Int × Nat)} (h : EvOk ts ss ty' tm' vs') (hl : l = lineB ts ss ty' tm' vs') : ∃ (i : Nat) (x : ST), ty' = (i : Int) ∧ ts[i]? = some x ∧ typeOf ts x.1 = ty' ∧ splitW [] l = x.1.data.toList :: Lib.itoa tm' :: vs'.map (wordW ss) ∧ vs'.length = x.2.length ∧ 0 ≤ tm' ∧ tm' ≤ 1152921504606846976 := by
  obtain ⟨i, x, rfl, hx, h0, h1, hlen, hnm, h8, hv⟩ := ok_parts h
  refine ⟨i, x, rfl, hx, ok_type h.1 hx, ?_, hlen, h0, h1⟩
  subst hl
  unfold lineB lineW
  simp only [Int.toNat_natCast, hx, Option.map_some, Option.getD_some]
  refine splitW_join _ _ fun a ha => ?_
  rcases List.mem_cons.1 ha with rfl | ha
  · exact name_nosp hnm
  · rcases List.mem_cons.1 ha with rfl | ha
    · exact itoa_nosp _
    · obtain ⟨v, hv', rfl⟩ := List.mem_map.1 ha
      obtain ⟨j, hj, rfl⟩ := List.getElem_of_mem hv'
      exact word_nosp h.1 (hv j _ _ (List.getElem?_eq_getElem hj) (List.getElem?_eq_getElem (by omega))).1
theorem GrH.start {nm w1 : List UInt8} (h0 : (splitW [] l)[0]? = some nm) (h1 : (splitW [] l)[1]? = some w1) (hn : ∀ x : Int, -9223372036854775808 ≤ x → x ≤ 9223372036854775807 → (bl w1).data.toList = Lib.itoa x → n = x) : GrH ts ss l (typeOf ts (bl nm)) n 0 [] := by
  intro ty' tm' vs' h hb hl
  obtain ⟨i, x, e, hx, ht, hs, hlen, t0, t1⟩ := line_split h hl
  rw [hs] at h0 h1
  simp at h0 h1
  refine ⟨by rw [← h0, bl_of, ht], hn _ (by omega) (by omega) (by rw [bl_list, ← h1]), by simp⟩
theorem GrH.no {nm : List UInt8} (h0 : (splitW [] l)[0]? = some nm) (hno : ¬ CheckIs ts ss 0 ∨ typeOf ts (bl nm) < 0 ∨ (splitW [] l).length < 2) (s : ByteArray) (hs : l = s.data.toList) : ∀ ty tm vs, ¬ IsLine ts ss s ty tm vs := by
  intro ty' tm' vs' h
  obtain ⟨i, x, e, hx, ht, hsp, hlen, t0, t1⟩ := line_split h.1 (hs.trans h.2.2)
  rw [hsp] at h0
  simp at h0
  rcases hno with h1 | h1 | h1
  · exact h1 h.1.1
  · rw [← h0, bl_of, ht] at h1; omega
  · rw [hsp] at h1; simp only [List.length_cons] at h1; omega
theorem GrH.step (H : GrH ts ss l t n k vs) {i : Nat} {x : ST} (ht : t = (i : Int)) (hx : ts[i]? = some x) {f : SF} (hf : x.2[k]? = some f) {wd : List UInt8} (hw : (splitW [] l)[k + 2]? = some wd) {b : Nat}
    (hb : ∀ ts, CheckIs ts ss 0 → ∀ v : Int × Nat, ValP (ss.length : Int) f.2 v → v.2 < 18446744073709551616 → (bl wd).data.toList = wordW ss v → b = v.2) :
    GrH ts ss l t n (k + 1) (vs ++ [(f.2, b)]) := by
  intro ty' tm' vs' h hb' hl
  obtain ⟨e1, e2, e3⟩ := H ty' tm' vs' h hb' hl
  obtain ⟨i', x', e4, hx', ht', hsp, hlen, t0, t1⟩ := line_split h hl
  obtain rfl : i = i' := by omega
  rw [hx] at hx'
  injection hx' with hx'
  subst hx'
  have hk : k < x.2.length := (List.getElem?_eq_some_iff.1 hf).1
  have hk' : k < vs'.length := by omega
  have hvk : vs'[k]? = some vs'[k] := List.getElem?_eq_getElem hk'
  obtain ⟨i2, x2, e5, hx2, _, _, _, _, _, hv⟩ := ok_parts h
  obtain rfl : i = i2 := by omega
  rw [hx] at hx2
  injection hx2 with hx2
  subst hx2
  have hV := (hv k _ _ hvk hf).1
  rw [hsp, show k + 2 = (k + 1) + 1 from rfl, List.getElem?_cons_succ, List.getElem?_cons_succ, List.getElem?_map, hvk] at hw
  injection hw with hw
  have hbb := hb ts h.1 vs'[k] hV (hb' _ (List.getElem_mem hk')) (by rw [bl_list, ← hw])
  refine ⟨e1, e2, ?_⟩
  rw [List.take_add_one, hvk, e3, ← hV.1, hbb]
  rfl
theorem GrH.done (H : GrH ts ss l t n k vs) {i : Nat} {x : ST} (ht : t = (i : Int)) (hx : ts[i]? = some x) (hk : x.2.length ≤ k ∨ (splitW [] l).length ≤ k + 2) {ty' tm' : Int} {vs' : List (Int × Nat)} (h : EvOk ts ss ty' tm' vs') (hb : ∀ v ∈ vs', v.2 < 18446744073709551616) (hl : l = lineB ts ss ty' tm' vs') :
    t = ty' ∧ n = tm' ∧ vs = vs' := by
  obtain ⟨e1, e2, e3⟩ := H ty' tm' vs' h hb hl
  obtain ⟨i', x', e4, hx', ht', hsp, hlen, t0, t1⟩ := line_split h hl
  obtain rfl : i = i' := by omega
  rw [hx] at hx'
  injection hx' with hx'
  subst hx'
  have : vs'.length ≤ k := by
    rcases hk with hk | hk
    · omega
    · rw [hsp] at hk; simp at hk; exact hk
  exact ⟨e1, e2, by rw [e3, List.take_of_length_le this]⟩
theorem sym_last (hc : CheckIs ts ss 0) {wd : ByteArray} {b : Nat} (h : ∀ (m : Nat) (x : ByteArray), m < ss.length → ss[m]? = some x → wd.data.toList = 39 :: x.data.toList → b = m) :
    ∀ ts, CheckIs ts ss 0 → ∀ v : Int × Nat, ValP (ss.length : Int) 3 v → v.2 < 18446744073709551616 → wd.data.toList = wordW ss v → b = v.2 := by
  rintro ts2 hc2 ⟨v1, v2⟩ hv hb hw
  obtain rfl : v1 = 3 := hv.1
  have hl2 : v2 < ss.length := by have := hv.2.2.2 rfl; simp at this; omega
  have hsv : ss[v2]? = some ss[v2] := List.getElem?_eq_getElem hl2
  exact h v2 _ hl2 hsv (by rw [hw, word_3 hsv])
theorem sym_one (hc : CheckIs ts ss 0) {m j : Nat} {x y : ByteArray} (hm : ss[m]? = some x) (hj : ss[j]? = some y) (h : x.data.toList = y.data.toList) : m = j := by
  have e : x = y := by rw [← bl_of x, h, bl_of]
  subst e
  have h1 := ok_symOf hc hm
  have h2 := ok_symOf hc hj
  omega
end

set_option maxHeartbeats 16000000 in
set_option maxRecDepth 100000 in
theorem rparse_any (A C : Option Addr) (cap capC : Nat) (ts : List ST) (ss : List ByteArray) (s : ByteArray) (w : World) (hA : TypesAt w A ts) (hS : SymsAt w C ss) (b1 : ts.length * 40 ≤ 140737488351232) (b2 : ∀ t ∈ ts, t.2.length * 24 ≤ 140737488351232) (hn : ss.length ≤ 140737488355328) (hc1 : ss.length ≤ capC) (hc2 : capC ≤ maxLen) (hs : s.size ≤ 1048576) :
    Calls Tryz.prog 15 #[.agg #[.slice A ts.length cap, .slice C ss.length capC], .string s] w (ParseR ts ss s w) := by
  obtain ⟨i0, hi, hz0, hz1, hz2⟩ := info_parts infoRV
  have hu := m2 w (.cells #[.slice A ts.length cap, .slice C ss.length capC] 25) (.cells #[.int .i64 0, .int .i64 0, .slice none 0 0] 28)
  have k0 : Blk ((w.alloc (.cells #[.slice A ts.length cap, .slice C ss.length capC] 25)).alloc (.cells #[.int .i64 0, .int .i64 0, .slice none 0 0] 28)) w.heap.size 25 #[.slice A ts.length cap, .slice C ss.length capC] := (Blk.made _ _ _).kept (m1 _ _)
  have k1 : Blk ((w.alloc (.cells #[.slice A ts.length cap, .slice C ss.length capC] 25)).alloc (.cells #[.int .i64 0, .int .i64 0, .slice none 0 0] 28)) (w.heap.size + 1) 28 #[.int .i64 0, .int .i64 0, .slice none 0 0] := by
    have := Blk.made (w.alloc (.cells #[.slice A ts.length cap, .slice C ss.length capC] 25)) 28 #[.int .i64 0, .int .i64 0, .slice none 0 0]
    simpa using this
  have hAu := hA.later hu
  have hSu := hS.later hu
  replace b2 := Lib.hid b2
  have hlenL := splitW_len s.data.toList []
  rw [list_len] at hlenL
  have hne := splitW_ne s.data.toList []
  have h00 : (splitW [] s.data.toList)[0]? = some ((splitW [] s.data.toList)[0]'(List.length_pos_iff.2 hne)) := List.getElem?_eq_getElem _
  have hpos : 0 < (splitW [] s.data.toList).length := List.length_pos_iff.2 hne
  generalize hnm0 : (splitW [] s.data.toList)[0]'(List.length_pos_iff.2 hne) = nm0 at *
  have NO := Lib.hid (fun h => GrH.no (ts := ts) (ss := ss) h00 h s rfl)
  have START := Lib.hid (fun (w1 : List UInt8) (n : Int) h1 hn => GrH.start (ts := ts) (ss := ss) h00 (w1 := w1) (n := n) h1 hn)
  have STEP := Lib.hid (fun (i : Nat) (x : ST) (n : Int) (k : Nat) (vs : List (Int × Nat)) (H : GrH ts ss s.data.toList (i : Int) n k vs) (hx : ts[i]? = some x) (f : SF) (hf : x.2[k]? = some f) (wd : List UInt8) (hw : (splitW [] s.data.toList)[k + 2]? = some wd) (b : Nat) hb => GrH.step H rfl hx hf hw (b := b) hb)
  have DONE := Lib.hid (fun (i : Nat) (x : ST) (n : Int) (k : Nat) (vs : List (Int × Nat)) (H : GrH ts ss s.data.toList (i : Int) n k vs) (hx : ts[i]? = some x) hk (ty' tm' : Int) (vs' : List (Int × Nat)) h1 h2 h3 => GrH.done H rfl hx hk (ty' := ty') (tm' := tm') (vs' := vs') h1 h2 h3)
  have WL := Lib.hid (fun (a : List UInt8) (h : a ∈ splitW [] s.data.toList) => (show a.length ≤ 1048576 from by have := splitW_each s.data.toList [] a h; rw [list_len] at this; simp at this; omega))
  have WD := fun w => rwords_any s w hs
  generalize splitW [] s.data.toList = L at *
  replace WD := Lib.hid WD
  clear hA hS hne hnm0
  go_enter Tryz.func15, Tryz.ntmps15
  go_wp2_with fail
  generalize (w.alloc (.cells #[.slice A ts.length cap, .slice C ss.length capC] 25)).alloc (.cells #[.int .i64 0, .int .i64 0, .slice none 0 0] 28) = u at *
  refine (WD.out _).mono ?_; rintro e u1 ⟨v6, rfl, hW6, hb1⟩
  have hLm : (L.map bl).length = L.length := by simp
  rw [← hLm] at hW6
  obtain ⟨A6, cap6, rfl, _, _, hWA⟩ := syms_slice (own_scells hW6)
  have K0 := k0.kept hb1
  have K1 := k1.kept hb1
  have hAu1 := Lib.hid (hAu.later hb1)
  have hSu1 := Lib.hid (hSu.later hb1)
  have hBu1 := mmore hu hb1
  have hur := K1.lt
  rw [hLm]
  obtain ⟨b6, o6, rfl, hWc⟩ := hWA (by rw [hLm]; exact hpos)
  have hwc : ∀ (i : Nat) (x : List UInt8), L[i]? = some x → u1.cell? ⟨b6, o6 + i, none⟩ = some (.string (bl x)) := fun i x h => hWc i _ (by rw [List.getElem?_map, h]; rfl)
  have d0 : u1.cell? ⟨w.heap.size, 0, none⟩ = some (.slice A ts.length cap) := K0.cell 0
  have d1 : u1.cell? ⟨w.heap.size, 1, none⟩ = some (.slice C ss.length capC) := K0.cell 1
  have w0 : u1.cell? ⟨b6, o6, none⟩ = some (.string (bl nm0)) := by have := hwc 0 nm0 h00; simpa using this
  have kp : (0 : Int) < (L.length : Int) := by omega
  have TA : ∀ w, TypesAt w A ts → Calls Tryz.prog 28 #[.agg #[.slice A ts.length cap, .slice C ss.length capC], .string (bl nm0)] w fun e w' => e = .returned (.int .i64 (typeOf ts (bl nm0))) ∧ Below w.heap.size w w' := fun w h => rtypeat_any A cap (.slice C ss.length capC) ts (bl nm0) w h (by omega)
  have CK := fun w h1 h2 => rcheck_any A C cap capC ts ss w h1 h2 b1 b2.out hc1 hc2
  have TL := typeOf_lt ts (bl nm0)
  generalize typeOf ts (bl nm0) = t at *
  replace TA := Lib.hid TA
  replace CK := Lib.hid CK
  replace TL := Lib.hid TL
  replace hwc := Lib.hid hwc
  have K0u := Lib.hid K0
  have K1u := Lib.hid K1
  clear hW6 hWA hWc k0 k1 K0 K1 hAu hSu WD hu hb1 hLm
  go_upto_region 2 with (fail)
  go_cut [7] from 17 to 22 (fun v w' => ∃ g, v = .pointer (some ⟨g, 0, none⟩) ∧ u1.heap.size ≤ g ∧ Blk w' g 28 #[.int .i64 t, .int .i64 0, .slice none 0 0] ∧ Below u1.heap.size u1 w')
  case first =>
    have w0a : ∀ o : Obj, (u1.alloc o).cell? ⟨b6, o6, none⟩ = some (.string (bl nm0)) := fun o => cell_later (m1 u1 o) w0
    have d0a : ∀ o : Obj, (u1.alloc o).cell? ⟨w.heap.size, 0, none⟩ = some (.slice A ts.length cap) := fun o => cell_later (m1 u1 o) d0
    have d1a : ∀ o : Obj, (u1.alloc o).cell? ⟨w.heap.size, 1, none⟩ = some (.slice C ss.length capC) := fun o => cell_later (m1 u1 o) d1
    have drx := Lib.hid ((Below.refl u1.heap.size u1).drew)
    have hAa := Lib.hid (hAu1.out.later ((Below.refl u1.heap.size u1).drew))
    have mx := (m1 u1 (.cells #[.int .i64 0, .int .i64 0, .slice none 0 0] 28)).drew
    have hAb := Lib.hid (hAu1.out.later mx)
    have EX : Blk (u1.alloc (.cells #[.int .i64 0, .int .i64 0, .slice none 0 0] 28)).drew u1.heap.size 28 #[.int .i64 0, .int .i64 0, .slice none 0 0] := Blk.made u1 28 #[.int .i64 0, .int .i64 0, .slice none 0 0]
    replace mx := Lib.hid mx
    replace EX := Lib.hid EX
    go_region_law ((try go_simp); go_at_call 28; first
      | (refine (TA.out u1.drew hAa.out).mono ?_; rintro e w2 ⟨rfl, hb2⟩; have hbx := mmore drx.out hb2; have FI : Blk (w2.alloc (.cells #[.int .i64 t, .int .i64 0, .slice none 0 0] 28)) w2.heap.size 28 #[.int .i64 t, .int .i64 0, .slice none 0 0] := Blk.made _ _ _; have FB := mmore hbx (m1 w2 (.cells #[.int .i64 t, .int .i64 0, .slice none 0 0] 28)); have FG := hbx.size)
      | (refine (TA.out (u1.alloc (.cells #[.int .i64 0, .int .i64 0, .slice none 0 0] 28)).drew hAb.out).mono ?_; rintro e w2 ⟨rfl, hb2⟩; have EB := EX.out.kept hb2; have FB := ((((mmore mx.out hb2).setCell (p := ⟨u1.heap.size, 0, none⟩) (Nat.le_refl _) (.int .i64 t)).setCell (p := ⟨u1.heap.size, 1, none⟩) (Nat.le_refl _) (.int .i64 0)).setCell (p := ⟨u1.heap.size, 2, none⟩) (Nat.le_refl _) (.slice none 0 0)); have FI := ((EB.put_ 0 (.int .i64 t)).put_ 1 (.int .i64 0)).put_ 2 (.slice none 0 0); have FG := Nat.le_refl u1.heap.size; have c0 : w2.cell? ⟨u1.heap.size, 0, none⟩ = some (.int .i64 0) := EB.cell 0; have c1 : w2.cell? ⟨u1.heap.size, 1, none⟩ = some (.int .i64 0) := EB.cell 1; have c2 : w2.cell? ⟨u1.heap.size, 2, none⟩ = some (.slice none 0 0) := EB.cell 2; have f0 : w2.frozen? ⟨u1.heap.size, 0, none⟩ = false := EB.free 0; have f1 : w2.frozen? ⟨u1.heap.size, 1, none⟩ = false := EB.free 1; have f2 : w2.frozen? ⟨u1.heap.size, 2, none⟩ = false := EB.free 2))
    all_goals (replace FI := Lib.hid FI; replace FB := Lib.hid FB; replace FG := Lib.hid FG)
    all_goals (go_wp2_with fail; go_meet; exact ⟨_, rfl, FG.out, by simpa using FI.out, FB.out⟩)
  case rest =>
    obtain ⟨g7, rfl, hg7, hE, hB2⟩ := hcut
    rename_i wc
    clear d0 d1 w0 TA
    have S2 := K0u.out.kept hB2
    have d0 : wc.cell? ⟨w.heap.size, 0, none⟩ = some (.slice A ts.length cap) := S2.cell 0
    have d1 : wc.cell? ⟨w.heap.size, 1, none⟩ = some (.slice C ss.length capC) := S2.cell 1
    have put : ∀ (W : World) (p q r : Value), Below w.heap.size w W → Below w.heap.size w (((W.setCell ⟨w.heap.size + 1, 0, none⟩ p).setCell ⟨w.heap.size + 1, 1, none⟩ q).setCell ⟨w.heap.size + 1, 2, none⟩ r) := fun W p q r hB =>
      ((hB.setCell (p := ⟨w.heap.size + 1, 0, none⟩) (by show w.heap.size ≤ w.heap.size + 1; omega) p).setCell (p := ⟨w.heap.size + 1, 1, none⟩) (by show w.heap.size ≤ w.heap.size + 1; omega) q).setCell (p := ⟨w.heap.size + 1, 2, none⟩) (by show w.heap.size ≤ w.heap.size + 1; omega) r
    replace put := Lib.hid put
    go_wp2_with fail
    refine (CK.out _ (hAu1.out.later hB2) (hSu1.out.later hB2)).mono ?_; rintro e w3 ⟨c, rfl, hC, hb3⟩
    have hB3 := mmore hB2 hb3
    have E3 := hE.kept hb3
    have R3 := K1u.out.kept hB3
    have hBw3 := mmore hBu1 hB3
    have z0 : w3.cell? ⟨w.heap.size + 1, 0, none⟩ = some (.int .i64 0) := R3.cell 0
    have z1 : w3.cell? ⟨w.heap.size + 1, 1, none⟩ = some (.int .i64 0) := R3.cell 1
    have z2 : w3.cell? ⟨w.heap.size + 1, 2, none⟩ = some (.slice none 0 0) := R3.cell 2
    have f0 : w3.frozen? ⟨w.heap.size + 1, 0, none⟩ = false := R3.free 0
    have f1 : w3.frozen? ⟨w.heap.size + 1, 1, none⟩ = false := R3.free 1
    have f2 : w3.frozen? ⟨w.heap.size + 1, 2, none⟩ = false := R3.free 2
    have e0 : w3.cell? ⟨g7, 0, none⟩ = some (.int .i64 t) := E3.cell 0
    clear S2 d0 d1 hE hB2 hb3 CK
    by_cases hc0 : c = 0
    · subst hc0
      by_cases ht0 : t < 0
      · have hno := Lib.hid (NO.out (.inr (.inl ht0)))
        go_wp2
        exact bodyPost_ret (v := .tuple #[.agg #[.int .i64 0, .int .i64 0, .slice none 0 0], .bool false]) (by simp [results, Tryz.results15, go_sem, *]) rfl (.inr ⟨rfl, hno.out, put.out _ _ _ _ hBw3⟩)
      · by_cases hl2 : L.length < 2
        · have hno := Lib.hid (NO.out (.inr (.inr hl2)))
          have hl2' : (L.length : Int) < 2 := by omega
          go_wp2
          exact bodyPost_ret (v := .tuple #[.agg #[.int .i64 0, .int .i64 0, .slice none 0 0], .bool false]) (by simp [results, Tryz.results15, go_sem, *]) rfl (.inr ⟨rfl, hno.out, put.out _ _ _ _ hBw3⟩)
        · have hl2' : ¬ (L.length : Int) < 2 := by omega
          have hl2n : ¬ L.length < 2 := hl2
          have hL1 : L[1]? = some (L[1]'(by omega)) := List.getElem?_eq_getElem _
          generalize L[1]'(by omega) = wd1 at *
          have hz1w := WL.out wd1 (List.mem_of_getElem? hL1)
          have q1 := cell_later hB3 (hwc.out 1 wd1 hL1)
          have START1 := Lib.hid (fun n h => START.out wd1 n hL1 h)
          obtain ⟨i, hil, rfl⟩ : ∃ i : Nat, i < ts.length ∧ t = (i : Int) := by
            rcases TL.out with h | ⟨k, hk, h⟩
            · omega
            · exact ⟨k, hk, h⟩
          have NUM := fun w => rnumber_any (bl wd1) w (by rw [bl_size]; omega)
          replace NUM := Lib.hid NUM
          have kL1 : (1 : Int) < (L.length : Int) := by omega
          clear NO START TL hL1 z0 z1 z2 f0 f1 f2 R3
          go_wp2_with fail
          refine (NUM.out _).mono ?_; rintro e w4 ⟨⟨n, nb, rfl, n0, n1, hx⟩, hb4⟩
          have H0 := Lib.hid (START1.out n hx)
          have hB4 := mmore hB3 hb4
          have E4 := E3.kept hb4
          have e1 : w4.cell? ⟨g7, 1, none⟩ = some (.int .i64 0) := E4.cell 1
          have e3 : w4.frozen? ⟨g7, 1, none⟩ = false := E4.free 1
          have E5 : Blk (w4.setCell ⟨g7, 1, none⟩ (.int .i64 n)) g7 28 #[.int .i64 (i : Int), .int .i64 n, .slice none 0 0] := by simpa using E4.put_ 1 (.int .i64 n)
          have hB5 := hB4.setCell (p := ⟨g7, 1, none⟩) hg7 (.int .i64 n)
          go_upto_region 6 with (fail)
          clear E3 E4 hB3 hB4 hb4 e0 e1 e3 hx NUM START1 q1 hBw3
          generalize w4.setCell ⟨g7, 1, none⟩ (.int .i64 n) = w5 at *
          have hxi : ts[i]? = some ts[i] := List.getElem?_eq_getElem hil
          have hb2 := b2.out _ (List.getElem_mem hil)
          obtain ⟨bT, oT, rfl, hTc⟩ := hAu1.out (by omega)
          obtain ⟨uf, r0, r1, FA, fcap, rfl, hF⟩ := hTc i _ hxi
          have i0' : (0 : Int) ≤ (i : Int) := by omega
          have i1' : (i : Int) < (ts.length : Int) := by omega
          generalize ts[i] = x at *
          have q1 := cell_later hB5 r1
          have S5 := K0u.out.kept hB5
          have d0 : w5.cell? ⟨w.heap.size, 0, none⟩ = some (.slice (some ⟨bT, oT, none⟩) ts.length cap) := S5.cell 0
          have e0 : w5.cell? ⟨g7, 0, none⟩ = some (.int .i64 (i : Int)) := E5.cell 0
          replace hF := Lib.hid hF
          replace hxi := Lib.hid hxi
          clear hTc r0 r1 S5
          go_wp2_with fail
          go_loopw [9] (fun j wr => ∃ (k : Nat) (vs : List (Int × Nat)) (v : Value), k ≤ x.2.length ∧ k + 2 ≤ L.length ∧ vs.length = k ∧ j = .int .i64 ((k : Int) + 2) ∧ Hid (∀ v ∈ vs, v.2 < 18446744073709551616) ∧ Hid (GrH ts ss s.data.toList (i : Int) n k vs) ∧ GrI u1 g7 (i : Int) n vs v wr) (fun j _ => x.2.length + 2 - (intOf j).toNat)
          case atStart => exact ⟨0, [], .slice none 0 0, Nat.zero_le _, by omega, rfl, rfl, Lib.hid (by simp), H0, E5, World.ownsRow_nil _ _ _ _, hB5⟩
          case round =>
            obtain ⟨k, vs, v, hk, hk2, hvl, rfl, hbits, hH, G0, O0, B0⟩ := hrel
            clear q1 d0 e0 E5 hB5 H0
            have k00 : (0 : Int) ≤ (k : Int) := by omega
            have hB0s := B0.size
            by_cases hcond : k + 2 < L.length ∧ k < x.2.length
            · obtain ⟨hc1', hlt⟩ := hcond
              have kc1 : (k : Int) + 2 < (L.length : Int) := by omega
              have kc2 : (k : Int) < (x.2.length : Int) := by omega
              have kc3 : (0 : Int) ≤ (k : Int) + 2 := by omega
              obtain ⟨bF, oF, rfl, hFc⟩ := hF.out (by omega)
              have hfk : x.2[k]? = some x.2[k] := List.getElem?_eq_getElem hlt
              obtain ⟨p0, p1⟩ := hFc k _ hfk
              have p1 := cell_later B0 p1
              have hLk : L[k + 2]? = some (L[k + 2]'hc1') := List.getElem?_eq_getElem hc1'
              have STP := Lib.hid (fun (b : Nat) hb => STEP.out i x n k vs hH.out hxi.out _ hfk _ hLk b hb)
              have qw := hwc.out (k + 2) _ hLk
              have hwl := WL.out _ (List.mem_of_getElem? hLk)
              have hLk2 := Lib.hid hLk
              have hf4 := (ok_well hC).2.1 i x hxi.out k _ hfk
              generalize x.2[k] = f at *
              generalize L[k + 2]'hc1' = wd at *
              clear hFc hfk hLk p0 hH
              replace hvl := Lib.hid hvl
              go_upto_region 11 with (fail)
              have hwz := m1 wr (.cells #[.int .i64 f.2, .int .u64 0] 64)
              have V1 := Blk.made wr 64 #[.int .i64 f.2, .int .u64 0]
              have G1 := G0.kept hwz
              have O1 := mown_below O0 hwz
              have B1' := mmore B0 hwz
              have hg10 : u1.heap.size ≤ wr.heap.size := hB0s
              have hne7 : g7 ≠ wr.heap.size := by have := G0.lt; omega
              have hneO : v.ownBlock ≠ some wr.heap.size := fun e => by have := (O0.lt _ e).2; omega
              have qw1 := cell_later B1' qw
              clear G0 O0 B0 hwz p1 qw hB0s
              generalize wr.heap.size = g10 at *
              generalize wr.alloc (.cells #[.int .i64 f.2, .int .u64 0] 64) = wz at *
              have B1 : Below u1.heap.size u1 wz := B1'
              have hne7 : g10 ≠ g7 := fun e => hne7 e.symm
              have v0 : wz.cell? ⟨g10, 0, none⟩ = some (.int .i64 f.2) := V1.cell 0
              have v1 : wz.cell? ⟨g10, 1, none⟩ = some (.int .u64 0) := V1.cell 1
              have vf : wz.frozen? ⟨g10, 1, none⟩ = false := V1.free 1
              clear B1'
              by_cases c1 : f.2 = 1
              · have ce : (f.2 == 1) = true := by simpa using c1
                have NUM := fun w => rnumber_any (bl wd) w (by rw [bl_size]; omega)
                replace NUM := Lib.hid NUM
                go_wp2_with fail
                refine (NUM.out _).mono ?_; rintro e wy ⟨⟨n', nb', rfl, n0', n1', hx'⟩, hby⟩
                have GA := G1.kept hby
                have OA := mown_below O1 hby
                have BA := mmore B1 hby
                have VA := V1.kept hby
                have v1' : wy.cell? ⟨g10, 1, none⟩ = some (.int .u64 0) := VA.cell 1
                have vf' : wy.frozen? ⟨g10, 1, none⟩ = false := VA.free 1
                have hread := read_int (ss := ss) (s := bl wd) n0' n1' hx'
                have hw0 : 0 ≤ IntKind.u64.wrap n' ∧ IntKind.u64.wrap n' < 18446744073709551616 := by rw [IntKind.wrap_u64]; omega
                have hwb : IntKind.u64.wrap n' = ((IntKind.u64.wrap n').toNat : Int) := by omega
                have hb0 : (IntKind.u64.wrap n').toNat < 18446744073709551616 := by omega
                rw [← c1] at hread
                replace hread := Lib.hid hread
                replace c1 := Lib.hid c1
                replace hwb := Lib.hid hwb
                have GT : Blk (wy.setCell ⟨g10, 1, none⟩ (.int .u64 (IntKind.u64.wrap n'))) g7 28 #[.int .i64 (i : Int), .int .i64 n, v] := GA.else_ (p := ⟨g10, 1, none⟩) hne7 _
                have OT := mown_set OA (p := ⟨g10, 1, none⟩) hneO (.int .u64 (IntKind.u64.wrap n'))
                have BT := BA.setCell (p := ⟨g10, 1, none⟩) hg10 (.int .u64 (IntKind.u64.wrap n'))
                have VT : Blk (wy.setCell ⟨g10, 1, none⟩ (.int .u64 (IntKind.u64.wrap n'))) g10 64 #[.int .i64 f.2, .int .u64 (IntKind.u64.wrap n')] := by simpa using VA.put_ 1 (.int .u64 (IntKind.u64.wrap n'))
                go_upto_region 26 with (fail)
                clear GA OA BA VA v1' vf' hby hx' G1 O1 B1 V1 v0 v1 vf NUM qw1 hw0
                generalize wy.setCell ⟨g10, 1, none⟩ (.int .u64 (IntKind.u64.wrap n')) = wt at *
                rw [hwb.out] at VT
                clear hwb
                generalize (IntKind.u64.wrap n').toNat = b at *
                have tl0 : wt.cell? ⟨g7, 2, none⟩ = some v := GT.cell 2
                have tl1 : wt.cell? ⟨g10, 0, none⟩ = some (.int .i64 f.2) := VT.cell 0
                have tl2 : wt.cell? ⟨g10, 1, none⟩ = some (.int .u64 (b : Int)) := VT.cell 1
                have hbt := BT.size
                have hST := Lib.hid (STP.out b hread.out)
                have hBT := Lib.hid (snoc_bits (k := f.2) hbits.out hb0)
                have SNV := Lib.hid (cellsV_more vs f.2 b)
                have n3 : vs.length + 1 ≤ maxLen := by have := hvl.out; unfold maxLen; omega
                have n4 : (vs.length + 1) * 16 ≤ 140737488355328 := by have := hvl.out; omega
                replace n4 := Lib.hid n4
                clear hread hb0 VT
                go_wp2_with (at_builtin; refine wpList_append_own _ rfl (.tmp 123) (.tmp 125) 26 rfl u1.heap.size 64 i0 (.agg #[.int .i64 0, .int .u64 0]) 2 16 Tryz.underlying26 hi hz0 hz1 hz2 rfl (by decide) v vs.length (cellsV vs) rfl (OT.alloc _) ⟨wt.heap.size, 0, none⟩ 1 1 [.int .i64 f.2, .int .u64 (b : Int)] rfl rfl (news_two _ _ _ _) (one_two _ _) n3 n4.out (Nat.le_trans hbt (by simp)) ?_)
                intro v' w9 hO3 hgrow _
                obtain ⟨gx, capx, rfl, _, _⟩ := hO3.form (by omega)
                have hG3 := (GT.kept (m1 _ _)).grown hgrow (GT.own_ne OT (by decide))
                have hB3' := (BT.alloc hbt _).grown hgrow (Nat.le_trans hbt (by simp)) (fun g hg => (OT.lt g hg).1)
                have y2 := hG3.cell 2
                have y3 := hG3.free 2
                have hG4 : Blk (w9.setCell ⟨g7, 2, none⟩ (.slice (some ⟨gx, 0, none⟩) (vs.length + 1) capx)) g7 28 #[.int .i64 (i : Int), .int .i64 n, .slice (some ⟨gx, 0, none⟩) (vs.length + 1) capx] := by simpa using hG3.put_ 2 (.slice (some ⟨gx, 0, none⟩) (vs.length + 1) capx)
                have hO4 := mown_set hO3 (p := ⟨g7, 2, none⟩) (fun e => hG3.own_ne hO3 (by decide) e.symm) (.slice (some ⟨gx, 0, none⟩) (vs.length + 1) capx)
                have hB4' := hB3'.setCell (p := ⟨g7, 2, none⟩) hg7 (.slice (some ⟨gx, 0, none⟩) (vs.length + 1) capx)
                go_upto_region 9 with (fail)
                clear hO3 hG3 hB3' hgrow OT GT BT tl0 tl1 tl2 y2 y3
                generalize w9.setCell ⟨g7, 2, none⟩ (.slice (some ⟨gx, 0, none⟩) (vs.length + 1) capx) = w10 at *
                have hLN : (vs ++ [(f.2, b)]).length = vs.length + 1 := by simp
                rw [← SNV.out, ← hLN] at hO4
                rw [← hLN] at hG4
                replace hG4 := Lib.hid hG4
                replace hLN := Lib.hid hLN
                go_wp2
                go_roundw
                case rel => exact ⟨k + 1, vs ++ [(f.2, b)], _, by omega, by omega, by rw [hLN.out, hvl.out], by go_num, hBT, hST, hG4.out, hO4, hB4'⟩
                case measure => simp [intOf]; omega
              · have ce1 : (f.2 == 1) = false := by simpa using c1
                by_cases c2 : f.2 = 2
                · have ce : (f.2 == 2) = true := by simpa using c2
                  replace c2 := Lib.hid c2
                  clear c1
                  by_cases hs2 : ((bl wd).toList == [116, 114, 117, 101]) = true
                  · have hst : (bl wd).data.toList = trueB := by have := eq_of_beq hs2; rw [ByteArray.toList_eq] at this; exact this
                    obtain ⟨b, hbe⟩ : ∃ b : Nat, b = 1 := ⟨_, rfl⟩
                    have hread := read_bool (ss := ss) (s := bl wd) (b := b) (fun _ => hbe) (fun h => absurd hst h)
                    rw [← c2.out] at hread
                    have hb0 : b < 18446744073709551616 := by omega
                    replace hread := Lib.hid hread
                    have GT : Blk (wz.setCell ⟨g10, 1, none⟩ (.int .u64 1)) g7 28 #[.int .i64 (i : Int), .int .i64 n, v] := G1.else_ (p := ⟨g10, 1, none⟩) hne7 _
                    have OT := mown_set O1 (p := ⟨g10, 1, none⟩) hneO (.int .u64 1)
                    have BT := B1.setCell (p := ⟨g10, 1, none⟩) hg10 (.int .u64 1)
                    have VT : Blk (wz.setCell ⟨g10, 1, none⟩ (.int .u64 1)) g10 64 #[.int .i64 f.2, .int .u64 1] := by simpa using V1.put_ 1 (.int .u64 1)
                    have VT' : Blk (wz.setCell ⟨g10, 1, none⟩ (.int .u64 1)) g10 64 #[.int .i64 f.2, .int .u64 (b : Int)] := by rw [hbe]; exact VT
                    clear VT hst hbe
                    have VT := VT'
                    clear VT'
                    go_upto_region 26 with (fail)
                    clear G1 O1 B1 V1 v0 v1 vf qw1
                    generalize wz.setCell ⟨g10, 1, none⟩ (.int .u64 1) = wt at *
                    have tl0 : wt.cell? ⟨g7, 2, none⟩ = some v := GT.cell 2
                    have tl1 : wt.cell? ⟨g10, 0, none⟩ = some (.int .i64 f.2) := VT.cell 0
                    have tl2 : wt.cell? ⟨g10, 1, none⟩ = some (.int .u64 (b : Int)) := VT.cell 1
                    have hbt := BT.size
                    have hST := Lib.hid (STP.out b hread.out)
                    have hBT := Lib.hid (snoc_bits (k := f.2) hbits.out hb0)
                    have SNV := Lib.hid (cellsV_more vs f.2 b)
                    have n3 : vs.length + 1 ≤ maxLen := by have := hvl.out; unfold maxLen; omega
                    have n4 : (vs.length + 1) * 16 ≤ 140737488355328 := by have := hvl.out; omega
                    replace n4 := Lib.hid n4
                    clear hread hb0 VT
                    go_wp2_with (at_builtin; refine wpList_append_own _ rfl (.tmp 123) (.tmp 125) 26 rfl u1.heap.size 64 i0 (.agg #[.int .i64 0, .int .u64 0]) 2 16 Tryz.underlying26 hi hz0 hz1 hz2 rfl (by decide) v vs.length (cellsV vs) rfl (OT.alloc _) ⟨wt.heap.size, 0, none⟩ 1 1 [.int .i64 f.2, .int .u64 (b : Int)] rfl rfl (news_two _ _ _ _) (one_two _ _) n3 n4.out (Nat.le_trans hbt (by simp)) ?_)
                    intro v' w9 hO3 hgrow _
                    obtain ⟨gx, capx, rfl, _, _⟩ := hO3.form (by omega)
                    have hG3 := (GT.kept (m1 _ _)).grown hgrow (GT.own_ne OT (by decide))
                    have hB3' := (BT.alloc hbt _).grown hgrow (Nat.le_trans hbt (by simp)) (fun g hg => (OT.lt g hg).1)
                    have y2 := hG3.cell 2
                    have y3 := hG3.free 2
                    have hG4 : Blk (w9.setCell ⟨g7, 2, none⟩ (.slice (some ⟨gx, 0, none⟩) (vs.length + 1) capx)) g7 28 #[.int .i64 (i : Int), .int .i64 n, .slice (some ⟨gx, 0, none⟩) (vs.length + 1) capx] := by simpa using hG3.put_ 2 (.slice (some ⟨gx, 0, none⟩) (vs.length + 1) capx)
                    have hO4 := mown_set hO3 (p := ⟨g7, 2, none⟩) (fun e => hG3.own_ne hO3 (by decide) e.symm) (.slice (some ⟨gx, 0, none⟩) (vs.length + 1) capx)
                    have hB4' := hB3'.setCell (p := ⟨g7, 2, none⟩) hg7 (.slice (some ⟨gx, 0, none⟩) (vs.length + 1) capx)
                    go_upto_region 9 with (fail)
                    clear hO3 hG3 hB3' hgrow OT GT BT tl0 tl1 tl2 y2 y3
                    generalize w9.setCell ⟨g7, 2, none⟩ (.slice (some ⟨gx, 0, none⟩) (vs.length + 1) capx) = w10 at *
                    have hLN : (vs ++ [(f.2, b)]).length = vs.length + 1 := by simp
                    rw [← SNV.out, ← hLN] at hO4
                    rw [← hLN] at hG4
                    replace hG4 := Lib.hid hG4
                    replace hLN := Lib.hid hLN
                    go_wp2
                    go_roundw
                    case rel => exact ⟨k + 1, vs ++ [(f.2, b)], _, by omega, by omega, by rw [hLN.out, hvl.out], by go_num, hBT, hST, hG4.out, hO4, hB4'⟩
                    case measure => simp [intOf]; omega
                  · have hst : (bl wd).data.toList ≠ trueB := fun h => hs2 (by rw [ByteArray.toList_eq, h]; rfl)
                    have hs3 : ((bl wd).toList == [116, 114, 117, 101]) = false := by simpa using hs2
                    obtain ⟨b, hbe⟩ : ∃ b : Nat, b = 0 := ⟨_, rfl⟩
                    have hread := read_bool (ss := ss) (s := bl wd) (b := b) (fun h => absurd h hst) (fun _ => hbe)
                    rw [← c2.out] at hread
                    have hb0 : b < 18446744073709551616 := by omega
                    replace hread := Lib.hid hread
                    have VT : Blk wz g10 64 #[.int .i64 f.2, .int .u64 (b : Int)] := by rw [hbe]; exact V1
                    have GT := G1
                    have OT := O1
                    have BT := B1
                    clear hst hbe hs2
                    go_upto_region 26 with (fail)
                    clear G1 O1 B1 V1 v0 v1 vf qw1
                    generalize wz = wt at *
                    have tl0 : wt.cell? ⟨g7, 2, none⟩ = some v := GT.cell 2
                    have tl1 : wt.cell? ⟨g10, 0, none⟩ = some (.int .i64 f.2) := VT.cell 0
                    have tl2 : wt.cell? ⟨g10, 1, none⟩ = some (.int .u64 (b : Int)) := VT.cell 1
                    have hbt := BT.size
                    have hST := Lib.hid (STP.out b hread.out)
                    have hBT := Lib.hid (snoc_bits (k := f.2) hbits.out hb0)
                    have SNV := Lib.hid (cellsV_more vs f.2 b)
                    have n3 : vs.length + 1 ≤ maxLen := by have := hvl.out; unfold maxLen; omega
                    have n4 : (vs.length + 1) * 16 ≤ 140737488355328 := by have := hvl.out; omega
                    replace n4 := Lib.hid n4
                    clear hread hb0 VT
                    go_wp2_with (at_builtin; refine wpList_append_own _ rfl (.tmp 123) (.tmp 125) 26 rfl u1.heap.size 64 i0 (.agg #[.int .i64 0, .int .u64 0]) 2 16 Tryz.underlying26 hi hz0 hz1 hz2 rfl (by decide) v vs.length (cellsV vs) rfl (OT.alloc _) ⟨wt.heap.size, 0, none⟩ 1 1 [.int .i64 f.2, .int .u64 (b : Int)] rfl rfl (news_two _ _ _ _) (one_two _ _) n3 n4.out (Nat.le_trans hbt (by simp)) ?_)
                    intro v' w9 hO3 hgrow _
                    obtain ⟨gx, capx, rfl, _, _⟩ := hO3.form (by omega)
                    have hG3 := (GT.kept (m1 _ _)).grown hgrow (GT.own_ne OT (by decide))
                    have hB3' := (BT.alloc hbt _).grown hgrow (Nat.le_trans hbt (by simp)) (fun g hg => (OT.lt g hg).1)
                    have y2 := hG3.cell 2
                    have y3 := hG3.free 2
                    have hG4 : Blk (w9.setCell ⟨g7, 2, none⟩ (.slice (some ⟨gx, 0, none⟩) (vs.length + 1) capx)) g7 28 #[.int .i64 (i : Int), .int .i64 n, .slice (some ⟨gx, 0, none⟩) (vs.length + 1) capx] := by simpa using hG3.put_ 2 (.slice (some ⟨gx, 0, none⟩) (vs.length + 1) capx)
                    have hO4 := mown_set hO3 (p := ⟨g7, 2, none⟩) (fun e => hG3.own_ne hO3 (by decide) e.symm) (.slice (some ⟨gx, 0, none⟩) (vs.length + 1) capx)
                    have hB4' := hB3'.setCell (p := ⟨g7, 2, none⟩) hg7 (.slice (some ⟨gx, 0, none⟩) (vs.length + 1) capx)
                    go_upto_region 9 with (fail)
                    clear hO3 hG3 hB3' hgrow OT GT BT tl0 tl1 tl2 y2 y3
                    generalize w9.setCell ⟨g7, 2, none⟩ (.slice (some ⟨gx, 0, none⟩) (vs.length + 1) capx) = w10 at *
                    have hLN : (vs ++ [(f.2, b)]).length = vs.length + 1 := by simp
                    rw [← SNV.out, ← hLN] at hO4
                    rw [← hLN] at hG4
                    replace hG4 := Lib.hid hG4
                    replace hLN := Lib.hid hLN
                    go_wp2
                    go_roundw
                    case rel => exact ⟨k + 1, vs ++ [(f.2, b)], _, by omega, by omega, by rw [hLN.out, hvl.out], by go_num, hBT, hST, hG4.out, hO4, hB4'⟩
                    case measure => simp [intOf]; omega
                · have ce2 : (f.2 == 2) = false := by simpa using c2
                  by_cases c3 : f.2 = 3
                  · have ce : (f.2 == 3) = true := by simpa using c3
                    replace c3 := Lib.hid c3
                    have S1 := K0u.out.kept B1
                    have d1 : wz.cell? ⟨w.heap.size, 1, none⟩ = some (.slice C ss.length capC) := S1.cell 1
                    clear c1 c2 S1 qw1 vf
                    go_wp2_with fail
                    go_loopw [106] (fun j wr' => ∃ (m b : Nat), m ≤ ss.length ∧ j = .int .i64 (m : Int) ∧ b < 18446744073709551616 ∧ Hid (∀ (m' : Nat) (x' : ByteArray), m' < m → ss[m']? = some x' → (bl wd).data.toList = 39 :: x'.data.toList → b = m') ∧ Blk wr' g7 28 #[.int .i64 (i : Int), .int .i64 n, v] ∧ wr'.ownsRow u1.heap.size 64 2 v vs.length (cellsV vs) ∧ Below u1.heap.size u1 wr' ∧ Blk wr' g10 64 #[.int .i64 f.2, .int .u64 (b : Int)]) (fun j _ => ss.length - (intOf j).toNat)
                    case atStart => exact ⟨0, 0, Nat.zero_le _, rfl, by decide, Lib.hid (fun m' x' h => absurd h (Nat.not_lt_zero _)), G1, O1, B1, V1⟩
                    case round =>
                      clear d1 v0 v1 G1 O1 B1 V1
                      obtain ⟨m, b, hm, rfl, hb0, hMS, GA, OA, BA, VA⟩ := hrel
                      have m00 : (0 : Int) ≤ (m : Int) := by omega
                      by_cases hml : m < ss.length
                      · have m11 : (m : Int) < (ss.length : Int) := by omega
                        obtain ⟨bS, oS, rfl, hSc⟩ := hSu1.out (by omega)
                        have hsm : ss[m]? = some ss[m] := List.getElem?_eq_getElem hml
                        have qs := cell_later BA (hSc m _ hsm)
                        have qw := cell_later BA (hwc.out (k + 2) _ hLk2.out)
                        have hnz := (ok_sym hC hml).2.1
                        have hq39 := quote_name ss[m]
                        have mw : IntKind.u64.wrap (m : Int) = (m : Int) := by rw [IntKind.wrap_u64]; omega
                        by_cases hEq : (bl wd).data.toList = 39 :: ss[m].data.toList
                        · have hqq : ((bl wd).toList == ((⟨#[39]⟩ : ByteArray) ++ ss[m]).toList) = true := by
                            rw [hq39, ← hEq, bl_of]; simp
                          have hMS2 := Lib.hid (fun (m' : Nat) (x' : ByteArray) (_ : m' < m + 1) (hx : ss[m']? = some x') (he : (bl wd).data.toList = 39 :: x'.data.toList) => (show m = m' from sym_one hC hsm hx (by rw [hEq] at he; injection he with _ he)))
                          have hb1' : m < 18446744073709551616 := by omega
                          generalize ss[m] = nx at *
                          have lq : ¬ 9223372036854775807 < 1 + nx.size := by omega
                          have a1 : wr.cell? ⟨g10, 1, none⟩ = some (.int .u64 (b : Int)) := VA.cell 1
                          have a2 : wr.frozen? ⟨g10, 1, none⟩ = false := VA.free 1
                          have GT : Blk (wr.setCell ⟨g10, 1, none⟩ (.int .u64 (m : Int))) g7 28 #[.int .i64 (i : Int), .int .i64 n, v] := GA.else_ (p := ⟨g10, 1, none⟩) hne7 _
                          have OT := mown_set OA (p := ⟨g10, 1, none⟩) hneO (.int .u64 (m : Int))
                          have BT := BA.setCell (p := ⟨g10, 1, none⟩) hg10 (.int .u64 (m : Int))
                          have VT : Blk (wr.setCell ⟨g10, 1, none⟩ (.int .u64 (m : Int))) g10 64 #[.int .i64 f.2, .int .u64 (m : Int)] := by simpa using VA.put_ 1 (.int .u64 (m : Int))
                          clear hSc hsm hq39 hEq hMS
                          go_upto_region 25 with (fail)
                          clear GA OA BA VA a1 a2 qs qw hqq
                          generalize wr.setCell ⟨g10, 1, none⟩ (.int .u64 (m : Int)) = wt at *
                          go_wp2
                          go_roundw
                          case rel => exact ⟨m + 1, m, by omega, by go_num, hb1', hMS2, GT, OT, BT, VT⟩
                          case measure => simp [intOf]; omega
                        · have hqq : ((bl wd).toList == ((⟨#[39]⟩ : ByteArray) ++ ss[m]).toList) = false := by
                            apply beq_eq_false_iff_ne.2
                            intro e
                            rw [ByteArray.toList_eq, ByteArray.toList_eq, hq39, bl_list] at e
                            exact hEq e
                          have hMS2 : Hid (∀ (m' : Nat) (x' : ByteArray), m' < m + 1 → ss[m']? = some x' → (bl wd).data.toList = 39 :: x'.data.toList → b = m') := Lib.hid (fun m' x' hlt' hx he => by
                            by_cases h2 : m' < m
                            · exact hMS.out m' x' h2 hx he
                            · obtain rfl : m' = m := by omega
                              rw [hsm] at hx
                              injection hx with hx
                              subst hx
                              exact absurd he hEq)
                          generalize ss[m] = nx at *
                          have lq : ¬ 9223372036854775807 < 1 + nx.size := by omega
                          clear hSc hsm hq39 hEq hMS
                          go_wp2
                          go_roundw
                          case rel => exact ⟨m + 1, b, by omega, by go_num, hb0, hMS2, GA, OA, BA, VA⟩
                          case measure => simp [intOf]; omega
                      · obtain rfl : m = ss.length := by omega
                        have m11 : ¬ (ss.length : Int) < (ss.length : Int) := by omega
                        have hread := sym_last hC (wd := bl wd) (b := b) hMS.out
                        rw [← c3.out] at hread
                        replace hread := Lib.hid hread
                        have VT := VA
                        have GT := GA
                        have OT := OA
                        have BT := BA
                        clear hMS GA OA BA VA
                        go_upto_region 26 with (fail)
                        generalize wr = wt at *
                        have tl0 : wt.cell? ⟨g7, 2, none⟩ = some v := GT.cell 2
                        have tl1 : wt.cell? ⟨g10, 0, none⟩ = some (.int .i64 f.2) := VT.cell 0
                        have tl2 : wt.cell? ⟨g10, 1, none⟩ = some (.int .u64 (b : Int)) := VT.cell 1
                        have hbt := BT.size
                        have hST := Lib.hid (STP.out b hread.out)
                        have hBT := Lib.hid (snoc_bits (k := f.2) hbits.out hb0)
                        have SNV := Lib.hid (cellsV_more vs f.2 b)
                        have n3 : vs.length + 1 ≤ maxLen := by have := hvl.out; unfold maxLen; omega
                        have n4 : (vs.length + 1) * 16 ≤ 140737488355328 := by have := hvl.out; omega
                        replace n4 := Lib.hid n4
                        clear hread hb0 VT
                        go_wp2_with (at_builtin; refine wpList_append_own _ rfl (.tmp 123) (.tmp 125) 26 rfl u1.heap.size 64 i0 (.agg #[.int .i64 0, .int .u64 0]) 2 16 Tryz.underlying26 hi hz0 hz1 hz2 rfl (by decide) v vs.length (cellsV vs) rfl (OT.alloc _) ⟨wt.heap.size, 0, none⟩ 1 1 [.int .i64 f.2, .int .u64 (b : Int)] rfl rfl (news_two _ _ _ _) (one_two _ _) n3 n4.out (Nat.le_trans hbt (by simp)) ?_)
                        intro v' w9 hO3 hgrow _
                        obtain ⟨gx, capx, rfl, _, _⟩ := hO3.form (by omega)
                        have hG3 := (GT.kept (m1 _ _)).grown hgrow (GT.own_ne OT (by decide))
                        have hB3' := (BT.alloc hbt _).grown hgrow (Nat.le_trans hbt (by simp)) (fun g hg => (OT.lt g hg).1)
                        have y2 := hG3.cell 2
                        have y3 := hG3.free 2
                        have hG4 : Blk (w9.setCell ⟨g7, 2, none⟩ (.slice (some ⟨gx, 0, none⟩) (vs.length + 1) capx)) g7 28 #[.int .i64 (i : Int), .int .i64 n, .slice (some ⟨gx, 0, none⟩) (vs.length + 1) capx] := by simpa using hG3.put_ 2 (.slice (some ⟨gx, 0, none⟩) (vs.length + 1) capx)
                        have hO4 := mown_set hO3 (p := ⟨g7, 2, none⟩) (fun e => hG3.own_ne hO3 (by decide) e.symm) (.slice (some ⟨gx, 0, none⟩) (vs.length + 1) capx)
                        have hB4' := hB3'.setCell (p := ⟨g7, 2, none⟩) hg7 (.slice (some ⟨gx, 0, none⟩) (vs.length + 1) capx)
                        go_upto_region 9 with (fail)
                        clear hO3 hG3 hB3' hgrow OT GT BT tl0 tl1 tl2 y2 y3
                        generalize w9.setCell ⟨g7, 2, none⟩ (.slice (some ⟨gx, 0, none⟩) (vs.length + 1) capx) = w10 at *
                        have hLN : (vs ++ [(f.2, b)]).length = vs.length + 1 := by simp
                        rw [← SNV.out, ← hLN] at hO4
                        rw [← hLN] at hG4
                        replace hG4 := Lib.hid hG4
                        replace hLN := Lib.hid hLN
                        go_wp2
                        go_roundw
                        case rel => exact ⟨k + 1, vs ++ [(f.2, b)], _, by omega, by omega, by rw [hLN.out, hvl.out], by go_num, hBT, hST, hG4.out, hO4, hB4'⟩
                        case measure => simp [intOf]; omega
                  · have ce : (f.2 == 3) = false := by simpa using c3
                    have c4 : f.2 = 4 := by omega
                    replace c4 := Lib.hid c4
                    have BIT := fun w => rbits_any (bl wd) w (by rw [bl_size]; omega)
                    replace BIT := Lib.hid BIT
                    clear c1 c2 c3
                    go_wp2_with fail
                    refine (BIT.out _).mono ?_; rintro e wy ⟨⟨b, rfl, hb0, hx'⟩, hby⟩
                    have GA := G1.kept hby
                    have OA := mown_below O1 hby
                    have BA := mmore B1 hby
                    have VA := V1.kept hby
                    have v1' : wy.cell? ⟨g10, 1, none⟩ = some (.int .u64 0) := VA.cell 1
                    have vf' : wy.frozen? ⟨g10, 1, none⟩ = false := VA.free 1
                    have hread := read_real (ss := ss) (s := bl wd) hx'
                    rw [← c4.out] at hread
                    replace hread := Lib.hid hread
                    have GT : Blk (wy.setCell ⟨g10, 1, none⟩ (.int .u64 (b : Int))) g7 28 #[.int .i64 (i : Int), .int .i64 n, v] := GA.else_ (p := ⟨g10, 1, none⟩) hne7 _
                    have OT := mown_set OA (p := ⟨g10, 1, none⟩) hneO (.int .u64 (b : Int))
                    have BT := BA.setCell (p := ⟨g10, 1, none⟩) hg10 (.int .u64 (b : Int))
                    have VT : Blk (wy.setCell ⟨g10, 1, none⟩ (.int .u64 (b : Int))) g10 64 #[.int .i64 f.2, .int .u64 (b : Int)] := by simpa using VA.put_ 1 (.int .u64 (b : Int))
                    go_upto_region 26 with (fail)
                    clear GA OA BA VA v1' vf' hby hx' G1 O1 B1 V1 v0 v1 vf BIT qw1
                    generalize wy.setCell ⟨g10, 1, none⟩ (.int .u64 (b : Int)) = wt at *
                    have tl0 : wt.cell? ⟨g7, 2, none⟩ = some v := GT.cell 2
                    have tl1 : wt.cell? ⟨g10, 0, none⟩ = some (.int .i64 f.2) := VT.cell 0
                    have tl2 : wt.cell? ⟨g10, 1, none⟩ = some (.int .u64 (b : Int)) := VT.cell 1
                    have hbt := BT.size
                    have hST := Lib.hid (STP.out b hread.out)
                    have hBT := Lib.hid (snoc_bits (k := f.2) hbits.out hb0)
                    have SNV := Lib.hid (cellsV_more vs f.2 b)
                    have n3 : vs.length + 1 ≤ maxLen := by have := hvl.out; unfold maxLen; omega
                    have n4 : (vs.length + 1) * 16 ≤ 140737488355328 := by have := hvl.out; omega
                    replace n4 := Lib.hid n4
                    clear hread hb0 VT
                    go_wp2_with (at_builtin; refine wpList_append_own _ rfl (.tmp 123) (.tmp 125) 26 rfl u1.heap.size 64 i0 (.agg #[.int .i64 0, .int .u64 0]) 2 16 Tryz.underlying26 hi hz0 hz1 hz2 rfl (by decide) v vs.length (cellsV vs) rfl (OT.alloc _) ⟨wt.heap.size, 0, none⟩ 1 1 [.int .i64 f.2, .int .u64 (b : Int)] rfl rfl (news_two _ _ _ _) (one_two _ _) n3 n4.out (Nat.le_trans hbt (by simp)) ?_)
                    intro v' w9 hO3 hgrow _
                    obtain ⟨gx, capx, rfl, _, _⟩ := hO3.form (by omega)
                    have hG3 := (GT.kept (m1 _ _)).grown hgrow (GT.own_ne OT (by decide))
                    have hB3' := (BT.alloc hbt _).grown hgrow (Nat.le_trans hbt (by simp)) (fun g hg => (OT.lt g hg).1)
                    have y2 := hG3.cell 2
                    have y3 := hG3.free 2
                    have hG4 : Blk (w9.setCell ⟨g7, 2, none⟩ (.slice (some ⟨gx, 0, none⟩) (vs.length + 1) capx)) g7 28 #[.int .i64 (i : Int), .int .i64 n, .slice (some ⟨gx, 0, none⟩) (vs.length + 1) capx] := by simpa using hG3.put_ 2 (.slice (some ⟨gx, 0, none⟩) (vs.length + 1) capx)
                    have hO4 := mown_set hO3 (p := ⟨g7, 2, none⟩) (fun e => hG3.own_ne hO3 (by decide) e.symm) (.slice (some ⟨gx, 0, none⟩) (vs.length + 1) capx)
                    have hB4' := hB3'.setCell (p := ⟨g7, 2, none⟩) hg7 (.slice (some ⟨gx, 0, none⟩) (vs.length + 1) capx)
                    go_upto_region 9 with (fail)
                    clear hO3 hG3 hB3' hgrow OT GT BT tl0 tl1 tl2 y2 y3
                    generalize w9.setCell ⟨g7, 2, none⟩ (.slice (some ⟨gx, 0, none⟩) (vs.length + 1) capx) = w10 at *
                    have hLN : (vs ++ [(f.2, b)]).length = vs.length + 1 := by simp
                    rw [← SNV.out, ← hLN] at hO4
                    rw [← hLN] at hG4
                    replace hG4 := Lib.hid hG4
                    replace hLN := Lib.hid hLN
                    go_wp2
                    go_roundw
                    case rel => exact ⟨k + 1, vs ++ [(f.2, b)], _, by omega, by omega, by rw [hLN.out, hvl.out], by go_num, hBT, hST, hG4.out, hO4, hB4'⟩
                    case measure => simp [intOf]; omega
            · by_cases hA1 : k + 2 < L.length
              · have hk9 : x.2.length ≤ k := by omega
                have kc1 : (k : Int) + 2 < (L.length : Int) := by omega
                have kc2 : ¬ (k : Int) < (x.2.length : Int) := by omega
                clear hcond
                obtain ⟨B2, cap2, rfl, hR⟩ := own_row O0 hbits.out
                have S0 := K0u.out.kept B0
                have d0 : wr.cell? ⟨w.heap.size, 0, none⟩ = some (.slice (some ⟨bT, oT, none⟩) ts.length cap) := S0.cell 0
                have d1 : wr.cell? ⟨w.heap.size, 1, none⟩ = some (.slice C ss.length capC) := S0.cell 1
                have e0 : wr.cell? ⟨g7, 0, none⟩ = some (.int .i64 (i : Int)) := G0.cell 0
                have e1 : wr.cell? ⟨g7, 1, none⟩ = some (.int .i64 n) := G0.cell 1
                have e2 : wr.cell? ⟨g7, 2, none⟩ = some (.slice B2 vs.length cap2) := G0.cell 2
                have hv16 : vs.length * 16 ≤ 140737488351232 := by omega
                have RL := fun w h1 h2 h3 => rline_any (some ⟨bT, oT, none⟩) C B2 cap capC cap2 ts ss (i : Int) n vs w h1 h2 h3 b1 b2.out hc1 hc2 hv16
                have DN := Lib.hid (fun ty' tm' vs' h1 h2 h3 => DONE.out i x n k vs hH.out hxi.out (.inl hk9) ty' tm' vs' h1 h2 h3)
                replace RL := Lib.hid RL
                replace hvl := Lib.hid hvl
                clear S0 hH
                go_wp2_with fail
                refine (RL.out _ (hAu1.out.later B0) (hSu1.out.later B0) hR).mono ?_; rintro e w7 ⟨y, rfl, hy, hb7⟩
                have hB7 := mmore B0 hb7
                have G7 := G0.kept hb7
                have R7 := K1u.out.kept hB7
                have V7 := hR.later hb7
                have hBw7 := mmore hBu1 hB7
                have hurl := K1u.out.lt
                have z0 : w7.cell? ⟨w.heap.size + 1, 0, none⟩ = some (.int .i64 0) := R7.cell 0
                have z1 : w7.cell? ⟨w.heap.size + 1, 1, none⟩ = some (.int .i64 0) := R7.cell 1
                have z2 : w7.cell? ⟨w.heap.size + 1, 2, none⟩ = some (.slice none 0 0) := R7.cell 2
                have f0 : w7.frozen? ⟨w.heap.size + 1, 0, none⟩ = false := R7.free 0
                have f1 : w7.frozen? ⟨w.heap.size + 1, 1, none⟩ = false := R7.free 1
                have f2 : w7.frozen? ⟨w.heap.size + 1, 2, none⟩ = false := R7.free 2
                have e0 : w7.cell? ⟨g7, 0, none⟩ = some (.int .i64 (i : Int)) := G7.cell 0
                have e1 : w7.cell? ⟨g7, 1, none⟩ = some (.int .i64 n) := G7.cell 1
                have e2 : w7.cell? ⟨g7, 2, none⟩ = some (.slice B2 vs.length cap2) := G7.cell 2
                have nz1 : ¬ g7 = w.heap.size + 1 := by omega
                have nz2 : ¬ w.heap.size + 1 = g7 := by omega
                clear O0 B0 hb7 G7 hB7 RL hR
                by_cases hys : y = s
                · have hq : (y.toList == s.toList) = true := by rw [hys]; simp
                  by_cases hse : s = ⟨#[]⟩
                  · have hem : s.toList.isEmpty = true := by rw [hse, ByteArray.toList_eq]; rfl
                    have hno : Hid (∀ ty tm vs, ¬ IsLine ts ss s ty tm vs) := Lib.hid (fun ty tm vs h => line_ne h.1 (by rw [← h.2.2, hse]))
                    clear hse hys hy V7 DN
                    go_wp2
                    exact bodyPost_ret (v := .tuple #[.agg #[.int .i64 0, .int .i64 0, .slice none 0 0], .bool false]) (by simp [results, Tryz.results15, go_sem, z0, z1, z2, f0, f1, f2]) rfl (.inr ⟨rfl, hno.out, put.out _ _ _ _ hBw7⟩)
                  · have hem : s.toList.isEmpty = false := by
                      cases h : s.toList with
                      | nil => exact absurd (size_empty (by rw [← ByteArray.toList_eq]; exact h)) hse
                      | cons a r => rfl
                    have hok : EvOk ts ss (i : Int) n vs := Classical.byContradiction fun h => hse (by rw [← hys]; exact hy.2 h)
                    have hIs : OneLine ts ss s (i : Int) n vs := ⟨⟨hok, V7.2.1, by rw [← hys, hy.1 hok, bl_list]⟩, fun ty' tm' vs' h => DN.out ty' tm' vs' h.1 h.2.1 h.2.2⟩
                    have V8 : RowV (((w7.setCell ⟨w.heap.size + 1, 0, none⟩ (.int .i64 (i : Int))).setCell ⟨w.heap.size + 1, 1, none⟩ (.int .i64 n)).setCell ⟨w.heap.size + 1, 2, none⟩ (.slice B2 vs.length cap2)) B2 vs.length vs := by
                      have p1 := V7.put R7 0 (.int .i64 (i : Int))
                      have p2 := p1.put (R7.put_ 0 (.int .i64 (i : Int))) 1 (.int .i64 n)
                      exact p2.put ((R7.put_ 0 (.int .i64 (i : Int))).put_ 1 (.int .i64 n)) 2 (.slice B2 vs.length cap2)
                    replace hIs := Lib.hid hIs
                    replace V8 := Lib.hid V8
                    clear hse hys hy V7 DN hok
                    go_wp2
                    exact bodyPost_ret (v := .tuple #[.agg #[.int .i64 (i : Int), .int .i64 n, .slice B2 vs.length cap2], .bool true]) (by simp [results, Tryz.results15, go_sem, z0, z1, z2, f0, f1, f2, e0, e1, e2, nz1, nz2]) rfl (.inl ⟨_, _, _, _, vs, rfl, hIs.out, V8.out, hv16, put.out _ _ _ _ hBw7⟩)
                · have hq : (y.toList == s.toList) = false := toList_ne hys
                  have hno : Hid (∀ ty tm vs, ¬ IsLine ts ss s ty tm vs) := Lib.hid (fun ty' tm' vs' h => by
                    obtain ⟨e1, e2, e3⟩ := DN.out ty' tm' vs' h.1 h.2.1 h.2.2
                    subst e1 e2 e3
                    exact hys (by rw [hy.1 h.1]; exact (bl_ext h.2.2).symm))
                  clear hys hy V7 DN
                  go_wp2
                  exact bodyPost_ret (v := .tuple #[.agg #[.int .i64 0, .int .i64 0, .slice none 0 0], .bool false]) (by simp [results, Tryz.results15, go_sem, z0, z1, z2, f0, f1, f2]) rfl (.inr ⟨rfl, hno.out, put.out _ _ _ _ hBw7⟩)
              · have hk9 : L.length ≤ k + 2 := by omega
                have kc1 : ¬ (k : Int) + 2 < (L.length : Int) := by omega
                clear hcond
                obtain ⟨B2, cap2, rfl, hR⟩ := own_row O0 hbits.out
                have S0 := K0u.out.kept B0
                have d0 : wr.cell? ⟨w.heap.size, 0, none⟩ = some (.slice (some ⟨bT, oT, none⟩) ts.length cap) := S0.cell 0
                have d1 : wr.cell? ⟨w.heap.size, 1, none⟩ = some (.slice C ss.length capC) := S0.cell 1
                have e0 : wr.cell? ⟨g7, 0, none⟩ = some (.int .i64 (i : Int)) := G0.cell 0
                have e1 : wr.cell? ⟨g7, 1, none⟩ = some (.int .i64 n) := G0.cell 1
                have e2 : wr.cell? ⟨g7, 2, none⟩ = some (.slice B2 vs.length cap2) := G0.cell 2
                have hv16 : vs.length * 16 ≤ 140737488351232 := by omega
                have RL := fun w h1 h2 h3 => rline_any (some ⟨bT, oT, none⟩) C B2 cap capC cap2 ts ss (i : Int) n vs w h1 h2 h3 b1 b2.out hc1 hc2 hv16
                have DN := Lib.hid (fun ty' tm' vs' h1 h2 h3 => DONE.out i x n k vs hH.out hxi.out (.inr hk9) ty' tm' vs' h1 h2 h3)
                replace RL := Lib.hid RL
                replace hvl := Lib.hid hvl
                clear S0 hH
                go_wp2_with fail
                refine (RL.out _ (hAu1.out.later B0) (hSu1.out.later B0) hR).mono ?_; rintro e w7 ⟨y, rfl, hy, hb7⟩
                have hB7 := mmore B0 hb7
                have G7 := G0.kept hb7
                have R7 := K1u.out.kept hB7
                have V7 := hR.later hb7
                have hBw7 := mmore hBu1 hB7
                have hurl := K1u.out.lt
                have z0 : w7.cell? ⟨w.heap.size + 1, 0, none⟩ = some (.int .i64 0) := R7.cell 0
                have z1 : w7.cell? ⟨w.heap.size + 1, 1, none⟩ = some (.int .i64 0) := R7.cell 1
                have z2 : w7.cell? ⟨w.heap.size + 1, 2, none⟩ = some (.slice none 0 0) := R7.cell 2
                have f0 : w7.frozen? ⟨w.heap.size + 1, 0, none⟩ = false := R7.free 0
                have f1 : w7.frozen? ⟨w.heap.size + 1, 1, none⟩ = false := R7.free 1
                have f2 : w7.frozen? ⟨w.heap.size + 1, 2, none⟩ = false := R7.free 2
                have e0 : w7.cell? ⟨g7, 0, none⟩ = some (.int .i64 (i : Int)) := G7.cell 0
                have e1 : w7.cell? ⟨g7, 1, none⟩ = some (.int .i64 n) := G7.cell 1
                have e2 : w7.cell? ⟨g7, 2, none⟩ = some (.slice B2 vs.length cap2) := G7.cell 2
                have nz1 : ¬ g7 = w.heap.size + 1 := by omega
                have nz2 : ¬ w.heap.size + 1 = g7 := by omega
                clear O0 B0 hb7 G7 hB7 RL hR
                by_cases hys : y = s
                · have hq : (y.toList == s.toList) = true := by rw [hys]; simp
                  by_cases hse : s = ⟨#[]⟩
                  · have hem : s.toList.isEmpty = true := by rw [hse, ByteArray.toList_eq]; rfl
                    have hno : Hid (∀ ty tm vs, ¬ IsLine ts ss s ty tm vs) := Lib.hid (fun ty tm vs h => line_ne h.1 (by rw [← h.2.2, hse]))
                    clear hse hys hy V7 DN
                    go_wp2
                    exact bodyPost_ret (v := .tuple #[.agg #[.int .i64 0, .int .i64 0, .slice none 0 0], .bool false]) (by simp [results, Tryz.results15, go_sem, z0, z1, z2, f0, f1, f2]) rfl (.inr ⟨rfl, hno.out, put.out _ _ _ _ hBw7⟩)
                  · have hem : s.toList.isEmpty = false := by
                      cases h : s.toList with
                      | nil => exact absurd (size_empty (by rw [← ByteArray.toList_eq]; exact h)) hse
                      | cons a r => rfl
                    have hok : EvOk ts ss (i : Int) n vs := Classical.byContradiction fun h => hse (by rw [← hys]; exact hy.2 h)
                    have hIs : OneLine ts ss s (i : Int) n vs := ⟨⟨hok, V7.2.1, by rw [← hys, hy.1 hok, bl_list]⟩, fun ty' tm' vs' h => DN.out ty' tm' vs' h.1 h.2.1 h.2.2⟩
                    have V8 : RowV (((w7.setCell ⟨w.heap.size + 1, 0, none⟩ (.int .i64 (i : Int))).setCell ⟨w.heap.size + 1, 1, none⟩ (.int .i64 n)).setCell ⟨w.heap.size + 1, 2, none⟩ (.slice B2 vs.length cap2)) B2 vs.length vs := by
                      have p1 := V7.put R7 0 (.int .i64 (i : Int))
                      have p2 := p1.put (R7.put_ 0 (.int .i64 (i : Int))) 1 (.int .i64 n)
                      exact p2.put ((R7.put_ 0 (.int .i64 (i : Int))).put_ 1 (.int .i64 n)) 2 (.slice B2 vs.length cap2)
                    replace hIs := Lib.hid hIs
                    replace V8 := Lib.hid V8
                    clear hse hys hy V7 DN hok
                    go_wp2
                    exact bodyPost_ret (v := .tuple #[.agg #[.int .i64 (i : Int), .int .i64 n, .slice B2 vs.length cap2], .bool true]) (by simp [results, Tryz.results15, go_sem, z0, z1, z2, f0, f1, f2, e0, e1, e2, nz1, nz2]) rfl (.inl ⟨_, _, _, _, vs, rfl, hIs.out, V8.out, hv16, put.out _ _ _ _ hBw7⟩)
                · have hq : (y.toList == s.toList) = false := toList_ne hys
                  have hno : Hid (∀ ty tm vs, ¬ IsLine ts ss s ty tm vs) := Lib.hid (fun ty' tm' vs' h => by
                    obtain ⟨e1, e2, e3⟩ := DN.out ty' tm' vs' h.1 h.2.1 h.2.2
                    subst e1 e2 e3
                    exact hys (by rw [hy.1 h.1]; exact (bl_ext h.2.2).symm))
                  clear hys hy V7 DN
                  go_wp2
                  exact bodyPost_ret (v := .tuple #[.agg #[.int .i64 0, .int .i64 0, .slice none 0 0], .bool false]) (by simp [results, Tryz.results15, go_sem, z0, z1, z2, f0, f1, f2]) rfl (.inr ⟨rfl, hno.out, put.out _ _ _ _ hBw7⟩)
    · have hno := Lib.hid (NO.out (.inl (fun h => hc0 (check_one hC h))))
      have hcb : (c != 0) = true := by simpa using hc0
      go_wp2
      exact bodyPost_ret (v := .tuple #[.agg #[.int .i64 0, .int .i64 0, .slice none 0 0], .bool false]) (by simp [results, Tryz.results15, go_sem, *]) rfl (.inr ⟨rfl, hno.out, put.out _ _ _ _ hBw3⟩)
end Go.Proofs.YtkmlbifhpkfinaaGreatDoor
