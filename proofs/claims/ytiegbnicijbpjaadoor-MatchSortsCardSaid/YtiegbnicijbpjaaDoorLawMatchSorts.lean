/- MatchSorts: any matches in order; the list stays, and shares no memory with what is told. -/
import Derived.Test.YtiegbnicijbpjaaDoorRows
import Derived.Test.YtiegbnicijbpjaaDoorCards
import Derived.Test.YtiegbnicijbpjaaDoorTie
import Derived.LaidMore
import Derived.Lay
import Derived.LaidLaws
import Derived.ChangeVars
import Derived.SevenTiedAt
import Derived.Stop.Joined
import Derived.Stop.LaidErr
import Derived.Lib.LaidTab
import Derived.Lib.ItoaNum
import Derived.WalkKit
import Derived.ProofKit
import Derived.OpenShut
import Derived.ShutString
import Derived.ChangeOld
import Derived.Below
import Derived.Lib.SmallJoins
import Derived.SizedLaws
import Derived.Test.YtiegbnicijbpjaaDoorMtA
import Derived.Test.YtiegbnicijbpjaaDoorMts
import Derived.Test.YtiegbnicijbpjaaDoorSrtE
import Derived.Test.YtiegbnicijbpjaaDoorSrtR
namespace Go.Proofs.YtiegbnicijbpjaaDoor.matchSorts
open Go.ChangeShapes Go.WideShapes Go.ChangeAt Go.RowKit Go.Joins
set_option linter.unusedVariables false
set_option linter.unusedSimpArgs false

theorem own : ownKnob Tryd.prog.godebug = none := by kernel_rfl
theorem laidOut : laidOutB Tryd.prog = true := by kernel_rfl

theorem small_perm {xs ys : List MT} (h : xs.Perm ys) (hs : Small ys) : Small xs := ⟨by rw [h.length_eq]; exact hs.1, fun m hm => hs.2 m (h.mem_iff.1 hm)⟩
theorem news_3 (w : World) (t : TypeId) (x y z : Value) : ∀ (j : Nat) (u : Value), [x, y, z][j]? = some u → (w.alloc (.cells #[x, y, z] t)).cell? ((⟨w.heap.size, 0, none⟩ : Addr).add j) = some u := by
  intro j u hj
  match j, hj with
  | 0, hj => simp at hj; subst hj; simp [Addr.add]
  | 1, hj => simp at hj; subst hj; simp [Addr.add]
  | 2, hj => simp at hj; subst hj; simp [Addr.add]
theorem one_3 : ∀ u ∈ [Value.int .i64 71, Value.int .i64 0, Value.slice none 0 0], u.oneCell' = true := by
  intro u hu; simp at hu; rcases hu with rfl | rfl | rfl <;> rfl
theorem mats_any {w : World} {base c n : Nat} {a : Option Addr} {S : List MV} (hO : w.ownsRow base 27 3 (.slice a n c) n (flatM S)) (hn : n = S.length) (hI : ∀ m ∈ S, RowsAt w m.A m.rows) : MatsAt w a (S.map MV.says) := fun hp => by
  rw [List.length_map] at hp
  rcases hO.2 with ⟨_, h0⟩ | ⟨g, cap, cur, e, _⟩
  · omega
  · injection e with e e1 e2
    subst e e2
    exact flat_mats hO hI (by rw [List.length_map]; exact hp)
theorem own_cap {w : World} {base n cap size : Nat} {e : TypeId} {a : Addr} {xs : List Value} (h : w.ownsRow base e size (.slice (some a) n cap) n xs) : n ≤ cap ∧ cap ≤ maxLen := by
  rcases h.2 with ⟨e0, _⟩ | ⟨g1, c1, cur, e0, _, _, h5, h6, _⟩
  · cases e0
  · injection e0 with _ _ e0
    subst e0
    exact ⟨h5, h6⟩
set_option maxHeartbeats 8000000 in
set_option maxRecDepth 100000 in
theorem walk (w : World) (htab : Lib.TabIs Tryd.prog w "internal/strconv.uint64pow10" .u64 Lib.pow10Tab) (hsp : SpTab w) (hz : 0 < w.heap.size) (A0 : Option Addr) (c0 : Nat) (z0 : List MT) (w0 : MatsAt w A0 z0) (s0 : Small z0) :
    Calls Tryd.prog 3 #[.slice A0 z0.length c0] w fun e w' => e = .returned (.bool true) ∧ Below w.heap.size w w' := by
  have hw0 := Lib.hid w0
  have hs0 := Lib.hid s0
  obtain ⟨m0, hm, hq0, hq1, hq2⟩ := info_parts sInfoM
  replace hm := Lib.hid hm
  replace hq1 := Lib.hid hq1
  replace hq2 := Lib.hid hq2
  have sp := Lib.hid (fun u (hb : Below w.heap.size w u) => hsp.later hb)
  have tab := Lib.hid (Lib.tabBelow_of_tabIs htab)
  have hz9 := Lib.hid hz
  clear hsp htab w0 s0 hz
  by_cases hbig : (z0.length : Int) > 500
  · go_enter Tryd.func3, Tryd.ntmps3
    go_wp2_with fail
    refine (awake_any _ (sp.out _ (Below.refl _ _)) hz9.out (tab.out _ (Below.refl _ _))).mono ?_; rintro e wb ⟨rfl, hb2⟩
    go_wp2
    go_ret
    exact ⟨rfl, hb2⟩
  have hn : z0.length ≤ 500 := by omega
  go_enter Tryd.func3, Tryd.ntmps3
  go_upto_region 3 with (fail)
  refine wp_region_lit ?_
  refine wpList_plain rfl fun K hK => ?_
  go_simp
  refine hK _ _ ?_
  clear hK K
  refine wpList_plain rfl fun K hK => ?_
  go_simp
  go_at_call 5
  refine (twin_any A0 c0 z0 w hw0.out hs0.out).mono ?_; rintro e w1 ⟨a, ca, xs, rfl, hO, hL, hb1⟩
  refine hK _ _ ?_
  clear hK K
  refine wpList_plain rfl fun K hK => ?_
  go_simp
  refine hK _ _ ?_
  clear hK K
  refine wpList_plain rfl fun K hK => ?_
  go_simp
  refine hK _ _ ?_
  clear hK K
  have hxl := hL.1
  have n3 : z0.length + 1 ≤ maxLen := by unfold maxLen; omega
  have n4 : (z0.length + 1) * 40 ≤ 140737488355328 := by omega
  have n5 : w.heap.size ≤ w1.heap.size := hb1.size
  replace hL := Lib.hid hL
  replace hxl := Lib.hid hxl
  have hwN : IntKind.i64.wrap (z0.length : Int) = (z0.length : Int) := by rw [IntKind.wrap_i64]; omega
  have hwN1 : IntKind.i64.wrap ((z0.length : Int) + 1) = (z0.length : Int) + 1 := by rw [IntKind.wrap_i64]; omega
  have hN0 : (0 : Int) ≤ (z0.length : Int) := by omega
  refine wpList_append_own _ rfl (.tmp 13) (.tmp 15) 22 rfl w.heap.size 27 m0 (.agg #[.int .i64 0, .int .i64 0, .slice none 0 0]) 3 40 Tryd.underlying22 hm.out hq0 hq1.out hq2.out rfl (by decide) (.slice a z0.length ca) z0.length xs rfl (hO.alloc _) ⟨w1.heap.size, 0, none⟩ 1 1 [.int .i64 71, .int .i64 0, .slice none 0 0] rfl rfl (news_3 _ _ _ _ _) one_3 n3 n4 (Nat.le_trans n5 (by simp)) ?_
  intro v' w2 hO2 hg2 _
  obtain ⟨g, cg, rfl⟩ := ownsRow_succO hO2
  have hB2 := Lib.hid (below_grownO (hb1.alloc hb1.size (.cells #[.int .i64 71, .int .i64 0, .slice none 0 0] 27)) (Nat.le_refl _) (hO.alloc _) hg2)
  have hL2 := hL.out.keep (KeepO.grown hO _ hg2)
  have hM2 := Lib.hid (mats_own (g := g) (fun j u hj => own_cells hO2 j u (by rw [List.getElem?_append_left (List.getElem?_eq_some_iff.1 hj).1]; exact hj)) hL2)
  have c71 := Lib.hid (own_cells hO2 (z0.length * 3) (.int .i64 71) (by rw [List.getElem?_append_right (by rw [hxl.out]; omega), hxl.out, Nat.sub_self]; rfl))
  have hcg : z0.length + 1 ≤ cg := (own_cap hO2).1
  have hcg2 : cg ≤ maxLen := (own_cap hO2).2
  have hcg3 : z0.length ≤ cg := by omega
  clear hg2 hO2 hL2 hO hL hb1 n3 n4 n5
  have hcgI : (z0.length : Int) + 1 ≤ (cg : Int) := by omega
  have hcgJ : (z0.length : Int) ≤ (cg : Int) := by omega
  go_wp2_with fail
  refine (sort_any (some ⟨g, 0, none⟩) cg z0 w2 hM2.out hs0.out).mono ?_; rintro e w3 ⟨go, co, ms', rfl, hp, hsd, hOwn, hb3⟩
  have hB3 := Lib.hid (mmore hB2.out hb3)
  have hb23 := hb3
  replace hOwn := Lib.hid hOwn
  clear hb3
  go_wp2_with fail
  refine (awake_any _ (sp.out _ hB3.out) (by have := hB3.out.size; have := hz9.out; omega) (tab.out _ hB3.out)).mono ?_; rintro e w4 ⟨rfl, hb4⟩
  have hB4 := Lib.hid (mmore hB3.out hb4)
  have hb24 := mmore hb23 hb4
  obtain ⟨xo, hOo, hLo⟩ := hOwn.out
  replace hOo := mown_below hOo hb4
  replace hLo := hLo.keep (KeepO.below hb4)
  clear hb4 hOwn hb23
  go_wp2_with fail
  refine (rsort_any A0 c0 z0 w4 (hw0.out.later hB4.out) hs0.out).mono ?_; rintro e w5 ⟨aS, cS, S, rfl, hpS, hsS, hOS, hIS, hb5⟩
  have hB5 := Lib.hid (mmore hB4.out hb5)
  have hb25 := mmore hb24 hb5
  replace hOo := mown_below hOo hb5
  replace hLo := hLo.keep (KeepO.below hb5)
  have hlm : ms'.length = z0.length := hp.length_eq
  have hlS : (S.map MV.says).length = z0.length := hpS.length_eq
  have hM5 : MatsAt w5 (some ⟨go, 0, none⟩) ms' := mats_own (fun j u hj => own_cells hOo j u hj) hLo
  have hS5 : MatsAt w5 aS (S.map MV.says) := mats_any hOS (by rw [List.length_map] at hlS; exact hlS.symm) (fun m hm => (hIS m hm).1.later hb5)
  have SM := rsame_any (some ⟨go, 0, none⟩) aS co cS ms' (S.map MV.says) w5 hM5 hS5 (small_perm hp hs0.out) (small_perm hpS hs0.out)
  rw [hlm, hlS, same_sorted hp hsd hpS hsS] at SM
  replace SM := Lib.hid SM
  replace hOo := Lib.hid hOo
  replace hLo := Lib.hid hLo
  clear hb5 hb24 hM5 hS5 hOS hIS hpS hsS hlS hsd
  replace hp := Lib.hid hp
  replace hlm := Lib.hid hlm
  replace hb25 := Lib.hid hb25
  go_wp2_with fail
  refine SM.out.mono ?_; rintro e w6 ⟨rfl, hb6⟩
  have hB6 := Lib.hid (mmore hB5.out hb6)
  have hb26 := Lib.hid (mmore hb25.out hb6)
  replace hOo := Lib.hid (mown_below hOo.out hb6)
  replace hLo := Lib.hid (hLo.out.keep (KeepO.below hb6))
  have SI := rsame_any (some ⟨g, 0, none⟩) A0 cg c0 z0 z0 w6 (hM2.out.later hb26.out) (hw0.out.later hB6.out) hs0.out hs0.out
  rw [sameL_self] at SI
  replace SI := Lib.hid SI
  clear hb6 SM
  go_wp2_with fail
  refine SI.out.mono ?_; rintro e w7 ⟨rfl, hb7⟩
  have hB7 := Lib.hid (mmore hB6.out hb7)
  have hb27 := Lib.hid (mmore hb26.out hb7)
  replace hOo := mown_below hOo.out hb7
  replace hLo := hLo.out.keep (KeepO.below hb7)
  have c71' : w7.cell? ⟨g, z0.length * 3, none⟩ = some (.int .i64 71) := cell_later hb27.out c71.out
  clear hb7 SI
  have hlsL := listS_of hLo
  rw [hlm.out] at hOo
  have J0 : OverJ w2 go z0.length co (ms'.map fun m => m.2.2.map List.length) xo w7 := ⟨hOo, hlsL, hb27.out⟩
  have hnl : (ms'.map fun m => m.2.2.map List.length).length = z0.length := by rw [List.length_map]; exact hlm.out
  have hne : ∀ ns ∈ (ms'.map fun m => m.2.2.map List.length), ns.length ≤ 9223372036854775806 ∧ ∀ n2 ∈ ns, n2 ≤ 9223372036854775806 := fun ns hns => by
    obtain ⟨m, hmm, rfl⟩ := List.mem_map.1 hns
    have hsm := (small_perm hp.out hs0.out).2 m hmm
    refine ⟨by rw [List.length_map]; omega, fun n2 h2 => ?_⟩
    obtain ⟨l, hl, rfl⟩ := List.mem_map.1 h2
    have := hsm.2 l hl
    omega
  replace hne := Lib.hid hne
  generalize (ms'.map fun m => m.2.2.map List.length) = nss at *
  clear hlsL hLo hOo
  replace J0 := Lib.hid J0
  replace hnl := Lib.hid hnl
  go_wp2_with fail
  clear c71'
  go_loopw [52] (fun i wr => ∃ n : Nat, n ≤ z0.length ∧ i = .int .i64 (n : Int) ∧ OverJ w2 go z0.length co nss xo wr) (fun i _ => z0.length - (intOf i).toNat)
  case atStart => exact ⟨0, Nat.zero_le _, rfl, J0.out⟩
  case round =>
    clear J0
    obtain ⟨n, hnn, rfl, J⟩ := hrel
    by_cases hlt : n < z0.length
    · have e0 : (0 : Int) ≤ (n : Int) := by omega
      have e1 : (n : Int) < (z0.length : Int) := by omega
      have e3 := Lib.hid hlt
      have hnq : n < nss.length := by rw [hnl.out]; exact hlt
      have hns : nss[n]? = some nss[n] := List.getElem?_eq_getElem hnq
      have hne1 := hne.out _ (List.getElem_mem hnq)
      generalize nss[n] = ns at *
      obtain ⟨P, pc, us, d2, -, -⟩ := over_parts J.1 J.2.1 hns
      replace hns := Lib.hid hns
      have J1 := Lib.hid J
      have hl2 := hne1.1
      have hne2 := Lib.hid hne1.2
      clear hne1 J
      go_wp2_with fail
      clear d2
      go_loopw [61] (fun i wr => ∃ k : Nat, k ≤ ns.length ∧ i = .int .i64 (k : Int) ∧ OverJ w2 go z0.length co nss xo wr) (fun i _ => ns.length - (intOf i).toNat)
      case atStart => exact ⟨0, Nat.zero_le _, rfl, J1.out⟩
      case round =>
        clear J1
        obtain ⟨k, hk, rfl, J⟩ := hrel
        by_cases hlk : k < ns.length
        · have f0 : (0 : Int) ≤ (k : Int) := by omega
          have f1 : (k : Int) < (ns.length : Int) := by omega
          have f3 := Lib.hid hlk
          have hn2 : ns[k]? = some ns[k] := List.getElem?_eq_getElem hlk
          have hl3 := hne2.out _ (List.getElem_mem hlk)
          generalize ns[k] = n2 at *
          obtain ⟨P, pc, us, d2, h3, h4⟩ := over_parts J.1 J.2.1 hns.out
          obtain ⟨gp, Q, qc, zs, rfl, d3, hz, hO⟩ := over_row h3 h4 hn2
          replace hn2 := Lib.hid hn2
          have J1 := Lib.hid J
          clear J h3 h4 hO hz
          go_wp2_with fail
          clear d2 d3
          go_loopw [73] (fun i wr => ∃ j : Nat, j ≤ n2 ∧ i = .int .i64 (j : Int) ∧ OverJ w2 go z0.length co nss xo wr) (fun i _ => n2 - (intOf i).toNat)
          case atStart => exact ⟨0, Nat.zero_le _, rfl, J1.out⟩
          case round =>
            clear J1
            obtain ⟨j, hj, rfl, J⟩ := hrel
            by_cases hlj : j < n2
            · have g0 : (0 : Int) ≤ (j : Int) := by omega
              have g1 : (j : Int) < (n2 : Int) := by omega
              have g3 := Lib.hid hlj
              obtain ⟨P, pc, us, d2, h3, h4⟩ := over_parts J.1 J.2.1 hns.out
              obtain ⟨gp, Q, qc, zs, rfl, d3, hz, hO⟩ := over_row h3 h4 hn2.out
              obtain ⟨gq, cur, old, rfl, hBq, hblk, hold, hfr⟩ := over_cell hO hz hlj
              have J1 := Lib.hid (J.over (j := j) hBq hblk (-9))
              clear J h3 h4 hO hz hBq hblk
              go_wp2
              go_roundw
              case rel => exact ⟨j + 1, by have := g3.out; omega, by go_num, J1.out⟩
              case measure => have := g3.out; simp [intOf]; omega
            · obtain rfl : j = n2 := by omega
              have J1 := Lib.hid J
              clear J
              go_wp2
              go_roundw
              case rel => exact ⟨k + 1, by have := f3.out; omega, by go_num, J1.out⟩
              case measure => have := f3.out; simp [intOf]; omega
        · obtain rfl : k = ns.length := by omega
          have J1 := Lib.hid J
          clear J
          go_wp2
          go_roundw
          case rel => exact ⟨n + 1, by have := e3.out; omega, by go_num, J1.out⟩
          case measure => have := e3.out; simp [intOf]; omega
    · obtain rfl : n = z0.length := by omega
      have hBw : Below w.heap.size w wr := by
        have hb := J.2.2
        exact hB2.out.trans (hb.mono hB2.out.size)
      have SI := rsame_any (some ⟨g, 0, none⟩) A0 cg c0 z0 z0 wr (hM2.out.later J.2.2) (hw0.out.later hBw) hs0.out hs0.out
      rw [sameL_self] at SI
      replace SI := Lib.hid SI
      replace hBw := Lib.hid hBw
      clear J hlt hnn
      go_wp2_with fail
      refine SI.out.mono ?_; rintro e w9 ⟨rfl, hb9⟩
      have hB9 := mmore hBw.out hb9
      clear hb9 SI
      go_wp2
      go_ret
      exact ⟨rfl, hB9⟩

theorem laid_met (os : Os) (args : Array Value) : laidMetH Tryd.prog Rows.matchSortsRow.laid ((World.laidAll Tryd.prog os Rows.matchSortsRow.laid).forCall (fun _ _ => 0) ⟨#[], args, []⟩).memory := by
  rw [MakeChecks.laidMetH_plain _ _ _ (by kernel_rfl)]
  exact laidMet_laidAll _ (by kernel_rfl) (by kernel_rfl)
theorem gPow : Tryd.prog.globalNamed "internal/strconv.uint64pow10" = some 7 := by kernel_rfl
theorem tPow : (Tryd.prog.globals[7]?).map (·.type) = some 129 := by kernel_rfl
theorem of_laid {W : World} (h : laidMetH Tryd.prog Rows.matchSortsRow.laid W) : Lib.TabIs Tryd.prog W "internal/strconv.uint64pow10" .u64 Lib.pow10Tab := by
  rw [MakeChecks.laidMetH_plain _ _ _ (by kernel_rfl)] at h
  have h2 : laidMet Tryd.prog (("internal/strconv.uint64pow10", Lib.tabData .u64 Lib.pow10Tab) :: Rows.matchSortsRow.laid.drop 3) W := h.tail.tail
  exact Lib.tabIs_of_head gPow tPow Tryd.underlying129 Tryd.underlying73 (by kernel_rfl) (by kernel_rfl) h2

theorem gSp : Tryd.prog.globalNamed "strings.asciiSpace" = some 0 := by kernel_rfl
theorem tSp : (Tryd.prog.globals[0]?).map (·.type) = some 76 := by kernel_rfl
theorem spD : (Lib.tabData .u8 spL : DataW Unit) = Rows.laid_strings_asciiSpace := by kernel_rfl
theorem of_laid2 {W : World} (h : laidMetH Tryd.prog Rows.matchSortsRow.laid W) : Lib.TabIs Tryd.prog W "strings.asciiSpace" .u8 spL := by
  rw [MakeChecks.laidMetH_plain _ _ _ (by kernel_rfl)] at h
  have h2 : laidMet Tryd.prog (("strings.asciiSpace", Lib.tabData .u8 spL) :: Rows.matchSortsRow.laid.drop 8) W := by rw [spD]; exact h.tail.tail.tail.tail.tail.tail.tail
  exact Lib.tabIs_of_head gSp tSp Tryd.underlying76 Tryd.underlying5 (by kernel_rfl) (by kernel_rfl) h2

set_option maxRecDepth 100000 in
theorem lifted (os : Os) (started : os.Started) (H : Type) (enc : TypeId × Value → H) :
    ReturnsInHanded {} Tryd.checked os 3 .any (fun w args => (Rows.matchSortsSpec.pre enc Tryd.prog Tryd.f3 [] false w args ∧ laidMetH Tryd.prog Rows.matchSortsRow.laid w) ∧ sizedMet enc Tryd.prog Tryd.f3 (OpenSpec.ofChange Rows.matchSortsSpec) false w args) (Rows.matchSortsSpec.post enc Tryd.prog Tryd.f3 false true false false) := by
  refine returnsInHanded_of_change_and (C := Tryd.checked) (X := fun w _ => laidMetH Tryd.prog Rows.matchSortsRow.laid w) (fun _ _ _ hh h => h.of_heap hh) own started (by kernel_rfl) Tryd.func3
    (ChangeSpec.witness_shaped (enc := enc) (C := Tryd.checked) (os := os) (X := fun w _ => laidMetH Tryd.prog Rows.matchSortsRow.laid w) false (World.laidAll Tryd.prog os Rows.matchSortsRow.laid) #[.slice none 0 0] 8 (World.laidAll_os _ _ _) (World.shaped_of_ZipB (by kernel_rfl) (by kernel_rfl)) (by kernel_rfl) (by kernel_rfl) (by kernel_rfl) (laid_met os _)) ?_
  intro W base args ds gs before hval0 hW _ hsz0 hL _
  have hTab := of_laid hL
  have hSpT := of_laid2 hL
  have hSp := spTab_of hSpT gSp
  have hZ : 0 < W.heap.size := mblock (hSp 0 (by decide))
  clear hL
  have hsz : (DataW.weightsEach Tryd.prog (Tryd.f3.params.toList ++ Rows.matchSortsSpec.plain.varTypes Tryd.prog) (ds ++ gs)).all (· ≤ reachBytes) = true := hsz0
  clear hsz0
  have hval : ∀ (j : Nat) t v, Tryd.f3.params[j]? = some t → args[j]? = some v → Value.okWide Tryd.prog W .any base t v := hval0
  have hW' := hW
  obtain ⟨p, q, hA0, hV, rfl, hfz, hnd⟩ := hW
  have hA : DataW.TrodAll enc Tryd.prog W 0 (fun _ => true) true Tryd.f3.params.toList args.toList ds p := hA0
  rw [Tryd.params3] at hA hval hsz
  obtain ⟨v0, vs0, d0, ds0, p0, q0, hargs, rfl, rfl, h0, r0⟩ := trodAll_cons hA
  obtain ⟨rfl, rfl, rfl⟩ := trodAll_nil r0
  obtain rfl : args = #[v0] := by cases args; simp_all
  obtain ⟨rfl, rfl⟩ := trodVars_none hV
  have kk0 := h0
  have lt0 : ∀ x ∈ p0, x.block < W.heap.size := by obtain ⟨m, hm⟩ := kk0; exact DataW.trod_lt m _ _ _ hm
  obtain ⟨A0, c0, z0, rfl, w0, s0⟩ := open_matches (hval 0 22 v0 rfl rfl) h0 (wb_each hsz (j := 0) (t := 22) rfl rfl)
  clear hA0 hval0
  refine (walk W hTab hSp hZ A0 c0 z0 w0 s0).mono fun e W' ⟨he, bel⟩ => ?_
  subst he
  exact ⟨_, rfl, _, _, _, [], _, [], hW', trodAll_mk1 (shut_bool Tryd.underlying4 _), (trodAll_cons_mk (Below.trod laidOut (by kernel_rfl) (of_decide_eq_true (by kernel_rfl)) kk0 bel lt0) trodAll_mk0), rfl, bel.frame _, fun h => by cases h⟩

theorem over : Rows.matchSortsRow.holds Tryd.pinned (OpenSpec.ofChange Rows.matchSortsSpec) :=
  OpenClaim.holds_of_wide 3 Tryd.f3 rfl rfl rfl rfl rfl rfl rfl ⟨rfl, rfl, rfl, rfl, rfl⟩ rfl rfl rfl rfl rfl (by kernel_rfl) Tryd.func3 (by kernel_rfl)
    (of_decide_eq_true (by kernel_rfl)) (by unfold Func.isWrapper; first | (rw [if_pos (by decide +kernel)]; kernel_rfl) | (rw [if_neg (by decide +kernel)]; exact ⟨rfl, rfl⟩))
    (fun os started H enc _ => lifted os started H enc)

/-- the statement -/
theorem proved : Rows.MatchSortsCardSaid :=
  Claim7.holds_tied_plain_at .later [] [.data, .data, .data, .data, .sentinel, .sentinel, .listed, .data, .pinned] true (true, "b94db7b56953e52fdc545062e671575e26a91f4ca4855aa468f00e23153081fe") true
    over (fun _ h => by cases h) (by kernel_rfl) (fun _ h => by cases h) matchSorts_row_tie rfl ⟨rfl, rfl⟩ (by kernel_rfl) rfl
    (fun f fn hf hfn => by
      obtain rfl : f = 3 := Option.some.inj ((show Tryd.prog.funcNamed "auspice/auspicelaw10.MatchSorts" = some 3 by kernel_rfl).symm.trans hf) |>.symm
      obtain rfl : fn = Tryd.f3 := (Option.some.inj (Tryd.func3.symm.trans hfn)).symm
      exact ⟨by kernel_rfl, fun j t ht => by
        rw [Tryd.params3] at ht
        have hm : t ∈ [22] := by simpa using Array.mem_of_getElem? ht
        have hall : ([22].all fun u => !Tryd.prog.wantsStandIn u) = true := by kernel_rfl
        exact (show Tryd.prog.wantsStandIn t = false by simpa using List.all_eq_true.1 hall t hm)⟩)
    (by kernel_rfl)
#print axioms proved
end Go.Proofs.YtiegbnicijbpjaaDoor.matchSorts
