/- ImageTurns: of an image no byte may be another one, none may be missing, none more. -/
import Derived.Test.YtcchbbnlcilanaaRows
import Derived.WalkKit
import Derived.ProofKit
import Derived.OpenShut
import Derived.ShutString
import Derived.ChangeOld
import Derived.Below
import Derived.Lib.SmallJoins
import Derived.SizedLaws
import Derived.Test.YtcchbbnlcilanaaImJ
import Derived.Test.YtcchbbnlcilanaaImKb
import Derived.Test.YtcchbbnlcilanaaImTv
import Derived.Test.YtcchbbnlcilanaaWrJ
import Derived.Test.YtcchbbnlcilanaaWrO
import Derived.Test.YtcchbbnlcilanaaWb
import Derived.Deep.CutRange
import Derived.Deep.DeepCutAuto
import Derived.StillTailTactics
namespace Go.Proofs.Ytcchbbnlcilanaa.imageTurns
open Go.ChangeShapes Go.WideShapes Go.ChangeAt Go.RowKit Go.Joins
set_option linter.unusedVariables false
set_option linter.unusedSimpArgs false

theorem own : ownKnob Try.prog.godebug = none := by kernel_rfl
theorem laidOut : laidOutB Try.prog = true := by kernel_rfl

set_option maxHeartbeats 16000000 in
set_option maxRecDepth 100000 in
theorem walk (w : World) (z0 : Int) (A1 : Option Addr) (n1 c1 : Nat) (A2 : Option Addr) (n2 c2 : Nat) (z3 z4 z5 : Int) (A6 : Option Addr) (n6 c6 : Nat) (A7 : Option Addr) (n7 c7 : Nat) (x : TTable) (hT : TabIn w z0 A1 n1 c1 A2 n2 c2 z3 z4 z5 A6 n6 c6 A7 n7 c7 x) (a1 : Int) (w1 : (Lit.int .i64 a1).wf = true) (a2 : Int) (w2 : (Lit.int .u8 a2).wf = true) :
    Calls Try.prog 7 #[.agg #[.int .i64 z0, .slice A1 n1 c1, .slice A2 n2 c2, .int .i64 z3, .int .i64 z4, .int .i64 z5, .slice A6 n6 c6, .slice A7 n7 c7], .int .i64 a1, .int .u8 a2] w fun e w' => e = .returned (.bool true) ∧ Below w.heap.size w w' := by
  have hu2 := wf_u8 w2
  have hu1 := wf_i64 w1
  have AW := Lib.hid (fun w => awake21 w)
  have MA := Lib.hid (fun u hu => many_any x z0 A1 n1 c1 A2 n2 c2 z3 z4 z5 A6 n6 c6 A7 n7 c7 u (hT.1 u hu))
  have EN := Lib.hid (fun u hu => encode_any x z0 A1 n1 c1 A2 n2 c2 z3 z4 z5 A6 n6 c6 A7 n7 c7 u (hT.1 u hu) hT.2)
  have hwf := Lib.hid hT.2
  clear hT
  have hm1 := Lib.hid (m1 w (.cells #[.int .i64 z0, .slice A1 n1 c1, .slice A2 n2 c2, .int .i64 z3, .int .i64 z4, .int .i64 z5, .slice A6 n6 c6, .slice A7 n7 c7] 27))
  have hblk := Lib.hid (Blk.made w 27 #[.int .i64 z0, .slice A1 n1 c1, .slice A2 n2 c2, .int .i64 z3, .int .i64 z4, .int .i64 z5, .slice A6 n6 c6, .slice A7 n7 c7])
  go_enter Try.func7, Try.ntmps7
  go_wp2_with fail
  refine (MA.out _ hm1.out).mono ?_; rintro e w1 ⟨⟨q, rfl⟩, hb1⟩
  have hB1 := Lib.hid (mmore hm1.out hb1)
  have hblk1 := hblk.out.kept hb1
  clear hblk hm1 hb1
  have t0 : w1.cell? ⟨w.heap.size, 0, none⟩ = some (.int .i64 z0) := hblk1.cell 0
  have t1 : w1.cell? ⟨w.heap.size, 1, none⟩ = some (.slice A1 n1 c1) := hblk1.cell 1
  have t2 : w1.cell? ⟨w.heap.size, 2, none⟩ = some (.slice A2 n2 c2) := hblk1.cell 2
  have t3 : w1.cell? ⟨w.heap.size, 3, none⟩ = some (.int .i64 z3) := hblk1.cell 3
  have t4 : w1.cell? ⟨w.heap.size, 4, none⟩ = some (.int .i64 z4) := hblk1.cell 4
  have t5 : w1.cell? ⟨w.heap.size, 5, none⟩ = some (.int .i64 z5) := hblk1.cell 5
  have t6 : w1.cell? ⟨w.heap.size, 6, none⟩ = some (.slice A6 n6 c6) := hblk1.cell 6
  have t7 : w1.cell? ⟨w.heap.size, 7, none⟩ = some (.slice A7 n7 c7) := hblk1.cell 7
  clear hblk1
  cases q with
  | true =>
    go_wp2_with fail
    refine (AW.out _).mono ?_; rintro e w3 ⟨rfl, hb3⟩
    replace hb3 := Lib.hid (mmore hB1.out hb3)
    go_wp2
    go_ret
    exact ⟨rfl, hb3.out⟩
  | false =>
    go_wp2_with fail
    refine (EN.out _ hB1.out).mono ?_; rintro e w2 ⟨hb2, v, rfl, hv⟩
    have hB2 := Lib.hid (mmore hB1.out hb2)
    clear t0 t1 t2 t3 t4 t5 t6 t7 EN MA
    rcases encP_cases x with ⟨k, hk, hk0, _⟩ | ⟨hk, hok, hlen⟩
    · rw [hk] at hv ⊢
      subst hv
      have hk1 : (k == 0) = false := by simpa using hk0
      have hk2 : (k != 0) = true := by simpa using hk0
      clear hk
      go_wp2_with fail
      refine (AW.out _).mono ?_; rintro e w3 ⟨rfl, hb3⟩
      replace hb3 := Lib.hid (mmore hB2.out hb3)
      go_wp2_with fail
      refine (AW.out _).mono ?_; rintro e w4 ⟨rfl, hb4⟩
      replace hb4 := Lib.hid (mmore hb3.out hb4)
      go_wp2
      go_ret
      exact ⟨rfl, hb4.out⟩
    · rw [hk] at hv ⊢
      clear hk
      obtain ⟨A, c, rfl, hO⟩ := hv
      have hby : Byt (ausp ++ encL (iTable x) ++ le4 (sumL (ausp ++ encL (iTable x)))) := fun z hz => by
        rcases List.mem_append.1 hz with h | h
        · rcases List.mem_append.1 h with h | h
          · simp [ausp] at h; omega
          · exact encL_byt _ z h
        · exact le4_byt _ z h
      have hT1 := fun k d hk hd hne => turned_no (encL_byt (iTable x)) rfl (k := k) (d := d) hk hd hne
      have hT2 := fun k hk => cut_no hwf.out hok (encL_byt _) rfl (k := k) hk
      have hT3 := fun c => more_no hwf.out hok rfl c
      have hl8 : 8 ≤ (ausp ++ encL (iTable x) ++ le4 (sumL (ausp ++ encL (iTable x)))).length ∧ (ausp ++ encL (iTable x) ++ le4 (sumL (ausp ++ encL (iTable x)))).length ≤ 65536 := by
        rw [List.length_append] at *
        rw [show (le4 (sumL (ausp ++ encL (iTable x)))).length = 4 from rfl]
        rw [List.length_append, show ausp.length = 4 from rfl] at *
        omega
      clear hwf hok hlen
      generalize ausp ++ encL (iTable x) ++ le4 (sumL (ausp ++ encL (iTable x))) = l at *
      obtain ⟨_, hy2⟩ := Bys.of_own hO
      obtain ⟨_, _, hq, hc, _⟩ := bslice_of hO
      injection hq with q1 q2 q3
      subst q3
      clear q1 q2
      obtain ⟨hl1, hl2⟩ := hl8
      replace hT1 := Lib.hid hT1
      replace hT2 := Lib.hid hT2
      replace hT3 := Lib.hid hT3
      replace hby := Lib.hid hby
      replace hy2 := Lib.hid hy2
      replace hO := Lib.hid hO
      have hbd := Lib.hid (Below.refl w2.heap.size w2)
      go_wp2_with fail
      refine (AW.out _).mono ?_; rintro e w3 ⟨rfl, hb3⟩
      have hB3 := Lib.hid (mmore hB2.out hb3)
      have hbd3 := Lib.hid (mmore hbd.out hb3)
      clear AW hB2 hb3 hbd
      go_upto_region 6 with (fail)
      go_cut [9] from 32 to 38 (fun p w' => ∃ K : Nat, K < l.length ∧ p = .int .i64 (K : Int) ∧ w3 = w')
      case first =>
        have hnz : (l.length : Int) ≠ 0 := by omega
        obtain ⟨K, hK, hKe⟩ := rem_in a1 (n := l.length) (by omega) hl2
        go_wp2
        go_meet
        exact ⟨K, hK, by rw [hKe], rfl⟩
      case rest =>
        obtain ⟨K, hK, rfl, rfl⟩ := hcut
        have hcK : l[K]? = some l[K] := List.getElem?_eq_getElem hK
        have hK256 := hby.out.get hcK
        generalize l[K] = b0 at *
        obtain ⟨ad, rfl, _, hcell⟩ := (hy2.out.later hbd3.out).at_ hcK
        have K0 : (0 : Int) ≤ (K : Int) := by omega
        have K1 : (K : Int) < (l.length : Int) := by omega
        obtain ⟨cn, rfl⟩ : ∃ cn : Nat, a2 = (cn : Int) := ⟨a2.toNat, by omega⟩
        go_upto_region 7 with (fail)
        go_cut [44] from 39 to 44 (fun p w' => p = .bool (decide (b0 = cn)) ∧ w3 = w')
        case first =>
          have hdec : decide (b0 = cn) = ((b0 : Int) == (cn : Int)) := by by_cases h : b0 = cn <;> simp [h] <;> omega
          go_wp2
          go_meet
          exact ⟨by rw [hdec], rfl⟩
        case rest =>
        obtain ⟨rfl, rfl⟩ := hcut
        have hq : (decide (b0 = cn) = true → b0 = cn) ∧ (decide (b0 = cn) = false → b0 ≠ cn) := ⟨fun h => by simpa using h, fun h => by simpa using h⟩
        replace hq := Lib.hid hq
        generalize decide (b0 = cn) = q at *
        go_upto_if 44 with (fail)
        go_cut [2] from 45 to 46 (fun p w' => ∃ d : Nat, d < 256 ∧ d ≠ b0 ∧ p = .int .u8 (d : Int) ∧ w3 = w')
        case first =>
          cases q with
          | true =>
            have hbc := hq.out.1 rfl
            have hw8 : IntKind.u8.wrap ((cn : Int) + 1) = (((cn + 1) % 256 : Nat) : Int) := by rw [show ∀ n, IntKind.u8.wrap n = n % 256 from fun n => by simp [IntKind.wrap, IntKind.bits, IntKind.signed]]; omega
            go_wp2
            go_meet
            exact ⟨(cn + 1) % 256, by omega, by omega, by rw [← hw8, show ∀ n, IntKind.u8.wrap n = n % 256 from fun n => by simp [IntKind.wrap, IntKind.bits, IntKind.signed]], rfl⟩
          | false =>
            have hbc := hq.out.2 rfl
            go_wp2
            go_meet
            exact ⟨cn, by omega, fun h => hbc h.symm, rfl, rfl⟩
        case rest =>
        obtain ⟨d, hd, hdb, rfl, rfl⟩ := hcut
        replace hT1 := Lib.hid (hT1.out K d hK hd (by rw [hcK]; intro e; injection e with e; exact hdb e.symm))
        replace hT2 := Lib.hid (hT2.out K hK)
        replace hT3 := Lib.hid (hT3.out d)
        clear hq hcell hcK
        obtain ⟨i0, hi, hz0, hz1, hz2⟩ := info_parts infoB
        have hO0 := World.ownsRow_lit (base := w3.heap.size) (e := 5) (size := 1) w3 #[] 0 (Nat.le_refl _) (by unfold maxLen; omega) rfl
        have hR0 := Lib.hid (Reads.alloc (hy2.out.later hbd3.out) (Nat.le_refl _) (.cells #[] 5))
        have l1 : 0 + l.length ≤ maxLen := by unfold maxLen; omega
        have l2 : (0 + l.length) * 1 ≤ 140737488355328 := by omega
        have hB0 := m1 w3 (.cells #[] 5)
        go_wp2_with (at_builtin; (refine wpList_append_any _ rfl (.tmp 47) (.tmp 48) 31 rfl w3.heap.size 5 i0 (.int .u8 0) 1 1 Try.underlying31 hi hz0 hz1 hz2 rfl (by decide) _ 0 [] rfl hO0 w3.heap.size (some ad) l.length c (bcells l) rfl hR0.out (bcells_one _) l1 l2 (by simp) ?_; intro v' w4 hO4 hgrow _; have hB4 := bbelow_grown hB0 (Nat.le_refl _) hO0 hgrow; clear hgrow; rw [Nat.zero_add, List.nil_append] at hO4; obtain ⟨A4, c4, rfl, hc4, _⟩ := bslice_of hO4; obtain ⟨g, rfl, hg, hfz, ⟨u4, hcell4⟩, hset⟩ := own_set hO4 hK; have hadd : (⟨g, 0, none⟩ : Addr).add K = ⟨g, K, none⟩ := by unfold Addr.add; split <;> simp_all))
        refine (decode_no (some ⟨g, 0, none⟩) (l.set K d) l.length c4 _ (by simp) (set_byt hby.out K hd) (hset d) (by simpa using hc4) (by simp; omega) hT1.out).mono ?_
        rintro e w5 ⟨hb5, k5, rfl, hk5⟩
        have hB5 : Below w3.heap.size w3 (w5.alloc (.cells zCells 27)) := mmore (mmore (hB4.setCell (p := ⟨g, K, none⟩) hg _) hb5) (m1 w5 _)
        have hbd5 := mmore hbd3.out hB5
        have C2 := decode_no (some ad) (l.take K) K c _ (by rw [List.length_take]; omega) (hby.out.take K) ((hy2.out.later hbd5).pre (by omega)) (by rw [List.length_take]; omega) (by rw [List.length_take]; omega) hT2.out
        have hB5' := Lib.hid (mmore hB3.out hB5)
        replace C2 := Lib.hid C2
        replace hbd5 := Lib.hid hbd5
        clear hB5 hb5 hset hcell4 hfz hO4 hB4 hO0 hR0 hB0 hT1 hT2 hB3
        have K2 : (K : Int) ≤ (c : Int) := by omega
        unfold zT
        go_wp2_with fail
        refine C2.out.mono ?_; rintro e w6 ⟨hb6, k6, rfl, hk6⟩
        have hm6 := m1 w6 (.cells zCells 27)
        have hbd6 := Lib.hid (mmore (mmore hbd5.out hb6) hm6)
        have hB6 := Lib.hid (mmore (mmore hB5'.out hb6) hm6)
        clear hb6 hm6 C2 hbd5 hB5'
        unfold zT
        have hO0 := World.ownsRow_lit (base := (w6.alloc (.cells zCells 27)).heap.size) (e := 5) (size := 1) (w6.alloc (.cells zCells 27)) #[] 0 (Nat.le_refl _) (by unfold maxLen; omega) rfl
        have hR0 := Lib.hid (Reads.alloc (hy2.out.later hbd6.out) (Nat.le_refl _) (.cells #[] 5))
        have e9 : (w6.alloc (.cells zCells 27)).heap.size = w6.heap.size + 1 := by simp
        rw [e9] at hO0 hR0
        have hB0 := m1 (w6.alloc (.cells zCells 27)) (.cells #[] 5)
        have l3 : l.length + 1 ≤ maxLen := by unfold maxLen; omega
        have l4 : (l.length + 1) * 1 ≤ 140737488355328 := by omega
        go_wp2_with (at_builtin; first
          | (refine wpList_append_any _ rfl (.tmp 67) (.tmp 68) 31 rfl (w6.heap.size + 1) 5 i0 (.int .u8 0) 1 1 Try.underlying31 hi hz0 hz1 hz2 rfl (by decide) _ 0 [] rfl hO0 (w6.heap.size + 1) (some ad) l.length c (bcells l) rfl hR0.out (bcells_one _) l1 l2 (by simp) ?_; intro v' w8 hO8 hgrow _; have hB8 := bbelow_grown hB0 (Nat.le_of_eq e9) hO0 hgrow; clear hgrow; rw [Nat.zero_add, List.nil_append] at hO8; have hR8 := Lib.hid (reads_lit w8 [d] 1 rfl #[Value.int IntKind.u8 (d : Int)] rfl); have hO9 := Lib.hid (mown_below hO8 (m1 w8 (.cells #[Value.int IntKind.u8 (d : Int)] 5))); have hB9 := Lib.hid (mmore hB8 (m1 w8 (.cells #[Value.int IntKind.u8 (d : Int)] 5))); have hz8 := hB8.size; obtain ⟨A8, c8, rfl, _, _⟩ := bslice_of hO8; clear hO8 hB8)
          | (refine wpList_append_any _ rfl (.tmp 69) (.tmp 71) 31 rfl (w6.heap.size + 1) 5 i0 (.int .u8 0) 1 1 Try.underlying31 hi hz0 hz1 hz2 rfl (by decide) _ l.length (bcells l) rfl hO9.out (w8.heap.size + 1) (some ⟨w8.heap.size, 0, none⟩) 1 1 (bcells [d]) rfl hR8.out (bcells_one _) l3 l4 (by simp; omega) ?_; intro v' w10 hO10 hgrow _; have hB10 := Lib.hid (bbelow_grown hB9.out (Nat.le_of_eq e9) hO9.out hgrow); clear hgrow; obtain ⟨A10, c10, rfl, hc10, _⟩ := bslice_of hO10; rw [← bcells_append] at hO10; have hy10 := (Bys.of_own hO10).2))
        refine (decode_no A10 (l ++ [d]) (l.length + 1) c10 w10 (by simp) (fun z hz => (List.mem_append.1 hz).elim (hby.out z) (fun h => by simp at h; omega)) hy10 (by simpa using hc10) (by simp; omega) hT3.out).mono ?_
        rintro e w11 ⟨hb11, k11, rfl, hk11⟩
        have hBf := Lib.hid (mmore (mmore hB6.out (mmore hB10.out hb11)) (m1 w11 (.cells zCells 27)))
        clear hB0 hO0 hR0 hB9 hO9 hR8 hO10 hy10 hB10 hb11 hB6 hbd6
        unfold zT
        go_wp2
        go_ret
        exact ⟨rfl, hBf.out⟩

set_option maxRecDepth 100000 in
theorem lifted (os : Os) (started : os.Started) (H : Type) (enc : TypeId × Value → H) :
    ReturnsInHanded {} Try.checked os 7 .any (Rows.imageTurnsSpec.pre6 enc Try.prog Try.f7 Rows.imageTurnsRow.domain false) (Rows.imageTurnsSpec.post enc Try.prog Try.f7 false true false false) := by
  refine returnsInHanded_of_change (C := Try.checked) own started (by kernel_rfl) Try.func7
    (ChangeSpec.witness6 (enc := enc) (C := Try.checked) false ⟨#[], #[.agg #[.int .i64 0, .slice none 0 0, .slice none 0 0, .int .i64 0, .int .i64 0, .int .i64 0, .slice none 0 0, .slice none 0 0], .int .i64 0, .int .u8 0], []⟩ 8 (by kernel_rfl) (by kernel_rfl) (by kernel_rfl) (by kernel_rfl)) ?_
  intro W base args ds gs before hval0 hW hcnd _
  have hval : ∀ (j : Nat) t v, Try.f7.params[j]? = some t → args[j]? = some v → Value.okWide Try.prog W .any base t v := hval0
  have hW' := hW
  obtain ⟨p, q, hA0, hV, rfl, hfz, hnd⟩ := hW
  have hA : DataW.TrodAll enc Try.prog W 0 (fun _ => true) true Try.f7.params.toList args.toList ds p := hA0
  rw [Try.params7] at hA hval
  obtain ⟨v0, vs0, d0, ds0, p0, q0, hargs, rfl, rfl, h0, r0⟩ := trodAll_cons hA
  obtain ⟨v1, vs1, d1, ds1, p1, q1, rfl, rfl, rfl, h1, r1⟩ := trodAll_cons r0
  obtain ⟨v2, vs2, d2, ds2, p2, q2, rfl, rfl, rfl, h2, r2⟩ := trodAll_cons r1
  obtain ⟨rfl, rfl, rfl⟩ := trodAll_nil r2
  obtain rfl : args = #[v0, v1, v2] := by cases args; simp_all
  obtain ⟨rfl, rfl⟩ := trodVars_none hV
  have kk0 := h0
  have lt0 : ∀ x ∈ p0, x.block < W.heap.size := by obtain ⟨m, hm⟩ := kk0; exact DataW.trod_lt m _ _ _ hm
  have kk1 := h1
  have lt1 : ∀ x ∈ p1, x.block < W.heap.size := by obtain ⟨m, hm⟩ := kk1; exact DataW.trod_lt m _ _ _ hm
  have kk2 := h2
  have lt2 : ∀ x ∈ p2, x.block < W.heap.size := by obtain ⟨m, hm⟩ := kk2; exact DataW.trod_lt m _ _ _ hm
  obtain ⟨z0, A1, n1, c1, A2, n2, c2, z3, z4, z5, A6, n6, c6, A7, n7, c7, x, rfl, hT⟩ := open_table (hval 0 27 v0 rfl rfl) h0
  obtain ⟨a1, rfl, rfl, rfl, w1⟩ := open_int Try.underlying3 (hval 1 3 v1 rfl rfl) h1
  obtain ⟨a2, rfl, rfl, rfl, w2⟩ := open_int Try.underlying5 (hval 2 5 v2 rfl rfl) h2
  clear hA0 hval0
  refine (walk W z0 A1 n1 c1 A2 n2 c2 z3 z4 z5 A6 n6 c6 A7 n7 c7 x hT a1 w1 a2 w2).mono fun e W' ⟨he, bel⟩ => ?_
  subst he
  exact ⟨_, rfl, _, _, _, [], _, [], hW', trodAll_mk1 (shut_bool Try.underlying4 _), (trodAll_cons_mk (Below.trod laidOut (by kernel_rfl) (of_decide_eq_true (by kernel_rfl)) kk0 bel lt0) (trodAll_cons_mk (Below.trod laidOut (by kernel_rfl) (of_decide_eq_true (by kernel_rfl)) kk1 bel lt1) (trodAll_cons_mk (Below.trod laidOut (by kernel_rfl) (of_decide_eq_true (by kernel_rfl)) kk2 bel lt2) trodAll_mk0))), rfl, bel.frame _, fun h => by cases h⟩

theorem over : Rows.imageTurnsRow.holds Try.pinned (OpenSpec.ofChange Rows.imageTurnsSpec) :=
  OpenClaim.holds_of_wide 7 Try.f7 rfl rfl rfl rfl rfl rfl rfl ⟨rfl, rfl, rfl, rfl, rfl⟩ rfl rfl rfl rfl rfl (by kernel_rfl) Try.func7 (by kernel_rfl)
    (of_decide_eq_true (by kernel_rfl)) (by unfold Func.isWrapper; first | (rw [if_pos (by decide +kernel)]; kernel_rfl) | (rw [if_neg (by decide +kernel)]; exact ⟨rfl, rfl⟩))
    (fun os started H enc _ => lifted os started H enc)

/-- the statement -/
theorem proved : Rows.ImageTurnsSaid :=
  over
#print axioms proved
end Go.Proofs.Ytcchbbnlcilanaa.imageTurns
