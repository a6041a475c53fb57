/- The line of the chapter's example, as a contract. -/
import Derived.Test.YtkmlbifhpkfinaaGreatDoorEvW
import Derived.Test.YtkmlbifhpkfinaaGreatDoorShelf
import Derived.Lib.AppendIntMem
namespace Go.Proofs.YtkmlbifhpkfinaaGreatDoor
open Go.ChangeShapes Go.WideShapes Go.ChangeAt Go.RowKit Go.Fl
set_option linter.unusedVariables false
set_option linter.unusedSimpArgs false

def awTs : List ST := [(⟨#[66, 117, 121]⟩, [(⟨#[119, 104, 111]⟩, 3), (⟨#[110]⟩, 1)])]
def awSs : List ByteArray := [⟨#[97, 110, 110]⟩]
def awVs : List (Int × Nat) := [(3, 0), (1, 18446744073709551614)]
def awWs : List ByteArray := [⟨#[66, 117, 121]⟩, ⟨#[51]⟩, ⟨#[39, 97, 110, 110]⟩, ⟨#[45, 50]⟩]

theorem nm_buy : NameP ⟨#[66, 117, 121]⟩ := by
  refine ⟨by decide, by decide, fun h => (by decide : letC (66 : Int) = true), fun i h => ?_, ?_⟩
  · match i, h with
    | 0, _ => exact (by decide : okC (66 : Int) = true)
    | 1, _ => exact (by decide : okC (117 : Int) = true)
    | 2, _ => exact (by decide : okC (121 : Int) = true)
    | i + 3, h => exact absurd h (by show ¬ i + 3 < 3; omega)
  · simp [wordB, wordL, ByteArray.toList_eq]
theorem nm_who : NameP ⟨#[119, 104, 111]⟩ := by
  refine ⟨by decide, by decide, fun h => (by decide : letC (119 : Int) = true), fun i h => ?_, ?_⟩
  · match i, h with
    | 0, _ => exact (by decide : okC (119 : Int) = true)
    | 1, _ => exact (by decide : okC (104 : Int) = true)
    | 2, _ => exact (by decide : okC (111 : Int) = true)
    | i + 3, h => exact absurd h (by show ¬ i + 3 < 3; omega)
  · simp [wordB, wordL, ByteArray.toList_eq]
theorem nm_n : NameP ⟨#[110]⟩ := by
  refine ⟨by decide, by decide, fun h => (by decide : letC (110 : Int) = true), fun i h => ?_, ?_⟩
  · match i, h with
    | 0, _ => exact (by decide : okC (110 : Int) = true)
    | i + 1, h => exact absurd h (by show ¬ i + 1 < 1; omega)
  · simp [wordB, wordL, ByteArray.toList_eq]
theorem nm_ann : NameP ⟨#[97, 110, 110]⟩ := by
  refine ⟨by decide, by decide, fun h => (by decide : letC (97 : Int) = true), fun i h => ?_, ?_⟩
  · match i, h with
    | 0, _ => exact (by decide : okC (97 : Int) = true)
    | 1, _ => exact (by decide : okC (110 : Int) = true)
    | 2, _ => exact (by decide : okC (110 : Int) = true)
    | i + 3, h => exact absurd h (by show ¬ i + 3 < 3; omega)
  · simp [wordB, wordL, ByteArray.toList_eq]
theorem dist_one {x : ByteArray} (h : NameP x) : DistinctP [x] := by
  intro i y hy
  match i, hy with
  | 0, hy => simp at hy; subst hy; exact ⟨h, fun j z hj => absurd hj (by omega)⟩
theorem dist_two {x y : ByteArray} (h : NameP x) (h' : NameP y) (hn : (x.toList == y.toList) = false) : DistinctP [x, y] := by
  intro i z hz
  match i, hz with
  | 0, hz => simp at hz; subst hz; exact ⟨h, fun j z hj => absurd hj (by omega)⟩
  | 1, hz =>
    simp at hz
    subst hz
    refine ⟨h', fun j u hj hu => ?_⟩
    obtain rfl : j = 0 := by omega
    simp at hu
    subst hu
    exact hn
theorem aw_check : CheckIs awTs awSs 0 := by
  refine .inr (.inr (.inr ⟨?_, ⟨?_, ?_, ?_⟩, ?_, rfl⟩))
  · rintro (h | h | ⟨i, t, hi, h⟩)
    · exact absurd h (by decide)
    · exact absurd h (by decide)
    · match i, hi with
      | 0, hi => simp [awTs] at hi; subst hi; exact absurd h (by decide)
  · intro i t hi
    match i, hi with
    | 0, hi => simp [awTs] at hi; subst hi; exact dist_two nm_who nm_n (by simp [ByteArray.toList_eq])
  · exact dist_one nm_buy
  · exact dist_one nm_ann
  · intro i t hi j f hf
    match i, hi with
    | 0, hi =>
      simp [awTs] at hi
      subst hi
      match j, hf with
      | 0, hf => simp at hf; subst hf; decide
      | 1, hf => simp at hf; subst hf; decide
theorem aw_ok : EvOk awTs awSs 0 3 awVs := by
  refine ⟨aw_check, by decide, by decide, 0, [3, 1], rfl, rfl, rfl, fun i v x hv hx => ?_⟩
  match i, hv, hx with
  | 0, hv, hx => simp [awVs] at hv hx; subst hv hx; exact ⟨rfl, by simp [clK], by simp [clB], fun _ => by decide⟩
  | 1, hv, hx => simp [awVs] at hv hx; subst hv hx; exact ⟨rfl, by simp [clK], by simp [clB], fun h => by simp at h⟩

theorem fmt_three (w : World) : Calls Tryz.prog 17 #[.int .i64 3, .int .i64 10] w fun e w' => e = .returned (.string ⟨#[51]⟩) ∧ w' = w := by
  have h := Tryz.strconv_FormatInt_10_small 3 (by decide) w
  have e : (⟨(Lib.decDigits 3).toArray⟩ : ByteArray) = ⟨#[51]⟩ := by rw [Lib.decDigits]; rfl
  rw [e] at h
  exact h
theorem fmt_minus (w : World) (htab : Lib.TabIs Tryz.prog w "internal/strconv.uint64pow10" .u64 Lib.pow10Tab) : Calls Tryz.prog 17 #[.int .i64 (-2), .int .i64 10] w fun e w' => e = .returned (.string ⟨#[45, 50]⟩) ∧ Below w.heap.size w w' := by
  have e : (⟨(Lib.itoa (-2)).toArray⟩ : ByteArray) = ⟨#[45, 50]⟩ := by
    unfold Lib.itoa
    rw [if_pos (by decide), Lib.decDigits]
    rfl
  refine (Tryz.strconv_FormatInt_10 (-2) (by decide) (by decide) w htab).mono ?_
  rintro e' w' ⟨rfl, k, os, rfl⟩
  rw [e]
  exact ⟨rfl, Lib.below_grow _ _ (Nat.le_refl _) k os⟩

set_option maxHeartbeats 4000000 in
theorem word_sym (v1 : Value) (C : Option Addr) (capC : Nat) (w : World) (hS : SymsAt w C awSs) :
    Calls Tryz.prog 18 #[.agg #[v1, .slice C awSs.length capC], .agg #[.int .i64 3, .int .u64 0]] w fun e w' => e = .returned (.string ⟨#[39, 97, 110, 110]⟩) ∧ Below w.heap.size w w' := by
  obtain ⟨b, off, rfl, hc⟩ := hS (by decide)
  have q0 := hc 0 ⟨#[97, 110, 110]⟩ rfl
  clear hc
  have hl : awSs.length = 1 := rfl
  rw [hl]
  simp only [Nat.add_zero] at q0
  have q0l := mblock q0
  go_enter Tryz.func18, Tryz.ntmps18
  go_wp2
  go_ret
  exact ⟨rfl, m2 _ _ _⟩
set_option maxHeartbeats 4000000 in
theorem word_int (v1 v2 : Value) (w : World) (htab : Lib.TabIs Tryz.prog w "internal/strconv.uint64pow10" .u64 Lib.pow10Tab) :
    Calls Tryz.prog 18 #[.agg #[v1, v2], .agg #[.int .i64 1, .int .u64 18446744073709551614]] w fun e w' => e = .returned (.string ⟨#[45, 50]⟩) ∧ Below w.heap.size w w' := by
  go_enter Tryz.func18, Tryz.ntmps18
  go_wp2_with fail
  have hu := m2 w (.cells #[v1, v2] 31) (.cells #[.int .i64 1, .int .u64 18446744073709551614] 61)
  rw [show wrap64 18446744073709551614 = -2 by unfold wrap64; omega]
  refine (fmt_minus _ (Lib.tabBelow_of_tabIs htab _ hu)).mono ?_; rintro e w1 ⟨rfl, hb⟩
  go_wp2
  go_ret
  exact ⟨rfl, mmore hu hb⟩
theorem aw_word (k : Nat) (hk : k < 2) (vk : Int) (vb : Nat) (x : ByteArray) (hv : awVs[k]? = some (vk, vb)) (hx : awWs[2 + k]? = some x) (v1 : Value) (C : Option Addr) (capC : Nat) (w : World) (hS : SymsAt w C awSs) (htab : Lib.TabIs Tryz.prog w "internal/strconv.uint64pow10" .u64 Lib.pow10Tab) :
    Calls Tryz.prog 18 #[.agg #[v1, .slice C awSs.length capC], .agg #[.int .i64 vk, .int .u64 (vb : Int)]] w fun e w' => e = .returned (.string x) ∧ Below w.heap.size w w' := by
  match k, hk with
  | 0, _ =>
    simp [awVs] at hv
    obtain ⟨rfl, rfl⟩ := hv
    simp [awWs] at hx
    subst hx
    exact word_sym v1 C capC w hS
  | 1, _ =>
    simp [awVs] at hv
    obtain ⟨rfl, rfl⟩ := hv
    simp [awWs] at hx
    subst hx
    exact word_int v1 _ w htab
theorem own_pair (w : World) (t : TypeId) (x y : ByteArray) : (w.alloc (.cells #[.string x, .string y] t)).ownsRow w.heap.size t 1 (.slice (some ⟨w.heap.size, 0, none⟩) 2 2) 2 (scells [x, y]) :=
  ⟨rfl, .inr ⟨w.heap.size, 2, #[.string x, .string y], rfl, Nat.le_refl _, heap_alloc_new w _, Nat.le_refl _, by unfold maxLen; omega, rfl, rfl⟩⟩
theorem ws_snoc (k : Nat) (x : ByteArray) (hx : awWs[2 + k]? = some x) : scells (awWs.take (2 + (k + 1))) = scells (awWs.take (2 + k)) ++ [.string x] := by
  rw [show 2 + (k + 1) = (2 + k) + 1 by omega, List.take_add_one, hx]
  simp [scells]

set_option maxHeartbeats 8000000 in
set_option maxRecDepth 100000 in
theorem line_lit (A C B : Option Addr) (cap capC capB : Nat) (w : World) (hT : TypesAt w A awTs) (hS : SymsAt w C awSs) (hv : RowV w B awVs.length awVs) (hc1 : awSs.length ≤ capC) (hc2 : capC ≤ maxLen) (htab : Lib.TabIs Tryz.prog w "internal/strconv.uint64pow10" .u64 Lib.pow10Tab) :
    Calls Tryz.prog 7 #[.agg #[.slice A awTs.length cap, .slice C awSs.length capC], .agg #[.int .i64 0, .int .i64 3, .slice B awVs.length capB]] w fun e w' => e = .returned (.string ⟨#[66, 117, 121, 32, 51, 32, 39, 97, 110, 110, 32, 45, 50]⟩) ∧ Below w.heap.size w w' := by
  obtain ⟨i0, hi, hz0, hz1, hz2⟩ := info_parts infoStr
  have hu := m2 w (.cells #[.slice A awTs.length cap, .slice C awSs.length capC] 31) (.cells #[.int .i64 0, .int .i64 3, .slice B awVs.length capB] 36)
  have k0 : Blk ((w.alloc (.cells #[.slice A awTs.length cap, .slice C awSs.length capC] 31)).alloc (.cells #[.int .i64 0, .int .i64 3, .slice B awVs.length capB] 36)) w.heap.size 31 #[.slice A awTs.length cap, .slice C awSs.length capC] := (Blk.made _ _ _).kept (m1 _ _)
  have k1 : Blk ((w.alloc (.cells #[.slice A awTs.length cap, .slice C awSs.length capC] 31)).alloc (.cells #[.int .i64 0, .int .i64 3, .slice B awVs.length capB] 36)) (w.heap.size + 1) 36 #[.int .i64 0, .int .i64 3, .slice B awVs.length capB] := by
    have := Blk.made (w.alloc (.cells #[.slice A awTs.length cap, .slice C awSs.length capC] 31)) 36 #[.int .i64 0, .int .i64 3, .slice B awVs.length capB]
    simpa using this
  have tab := Lib.hid (Lib.tabBelow_of_tabIs htab)
  have hTu := hT.later hu
  have hSu := hS.later hu
  have hVu := hv.later hu
  clear hT hS hv htab
  have okE := Lib.hid aw_ok
  go_enter Tryz.func7, Tryz.ntmps7
  go_wp2_with fail
  generalize (w.alloc (.cells #[.slice A awTs.length cap, .slice C awSs.length capC] 31)).alloc (.cells #[.int .i64 0, .int .i64 3, .slice B awVs.length capB] 36) = u at *
  refine (evalid_any A C B cap capC capB awTs awSs 0 3 awVs u hTu hSu hVu (by decide) (by decide) hc1 hc2 (by decide)).mono ?_; rintro e w1 ⟨q, rfl, hq, hb1⟩
  obtain rfl : q = true := hq.2 okE.out
  have hB1 := mmore hu hb1
  have j0 := k0.kept hb1
  have j1 := k1.kept hb1
  have hT1 := hTu.later hb1
  have hS1 := hSu.later hb1
  have hV1 := hVu.later hb1
  obtain ⟨tb, toff, rfl, htc⟩ := hT1 (by decide)
  obtain ⟨tu, t0, _, _⟩ := htc 0 _ rfl
  simp only [Nat.zero_mul, Nat.add_zero] at t0
  have d0 : w1.cell? ⟨w.heap.size, 0, none⟩ = some (.slice (some ⟨tb, toff, none⟩) awTs.length cap) := j0.cell 0
  have d1 : w1.cell? ⟨w.heap.size, 1, none⟩ = some (.slice C awSs.length capC) := j0.cell 1
  have d2 : w1.cell? ⟨w.heap.size + 1, 0, none⟩ = some (.int .i64 0) := j1.cell 0
  have d3 : w1.cell? ⟨w.heap.size + 1, 1, none⟩ = some (.int .i64 3) := j1.cell 1
  have d4 : w1.cell? ⟨w.heap.size + 1, 2, none⟩ = some (.slice B awVs.length capB) := j1.cell 2
  have F3 := Lib.hid fmt_three
  have hla : awTs.length = 1 := rfl
  replace hS1 := Lib.hid hS1
  replace hV1 := Lib.hid hV1
  clear hq hb1 j0 j1 k0 k1 hTu hSu hVu hu htc
  go_upto_region 3 with (fail)
  go_cut [5] from 12 to 22 (fun v w' => ∃ g, v = .slice (some ⟨g, 0, none⟩) 2 2 ∧ w'.ownsRow w1.heap.size 9 1 v 2 (scells (awWs.take 2)) ∧ Below w1.heap.size w1 w')
  case first =>
    have OP := own_pair w1.drew 9 ⟨#[66, 117, 121]⟩ ⟨#[51]⟩
    have BP := (m1 w1 (.cells #[.string ⟨#[66, 117, 121]⟩, .string ⟨#[51]⟩] 9)).drew
    replace OP := Lib.hid OP
    replace BP := Lib.hid BP
    go_region_with (go_at_call 17; refine (F3.out _).mono ?_; rintro e w2 ⟨rfl, rfl⟩)
    all_goals (go_wp2_with fail; go_meet; exact ⟨_, rfl, OP.out, BP.out⟩)
  case rest =>
    obtain ⟨g5, rfl, hO, hB5⟩ := hcut
    have hlv := Lib.hid (show awVs.length = 2 from rfl)
    have hlw : awWs.length = 4 := rfl
    have x2 := cell_later hB5 d4
    clear d2 d3 t0 F3
    go_wp2_with fail
    go_loopw [5, 26] (fun v i wr => ∃ k : Nat, k ≤ 2 ∧ i = .int .i64 (k : Int) ∧ wr.ownsRow w1.heap.size 9 1 v (2 + k) (scells (awWs.take (2 + k))) ∧ Below w1.heap.size w1 wr) (fun _ i _ => 2 - (intOf i).toNat)
    case atStart => exact ⟨0, by omega, rfl, hO, hB5⟩
    case round =>
      obtain ⟨k, hk, rfl, hO, hB⟩ := hrel
      clear x2
      by_cases hlt : k < 2
      · obtain ⟨b, off, rfl, hvc⟩ := hV1.out.2.2 (by have := hlv.out; omega)
        have hvk : awVs[k]? = some ((awVs[k]'(by have := hlv.out; omega)).1, (awVs[k]'(by have := hlv.out; omega)).2) := List.getElem?_eq_getElem (by have := hlv.out; omega)
        have hxk : awWs[2 + k]? = some (awWs[2 + k]'(by omega)) := List.getElem?_eq_getElem (by omega)
        obtain ⟨q0, q1⟩ := hvc k _ _ hvk
        have CW := fun v1 cap w hS ht => aw_word k hlt _ _ _ hvk hxk v1 C cap w hS ht
        have SN := Lib.hid (ws_snoc k _ hxk)
        generalize (awVs[k]'(by have := hlv.out; omega)).1 = vk at *
        generalize (awVs[k]'(by have := hlv.out; omega)).2 = vb at *
        generalize awWs[2 + k]'(by omega) = x at *
        have q0 := cell_later hB q0
        have q1 := cell_later hB q1
        have e0 := cell_later hB d0
        have e1 := cell_later hB d1
        have kl1 : (k : Int) < ((awVs.length : Nat) : Int) := by have := hlv.out; omega
        replace CW := Lib.hid CW
        have hs0 := hB.size
        have n1 : ¬ w.heap.size = wr.heap.size := Nat.ne_of_lt (mblock e0)
        have n2 : ¬ wr.heap.size = w.heap.size := fun e => n1 e.symm
        clear hvc hvk hxk
        go_upto_region 7 with (fail)
        have hw8 := m1 wr (.cells #[.int .i64 vk, .int .u64 (vb : Int)] 61)
        have hB8 := mmore hB hw8
        have hO8 := mown_below hO hw8
        have BB := mmore hB1 hB8
        have g0 : (wr.alloc (.cells #[.int .i64 vk, .int .u64 (vb : Int)] 61)).cell? ⟨wr.heap.size, 0, none⟩ = some (.int .i64 vk) := by simp [go_sem]
        have g1 : (wr.alloc (.cells #[.int .i64 vk, .int .u64 (vb : Int)] 61)).cell? ⟨wr.heap.size, 1, none⟩ = some (.int .u64 (vb : Int)) := by simp [go_sem]
        have e0 := cell_later hw8 e0
        have e1 := cell_later hw8 e1
        clear n1 n2 q0 q1
        generalize wr.heap.size = g8 at *
        generalize wr.alloc (.cells #[.int .i64 vk, .int .u64 (vb : Int)] 61) = wz at *
        go_wp2_with fail
        refine (CW.out _ capC wz (hS1.out.later hB8) (tab.out wz BB)).mono ?_; rintro e w3 ⟨rfl, hb3⟩
        have hB9 := mmore hB8 hb3
        have hO9 := mown_below hO8 hb3
        have hs9 := hB9.size
        clear hO hO8 hB hB8 hw8 hb3 e0 e1 BB g0 g1
        go_wp2_with (at_builtin; refine wpList_append_own _ rfl (.tmp 30) (.tmp 34) 23 rfl w1.heap.size 9 i0 (.string ⟨#[]⟩) 1 16 Tryz.underlying23 hi hz0 hz1 hz2 rfl (by decide) u5 (2 + k) (scells (awWs.take (2 + k))) rfl (hO9.alloc _) ⟨w3.heap.size, 0, none⟩ 1 1 [.string x] rfl rfl ?c1 ?c2 ?c3 ?c4 ?c5 ?_)
        case c1 =>
          intro j u hj
          match j, hj with
          | 0, hj => simp at hj; subst hj; simp [Addr.add]
        case c2 => first | trivial | (intro u hu; simp at hu; subst hu; rfl)
        case c3 => unfold maxLen; omega
        case c4 => omega
        case c5 => first | omega | (simp; omega)
        intro v' w4 hO4 hgrow _
        rw [← SN.out] at hO4
        have hB4 : Below w1.heap.size w1 w4 := (hB9.alloc hs9 _).grown hgrow (by simp; omega) (fun g hg => (hO9.lt g hg).1)
        clear hO9 hgrow hB9
        go_wp2
        go_roundw
        case rel => exact ⟨k + 1, by omega, by go_num, hO4, hB4⟩
        case measure => simp [intOf]; omega
      · obtain rfl : k = 2 := by omega
        have kl1 : ¬ ((2 : Nat) : Int) < ((awVs.length : Nat) : Int) := by have := hlv.out; omega
        obtain ⟨A', cap', e, h1, h2, hx⟩ := syms_slice (own_scells (ss := awWs) hO)
        subst e
        obtain ⟨bk, o, rfl, hc⟩ := hx (by decide)
        have hbk := mblock (hc 0 _ rfl)
        have CJ := Tryz.strings_Join bk o cap' awWs ⟨#[32]⟩ wr hc hbk (by decide) h1 (by decide)
        have ej : (⟨(Lib.join (awWs.map (·.data.toList)) (⟨#[32]⟩ : ByteArray).data.toList).toArray⟩ : ByteArray) = ⟨#[66, 117, 121, 32, 51, 32, 39, 97, 110, 110, 32, 45, 50]⟩ := by decide
        rw [ej] at CJ
        replace CJ := Lib.hid CJ
        clear hO hc
        go_wp2_with fail
        refine CJ.out.mono ?_; rintro e w3 ⟨rfl, hb3⟩
        have hB9 := mmore hB1 (mmore hB hb3)
        go_wp2
        go_ret
        exact ⟨rfl, hB9⟩
end Go.Proofs.YtkmlbifhpkfinaaGreatDoor
