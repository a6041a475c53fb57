/- event.word and event.Line, as contracts. -/
import Derived.Test.YtkmlbifhpkfinaaGreatDoorLnD
import Derived.Test.YtkmlbifhpkfinaaGreatDoorShelf
import Derived.Lib.AppendIntMem
namespace Go.Proofs.YtkmlbifhpkfinaaGreatDoor
open Go.ChangeShapes Go.WideShapes Go.ChangeAt Go.RowKit Go.Fl
set_option linter.unusedVariables false
set_option linter.unusedSimpArgs false

theorem fmtI_at (n : Int) (h0 : -9223372036854775808 ≤ n) (h1 : n ≤ 9223372036854775807) (w : World) (htab : Lib.TabIs Tryz.prog w "internal/strconv.uint64pow10" .u64 Lib.pow10Tab) :
    Calls Tryz.prog 17 #[.int .i64 n, .int .i64 10] w fun e w' => e = .returned (.string (bl (Lib.itoa n))) ∧ Below w.heap.size w w' := by
  refine (Tryz.strconv_FormatInt_10 n h0 h1 w htab).mono ?_
  rintro e' w' ⟨rfl, k, os, rfl⟩
  exact ⟨rfl, Lib.below_grow _ _ (Nat.le_refl _) k os⟩
theorem fb_false : (⟨(Lib.formatBool false).toArray⟩ : ByteArray) = bl falseB := by decide +kernel
theorem fb_true : (⟨(Lib.formatBool true).toArray⟩ : ByteArray) = bl trueB := by decide +kernel
theorem word_1 (ss : List ByteArray) (vb : Nat) : wordW ss (1, vb) = Lib.itoa (wrap64 (vb : Int)) := by unfold wordW; rw [if_pos rfl]
theorem word_20 (ss : List ByteArray) : wordW ss (2, 0) = falseB := by unfold wordW; rw [if_neg (by simp), if_pos rfl, if_neg (by simp)]
theorem word_21 (ss : List ByteArray) : wordW ss (2, 1) = trueB := by unfold wordW; rw [if_neg (by simp), if_pos rfl, if_pos rfl]
theorem word_4 (ss : List ByteArray) (vb : Nat) : wordW ss (4, vb) = textB (cn vb) := by unfold wordW; rw [if_neg (by simp), if_neg (by simp), if_neg (by simp)]
theorem quote_name (s : ByteArray) : (⟨#[39]⟩ : ByteArray) ++ s = bl (39 :: s.data.toList) := by
  apply ByteArray.ext
  apply Array.ext'
  simp [bl, ByteArray.toList_data_append]

set_option maxHeartbeats 4000000 in
set_option maxRecDepth 100000 in
theorem evword_any (v1 : Value) (C : Option Addr) (capC : Nat) (ts : List ST) (ss : List ByteArray) (x : Int) (vk : Int) (vb : Nat) (hv : ValP (ss.length : Int) x (vk, vb)) (hx : 1 ≤ x ∧ x ≤ 4) (hb : vb < 18446744073709551616) (hok : CheckIs ts ss 0) (w : World) (hS : SymsAt w C ss) (hT : TzCell w) (htab : Lib.TabIs Tryz.prog w "internal/strconv.uint64pow10" .u64 Lib.pow10Tab) :
    Calls Tryz.prog 18 #[.agg #[v1, .slice C ss.length capC], .agg #[.int .i64 vk, .int .u64 (vb : Int)]] w fun e w' => e = .returned (.string (bl (wordW ss (vk, vb)))) ∧ Below w.heap.size w w' := by
  have hu := m2 w (.cells #[v1, .slice C ss.length capC] 31) (.cells #[.int .i64 vk, .int .u64 (vb : Int)] 61)
  have htu := Lib.hid (Lib.tabBelow_of_tabIs htab _ hu)
  have hTu := Lib.hid (hT.later hu)
  have hSu := Lib.hid (hS.later hu)
  obtain ⟨hk, h1, h2, h3⟩ := hv
  have hk : vk = x := hk
  have h1 : clK vk vb = vk := h1
  have h2 : clB vk vb = vb := h2
  have h3 : vk = 3 → (vb : Int) < ss.length := h3
  subst hk
  clear htab hT hS
  by_cases c1 : vk = 1
  · subst c1
    have hw := word_1 ss vb
    rw [hw]
    have hr := wrap64_range (vb : Int)
    clear h1 h2 h3 hw
    go_enter Tryz.func18, Tryz.ntmps18
    go_wp2_with fail
    refine (fmtI_at _ hr.1 hr.2 _ htu.out).mono ?_; rintro e w1 ⟨rfl, hb1⟩
    go_wp2
    go_ret
    exact ⟨rfl, mmore hu hb1⟩
  · by_cases c2 : vk = 2
    · subst c2
      have e2 := clB_bool h1 rfl
      have FB := fun b w => Tryz.strconv_FormatBool b w
      replace FB := Lib.hid FB
      clear h1 h2 h3
      rcases e2 with rfl | rfl
      · have hw : bl (wordW ss (2, 0)) = ⟨(Lib.formatBool false).toArray⟩ := by rw [word_20, fb_false]
        rw [hw]
        go_enter Tryz.func18, Tryz.ntmps18
        go_wp2_with fail
        refine (FB.out false _).mono ?_; rintro e w1 ⟨rfl, rfl⟩
        go_wp2
        go_ret
        exact ⟨rfl, hu⟩
      · have hw : bl (wordW ss (2, 1)) = ⟨(Lib.formatBool true).toArray⟩ := by rw [word_21, fb_true]
        rw [hw]
        go_enter Tryz.func18, Tryz.ntmps18
        go_wp2_with fail
        refine (FB.out true _).mono ?_; rintro e w1 ⟨rfl, rfl⟩
        go_wp2
        go_ret
        exact ⟨rfl, hu⟩
    · by_cases c3 : vk = 3
      · subst c3
        have hlt : vb < ss.length := by have := h3 rfl; omega
        obtain ⟨b, off, rfl, hc⟩ := hSu.out (by omega)
        have hsv : ss[vb]? = some ss[vb] := List.getElem?_eq_getElem hlt
        have q0 := hc vb _ hsv
        have hnm := (ok_sym hok hlt).2.1
        have hw : bl (wordW ss (3, vb)) = (⟨#[39]⟩ : ByteArray) ++ ss[vb] := by
          rw [quote_name]
          unfold wordW
          rw [if_neg (by simp), if_neg (by simp), if_pos rfl]
          simp only [hsv, Option.map_some, Option.getD_some]
        rw [hw]
        generalize ss[vb] = nm at *
        have l0 : (0 : Int) ≤ (vb : Int) := by omega
        have l1 : (vb : Int) < (ss.length : Int) := by omega
        have lq : ¬ 9223372036854775807 < 1 + nm.size := by omega
        have q0l := mblock q0
        clear hc hsv h1 h2 h3 hw
        go_enter Tryz.func18, Tryz.ntmps18
        go_wp2
        go_ret
        exact ⟨rfl, hu⟩
      · have c4 : vk = 4 := by omega
        subst c4
        have hw : bl (wordW ss (4, vb)) = ftOf vb := by rw [word_4]; rfl
        rw [hw]
        have TX := fun w h => text_any vb w hb h
        replace TX := Lib.hid TX
        clear h1 h2 h3 hw
        go_enter Tryz.func18, Tryz.ntmps18
        go_wp2_with fail
        refine (TX.out _ hTu.out).mono ?_; rintro e w1 ⟨rfl, hb1⟩
        go_wp2
        go_ret
        exact ⟨rfl, mmore hu hb1⟩

/-- what the line of an event is -/
def LineP (ts : List ST) (ss : List ByteArray) (ty tm : Int) (vs : List (Int × Nat)) (x : ByteArray) : Prop :=
  (EvOk ts ss ty tm vs → x = bl (lineB ts ss ty tm vs)) ∧ (¬ EvOk ts ss ty tm vs → x = ⟨#[]⟩)
def LineR (ts : List ST) (ss : List ByteArray) (ty tm : Int) (vs : List (Int × Nat)) (w : World) (e : Ending) (w' : World) : Prop :=
  ∃ x, e = .returned (.string x) ∧ LineP ts ss ty tm vs x ∧ Below w.heap.size w w'
theorem LineR.no {ts : List ST} {ss : List ByteArray} {ty tm : Int} {vs : List (Int × Nat)} {w w' : World} (h : ¬ EvOk ts ss ty tm vs) (hb : Below w.heap.size w w') : LineR ts ss ty tm vs w (.returned (.string ⟨#[]⟩)) w' :=
  ⟨_, rfl, ⟨fun h' => absurd h' h, fun _ => rfl⟩, hb⟩
theorem LineR.yes {ts : List ST} {ss : List ByteArray} {ty tm : Int} {vs : List (Int × Nat)} {w w' : World} (h : EvOk ts ss ty tm vs) (hb : Below w.heap.size w w') : LineR ts ss ty tm vs w (.returned (.string (bl (lineB ts ss ty tm vs)))) w' :=
  ⟨_, rfl, ⟨fun _ => rfl, fun h' => absurd h h'⟩, hb⟩
theorem own_pr (w : World) (t : TypeId) (x y : ByteArray) : (w.alloc (.cells #[.string x, .string y] t)).ownsRow w.heap.size t 1 (.slice (some ⟨w.heap.size, 0, none⟩) 2 2) 2 (scells [x, y]) :=
  ⟨rfl, .inr ⟨w.heap.size, 2, #[.string x, .string y], rfl, Nat.le_refl _, heap_alloc_new w _, Nat.le_refl _, by unfold maxLen; omega, rfl, rfl⟩⟩
theorem hexK_l16 (n : Nat) : (textB n).length ≤ 25 := by rw [textB_len]; decide
section
variable {ts : List ST} {ss : List ByteArray} {ty tm : Int} {vs : List (Int × Nat)}
theorem word_len (hc : CheckIs ts ss 0) {x : Int} {v : Int × Nat} (h : ValP (ss.length : Int) x v) : (wordW ss v).length ≤ 25 := by
  have hr := wrap64_range (v.2 : Int)
  unfold wordW
  split
  · have := Lib.itoa_length_le _ hr.1 hr.2; omega
  · split
    · split <;> decide
    · split
      · rename_i h3
        have hl := h.2.2.2 h3
        have hl2 : v.2 < ss.length := by omega
        rw [List.getElem?_eq_getElem hl2]
        have := (ok_sym hc hl2).2.1
        have e := list_len ss[v.2]
        simp
        omega
      · exact hexK_l16 _
theorem join_len : ∀ ws : List (List UInt8), (∀ a ∈ ws, a.length ≤ 25) → (joinW ws).length ≤ 26 * ws.length
  | [], _ => by simp [joinW_nil]
  | [a], h => by rw [joinW_one]; have := h a (by simp); simp; omega
  | a :: b :: r, h => by
    have h1 := h a (by simp)
    have h2 := join_len (b :: r) (fun c hc => h c (by simp at hc ⊢; right; exact hc))
    rw [joinW_cons]
    simp at h2 ⊢
    omega
theorem line_parts (h : EvOk ts ss ty tm vs) (hb : ∀ v ∈ vs, v.2 < 18446744073709551616) : ∃ (t : Nat) (x : ST), ty = (t : Int) ∧ ts[t]? = some x ∧ vs.length ≤ 8 ∧ lineW ts ss ty tm vs = x.1.data.toList :: Lib.itoa tm :: vs.map (wordW ss) ∧ (lineB ts ss ty tm vs).length ≤ 1000 := by
  obtain ⟨t, x, rfl, hx, h0, h1, hlen, hnm, h8, hv⟩ := ok_parts h
  have e : lineW ts ss (t : Int) tm vs = x.1.data.toList :: Lib.itoa tm :: vs.map (wordW ss) := by
    unfold lineW
    simp only [Int.toNat_natCast, hx, Option.map_some, Option.getD_some]
  refine ⟨t, x, rfl, hx, by omega, e, ?_⟩
  unfold lineB
  have := join_len (lineW ts ss (t : Int) tm vs) (fun a ha => by
    rw [e] at ha
    rcases List.mem_cons.1 ha with rfl | ha
    · have := hnm.2.1
      rw [list_len]
      omega
    · rcases List.mem_cons.1 ha with rfl | ha
      · have := Lib.itoa_length_le tm (by omega) (by omega)
        omega
      · obtain ⟨v, hv', rfl⟩ := List.mem_map.1 ha
        obtain ⟨i, hi, rfl⟩ := List.getElem_of_mem hv'
        exact word_len h.1 (hv i _ _ (List.getElem?_eq_getElem hi) (List.getElem?_eq_getElem (by omega))).1)
  have hl : (lineW ts ss (t : Int) tm vs).length = vs.length + 2 := by rw [e]; simp
  omega
/-- each value's word -/
theorem line_val (h : EvOk ts ss ty tm vs) {k : Nat} {v : Int × Nat} (hv : vs[k]? = some v) : ∃ x, ValP (ss.length : Int) x v ∧ 1 ≤ x ∧ x ≤ 4 := by
  obtain ⟨t, x, rfl, hx, h0, h1, hlen, hnm, h8, hV⟩ := ok_parts h
  have hk : k < vs.length := (List.getElem?_eq_some_iff.1 hv).1
  have hf : x.2[k]? = some x.2[k] := List.getElem?_eq_getElem (by omega)
  have := hV k v _ hv hf
  exact ⟨_, this.1, this.2⟩
end
theorem wsn_snoc (ss : List ByteArray) (a b : ByteArray) (vs : List (Int × Nat)) (k : Nat) (v : Int × Nat) (h : vs[k]? = some v) :
    scells (a :: b :: ((vs.map fun v => bl (wordW ss v)).take (k + 1))) = scells (a :: b :: ((vs.map fun v => bl (wordW ss v)).take k)) ++ [.string (bl (wordW ss v))] := by
  rw [List.take_add_one, List.getElem?_map, h]
  simp [scells]

set_option maxHeartbeats 8000000 in
set_option maxRecDepth 100000 in
theorem line_any (A C B : Option Addr) (cap capC capB : Nat) (ts : List ST) (ss : List ByteArray) (ty tm : Int) (vs : List (Int × Nat)) (w : World) (hA : TypesAt w A ts) (hS : SymsAt w C ss) (hv : RowV w B vs.length vs) (b1 : ts.length * 40 ≤ 140737488351232) (b2 : ∀ t ∈ ts, t.2.length * 24 ≤ 140737488351232) (hc1 : ss.length ≤ capC) (hc2 : capC ≤ maxLen) (hl : vs.length * 16 ≤ 140737488351232)
    (hT : TzCell w) (htab : Lib.TabIs Tryz.prog w "internal/strconv.uint64pow10" .u64 Lib.pow10Tab) :
    Calls Tryz.prog 7 #[.agg #[.slice A ts.length cap, .slice C ss.length capC], .agg #[.int .i64 ty, .int .i64 tm, .slice B vs.length capB]] w (LineR ts ss ty tm vs w) := by
  obtain ⟨i0, hi, hz0, hz1, hz2⟩ := info_parts infoStr
  have hu := m2 w (.cells #[.slice A ts.length cap, .slice C ss.length capC] 31) (.cells #[.int .i64 ty, .int .i64 tm, .slice B vs.length capB] 36)
  have k0 : Blk ((w.alloc (.cells #[.slice A ts.length cap, .slice C ss.length capC] 31)).alloc (.cells #[.int .i64 ty, .int .i64 tm, .slice B vs.length capB] 36)) w.heap.size 31 #[.slice A ts.length cap, .slice C ss.length capC] := (Blk.made _ _ _).kept (m1 _ _)
  have k1 : Blk ((w.alloc (.cells #[.slice A ts.length cap, .slice C ss.length capC] 31)).alloc (.cells #[.int .i64 ty, .int .i64 tm, .slice B vs.length capB] 36)) (w.heap.size + 1) 36 #[.int .i64 ty, .int .i64 tm, .slice B vs.length capB] := by
    have := Blk.made (w.alloc (.cells #[.slice A ts.length cap, .slice C ss.length capC] 31)) 36 #[.int .i64 ty, .int .i64 tm, .slice B vs.length capB]
    simpa using this
  have tab := Lib.hid (Lib.tabBelow_of_tabIs (Lib.tabBelow_of_tabIs htab _ hu))
  have hTu := Lib.hid (hT.later hu)
  have hAu := hA.later hu
  have hSu := hS.later hu
  have hVu := hv.later hu
  clear hA hS hv htab hT
  replace b2 := Lib.hid b2
  have hlv : vs.length ≤ 9223372036854775807 := by omega
  go_enter Tryz.func7, Tryz.ntmps7
  go_wp2_with fail
  generalize (w.alloc (.cells #[.slice A ts.length cap, .slice C ss.length capC] 31)).alloc (.cells #[.int .i64 ty, .int .i64 tm, .slice B vs.length capB] 36) = u at *
  refine (evalid_any A C B cap capC capB ts ss ty tm vs u hAu hSu hVu b1 b2.out hc1 hc2 hlv).mono ?_; rintro e w1 ⟨q, rfl, hq, hb1⟩
  cases q
  · have hno : ¬ EvOk ts ss ty tm vs := fun h => by have := hq.2 h; cases this
    replace hno := Lib.hid hno
    have hB1 := mmore hu hb1
    clear hq hAu hSu hVu k0 k1 hb1
    go_wp2_with fail
    go_ret
    exact LineR.no hno.out hB1
  · have hok : EvOk ts ss ty tm vs := hq.1 rfl
    have YES := Lib.hid (fun w' (h : Below w.heap.size w w') => LineR.yes hok h)
    have hbits := hVu.2.1
    obtain ⟨t, x, rfl, hx, h8, hWW, hLL⟩ := line_parts hok hbits
    have h0 : 0 ≤ tm := by obtain ⟨_, _, _, _, h0, _⟩ := ok_parts hok; exact h0
    have h1 : tm ≤ 1152921504606846976 := by obtain ⟨_, _, _, _, _, h1, _⟩ := ok_parts hok; exact h1
    have ht : t < ts.length := (List.getElem?_eq_some_iff.1 hx).1
    obtain ⟨tb, toff, rfl, htc⟩ := hAu (by omega)
    obtain ⟨tu, t0, _, _⟩ := htc t x hx
    have FI := fun w h => fmtI_at tm (by omega) (by omega) w h
    have JV : bl (Lib.join ((x.1 :: bl (Lib.itoa tm) :: vs.map fun v => bl (wordW ss v)).map (·.data.toList)) (⟨#[32]⟩ : ByteArray).data.toList) = bl (lineB ts ss (t : Int) tm vs) := by
      have e : (x.1 :: bl (Lib.itoa tm) :: vs.map fun v => bl (wordW ss v)).map (·.data.toList) = lineW ts ss (t : Int) tm vs := by
        rw [hWW]
        simp [bl_list, Function.comp_def]
      rw [e]
      rfl
    have JL : (Lib.join ((x.1 :: bl (Lib.itoa tm) :: vs.map fun v => bl (wordW ss v)).map (·.data.toList)) (⟨#[32]⟩ : ByteArray).data.toList).length ≤ 140737488355328 := by
      have h2 := congrArg ByteArray.size JV
      rw [bl_size, bl_size] at h2
      omega
    have WV : ∀ (k : Nat) (v : Int × Nat), vs[k]? = some v → ∀ (v1 : Value) (w : World), SymsAt w C ss → TzCell w → Lib.TabIs Tryz.prog w "internal/strconv.uint64pow10" .u64 Lib.pow10Tab → Calls Tryz.prog 18 #[.agg #[v1, .slice C ss.length capC], .agg #[.int .i64 v.1, .int .u64 (v.2 : Int)]] w fun e w' => e = .returned (.string (bl (wordW ss v))) ∧ Below w.heap.size w w' := by
      intro k v hk v1 w h1 h2 h3
      obtain ⟨y, hV, hy⟩ := line_val hok hk
      exact evword_any v1 C capC ts ss y v.1 v.2 hV hy (hbits v (List.mem_of_getElem? hk)) hok.1 w h1 h2 h3
    have SN := fun (k : Nat) (v : Int × Nat) hk => wsn_snoc ss x.1 (bl (Lib.itoa tm)) vs k v hk
    have t00 : (0 : Int) ≤ (t : Int) := by omega
    have t11 : (t : Int) < (ts.length : Int) := by omega
    have j0 := k0.kept hb1
    have j1 := k1.kept hb1
    have hB1 := mmore hu hb1
    have d0 : w1.cell? ⟨w.heap.size, 0, none⟩ = some (.slice (some ⟨tb, toff, none⟩) ts.length cap) := j0.cell 0
    have d2 : w1.cell? ⟨w.heap.size + 1, 0, none⟩ = some (.int .i64 (t : Int)) := j1.cell 0
    have d3 : w1.cell? ⟨w.heap.size + 1, 1, none⟩ = some (.int .i64 tm) := j1.cell 1
    have t0 := cell_later hb1 t0
    generalize hTM : bl (Lib.itoa tm) = TM at *
    replace FI := Lib.hid FI
    replace JV := Lib.hid JV
    replace JL := Lib.hid JL
    replace WV := Lib.hid WV
    replace SN := Lib.hid SN
    replace hVu := Lib.hid hVu
    replace hSu := Lib.hid hSu
    replace tab := Lib.hid (Lib.tabBelow_of_tabIs (tab.out _ hb1))
    have hT1 := Lib.hid (hTu.out.later hb1)
    clear hq hAu htc hok hbits hx hWW hLL hTM hTu
    go_upto_region 3 with (fail)
    go_cut [5] from 12 to 22 (fun v w' => ∃ g, v = .slice (some ⟨g, 0, none⟩) 2 2 ∧ w'.ownsRow w1.heap.size 9 1 v 2 (scells [x.1, TM]) ∧ Below w1.heap.size w1 w')
    case first =>
      go_region_law (first | (go_simp; go_at_call 17; refine (FI.out _ (tab.out _ ((Below.refl _ w1).drew))).mono ?_; rintro e w2 ⟨rfl, hb2⟩; have hb2' := mmore ((Below.refl _ w1).drew) hb2; have d0' := cell_later hb2' d0; have d2' := cell_later hb2' d2; have t0' := cell_later hb2' t0; have OP := Lib.hid (own_pr w2 9 x.1 TM); have BP := Lib.hid (mmore hb2' (m1 w2 (.cells #[.string x.1, .string TM] 9))); have hs2 := hb2'.size))
      all_goals (go_wp2_with fail; go_meet; exact ⟨_, rfl, mown_mono OP.out hs2, BP.out⟩)
    case rest =>
      obtain ⟨g5, rfl, hO, hB5⟩ := hcut
      have x2 : w1.cell? ⟨w.heap.size + 1, 2, none⟩ = some (.slice B vs.length capB) := j1.cell 2
      have e2 := cell_later hB5 x2
      clear x2 d2 d3 t0 FI
      go_wp2_with fail
      go_loopw [5, 26] (fun v i wr => ∃ k : Nat, k ≤ vs.length ∧ i = .int .i64 (k : Int) ∧ wr.ownsRow w1.heap.size 9 1 v (2 + k) (scells (x.1 :: TM :: ((vs.map fun v => bl (wordW ss v)).take k))) ∧ Below w1.heap.size w1 wr) (fun _ i _ => vs.length - (intOf i).toNat)
      case atStart => exact ⟨0, by omega, rfl, hO, hB5⟩
      case round =>
        obtain ⟨k, hk, rfl, hO, hB⟩ := hrel
        clear e2
        have k00 : (0 : Int) ≤ (k : Int) := by omega
        by_cases hlt : k < vs.length
        · obtain ⟨b, off, rfl, hvc⟩ := hVu.out.2.2 (by omega)
          have hvk : vs[k]? = some (vs[k].1, vs[k].2) := List.getElem?_eq_getElem hlt
          obtain ⟨q0, q1⟩ := hvc k _ _ hvk
          have CW := WV.out k _ hvk
          have SNk := Lib.hid (SN.out k _ hvk)
          generalize vs[k].1 = vk at *
          generalize vs[k].2 = vb at *
          generalize bl (wordW ss (vk, vb)) = xw at *
          have q0 := cell_later (hb1.trans (hB.mono hb1.size)) q0
          have q1 := cell_later (hb1.trans (hB.mono hb1.size)) q1
          have J0 := j0.kept hB
          have k11 : (k : Int) < (vs.length : Int) := by omega
          replace CW := Lib.hid CW
          have hs0 := hB.size
          clear hvc hvk
          go_upto_region 7 with (fail)
          have hw8 := m1 wr (.cells #[.int .i64 vk, .int .u64 (vb : Int)] 61)
          have hB8 := mmore hB hw8
          have hO8 := mown_below hO hw8
          have J8 := J0.kept hw8
          have g0 : (wr.alloc (.cells #[.int .i64 vk, .int .u64 (vb : Int)] 61)).cell? ⟨wr.heap.size, 0, none⟩ = some (.int .i64 vk) := by simp [go_sem]
          have g1 : (wr.alloc (.cells #[.int .i64 vk, .int .u64 (vb : Int)] 61)).cell? ⟨wr.heap.size, 1, none⟩ = some (.int .u64 (vb : Int)) := by simp [go_sem]
          clear q0 q1 J0 hs0 hO hB hw8
          generalize wr.heap.size = g8 at *
          generalize wr.alloc (.cells #[.int .i64 vk, .int .u64 (vb : Int)] 61) = wz at *
          have e0 : wz.cell? ⟨w.heap.size, 0, none⟩ = some (.slice (some ⟨tb, toff, none⟩) ts.length cap) := J8.cell 0
          have e1 : wz.cell? ⟨w.heap.size, 1, none⟩ = some (.slice C ss.length capC) := J8.cell 1
          go_wp2_with fail
          refine (CW.out _ wz ((hSu.out.later hb1).later hB8) (hT1.out.later hB8) (tab.out wz hB8)).mono ?_; rintro e w3 ⟨rfl, hb3⟩
          have hB9 := mmore hB8 hb3
          have hO9 := mown_below hO8 hb3
          have hs9 := hB9.size
          clear hO8 hB8 hb3 e0 e1 J8 g0 g1
          go_wp2_with (at_builtin; refine wpList_append_own _ rfl (.tmp 30) (.tmp 34) 23 rfl w1.heap.size 9 i0 (.string ⟨#[]⟩) 1 16 Tryz.underlying23 hi hz0 hz1 hz2 rfl (by decide) u5 (2 + k) (scells (x.1 :: TM :: ((vs.map fun v => bl (wordW ss v)).take k))) rfl (hO9.alloc _) ⟨w3.heap.size, 0, none⟩ 1 1 [.string xw] rfl rfl ?c1 ?c2 ?c3 ?c4 ?c5 ?_)
          case c1 =>
            intro j u hj
            match j, hj with
            | 0, hj => simp at hj; subst hj; simp [Addr.add]
          case c2 => first | trivial | (intro u hu; simp at hu; subst hu; rfl)
          case c3 => unfold maxLen; omega
          case c4 => omega
          case c5 => first | omega | (simp; omega)
          intro v' w4 hO4 hgrow _
          rw [← SNk.out] at hO4
          have hB4 : Below w1.heap.size w1 w4 := (hB9.alloc hs9 _).grown hgrow (by simp; omega) (fun g hg => (hO9.lt g hg).1)
          clear hO9 hgrow hB9
          go_wp2
          go_roundw
          case rel => exact ⟨k + 1, by omega, by go_num, hO4, hB4⟩
          case measure => simp [intOf]; omega
        · obtain rfl : k = vs.length := by omega
          have k11 : ¬ (vs.length : Int) < (vs.length : Int) := by omega
          have hLM : (vs.map fun v => bl (wordW ss v)).length = vs.length := by simp
          rw [← hLM, List.take_length, hLM] at hO
          have hln : (x.1 :: TM :: (vs.map fun v => bl (wordW ss v))).length = 2 + vs.length := by simp; omega
          rw [← hln] at hO
          have hget : (x.1 :: TM :: (vs.map fun v => bl (wordW ss v)))[0]? = some x.1 := rfl
          generalize (x.1 :: TM :: (vs.map fun v => bl (wordW ss v))) = ws at *
          obtain ⟨A', cap', e, hh1, hh2, hx⟩ := syms_slice (own_scells hO)
          subst e
          obtain ⟨bk, o, rfl, hc⟩ := hx (by rw [hln]; omega)
          have hbk := mblock (hc 0 _ hget)
          have CJ := Tryz.strings_Join bk o cap' ws ⟨#[32]⟩ wr hc hbk (by rw [hln]; omega) hh1 JL.out
          change Calls Tryz.prog 19 _ wr fun e w' => e = .returned (.string (bl (Lib.join (ws.map (·.data.toList)) (⟨#[32]⟩ : ByteArray).data.toList))) ∧ Below wr.heap.size wr w' at CJ
          rw [JV.out] at CJ
          replace CJ := Lib.hid CJ
          clear hO hc hln hget hLM hx hh1 SN WV JL JV
          go_wp2_with fail
          refine CJ.out.mono ?_; rintro e w3 ⟨rfl, hb3⟩
          have hB9 := mmore hB1 (mmore hB hb3)
          go_wp2
          go_ret
          exact YES.out _ hB9
end Go.Proofs.YtkmlbifhpkfinaaGreatDoor
