/- NdD, NdE, NdF -/
import Derived.Test.YtfjnphiegoogoaaZ13
import Derived.Test.YtfjnphiegoogoaaZ20
import Derived.BigQuiet
/- NdD -/
namespace Go.Proofs.Ytfjnphiegoogoaa
open Go.ChangeShapes Go.WideShapes Go.ChangeAt Go.RowKit Go.Fl
set_option linter.unusedVariables false
set_option linter.unusedSimpArgs false

set_option maxHeartbeats 4000000 in
set_option maxRecDepth 100000 in
theorem rattr_any (E : Option Addr) (ce : Nat) (es : List Ev) (p a : Int) (w : World) (he : EvsAt w E es) (hl : es.length ≤ 9223372036854775807) (hl2 : ∀ e ∈ es, e.2.2.length ≤ 9223372036854775807) :
    Calls Try.prog 19 #[.slice E es.length ce, .int .i64 p, .int .i64 a] w (VIs (attrP es p a) w) := by
  have hu := m1 w (.cells #[.int .i64 0, .int .u64 0] 36)
  by_cases h1 : p < 0
  · have hp : attrP es p a = (0, 0) := by unfold attrP; rw [if_pos h1]
    rw [hp]; clear hp
    go_enter Try.func19, Try.ntmps19
    go_wp2
    exact bodyPost_ret (v := .agg #[.int .i64 0, .int .u64 0]) (by simp [results, Try.results19, go_sem]) rfl (.mk rfl (by simpa using hu))
  obtain ⟨p, rfl⟩ : ∃ q : Nat, p = (q : Int) := ⟨p.toNat, by omega⟩
  by_cases h2 : (p : Int) < (es.length : Int)
  · have hp := attrP_in es p a _ (List.getElem?_eq_getElem (show p < es.length by omega))
    have hlv := hl2 _ (List.getElem_mem (show p < es.length by omega))
    rw [hp]
    obtain ⟨b, off, e2, hc⟩ := he.later hu (by omega)
    obtain ⟨q0, q1, VA, vcap, q2, hR⟩ := hc p _ (List.getElem?_eq_getElem (by omega))
    subst e2
    generalize es[p] = ev at *
    obtain ⟨ty, tm, vs⟩ := ev
    simp only at hlv q0 q1 q2 hR ⊢
    clear hc he hp hl2
    replace hu := Lib.hid hu
    by_cases c2 : a < -1
    · rw [if_neg (by omega), if_pos (by omega)]
      clear hR q2
      go_enter Try.func19, Try.ntmps19
      go_wp2
      exact bodyPost_ret (v := .agg #[.int .i64 0, .int .u64 0]) (by simp [results, Try.results19, go_sem]) rfl (.mk rfl (by simpa using hu.out))
    by_cases c1 : a = -1
    · rw [if_pos c1]
      subst c1
      have c4 : ¬ (-1 : Int) ≥ (vs.length : Int) := by omega
      go_enter Try.func19, Try.ntmps19
      go_wp2
      exact bodyPost_ret (v := .agg #[.int .i64 1, .int .u64 (IntKind.u64.wrap tm)]) (by simp [results, Try.results19, go_sem]) rfl (.mk (nU_eq _).symm (m1 w _))
    rw [if_neg c1, if_neg (by omega)]
    have x1 : (a == -1) = false := by simpa using c1
    obtain ⟨j, rfl⟩ : ∃ q : Nat, a = (q : Int) := ⟨a.toNat, by omega⟩
    by_cases c3 : (j : Int) < (vs.length : Int)
    · have hj : vs[((j : Int)).toNat]? = some (vs[j]'(by omega)) := by rw [show ((j : Int)).toNat = j by omega]; exact List.getElem?_eq_getElem (by omega)
      rw [hj]
      have hbits := hR.2.1 _ (List.getElem_mem (show j < vs.length by omega))
      obtain ⟨b2, off2, e3, hcv⟩ := hR.2.2 (by omega)
      have hjl : j < vs.length := by omega
      have hvk : vs[j]? = some (vs[j].1, vs[j].2) := List.getElem?_eq_getElem hjl
      obtain ⟨z0, z1⟩ := hcv j _ _ hvk
      clear hvk
      subst e3
      generalize vs[j] = v at *
      obtain ⟨k, bb⟩ := v
      simp only at hbits z0 z1 ⊢
      clear hcv hR hj
      have R := Lib.hid (fun w => rclean_any k bb w hbits)
      clear hbits
      generalize clK k bb = k2 at *
      generalize clB k bb = b3 at *
      go_enter Try.func19, Try.ntmps19
      go_wp2_with fail
      refine (R.out _).mono ?_; rintro e w1 ⟨rfl, hb1⟩
      obtain ⟨hc, hf⟩ := bcell hb1
      obtain ⟨_, r1, r2⟩ := put2 (w := w1) (g := w.heap.size) (.int .i64 k2) (.int .u64 (b3 : Int)) (x := .int .i64 0) (y := .int .u64 0) (by rw [hc _ _ (by simp)]; simp [go_sem]) (by rw [hc _ _ (by simp)]; simp [go_sem])
      go_wp2
      exact bodyPost_ret (v := .agg #[.int .i64 k2, .int .u64 (b3 : Int)]) (by simp [results, Try.results19, go_sem, r1, r2]) rfl (.mk rfl (((below_more hu.out hb1).setCell (by show w.heap.size ≤ w.heap.size; omega) _).setCell (by show w.heap.size ≤ w.heap.size; omega) _))
    · have hj : vs[((j : Int)).toNat]? = none := by rw [show ((j : Int)).toNat = j by omega]; exact List.getElem?_eq_none (by omega)
      rw [hj]
      clear hR
      go_enter Try.func19, Try.ntmps19
      go_wp2
      exact bodyPost_ret (v := .agg #[.int .i64 0, .int .u64 0]) (by simp [results, Try.results19, go_sem]) rfl (.mk rfl (by simpa using hu.out))
  · have hp : attrP es (p : Int) a = (0, 0) := by
      unfold attrP; rw [if_neg h1]; simp [List.getElem?_eq_none (show es.length ≤ p by omega)]
    rw [hp]; clear hp
    go_enter Try.func19, Try.ntmps19
    go_wp2
    exact bodyPost_ret (v := .agg #[.int .i64 0, .int .u64 0]) (by simp [results, Try.results19, go_sem]) rfl (.mk rfl (by simpa using hu))

/-! ### a sum -/
theorem sumP_snoc : ∀ (l : List (Int × Nat)) (x : Int × Nat), 0 < l.length → sumP (l ++ [x]) = appP 1 [sumP l, x]
  | v :: l, x, _ => by
    show (l ++ [x]).foldl addP v = appP 1 [l.foldl addP v, x]
    rw [List.foldl_append]
    rfl
set_option maxHeartbeats 4000000 in
set_option maxRecDepth 100000 in
theorem rsum_any : ∀ (n : Nat) (A : Option Addr) (cap : Nat) (vs : List (Int × Nat)) (w : World), vs.length = n → RowV w A vs.length vs → 0 < vs.length → vs.length ≤ cap → cap ≤ maxLen → vs.length ≤ 1099511627776 →
    Calls Try.prog 31 #[.slice A vs.length cap] w (VIs (sumP vs) w) := by
  intro n
  induction n with
  | zero => intro A cap vs w h1 hv h0; omega
  | succ n ih =>
    intro A cap vs w h1 hv h0 hcap hmax hl
    have hu := m1 w (.cells #[.int .i64 0, .int .u64 0] 36)
    by_cases hn : n = 0
    · subst hn
      match vs, h1 with
      | [v], _ =>
      obtain ⟨b, off, rfl, c0, c1, _⟩ := (hv.later hu).at_ (i := 0) rfl
      obtain ⟨k, c⟩ := v
      simp only [Nat.zero_mul, Nat.add_zero] at c0 c1
      clear hv
      show Calls _ _ #[.slice (some ⟨b, off, none⟩) 1 cap] w (VIs (k, c) w)
      go_enter Try.func31, Try.ntmps31
      go_wp2
      exact bodyPost_ret (v := .agg #[.int .i64 k, .int .u64 (c : Int)]) (by simp [results, Try.results31, go_sem]) rfl (.mk rfl (m1 w _))
    · obtain ⟨l, x, rfl⟩ : ∃ l x, vs = l ++ [x] := by
        rcases List.eq_nil_or_concat vs with rfl | ⟨l, x, h⟩
        · simp at h0
        · exact ⟨l, x, by simpa using h⟩
      simp only [List.length_append, List.length_cons, List.length_nil, Nat.zero_add] at h1 h0 hcap hl hv ⊢
      have hln : l.length = n := by omega
      subst hln
      obtain ⟨b, off, rfl, c0, c1, xlt⟩ := hv.at_ (i := l.length) (v := x) (by simp)
      have hvl : RowV w (some ⟨b, off, none⟩) l.length l := by
        refine ⟨rfl, fun v hm => hv.2.1 v (by simp [hm]), fun _ => ⟨b, off, rfl, fun i k c hi => ?_⟩⟩
        obtain ⟨b', off', e, hc⟩ := hv.2.2 (by simp)
        cases e
        exact hc i k c (by rw [List.getElem?_append_left (List.getElem?_eq_some_iff.1 hi).1]; exact hi)
      rw [sumP_snoc l x (by omega)]
      obtain ⟨xk, xb⟩ := x
      simp only at c0 c1 xlt
      have hsl := sumP_lt w hvl.2.1
      have IH := ih (some ⟨b, off, none⟩) cap l (w.alloc (.cells #[.int .i64 0, .int .u64 0] 36)).drew rfl (hvl.later hu.drew) (by omega) (by omega) hmax (by omega)
      have AP := fun w A h => rapply_any 1 A 2 2 [sumP l, (xk, xb)] w h (by omega)
      generalize sumP l = s at *
      obtain ⟨sk, sb⟩ := s
      generalize appP 1 [(sk, sb), (xk, xb)] = y at *
      obtain ⟨yk, yb⟩ := y
      simp only at AP hsl
      replace AP := Lib.hid AP
      have w1 : IntKind.i64.wrap (((l.length + 1 : Nat) : Int) - 1) = (l.length : Int) := by rw [IntKind.wrap_i64]; omega
      have w1' : IntKind.i64.wrap ((l.length : Int) + 1 - 1) = (l.length : Int) := by rw [IntKind.wrap_i64]; omega
      have i0 : (l.length : Int) ≤ (cap : Int) := by omega
      have i1 : ((l.length : Int) + 1 == 1) = false := by simp; omega
      have i2 : (l.length : Int) < (l.length : Int) + 1 := by omega
      have n3 : l.length ≤ cap := by omega
      have w0 : IntKind.i64.wrap (l.length : Int) = (l.length : Int) := by rw [IntKind.wrap_i64]; omega
      have n5 : ¬ cap = 0 := by omega
      have u0 := cell_later hu c0
      have u1 := cell_later hu c1
      have z0 := Blk.made w 36 #[.int .i64 0, .int .u64 0]
      clear hv hvl ih h1 h0 hn c0 c1
      generalize hlen : l.length = m at *
      clear hlen
      go_enter Try.func31, Try.ntmps31
      go_wp2_with fail
      generalize w.alloc (.cells #[.int .i64 0, .int .u64 0] 36) = u at *
      have c0d : u.drew.cell? ⟨b, off + m * 2, none⟩ = some (.int .i64 xk) := u0
      have c1d : u.drew.cell? ⟨b, off + m * 2 + 1, none⟩ = some (.int .u64 (xb : Int)) := u1
      have z0d : Blk u.drew w.heap.size 36 #[.int .i64 0, .int .u64 0] := z0
      have hud : Below w.heap.size w u.drew := hu.drew
      replace IH := Lib.hid IH
      replace z0d := Lib.hid z0d
      replace hud := Lib.hid hud
      clear u0 u1 z0 hu
      go_region_with (first | (go_at_call 31; refine IH.out.mono ?_; rintro e w4 ⟨rfl, hb4⟩; have y0 := cell_later hb4 c0d; have y1 := cell_later hb4 c1d; have z4 := Lib.hid (z0d.out.kept hb4); have hu4 := Lib.hid (mmore hud.out hb4)) | (go_at_call 21; refine (AP.out _ _ (row_two (g := w4.heap.size) (k1 := sk) (k2 := xk) hsl xlt (by simp [go_sem]) (by simp [go_sem]) (by simp [go_sem]) (by simp [go_sem]))).mono ?_; rintro e w6 ⟨rfl, hb6⟩; have z6 := (z4.out.kept (m1 _ _)).kept hb6; have hu6 := Lib.hid (mmore (mmore hu4.out (m1 _ _)) hb6); have x0 : w6.cell? ⟨w.heap.size, 0, none⟩ = some (.int .i64 0) := z6.cell 0; have x1 : w6.cell? ⟨w.heap.size, 1, none⟩ = some (.int .u64 0) := z6.cell 1; have f0 : w6.frozen? ⟨w.heap.size, 0, none⟩ = false := z6.free 0; have f1 : w6.frozen? ⟨w.heap.size, 1, none⟩ = false := z6.free 1))
      all_goals obtain ⟨_, r1, r2⟩ := put2 (w := w6) (g := w.heap.size) (.int .i64 yk) (.int .u64 (yb : Int)) x0 x1
      all_goals replace r1 := Lib.hid r1
      all_goals replace r2 := Lib.hid r2
      all_goals go_wp2
      all_goals exact bodyPost_ret (v := .agg #[.int .i64 yk, .int .u64 (yb : Int)]) (by simp [results, Try.results31, go_sem, r1.out, r2.out]) rfl (.mk rfl ((hu6.out.setCell (Nat.le_refl _) _).setCell (Nat.le_refl _) _))
end Go.Proofs.Ytfjnphiegoogoaa

/- NdE -/
namespace Go.Proofs.Ytfjnphiegoogoaa
open Go.ChangeShapes Go.WideShapes Go.ChangeAt Go.RowKit Go.Fl
set_option linter.unusedVariables false
set_option linter.unusedSimpArgs false

def EndR (w : World) (last : Bool) (vs : List (Int × Nat)) (R : Int × Nat) (k0 : Int) (k : Nat) (wr : World) : Prop :=
  ∃ t : Int × Nat, Blk wr (w.heap.size + 1) 36 #[.int .i64 t.1, .int .u64 (t.2 : Int)] ∧ extGo last t (vs.drop k) = R ∧ t.2 < 18446744073709551616 ∧ Blk wr w.heap.size 36 #[.int .i64 0, .int .u64 0] ∧ Below w.heap.size w wr ∧ t.1 = k0
def EndJ (w : World) (tk : Int) (tb : Nat) (g : Nat) (yk : Int) (yb : Nat) (wr : World) : Prop :=
  Blk wr (w.heap.size + 1) 36 #[.int .i64 tk, .int .u64 (tb : Int)] ∧ Blk wr w.heap.size 36 #[.int .i64 0, .int .u64 0] ∧ Blk wr g 36 #[.int .i64 yk, .int .u64 (yb : Int)] ∧ Below w.heap.size w wr
theorem EndJ.drewN {w wr : World} {tk : Int} {tb g : Nat} {yk : Int} {yb : Nat} (h : EndJ w tk tb g yk yb wr) (n : Nat) : EndJ w tk tb g yk yb (wr.drewN n) := ⟨h.1, h.2.1, h.2.2.1, h.2.2.2.1, h.2.2.2.2, h.2.2.2.3, h.2.2.2.4, h.2.2.2.5⟩
theorem EndJ.facts {w wr : World} {tk : Int} {tb g : Nat} {yk : Int} {yb : Nat} (h : EndJ w tk tb g yk yb wr) :
    wr.cell? ⟨w.heap.size + 1, 0, none⟩ = some (.int .i64 tk) ∧ wr.cell? ⟨w.heap.size + 1, 1, none⟩ = some (.int .u64 (tb : Int)) ∧ wr.cell? ⟨g, 0, none⟩ = some (.int .i64 yk) ∧ wr.cell? ⟨g, 1, none⟩ = some (.int .u64 (yb : Int)) ∧
    wr.cell? ⟨w.heap.size, 0, none⟩ = some (.int .i64 0) ∧ wr.cell? ⟨w.heap.size, 1, none⟩ = some (.int .u64 0) ∧
    wr.frozen? ⟨w.heap.size + 1, 0, none⟩ = false ∧ wr.frozen? ⟨w.heap.size + 1, 1, none⟩ = false ∧ wr.frozen? ⟨w.heap.size, 0, none⟩ = false ∧ wr.frozen? ⟨w.heap.size, 1, none⟩ = false :=
  ⟨h.1.cell 0, h.1.cell 1, h.2.2.1.cell 0, h.2.2.1.cell 1, h.2.1.cell 0, h.2.1.cell 1, h.1.free 0, h.1.free 1, h.2.1.free 0, h.2.1.free 1⟩
theorem EndJ.put {w wr : World} {tk : Int} {tb g : Nat} {yk xk : Int} {yb xb : Nat} (h : EndJ w tk tb g yk yb wr) :
    Blk ((wr.setCell ⟨w.heap.size + 1, 0, none⟩ (.int .i64 xk)).setCell ⟨w.heap.size + 1, 1, none⟩ (.int .u64 (xb : Int))) (w.heap.size + 1) 36 #[.int .i64 xk, .int .u64 (xb : Int)] ∧
    Blk ((wr.setCell ⟨w.heap.size + 1, 0, none⟩ (.int .i64 xk)).setCell ⟨w.heap.size + 1, 1, none⟩ (.int .u64 (xb : Int))) w.heap.size 36 #[.int .i64 0, .int .u64 0] ∧
    Below w.heap.size w ((wr.setCell ⟨w.heap.size + 1, 0, none⟩ (.int .i64 xk)).setCell ⟨w.heap.size + 1, 1, none⟩ (.int .u64 (xb : Int))) :=
  ⟨by simpa using (h.1.put_ 0 (.int .i64 xk)).put_ 1 (.int .u64 (xb : Int)),
   (h.2.1.else_ (p := ⟨w.heap.size + 1, 0, none⟩) (by show w.heap.size + 1 ≠ w.heap.size; omega) _).else_ (p := ⟨w.heap.size + 1, 1, none⟩) (by show w.heap.size + 1 ≠ w.heap.size; omega) _,
   (h.2.2.2.setCell (p := ⟨w.heap.size + 1, 0, none⟩) (by show w.heap.size ≤ w.heap.size + 1; omega) _).setCell (p := ⟨w.heap.size + 1, 1, none⟩) (by show w.heap.size ≤ w.heap.size + 1; omega) _⟩
theorem EndJ.put1 {w wr : World} {tk : Int} {tb g : Nat} {yk : Int} {yb xb : Nat} (h : EndJ w tk tb g yk yb wr) :
    Blk (wr.setCell ⟨w.heap.size + 1, 1, none⟩ (.int .u64 (xb : Int))) (w.heap.size + 1) 36 #[.int .i64 tk, .int .u64 (xb : Int)] ∧
    Blk (wr.setCell ⟨w.heap.size + 1, 1, none⟩ (.int .u64 (xb : Int))) w.heap.size 36 #[.int .i64 0, .int .u64 0] ∧
    Below w.heap.size w (wr.setCell ⟨w.heap.size + 1, 1, none⟩ (.int .u64 (xb : Int))) :=
  ⟨by simpa using h.1.put_ 1 (.int .u64 (xb : Int)), h.2.1.else_ (p := ⟨w.heap.size + 1, 1, none⟩) (by show w.heap.size + 1 ≠ w.heap.size; omega) _, h.2.2.2.setCell (p := ⟨w.heap.size + 1, 1, none⟩) (by show w.heap.size ≤ w.heap.size + 1; omega) _⟩
theorem vord_int {b c : Nat} : vordP 1 b 1 c = cmpP (wrap64 b) (wrap64 c) := by
  unfold vordP clK clB
  simp
theorem cmp_not1 {x y : Int} (h : ¬ y < x) : ¬ cmpP x y = sd true := by
  unfold cmpP sd
  split
  · decide
  · try rw [if_neg h]
    decide
theorem cmp_not0 {x y : Int} (h : ¬ x < y) : ¬ cmpP x y = sd false := by
  unfold cmpP sd
  rw [if_neg h]
  split <;> decide
theorem cmp_is1 {x y : Int} (h : y < x) : cmpP x y = sd true := by
  unfold cmpP sd
  rw [if_neg (by omega), if_pos h]
  rfl
theorem cmp_is0 {x y : Int} (h : x < y) : cmpP x y = sd false := by
  unfold cmpP sd
  rw [if_pos h]
  rfl
theorem extGo_bad {last : Bool} {t y : Int × Nat} {l : List (Int × Nat)} (h : y.1 ≠ t.1 ∨ y.1 ≠ 1 ∧ y.1 ≠ 4) : extGo last t (y :: l) = (0, 0) := by
  rw [extGo, if_neg (by omega), if_neg (by omega)]

set_option maxHeartbeats 8000000 in
set_option maxRecDepth 100000 in
theorem rend_any (A : Option Addr) (cap : Nat) (last : Bool) (vs : List (Int × Nat)) (w : World) (hv : RowV w A vs.length vs) (h0 : 0 < vs.length) (hl : vs.length ≤ 9223372036854775807) :
    Calls Try.prog 32 #[.slice A vs.length cap, .bool last] w (VIs (extP last vs) w) := by
  obtain ⟨v, hv0⟩ : ∃ v, vs[0]? = some v := ⟨vs[0], List.getElem?_eq_getElem h0⟩
  have hx : extP last vs = extGo last v vs := by cases vs with | nil => simp at h0 | cons a l => simp at hv0; subst hv0; rfl
  rw [hx]
  generalize hR : extGo last v vs = R
  have hu := m1 w (.cells #[.int .i64 0, .int .u64 0] 36)
  obtain ⟨b, off, rfl, c0, c1, vlt⟩ := (hv.later hu).at_ hv0
  obtain ⟨d0', _, _⟩ : w.cell? ⟨b, off, none⟩ = some (.int .i64 v.1) ∧ True ∧ True := by
    obtain ⟨b', off', e, x0, _, _⟩ := hv.at_ hv0
    cases e
    simp only [Nat.zero_mul, Nat.add_zero] at x0
    exact ⟨x0, trivial, trivial⟩
  obtain ⟨vk, vb⟩ := v
  simp only [Nat.zero_mul, Nat.add_zero] at c0 c1 vlt d0'
  have hcl : ∀ k y, vs[k]? = some y → w.cell? ⟨b, off + k * 2, none⟩ = some (.int .i64 y.1) ∧ w.cell? ⟨b, off + k * 2 + 1, none⟩ = some (.int .u64 (y.2 : Int)) ∧ y.2 < 18446744073709551616 := fun k y h => by
    obtain ⟨b', off', e, d0, d1, d2⟩ := hv.at_ h
    simp only [Option.some.injEq, Addr.mk.injEq, and_true] at e
    obtain ⟨rfl, rfl⟩ := e
    exact ⟨d0, d1, d2⟩
  have k0 : Blk ((w.alloc (.cells #[.int .i64 0, .int .u64 0] 36)).alloc (.cells #[.int .i64 vk, .int .u64 (vb : Int)] 36)) (w.heap.size + 1) 36 #[.int .i64 vk, .int .u64 (vb : Int)] := by
    have := Blk.made (w.alloc (.cells #[.int .i64 0, .int .u64 0] 36)) 36 #[.int .i64 vk, .int .u64 (vb : Int)]
    simpa using this
  have s0 : EndR w last vs R vk 0 ((w.alloc (.cells #[.int .i64 0, .int .u64 0] 36)).alloc (.cells #[.int .i64 vk, .int .u64 (vb : Int)] 36)) :=
    ⟨(vk, vb), k0, by simpa using hR, vlt, (Blk.made w _ _).kept (m1 _ _), m2 _ _ _, rfl⟩
  replace s0 := Lib.hid s0
  replace hcl := Lib.hid hcl
  clear hv hu k0 hR hx hv0
  go_enter Try.func32, Try.ntmps32
  go_wp2_with fail
  go_loopw [13] (fun i wr => ∃ k : Nat, k ≤ vs.length ∧ i = .int .i64 (k : Int) ∧ EndR w last vs R vk k wr) (fun i _ => vs.length - (intOf i).toNat)
  case atStart => exact ⟨0, Nat.zero_le _, rfl, s0.out⟩
  case round =>
    obtain ⟨k, hk, rfl, ⟨tk, tb⟩, hT, hR, hlt, hZ, hW, htk⟩ := hrel
    simp only at htk
    subst htk
    clear s0
    by_cases hkl : k < vs.length
    · have hvk : vs[k]? = some (vs[k].1, vs[k].2) := List.getElem?_eq_getElem hkl
      rw [List.drop_eq_getElem_cons hkl] at hR
      obtain ⟨d0, d1, d2⟩ := hcl.out k _ hvk
      generalize vs[k] = y at *
      obtain ⟨yk, yb⟩ := y
      clear hvk
      simp only at hT hlt d0 d1 d2
      have d0 := cell_later hW d0
      have d1 := cell_later hW d1
      have e0 := cell_later hW d0'
      have J : EndJ w tk tb wr.heap.size yk yb (wr.alloc (.cells #[.int .i64 yk, .int .u64 (yb : Int)] 36)) := ⟨hT.kept (m1 _ _), hZ.kept (m1 _ _), Blk.made _ _ _, hW.alloc hW.size _⟩
      have e0 : (wr.alloc (.cells #[.int .i64 yk, .int .u64 (yb : Int)] 36)).cell? ⟨b, off, none⟩ = some (.int .i64 tk) := cell_later (m1 _ _) e0
      have li : (k : Int) < (vs.length : Int) := by omega
      clear hT hZ hW
      go_upto_region 5 with (fail)
      generalize wr.alloc (.cells #[.int .i64 yk, .int .u64 (yb : Int)] 36) = wa at *
      generalize wr.heap.size = g at *
      obtain ⟨j0, j1, j2, j3, j4, j5, j6, j7, j8, j9⟩ := J.facts
      replace J := Lib.hid J
      clear d0 d1
      by_cases a1 : yk = tk
      · subst a1
        by_cases a2 : yk = 1
        · subst a2
          have hs : extGo last (1, tb) ((1, yb) :: vs.drop (k + 1)) = extGo last (if vordP 1 yb 1 tb = sd last then (1, yb) else (1, tb)) (vs.drop (k + 1)) := by rw [extGo, if_pos ⟨rfl, rfl⟩]
          rw [hs] at hR
          clear hs
          rw [vord_int] at hR
          have W1 : IntKind.i64.wrap (yb : Int) = wrap64 yb := by simp [IntKind.wrap_i64, wrap64]
          have W2 : IntKind.i64.wrap (tb : Int) = wrap64 tb := by simp [IntKind.wrap_i64, wrap64]
          go_quiet (fail)
          have J2 := Lib.hid (J.out.drewN nq)
          have P2 := Lib.hid (J2.out.put (xk := 1) (xb := yb))
          cases last with
          | true =>
            by_cases c : wrap64 yb > wrap64 tb
            · rw [if_pos (cmp_is1 (by omega))] at hR
              replace hR := Lib.hid hR
              go_wp2
              go_roundw
              case rel => exact ⟨k + 1, by omega, by go_num, (1, yb), P2.out.1, hR.out, d2, P2.out.2.1, P2.out.2.2, rfl⟩
              case measure => simp [intOf]; omega
            · rw [if_neg (cmp_not1 (by omega))] at hR
              replace hR := Lib.hid hR
              clear P2
              go_wp2
              go_roundw
              case rel => exact ⟨k + 1, by omega, by go_num, (1, tb), J2.out.1, hR.out, hlt, J2.out.2.1, J2.out.2.2.2, rfl⟩
              case measure => simp [intOf]; omega
          | false =>
            by_cases c : wrap64 yb < wrap64 tb
            · rw [if_pos (cmp_is0 (by omega))] at hR
              replace hR := Lib.hid hR
              go_wp2
              go_roundw
              case rel => exact ⟨k + 1, by omega, by go_num, (1, yb), P2.out.1, hR.out, d2, P2.out.2.1, P2.out.2.2, rfl⟩
              case measure => simp [intOf]; omega
            · rw [if_neg (cmp_not0 (by omega))] at hR
              replace hR := Lib.hid hR
              clear P2
              go_wp2
              go_roundw
              case rel => exact ⟨k + 1, by omega, by go_num, (1, tb), J2.out.1, hR.out, hlt, J2.out.2.1, J2.out.2.2.2, rfl⟩
              case measure => simp [intOf]; omega
        · by_cases a3 : yk = 4
          · subst a3
            have hs : extGo last (4, tb) ((4, yb) :: vs.drop (k + 1)) = extGo last (4, pickP tb yb last) (vs.drop (k + 1)) := by rw [extGo, if_neg (fun h => absurd h.1 (by show ¬ (4 : Int) = 1; decide)), if_pos ⟨rfl, rfl⟩]
            rw [hs] at hR
            clear hs a2
            have hpl := pickP_lt (last := last) hlt d2
            have O := Lib.hid (fun w => rpick_any tb yb last w hlt d2)
            generalize pickP tb yb last = q at *
            replace hR := Lib.hid hR
            go_quiet (fail)
            have J2 := Lib.hid (J.out.drewN nq)
            have P2 := Lib.hid (J2.out.put1 (xb := q))
            go_wp2_with (go_at_call 57; refine (O.out _).mono ?_; rintro e w' ⟨rfl, rfl⟩)
            go_roundw
            case rel => exact ⟨k + 1, by omega, by go_num, (4, q), P2.out.1, hR.out, hpl, P2.out.2.1, P2.out.2.2, rfl⟩
            case measure => simp [intOf]; omega
          · rw [extGo_bad (.inr ⟨a2, a3⟩)] at hR
            subst hR
            have b2 : (yk != 1) = true := by simpa using a2
            have b3 : (yk != 4) = true := by simpa using a3
            go_quiet (fail)
            have J2 := Lib.hid (J.out.drewN nq)
            obtain ⟨_, r1, r2⟩ := put2 (w := wa.drewN nq) (g := w.heap.size) (.int .i64 0) (.int .u64 0) j4 j5
            replace r1 := Lib.hid r1
            replace r2 := Lib.hid r2
            go_wp2
            exact bodyPost_ret (v := .agg #[.int .i64 0, .int .u64 0]) (by simp [results, Try.results32, go_sem, j4, j5, r1.out, r2.out]) rfl (.mk rfl ((J2.out.2.2.2.setCell (Nat.le_refl _) _).setCell (Nat.le_refl _) _))
      · rw [extGo_bad (.inl a1)] at hR
        subst hR
        have b1 : (yk != tk) = true := by simpa using a1
        go_quiet (fail)
        have J2 := Lib.hid (J.out.drewN nq)
        obtain ⟨_, r1, r2⟩ := put2 (w := wa.drewN nq) (g := w.heap.size) (.int .i64 0) (.int .u64 0) j4 j5
        replace r1 := Lib.hid r1
        replace r2 := Lib.hid r2
        go_wp2
        exact bodyPost_ret (v := .agg #[.int .i64 0, .int .u64 0]) (by simp [results, Try.results32, go_sem, j4, j5, r1.out, r2.out]) rfl (.mk rfl ((J2.out.2.2.2.setCell (Nat.le_refl _) _).setCell (Nat.le_refl _) _))
    · obtain rfl : k = vs.length := by omega
      have t0 : wr.cell? ⟨w.heap.size + 1, 0, none⟩ = some (.int .i64 tk) := hT.cell 0
      have t1 : wr.cell? ⟨w.heap.size + 1, 1, none⟩ = some (.int .u64 (tb : Int)) := hT.cell 1
      have x0 : wr.cell? ⟨w.heap.size, 0, none⟩ = some (.int .i64 0) := hZ.cell 0
      have x1 : wr.cell? ⟨w.heap.size, 1, none⟩ = some (.int .u64 0) := hZ.cell 1
      have f0 : wr.frozen? ⟨w.heap.size, 0, none⟩ = false := hZ.free 0
      have f1 : wr.frozen? ⟨w.heap.size, 1, none⟩ = false := hZ.free 1
      have hE : (tk, tb) = R := by
        rw [← hR, List.drop_eq_nil_of_le (Nat.le_refl _), extGo]
      subst hE
      obtain ⟨_, r1, r2⟩ := put2 (w := wr) (g := w.heap.size) (.int .i64 tk) (.int .u64 (tb : Int)) x0 x1
      replace r1 := Lib.hid r1
      replace r2 := Lib.hid r2
      replace hW := Lib.hid hW
      clear hT hZ hR
      go_wp2
      exact bodyPost_ret (v := .agg #[.int .i64 tk, .int .u64 (tb : Int)]) (by simp [results, Try.results32, go_sem, r1.out, r2.out]) rfl (.mk rfl ((hW.out.setCell (Nat.le_refl _) _).setCell (Nat.le_refl _) _))
end Go.Proofs.Ytfjnphiegoogoaa

/- NdF -/
namespace Go.Proofs.Ytfjnphiegoogoaa
open Go.ChangeShapes Go.WideShapes Go.ChangeAt Go.RowKit Go.Fl
set_option linter.unusedVariables false
set_option linter.unusedSimpArgs false

theorem nU_len {m : Nat} (h : m ≤ 1099511627776) : nU (m : Int) = m := by
  have h1 := nU_eq (m : Int)
  rw [IntKind.wrap_u64] at h1
  omega
def PairW (p q : Int × Nat) : Value → World → Prop := fun v w => ∃ g, v = .slice (some ⟨g, 0, none⟩) 2 2 ∧ RowV w (some ⟨g, 0, none⟩) 2 [p, q]
theorem pairw_mono (p q : Int × Nat) : G.MonoW (PairW p q) := fun _ _ _ ⟨g, e, h⟩ hb => ⟨g, e, h.later hb⟩
def OneW (p : Int × Nat) : Value → World → Prop := fun v w => ∃ g, v = .slice (some ⟨g, 0, none⟩) 1 1 ∧ RowV w (some ⟨g, 0, none⟩) 1 [p]
theorem onew_mono (p : Int × Nat) : G.MonoW (OneW p) := fun _ _ _ ⟨g, e, h⟩ hb => ⟨g, e, h.later hb⟩
theorem keepM {w wr w1 : World} {m : Nat} (hb : Below wr.heap.size wr w1) (h : wr.cell? ⟨w.heap.size + 1, 0, none⟩ = some (.int .i64 1) ∧ wr.cell? ⟨w.heap.size + 1, 1, none⟩ = some (.int .u64 (m : Int)) ∧ Blk wr w.heap.size 36 #[.int .i64 0, .int .u64 0] ∧ Below w.heap.size w wr) :
    w1.cell? ⟨w.heap.size + 1, 0, none⟩ = some (.int .i64 1) ∧ w1.cell? ⟨w.heap.size + 1, 1, none⟩ = some (.int .u64 (m : Int)) ∧ Blk w1 w.heap.size 36 #[.int .i64 0, .int .u64 0] ∧ Below w.heap.size w w1 :=
  ⟨cell_later hb h.1, cell_later hb h.2.1, h.2.2.1.kept hb, mmore h.2.2.2 hb⟩
theorem belM {w wr : World} {m : Nat} (h : wr.cell? ⟨w.heap.size + 1, 0, none⟩ = some (.int .i64 1) ∧ wr.cell? ⟨w.heap.size + 1, 1, none⟩ = some (.int .u64 (m : Int)) ∧ Blk wr w.heap.size 36 #[.int .i64 0, .int .u64 0] ∧ Below w.heap.size w wr) : Below w.heap.size w wr := h.2.2.2
def overP (op : Int) (vs : List (Int × Nat)) : Int × Nat := if op = 25 then (1, nU (vs.length : Int)) else if vs = [] then (0, 0) else aggP op vs

set_option maxHeartbeats 4000000 in
set_option maxRecDepth 100000 in
theorem rover_25 (A : Option Addr) (cap : Nat) (vs : List (Int × Nat)) (w : World) (hv : RowV w A vs.length vs) (hcap : vs.length ≤ cap) (hmax : cap ≤ maxLen) (hl : vs.length ≤ 1099511627776) :
    Calls Try.prog 20 #[.int .i64 25, .slice A vs.length cap] w (VIs (1, nU (vs.length : Int)) w) := by
  have e := nU_len hl
  rw [e]
  generalize vs.length = m at *
  go_enter Try.func20, Try.ntmps20
  go_wp2_with fail
  exact bodyPost_ret (v := .agg #[.int .i64 1, .int .u64 (m : Int)]) (by simp [results, Try.results20, go_sem]) rfl (.mk rfl (m2 _ _ _))

set_option maxHeartbeats 4000000 in
set_option maxRecDepth 100000 in
theorem rover_none (op : Int) (A : Option Addr) (cap : Nat) (w : World) (h25 : (op == 25) = false) :
    Calls Try.prog 20 #[.int .i64 op, .slice A 0 cap] w (VIs (0, 0) w) := by
  go_enter Try.func20, Try.ntmps20
  go_wp2_with fail
  exact bodyPost_ret (v := .agg #[.int .i64 0, .int .u64 0]) (by simp [results, Try.results20, go_sem]) rfl (.mk rfl (m2 _ _ _))

set_option maxHeartbeats 4000000 in
set_option maxRecDepth 100000 in
theorem rover_26 (A : Option Addr) (cap : Nat) (vs : List (Int × Nat)) (w : World) (hv : RowV w A vs.length vs) (hcap : vs.length ≤ cap) (hmax : cap ≤ maxLen) (hl : vs.length ≤ 1099511627776) (h0 : 0 < vs.length) :
    Calls Try.prog 20 #[.int .i64 26, .slice A vs.length cap] w (VIs (headP vs) w) := by
  have hu := m2 w (.cells #[.int .i64 0, .int .u64 0] 36) (.cells #[.int .i64 1, .int .u64 (vs.length : Int)] 36)
  have i1 : ((vs.length : Int) == 0) = false := by simp; intro e; simp [e] at h0
  have n1 : ¬ vs.length = 0 := by omega
  obtain ⟨v, hv0⟩ : ∃ v, vs[0]? = some v := ⟨vs[0], List.getElem?_eq_getElem h0⟩
  have hh : headP vs = v := by cases vs with | nil => simp at hv0 | cons a l => simp at hv0; subst hv0; rfl
  rw [hh]
  obtain ⟨b, off, rfl, c0, c1, _⟩ := (hv.later hu).at_ hv0
  obtain ⟨k, c⟩ := v
  simp only [Nat.zero_mul, Nat.add_zero] at c0 c1
  have i2 : (0 : Int) < (vs.length : Int) := by omega
  clear hv hv0 hh hcap hmax
  generalize vs.length = m at *
  go_enter Try.func20, Try.ntmps20
  go_wp2_with fail
  exact bodyPost_ret (v := .agg #[.int .i64 k, .int .u64 (c : Int)]) (by simp [results, Try.results20, go_sem]) rfl (.mk rfl (m2 _ _ _))

set_option maxHeartbeats 4000000 in
set_option maxRecDepth 100000 in
theorem rover_42 (A : Option Addr) (cap : Nat) (vs : List (Int × Nat)) (w : World) (hv : RowV w A vs.length vs) (hcap : vs.length ≤ cap) (hmax : cap ≤ maxLen) (hl : vs.length ≤ 1099511627776) (h0 : 0 < vs.length) :
    Calls Try.prog 20 #[.int .i64 42, .slice A vs.length cap] w (VIs (headP vs) w) := by
  have hu := m2 w (.cells #[.int .i64 0, .int .u64 0] 36) (.cells #[.int .i64 1, .int .u64 (vs.length : Int)] 36)
  have i1 : ((vs.length : Int) == 0) = false := by simp; intro e; simp [e] at h0
  have n1 : ¬ vs.length = 0 := by omega
  obtain ⟨v, hv0⟩ : ∃ v, vs[0]? = some v := ⟨vs[0], List.getElem?_eq_getElem h0⟩
  have hh : headP vs = v := by cases vs with | nil => simp at hv0 | cons a l => simp at hv0; subst hv0; rfl
  rw [hh]
  obtain ⟨b, off, rfl, c0, c1, _⟩ := (hv.later hu).at_ hv0
  obtain ⟨k, c⟩ := v
  simp only [Nat.zero_mul, Nat.add_zero] at c0 c1
  have i2 : (0 : Int) < (vs.length : Int) := by omega
  clear hv hv0 hh hcap hmax
  generalize vs.length = m at *
  go_enter Try.func20, Try.ntmps20
  go_wp2_with fail
  exact bodyPost_ret (v := .agg #[.int .i64 k, .int .u64 (c : Int)]) (by simp [results, Try.results20, go_sem]) rfl (.mk rfl (m2 _ _ _))

set_option maxHeartbeats 4000000 in
set_option maxRecDepth 100000 in
theorem rover_27 (A : Option Addr) (cap : Nat) (vs : List (Int × Nat)) (w : World) (hv : RowV w A vs.length vs) (hcap : vs.length ≤ cap) (hmax : cap ≤ maxLen) (hl : vs.length ≤ 1099511627776) (h0 : 0 < vs.length) :
    Calls Try.prog 20 #[.int .i64 27, .slice A vs.length cap] w (VIs (lastP vs) w) := by
  have hu := m2 w (.cells #[.int .i64 0, .int .u64 0] 36) (.cells #[.int .i64 1, .int .u64 (vs.length : Int)] 36)
  have i1 : ((vs.length : Int) == 0) = false := by simp; intro e; simp [e] at h0
  have n1 : ¬ vs.length = 0 := by omega
  obtain ⟨v, hv0⟩ : ∃ v, vs[vs.length - 1]? = some v := ⟨vs[vs.length - 1], List.getElem?_eq_getElem (by omega)⟩
  have hh : lastP vs = v := by unfold lastP; rw [List.getLastD_eq_getLast?, List.getLast?_eq_getElem?, hv0]; rfl
  rw [hh]
  obtain ⟨b, off, rfl, c0, c1, _⟩ := (hv.later hu).at_ hv0
  obtain ⟨k, c⟩ := v
  have w1 : IntKind.i64.wrap ((vs.length : Int) - 1) = ((vs.length - 1 : Nat) : Int) := by rw [IntKind.wrap_i64]; omega
  have i2 : ((vs.length - 1 : Nat) : Int) < (vs.length : Int) := by omega
  clear hv hv0 hh hcap hmax
  simp only at c0 c1
  generalize vs.length - 1 = j at *
  generalize vs.length = m at *
  go_enter Try.func20, Try.ntmps20
  go_wp2_with fail
  exact bodyPost_ret (v := .agg #[.int .i64 k, .int .u64 (c : Int)]) (by simp [results, Try.results20, go_sem]) rfl (.mk rfl (m2 _ _ _))

set_option maxHeartbeats 4000000 in
set_option maxRecDepth 100000 in
theorem rover_28 (A : Option Addr) (cap : Nat) (vs : List (Int × Nat)) (w : World) (hv : RowV w A vs.length vs) (hcap : vs.length ≤ cap) (hmax : cap ≤ maxLen) (hl : vs.length ≤ 1099511627776) (h0 : 0 < vs.length) :
    Calls Try.prog 20 #[.int .i64 28, .slice A vs.length cap] w (VIs (sumP vs) w) := by
  have hu := m2 w (.cells #[.int .i64 0, .int .u64 0] 36) (.cells #[.int .i64 1, .int .u64 (vs.length : Int)] 36)
  have i1 : ((vs.length : Int) == 0) = false := by simp; intro e; simp [e] at h0
  have n1 : ¬ vs.length = 0 := by omega
  have O := rsum_any vs.length A cap vs _ rfl (hv.later hu) h0 hcap hmax hl
  generalize sumP vs = x at *
  obtain ⟨xk, xb⟩ := x
  replace O := Lib.hid O
  replace hu := Lib.hid hu
  clear hv hcap hmax
  generalize vs.length = m at *
  go_enter Try.func20, Try.ntmps20
  go_wp2_with fail
  refine O.out.mono ?_; rintro e w1 ⟨rfl, hb1⟩
  obtain ⟨hc, hf⟩ := bcell hb1
  obtain ⟨_, r1, r2⟩ := put2 (w := w1) (g := w.heap.size) (.int .i64 xk) (.int .u64 (xb : Int)) (x := .int .i64 0) (y := .int .u64 0) (by rw [hc _ _ (by simp; omega)]; simp [go_sem]) (by rw [hc _ _ (by simp; omega)]; simp [go_sem])
  go_wp2
  exact bodyPost_ret (v := .agg #[.int .i64 xk, .int .u64 (xb : Int)]) (by simp [results, Try.results20, go_sem, r1, r2]) rfl (.mk rfl (((mmore hu.out hb1).setCell (Nat.le_refl _) _).setCell (Nat.le_refl _) _))

set_option maxHeartbeats 4000000 in
set_option maxRecDepth 100000 in
theorem rover_29 (A : Option Addr) (cap : Nat) (vs : List (Int × Nat)) (w : World) (hv : RowV w A vs.length vs) (hcap : vs.length ≤ cap) (hmax : cap ≤ maxLen) (hl : vs.length ≤ 1099511627776) (h0 : 0 < vs.length) :
    Calls Try.prog 20 #[.int .i64 29, .slice A vs.length cap] w (VIs (extP false vs) w) := by
  have hu := m2 w (.cells #[.int .i64 0, .int .u64 0] 36) (.cells #[.int .i64 1, .int .u64 (vs.length : Int)] 36)
  have i1 : ((vs.length : Int) == 0) = false := by simp; intro e; simp [e] at h0
  have n1 : ¬ vs.length = 0 := by omega
  have O := rend_any A cap false vs _ (hv.later hu) h0 (by omega)
  generalize extP false vs = x at *
  obtain ⟨xk, xb⟩ := x
  replace O := Lib.hid O
  replace hu := Lib.hid hu
  clear hv hcap hmax
  generalize vs.length = m at *
  go_enter Try.func20, Try.ntmps20
  go_wp2_with fail
  refine O.out.mono ?_; rintro e w1 ⟨rfl, hb1⟩
  obtain ⟨hc, hf⟩ := bcell hb1
  obtain ⟨_, r1, r2⟩ := put2 (w := w1) (g := w.heap.size) (.int .i64 xk) (.int .u64 (xb : Int)) (x := .int .i64 0) (y := .int .u64 0) (by rw [hc _ _ (by simp; omega)]; simp [go_sem]) (by rw [hc _ _ (by simp; omega)]; simp [go_sem])
  go_wp2
  exact bodyPost_ret (v := .agg #[.int .i64 xk, .int .u64 (xb : Int)]) (by simp [results, Try.results20, go_sem, r1, r2]) rfl (.mk rfl (((mmore hu.out hb1).setCell (Nat.le_refl _) _).setCell (Nat.le_refl _) _))

set_option maxHeartbeats 4000000 in
set_option maxRecDepth 100000 in
theorem rover_30 (A : Option Addr) (cap : Nat) (vs : List (Int × Nat)) (w : World) (hv : RowV w A vs.length vs) (hcap : vs.length ≤ cap) (hmax : cap ≤ maxLen) (hl : vs.length ≤ 1099511627776) (h0 : 0 < vs.length) :
    Calls Try.prog 20 #[.int .i64 30, .slice A vs.length cap] w (VIs (extP true vs) w) := by
  have hu := m2 w (.cells #[.int .i64 0, .int .u64 0] 36) (.cells #[.int .i64 1, .int .u64 (vs.length : Int)] 36)
  have i1 : ((vs.length : Int) == 0) = false := by simp; intro e; simp [e] at h0
  have n1 : ¬ vs.length = 0 := by omega
  have O := rend_any A cap true vs _ (hv.later hu) h0 (by omega)
  generalize extP true vs = x at *
  obtain ⟨xk, xb⟩ := x
  replace O := Lib.hid O
  replace hu := Lib.hid hu
  clear hv hcap hmax
  generalize vs.length = m at *
  go_enter Try.func20, Try.ntmps20
  go_wp2_with fail
  refine O.out.mono ?_; rintro e w1 ⟨rfl, hb1⟩
  obtain ⟨hc, hf⟩ := bcell hb1
  obtain ⟨_, r1, r2⟩ := put2 (w := w1) (g := w.heap.size) (.int .i64 xk) (.int .u64 (xb : Int)) (x := .int .i64 0) (y := .int .u64 0) (by rw [hc _ _ (by simp; omega)]; simp [go_sem]) (by rw [hc _ _ (by simp; omega)]; simp [go_sem])
  go_wp2
  exact bodyPost_ret (v := .agg #[.int .i64 xk, .int .u64 (xb : Int)]) (by simp [results, Try.results20, go_sem, r1, r2]) rfl (.mk rfl (((mmore hu.out hb1).setCell (Nat.le_refl _) _).setCell (Nat.le_refl _) _))

set_option maxHeartbeats 4000000 in
set_option maxRecDepth 100000 in
theorem rover_31 (A : Option Addr) (cap : Nat) (vs : List (Int × Nat)) (w : World) (hv : RowV w A vs.length vs) (hcap : vs.length ≤ cap) (hmax : cap ≤ maxLen) (hl : vs.length ≤ 1099511627776) (h0 : 0 < vs.length) :
    Calls Try.prog 20 #[.int .i64 31, .slice A vs.length cap] w (VIs (meanP vs) w) := by
  have hu := m2 w (.cells #[.int .i64 0, .int .u64 0] 36) (.cells #[.int .i64 1, .int .u64 (vs.length : Int)] 36)
  have i1 : ((vs.length : Int) == 0) = false := by simp; intro e; simp [e] at h0
  have n1 : ¬ vs.length = 0 := by omega
  have O := fun wz (hb : Below w.heap.size w wz) => rsum_any vs.length A cap vs wz rfl (hv.later hb) h0 hcap hmax hl
  have hsl := sumP_lt w hv.2.1
  unfold meanP
  generalize sumP vs = s at *
  obtain ⟨sk, sb⟩ := s
  rw [nU_len hl]
  have hnl : vs.length < 18446744073709551616 := by omega
  have hcl := app_lt 16 [(1, vs.length)] w (by intro x hx; simp at hx; subst hx; exact hnl)
  have C := fun w (g : Nat) (h : RowV w (some ⟨g, 0, none⟩) 1 [(1, vs.length)]) => rapply_any 16 (some ⟨g, 0, none⟩) 1 1 [(1, vs.length)] w h (by omega)
  generalize appP 16 [(1, vs.length)] = c at *
  obtain ⟨ck, cb⟩ := c
  simp only at hsl hcl
  have D := fun w (g : Nat) (h : RowV w (some ⟨g, 0, none⟩) 2 [(sk, sb), (ck, cb)]) => rapply_any 4 (some ⟨g, 0, none⟩) 2 2 [(sk, sb), (ck, cb)] w h (by omega)
  generalize appP 4 [(sk, sb), (ck, cb)] = x at *
  obtain ⟨xk, xb⟩ := x
  simp only at C D
  have z0 := (Blk.made w 36 #[.int .i64 0, .int .u64 0]).kept (m1 _ (.cells #[.int .i64 1, .int .u64 (vs.length : Int)] 36))
  have y0 : ((w.alloc (.cells #[.int .i64 0, .int .u64 0] 36)).alloc (.cells #[.int .i64 1, .int .u64 (vs.length : Int)] 36)).cell? ⟨w.heap.size + 1, 0, none⟩ = some (.int .i64 1) := by simp [go_sem]
  have y1 : ((w.alloc (.cells #[.int .i64 0, .int .u64 0] 36)).alloc (.cells #[.int .i64 1, .int .u64 (vs.length : Int)] 36)).cell? ⟨w.heap.size + 1, 1, none⟩ = some (.int .u64 (vs.length : Int)) := by simp [go_sem]
  replace O := Lib.hid O
  replace C := Lib.hid C
  replace D := Lib.hid D
  replace hcap := Lib.hid hcap
  clear hv hmax
  generalize vs.length = m at *
  go_enter Try.func20, Try.ntmps20
  go_wp2_with fail
  generalize (w.alloc (.cells #[.int .i64 0, .int .u64 0] 36)).alloc (.cells #[.int .i64 1, .int .u64 (m : Int)] 36) = u at *
  have S0 : u.drew.cell? ⟨w.heap.size + 1, 0, none⟩ = some (.int .i64 1) ∧ u.drew.cell? ⟨w.heap.size + 1, 1, none⟩ = some (.int .u64 (m : Int)) ∧ Blk u.drew w.heap.size 36 #[.int .i64 0, .int .u64 0] ∧ Below w.heap.size w u.drew := ⟨y0, y1, z0, hu.drew⟩
  clear y0 y1 z0 hu
  have KD := G.keepsD_true []
  have KC : G.KeepsC (fun w' => w'.cell? ⟨w.heap.size + 1, 0, none⟩ = some (.int .i64 1) ∧ w'.cell? ⟨w.heap.size + 1, 1, none⟩ = some (.int .u64 (m : Int)) ∧ Blk w' w.heap.size 36 #[.int .i64 0, .int .u64 0] ∧ Below w.heap.size w w') := fun _ _ h hb => keepM hb h
  refine G.region_wordsG 7 (fun w' => w'.cell? ⟨w.heap.size + 1, 0, none⟩ = some (.int .i64 1) ∧ w'.cell? ⟨w.heap.size + 1, 1, none⟩ = some (.int .u64 (m : Int)) ∧ Blk w' w.heap.size 36 #[.int .i64 0, .int .u64 0] ∧ Below w.heap.size w w') (fun _ _ => True) [G.isW (.slice A m cap), G.isW (.agg #[.int .i64 sk, .int .u64 (sb : Int)]), G.isW (.agg #[.int .i64 1, .int .u64 (m : Int)]), OneW (1, m), G.isW (.agg #[.int .i64 ck, .int .u64 (cb : Int)]), PairW (sk, sb) (ck, cb), G.isW (.agg #[.int .i64 xk, .int .u64 (xb : Int)])] (by kernel_rfl) (by repeat' (first | exact G.monoL_nil | exact G.is_mono _ | exact G.any_mono | exact pairw_mono _ _ | exact onew_mono _ | refine G.monoL_cons ?_ ?_)) (by kernel_rfl) (by kernel_rfl) S0 trivial ?_ ?_
  ·
    refine G.stepsL_cons (fun a u hc hdd hd hk hdep => ?_) ?_
    ·
      have d1 : (a.tmps[1]?).getD undef = (.slice A m cap) := hk 1 (by kernel_rfl)
      refine G.step_val KC KD hc hdd rfl (.slice A m cap) u (G.wanted_plain rfl) ?_ rfl (Below.refl _ _)
      first | (go_simp; done) | rfl | (simp [go_sem, *]; done)
    refine G.stepsL_cons (fun a u hc hdd hd hk hdep => ?_) ?_
    ·
      have d39 : (a.tmps[39]?).getD undef = (.slice A m cap) := hdep ⟨0, .data⟩ (by simp) rfl
      refine G.step_call KC KD hc hdd rfl 31 #[.slice A m cap] (G.wanted_plain rfl) (by first | (go_simp; done) | rfl) ?_
      exact (O.out u hc.2.2.2).mono (by rintro e w' ⟨rfl, hb⟩; exact ⟨_, rfl, rfl, hb⟩)
    refine G.stepsL_cons (fun a u hc hdd hd hk hdep => ?_) ?_
    ·
      have d5 : (a.tmps[5]?).getD undef = (.pointer (some ⟨w.heap.size + 1, 0, none⟩)) := hk 5 (by kernel_rfl)
      refine G.step_val KC KD hc hdd rfl (.agg #[.int .i64 1, .int .u64 (m : Int)]) u (G.wanted_plain rfl) ?_ rfl (Below.refl _ _)
      first | (go_simp; done) | rfl | (simp [go_sem, *]; done)
    refine G.stepsL_cons (fun a u hc hdd hd hk hdep => ?_) ?_
    ·
      have d41 : (a.tmps[41]?).getD undef = (.agg #[.int .i64 1, .int .u64 (m : Int)]) := hdep ⟨2, .data⟩ (by simp) rfl
      refine G.step_val KC KD hc hdd rfl (.slice (some ⟨u.heap.size, 0, none⟩) 1 1) (u.alloc (.cells #[.int .i64 1, .int .u64 (m : Int)] 36)) (G.wanted_plain rfl) ?_ ⟨u.heap.size, rfl, row_one (k1 := 1) hnl (by simp [go_sem]) (by simp [go_sem])⟩ (m1 _ _)
      first | (go_simp; done) | rfl | (simp [go_sem, *]; done)
    refine G.stepsL_cons (fun a u hc hdd hd hk hdep => ?_) ?_
    ·
      have d42' : (OneW (1, m)) ((a.tmps[42]?).getD undef) u := hdep ⟨3, .data⟩ (by simp) rfl
      obtain ⟨gp, d42, hp⟩ := d42'
      refine G.step_call KC KD hc hdd rfl 21 #[.int .i64 16, .slice (some ⟨gp, 0, none⟩) 1 1] (G.wanted_plain rfl) (by first | (go_simp; done) | rfl) ?_
      exact (C.out u gp hp).mono (by rintro e w' ⟨rfl, hb⟩; exact ⟨_, rfl, rfl, hb⟩)
    refine G.stepsL_cons (fun a u hc hdd hd hk hdep => ?_) ?_
    ·
      have d40 : (a.tmps[40]?).getD undef = (.agg #[.int .i64 sk, .int .u64 (sb : Int)]) := hdep ⟨1, .data⟩ (by simp) rfl
      have d43 : (a.tmps[43]?).getD undef = (.agg #[.int .i64 ck, .int .u64 (cb : Int)]) := hdep ⟨4, .data⟩ (by simp) rfl
      refine G.step_val KC KD hc hdd rfl (.slice (some ⟨u.heap.size, 0, none⟩) 2 2) (u.alloc (.cells #[.int .i64 sk, .int .u64 (sb : Int), .int .i64 ck, .int .u64 (cb : Int)] 36)) (G.wanted_plain rfl) ?_ ⟨u.heap.size, rfl, row_two (k1 := sk) (k2 := ck) hsl hcl (by simp [go_sem]) (by simp [go_sem]) (by simp [go_sem]) (by simp [go_sem])⟩ (m1 _ _)
      first | (go_simp; done) | rfl | (simp [go_sem, *]; done)
    refine G.stepsL_cons (fun a u hc hdd hd hk hdep => ?_) ?_
    ·
      have d44' : (PairW (sk, sb) (ck, cb)) ((a.tmps[44]?).getD undef) u := hdep ⟨5, .data⟩ (by simp) rfl
      obtain ⟨gq, d44, hq⟩ := d44'
      refine G.step_call KC KD hc hdd rfl 21 #[.int .i64 4, .slice (some ⟨gq, 0, none⟩) 2 2] (G.wanted_plain rfl) (by first | (go_simp; done) | rfl) ?_
      exact (D.out u gq hq).mono (by rintro e w' ⟨rfl, hb⟩; exact ⟨_, rfl, rfl, hb⟩)
    exact G.stepsL_nil
  intro vs' wN hN _ hh
  have e6 : vs' 6 = (.agg #[.int .i64 xk, .int .u64 (xb : Int)]) := by
    obtain ⟨-, -, -, -, -, -, eX, -⟩ := hh
    exact eX
  obtain ⟨-, -, z6, hu6⟩ := hN
  have x0 : wN.cell? ⟨w.heap.size, 0, none⟩ = some (.int .i64 0) := z6.cell 0
  have x1 : wN.cell? ⟨w.heap.size, 1, none⟩ = some (.int .u64 0) := z6.cell 1
  have f0 : wN.frozen? ⟨w.heap.size, 0, none⟩ = false := z6.free 0
  have f1 : wN.frozen? ⟨w.heap.size, 1, none⟩ = false := z6.free 1
  obtain ⟨_, r1, r2⟩ := put2 (w := wN) (g := w.heap.size) (.int .i64 xk) (.int .u64 (xb : Int)) x0 x1
  replace r1 := Lib.hid r1
  replace r2 := Lib.hid r2
  clear hh S0
  set_option maxRecDepth 100000 in simp only [List.take_succ_cons, List.take_zero, putAll, Act.put, List.setIfInBounds_toArray, List.set_cons_zero, List.set_cons_succ, Nat.reduceAdd, e6]
  refine wpAny_ready (rs := [7]) (by kernel_rfl) (by simp) ?_
  refine AllReady.cons rfl (fun K hK => ?_) AllReady.nil
  go_simp
  refine hK _ _ ?_
  clear hK K
  refine wpAny_done (by kernel_rfl) ?_ _
  go_wp2
  exact bodyPost_ret (v := .agg #[.int .i64 xk, .int .u64 (xb : Int)]) (by simp [results, Try.results20, go_sem, r1.out, r2.out]) rfl (.mk rfl ((hu6.setCell (Nat.le_refl _) _).setCell (Nat.le_refl _) _))


end Go.Proofs.Ytfjnphiegoogoaa
