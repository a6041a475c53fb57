/- LkD, LkE -/
import Derived.Test.YtfjnphiegoogoaaZ06
/- LkD -/
namespace Go.Proofs.Ytfjnphiegoogoaa
open Go.ChangeShapes Go.WideShapes Go.ChangeAt Go.RowKit Go.Fl
set_option linter.unusedVariables false
set_option linter.unusedSimpArgs false

def sd (last : Bool) : Int := if last then 1 else -1
def extGo (last : Bool) : Int × Nat → List (Int × Nat) → Int × Nat
  | t, [] => t
  | t, y :: l => if y.1 = 1 ∧ t.1 = 1 then extGo last (if vordP y.1 y.2 t.1 t.2 = sd last then y else t) l else if y.1 = 4 ∧ t.1 = 4 then extGo last (4, pickP t.2 y.2 last) l else (0, 0)
def extP (last : Bool) (vs : List (Int × Nat)) : Int × Nat :=
  match vs with
  | [] => (0, 0)
  | v :: l => extGo last v (v :: l)
theorem pickP_lt {a b : Nat} {last : Bool} (ha : a < 18446744073709551616) (hb : b < 18446744073709551616) : pickP a b last < 18446744073709551616 := by
  unfold pickP; (repeat' split) <;> omega
def ExtR (w : World) (last : Bool) (vs : List (Int × Nat)) (R : Int × Nat) (k : Nat) (wr : World) : Prop :=
  ∃ t : Int × Nat, Blk wr (w.heap.size + 1) 25 #[.int .i64 t.1, .int .u64 (t.2 : Int)] ∧ extGo last t (vs.drop k) = R ∧ t.2 < 18446744073709551616 ∧ Blk wr w.heap.size 25 #[.int .i64 0, .int .u64 0] ∧ Below w.heap.size w wr
/-- what a round needs to know of memory -/
def ExtJ (w : World) (sb pb : Nat) (s : Int) (f : Value) (tk : Int) (tb : Nat) (g : Nat) (yk : Int) (yb : Nat) (wr : World) : Prop :=
  Blk wr (w.heap.size + 1) 25 #[.int .i64 tk, .int .u64 (tb : Int)] ∧ Blk wr w.heap.size 25 #[.int .i64 0, .int .u64 0] ∧ Blk wr g 25 #[.int .i64 yk, .int .u64 (yb : Int)] ∧ Below w.heap.size w wr ∧
  wr.cell? ⟨sb, 0, none⟩ = some (.int .i64 s) ∧ wr.cell? ⟨pb, 0, none⟩ = some f
theorem ExtJ.later {w wr w1 : World} {sb pb g : Nat} {s tk yk : Int} {f : Value} {tb yb : Nat} (h : ExtJ w sb pb s f tk tb g yk yb wr) (hb : Below wr.heap.size wr w1) : ExtJ w sb pb s f tk tb g yk yb w1 :=
  ⟨h.1.kept hb, h.2.1.kept hb, h.2.2.1.kept hb, mmore h.2.2.2.1 hb, cell_later hb h.2.2.2.2.1, cell_later hb h.2.2.2.2.2⟩
theorem ExtJ.drew {w wr : World} {sb pb g : Nat} {s tk yk : Int} {f : Value} {tb yb : Nat} (h : ExtJ w sb pb s f tk tb g yk yb wr) : ExtJ w sb pb s f tk tb g yk yb wr.drew :=
  ⟨h.1, h.2.1, h.2.2.1, h.2.2.2.1.drew, h.2.2.2.2.1, h.2.2.2.2.2⟩
theorem ExtJ.facts {w wr : World} {sb pb g : Nat} {s tk yk : Int} {f : Value} {tb yb : Nat} (h : ExtJ w sb pb s f tk tb g yk yb wr) :
    wr.cell? ⟨w.heap.size + 1, 0, none⟩ = some (.int .i64 tk) ∧ wr.cell? ⟨w.heap.size + 1, 1, none⟩ = some (.int .u64 (tb : Int)) ∧ wr.cell? ⟨g, 0, none⟩ = some (.int .i64 yk) ∧ wr.cell? ⟨g, 1, none⟩ = some (.int .u64 (yb : Int)) ∧
    wr.cell? ⟨sb, 0, none⟩ = some (.int .i64 s) ∧ wr.cell? ⟨pb, 0, none⟩ = some f ∧ wr.cell? ⟨w.heap.size, 0, none⟩ = some (.int .i64 0) ∧ wr.cell? ⟨w.heap.size, 1, none⟩ = some (.int .u64 0) ∧
    wr.frozen? ⟨w.heap.size + 1, 0, none⟩ = false ∧ wr.frozen? ⟨w.heap.size + 1, 1, none⟩ = false ∧ wr.frozen? ⟨w.heap.size, 0, none⟩ = false ∧ wr.frozen? ⟨w.heap.size, 1, none⟩ = false :=
  ⟨h.1.cell 0, h.1.cell 1, h.2.2.1.cell 0, h.2.2.1.cell 1, h.2.2.2.2.1, h.2.2.2.2.2, h.2.1.cell 0, h.2.1.cell 1, h.1.free 0, h.1.free 1, h.2.1.free 0, h.2.1.free 1⟩
theorem keepE {w wr w1 : World} {sb pb g : Nat} {s tk yk : Int} {f : Value} {tb yb : Nat} {a0 a1 a2 a3 a4 : Addr} {v0 v1 v2 v3 v4 : Value} (hb : Below wr.heap.size wr w1) (h : wr.cell? a0 = some v0 ∧ wr.cell? a1 = some v1 ∧ wr.cell? a2 = some v2 ∧ wr.cell? a3 = some v3 ∧ wr.cell? a4 = some v4 ∧ ExtJ w sb pb s f tk tb g yk yb wr) :
    w1.cell? a0 = some v0 ∧ w1.cell? a1 = some v1 ∧ w1.cell? a2 = some v2 ∧ w1.cell? a3 = some v3 ∧ w1.cell? a4 = some v4 ∧ ExtJ w sb pb s f tk tb g yk yb w1 :=
  ⟨cell_later hb h.1, cell_later hb h.2.1, cell_later hb h.2.2.1, cell_later hb h.2.2.2.1, cell_later hb h.2.2.2.2.1, h.2.2.2.2.2.later hb⟩
/-- behind a store of the best one's cells -/
theorem ExtJ.put {w wr : World} {sb pb g : Nat} {s tk yk xk : Int} {f : Value} {tb yb xb : Nat} (h : ExtJ w sb pb s f tk tb g yk yb wr) :
    Blk ((wr.setCell ⟨w.heap.size + 1, 0, none⟩ (.int .i64 xk)).setCell ⟨w.heap.size + 1, 1, none⟩ (.int .u64 (xb : Int))) (w.heap.size + 1) 25 #[.int .i64 xk, .int .u64 (xb : Int)] ∧
    Blk ((wr.setCell ⟨w.heap.size + 1, 0, none⟩ (.int .i64 xk)).setCell ⟨w.heap.size + 1, 1, none⟩ (.int .u64 (xb : Int))) w.heap.size 25 #[.int .i64 0, .int .u64 0] ∧
    Below w.heap.size w ((wr.setCell ⟨w.heap.size + 1, 0, none⟩ (.int .i64 xk)).setCell ⟨w.heap.size + 1, 1, none⟩ (.int .u64 (xb : Int))) :=
  ⟨by simpa using (h.1.put_ 0 (.int .i64 xk)).put_ 1 (.int .u64 (xb : Int)),
   (h.2.1.else_ (p := ⟨w.heap.size + 1, 0, none⟩) (by show w.heap.size + 1 ≠ w.heap.size; omega) _).else_ (p := ⟨w.heap.size + 1, 1, none⟩) (by show w.heap.size + 1 ≠ w.heap.size; omega) _,
   (h.2.2.2.1.setCell (p := ⟨w.heap.size + 1, 0, none⟩) (by show w.heap.size ≤ w.heap.size + 1; omega) _).setCell (p := ⟨w.heap.size + 1, 1, none⟩) (by show w.heap.size ≤ w.heap.size + 1; omega) _⟩
theorem ExtJ.put1 {w wr : World} {sb pb g : Nat} {s tk yk : Int} {f : Value} {tb yb xb : Nat} (h : ExtJ w sb pb s f tk tb g yk yb wr) :
    Blk (wr.setCell ⟨w.heap.size + 1, 1, none⟩ (.int .u64 (xb : Int))) (w.heap.size + 1) 25 #[.int .i64 tk, .int .u64 (xb : Int)] ∧
    Blk (wr.setCell ⟨w.heap.size + 1, 1, none⟩ (.int .u64 (xb : Int))) w.heap.size 25 #[.int .i64 0, .int .u64 0] ∧
    Below w.heap.size w (wr.setCell ⟨w.heap.size + 1, 1, none⟩ (.int .u64 (xb : Int))) :=
  ⟨by simpa using h.1.put_ 1 (.int .u64 (xb : Int)), h.2.1.else_ (p := ⟨w.heap.size + 1, 1, none⟩) (by show w.heap.size + 1 ≠ w.heap.size; omega) _, h.2.2.2.1.setCell (p := ⟨w.heap.size + 1, 1, none⟩) (by show w.heap.size ≤ w.heap.size + 1; omega) _⟩

set_option maxHeartbeats 8000000 in
set_option maxRecDepth 100000 in
theorem ext_false (A : Option Addr) (sb pb : Nat) (vs : List (Int × Nat)) (w : World) (hv : RowV w A vs.length vs) (h0 : 0 < vs.length) (hl : vs.length ≤ 9223372036854775807) (hs : w.cell? ⟨sb, 0, none⟩ = some (.int .i64 (-1))) (hp : w.cell? ⟨pb, 0, none⟩ = some (.func (.func 91) #[] #[])) :
    Calls Try.prog 95 #[.slice A vs.length vs.length, .pointer (some ⟨sb, 0, none⟩), .pointer (some ⟨pb, 0, none⟩)] w (VIs (extP false vs) w) := by
  obtain ⟨v, hv0⟩ : ∃ v, vs[0]? = some v := ⟨vs[0], List.getElem?_eq_getElem h0⟩
  have hx : extP false vs = extGo false v vs := by cases vs with | nil => simp at h0 | cons a l => simp at hv0; subst hv0; rfl
  rw [hx]
  generalize hR : extGo false v vs = R
  have hu := m1 w (.cells #[.int .i64 0, .int .u64 0] 25)
  obtain ⟨b, off, rfl, c0, c1, vlt⟩ := (hv.later hu).at_ hv0
  obtain ⟨vk, vb⟩ := v
  simp only [Nat.zero_mul, Nat.add_zero] at c0 c1 vlt
  have hcl : ∀ k y, vs[k]? = some y → w.cell? ⟨b, off + k * 2, none⟩ = some (.int .i64 y.1) ∧ w.cell? ⟨b, off + k * 2 + 1, none⟩ = some (.int .u64 (y.2 : Int)) ∧ y.2 < 18446744073709551616 := fun k y h => by
    obtain ⟨b', off', e, d0, d1, d2⟩ := hv.at_ h
    simp only [Option.some.injEq, Addr.mk.injEq, and_true] at e
    obtain ⟨rfl, rfl⟩ := e
    exact ⟨d0, d1, d2⟩
  have k0 : Blk ((w.alloc (.cells #[.int .i64 0, .int .u64 0] 25)).alloc (.cells #[.int .i64 vk, .int .u64 (vb : Int)] 25)) (w.heap.size + 1) 25 #[.int .i64 vk, .int .u64 (vb : Int)] := by
    have := Blk.made (w.alloc (.cells #[.int .i64 0, .int .u64 0] 25)) 25 #[.int .i64 vk, .int .u64 (vb : Int)]
    simpa using this
  have z0 : Blk ((w.alloc (.cells #[.int .i64 0, .int .u64 0] 25)).alloc (.cells #[.int .i64 vk, .int .u64 (vb : Int)] 25)) w.heap.size 25 #[.int .i64 0, .int .u64 0] :=
    (Blk.made w 25 #[.int .i64 0, .int .u64 0]).kept (m1 _ _)
  have s0 : ExtR w false vs R 0 ((w.alloc (.cells #[.int .i64 0, .int .u64 0] 25)).alloc (.cells #[.int .i64 vk, .int .u64 (vb : Int)] 25)) :=
    ⟨(vk, vb), k0, by simpa using hR, vlt, z0, m2 _ _ _⟩
  replace s0 := Lib.hid s0
  replace hcl := Lib.hid hcl
  have i1 : (0 : Int) < (vs.length : Int) := by omega
  clear hv hv0 hx hu k0 z0 hR
  go_enter Try.func95, Try.ntmps95
  go_wp2
  go_loopw [13] (fun i wr => ∃ k : Nat, k ≤ vs.length ∧ i = .int .i64 (k : Int) ∧ ExtR w false vs R k wr) (fun i _ => vs.length - (intOf i).toNat)
  case atStart => exact ⟨0, Nat.zero_le _, rfl, s0.out⟩
  case round =>
    obtain ⟨k, hk, rfl, ⟨tk, tb⟩, hT, hR, hlt, hZ, hW⟩ := hrel
    clear s0 c0 c1
    by_cases hkl : k < vs.length
    · have hrk : vs[k]? = some (vs[k].1, vs[k].2) := List.getElem?_eq_getElem hkl
      rw [List.drop_eq_getElem_cons hkl] at hR
      obtain ⟨d0, d1, d2⟩ := hcl.out k _ hrk
      generalize vs[k] = y at *
      obtain ⟨yk, yb⟩ := y
      simp only at hT hlt d0 d1 d2 hR
      rw [extGo] at hR
      simp only at hR
      have J := ExtJ.later (w := w) (sb := sb) (pb := pb) (s := (-1)) (f := .func (.func 91) #[] #[]) (tk := tk) (tb := tb) (g := wr.heap.size) (yk := yk) (yb := yb) (wr := wr.alloc (.cells #[.int .i64 yk, .int .u64 (yb : Int)] 25))
        ⟨hT.kept (m1 _ _), hZ.kept (m1 _ _), Blk.made _ _ _, mmore hW (m1 _ _), cell_later (m1 _ _) (cell_later hW hs), cell_later (m1 _ _) (cell_later hW hp)⟩ (Below.refl _ _)
      have d0 := cell_later hW d0
      have d1 := cell_later hW d1
      have hs1 := hW.size
      have g0 : w.heap.size + 1 < wr.heap.size := hT.lt
      clear hrk hT hZ hW hs hp
      have i2 : (k : Int) < (vs.length : Int) := by omega
      by_cases a1 : yk = 1 ∧ tk = 1
      · obtain ⟨rfl, rfl⟩ := a1
        rw [if_pos ⟨rfl, rfl⟩] at hR
        have O := Lib.hid (fun w => order_v 1 1 yb tb w d2 hlt)
        by_cases o : vordP 1 yb 1 tb = (-1)
        · rw [if_pos (show vordP 1 yb 1 tb = sd false from o)] at hR
          have o' : (vordP 1 yb 1 tb == (-1)) = true := by simpa using o
          generalize vordP 1 yb 1 tb = q at *
          replace hR := Lib.hid hR
          clear o
          go_upto_region 6 with (fail)
          generalize wr.alloc (.cells #[.int .i64 1, .int .u64 (yb : Int)] 25) = wa at *
          generalize wr.heap.size = g at *
          obtain ⟨j0, j1, j2, j3, j4, j5, j6, j7, j8, j9, j10, j11⟩ := J.facts
          replace J := Lib.hid J
          clear d0 d1
          go_wp2
          go_region_held3 (fun w' => w'.cell? ⟨w.heap.size + 1, 0, none⟩ = some (.int .i64 1) ∧ w'.cell? ⟨w.heap.size + 1, 1, none⟩ = some (.int .u64 (tb : Int)) ∧ w'.cell? ⟨g, 0, none⟩ = some (.int .i64 1) ∧ w'.cell? ⟨g, 1, none⟩ = some (.int .u64 (yb : Int)) ∧ w'.cell? ⟨sb, 0, none⟩ = some (.int .i64 (-1)) ∧ ExtJ w sb pb (-1) (.func (.func 91) #[] #[]) 1 tb g 1 yb w') (first | exact ⟨j0, j1, j2, j3, j4, J.out.drew⟩ | go_keep | exact keepE hb1 (by first | assumption | exact ⟨by assumption, by assumption, by assumption, by assumption, by assumption, by assumption⟩)) (first | (go_at_call 96; refine (O.out _).mono ?_; rintro e w1 ⟨rfl, hb1⟩))
          rename_i hS
          have J2 := hS.2.2.2.2.2
          have P2 := Lib.hid (J2.put (xk := 1) (xb := yb))
          obtain ⟨l0, l1, l2, l3, l4, l5, l6, l7, l8, l9, l10, l11⟩ := J2.facts
          replace J2 := Lib.hid J2
          clear hS j0 j1 j2 j3 j4 j5 j6 j7 j8 j9 j10 j11
          go_wp2
          go_roundw
          case rel => exact ⟨k + 1, by omega, by go_num, (1, yb), P2.out.1, hR.out, d2, P2.out.2.1, P2.out.2.2⟩
          case measure => simp [intOf]; omega
        · rw [if_neg (show ¬ vordP 1 yb 1 tb = sd false from o)] at hR
          have o' : (vordP 1 yb 1 tb == (-1)) = false := by simpa using o
          generalize vordP 1 yb 1 tb = q at *
          replace hR := Lib.hid hR
          clear o
          go_upto_region 6 with (fail)
          generalize wr.alloc (.cells #[.int .i64 1, .int .u64 (yb : Int)] 25) = wa at *
          generalize wr.heap.size = g at *
          obtain ⟨j0, j1, j2, j3, j4, j5, j6, j7, j8, j9, j10, j11⟩ := J.facts
          replace J := Lib.hid J
          clear d0 d1
          go_wp2
          go_region_held3 (fun w' => w'.cell? ⟨w.heap.size + 1, 0, none⟩ = some (.int .i64 1) ∧ w'.cell? ⟨w.heap.size + 1, 1, none⟩ = some (.int .u64 (tb : Int)) ∧ w'.cell? ⟨g, 0, none⟩ = some (.int .i64 1) ∧ w'.cell? ⟨g, 1, none⟩ = some (.int .u64 (yb : Int)) ∧ w'.cell? ⟨sb, 0, none⟩ = some (.int .i64 (-1)) ∧ ExtJ w sb pb (-1) (.func (.func 91) #[] #[]) 1 tb g 1 yb w') (first | exact ⟨j0, j1, j2, j3, j4, J.out.drew⟩ | go_keep | exact keepE hb1 (by first | assumption | exact ⟨by assumption, by assumption, by assumption, by assumption, by assumption, by assumption⟩)) (first | (go_at_call 96; refine (O.out _).mono ?_; rintro e w1 ⟨rfl, hb1⟩))
          rename_i hS
          have J2 := hS.2.2.2.2.2
          replace J2 := Lib.hid J2
          clear hS j0 j1 j2 j3 j4 j5 j6 j7 j8 j9 j10 j11
          go_wp2
          go_roundw
          case rel => exact ⟨k + 1, by omega, by go_num, (1, tb), J2.out.1, hR.out, hlt, J2.out.2.1, J2.out.2.2.2.1⟩
          case measure => simp [intOf]; omega
      · rw [if_neg a1] at hR
        by_cases a2 : yk = 4 ∧ tk = 4
        · obtain ⟨rfl, rfl⟩ := a2
          rw [if_pos ⟨rfl, rfl⟩] at hR
          have hpl := pickP_lt (last := false) hlt d2
          have O := Lib.hid (fun w => min_any tb yb w hlt d2)
          generalize pickP tb yb false = q at *
          replace hR := Lib.hid hR
          clear a1
          go_upto_region 6 with (fail)
          generalize wr.alloc (.cells #[.int .i64 4, .int .u64 (yb : Int)] 25) = wa at *
          generalize wr.heap.size = g at *
          obtain ⟨j0, j1, j2, j3, j4, j5, j6, j7, j8, j9, j10, j11⟩ := J.facts
          replace J := Lib.hid J
          clear d0 d1
          go_wp2_with (go_at_call 91; refine (O.out _).mono ?_; rintro e w' ⟨rfl, rfl⟩)
          have P2 := Lib.hid (J.out.put1 (xb := q))
          clear j0 j1 j2 j3 j4 j5 j6 j7
          go_roundw
          case rel => exact ⟨k + 1, by omega, by go_num, (4, q), P2.out.1, hR.out, hpl, P2.out.2.1, P2.out.2.2⟩
          case measure => simp [intOf]; omega
        · rw [if_neg a2] at hR
          subst hR
          by_cases b1 : yk = 1
          · subst b1
            have b2 : (tk == 1) = false := by simpa using a1
            clear a1 a2
            go_upto_region 6 with (fail)
            generalize wr.alloc (.cells #[.int .i64 1, .int .u64 (yb : Int)] 25) = wa at *
            generalize wr.heap.size = g at *
            obtain ⟨j0, j1, j2, j3, j4, j5, j6, j7, j8, j9, j10, j11⟩ := J.facts
            replace J := Lib.hid J
            clear d0 d1
            obtain ⟨_, r1, r2⟩ := put2 (w := wa) (g := w.heap.size) (.int .i64 0) (.int .u64 0) j6 j7
            replace r1 := Lib.hid r1
            replace r2 := Lib.hid r2
            go_wp2
            exact bodyPost_ret (v := .agg #[.int .i64 0, .int .u64 0]) (by simp [results, Try.results95, go_sem, j6, j7, r1.out, r2.out]) rfl (.mk rfl ((J.out.2.2.2.1.setCell (Nat.le_refl _) _).setCell (Nat.le_refl _) _))
          · have b1' : (yk == 1) = false := by simpa using b1
            by_cases b4 : yk = 4
            · subst b4
              have b5 : (tk == 4) = false := by simpa using a2
              clear a1 a2 b1 b1'
              go_upto_region 6 with (fail)
              generalize wr.alloc (.cells #[.int .i64 4, .int .u64 (yb : Int)] 25) = wa at *
              generalize wr.heap.size = g at *
              obtain ⟨j0, j1, j2, j3, j4, j5, j6, j7, j8, j9, j10, j11⟩ := J.facts
              replace J := Lib.hid J
              clear d0 d1
              obtain ⟨_, r1, r2⟩ := put2 (w := wa) (g := w.heap.size) (.int .i64 0) (.int .u64 0) j6 j7
              replace r1 := Lib.hid r1
              replace r2 := Lib.hid r2
              go_wp2
              exact bodyPost_ret (v := .agg #[.int .i64 0, .int .u64 0]) (by simp [results, Try.results95, go_sem, j6, j7, r1.out, r2.out]) rfl (.mk rfl ((J.out.2.2.2.1.setCell (Nat.le_refl _) _).setCell (Nat.le_refl _) _))
            · have b4' : (yk == 4) = false := by simpa using b4
              clear a1 a2 b1 b4
              go_upto_region 6 with (fail)
              generalize wr.alloc (.cells #[.int .i64 yk, .int .u64 (yb : Int)] 25) = wa at *
              generalize wr.heap.size = g at *
              obtain ⟨j0, j1, j2, j3, j4, j5, j6, j7, j8, j9, j10, j11⟩ := J.facts
              replace J := Lib.hid J
              clear d0 d1
              obtain ⟨_, r1, r2⟩ := put2 (w := wa) (g := w.heap.size) (.int .i64 0) (.int .u64 0) j6 j7
              replace r1 := Lib.hid r1
              replace r2 := Lib.hid r2
              go_wp2
              exact bodyPost_ret (v := .agg #[.int .i64 0, .int .u64 0]) (by simp [results, Try.results95, go_sem, j6, j7, r1.out, r2.out]) rfl (.mk rfl ((J.out.2.2.2.1.setCell (Nat.le_refl _) _).setCell (Nat.le_refl _) _))
    · obtain rfl : k = vs.length := by omega
      have t0 : wr.cell? ⟨w.heap.size + 1, 0, none⟩ = some (.int .i64 tk) := hT.cell 0
      have t1 : wr.cell? ⟨w.heap.size + 1, 1, none⟩ = some (.int .u64 (tb : Int)) := hT.cell 1
      have x0 : wr.cell? ⟨w.heap.size, 0, none⟩ = some (.int .i64 0) := hZ.cell 0
      have x1 : wr.cell? ⟨w.heap.size, 1, none⟩ = some (.int .u64 0) := hZ.cell 1
      have f0 : wr.frozen? ⟨w.heap.size, 0, none⟩ = false := hZ.free 0
      have f1 : wr.frozen? ⟨w.heap.size, 1, none⟩ = false := hZ.free 1
      have hE : (tk, tb) = R := by
        rw [← hR, List.drop_eq_nil_of_le (Nat.le_refl _), extGo]
      subst hE
      obtain ⟨_, r1, r2⟩ := put2 (w := wr) (g := w.heap.size) (.int .i64 tk) (.int .u64 (tb : Int)) x0 x1
      replace r1 := Lib.hid r1
      replace r2 := Lib.hid r2
      replace hW := Lib.hid hW
      clear hT hZ hR hs hp
      go_wp2
      exact bodyPost_ret (v := .agg #[.int .i64 tk, .int .u64 (tb : Int)]) (by simp [results, Try.results95, go_sem, r1.out, r2.out]) rfl (.mk rfl ((hW.out.setCell (Nat.le_refl _) _).setCell (Nat.le_refl _) _))

set_option maxHeartbeats 8000000 in
set_option maxRecDepth 100000 in
theorem ext_true (A : Option Addr) (sb pb : Nat) (vs : List (Int × Nat)) (w : World) (hv : RowV w A vs.length vs) (h0 : 0 < vs.length) (hl : vs.length ≤ 9223372036854775807) (hs : w.cell? ⟨sb, 0, none⟩ = some (.int .i64 1)) (hp : w.cell? ⟨pb, 0, none⟩ = some (.func (.func 92) #[] #[])) :
    Calls Try.prog 95 #[.slice A vs.length vs.length, .pointer (some ⟨sb, 0, none⟩), .pointer (some ⟨pb, 0, none⟩)] w (VIs (extP true vs) w) := by
  obtain ⟨v, hv0⟩ : ∃ v, vs[0]? = some v := ⟨vs[0], List.getElem?_eq_getElem h0⟩
  have hx : extP true vs = extGo true v vs := by cases vs with | nil => simp at h0 | cons a l => simp at hv0; subst hv0; rfl
  rw [hx]
  generalize hR : extGo true v vs = R
  have hu := m1 w (.cells #[.int .i64 0, .int .u64 0] 25)
  obtain ⟨b, off, rfl, c0, c1, vlt⟩ := (hv.later hu).at_ hv0
  obtain ⟨vk, vb⟩ := v
  simp only [Nat.zero_mul, Nat.add_zero] at c0 c1 vlt
  have hcl : ∀ k y, vs[k]? = some y → w.cell? ⟨b, off + k * 2, none⟩ = some (.int .i64 y.1) ∧ w.cell? ⟨b, off + k * 2 + 1, none⟩ = some (.int .u64 (y.2 : Int)) ∧ y.2 < 18446744073709551616 := fun k y h => by
    obtain ⟨b', off', e, d0, d1, d2⟩ := hv.at_ h
    simp only [Option.some.injEq, Addr.mk.injEq, and_true] at e
    obtain ⟨rfl, rfl⟩ := e
    exact ⟨d0, d1, d2⟩
  have k0 : Blk ((w.alloc (.cells #[.int .i64 0, .int .u64 0] 25)).alloc (.cells #[.int .i64 vk, .int .u64 (vb : Int)] 25)) (w.heap.size + 1) 25 #[.int .i64 vk, .int .u64 (vb : Int)] := by
    have := Blk.made (w.alloc (.cells #[.int .i64 0, .int .u64 0] 25)) 25 #[.int .i64 vk, .int .u64 (vb : Int)]
    simpa using this
  have z0 : Blk ((w.alloc (.cells #[.int .i64 0, .int .u64 0] 25)).alloc (.cells #[.int .i64 vk, .int .u64 (vb : Int)] 25)) w.heap.size 25 #[.int .i64 0, .int .u64 0] :=
    (Blk.made w 25 #[.int .i64 0, .int .u64 0]).kept (m1 _ _)
  have s0 : ExtR w true vs R 0 ((w.alloc (.cells #[.int .i64 0, .int .u64 0] 25)).alloc (.cells #[.int .i64 vk, .int .u64 (vb : Int)] 25)) :=
    ⟨(vk, vb), k0, by simpa using hR, vlt, z0, m2 _ _ _⟩
  replace s0 := Lib.hid s0
  replace hcl := Lib.hid hcl
  have i1 : (0 : Int) < (vs.length : Int) := by omega
  clear hv hv0 hx hu k0 z0 hR
  go_enter Try.func95, Try.ntmps95
  go_wp2
  go_loopw [13] (fun i wr => ∃ k : Nat, k ≤ vs.length ∧ i = .int .i64 (k : Int) ∧ ExtR w true vs R k wr) (fun i _ => vs.length - (intOf i).toNat)
  case atStart => exact ⟨0, Nat.zero_le _, rfl, s0.out⟩
  case round =>
    obtain ⟨k, hk, rfl, ⟨tk, tb⟩, hT, hR, hlt, hZ, hW⟩ := hrel
    clear s0 c0 c1
    by_cases hkl : k < vs.length
    · have hrk : vs[k]? = some (vs[k].1, vs[k].2) := List.getElem?_eq_getElem hkl
      rw [List.drop_eq_getElem_cons hkl] at hR
      obtain ⟨d0, d1, d2⟩ := hcl.out k _ hrk
      generalize vs[k] = y at *
      obtain ⟨yk, yb⟩ := y
      simp only at hT hlt d0 d1 d2 hR
      rw [extGo] at hR
      simp only at hR
      have J := ExtJ.later (w := w) (sb := sb) (pb := pb) (s := 1) (f := .func (.func 92) #[] #[]) (tk := tk) (tb := tb) (g := wr.heap.size) (yk := yk) (yb := yb) (wr := wr.alloc (.cells #[.int .i64 yk, .int .u64 (yb : Int)] 25))
        ⟨hT.kept (m1 _ _), hZ.kept (m1 _ _), Blk.made _ _ _, mmore hW (m1 _ _), cell_later (m1 _ _) (cell_later hW hs), cell_later (m1 _ _) (cell_later hW hp)⟩ (Below.refl _ _)
      have d0 := cell_later hW d0
      have d1 := cell_later hW d1
      have hs1 := hW.size
      have g0 : w.heap.size + 1 < wr.heap.size := hT.lt
      clear hrk hT hZ hW hs hp
      have i2 : (k : Int) < (vs.length : Int) := by omega
      by_cases a1 : yk = 1 ∧ tk = 1
      · obtain ⟨rfl, rfl⟩ := a1
        rw [if_pos ⟨rfl, rfl⟩] at hR
        have O := Lib.hid (fun w => order_v 1 1 yb tb w d2 hlt)
        by_cases o : vordP 1 yb 1 tb = 1
        · rw [if_pos (show vordP 1 yb 1 tb = sd true from o)] at hR
          have o' : (vordP 1 yb 1 tb == 1) = true := by simpa using o
          generalize vordP 1 yb 1 tb = q at *
          replace hR := Lib.hid hR
          clear o
          go_upto_region 6 with (fail)
          generalize wr.alloc (.cells #[.int .i64 1, .int .u64 (yb : Int)] 25) = wa at *
          generalize wr.heap.size = g at *
          obtain ⟨j0, j1, j2, j3, j4, j5, j6, j7, j8, j9, j10, j11⟩ := J.facts
          replace J := Lib.hid J
          clear d0 d1
          go_wp2
          go_region_held3 (fun w' => w'.cell? ⟨w.heap.size + 1, 0, none⟩ = some (.int .i64 1) ∧ w'.cell? ⟨w.heap.size + 1, 1, none⟩ = some (.int .u64 (tb : Int)) ∧ w'.cell? ⟨g, 0, none⟩ = some (.int .i64 1) ∧ w'.cell? ⟨g, 1, none⟩ = some (.int .u64 (yb : Int)) ∧ w'.cell? ⟨sb, 0, none⟩ = some (.int .i64 1) ∧ ExtJ w sb pb 1 (.func (.func 92) #[] #[]) 1 tb g 1 yb w') (first | exact ⟨j0, j1, j2, j3, j4, J.out.drew⟩ | go_keep | exact keepE hb1 (by first | assumption | exact ⟨by assumption, by assumption, by assumption, by assumption, by assumption, by assumption⟩)) (first | (go_at_call 96; refine (O.out _).mono ?_; rintro e w1 ⟨rfl, hb1⟩))
          rename_i hS
          have J2 := hS.2.2.2.2.2
          have P2 := Lib.hid (J2.put (xk := 1) (xb := yb))
          obtain ⟨l0, l1, l2, l3, l4, l5, l6, l7, l8, l9, l10, l11⟩ := J2.facts
          replace J2 := Lib.hid J2
          clear hS j0 j1 j2 j3 j4 j5 j6 j7 j8 j9 j10 j11
          go_wp2
          go_roundw
          case rel => exact ⟨k + 1, by omega, by go_num, (1, yb), P2.out.1, hR.out, d2, P2.out.2.1, P2.out.2.2⟩
          case measure => simp [intOf]; omega
        · rw [if_neg (show ¬ vordP 1 yb 1 tb = sd true from o)] at hR
          have o' : (vordP 1 yb 1 tb == 1) = false := by simpa using o
          generalize vordP 1 yb 1 tb = q at *
          replace hR := Lib.hid hR
          clear o
          go_upto_region 6 with (fail)
          generalize wr.alloc (.cells #[.int .i64 1, .int .u64 (yb : Int)] 25) = wa at *
          generalize wr.heap.size = g at *
          obtain ⟨j0, j1, j2, j3, j4, j5, j6, j7, j8, j9, j10, j11⟩ := J.facts
          replace J := Lib.hid J
          clear d0 d1
          go_wp2
          go_region_held3 (fun w' => w'.cell? ⟨w.heap.size + 1, 0, none⟩ = some (.int .i64 1) ∧ w'.cell? ⟨w.heap.size + 1, 1, none⟩ = some (.int .u64 (tb : Int)) ∧ w'.cell? ⟨g, 0, none⟩ = some (.int .i64 1) ∧ w'.cell? ⟨g, 1, none⟩ = some (.int .u64 (yb : Int)) ∧ w'.cell? ⟨sb, 0, none⟩ = some (.int .i64 1) ∧ ExtJ w sb pb 1 (.func (.func 92) #[] #[]) 1 tb g 1 yb w') (first | exact ⟨j0, j1, j2, j3, j4, J.out.drew⟩ | go_keep | exact keepE hb1 (by first | assumption | exact ⟨by assumption, by assumption, by assumption, by assumption, by assumption, by assumption⟩)) (first | (go_at_call 96; refine (O.out _).mono ?_; rintro e w1 ⟨rfl, hb1⟩))
          rename_i hS
          have J2 := hS.2.2.2.2.2
          replace J2 := Lib.hid J2
          clear hS j0 j1 j2 j3 j4 j5 j6 j7 j8 j9 j10 j11
          go_wp2
          go_roundw
          case rel => exact ⟨k + 1, by omega, by go_num, (1, tb), J2.out.1, hR.out, hlt, J2.out.2.1, J2.out.2.2.2.1⟩
          case measure => simp [intOf]; omega
      · rw [if_neg a1] at hR
        by_cases a2 : yk = 4 ∧ tk = 4
        · obtain ⟨rfl, rfl⟩ := a2
          rw [if_pos ⟨rfl, rfl⟩] at hR
          have hpl := pickP_lt (last := true) hlt d2
          have O := Lib.hid (fun w => max_any tb yb w hlt d2)
          generalize pickP tb yb true = q at *
          replace hR := Lib.hid hR
          clear a1
          go_upto_region 6 with (fail)
          generalize wr.alloc (.cells #[.int .i64 4, .int .u64 (yb : Int)] 25) = wa at *
          generalize wr.heap.size = g at *
          obtain ⟨j0, j1, j2, j3, j4, j5, j6, j7, j8, j9, j10, j11⟩ := J.facts
          replace J := Lib.hid J
          clear d0 d1
          go_wp2_with (go_at_call 92; refine (O.out _).mono ?_; rintro e w' ⟨rfl, rfl⟩)
          have P2 := Lib.hid (J.out.put1 (xb := q))
          clear j0 j1 j2 j3 j4 j5 j6 j7
          go_roundw
          case rel => exact ⟨k + 1, by omega, by go_num, (4, q), P2.out.1, hR.out, hpl, P2.out.2.1, P2.out.2.2⟩
          case measure => simp [intOf]; omega
        · rw [if_neg a2] at hR
          subst hR
          by_cases b1 : yk = 1
          · subst b1
            have b2 : (tk == 1) = false := by simpa using a1
            clear a1 a2
            go_upto_region 6 with (fail)
            generalize wr.alloc (.cells #[.int .i64 1, .int .u64 (yb : Int)] 25) = wa at *
            generalize wr.heap.size = g at *
            obtain ⟨j0, j1, j2, j3, j4, j5, j6, j7, j8, j9, j10, j11⟩ := J.facts
            replace J := Lib.hid J
            clear d0 d1
            obtain ⟨_, r1, r2⟩ := put2 (w := wa) (g := w.heap.size) (.int .i64 0) (.int .u64 0) j6 j7
            replace r1 := Lib.hid r1
            replace r2 := Lib.hid r2
            go_wp2
            exact bodyPost_ret (v := .agg #[.int .i64 0, .int .u64 0]) (by simp [results, Try.results95, go_sem, j6, j7, r1.out, r2.out]) rfl (.mk rfl ((J.out.2.2.2.1.setCell (Nat.le_refl _) _).setCell (Nat.le_refl _) _))
          · have b1' : (yk == 1) = false := by simpa using b1
            by_cases b4 : yk = 4
            · subst b4
              have b5 : (tk == 4) = false := by simpa using a2
              clear a1 a2 b1 b1'
              go_upto_region 6 with (fail)
              generalize wr.alloc (.cells #[.int .i64 4, .int .u64 (yb : Int)] 25) = wa at *
              generalize wr.heap.size = g at *
              obtain ⟨j0, j1, j2, j3, j4, j5, j6, j7, j8, j9, j10, j11⟩ := J.facts
              replace J := Lib.hid J
              clear d0 d1
              obtain ⟨_, r1, r2⟩ := put2 (w := wa) (g := w.heap.size) (.int .i64 0) (.int .u64 0) j6 j7
              replace r1 := Lib.hid r1
              replace r2 := Lib.hid r2
              go_wp2
              exact bodyPost_ret (v := .agg #[.int .i64 0, .int .u64 0]) (by simp [results, Try.results95, go_sem, j6, j7, r1.out, r2.out]) rfl (.mk rfl ((J.out.2.2.2.1.setCell (Nat.le_refl _) _).setCell (Nat.le_refl _) _))
            · have b4' : (yk == 4) = false := by simpa using b4
              clear a1 a2 b1 b4
              go_upto_region 6 with (fail)
              generalize wr.alloc (.cells #[.int .i64 yk, .int .u64 (yb : Int)] 25) = wa at *
              generalize wr.heap.size = g at *
              obtain ⟨j0, j1, j2, j3, j4, j5, j6, j7, j8, j9, j10, j11⟩ := J.facts
              replace J := Lib.hid J
              clear d0 d1
              obtain ⟨_, r1, r2⟩ := put2 (w := wa) (g := w.heap.size) (.int .i64 0) (.int .u64 0) j6 j7
              replace r1 := Lib.hid r1
              replace r2 := Lib.hid r2
              go_wp2
              exact bodyPost_ret (v := .agg #[.int .i64 0, .int .u64 0]) (by simp [results, Try.results95, go_sem, j6, j7, r1.out, r2.out]) rfl (.mk rfl ((J.out.2.2.2.1.setCell (Nat.le_refl _) _).setCell (Nat.le_refl _) _))
    · obtain rfl : k = vs.length := by omega
      have t0 : wr.cell? ⟨w.heap.size + 1, 0, none⟩ = some (.int .i64 tk) := hT.cell 0
      have t1 : wr.cell? ⟨w.heap.size + 1, 1, none⟩ = some (.int .u64 (tb : Int)) := hT.cell 1
      have x0 : wr.cell? ⟨w.heap.size, 0, none⟩ = some (.int .i64 0) := hZ.cell 0
      have x1 : wr.cell? ⟨w.heap.size, 1, none⟩ = some (.int .u64 0) := hZ.cell 1
      have f0 : wr.frozen? ⟨w.heap.size, 0, none⟩ = false := hZ.free 0
      have f1 : wr.frozen? ⟨w.heap.size, 1, none⟩ = false := hZ.free 1
      have hE : (tk, tb) = R := by
        rw [← hR, List.drop_eq_nil_of_le (Nat.le_refl _), extGo]
      subst hE
      obtain ⟨_, r1, r2⟩ := put2 (w := wr) (g := w.heap.size) (.int .i64 tk) (.int .u64 (tb : Int)) x0 x1
      replace r1 := Lib.hid r1
      replace r2 := Lib.hid r2
      replace hW := Lib.hid hW
      clear hT hZ hR hs hp
      go_wp2
      exact bodyPost_ret (v := .agg #[.int .i64 tk, .int .u64 (tb : Int)]) (by simp [results, Try.results95, go_sem, r1.out, r2.out]) rfl (.mk rfl ((hW.out.setCell (Nat.le_refl _) _).setCell (Nat.le_refl _) _))
end Go.Proofs.Ytfjnphiegoogoaa

/- LkE -/
namespace Go.Proofs.Ytfjnphiegoogoaa
open Go.ChangeShapes Go.WideShapes Go.ChangeAt Go.RowKit Go.Fl
set_option linter.unusedVariables false
set_option linter.unusedSimpArgs false

theorem ofint_n (n : Int) (w : World) : Calls Try.prog 79 #[.int .i64 n] w (VIs (1, nU n) w) :=
  (ofint_e n w).mono fun e w' ⟨he, hb⟩ => by subst he; exact .mk (nU_eq n).symm hb

def meanP (vs : List (Int × Nat)) : Int × Nat := appP 4 [sumP vs, appP 16 [(1, nU (vs.length : Int))]]

theorem sumP_lt {vs : List (Int × Nat)} (w : World) (h : ∀ v ∈ vs, v.2 < 18446744073709551616) : (sumP vs).2 < 18446744073709551616 := by
  match vs, h with
  | [], _ => decide
  | v :: l, h =>
    show (l.foldl addP v).2 < _
    have hl : ∀ u ∈ l, u.2 < 18446744073709551616 := fun u hu => h u (List.mem_cons_of_mem _ hu)
    have hv := h v List.mem_cons_self
    clear h
    induction l generalizing v with
    | nil => exact hv
    | cons u l ih => exact ih (addP v u) (fun x hx => hl x (List.mem_cons_of_mem _ hx)) (app_lt 1 [v, u] w (by intro x hx; simp at hx; rcases hx with rfl | rfl; exact hv; exact hl _ List.mem_cons_self))

set_option maxHeartbeats 4000000 in
set_option maxRecDepth 100000 in
theorem mean_any (A : Option Addr) (vs : List (Int × Nat)) (w : World) (hv : RowV w A vs.length vs) (h0 : 0 < vs.length) (hl : vs.length ≤ 9223372036854775807) :
    Calls Try.prog 93 #[.slice A vs.length vs.length] w (VIs (meanP vs) w) := by
  have S := Lib.hid (fun wz (hb : Below w.heap.size w wz) => sum_any A vs wz (hv.later hb) h0 hl)
  have hsl := sumP_lt w hv.2.1
  unfold meanP
  generalize sumP vs = s at *
  obtain ⟨sk, sb⟩ := s
  have hnl := nU_lt (vs.length : Int)
  have O := Lib.hid (fun w => ofint_n (vs.length : Int) w)
  generalize nU (vs.length : Int) = n at *
  have hcl := app_lt 16 [(1, n)] w (by intro x hx; simp at hx; subst hx; exact hnl)
  have C := Lib.hid (fun w (g : Nat) (h : RowV w (some ⟨g, 0, none⟩) 1 [(1, n)]) => apply_any 16 (some ⟨g, 0, none⟩) 1 1 [(1, n)] w h)
  generalize appP 16 [(1, n)] = c at *
  obtain ⟨ck, cb⟩ := c
  simp only at hsl hcl S
  have D := Lib.hid (fun w (g : Nat) (h : RowV w (some ⟨g, 0, none⟩) 2 [(sk, sb), (ck, cb)]) => apply_any 4 (some ⟨g, 0, none⟩) 2 2 [(sk, sb), (ck, cb)] w h)
  generalize appP 4 [(sk, sb), (ck, cb)] = x at *
  obtain ⟨xk, xb⟩ := x
  simp only at C D
  have z0 := Blk.made w 25 #[.int .i64 0, .int .u64 0]
  have hu := m1 w (.cells #[.int .i64 0, .int .u64 0] 25)
  replace z0 := Lib.hid z0
  replace hu := Lib.hid hu
  clear hv h0
  go_enter Try.func93, Try.ntmps93
  go_wp2_with fail
  refine (O.out _).mono ?_; rintro e w1 ⟨rfl, hb1⟩
  have z1 := Lib.hid (z0.out.kept hb1)
  have hu1 := Lib.hid (mmore hu.out hb1)
  clear z0 hu hb1
  go_wp2_with fail
  refine (C.out _ w1.heap.size (row_one (k1 := 1) hnl (by simp [go_sem]) (by simp [go_sem]))).mono ?_; rintro e w2 ⟨rfl, hb2⟩
  have z2 := Lib.hid ((z1.out.kept (m1 _ _)).kept hb2)
  have hu2 := Lib.hid (mmore (mmore hu1.out (m1 _ _)) hb2)
  clear z1 hu1 hb2
  go_upto_region 2 with (fail)
  have t0 : (w2.alloc (.cells #[.int .i64 ck, .int .u64 (cb : Int)] 25)).cell? ⟨w2.heap.size, 0, none⟩ = some (.int .i64 ck) := by simp [go_sem]
  have t1 : (w2.alloc (.cells #[.int .i64 ck, .int .u64 (cb : Int)] 25)).cell? ⟨w2.heap.size, 1, none⟩ = some (.int .u64 (cb : Int)) := by simp [go_sem]
  have z3 := z2.out.kept (m1 w2 (.cells #[.int .i64 ck, .int .u64 (cb : Int)] 25))
  have hu3 := mmore hu2.out (m1 w2 (.cells #[.int .i64 ck, .int .u64 (cb : Int)] 25))
  clear z2 hu2
  generalize w2.heap.size = g at *
  generalize w2.alloc (.cells #[.int .i64 ck, .int .u64 (cb : Int)] 25) = w3 at *
  have z3 : Blk w3.drew w.heap.size 25 #[.int .i64 0, .int .u64 0] := z3
  have hu3 : Below w.heap.size w w3.drew := hu3.drew
  have t0' : w3.drew.cell? ⟨g, 0, none⟩ = some (.int .i64 ck) := t0
  have t1' : w3.drew.cell? ⟨g, 1, none⟩ = some (.int .u64 (cb : Int)) := t1
  replace z3 := Lib.hid z3
  replace hu3 := Lib.hid hu3
  replace t0' := Lib.hid t0'
  replace t1' := Lib.hid t1'
  go_region_with (first | (go_at_call 89; refine (S.out _ hu3.out).mono ?_; rintro e w4 ⟨rfl, hb4⟩; have y0 := cell_later hb4 t0'.out; have y1 := cell_later hb4 t1'.out; have z4 := Lib.hid (z3.out.kept hb4); have hu4 := Lib.hid (mmore hu3.out hb4)) | (go_at_call 15; refine (D.out _ w4.heap.size (row_two (k1 := sk) (k2 := ck) hsl hcl (by simp [go_sem]) (by simp [go_sem]) (by simp [go_sem]) (by simp [go_sem]))).mono ?_; rintro e w6 ⟨rfl, hb6⟩; have z6 := (z4.out.kept (m1 _ _)).kept hb6; have hu6 := Lib.hid (mmore (mmore hu4.out (m1 _ _)) hb6); have x0 : w6.cell? ⟨w.heap.size, 0, none⟩ = some (.int .i64 0) := z6.cell 0; have x1 : w6.cell? ⟨w.heap.size, 1, none⟩ = some (.int .u64 0) := z6.cell 1; have f0 : w6.frozen? ⟨w.heap.size, 0, none⟩ = false := z6.free 0; have f1 : w6.frozen? ⟨w.heap.size, 1, none⟩ = false := z6.free 1))
  all_goals obtain ⟨_, r1, r2⟩ := put2 (w := w6) (g := w.heap.size) (.int .i64 xk) (.int .u64 (xb : Int)) x0 x1
  all_goals replace r1 := Lib.hid r1
  all_goals replace r2 := Lib.hid r2
  all_goals go_wp2
  all_goals exact bodyPost_ret (v := .agg #[.int .i64 xk, .int .u64 (xb : Int)]) (by simp [results, Try.results93, go_sem, r1.out, r2.out]) rfl (.mk rfl ((hu6.out.setCell (Nat.le_refl _) _).setCell (Nat.le_refl _) _))

theorem agg_26 (w : World) : Calls Try.prog 81 #[.int .i64 26] w fun e w' => e = .returned (.func (.func 94) #[] #[]) ∧ w = w' := by
  go_enter Try.func81, Try.ntmps81
  go_wp2
  go_ret
  exact ⟨rfl, rfl⟩

theorem agg_42 (w : World) : Calls Try.prog 81 #[.int .i64 42] w fun e w' => e = .returned (.func (.func 94) #[] #[]) ∧ w = w' := by
  go_enter Try.func81, Try.ntmps81
  go_wp2
  go_ret
  exact ⟨rfl, rfl⟩

theorem agg_27 (w : World) : Calls Try.prog 81 #[.int .i64 27] w fun e w' => e = .returned (.func (.func 88) #[] #[]) ∧ w = w' := by
  go_enter Try.func81, Try.ntmps81
  go_wp2
  go_ret
  exact ⟨rfl, rfl⟩

theorem agg_28 (w : World) : Calls Try.prog 81 #[.int .i64 28] w fun e w' => e = .returned (.func (.func 89) #[] #[]) ∧ w = w' := by
  go_enter Try.func81, Try.ntmps81
  go_wp2
  go_ret
  exact ⟨rfl, rfl⟩

theorem agg_31 (w : World) : Calls Try.prog 81 #[.int .i64 31] w fun e w' => e = .returned (.func (.func 93) #[] #[]) ∧ w = w' := by
  go_enter Try.func81, Try.ntmps81
  go_wp2
  go_ret
  exact ⟨rfl, rfl⟩

theorem extreme_29 (w : World) : Calls Try.prog 90 #[.int .i64 (-1), .func (.func 91) #[] #[]] w fun e w' => e = .returned (.func (.func 95) #[] #[.pointer (some ⟨w.heap.size, 0, none⟩), .pointer (some ⟨w.heap.size + 1, 0, none⟩)]) ∧ w' = (w.alloc (.cells #[.int .i64 (-1)] 3)).alloc (.cells #[.func (.func 91) #[] #[]] 102) := by
  go_enter Try.func90, Try.ntmps90
  go_wp2
  go_ret
  exact ⟨rfl, rfl⟩

theorem extreme_30 (w : World) : Calls Try.prog 90 #[.int .i64 1, .func (.func 92) #[] #[]] w fun e w' => e = .returned (.func (.func 95) #[] #[.pointer (some ⟨w.heap.size, 0, none⟩), .pointer (some ⟨w.heap.size + 1, 0, none⟩)]) ∧ w' = (w.alloc (.cells #[.int .i64 1] 3)).alloc (.cells #[.func (.func 92) #[] #[]] 102) := by
  go_enter Try.func90, Try.ntmps90
  go_wp2
  go_ret
  exact ⟨rfl, rfl⟩

theorem agg_29 (w : World) : Calls Try.prog 81 #[.int .i64 29] w fun e w' => e = .returned (.func (.func 95) #[] #[.pointer (some ⟨w.heap.size, 0, none⟩), .pointer (some ⟨w.heap.size + 1, 0, none⟩)]) ∧ w' = (w.alloc (.cells #[.int .i64 (-1)] 3)).alloc (.cells #[.func (.func 91) #[] #[]] 102) := by
  go_enter Try.func81, Try.ntmps81
  go_wp2_with (go_at_call 90; refine (extreme_29 _).mono ?_; rintro e w' ⟨rfl, rfl⟩)
  go_ret
  exact ⟨rfl, rfl⟩

theorem agg_30 (w : World) : Calls Try.prog 81 #[.int .i64 30] w fun e w' => e = .returned (.func (.func 95) #[] #[.pointer (some ⟨w.heap.size, 0, none⟩), .pointer (some ⟨w.heap.size + 1, 0, none⟩)]) ∧ w' = (w.alloc (.cells #[.int .i64 1] 3)).alloc (.cells #[.func (.func 92) #[] #[]] 102) := by
  go_enter Try.func81, Try.ntmps81
  go_wp2_with (go_at_call 90; refine (extreme_30 _).mono ?_; rintro e w' ⟨rfl, rfl⟩)
  go_ret
  exact ⟨rfl, rfl⟩
end Go.Proofs.Ytfjnphiegoogoaa
