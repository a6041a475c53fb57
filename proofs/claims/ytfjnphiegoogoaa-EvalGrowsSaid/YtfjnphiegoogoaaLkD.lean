/- The least and the greatest of the attributes of a position's events, as contracts. -/
import Derived.Test.YtfjnphiegoogoaaLkC
namespace Go.Proofs.Ytfjnphiegoogoaa
open Go.ChangeShapes Go.WideShapes Go.ChangeAt Go.RowKit Go.Fl
set_option linter.unusedVariables false
set_option linter.unusedSimpArgs false

def sd (last : Bool) : Int := if last then 1 else -1
def extGo (last : Bool) : Int × Nat → List (Int × Nat) → Int × Nat
  | t, [] => t
  | t, y :: l => if y.1 = 1 ∧ t.1 = 1 then extGo last (if vordP y.1 y.2 t.1 t.2 = sd last then y else t) l else if y.1 = 4 ∧ t.1 = 4 then extGo last (4, pickP t.2 y.2 last) l else (0, 0)
def extP (last : Bool) (vs : List (Int × Nat)) : Int × Nat :=
  match vs with
  | [] => (0, 0)
  | v :: l => extGo last v (v :: l)
theorem pickP_lt {a b : Nat} {last : Bool} (ha : a < 18446744073709551616) (hb : b < 18446744073709551616) : pickP a b last < 18446744073709551616 := by
  unfold pickP; (repeat' split) <;> omega
def ExtR (w : World) (last : Bool) (vs : List (Int × Nat)) (R : Int × Nat) (k : Nat) (wr : World) : Prop :=
  ∃ t : Int × Nat, Blk wr (w.heap.size + 1) 25 #[.int .i64 t.1, .int .u64 (t.2 : Int)] ∧ extGo last t (vs.drop k) = R ∧ t.2 < 18446744073709551616 ∧ Blk wr w.heap.size 25 #[.int .i64 0, .int .u64 0] ∧ Below w.heap.size w wr
/-- what a round needs to know of memory -/
def ExtJ (w : World) (sb pb : Nat) (s : Int) (f : Value) (tk : Int) (tb : Nat) (g : Nat) (yk : Int) (yb : Nat) (wr : World) : Prop :=
  Blk wr (w.heap.size + 1) 25 #[.int .i64 tk, .int .u64 (tb : Int)] ∧ Blk wr w.heap.size 25 #[.int .i64 0, .int .u64 0] ∧ Blk wr g 25 #[.int .i64 yk, .int .u64 (yb : Int)] ∧ Below w.heap.size w wr ∧
  wr.cell? ⟨sb, 0, none⟩ = some (.int .i64 s) ∧ wr.cell? ⟨pb, 0, none⟩ = some f
theorem ExtJ.later {w wr w1 : World} {sb pb g : Nat} {s tk yk : Int} {f : Value} {tb yb : Nat} (h : ExtJ w sb pb s f tk tb g yk yb wr) (hb : Below wr.heap.size wr w1) : ExtJ w sb pb s f tk tb g yk yb w1 :=
  ⟨h.1.kept hb, h.2.1.kept hb, h.2.2.1.kept hb, mmore h.2.2.2.1 hb, cell_later hb h.2.2.2.2.1, cell_later hb h.2.2.2.2.2⟩
theorem ExtJ.drew {w wr : World} {sb pb g : Nat} {s tk yk : Int} {f : Value} {tb yb : Nat} (h : ExtJ w sb pb s f tk tb g yk yb wr) : ExtJ w sb pb s f tk tb g yk yb wr.drew :=
  ⟨h.1, h.2.1, h.2.2.1, h.2.2.2.1.drew, h.2.2.2.2.1, h.2.2.2.2.2⟩
theorem ExtJ.facts {w wr : World} {sb pb g : Nat} {s tk yk : Int} {f : Value} {tb yb : Nat} (h : ExtJ w sb pb s f tk tb g yk yb wr) :
    wr.cell? ⟨w.heap.size + 1, 0, none⟩ = some (.int .i64 tk) ∧ wr.cell? ⟨w.heap.size + 1, 1, none⟩ = some (.int .u64 (tb : Int)) ∧ wr.cell? ⟨g, 0, none⟩ = some (.int .i64 yk) ∧ wr.cell? ⟨g, 1, none⟩ = some (.int .u64 (yb : Int)) ∧
    wr.cell? ⟨sb, 0, none⟩ = some (.int .i64 s) ∧ wr.cell? ⟨pb, 0, none⟩ = some f ∧ wr.cell? ⟨w.heap.size, 0, none⟩ = some (.int .i64 0) ∧ wr.cell? ⟨w.heap.size, 1, none⟩ = some (.int .u64 0) ∧
    wr.frozen? ⟨w.heap.size + 1, 0, none⟩ = false ∧ wr.frozen? ⟨w.heap.size + 1, 1, none⟩ = false ∧ wr.frozen? ⟨w.heap.size, 0, none⟩ = false ∧ wr.frozen? ⟨w.heap.size, 1, none⟩ = false :=
  ⟨h.1.cell 0, h.1.cell 1, h.2.2.1.cell 0, h.2.2.1.cell 1, h.2.2.2.2.1, h.2.2.2.2.2, h.2.1.cell 0, h.2.1.cell 1, h.1.free 0, h.1.free 1, h.2.1.free 0, h.2.1.free 1⟩
theorem keepE {w wr w1 : World} {sb pb g : Nat} {s tk yk : Int} {f : Value} {tb yb : Nat} {a0 a1 a2 a3 a4 : Addr} {v0 v1 v2 v3 v4 : Value} (hb : Below wr.heap.size wr w1) (h : wr.cell? a0 = some v0 ∧ wr.cell? a1 = some v1 ∧ wr.cell? a2 = some v2 ∧ wr.cell? a3 = some v3 ∧ wr.cell? a4 = some v4 ∧ ExtJ w sb pb s f tk tb g yk yb wr) :
    w1.cell? a0 = some v0 ∧ w1.cell? a1 = some v1 ∧ w1.cell? a2 = some v2 ∧ w1.cell? a3 = some v3 ∧ w1.cell? a4 = some v4 ∧ ExtJ w sb pb s f tk tb g yk yb w1 :=
  ⟨cell_later hb h.1, cell_later hb h.2.1, cell_later hb h.2.2.1, cell_later hb h.2.2.2.1, cell_later hb h.2.2.2.2.1, h.2.2.2.2.2.later hb⟩
/-- behind a store of the best one's cells -/
theorem ExtJ.put {w wr : World} {sb pb g : Nat} {s tk yk xk : Int} {f : Value} {tb yb xb : Nat} (h : ExtJ w sb pb s f tk tb g yk yb wr) :
    Blk ((wr.setCell ⟨w.heap.size + 1, 0, none⟩ (.int .i64 xk)).setCell ⟨w.heap.size + 1, 1, none⟩ (.int .u64 (xb : Int))) (w.heap.size + 1) 25 #[.int .i64 xk, .int .u64 (xb : Int)] ∧
    Blk ((wr.setCell ⟨w.heap.size + 1, 0, none⟩ (.int .i64 xk)).setCell ⟨w.heap.size + 1, 1, none⟩ (.int .u64 (xb : Int))) w.heap.size 25 #[.int .i64 0, .int .u64 0] ∧
    Below w.heap.size w ((wr.setCell ⟨w.heap.size + 1, 0, none⟩ (.int .i64 xk)).setCell ⟨w.heap.size + 1, 1, none⟩ (.int .u64 (xb : Int))) :=
  ⟨by simpa using (h.1.put_ 0 (.int .i64 xk)).put_ 1 (.int .u64 (xb : Int)),
   (h.2.1.else_ (p := ⟨w.heap.size + 1, 0, none⟩) (by show w.heap.size + 1 ≠ w.heap.size; omega) _).else_ (p := ⟨w.heap.size + 1, 1, none⟩) (by show w.heap.size + 1 ≠ w.heap.size; omega) _,
   (h.2.2.2.1.setCell (p := ⟨w.heap.size + 1, 0, none⟩) (by show w.heap.size ≤ w.heap.size + 1; omega) _).setCell (p := ⟨w.heap.size + 1, 1, none⟩) (by show w.heap.size ≤ w.heap.size + 1; omega) _⟩
theorem ExtJ.put1 {w wr : World} {sb pb g : Nat} {s tk yk : Int} {f : Value} {tb yb xb : Nat} (h : ExtJ w sb pb s f tk tb g yk yb wr) :
    Blk (wr.setCell ⟨w.heap.size + 1, 1, none⟩ (.int .u64 (xb : Int))) (w.heap.size + 1) 25 #[.int .i64 tk, .int .u64 (xb : Int)] ∧
    Blk (wr.setCell ⟨w.heap.size + 1, 1, none⟩ (.int .u64 (xb : Int))) w.heap.size 25 #[.int .i64 0, .int .u64 0] ∧
    Below w.heap.size w (wr.setCell ⟨w.heap.size + 1, 1, none⟩ (.int .u64 (xb : Int))) :=
  ⟨by simpa using h.1.put_ 1 (.int .u64 (xb : Int)), h.2.1.else_ (p := ⟨w.heap.size + 1, 1, none⟩) (by show w.heap.size + 1 ≠ w.heap.size; omega) _, h.2.2.2.1.setCell (p := ⟨w.heap.size + 1, 1, none⟩) (by show w.heap.size ≤ w.heap.size + 1; omega) _⟩

set_option maxHeartbeats 8000000 in
set_option maxRecDepth 100000 in
theorem ext_false (A : Option Addr) (sb pb : Nat) (vs : List (Int × Nat)) (w : World) (hv : RowV w A vs.length vs) (h0 : 0 < vs.length) (hl : vs.length ≤ 9223372036854775807) (hs : w.cell? ⟨sb, 0, none⟩ = some (.int .i64 (-1))) (hp : w.cell? ⟨pb, 0, none⟩ = some (.func (.func 91) #[] #[])) :
    Calls Try.prog 95 #[.slice A vs.length vs.length, .pointer (some ⟨sb, 0, none⟩), .pointer (some ⟨pb, 0, none⟩)] w (VIs (extP false vs) w) := by
  obtain ⟨v, hv0⟩ : ∃ v, vs[0]? = some v := ⟨vs[0], List.getElem?_eq_getElem h0⟩
  have hx : extP false vs = extGo false v vs := by cases vs with | nil => simp at h0 | cons a l => simp at hv0; subst hv0; rfl
  rw [hx]
  generalize hR : extGo false v vs = R
  have hu := m1 w (.cells #[.int .i64 0, .int .u64 0] 25)
  obtain ⟨b, off, rfl, c0, c1, vlt⟩ := (hv.later hu).at_ hv0
  obtain ⟨vk, vb⟩ := v
  simp only [Nat.zero_mul, Nat.add_zero] at c0 c1 vlt
  have hcl : ∀ k y, vs[k]? = some y → w.cell? ⟨b, off + k * 2, none⟩ = some (.int .i64 y.1) ∧ w.cell? ⟨b, off + k * 2 + 1, none⟩ = some (.int .u64 (y.2 : Int)) ∧ y.2 < 18446744073709551616 := fun k y h => by
    obtain ⟨b', off', e, d0, d1, d2⟩ := hv.at_ h
    simp only [Option.some.injEq, Addr.mk.injEq, and_true] at e
    obtain ⟨rfl, rfl⟩ := e
    exact ⟨d0, d1, d2⟩
  have k0 : Blk ((w.alloc (.cells #[.int .i64 0, .int .u64 0] 25)).alloc (.cells #[.int .i64 vk, .int .u64 (vb : Int)] 25)) (w.heap.size + 1) 25 #[.int .i64 vk, .int .u64 (vb : Int)] := by
    have := Blk.made (w.alloc (.cells #[.int .i64 0, .int .u64 0] 25)) 25 #[.int .i64 vk, .int .u64 (vb : Int)]
    simpa using this
  have z0 : Blk ((w.alloc (.cells #[.int .i64 0, .int .u64 0] 25)).alloc (.cells #[.int .i64 vk, .int .u64 (vb : Int)] 25)) w.heap.size 25 #[.int .i64 0, .int .u64 0] :=
    (Blk.made w 25 #[.int .i64 0, .int .u64 0]).kept (m1 _ _)
  have s0 : ExtR w false vs R 0 ((w.alloc (.cells #[.int .i64 0, .int .u64 0] 25)).alloc (.cells #[.int .i64 vk, .int .u64 (vb : Int)] 25)) :=
    ⟨(vk, vb), k0, by simpa using hR, vlt, z0, m2 _ _ _⟩
  replace s0 := Lib.hid s0
  replace hcl := Lib.hid hcl
  have i1 : (0 : Int) < (vs.length : Int) := by omega
  clear hv hv0 hx hu k0 z0 hR
  go_enter Try.func95, Try.ntmps95
  go_wp2
  go_loopw [13] (fun i wr => ∃ k : Nat, k ≤ vs.length ∧ i = .int .i64 (k : Int) ∧ ExtR w false vs R k wr) (fun i _ => vs.length - (intOf i).toNat)
  case atStart => exact ⟨0, Nat.zero_le _, rfl, s0.out⟩
  case round =>
    obtain ⟨k, hk, rfl, ⟨tk, tb⟩, hT, hR, hlt, hZ, hW⟩ := hrel
    clear s0 c0 c1
    by_cases hkl : k < vs.length
    · have hrk : vs[k]? = some (vs[k].1, vs[k].2) := List.getElem?_eq_getElem hkl
      rw [List.drop_eq_getElem_cons hkl] at hR
      obtain ⟨d0, d1, d2⟩ := hcl.out k _ hrk
      generalize vs[k] = y at *
      obtain ⟨yk, yb⟩ := y
      simp only at hT hlt d0 d1 d2 hR
      rw [extGo] at hR
      simp only at hR
      have J := ExtJ.later (w := w) (sb := sb) (pb := pb) (s := (-1)) (f := .func (.func 91) #[] #[]) (tk := tk) (tb := tb) (g := wr.heap.size) (yk := yk) (yb := yb) (wr := wr.alloc (.cells #[.int .i64 yk, .int .u64 (yb : Int)] 25))
        ⟨hT.kept (m1 _ _), hZ.kept (m1 _ _), Blk.made _ _ _, mmore hW (m1 _ _), cell_later (m1 _ _) (cell_later hW hs), cell_later (m1 _ _) (cell_later hW hp)⟩ (Below.refl _ _)
      have d0 := cell_later hW d0
      have d1 := cell_later hW d1
      have hs1 := hW.size
      have g0 : w.heap.size + 1 < wr.heap.size := hT.lt
      clear hrk hT hZ hW hs hp
      have i2 : (k : Int) < (vs.length : Int) := by omega
      by_cases a1 : yk = 1 ∧ tk = 1
      · obtain ⟨rfl, rfl⟩ := a1
        rw [if_pos ⟨rfl, rfl⟩] at hR
        have O := Lib.hid (fun w => order_v 1 1 yb tb w d2 hlt)
        by_cases o : vordP 1 yb 1 tb = (-1)
        · rw [if_pos (show vordP 1 yb 1 tb = sd false from o)] at hR
          have o' : (vordP 1 yb 1 tb == (-1)) = true := by simpa using o
          generalize vordP 1 yb 1 tb = q at *
          replace hR := Lib.hid hR
          clear o
          go_upto_region 6 with (fail)
          generalize wr.alloc (.cells #[.int .i64 1, .int .u64 (yb : Int)] 25) = wa at *
          generalize wr.heap.size = g at *
          obtain ⟨j0, j1, j2, j3, j4, j5, j6, j7, j8, j9, j10, j11⟩ := J.facts
          replace J := Lib.hid J
          clear d0 d1
          go_wp2
          go_region_held3 (fun w' => w'.cell? ⟨w.heap.size + 1, 0, none⟩ = some (.int .i64 1) ∧ w'.cell? ⟨w.heap.size + 1, 1, none⟩ = some (.int .u64 (tb : Int)) ∧ w'.cell? ⟨g, 0, none⟩ = some (.int .i64 1) ∧ w'.cell? ⟨g, 1, none⟩ = some (.int .u64 (yb : Int)) ∧ w'.cell? ⟨sb, 0, none⟩ = some (.int .i64 (-1)) ∧ ExtJ w sb pb (-1) (.func (.func 91) #[] #[]) 1 tb g 1 yb w') (first | exact ⟨j0, j1, j2, j3, j4, J.out.drew⟩ | go_keep | exact keepE hb1 (by first | assumption | exact ⟨by assumption, by assumption, by assumption, by assumption, by assumption, by assumption⟩)) (first | (go_at_call 96; refine (O.out _).mono ?_; rintro e w1 ⟨rfl, hb1⟩))
          rename_i hS
          have J2 := hS.2.2.2.2.2
          have P2 := Lib.hid (J2.put (xk := 1) (xb := yb))
          obtain ⟨l0, l1, l2, l3, l4, l5, l6, l7, l8, l9, l10, l11⟩ := J2.facts
          replace J2 := Lib.hid J2
          clear hS j0 j1 j2 j3 j4 j5 j6 j7 j8 j9 j10 j11
          go_wp2
          go_roundw
          case rel => exact ⟨k + 1, by omega, by go_num, (1, yb), P2.out.1, hR.out, d2, P2.out.2.1, P2.out.2.2⟩
          case measure => simp [intOf]; omega
        · rw [if_neg (show ¬ vordP 1 yb 1 tb = sd false from o)] at hR
          have o' : (vordP 1 yb 1 tb == (-1)) = false := by simpa using o
          generalize vordP 1 yb 1 tb = q at *
          replace hR := Lib.hid hR
          clear o
          go_upto_region 6 with (fail)
          generalize wr.alloc (.cells #[.int .i64 1, .int .u64 (yb : Int)] 25) = wa at *
          generalize wr.heap.size = g at *
          obtain ⟨j0, j1, j2, j3, j4, j5, j6, j7, j8, j9, j10, j11⟩ := J.facts
          replace J := Lib.hid J
          clear d0 d1
          go_wp2
          go_region_held3 (fun w' => w'.cell? ⟨w.heap.size + 1, 0, none⟩ = some (.int .i64 1) ∧ w'.cell? ⟨w.heap.size + 1, 1, none⟩ = some (.int .u64 (tb : Int)) ∧ w'.cell? ⟨g, 0, none⟩ = some (.int .i64 1) ∧ w'.cell? ⟨g, 1, none⟩ = some (.int .u64 (yb : Int)) ∧ w'.cell? ⟨sb, 0, none⟩ = some (.int .i64 (-1)) ∧ ExtJ w sb pb (-1) (.func (.func 91) #[] #[]) 1 tb g 1 yb w') (first | exact ⟨j0, j1, j2, j3, j4, J.out.drew⟩ | go_keep | exact keepE hb1 (by first | assumption | exact ⟨by assumption, by assumption, by assumption, by assumption, by assumption, by assumption⟩)) (first | (go_at_call 96; refine (O.out _).mono ?_; rintro e w1 ⟨rfl, hb1⟩))
          rename_i hS
          have J2 := hS.2.2.2.2.2
          replace J2 := Lib.hid J2
          clear hS j0 j1 j2 j3 j4 j5 j6 j7 j8 j9 j10 j11
          go_wp2
          go_roundw
          case rel => exact ⟨k + 1, by omega, by go_num, (1, tb), J2.out.1, hR.out, hlt, J2.out.2.1, J2.out.2.2.2.1⟩
          case measure => simp [intOf]; omega
      · rw [if_neg a1] at hR
        by_cases a2 : yk = 4 ∧ tk = 4
        · obtain ⟨rfl, rfl⟩ := a2
          rw [if_pos ⟨rfl, rfl⟩] at hR
          have hpl := pickP_lt (last := false) hlt d2
          have O := Lib.hid (fun w => min_any tb yb w hlt d2)
          generalize pickP tb yb false = q at *
          replace hR := Lib.hid hR
          clear a1
          go_upto_region 6 with (fail)
          generalize wr.alloc (.cells #[.int .i64 4, .int .u64 (yb : Int)] 25) = wa at *
          generalize wr.heap.size = g at *
          obtain ⟨j0, j1, j2, j3, j4, j5, j6, j7, j8, j9, j10, j11⟩ := J.facts
          replace J := Lib.hid J
          clear d0 d1
          go_wp2_with (go_at_call 91; refine (O.out _).mono ?_; rintro e w' ⟨rfl, rfl⟩)
          have P2 := Lib.hid (J.out.put1 (xb := q))
          clear j0 j1 j2 j3 j4 j5 j6 j7
          go_roundw
          case rel => exact ⟨k + 1, by omega, by go_num, (4, q), P2.out.1, hR.out, hpl, P2.out.2.1, P2.out.2.2⟩
          case measure => simp [intOf]; omega
        · rw [if_neg a2] at hR
          subst hR
          by_cases b1 : yk = 1
          · subst b1
            have b2 : (tk == 1) = false := by simpa using a1
            clear a1 a2
            go_upto_region 6 with (fail)
            generalize wr.alloc (.cells #[.int .i64 1, .int .u64 (yb : Int)] 25) = wa at *
            generalize wr.heap.size = g at *
            obtain ⟨j0, j1, j2, j3, j4, j5, j6, j7, j8, j9, j10, j11⟩ := J.facts
            replace J := Lib.hid J
            clear d0 d1
            obtain ⟨_, r1, r2⟩ := put2 (w := wa) (g := w.heap.size) (.int .i64 0) (.int .u64 0) j6 j7
            replace r1 := Lib.hid r1
            replace r2 := Lib.hid r2
            go_wp2
            exact bodyPost_ret (v := .agg #[.int .i64 0, .int .u64 0]) (by simp [results, Try.results95, go_sem, j6, j7, r1.out, r2.out]) rfl (.mk rfl ((J.out.2.2.2.1.setCell (Nat.le_refl _) _).setCell (Nat.le_refl _) _))
          · have b1' : (yk == 1) = false := by simpa using b1
            by_cases b4 : yk = 4
            · subst b4
              have b5 : (tk == 4) = false := by simpa using a2
              clear a1 a2 b1 b1'
              go_upto_region 6 with (fail)
              generalize wr.alloc (.cells #[.int .i64 4, .int .u64 (yb : Int)] 25) = wa at *
              generalize wr.heap.size = g at *
              obtain ⟨j0, j1, j2, j3, j4, j5, j6, j7, j8, j9, j10, j11⟩ := J.facts
              replace J := Lib.hid J
              clear d0 d1
              obtain ⟨_, r1, r2⟩ := put2 (w := wa) (g := w.heap.size) (.int .i64 0) (.int .u64 0) j6 j7
              replace r1 := Lib.hid r1
              replace r2 := Lib.hid r2
              go_wp2
              exact bodyPost_ret (v := .agg #[.int .i64 0, .int .u64 0]) (by simp [results, Try.results95, go_sem, j6, j7, r1.out, r2.out]) rfl (.mk rfl ((J.out.2.2.2.1.setCell (Nat.le_refl _) _).setCell (Nat.le_refl _) _))
            · have b4' : (yk == 4) = false := by simpa using b4
              clear a1 a2 b1 b4
              go_upto_region 6 with (fail)
              generalize wr.alloc (.cells #[.int .i64 yk, .int .u64 (yb : Int)] 25) = wa at *
              generalize wr.heap.size = g at *
              obtain ⟨j0, j1, j2, j3, j4, j5, j6, j7, j8, j9, j10, j11⟩ := J.facts
              replace J := Lib.hid J
              clear d0 d1
              obtain ⟨_, r1, r2⟩ := put2 (w := wa) (g := w.heap.size) (.int .i64 0) (.int .u64 0) j6 j7
              replace r1 := Lib.hid r1
              replace r2 := Lib.hid r2
              go_wp2
              exact bodyPost_ret (v := .agg #[.int .i64 0, .int .u64 0]) (by simp [results, Try.results95, go_sem, j6, j7, r1.out, r2.out]) rfl (.mk rfl ((J.out.2.2.2.1.setCell (Nat.le_refl _) _).setCell (Nat.le_refl _) _))
    · obtain rfl : k = vs.length := by omega
      have t0 : wr.cell? ⟨w.heap.size + 1, 0, none⟩ = some (.int .i64 tk) := hT.cell 0
      have t1 : wr.cell? ⟨w.heap.size + 1, 1, none⟩ = some (.int .u64 (tb : Int)) := hT.cell 1
      have x0 : wr.cell? ⟨w.heap.size, 0, none⟩ = some (.int .i64 0) := hZ.cell 0
      have x1 : wr.cell? ⟨w.heap.size, 1, none⟩ = some (.int .u64 0) := hZ.cell 1
      have f0 : wr.frozen? ⟨w.heap.size, 0, none⟩ = false := hZ.free 0
      have f1 : wr.frozen? ⟨w.heap.size, 1, none⟩ = false := hZ.free 1
      have hE : (tk, tb) = R := by
        rw [← hR, List.drop_eq_nil_of_le (Nat.le_refl _), extGo]
      subst hE
      obtain ⟨_, r1, r2⟩ := put2 (w := wr) (g := w.heap.size) (.int .i64 tk) (.int .u64 (tb : Int)) x0 x1
      replace r1 := Lib.hid r1
      replace r2 := Lib.hid r2
      replace hW := Lib.hid hW
      clear hT hZ hR hs hp
      go_wp2
      exact bodyPost_ret (v := .agg #[.int .i64 tk, .int .u64 (tb : Int)]) (by simp [results, Try.results95, go_sem, r1.out, r2.out]) rfl (.mk rfl ((hW.out.setCell (Nat.le_refl _) _).setCell (Nat.le_refl _) _))

set_option maxHeartbeats 8000000 in
set_option maxRecDepth 100000 in
theorem ext_true (A : Option Addr) (sb pb : Nat) (vs : List (Int × Nat)) (w : World) (hv : RowV w A vs.length vs) (h0 : 0 < vs.length) (hl : vs.length ≤ 9223372036854775807) (hs : w.cell? ⟨sb, 0, none⟩ = some (.int .i64 1)) (hp : w.cell? ⟨pb, 0, none⟩ = some (.func (.func 92) #[] #[])) :
    Calls Try.prog 95 #[.slice A vs.length vs.length, .pointer (some ⟨sb, 0, none⟩), .pointer (some ⟨pb, 0, none⟩)] w (VIs (extP true vs) w) := by
  obtain ⟨v, hv0⟩ : ∃ v, vs[0]? = some v := ⟨vs[0], List.getElem?_eq_getElem h0⟩
  have hx : extP true vs = extGo true v vs := by cases vs with | nil => simp at h0 | cons a l => simp at hv0; subst hv0; rfl
  rw [hx]
  generalize hR : extGo true v vs = R
  have hu := m1 w (.cells #[.int .i64 0, .int .u64 0] 25)
  obtain ⟨b, off, rfl, c0, c1, vlt⟩ := (hv.later hu).at_ hv0
  obtain ⟨vk, vb⟩ := v
  simp only [Nat.zero_mul, Nat.add_zero] at c0 c1 vlt
  have hcl : ∀ k y, vs[k]? = some y → w.cell? ⟨b, off + k * 2, none⟩ = some (.int .i64 y.1) ∧ w.cell? ⟨b, off + k * 2 + 1, none⟩ = some (.int .u64 (y.2 : Int)) ∧ y.2 < 18446744073709551616 := fun k y h => by
    obtain ⟨b', off', e, d0, d1, d2⟩ := hv.at_ h
    simp only [Option.some.injEq, Addr.mk.injEq, and_true] at e
    obtain ⟨rfl, rfl⟩ := e
    exact ⟨d0, d1, d2⟩
  have k0 : Blk ((w.alloc (.cells #[.int .i64 0, .int .u64 0] 25)).alloc (.cells #[.int .i64 vk, .int .u64 (vb : Int)] 25)) (w.heap.size + 1) 25 #[.int .i64 vk, .int .u64 (vb : Int)] := by
    have := Blk.made (w.alloc (.cells #[.int .i64 0, .int .u64 0] 25)) 25 #[.int .i64 vk, .int .u64 (vb : Int)]
    simpa using this
  have z0 : Blk ((w.alloc (.cells #[.int .i64 0, .int .u64 0] 25)).alloc (.cells #[.int .i64 vk, .int .u64 (vb : Int)] 25)) w.heap.size 25 #[.int .i64 0, .int .u64 0] :=
    (Blk.made w 25 #[.int .i64 0, .int .u64 0]).kept (m1 _ _)
  have s0 : ExtR w true vs R 0 ((w.alloc (.cells #[.int .i64 0, .int .u64 0] 25)).alloc (.cells #[.int .i64 vk, .int .u64 (vb : Int)] 25)) :=
    ⟨(vk, vb), k0, by simpa using hR, vlt, z0, m2 _ _ _⟩
  replace s0 := Lib.hid s0
  replace hcl := Lib.hid hcl
  have i1 : (0 : Int) < (vs.length : Int) := by omega
  clear hv hv0 hx hu k0 z0 hR
  go_enter Try.func95, Try.ntmps95
  go_wp2
  go_loopw [13] (fun i wr => ∃ k : Nat, k ≤ vs.length ∧ i = .int .i64 (k : Int) ∧ ExtR w true vs R k wr) (fun i _ => vs.length - (intOf i).toNat)
  case atStart => exact ⟨0, Nat.zero_le _, rfl, s0.out⟩
  case round =>
    obtain ⟨k, hk, rfl, ⟨tk, tb⟩, hT, hR, hlt, hZ, hW⟩ := hrel
    clear s0 c0 c1
    by_cases hkl : k < vs.length
    · have hrk : vs[k]? = some (vs[k].1, vs[k].2) := List.getElem?_eq_getElem hkl
      rw [List.drop_eq_getElem_cons hkl] at hR
      obtain ⟨d0, d1, d2⟩ := hcl.out k _ hrk
      generalize vs[k] = y at *
      obtain ⟨yk, yb⟩ := y
      simp only at hT hlt d0 d1 d2 hR
      rw [extGo] at hR
      simp only at hR
      have J := ExtJ.later (w := w) (sb := sb) (pb := pb) (s := 1) (f := .func (.func 92) #[] #[]) (tk := tk) (tb := tb) (g := wr.heap.size) (yk := yk) (yb := yb) (wr := wr.alloc (.cells #[.int .i64 yk, .int .u64 (yb : Int)] 25))
        ⟨hT.kept (m1 _ _), hZ.kept (m1 _ _), Blk.made _ _ _, mmore hW (m1 _ _), cell_later (m1 _ _) (cell_later hW hs), cell_later (m1 _ _) (cell_later hW hp)⟩ (Below.refl _ _)
      have d0 := cell_later hW d0
      have d1 := cell_later hW d1
      have hs1 := hW.size
      have g0 : w.heap.size + 1 < wr.heap.size := hT.lt
      clear hrk hT hZ hW hs hp
      have i2 : (k : Int) < (vs.length : Int) := by omega
      by_cases a1 : yk = 1 ∧ tk = 1
      · obtain ⟨rfl, rfl⟩ := a1
        rw [if_pos ⟨rfl, rfl⟩] at hR
        have O := Lib.hid (fun w => order_v 1 1 yb tb w d2 hlt)
        by_cases o : vordP 1 yb 1 tb = 1
        · rw [if_pos (show vordP 1 yb 1 tb = sd true from o)] at hR
          have o' : (vordP 1 yb 1 tb == 1) = true := by simpa using o
          generalize vordP 1 yb 1 tb = q at *
          replace hR := Lib.hid hR
          clear o
          go_upto_region 6 with (fail)
          generalize wr.alloc (.cells #[.int .i64 1, .int .u64 (yb : Int)] 25) = wa at *
          generalize wr.heap.size = g at *
          obtain ⟨j0, j1, j2, j3, j4, j5, j6, j7, j8, j9, j10, j11⟩ := J.facts
          replace J := Lib.hid J
          clear d0 d1
          go_wp2
          go_region_held3 (fun w' => w'.cell? ⟨w.heap.size + 1, 0, none⟩ = some (.int .i64 1) ∧ w'.cell? ⟨w.heap.size + 1, 1, none⟩ = some (.int .u64 (tb : Int)) ∧ w'.cell? ⟨g, 0, none⟩ = some (.int .i64 1) ∧ w'.cell? ⟨g, 1, none⟩ = some (.int .u64 (yb : Int)) ∧ w'.cell? ⟨sb, 0, none⟩ = some (.int .i64 1) ∧ ExtJ w sb pb 1 (.func (.func 92) #[] #[]) 1 tb g 1 yb w') (first | exact ⟨j0, j1, j2, j3, j4, J.out.drew⟩ | go_keep | exact keepE hb1 (by first | assumption | exact ⟨by assumption, by assumption, by assumption, by assumption, by assumption, by assumption⟩)) (first | (go_at_call 96; refine (O.out _).mono ?_; rintro e w1 ⟨rfl, hb1⟩))
          rename_i hS
          have J2 := hS.2.2.2.2.2
          have P2 := Lib.hid (J2.put (xk := 1) (xb := yb))
          obtain ⟨l0, l1, l2, l3, l4, l5, l6, l7, l8, l9, l10, l11⟩ := J2.facts
          replace J2 := Lib.hid J2
          clear hS j0 j1 j2 j3 j4 j5 j6 j7 j8 j9 j10 j11
          go_wp2
          go_roundw
          case rel => exact ⟨k + 1, by omega, by go_num, (1, yb), P2.out.1, hR.out, d2, P2.out.2.1, P2.out.2.2⟩
          case measure => simp [intOf]; omega
        · rw [if_neg (show ¬ vordP 1 yb 1 tb = sd true from o)] at hR
          have o' : (vordP 1 yb 1 tb == 1) = false := by simpa using o
          generalize vordP 1 yb 1 tb = q at *
          replace hR := Lib.hid hR
          clear o
          go_upto_region 6 with (fail)
          generalize wr.alloc (.cells #[.int .i64 1, .int .u64 (yb : Int)] 25) = wa at *
          generalize wr.heap.size = g at *
          obtain ⟨j0, j1, j2, j3, j4, j5, j6, j7, j8, j9, j10, j11⟩ := J.facts
          replace J := Lib.hid J
          clear d0 d1
          go_wp2
          go_region_held3 (fun w' => w'.cell? ⟨w.heap.size + 1, 0, none⟩ = some (.int .i64 1) ∧ w'.cell? ⟨w.heap.size + 1, 1, none⟩ = some (.int .u64 (tb : Int)) ∧ w'.cell? ⟨g, 0, none⟩ = some (.int .i64 1) ∧ w'.cell? ⟨g, 1, none⟩ = some (.int .u64 (yb : Int)) ∧ w'.cell? ⟨sb, 0, none⟩ = some (.int .i64 1) ∧ ExtJ w sb pb 1 (.func (.func 92) #[] #[]) 1 tb g 1 yb w') (first | exact ⟨j0, j1, j2, j3, j4, J.out.drew⟩ | go_keep | exact keepE hb1 (by first | assumption | exact ⟨by assumption, by assumption, by assumption, by assumption, by assumption, by assumption⟩)) (first | (go_at_call 96; refine (O.out _).mono ?_; rintro e w1 ⟨rfl, hb1⟩))
          rename_i hS
          have J2 := hS.2.2.2.2.2
          replace J2 := Lib.hid J2
          clear hS j0 j1 j2 j3 j4 j5 j6 j7 j8 j9 j10 j11
          go_wp2
          go_roundw
          case rel => exact ⟨k + 1, by omega, by go_num, (1, tb), J2.out.1, hR.out, hlt, J2.out.2.1, J2.out.2.2.2.1⟩
          case measure => simp [intOf]; omega
      · rw [if_neg a1] at hR
        by_cases a2 : yk = 4 ∧ tk = 4
        · obtain ⟨rfl, rfl⟩ := a2
          rw [if_pos ⟨rfl, rfl⟩] at hR
          have hpl := pickP_lt (last := true) hlt d2
          have O := Lib.hid (fun w => max_any tb yb w hlt d2)
          generalize pickP tb yb true = q at *
          replace hR := Lib.hid hR
          clear a1
          go_upto_region 6 with (fail)
          generalize wr.alloc (.cells #[.int .i64 4, .int .u64 (yb : Int)] 25) = wa at *
          generalize wr.heap.size = g at *
          obtain ⟨j0, j1, j2, j3, j4, j5, j6, j7, j8, j9, j10, j11⟩ := J.facts
          replace J := Lib.hid J
          clear d0 d1
          go_wp2_with (go_at_call 92; refine (O.out _).mono ?_; rintro e w' ⟨rfl, rfl⟩)
          have P2 := Lib.hid (J.out.put1 (xb := q))
          clear j0 j1 j2 j3 j4 j5 j6 j7
          go_roundw
          case rel => exact ⟨k + 1, by omega, by go_num, (4, q), P2.out.1, hR.out, hpl, P2.out.2.1, P2.out.2.2⟩
          case measure => simp [intOf]; omega
        · rw [if_neg a2] at hR
          subst hR
          by_cases b1 : yk = 1
          · subst b1
            have b2 : (tk == 1) = false := by simpa using a1
            clear a1 a2
            go_upto_region 6 with (fail)
            generalize wr.alloc (.cells #[.int .i64 1, .int .u64 (yb : Int)] 25) = wa at *
            generalize wr.heap.size = g at *
            obtain ⟨j0, j1, j2, j3, j4, j5, j6, j7, j8, j9, j10, j11⟩ := J.facts
            replace J := Lib.hid J
            clear d0 d1
            obtain ⟨_, r1, r2⟩ := put2 (w := wa) (g := w.heap.size) (.int .i64 0) (.int .u64 0) j6 j7
            replace r1 := Lib.hid r1
            replace r2 := Lib.hid r2
            go_wp2
            exact bodyPost_ret (v := .agg #[.int .i64 0, .int .u64 0]) (by simp [results, Try.results95, go_sem, j6, j7, r1.out, r2.out]) rfl (.mk rfl ((J.out.2.2.2.1.setCell (Nat.le_refl _) _).setCell (Nat.le_refl _) _))
          · have b1' : (yk == 1) = false := by simpa using b1
            by_cases b4 : yk = 4
            · subst b4
              have b5 : (tk == 4) = false := by simpa using a2
              clear a1 a2 b1 b1'
              go_upto_region 6 with (fail)
              generalize wr.alloc (.cells #[.int .i64 4, .int .u64 (yb : Int)] 25) = wa at *
              generalize wr.heap.size = g at *
              obtain ⟨j0, j1, j2, j3, j4, j5, j6, j7, j8, j9, j10, j11⟩ := J.facts
              replace J := Lib.hid J
              clear d0 d1
              obtain ⟨_, r1, r2⟩ := put2 (w := wa) (g := w.heap.size) (.int .i64 0) (.int .u64 0) j6 j7
              replace r1 := Lib.hid r1
              replace r2 := Lib.hid r2
              go_wp2
              exact bodyPost_ret (v := .agg #[.int .i64 0, .int .u64 0]) (by simp [results, Try.results95, go_sem, j6, j7, r1.out, r2.out]) rfl (.mk rfl ((J.out.2.2.2.1.setCell (Nat.le_refl _) _).setCell (Nat.le_refl _) _))
            · have b4' : (yk == 4) = false := by simpa using b4
              clear a1 a2 b1 b4
              go_upto_region 6 with (fail)
              generalize wr.alloc (.cells #[.int .i64 yk, .int .u64 (yb : Int)] 25) = wa at *
              generalize wr.heap.size = g at *
              obtain ⟨j0, j1, j2, j3, j4, j5, j6, j7, j8, j9, j10, j11⟩ := J.facts
              replace J := Lib.hid J
              clear d0 d1
              obtain ⟨_, r1, r2⟩ := put2 (w := wa) (g := w.heap.size) (.int .i64 0) (.int .u64 0) j6 j7
              replace r1 := Lib.hid r1
              replace r2 := Lib.hid r2
              go_wp2
              exact bodyPost_ret (v := .agg #[.int .i64 0, .int .u64 0]) (by simp [results, Try.results95, go_sem, j6, j7, r1.out, r2.out]) rfl (.mk rfl ((J.out.2.2.2.1.setCell (Nat.le_refl _) _).setCell (Nat.le_refl _) _))
    · obtain rfl : k = vs.length := by omega
      have t0 : wr.cell? ⟨w.heap.size + 1, 0, none⟩ = some (.int .i64 tk) := hT.cell 0
      have t1 : wr.cell? ⟨w.heap.size + 1, 1, none⟩ = some (.int .u64 (tb : Int)) := hT.cell 1
      have x0 : wr.cell? ⟨w.heap.size, 0, none⟩ = some (.int .i64 0) := hZ.cell 0
      have x1 : wr.cell? ⟨w.heap.size, 1, none⟩ = some (.int .u64 0) := hZ.cell 1
      have f0 : wr.frozen? ⟨w.heap.size, 0, none⟩ = false := hZ.free 0
      have f1 : wr.frozen? ⟨w.heap.size, 1, none⟩ = false := hZ.free 1
      have hE : (tk, tb) = R := by
        rw [← hR, List.drop_eq_nil_of_le (Nat.le_refl _), extGo]
      subst hE
      obtain ⟨_, r1, r2⟩ := put2 (w := wr) (g := w.heap.size) (.int .i64 tk) (.int .u64 (tb : Int)) x0 x1
      replace r1 := Lib.hid r1
      replace r2 := Lib.hid r2
      replace hW := Lib.hid hW
      clear hT hZ hR hs hp
      go_wp2
      exact bodyPost_ret (v := .agg #[.int .i64 tk, .int .u64 (tb : Int)]) (by simp [results, Try.results95, go_sem, r1.out, r2.out]) rfl (.mk rfl ((hW.out.setCell (Nat.le_refl _) _).setCell (Nat.le_refl _) _))
end Go.Proofs.Ytfjnphiegoogoaa
