/- ValueCompares: of two numbers just one of less, equal, greater holds; of two floats none, where one isn't a number. -/
import Derived.Test.YtocciehjpgkceaaRows
import Derived.WalkKit
import Derived.ProofKit
import Derived.OpenShut
import Derived.ShutString
import Derived.ChangeOld
import Derived.Below
import Derived.Lib.SmallJoins
import Derived.SizedLaws
import Derived.Test.YtocciehjpgkceaaAwake
import Derived.Test.YtocciehjpgkceaaUna
import Derived.Test.YtocciehjpgkceaaDist
import Derived.Test.YtocciehjpgkceaaKinds
namespace Go.Proofs.Ytocciehjpgkceaa.valueCompares
open Go.ChangeShapes Go.WideShapes Go.ChangeAt Go.RowKit Go.Fl Go.Joins
set_option linter.unusedVariables false
set_option linter.unusedSimpArgs false

theorem own : ownKnob Try.prog.godebug = none := by kernel_rfl
theorem laidOut : laidOutB Try.prog = true := by kernel_rfl
theorem cells29 : Try.prog.cellsOf 29 = 2 := by kernel_rfl

def oneOf (l e g : Bool) : Prop := (l = true ∧ e = false ∧ g = false) ∨ (l = false ∧ e = true ∧ g = false) ∨ (l = false ∧ e = false ∧ g = true)
theorem one_int (p q : Nat) (hp : p < 18446744073709551616) (hq : q < 18446744073709551616) : oneOf (ltV 1 p q) (eqV2 1 p q) (ltV 1 q p) := by
  unfold oneOf ltV eqV2
  rw [if_neg (by decide), if_neg (by decide), if_neg (by decide)]
  simp only [decide_eq_true_eq, decide_eq_false_iff_not, beq_iff_eq, beq_eq_false_iff_ne]
  unfold wrap64
  omega
theorem one_reals (p q : Nat) (hp : p < 18446744073709551616) (hq : q < 18446744073709551616) :
    (oneOf (ltB p q) (eqB p q) (ltB q p) ∧ eqB p p = true ∧ eqB q q = true) ∨ ((ltB p q = false ∧ eqB p q = false ∧ ltB q p = false) ∧ (eqB p p = false ∨ (eqB p p = true ∧ eqB q q = false))) := by
  rw [ltB_iff p q hp hq, ltB_iff q p hq hp, eqB_iff p q hp hq, eqB_iff p p hp hp, eqB_iff q q hq hq]
  by_cases na : INF < p % 9223372036854775808
  · right
    refine ⟨⟨decide_eq_false (by omega), decide_eq_false (by omega), decide_eq_false (by omega)⟩, .inl (decide_eq_false (by omega))⟩
  · by_cases nb : INF < q % 9223372036854775808
    · right
      refine ⟨⟨decide_eq_false (by omega), decide_eq_false (by omega), decide_eq_false (by omega)⟩, .inr ⟨decide_eq_true ⟨na, na, .inl rfl⟩, decide_eq_false (by omega)⟩⟩
    · left
      have hE : (p = q ∨ (p = 0 ∨ p = 9223372036854775808) ∧ (q = 0 ∨ q = 9223372036854775808)) ↔ key p = key q := by
        unfold key
        (repeat' split) <;> omega
      refine ⟨?_, decide_eq_true ⟨na, na, .inl rfl⟩, decide_eq_true ⟨nb, nb, .inl rfl⟩⟩
      rcases (show key p < key q ∨ key p = key q ∨ key q < key p by omega) with h | h | h
      · exact .inl ⟨decide_eq_true ⟨na, nb, h⟩, decide_eq_false (fun hh => by have := hE.1 hh.2.2; omega), decide_eq_false (by omega)⟩
      · exact .inr (.inl ⟨decide_eq_false (by omega), decide_eq_true ⟨na, nb, hE.2 h⟩, decide_eq_false (by omega)⟩)
      · exact .inr (.inr ⟨decide_eq_false (by omega), decide_eq_false (fun hh => by have := hE.1 hh.2.2; omega), decide_eq_true ⟨nb, na, h⟩⟩)

theorem cmpB7 (k : Int) (b c : Nat) : cmpB 7 k b c = eqV2 k b c := by simp [cmpB, cmpS]
theorem cmpB8 (k : Int) (b c : Nat) : cmpB 8 k b c = !eqV2 k b c := by simp [cmpB, cmpS]
theorem cmpB9 (k : Int) (b c : Nat) : cmpB 9 k b c = ltV k b c := by simp [cmpB, cmpS]
theorem cmpB10 (k : Int) (b c : Nat) : cmpB 10 k b c = (ltV k b c || eqV2 k b c) := by simp [cmpB, cmpS]
theorem cmpB11 (k : Int) (b c : Nat) : cmpB 11 k b c = ltV k c b := by simp [cmpB, cmpS]
theorem cmpB12 (k : Int) (b c : Nat) : cmpB 12 k b c = (ltV k c b || eqV2 k b c) := by simp [cmpB, cmpS]
theorem nan1 (b : Nat) : appOne 17 1 b = (0, 0) := by simp [appOne]
theorem nan4 (b : Nat) : appOne 17 4 b = (2, b2n (!eqB b b)) := by simp [appOne]

theorem cmp_pure (x y : Int) (p q : Nat) (hp : p < 18446744073709551616) (hq : q < 18446744073709551616) :
    ((appTwo 9 x p y q).1 = 0 ∧ (appTwo 11 x p y q).1 = 0) ∨
    ∃ l e g : Bool, appTwo 9 x p y q = (2, b2n l) ∧ appTwo 7 x p y q = (2, b2n e) ∧ appTwo 11 x p y q = (2, b2n g) ∧ appTwo 8 x p y q = (2, b2n (!e)) ∧ appTwo 10 x p y q = (2, b2n (l || e)) ∧ appTwo 12 x p y q = (2, b2n (g || e)) ∧
      ((oneOf l e g ∧ (appOne 17 x p).2 = 0 ∧ (appOne 17 y q).2 = 0) ∨ ((l = false ∧ e = false ∧ g = false) ∧ (appOne 17 x p = (2, 1) ∨ ((appOne 17 x p).2 = 0 ∧ appOne 17 y q = (2, 1))))) := by
  by_cases hk : x = y ∧ (x = 1 ∨ x = 4)
  · right
    obtain ⟨rfl, hx⟩ := hk
    have r : ∀ op, 7 ≤ op → op ≤ 12 → appTwo op x p x q = (2, b2n (cmpB op x p q)) := by
      intro op h7 h12
      have hr : r2P op x = 2 := by unfold r2P; rw [if_neg (by omega), if_pos (by omega)]
      unfold appTwo
      rw [if_neg (by omega), if_neg (by omega), if_neg (by rw [hr]; omega), if_pos hr]
    refine ⟨ltV x p q, eqV2 x p q, ltV x q p, ?_, ?_, ?_, ?_, ?_, ?_, ?_⟩
    · rw [r 9 (by omega) (by omega), cmpB9]
    · rw [r 7 (by omega) (by omega), cmpB7]
    · rw [r 11 (by omega) (by omega), cmpB11]
    · rw [r 8 (by omega) (by omega), cmpB8]
    · rw [r 10 (by omega) (by omega), cmpB10]
    · rw [r 12 (by omega) (by omega), cmpB12]
    · rcases hx with rfl | rfl
      · left
        rw [nan1, nan1]
        exact ⟨one_int p q hp hq, rfl, rfl⟩
      · rw [nan4, nan4]
        have h := one_reals p q hp hq
        have eL : ∀ a b, ltV 4 a b = ltB a b := fun a b => by unfold ltV; rw [if_pos rfl]
        have eE : eqV2 4 p q = eqB p q := by unfold eqV2; rw [if_pos rfl]
        rw [eL, eL, eE]
        generalize ltB p q = l at *
        generalize ltB q p = g at *
        generalize eqB p q = e at *
        generalize eqB p p = np at *
        generalize eqB q q = nq at *
        rcases h with ⟨h1, rfl, rfl⟩ | ⟨h1, rfl | ⟨rfl, rfl⟩⟩
        · left; exact ⟨h1, rfl, rfl⟩
        · right; exact ⟨h1, .inl rfl⟩
        · right; exact ⟨h1, .inr ⟨rfl, rfl⟩⟩
  · left
    have z : ∀ op, (op = 9 ∨ op = 11) → (appTwo op x p y q).1 = 0 := by
      intro op ho
      unfold appTwo
      rw [if_neg (by omega), if_neg (by omega), if_pos]
      by_cases c : x = y
      · right; unfold r2P; rw [if_neg (by omega), if_neg (by omega)]
      · exact .inl c
    exact ⟨z 9 (.inl rfl), z 11 (.inr rfl)⟩

theorem cmp_facts (k0 k1 : Int) (b0 b1 : Nat) (h0 : b0 < 18446744073709551616) (h1 : b1 < 18446744073709551616) :
    ((appP 9 [(k0, b0), (k1, b1)]).1 = 0 ∧ (appP 11 [(k0, b0), (k1, b1)]).1 = 0) ∨
    ∃ l e g : Bool, appP 9 [(k0, b0), (k1, b1)] = (2, b2n l) ∧ appP 7 [(k0, b0), (k1, b1)] = (2, b2n e) ∧ appP 11 [(k0, b0), (k1, b1)] = (2, b2n g) ∧ appP 8 [(k0, b0), (k1, b1)] = (2, b2n (!e)) ∧ appP 10 [(k0, b0), (k1, b1)] = (2, b2n (l || e)) ∧ appP 12 [(k0, b0), (k1, b1)] = (2, b2n (g || e)) ∧
      ((oneOf l e g ∧ (appP 17 [(k0, b0)]).2 = 0 ∧ (appP 17 [(k1, b1)]).2 = 0) ∨ ((l = false ∧ e = false ∧ g = false) ∧ (appP 17 [(k0, b0)] = (2, 1) ∨ ((appP 17 [(k0, b0)]).2 = 0 ∧ appP 17 [(k1, b1)] = (2, 1))))) :=
  cmp_pure _ _ _ _ (clB_lt2 k0 h0) (clB_lt2 k1 h1)
theorem keepC11 {w0 w w1 : World} {a0 a1 a2 a3 a4 a5 a6 a7 a8 a9 : Addr} {v0 v1 v2 v3 v4 v5 v6 v7 v8 v9 : Value} (hb : Below w.heap.size w w1) (h : w.cell? a0 = some v0 ∧ w.cell? a1 = some v1 ∧ w.cell? a2 = some v2 ∧ w.cell? a3 = some v3 ∧ w.cell? a4 = some v4 ∧ w.cell? a5 = some v5 ∧ w.cell? a6 = some v6 ∧ w.cell? a7 = some v7 ∧ w.cell? a8 = some v8 ∧ w.cell? a9 = some v9 ∧ Below w0.heap.size w0 w) :
    w1.cell? a0 = some v0 ∧ w1.cell? a1 = some v1 ∧ w1.cell? a2 = some v2 ∧ w1.cell? a3 = some v3 ∧ w1.cell? a4 = some v4 ∧ w1.cell? a5 = some v5 ∧ w1.cell? a6 = some v6 ∧ w1.cell? a7 = some v7 ∧ w1.cell? a8 = some v8 ∧ w1.cell? a9 = some v9 ∧ Below w0.heap.size w0 w1 := by
  obtain ⟨h0, h1, h2, h3, h4, h5, h6, h7, h8, h9, h10⟩ := h
  exact ⟨cell_later hb h0, cell_later hb h1, cell_later hb h2, cell_later hb h3, cell_later hb h4, cell_later hb h5, cell_later hb h6, cell_later hb h7, cell_later hb h8, cell_later hb h9, h10.trans (hb.mono h10.size)⟩
set_option maxHeartbeats 4000000 in
theorem walk (w : World) (k0 : Int) (b0 : Nat) (x0 : (Lit.int .i64 k0).wf = true) (w0 : b0 < 18446744073709551616) (k1 : Int) (b1 : Nat) (x1 : (Lit.int .i64 k1).wf = true) (w1 : b1 < 18446744073709551616) :
    Calls Try.prog 8 #[.agg #[.int .i64 k0, .int .u64 (b0 : Int)], .agg #[.int .i64 k1, .int .u64 (b1 : Int)]] w fun e w' => e = .returned (.bool true) ∧ Below w.heap.size w w' := by
  have he := eqR
  have hf := cmp_facts k0 k1 b0 b1 w0 w1
  have C9 := Lib.hid (fun A cap w hv => do_any 9 A 2 cap [(k0, b0), (k1, b1)] w hv (by decide))
  have C7 := Lib.hid (fun A cap w hv => do_any 7 A 2 cap [(k0, b0), (k1, b1)] w hv (by decide))
  have C11 := Lib.hid (fun A cap w hv => do_any 11 A 2 cap [(k0, b0), (k1, b1)] w hv (by decide))
  have C8 := Lib.hid (fun A cap w hv => do_any 8 A 2 cap [(k0, b0), (k1, b1)] w hv (by decide))
  have C10 := Lib.hid (fun A cap w hv => do_any 10 A 2 cap [(k0, b0), (k1, b1)] w hv (by decide))
  have C12 := Lib.hid (fun A cap w hv => do_any 12 A 2 cap [(k0, b0), (k1, b1)] w hv (by decide))
  have Na := Lib.hid (fun A cap w hv => do_any 17 A 1 cap [(k0, b0)] w hv (by decide))
  have Nb := Lib.hid (fun A cap w hv => do_any 17 A 1 cap [(k1, b1)] w hv (by decide))
  generalize appP 9 [(k0, b0), (k1, b1)] = v9 at *
  generalize appP 7 [(k0, b0), (k1, b1)] = v7 at *
  generalize appP 11 [(k0, b0), (k1, b1)] = v11 at *
  generalize appP 8 [(k0, b0), (k1, b1)] = v8 at *
  generalize appP 10 [(k0, b0), (k1, b1)] = v10 at *
  generalize appP 12 [(k0, b0), (k1, b1)] = v12 at *
  generalize appP 17 [(k0, b0)] = na at *
  generalize appP 17 [(k1, b1)] = nb at *
  replace hf := Lib.hid hf
  go_enter Try.func8, Try.ntmps8
  go_wp2_with fail
  refine (awake_any _).mono ?_; rintro e u1 ⟨rfl, hb1⟩
  have hB1 := below_more (below2 w _ _) hb1
  have qa : u1.cell? ⟨w.heap.size, 0, none⟩ = some (.int .i64 k0) := cell_later hb1 (by simp)
  have qb : u1.cell? ⟨w.heap.size, 1, none⟩ = some (.int .u64 (b0 : Int)) := cell_later hb1 (by simp)
  have qc : u1.cell? ⟨w.heap.size + 1, 0, none⟩ = some (.int .i64 k1) := cell_later hb1 (by simp)
  have qd : u1.cell? ⟨w.heap.size + 1, 1, none⟩ = some (.int .u64 (b1 : Int)) := cell_later hb1 (by simp)
  go_wp2_with fail
  have KD := keepsD_dist [5, 6, 7]
  refine region_wordsG 15 (fun w' => w'.cell? ⟨w.heap.size, 0, none⟩ = some (.int .i64 k0) ∧ w'.cell? ⟨w.heap.size, 1, none⟩ = some (.int .u64 (b0 : Int)) ∧ w'.cell? ⟨w.heap.size + 1, 0, none⟩ = some (.int .i64 k1) ∧ w'.cell? ⟨w.heap.size + 1, 1, none⟩ = some (.int .u64 (b1 : Int)) ∧ Below u1.heap.size u1 w') (DistD [5, 6, 7]) [isW (.agg #[.int .i64 (k0), .int .u64 ((b0 : Nat) : Int)]), isW (.agg #[.int .i64 (k1), .int .u64 ((b1 : Nat) : Int)]), rowW [(k0, b0), (k1, b1)], isW (.agg #[.int .i64 (v9.1), .int .u64 ((v9.2 : Nat) : Int)]), isW (.agg #[.int .i64 (k0), .int .u64 ((b0 : Nat) : Int)]), isW (.agg #[.int .i64 (k1), .int .u64 ((b1 : Nat) : Int)]), rowW [(k0, b0), (k1, b1)], isW (.agg #[.int .i64 (v7.1), .int .u64 ((v7.2 : Nat) : Int)]), isW (.agg #[.int .i64 (k0), .int .u64 ((b0 : Nat) : Int)]), isW (.agg #[.int .i64 (k1), .int .u64 ((b1 : Nat) : Int)]), rowW [(k0, b0), (k1, b1)], isW (.agg #[.int .i64 (v11.1), .int .u64 ((v11.2 : Nat) : Int)]), ptrW u1.heap.size 29 #[.int .i64 0, .int .u64 0], ptrW u1.heap.size 29 #[.int .i64 0, .int .u64 0], ptrW u1.heap.size 29 #[.int .i64 0, .int .u64 0]] (by kernel_rfl) (by repeat' (first | exact monoL_nil | exact is_mono _ | exact row_mono _ | exact ptr_mono _ _ _ | refine monoL_cons ?_ ?_)) (by kernel_rfl) (by kernel_rfl) ⟨qa, qb, qc, qd, (Below.refl _ _).drew⟩ ?_ ?_ ?_
  · intro p hp g hg
    simp at hp
    rcases hp with rfl | rfl | rfl <;> simp [slotP, undef] at hg
  · have KC : KeepsC (fun w' => w'.cell? ⟨w.heap.size, 0, none⟩ = some (.int .i64 k0) ∧ w'.cell? ⟨w.heap.size, 1, none⟩ = some (.int .u64 (b0 : Int)) ∧ w'.cell? ⟨w.heap.size + 1, 0, none⟩ = some (.int .i64 k1) ∧ w'.cell? ⟨w.heap.size + 1, 1, none⟩ = some (.int .u64 (b1 : Int)) ∧ Below u1.heap.size u1 w') := fun _ _ h hb => keepF hb h
    refine stepsL_cons (fun a u hc hdd hd hk hdep => ?_) ?_
    ·
      have d2 : (a.tmps[2]?).getD undef = (.pointer (some ⟨w.heap.size, 0, none⟩)) := hk 2 (by kernel_rfl)
      refine step_val KC KD hc hdd rfl (.agg #[.int .i64 (k0), .int .u64 ((b0 : Nat) : Int)]) u (wanted_plain rfl) ?_ rfl (Below.refl _ _)
      obtain ⟨s0, s1, s2, s3, s4⟩ := hc
      go_simp
    refine stepsL_cons (fun a u hc hdd hd hk hdep => ?_) ?_
    ·
      have d3 : (a.tmps[3]?).getD undef = (.pointer (some ⟨w.heap.size + 1, 0, none⟩)) := hk 3 (by kernel_rfl)
      refine step_val KC KD hc hdd rfl (.agg #[.int .i64 (k1), .int .u64 ((b1 : Nat) : Int)]) u (wanted_plain rfl) ?_ rfl (Below.refl _ _)
      obtain ⟨s0, s1, s2, s3, s4⟩ := hc
      go_simp
    refine stepsL_cons (fun a u hc hdd hd hk hdep => ?_) ?_
    ·
      have d12 : (a.tmps[12]?).getD undef = (.agg #[.int .i64 (k0), .int .u64 ((b0 : Nat) : Int)]) := hdep ⟨0, .data⟩ (by simp) rfl
      have d13 : (a.tmps[13]?).getD undef = (.agg #[.int .i64 (k1), .int .u64 ((b1 : Nat) : Int)]) := hdep ⟨1, .data⟩ (by simp) rfl
      refine step_val KC KD hc hdd rfl (.slice (some ⟨u.heap.size, 0, none⟩) 2 2) (u.alloc (.cells #[.int .i64 (k0), .int .u64 ((b0 : Nat) : Int), .int .i64 (k1), .int .u64 ((b1 : Nat) : Int)] 29)) (wanted_plain rfl) ?_ ⟨_, 2, rfl, row_two (by first | assumption | decide) (by first | assumption | decide) (by simp) (by simp) (by simp) (by simp)⟩ (below1 _ _)
      go_simp
    refine stepsL_cons (fun a u hc hdd hd hk hdep => ?_) ?_
    ·
      obtain ⟨A14, c14, d14, r14⟩ : rowW [(k0, b0), (k1, b1)] ((a.tmps[14]?).getD undef) u := hdep ⟨2, .data⟩ (by simp) rfl
      refine step_call KC KD hc hdd rfl 17 #[.int .i64 9, .slice A14 2 c14] (wanted_plain rfl) (by go_simp) ?_
      exact (C9.out _ _ u r14).mono (by rintro e w' ⟨rfl, hb⟩; exact ⟨_, rfl, rfl, hb⟩)
    refine stepsL_cons (fun a u hc hdd hd hk hdep => ?_) ?_
    ·
      have d2 : (a.tmps[2]?).getD undef = (.pointer (some ⟨w.heap.size, 0, none⟩)) := hk 2 (by kernel_rfl)
      refine step_val KC KD hc hdd rfl (.agg #[.int .i64 (k0), .int .u64 ((b0 : Nat) : Int)]) u (wanted_plain rfl) ?_ rfl (Below.refl _ _)
      obtain ⟨s0, s1, s2, s3, s4⟩ := hc
      go_simp
    refine stepsL_cons (fun a u hc hdd hd hk hdep => ?_) ?_
    ·
      have d3 : (a.tmps[3]?).getD undef = (.pointer (some ⟨w.heap.size + 1, 0, none⟩)) := hk 3 (by kernel_rfl)
      refine step_val KC KD hc hdd rfl (.agg #[.int .i64 (k1), .int .u64 ((b1 : Nat) : Int)]) u (wanted_plain rfl) ?_ rfl (Below.refl _ _)
      obtain ⟨s0, s1, s2, s3, s4⟩ := hc
      go_simp
    refine stepsL_cons (fun a u hc hdd hd hk hdep => ?_) ?_
    ·
      have d16 : (a.tmps[16]?).getD undef = (.agg #[.int .i64 (k0), .int .u64 ((b0 : Nat) : Int)]) := hdep ⟨4, .data⟩ (by simp) rfl
      have d17 : (a.tmps[17]?).getD undef = (.agg #[.int .i64 (k1), .int .u64 ((b1 : Nat) : Int)]) := hdep ⟨5, .data⟩ (by simp) rfl
      refine step_val KC KD hc hdd rfl (.slice (some ⟨u.heap.size, 0, none⟩) 2 2) (u.alloc (.cells #[.int .i64 (k0), .int .u64 ((b0 : Nat) : Int), .int .i64 (k1), .int .u64 ((b1 : Nat) : Int)] 29)) (wanted_plain rfl) ?_ ⟨_, 2, rfl, row_two (by first | assumption | decide) (by first | assumption | decide) (by simp) (by simp) (by simp) (by simp)⟩ (below1 _ _)
      go_simp
    refine stepsL_cons (fun a u hc hdd hd hk hdep => ?_) ?_
    ·
      obtain ⟨A18, c18, d18, r18⟩ : rowW [(k0, b0), (k1, b1)] ((a.tmps[18]?).getD undef) u := hdep ⟨6, .data⟩ (by simp) rfl
      refine step_call KC KD hc hdd rfl 17 #[.int .i64 7, .slice A18 2 c18] (wanted_plain rfl) (by go_simp) ?_
      exact (C7.out _ _ u r18).mono (by rintro e w' ⟨rfl, hb⟩; exact ⟨_, rfl, rfl, hb⟩)
    refine stepsL_cons (fun a u hc hdd hd hk hdep => ?_) ?_
    ·
      have d2 : (a.tmps[2]?).getD undef = (.pointer (some ⟨w.heap.size, 0, none⟩)) := hk 2 (by kernel_rfl)
      refine step_val KC KD hc hdd rfl (.agg #[.int .i64 (k0), .int .u64 ((b0 : Nat) : Int)]) u (wanted_plain rfl) ?_ rfl (Below.refl _ _)
      obtain ⟨s0, s1, s2, s3, s4⟩ := hc
      go_simp
    refine stepsL_cons (fun a u hc hdd hd hk hdep => ?_) ?_
    ·
      have d3 : (a.tmps[3]?).getD undef = (.pointer (some ⟨w.heap.size + 1, 0, none⟩)) := hk 3 (by kernel_rfl)
      refine step_val KC KD hc hdd rfl (.agg #[.int .i64 (k1), .int .u64 ((b1 : Nat) : Int)]) u (wanted_plain rfl) ?_ rfl (Below.refl _ _)
      obtain ⟨s0, s1, s2, s3, s4⟩ := hc
      go_simp
    refine stepsL_cons (fun a u hc hdd hd hk hdep => ?_) ?_
    ·
      have d20 : (a.tmps[20]?).getD undef = (.agg #[.int .i64 (k0), .int .u64 ((b0 : Nat) : Int)]) := hdep ⟨8, .data⟩ (by simp) rfl
      have d21 : (a.tmps[21]?).getD undef = (.agg #[.int .i64 (k1), .int .u64 ((b1 : Nat) : Int)]) := hdep ⟨9, .data⟩ (by simp) rfl
      refine step_val KC KD hc hdd rfl (.slice (some ⟨u.heap.size, 0, none⟩) 2 2) (u.alloc (.cells #[.int .i64 (k0), .int .u64 ((b0 : Nat) : Int), .int .i64 (k1), .int .u64 ((b1 : Nat) : Int)] 29)) (wanted_plain rfl) ?_ ⟨_, 2, rfl, row_two (by first | assumption | decide) (by first | assumption | decide) (by simp) (by simp) (by simp) (by simp)⟩ (below1 _ _)
      go_simp
    refine stepsL_cons (fun a u hc hdd hd hk hdep => ?_) ?_
    ·
      obtain ⟨A22, c22, d22, r22⟩ : rowW [(k0, b0), (k1, b1)] ((a.tmps[22]?).getD undef) u := hdep ⟨10, .data⟩ (by simp) rfl
      refine step_call KC KD hc hdd rfl 17 #[.int .i64 11, .slice A22 2 c22] (wanted_plain rfl) (by go_simp) ?_
      exact (C11.out _ _ u r22).mono (by rintro e w' ⟨rfl, hb⟩; exact ⟨_, rfl, rfl, hb⟩)
    refine stepsL_cons (fun a u hc hdd hd hk hdep => ?_) ?_
    · refine step_valD KC hc (.pointer (some ⟨u.heap.size, 0, none⟩)) (u.alloc (.cells #[.int .i64 0, .int .u64 0] 29)) (wanted_plain rfl) (by go_simp) ⟨_, rfl, hc.2.2.2.2.size, Whole.made _ _ _⟩ (below1 _ _) (dist_new 5 _ hdd)
    refine stepsL_cons (fun a u hc hdd hd hk hdep => ?_) ?_
    · refine step_valD KC hc (.pointer (some ⟨u.heap.size, 0, none⟩)) (u.alloc (.cells #[.int .i64 0, .int .u64 0] 29)) (wanted_plain rfl) (by go_simp) ⟨_, rfl, hc.2.2.2.2.size, Whole.made _ _ _⟩ (below1 _ _) (dist_new 6 _ hdd)
    refine stepsL_cons (fun a u hc hdd hd hk hdep => ?_) ?_
    · refine step_valD KC hc (.pointer (some ⟨u.heap.size, 0, none⟩)) (u.alloc (.cells #[.int .i64 0, .int .u64 0] 29)) (wanted_plain rfl) (by go_simp) ⟨_, rfl, hc.2.2.2.2.size, Whole.made _ _ _⟩ (below1 _ _) (dist_new 7 _ hdd)
    exact stepsL_nil
  intro vs wN hN hD hh
  obtain ⟨e0, e1, e2, e3, e4, e5, e6, e7, e8, e9, e10, e11, e12, e13, e14, -⟩ := hh
  obtain ⟨g5, e12, hg5, B5⟩ := e12
  obtain ⟨g6, e13, hg6, B6⟩ := e13
  obtain ⟨g7, e14, hg7, B7⟩ := e14
  replace e3 : vs 3 = .agg #[.int .i64 v9.1, .int .u64 ((v9.2 : Nat) : Int)] := e3
  replace e7 : vs 7 = .agg #[.int .i64 v7.1, .int .u64 ((v7.2 : Nat) : Int)] := e7
  replace e11 : vs 11 = .agg #[.int .i64 v11.1, .int .u64 ((v11.2 : Nat) : Int)] := e11
  simp only [Nat.reduceAdd] at e12 e13 e14
  clear e0 e1 e2 e4 e5 e6 e8 e9 e10
  set_option maxRecDepth 100000 in simp only [List.take_succ_cons, List.take_zero, putAll, Act.put, List.setIfInBounds_toArray, List.set_cons_zero, List.set_cons_succ, Nat.reduceAdd, e3, e7, e11, e12, e13, e14] at hD ⊢
  have n56 : g5 ≠ g6 := fun e => (hD 5 (by simp) g5 rfl).2 6 (by simp) (by decide) (by subst e; rfl)
  have n57 : g5 ≠ g7 := fun e => (hD 5 (by simp) g5 rfl).2 7 (by simp) (by decide) (by subst e; rfl)
  have n67 : g6 ≠ g7 := fun e => (hD 6 (by simp) g6 rfl).2 7 (by simp) (by decide) (by subst e; rfl)
  obtain ⟨-, -, -, -, hN⟩ := hN
  clear hD e3 e7 e11 e12 e13 e14
  have m50 : World.cell? wN ⟨g5, 0, none⟩ = some (.int .i64 0) := (B5.at_ 0).trans rfl
  have m51 : World.cell? wN ⟨g5, 1, none⟩ = some (.int .u64 0) := (B5.at_ 1).trans rfl
  have f50 : World.frozen? wN ⟨g5, 0, none⟩ = false := B5.free 0
  have f51 : World.frozen? wN ⟨g5, 1, none⟩ = false := B5.free 1
  refine wpAny_ready (rs := [15]) (by kernel_rfl) (by simp) ?_
  refine AllReady.cons rfl (fun K hK => ?_) AllReady.nil
  go_simp
  refine hK _ _ ?_
  clear hK K m50 m51 f50 f51
  replace B5 := B5.two (.int .i64 v9.1) (.int .u64 ((v9.2 : Nat) : Int))
  replace B6 := (B6.else_ (p := ⟨g5, 0, none⟩) n56 (.int .i64 v9.1)).else_ (p := ⟨g5, 1, none⟩) n56 (.int .u64 ((v9.2 : Nat) : Int))
  replace B7 := (B7.else_ (p := ⟨g5, 0, none⟩) n57 (.int .i64 v9.1)).else_ (p := ⟨g5, 1, none⟩) n57 (.int .u64 ((v9.2 : Nat) : Int))
  replace hN := (hN.setCell (p := ⟨g5, 0, none⟩) hg5 (.int .i64 v9.1)).setCell (p := ⟨g5, 1, none⟩) hg5 (.int .u64 ((v9.2 : Nat) : Int))
  have m60 : World.cell? ((World.setCell wN ⟨g5, 0, none⟩ (.int .i64 v9.1)).setCell ⟨g5, 1, none⟩ (.int .u64 ((v9.2 : Nat) : Int))) ⟨g6, 0, none⟩ = some (.int .i64 0) := (B6.at_ 0).trans rfl
  have m61 : World.cell? ((World.setCell wN ⟨g5, 0, none⟩ (.int .i64 v9.1)).setCell ⟨g5, 1, none⟩ (.int .u64 ((v9.2 : Nat) : Int))) ⟨g6, 1, none⟩ = some (.int .u64 0) := (B6.at_ 1).trans rfl
  have f60 : World.frozen? ((World.setCell wN ⟨g5, 0, none⟩ (.int .i64 v9.1)).setCell ⟨g5, 1, none⟩ (.int .u64 ((v9.2 : Nat) : Int))) ⟨g6, 0, none⟩ = false := B6.free 0
  have f61 : World.frozen? ((World.setCell wN ⟨g5, 0, none⟩ (.int .i64 v9.1)).setCell ⟨g5, 1, none⟩ (.int .u64 ((v9.2 : Nat) : Int))) ⟨g6, 1, none⟩ = false := B6.free 1
  refine wpAny_ready (rs := [16]) (by kernel_rfl) (by simp) ?_
  refine AllReady.cons rfl (fun K hK => ?_) AllReady.nil
  go_simp
  refine hK _ _ ?_
  clear hK K m60 m61 f60 f61
  replace B5 := (B5.else_ (p := ⟨g6, 0, none⟩) n56.symm (.int .i64 v7.1)).else_ (p := ⟨g6, 1, none⟩) n56.symm (.int .u64 ((v7.2 : Nat) : Int))
  replace B6 := B6.two (.int .i64 v7.1) (.int .u64 ((v7.2 : Nat) : Int))
  replace B7 := (B7.else_ (p := ⟨g6, 0, none⟩) n67 (.int .i64 v7.1)).else_ (p := ⟨g6, 1, none⟩) n67 (.int .u64 ((v7.2 : Nat) : Int))
  replace hN := (hN.setCell (p := ⟨g6, 0, none⟩) hg6 (.int .i64 v7.1)).setCell (p := ⟨g6, 1, none⟩) hg6 (.int .u64 ((v7.2 : Nat) : Int))
  have m70 : World.cell? ((World.setCell ((World.setCell wN ⟨g5, 0, none⟩ (.int .i64 v9.1)).setCell ⟨g5, 1, none⟩ (.int .u64 ((v9.2 : Nat) : Int))) ⟨g6, 0, none⟩ (.int .i64 v7.1)).setCell ⟨g6, 1, none⟩ (.int .u64 ((v7.2 : Nat) : Int))) ⟨g7, 0, none⟩ = some (.int .i64 0) := (B7.at_ 0).trans rfl
  have m71 : World.cell? ((World.setCell ((World.setCell wN ⟨g5, 0, none⟩ (.int .i64 v9.1)).setCell ⟨g5, 1, none⟩ (.int .u64 ((v9.2 : Nat) : Int))) ⟨g6, 0, none⟩ (.int .i64 v7.1)).setCell ⟨g6, 1, none⟩ (.int .u64 ((v7.2 : Nat) : Int))) ⟨g7, 1, none⟩ = some (.int .u64 0) := (B7.at_ 1).trans rfl
  have f70 : World.frozen? ((World.setCell ((World.setCell wN ⟨g5, 0, none⟩ (.int .i64 v9.1)).setCell ⟨g5, 1, none⟩ (.int .u64 ((v9.2 : Nat) : Int))) ⟨g6, 0, none⟩ (.int .i64 v7.1)).setCell ⟨g6, 1, none⟩ (.int .u64 ((v7.2 : Nat) : Int))) ⟨g7, 0, none⟩ = false := B7.free 0
  have f71 : World.frozen? ((World.setCell ((World.setCell wN ⟨g5, 0, none⟩ (.int .i64 v9.1)).setCell ⟨g5, 1, none⟩ (.int .u64 ((v9.2 : Nat) : Int))) ⟨g6, 0, none⟩ (.int .i64 v7.1)).setCell ⟨g6, 1, none⟩ (.int .u64 ((v7.2 : Nat) : Int))) ⟨g7, 1, none⟩ = false := B7.free 1
  refine wpAny_ready (rs := [17]) (by kernel_rfl) (by simp) ?_
  refine AllReady.cons rfl (fun K hK => ?_) AllReady.nil
  go_simp
  refine hK _ _ ?_
  clear hK K m70 m71 f70 f71
  replace B5 := (B5.else_ (p := ⟨g7, 0, none⟩) n57.symm (.int .i64 v11.1)).else_ (p := ⟨g7, 1, none⟩) n57.symm (.int .u64 ((v11.2 : Nat) : Int))
  replace B6 := (B6.else_ (p := ⟨g7, 0, none⟩) n67.symm (.int .i64 v11.1)).else_ (p := ⟨g7, 1, none⟩) n67.symm (.int .u64 ((v11.2 : Nat) : Int))
  replace B7 := B7.two (.int .i64 v11.1) (.int .u64 ((v11.2 : Nat) : Int))
  replace hN := (hN.setCell (p := ⟨g7, 0, none⟩) hg7 (.int .i64 v11.1)).setCell (p := ⟨g7, 1, none⟩) hg7 (.int .u64 ((v11.2 : Nat) : Int))
  refine wpAny_done (by kernel_rfl) ?_ _
  generalize ((World.setCell ((World.setCell ((World.setCell wN ⟨g5, 0, none⟩ (.int .i64 v9.1)).setCell ⟨g5, 1, none⟩ (.int .u64 ((v9.2 : Nat) : Int))) ⟨g6, 0, none⟩ (.int .i64 v7.1)).setCell ⟨g6, 1, none⟩ (.int .u64 ((v7.2 : Nat) : Int))) ⟨g7, 0, none⟩ (.int .i64 v11.1)).setCell ⟨g7, 1, none⟩ (.int .u64 ((v11.2 : Nat) : Int))) = u4 at *
  have ra := cell_later hN qa
  have rb := cell_later hN qb
  have rc := cell_later hN qc
  have rd := cell_later hN qd
  have h4 : Below w.heap.size w u4 := below_more hB1 hN
  have s5a : u4.cell? ⟨g5, 0, none⟩ = some (.int .i64 v9.1) := (B5.at_ 0).trans rfl
  have s5b : u4.cell? ⟨g5, 1, none⟩ = some (.int .u64 ((v9.2 : Nat) : Int)) := (B5.at_ 1).trans rfl
  have s6a : u4.cell? ⟨g6, 0, none⟩ = some (.int .i64 v7.1) := (B6.at_ 0).trans rfl
  have s6b : u4.cell? ⟨g6, 1, none⟩ = some (.int .u64 ((v7.2 : Nat) : Int)) := (B6.at_ 1).trans rfl
  have s7a : u4.cell? ⟨g7, 0, none⟩ = some (.int .i64 v11.1) := (B7.at_ 0).trans rfl
  have s7b : u4.cell? ⟨g7, 1, none⟩ = some (.int .u64 ((v11.2 : Nat) : Int)) := (B7.at_ 1).trans rfl
  clear B5 B6 B7 hg5 hg6 hg7 n56 n57 n67 qa qb qc qd hN C9 C7 C11
  rcases hf.out with ⟨z9, z11⟩ | ⟨l, e, g, rfl, rfl, rfl, rfl, rfl, rfl, hn⟩
  · rw [z9] at s5a; rw [z11] at s7a
    go_wp2
    all_goals go_ret
    all_goals exact ⟨rfl, h4⟩
  · clear hf
    unfold oneOf at hn
    rcases hn with ⟨⟨rfl, rfl, rfl⟩ | ⟨rfl, rfl, rfl⟩ | ⟨rfl, rfl, rfl⟩, ya, yb⟩ | ⟨⟨rfl, rfl, rfl⟩, rfl | ⟨ya, rfl⟩⟩
    · obtain ⟨xa, za⟩ := na; obtain ⟨xb, zb⟩ := nb; simp only at ya yb; subst ya yb
      simp only [b2n, Bool.not_true, Bool.not_false, Bool.or_true, Bool.true_or, Bool.or_false, Bool.false_or, Bool.or_self, if_true, Bool.false_eq_true, if_false] at s5a s5b s6a s6b s7a s7b C8 C10 C12 Na Nb ⊢
      have hcc : u4.cell? ⟨w.heap.size, 0, none⟩ = some (.int .i64 k0) ∧ u4.cell? ⟨w.heap.size, 1, none⟩ = some (.int .u64 (b0 : Int)) ∧ u4.cell? ⟨w.heap.size + 1, 0, none⟩ = some (.int .i64 k1) ∧ u4.cell? ⟨w.heap.size + 1, 1, none⟩ = some (.int .u64 (b1 : Int)) ∧ u4.cell? ⟨g5, 0, none⟩ = some (.int .i64 2) ∧ u4.cell? ⟨g5, 1, none⟩ = some (.int .u64 ((1 : Nat) : Int)) ∧ u4.cell? ⟨g6, 0, none⟩ = some (.int .i64 2) ∧ u4.cell? ⟨g6, 1, none⟩ = some (.int .u64 ((0 : Nat) : Int)) ∧ u4.cell? ⟨g7, 0, none⟩ = some (.int .i64 2) ∧ u4.cell? ⟨g7, 1, none⟩ = some (.int .u64 ((0 : Nat) : Int)) ∧ Below w.heap.size w u4 := ⟨ra, rb, rc, rd, s5a, s5b, s6a, s6b, s7a, s7b, h4⟩
      have tb : tB true = 1 := rfl
      have D15 := Lib.hid (fun A cap w hv => do_any 15 A 1 cap [(2, 0)] w hv (by decide))
      rw [show appP 15 [(2, 0)] = (2, 1) by first | rfl | decide] at D15
      simp only at D15
      have D14a := Lib.hid (fun A cap w hv => do_any 14 A 2 cap [(2, 1), (2, 0)] w hv (by decide))
      rw [show appP 14 [(2, 1), (2, 0)] = (2, 1) by first | rfl | decide] at D14a
      simp only at D14a
      have D14b := Lib.hid (fun A cap w hv => do_any 14 A 2 cap [(2, 0), (2, 0)] w hv (by decide))
      rw [show appP 14 [(2, 0), (2, 0)] = (2, 0) by first | rfl | decide] at D14b
      simp only at D14b
      go_wp2_with fail
      refine (Na.out _ _ _ (row_one w0 (by simp) (by simp))).mono ?_; rintro e u5 ⟨rfl, hb1⟩
      have hcc := keepC11 hb1 (keepC11 (below1 _ _) hcc); have hcc' := hcc; obtain ⟨ra, rb, rc, rd, s5a, s5b, s6a, s6b, s7a, s7b, hB8⟩ := hcc'
      go_wp2_with fail
      refine (truth_any _ _).mono ?_; rintro e u6 ⟨rfl, hb1⟩
      have hcc := keepC11 hb1 hcc; have hcc' := hcc; obtain ⟨ra, rb, rc, rd, s5a, s5b, s6a, s6b, s7a, s7b, hB8⟩ := hcc'
      go_wp2_with fail
      refine (Nb.out _ _ _ (row_one w1 (by simp) (by simp))).mono ?_; rintro e u7 ⟨rfl, hb1⟩
      have hcc := keepC11 hb1 (keepC11 (below1 _ _) hcc); have hcc' := hcc; obtain ⟨ra, rb, rc, rd, s5a, s5b, s6a, s6b, s7a, s7b, hB8⟩ := hcc'
      go_wp2_with fail
      refine (truth_any _ _).mono ?_; rintro e u8 ⟨rfl, hb1⟩
      have hcc := keepC11 hb1 hcc; have hcc' := hcc; obtain ⟨ra, rb, rc, rd, s5a, s5b, s6a, s6b, s7a, s7b, hB8⟩ := hcc'
      go_wp2_with fail
      have KD := keepsD_true []
      refine region_words (fun w' => w'.cell? ⟨w.heap.size, 0, none⟩ = some (.int .i64 k0) ∧ w'.cell? ⟨w.heap.size, 1, none⟩ = some (.int .u64 (b0 : Int)) ∧ w'.cell? ⟨w.heap.size + 1, 0, none⟩ = some (.int .i64 k1) ∧ w'.cell? ⟨w.heap.size + 1, 1, none⟩ = some (.int .u64 (b1 : Int)) ∧ w'.cell? ⟨g5, 0, none⟩ = some (.int .i64 2) ∧ w'.cell? ⟨g5, 1, none⟩ = some (.int .u64 ((1 : Nat) : Int)) ∧ w'.cell? ⟨g6, 0, none⟩ = some (.int .i64 2) ∧ w'.cell? ⟨g6, 1, none⟩ = some (.int .u64 ((0 : Nat) : Int)) ∧ w'.cell? ⟨g7, 0, none⟩ = some (.int .i64 2) ∧ w'.cell? ⟨g7, 1, none⟩ = some (.int .u64 ((0 : Nat) : Int)) ∧ Below w.heap.size w w') [isW (.int .i64 (1)), isW (.bool true), isW (.bool false), isW (.bool true), isW (.bool true), isW (.bool true), isW (.int .i64 (1)), isW (.bool false), isW (.bool false), isW (.bool true), isW (.bool true), isW (.bool true), isW (.agg #[.int .i64 (k0), .int .u64 ((b0 : Nat) : Int)]), isW (.agg #[.int .i64 (k1), .int .u64 ((b1 : Nat) : Int)]), rowW [(k0, b0), (k1, b1)], isW (.agg #[.int .i64 (2), .int .u64 ((1 : Nat) : Int)]), isW (.agg #[.int .i64 (2), .int .u64 ((0 : Nat) : Int)]), rowW [(2, 0)], isW (.agg #[.int .i64 (2), .int .u64 ((1 : Nat) : Int)]), isW (.bool true), isW (.bool true), isW (.bool true), isW (.agg #[.int .i64 (k0), .int .u64 ((b0 : Nat) : Int)]), isW (.agg #[.int .i64 (k1), .int .u64 ((b1 : Nat) : Int)]), rowW [(k0, b0), (k1, b1)], isW (.agg #[.int .i64 (2), .int .u64 ((1 : Nat) : Int)]), isW (.agg #[.int .i64 (2), .int .u64 ((1 : Nat) : Int)]), isW (.agg #[.int .i64 (2), .int .u64 ((0 : Nat) : Int)]), rowW [(2, 1), (2, 0)], isW (.agg #[.int .i64 (2), .int .u64 ((1 : Nat) : Int)]), isW (.bool true), isW (.bool true), isW (.bool true), isW (.agg #[.int .i64 (k0), .int .u64 ((b0 : Nat) : Int)]), isW (.agg #[.int .i64 (k1), .int .u64 ((b1 : Nat) : Int)]), rowW [(k0, b0), (k1, b1)], isW (.agg #[.int .i64 (2), .int .u64 ((0 : Nat) : Int)]), isW (.agg #[.int .i64 (2), .int .u64 ((0 : Nat) : Int)]), isW (.agg #[.int .i64 (2), .int .u64 ((0 : Nat) : Int)]), rowW [(2, 0), (2, 0)], isW (.agg #[.int .i64 (2), .int .u64 ((0 : Nat) : Int)]), isW (.bool true), isW (.bool true), isW (.bool true)] (by kernel_rfl) (by repeat' (first | exact monoL_nil | exact is_mono _ | exact row_mono _ | exact any_mono | refine monoL_cons ?_ ?_)) (by kernel_rfl) (by kernel_rfl) (fun _ _ h hb => keepC11 hb h) ⟨ra, rb, rc, rd, s5a, s5b, s6a, s6b, s7a, s7b, hB8.drew⟩ ?_ ?_
      · intro KC
        refine stepsL_cons (fun a u hc hdd hd hk hdep => ?_) ?_
        ·
          have d8 : (a.tmps[8]?).getD undef = (.int .i64 (1)) := hk 8 (by kernel_rfl)
          refine step_val KC KD hc hdd rfl (.int .i64 (1)) u (wanted_plain rfl) ?_ rfl (Below.refl _ _)
          first | (go_simp; done) | rfl
        refine stepsL_cons (fun a u hc hdd hd hk hdep => ?_) ?_
        ·
          have d61 : (a.tmps[61]?).getD undef = (.int .i64 (1)) := hdep ⟨0, .data⟩ (by simp) rfl
          refine step_val KC KD hc hdd rfl (.bool true) u (wanted_plain rfl) ?_ rfl (Below.refl _ _)
          go_simp
        refine stepsL_cons (fun a u hc hdd hd hk hdep => ?_) ?_
        ·
          have d9 : (a.tmps[9]?).getD undef = (.bool false) := hk 9 (by kernel_rfl)
          refine step_val KC KD hc hdd rfl (.bool false) u (wanted_plain rfl) ?_ rfl (Below.refl _ _)
          first | (go_simp; done) | rfl
        refine stepsL_cons (fun a u hc hdd hd hk hdep => ?_) ?_
        ·
          have d63 : (a.tmps[63]?).getD undef = (.bool false) := hdep ⟨2, .data⟩ (by simp) rfl
          refine step_val KC KD hc hdd rfl (.bool true) u (wanted_plain rfl) ?_ rfl (Below.refl _ _)
          go_simp
        refine stepsL_cons (fun a u hc hdd hd hk hdep => ?_) ?_
        ·
          have d62 : (a.tmps[62]?).getD undef = (.bool true) := hdep ⟨1, .data⟩ (by simp) rfl
          have d64 : (a.tmps[64]?).getD undef = (.bool true) := hdep ⟨3, .data⟩ (by simp) rfl
          refine step_val KC KD hc hdd rfl (.bool true) u (wanted_plain rfl) ?_ rfl (Below.refl _ _)
          go_simp
        refine stepsL_cons (fun a u hc hdd hd hk hdep => ?_) ?_
        ·
          have d65 : (a.tmps[65]?).getD undef = (.bool true) := hdep ⟨4, .data⟩ (by simp) rfl
          refine step_val KC KD hc hdd rfl (.bool true) u (wanted_plain rfl) ?_ rfl (Below.refl _ _)
          first | (go_simp; done) | rfl
        refine stepsL_cons (fun a u hc hdd hd hk hdep => ?_) ?_
        ·
          have d8 : (a.tmps[8]?).getD undef = (.int .i64 (1)) := hk 8 (by kernel_rfl)
          refine step_val KC KD hc hdd rfl (.int .i64 (1)) u ((wanted_guard (j := 5) (b := true) (c := true) rfl (hdep ⟨5, .guard⟩ (by simp) rfl)).trans rfl) ?_ rfl (Below.refl _ _)
          first | (go_simp; done) | rfl
        refine stepsL_cons (fun a u hc hdd hd hk hdep => ?_) ?_
        ·
          have d67 : (a.tmps[67]?).getD undef = (.int .i64 (1)) := hdep ⟨6, .data⟩ (by simp) rfl
          refine step_val KC KD hc hdd rfl (.bool false) u ((wanted_guard (j := 5) (b := true) (c := true) rfl (hdep ⟨5, .guard⟩ (by simp) rfl)).trans rfl) ?_ rfl (Below.refl _ _)
          go_simp
        refine stepsL_cons (fun a u hc hdd hd hk hdep => ?_) ?_
        ·
          have d9 : (a.tmps[9]?).getD undef = (.bool false) := hk 9 (by kernel_rfl)
          refine step_val KC KD hc hdd rfl (.bool false) u ((wanted_guard (j := 5) (b := true) (c := true) rfl (hdep ⟨5, .guard⟩ (by simp) rfl)).trans rfl) ?_ rfl (Below.refl _ _)
          first | (go_simp; done) | rfl
        refine stepsL_cons (fun a u hc hdd hd hk hdep => ?_) ?_
        ·
          have d68 : (a.tmps[68]?).getD undef = (.bool false) := hdep ⟨7, .data⟩ (by simp) rfl
          have d69 : (a.tmps[69]?).getD undef = (.bool false) := hdep ⟨8, .data⟩ (by simp) rfl
          refine step_val KC KD hc hdd rfl (.bool true) u ((wanted_guard (j := 5) (b := true) (c := true) rfl (hdep ⟨5, .guard⟩ (by simp) rfl)).trans rfl) ?_ rfl (Below.refl _ _)
          go_simp
        refine stepsL_cons (fun a u hc hdd hd hk hdep => ?_) ?_
        ·
          have d66 : (a.tmps[66]?).getD undef = (.bool true) := hdep ⟨5, .data⟩ (by simp) rfl
          have d70 : (a.tmps[70]?).getD undef = (.bool true) := hdep ⟨9, .data⟩ (by simp) rfl
          refine step_val KC KD hc hdd rfl (.bool true) u (wanted_plain rfl) ?_ rfl (Below.refl _ _)
          first | (go_simp; done) | rfl
        refine stepsL_cons (fun a u hc hdd hd hk hdep => ?_) ?_
        ·
          have d71 : (a.tmps[71]?).getD undef = (.bool true) := hdep ⟨10, .data⟩ (by simp) rfl
          refine step_val KC KD hc hdd rfl (.bool true) u (wanted_plain rfl) ?_ rfl (Below.refl _ _)
          first | (go_simp; done) | rfl
        refine stepsL_cons (fun a u hc hdd hd hk hdep => ?_) ?_
        ·
          have d2 : (a.tmps[2]?).getD undef = (.pointer (some ⟨w.heap.size, 0, none⟩)) := hk 2 (by kernel_rfl)
          refine step_val KC KD hc hdd rfl (.agg #[.int .i64 (k0), .int .u64 ((b0 : Nat) : Int)]) u ((wanted_guard (j := 11) (b := true) (c := true) rfl (hdep ⟨11, .guard⟩ (by simp) rfl)).trans rfl) ?_ rfl (Below.refl _ _)
          obtain ⟨s0, s1, s2, s3, s4, s5, s6, s7, s8, s9, s10⟩ := hc
          go_simp
        refine stepsL_cons (fun a u hc hdd hd hk hdep => ?_) ?_
        ·
          have d3 : (a.tmps[3]?).getD undef = (.pointer (some ⟨w.heap.size + 1, 0, none⟩)) := hk 3 (by kernel_rfl)
          refine step_val KC KD hc hdd rfl (.agg #[.int .i64 (k1), .int .u64 ((b1 : Nat) : Int)]) u ((wanted_guard (j := 11) (b := true) (c := true) rfl (hdep ⟨11, .guard⟩ (by simp) rfl)).trans rfl) ?_ rfl (Below.refl _ _)
          obtain ⟨s0, s1, s2, s3, s4, s5, s6, s7, s8, s9, s10⟩ := hc
          go_simp
        refine stepsL_cons (fun a u hc hdd hd hk hdep => ?_) ?_
        ·
          have d73 : (a.tmps[73]?).getD undef = (.agg #[.int .i64 (k0), .int .u64 ((b0 : Nat) : Int)]) := hdep ⟨12, .data⟩ (by simp) rfl
          have d74 : (a.tmps[74]?).getD undef = (.agg #[.int .i64 (k1), .int .u64 ((b1 : Nat) : Int)]) := hdep ⟨13, .data⟩ (by simp) rfl
          refine step_val KC KD hc hdd rfl (.slice (some ⟨u.heap.size, 0, none⟩) 2 2) (u.alloc (.cells #[.int .i64 (k0), .int .u64 ((b0 : Nat) : Int), .int .i64 (k1), .int .u64 ((b1 : Nat) : Int)] 29)) ((wanted_guard (j := 11) (b := true) (c := true) rfl (hdep ⟨11, .guard⟩ (by simp) rfl)).trans rfl) ?_ ⟨_, 2, rfl, row_two (by first | assumption | decide) (by first | assumption | decide) (by simp) (by simp) (by simp) (by simp)⟩ (below1 _ _)
          go_simp
        refine stepsL_cons (fun a u hc hdd hd hk hdep => ?_) ?_
        ·
          obtain ⟨A75, c75, d75, r75⟩ : rowW [(k0, b0), (k1, b1)] ((a.tmps[75]?).getD undef) u := hdep ⟨14, .data⟩ (by simp) rfl
          refine step_call KC KD hc hdd rfl 17 #[.int .i64 8, .slice A75 2 c75] ((wanted_guard (j := 11) (b := true) (c := true) rfl (hdep ⟨11, .chain⟩ (by simp) rfl)).trans rfl) (by go_simp) ?_
          exact (C8.out _ _ u r75).mono (by rintro e w' ⟨rfl, hb⟩; exact ⟨_, rfl, rfl, hb⟩)
        refine stepsL_cons (fun a u hc hdd hd hk hdep => ?_) ?_
        ·
          have d6 : (a.tmps[6]?).getD undef = (.pointer (some ⟨g6, 0, none⟩)) := hk 6 (by kernel_rfl)
          refine step_val KC KD hc hdd rfl (.agg #[.int .i64 (2), .int .u64 ((0 : Nat) : Int)]) u ((wanted_guard (j := 11) (b := true) (c := true) rfl (hdep ⟨11, .guard⟩ (by simp) rfl)).trans rfl) ?_ rfl (Below.refl _ _)
          obtain ⟨s0, s1, s2, s3, s4, s5, s6, s7, s8, s9, s10⟩ := hc
          go_simp
        refine stepsL_cons (fun a u hc hdd hd hk hdep => ?_) ?_
        ·
          have d77 : (a.tmps[77]?).getD undef = (.agg #[.int .i64 (2), .int .u64 ((0 : Nat) : Int)]) := hdep ⟨16, .data⟩ (by simp) rfl
          refine step_val KC KD hc hdd rfl (.slice (some ⟨u.heap.size, 0, none⟩) 1 1) (u.alloc (.cells #[.int .i64 (2), .int .u64 ((0 : Nat) : Int)] 29)) ((wanted_guard (j := 11) (b := true) (c := true) rfl (hdep ⟨11, .guard⟩ (by simp) rfl)).trans rfl) ?_ ⟨_, 1, rfl, row_one (by first | assumption | decide) (by simp) (by simp)⟩ (below1 _ _)
          go_simp
        refine stepsL_cons (fun a u hc hdd hd hk hdep => ?_) ?_
        ·
          obtain ⟨A78, c78, d78, r78⟩ : rowW [(2, 0)] ((a.tmps[78]?).getD undef) u := hdep ⟨17, .data⟩ (by simp) rfl
          refine step_call KC KD hc hdd rfl 17 #[.int .i64 15, .slice A78 1 c78] ((wanted_guard (j := 11) (b := true) (c := true) rfl (hdep ⟨11, .guard⟩ (by simp) rfl)).trans rfl) (by go_simp) ?_
          exact (D15.out _ _ u r78).mono (by rintro e w' ⟨rfl, hb⟩; exact ⟨_, rfl, rfl, hb⟩)
        refine stepsL_cons (fun a u hc hdd hd hk hdep => ?_) ?_
        ·
          have d76 : (a.tmps[76]?).getD undef = (.agg #[.int .i64 (2), .int .u64 ((1 : Nat) : Int)]) := hdep ⟨15, .data⟩ (by simp) rfl
          have d79 : (a.tmps[79]?).getD undef = (.agg #[.int .i64 (2), .int .u64 ((1 : Nat) : Int)]) := hdep ⟨18, .data⟩ (by simp) rfl
          refine step_val KC KD hc hdd rfl (.bool true) u ((wanted_guard (j := 11) (b := true) (c := true) rfl (hdep ⟨11, .guard⟩ (by simp) rfl)).trans rfl) ?_ rfl (Below.refl _ _)
          go_simp
        refine stepsL_cons (fun a u hc hdd hd hk hdep => ?_) ?_
        ·
          have d72 : (a.tmps[72]?).getD undef = (.bool true) := hdep ⟨11, .data⟩ (by simp) rfl
          have d80 : (a.tmps[80]?).getD undef = (.bool true) := hdep ⟨19, .data⟩ (by simp) rfl
          refine step_val KC KD hc hdd rfl (.bool true) u (wanted_plain rfl) ?_ rfl (Below.refl _ _)
          first | (go_simp; done) | rfl
        refine stepsL_cons (fun a u hc hdd hd hk hdep => ?_) ?_
        ·
          have d81 : (a.tmps[81]?).getD undef = (.bool true) := hdep ⟨20, .data⟩ (by simp) rfl
          refine step_val KC KD hc hdd rfl (.bool true) u (wanted_plain rfl) ?_ rfl (Below.refl _ _)
          first | (go_simp; done) | rfl
        refine stepsL_cons (fun a u hc hdd hd hk hdep => ?_) ?_
        ·
          have d2 : (a.tmps[2]?).getD undef = (.pointer (some ⟨w.heap.size, 0, none⟩)) := hk 2 (by kernel_rfl)
          refine step_val KC KD hc hdd rfl (.agg #[.int .i64 (k0), .int .u64 ((b0 : Nat) : Int)]) u ((wanted_guard (j := 21) (b := true) (c := true) rfl (hdep ⟨21, .guard⟩ (by simp) rfl)).trans rfl) ?_ rfl (Below.refl _ _)
          obtain ⟨s0, s1, s2, s3, s4, s5, s6, s7, s8, s9, s10⟩ := hc
          go_simp
        refine stepsL_cons (fun a u hc hdd hd hk hdep => ?_) ?_
        ·
          have d3 : (a.tmps[3]?).getD undef = (.pointer (some ⟨w.heap.size + 1, 0, none⟩)) := hk 3 (by kernel_rfl)
          refine step_val KC KD hc hdd rfl (.agg #[.int .i64 (k1), .int .u64 ((b1 : Nat) : Int)]) u ((wanted_guard (j := 21) (b := true) (c := true) rfl (hdep ⟨21, .guard⟩ (by simp) rfl)).trans rfl) ?_ rfl (Below.refl _ _)
          obtain ⟨s0, s1, s2, s3, s4, s5, s6, s7, s8, s9, s10⟩ := hc
          go_simp
        refine stepsL_cons (fun a u hc hdd hd hk hdep => ?_) ?_
        ·
          have d83 : (a.tmps[83]?).getD undef = (.agg #[.int .i64 (k0), .int .u64 ((b0 : Nat) : Int)]) := hdep ⟨22, .data⟩ (by simp) rfl
          have d84 : (a.tmps[84]?).getD undef = (.agg #[.int .i64 (k1), .int .u64 ((b1 : Nat) : Int)]) := hdep ⟨23, .data⟩ (by simp) rfl
          refine step_val KC KD hc hdd rfl (.slice (some ⟨u.heap.size, 0, none⟩) 2 2) (u.alloc (.cells #[.int .i64 (k0), .int .u64 ((b0 : Nat) : Int), .int .i64 (k1), .int .u64 ((b1 : Nat) : Int)] 29)) ((wanted_guard (j := 21) (b := true) (c := true) rfl (hdep ⟨21, .guard⟩ (by simp) rfl)).trans rfl) ?_ ⟨_, 2, rfl, row_two (by first | assumption | decide) (by first | assumption | decide) (by simp) (by simp) (by simp) (by simp)⟩ (below1 _ _)
          go_simp
        refine stepsL_cons (fun a u hc hdd hd hk hdep => ?_) ?_
        ·
          obtain ⟨A85, c85, d85, r85⟩ : rowW [(k0, b0), (k1, b1)] ((a.tmps[85]?).getD undef) u := hdep ⟨24, .data⟩ (by simp) rfl
          refine step_call KC KD hc hdd rfl 17 #[.int .i64 10, .slice A85 2 c85] ((wanted_guard (j := 21) (b := true) (c := true) rfl (hdep ⟨21, .chain⟩ (by simp) rfl)).trans rfl) (by go_simp) ?_
          exact (C10.out _ _ u r85).mono (by rintro e w' ⟨rfl, hb⟩; exact ⟨_, rfl, rfl, hb⟩)
        refine stepsL_cons (fun a u hc hdd hd hk hdep => ?_) ?_
        ·
          have d5 : (a.tmps[5]?).getD undef = (.pointer (some ⟨g5, 0, none⟩)) := hk 5 (by kernel_rfl)
          refine step_val KC KD hc hdd rfl (.agg #[.int .i64 (2), .int .u64 ((1 : Nat) : Int)]) u ((wanted_guard (j := 21) (b := true) (c := true) rfl (hdep ⟨21, .guard⟩ (by simp) rfl)).trans rfl) ?_ rfl (Below.refl _ _)
          obtain ⟨s0, s1, s2, s3, s4, s5, s6, s7, s8, s9, s10⟩ := hc
          go_simp
        refine stepsL_cons (fun a u hc hdd hd hk hdep => ?_) ?_
        ·
          have d6 : (a.tmps[6]?).getD undef = (.pointer (some ⟨g6, 0, none⟩)) := hk 6 (by kernel_rfl)
          refine step_val KC KD hc hdd rfl (.agg #[.int .i64 (2), .int .u64 ((0 : Nat) : Int)]) u ((wanted_guard (j := 21) (b := true) (c := true) rfl (hdep ⟨21, .guard⟩ (by simp) rfl)).trans rfl) ?_ rfl (Below.refl _ _)
          obtain ⟨s0, s1, s2, s3, s4, s5, s6, s7, s8, s9, s10⟩ := hc
          go_simp
        refine stepsL_cons (fun a u hc hdd hd hk hdep => ?_) ?_
        ·
          have d87 : (a.tmps[87]?).getD undef = (.agg #[.int .i64 (2), .int .u64 ((1 : Nat) : Int)]) := hdep ⟨26, .data⟩ (by simp) rfl
          have d88 : (a.tmps[88]?).getD undef = (.agg #[.int .i64 (2), .int .u64 ((0 : Nat) : Int)]) := hdep ⟨27, .data⟩ (by simp) rfl
          refine step_val KC KD hc hdd rfl (.slice (some ⟨u.heap.size, 0, none⟩) 2 2) (u.alloc (.cells #[.int .i64 (2), .int .u64 ((1 : Nat) : Int), .int .i64 (2), .int .u64 ((0 : Nat) : Int)] 29)) ((wanted_guard (j := 21) (b := true) (c := true) rfl (hdep ⟨21, .guard⟩ (by simp) rfl)).trans rfl) ?_ ⟨_, 2, rfl, row_two (by first | assumption | decide) (by first | assumption | decide) (by simp) (by simp) (by simp) (by simp)⟩ (below1 _ _)
          go_simp
        refine stepsL_cons (fun a u hc hdd hd hk hdep => ?_) ?_
        ·
          obtain ⟨A89, c89, d89, r89⟩ : rowW [(2, 1), (2, 0)] ((a.tmps[89]?).getD undef) u := hdep ⟨28, .data⟩ (by simp) rfl
          refine step_call KC KD hc hdd rfl 17 #[.int .i64 14, .slice A89 2 c89] ((wanted_guard (j := 21) (b := true) (c := true) rfl (hdep ⟨21, .guard⟩ (by simp) rfl)).trans rfl) (by go_simp) ?_
          exact (D14a.out _ _ u r89).mono (by rintro e w' ⟨rfl, hb⟩; exact ⟨_, rfl, rfl, hb⟩)
        refine stepsL_cons (fun a u hc hdd hd hk hdep => ?_) ?_
        ·
          have d86 : (a.tmps[86]?).getD undef = (.agg #[.int .i64 (2), .int .u64 ((1 : Nat) : Int)]) := hdep ⟨25, .data⟩ (by simp) rfl
          have d90 : (a.tmps[90]?).getD undef = (.agg #[.int .i64 (2), .int .u64 ((1 : Nat) : Int)]) := hdep ⟨29, .data⟩ (by simp) rfl
          refine step_val KC KD hc hdd rfl (.bool true) u ((wanted_guard (j := 21) (b := true) (c := true) rfl (hdep ⟨21, .guard⟩ (by simp) rfl)).trans rfl) ?_ rfl (Below.refl _ _)
          go_simp
        refine stepsL_cons (fun a u hc hdd hd hk hdep => ?_) ?_
        ·
          have d82 : (a.tmps[82]?).getD undef = (.bool true) := hdep ⟨21, .data⟩ (by simp) rfl
          have d91 : (a.tmps[91]?).getD undef = (.bool true) := hdep ⟨30, .data⟩ (by simp) rfl
          refine step_val KC KD hc hdd rfl (.bool true) u (wanted_plain rfl) ?_ rfl (Below.refl _ _)
          first | (go_simp; done) | rfl
        refine stepsL_cons (fun a u hc hdd hd hk hdep => ?_) ?_
        ·
          have d92 : (a.tmps[92]?).getD undef = (.bool true) := hdep ⟨31, .data⟩ (by simp) rfl
          refine step_val KC KD hc hdd rfl (.bool true) u (wanted_plain rfl) ?_ rfl (Below.refl _ _)
          first | (go_simp; done) | rfl
        refine stepsL_cons (fun a u hc hdd hd hk hdep => ?_) ?_
        ·
          have d2 : (a.tmps[2]?).getD undef = (.pointer (some ⟨w.heap.size, 0, none⟩)) := hk 2 (by kernel_rfl)
          refine step_val KC KD hc hdd rfl (.agg #[.int .i64 (k0), .int .u64 ((b0 : Nat) : Int)]) u ((wanted_guard (j := 32) (b := true) (c := true) rfl (hdep ⟨32, .guard⟩ (by simp) rfl)).trans rfl) ?_ rfl (Below.refl _ _)
          obtain ⟨s0, s1, s2, s3, s4, s5, s6, s7, s8, s9, s10⟩ := hc
          go_simp
        refine stepsL_cons (fun a u hc hdd hd hk hdep => ?_) ?_
        ·
          have d3 : (a.tmps[3]?).getD undef = (.pointer (some ⟨w.heap.size + 1, 0, none⟩)) := hk 3 (by kernel_rfl)
          refine step_val KC KD hc hdd rfl (.agg #[.int .i64 (k1), .int .u64 ((b1 : Nat) : Int)]) u ((wanted_guard (j := 32) (b := true) (c := true) rfl (hdep ⟨32, .guard⟩ (by simp) rfl)).trans rfl) ?_ rfl (Below.refl _ _)
          obtain ⟨s0, s1, s2, s3, s4, s5, s6, s7, s8, s9, s10⟩ := hc
          go_simp
        refine stepsL_cons (fun a u hc hdd hd hk hdep => ?_) ?_
        ·
          have d94 : (a.tmps[94]?).getD undef = (.agg #[.int .i64 (k0), .int .u64 ((b0 : Nat) : Int)]) := hdep ⟨33, .data⟩ (by simp) rfl
          have d95 : (a.tmps[95]?).getD undef = (.agg #[.int .i64 (k1), .int .u64 ((b1 : Nat) : Int)]) := hdep ⟨34, .data⟩ (by simp) rfl
          refine step_val KC KD hc hdd rfl (.slice (some ⟨u.heap.size, 0, none⟩) 2 2) (u.alloc (.cells #[.int .i64 (k0), .int .u64 ((b0 : Nat) : Int), .int .i64 (k1), .int .u64 ((b1 : Nat) : Int)] 29)) ((wanted_guard (j := 32) (b := true) (c := true) rfl (hdep ⟨32, .guard⟩ (by simp) rfl)).trans rfl) ?_ ⟨_, 2, rfl, row_two (by first | assumption | decide) (by first | assumption | decide) (by simp) (by simp) (by simp) (by simp)⟩ (below1 _ _)
          go_simp
        refine stepsL_cons (fun a u hc hdd hd hk hdep => ?_) ?_
        ·
          obtain ⟨A96, c96, d96, r96⟩ : rowW [(k0, b0), (k1, b1)] ((a.tmps[96]?).getD undef) u := hdep ⟨35, .data⟩ (by simp) rfl
          refine step_call KC KD hc hdd rfl 17 #[.int .i64 12, .slice A96 2 c96] ((wanted_guard (j := 32) (b := true) (c := true) rfl (hdep ⟨32, .chain⟩ (by simp) rfl)).trans rfl) (by go_simp) ?_
          exact (C12.out _ _ u r96).mono (by rintro e w' ⟨rfl, hb⟩; exact ⟨_, rfl, rfl, hb⟩)
        refine stepsL_cons (fun a u hc hdd hd hk hdep => ?_) ?_
        ·
          have d7 : (a.tmps[7]?).getD undef = (.pointer (some ⟨g7, 0, none⟩)) := hk 7 (by kernel_rfl)
          refine step_val KC KD hc hdd rfl (.agg #[.int .i64 (2), .int .u64 ((0 : Nat) : Int)]) u ((wanted_guard (j := 32) (b := true) (c := true) rfl (hdep ⟨32, .guard⟩ (by simp) rfl)).trans rfl) ?_ rfl (Below.refl _ _)
          obtain ⟨s0, s1, s2, s3, s4, s5, s6, s7, s8, s9, s10⟩ := hc
          go_simp
        refine stepsL_cons (fun a u hc hdd hd hk hdep => ?_) ?_
        ·
          have d6 : (a.tmps[6]?).getD undef = (.pointer (some ⟨g6, 0, none⟩)) := hk 6 (by kernel_rfl)
          refine step_val KC KD hc hdd rfl (.agg #[.int .i64 (2), .int .u64 ((0 : Nat) : Int)]) u ((wanted_guard (j := 32) (b := true) (c := true) rfl (hdep ⟨32, .guard⟩ (by simp) rfl)).trans rfl) ?_ rfl (Below.refl _ _)
          obtain ⟨s0, s1, s2, s3, s4, s5, s6, s7, s8, s9, s10⟩ := hc
          go_simp
        refine stepsL_cons (fun a u hc hdd hd hk hdep => ?_) ?_
        ·
          have d98 : (a.tmps[98]?).getD undef = (.agg #[.int .i64 (2), .int .u64 ((0 : Nat) : Int)]) := hdep ⟨37, .data⟩ (by simp) rfl
          have d99 : (a.tmps[99]?).getD undef = (.agg #[.int .i64 (2), .int .u64 ((0 : Nat) : Int)]) := hdep ⟨38, .data⟩ (by simp) rfl
          refine step_val KC KD hc hdd rfl (.slice (some ⟨u.heap.size, 0, none⟩) 2 2) (u.alloc (.cells #[.int .i64 (2), .int .u64 ((0 : Nat) : Int), .int .i64 (2), .int .u64 ((0 : Nat) : Int)] 29)) ((wanted_guard (j := 32) (b := true) (c := true) rfl (hdep ⟨32, .guard⟩ (by simp) rfl)).trans rfl) ?_ ⟨_, 2, rfl, row_two (by first | assumption | decide) (by first | assumption | decide) (by simp) (by simp) (by simp) (by simp)⟩ (below1 _ _)
          go_simp
        refine stepsL_cons (fun a u hc hdd hd hk hdep => ?_) ?_
        ·
          obtain ⟨A100, c100, d100, r100⟩ : rowW [(2, 0), (2, 0)] ((a.tmps[100]?).getD undef) u := hdep ⟨39, .data⟩ (by simp) rfl
          refine step_call KC KD hc hdd rfl 17 #[.int .i64 14, .slice A100 2 c100] ((wanted_guard (j := 32) (b := true) (c := true) rfl (hdep ⟨32, .guard⟩ (by simp) rfl)).trans rfl) (by go_simp) ?_
          exact (D14b.out _ _ u r100).mono (by rintro e w' ⟨rfl, hb⟩; exact ⟨_, rfl, rfl, hb⟩)
        refine stepsL_cons (fun a u hc hdd hd hk hdep => ?_) ?_
        ·
          have d97 : (a.tmps[97]?).getD undef = (.agg #[.int .i64 (2), .int .u64 ((0 : Nat) : Int)]) := hdep ⟨36, .data⟩ (by simp) rfl
          have d101 : (a.tmps[101]?).getD undef = (.agg #[.int .i64 (2), .int .u64 ((0 : Nat) : Int)]) := hdep ⟨40, .data⟩ (by simp) rfl
          refine step_val KC KD hc hdd rfl (.bool true) u ((wanted_guard (j := 32) (b := true) (c := true) rfl (hdep ⟨32, .guard⟩ (by simp) rfl)).trans rfl) ?_ rfl (Below.refl _ _)
          go_simp
        refine stepsL_cons (fun a u hc hdd hd hk hdep => ?_) ?_
        ·
          have d93 : (a.tmps[93]?).getD undef = (.bool true) := hdep ⟨32, .data⟩ (by simp) rfl
          have d102 : (a.tmps[102]?).getD undef = (.bool true) := hdep ⟨41, .data⟩ (by simp) rfl
          refine step_val KC KD hc hdd rfl (.bool true) u (wanted_plain rfl) ?_ rfl (Below.refl _ _)
          first | (go_simp; done) | rfl
        refine stepsL_cons (fun a u hc hdd hd hk hdep => ?_) ?_
        ·
          have d103 : (a.tmps[103]?).getD undef = (.bool true) := hdep ⟨42, .data⟩ (by simp) rfl
          refine step_val KC KD hc hdd rfl (.bool true) u (wanted_plain rfl) ?_ rfl (Below.refl _ _)
          first | (go_simp; done) | rfl
        exact stepsL_nil
      intro vs8 wE hE hh
      obtain ⟨e0, e1, e2, e3, e4, e5, e6, e7, e8, e9, e10, e11, e12, e13, e14, e15, e16, e17, e18, e19, e20, e21, e22, e23, e24, e25, e26, e27, e28, e29, e30, e31, e32, e33, e34, e35, e36, e37, e38, e39, e40, e41, e42, e43, -⟩ := hh
      have eL : vs8 43 = (.bool true) := e43
      clear e0 e1 e2 e3 e4 e5 e6 e7 e8 e9 e10 e11 e12 e13 e14 e15 e16 e17 e18 e19 e20 e21 e22 e23 e24 e25 e26 e27 e28 e29 e30 e31 e32 e33 e34 e35 e36 e37 e38 e39 e40 e41 e42 e43
      set_option maxRecDepth 100000 in simp only [putAll, Act.put, List.setIfInBounds_toArray, List.set_cons_zero, List.set_cons_succ, eL]
      obtain ⟨ra, rb, rc, rd, s5a, s5b, s6a, s6b, s7a, s7b, hB9⟩ := hE
      go_wp2
      go_ret
      exact ⟨rfl, hB9⟩
    · obtain ⟨xa, za⟩ := na; obtain ⟨xb, zb⟩ := nb; simp only at ya yb; subst ya yb
      simp only [b2n, Bool.not_true, Bool.not_false, Bool.or_true, Bool.true_or, Bool.or_false, Bool.false_or, Bool.or_self, if_true, Bool.false_eq_true, if_false] at s5a s5b s6a s6b s7a s7b C8 C10 C12 Na Nb ⊢
      have hcc : u4.cell? ⟨w.heap.size, 0, none⟩ = some (.int .i64 k0) ∧ u4.cell? ⟨w.heap.size, 1, none⟩ = some (.int .u64 (b0 : Int)) ∧ u4.cell? ⟨w.heap.size + 1, 0, none⟩ = some (.int .i64 k1) ∧ u4.cell? ⟨w.heap.size + 1, 1, none⟩ = some (.int .u64 (b1 : Int)) ∧ u4.cell? ⟨g5, 0, none⟩ = some (.int .i64 2) ∧ u4.cell? ⟨g5, 1, none⟩ = some (.int .u64 ((0 : Nat) : Int)) ∧ u4.cell? ⟨g6, 0, none⟩ = some (.int .i64 2) ∧ u4.cell? ⟨g6, 1, none⟩ = some (.int .u64 ((1 : Nat) : Int)) ∧ u4.cell? ⟨g7, 0, none⟩ = some (.int .i64 2) ∧ u4.cell? ⟨g7, 1, none⟩ = some (.int .u64 ((0 : Nat) : Int)) ∧ Below w.heap.size w u4 := ⟨ra, rb, rc, rd, s5a, s5b, s6a, s6b, s7a, s7b, h4⟩
      have tb : tB true = 1 := rfl
      have D15 := Lib.hid (fun A cap w hv => do_any 15 A 1 cap [(2, 1)] w hv (by decide))
      rw [show appP 15 [(2, 1)] = (2, 0) by first | rfl | decide] at D15
      simp only at D15
      have D14a := Lib.hid (fun A cap w hv => do_any 14 A 2 cap [(2, 0), (2, 1)] w hv (by decide))
      rw [show appP 14 [(2, 0), (2, 1)] = (2, 1) by first | rfl | decide] at D14a
      simp only at D14a
      have D14b := Lib.hid (fun A cap w hv => do_any 14 A 2 cap [(2, 0), (2, 1)] w hv (by decide))
      rw [show appP 14 [(2, 0), (2, 1)] = (2, 1) by first | rfl | decide] at D14b
      simp only at D14b
      go_wp2_with fail
      refine (Na.out _ _ _ (row_one w0 (by simp) (by simp))).mono ?_; rintro e u5 ⟨rfl, hb1⟩
      have hcc := keepC11 hb1 (keepC11 (below1 _ _) hcc); have hcc' := hcc; obtain ⟨ra, rb, rc, rd, s5a, s5b, s6a, s6b, s7a, s7b, hB8⟩ := hcc'
      go_wp2_with fail
      refine (truth_any _ _).mono ?_; rintro e u6 ⟨rfl, hb1⟩
      have hcc := keepC11 hb1 hcc; have hcc' := hcc; obtain ⟨ra, rb, rc, rd, s5a, s5b, s6a, s6b, s7a, s7b, hB8⟩ := hcc'
      go_wp2_with fail
      refine (Nb.out _ _ _ (row_one w1 (by simp) (by simp))).mono ?_; rintro e u7 ⟨rfl, hb1⟩
      have hcc := keepC11 hb1 (keepC11 (below1 _ _) hcc); have hcc' := hcc; obtain ⟨ra, rb, rc, rd, s5a, s5b, s6a, s6b, s7a, s7b, hB8⟩ := hcc'
      go_wp2_with fail
      refine (truth_any _ _).mono ?_; rintro e u8 ⟨rfl, hb1⟩
      have hcc := keepC11 hb1 hcc; have hcc' := hcc; obtain ⟨ra, rb, rc, rd, s5a, s5b, s6a, s6b, s7a, s7b, hB8⟩ := hcc'
      go_wp2_with fail
      have KD := keepsD_true []
      refine region_words (fun w' => w'.cell? ⟨w.heap.size, 0, none⟩ = some (.int .i64 k0) ∧ w'.cell? ⟨w.heap.size, 1, none⟩ = some (.int .u64 (b0 : Int)) ∧ w'.cell? ⟨w.heap.size + 1, 0, none⟩ = some (.int .i64 k1) ∧ w'.cell? ⟨w.heap.size + 1, 1, none⟩ = some (.int .u64 (b1 : Int)) ∧ w'.cell? ⟨g5, 0, none⟩ = some (.int .i64 2) ∧ w'.cell? ⟨g5, 1, none⟩ = some (.int .u64 ((0 : Nat) : Int)) ∧ w'.cell? ⟨g6, 0, none⟩ = some (.int .i64 2) ∧ w'.cell? ⟨g6, 1, none⟩ = some (.int .u64 ((1 : Nat) : Int)) ∧ w'.cell? ⟨g7, 0, none⟩ = some (.int .i64 2) ∧ w'.cell? ⟨g7, 1, none⟩ = some (.int .u64 ((0 : Nat) : Int)) ∧ Below w.heap.size w w') [isW (.int .i64 (1)), isW (.bool true), isW (.bool false), isW (.bool true), isW (.bool true), isW (.bool true), isW (.int .i64 (1)), isW (.bool false), isW (.bool false), isW (.bool true), isW (.bool true), isW (.bool true), isW (.agg #[.int .i64 (k0), .int .u64 ((b0 : Nat) : Int)]), isW (.agg #[.int .i64 (k1), .int .u64 ((b1 : Nat) : Int)]), rowW [(k0, b0), (k1, b1)], isW (.agg #[.int .i64 (2), .int .u64 ((0 : Nat) : Int)]), isW (.agg #[.int .i64 (2), .int .u64 ((1 : Nat) : Int)]), rowW [(2, 1)], isW (.agg #[.int .i64 (2), .int .u64 ((0 : Nat) : Int)]), isW (.bool true), isW (.bool true), isW (.bool true), isW (.agg #[.int .i64 (k0), .int .u64 ((b0 : Nat) : Int)]), isW (.agg #[.int .i64 (k1), .int .u64 ((b1 : Nat) : Int)]), rowW [(k0, b0), (k1, b1)], isW (.agg #[.int .i64 (2), .int .u64 ((1 : Nat) : Int)]), isW (.agg #[.int .i64 (2), .int .u64 ((0 : Nat) : Int)]), isW (.agg #[.int .i64 (2), .int .u64 ((1 : Nat) : Int)]), rowW [(2, 0), (2, 1)], isW (.agg #[.int .i64 (2), .int .u64 ((1 : Nat) : Int)]), isW (.bool true), isW (.bool true), isW (.bool true), isW (.agg #[.int .i64 (k0), .int .u64 ((b0 : Nat) : Int)]), isW (.agg #[.int .i64 (k1), .int .u64 ((b1 : Nat) : Int)]), rowW [(k0, b0), (k1, b1)], isW (.agg #[.int .i64 (2), .int .u64 ((1 : Nat) : Int)]), isW (.agg #[.int .i64 (2), .int .u64 ((0 : Nat) : Int)]), isW (.agg #[.int .i64 (2), .int .u64 ((1 : Nat) : Int)]), rowW [(2, 0), (2, 1)], isW (.agg #[.int .i64 (2), .int .u64 ((1 : Nat) : Int)]), isW (.bool true), isW (.bool true), isW (.bool true)] (by kernel_rfl) (by repeat' (first | exact monoL_nil | exact is_mono _ | exact row_mono _ | exact any_mono | refine monoL_cons ?_ ?_)) (by kernel_rfl) (by kernel_rfl) (fun _ _ h hb => keepC11 hb h) ⟨ra, rb, rc, rd, s5a, s5b, s6a, s6b, s7a, s7b, hB8.drew⟩ ?_ ?_
      · intro KC
        refine stepsL_cons (fun a u hc hdd hd hk hdep => ?_) ?_
        ·
          have d8 : (a.tmps[8]?).getD undef = (.int .i64 (1)) := hk 8 (by kernel_rfl)
          refine step_val KC KD hc hdd rfl (.int .i64 (1)) u (wanted_plain rfl) ?_ rfl (Below.refl _ _)
          first | (go_simp; done) | rfl
        refine stepsL_cons (fun a u hc hdd hd hk hdep => ?_) ?_
        ·
          have d61 : (a.tmps[61]?).getD undef = (.int .i64 (1)) := hdep ⟨0, .data⟩ (by simp) rfl
          refine step_val KC KD hc hdd rfl (.bool true) u (wanted_plain rfl) ?_ rfl (Below.refl _ _)
          go_simp
        refine stepsL_cons (fun a u hc hdd hd hk hdep => ?_) ?_
        ·
          have d9 : (a.tmps[9]?).getD undef = (.bool false) := hk 9 (by kernel_rfl)
          refine step_val KC KD hc hdd rfl (.bool false) u (wanted_plain rfl) ?_ rfl (Below.refl _ _)
          first | (go_simp; done) | rfl
        refine stepsL_cons (fun a u hc hdd hd hk hdep => ?_) ?_
        ·
          have d63 : (a.tmps[63]?).getD undef = (.bool false) := hdep ⟨2, .data⟩ (by simp) rfl
          refine step_val KC KD hc hdd rfl (.bool true) u (wanted_plain rfl) ?_ rfl (Below.refl _ _)
          go_simp
        refine stepsL_cons (fun a u hc hdd hd hk hdep => ?_) ?_
        ·
          have d62 : (a.tmps[62]?).getD undef = (.bool true) := hdep ⟨1, .data⟩ (by simp) rfl
          have d64 : (a.tmps[64]?).getD undef = (.bool true) := hdep ⟨3, .data⟩ (by simp) rfl
          refine step_val KC KD hc hdd rfl (.bool true) u (wanted_plain rfl) ?_ rfl (Below.refl _ _)
          go_simp
        refine stepsL_cons (fun a u hc hdd hd hk hdep => ?_) ?_
        ·
          have d65 : (a.tmps[65]?).getD undef = (.bool true) := hdep ⟨4, .data⟩ (by simp) rfl
          refine step_val KC KD hc hdd rfl (.bool true) u (wanted_plain rfl) ?_ rfl (Below.refl _ _)
          first | (go_simp; done) | rfl
        refine stepsL_cons (fun a u hc hdd hd hk hdep => ?_) ?_
        ·
          have d8 : (a.tmps[8]?).getD undef = (.int .i64 (1)) := hk 8 (by kernel_rfl)
          refine step_val KC KD hc hdd rfl (.int .i64 (1)) u ((wanted_guard (j := 5) (b := true) (c := true) rfl (hdep ⟨5, .guard⟩ (by simp) rfl)).trans rfl) ?_ rfl (Below.refl _ _)
          first | (go_simp; done) | rfl
        refine stepsL_cons (fun a u hc hdd hd hk hdep => ?_) ?_
        ·
          have d67 : (a.tmps[67]?).getD undef = (.int .i64 (1)) := hdep ⟨6, .data⟩ (by simp) rfl
          refine step_val KC KD hc hdd rfl (.bool false) u ((wanted_guard (j := 5) (b := true) (c := true) rfl (hdep ⟨5, .guard⟩ (by simp) rfl)).trans rfl) ?_ rfl (Below.refl _ _)
          go_simp
        refine stepsL_cons (fun a u hc hdd hd hk hdep => ?_) ?_
        ·
          have d9 : (a.tmps[9]?).getD undef = (.bool false) := hk 9 (by kernel_rfl)
          refine step_val KC KD hc hdd rfl (.bool false) u ((wanted_guard (j := 5) (b := true) (c := true) rfl (hdep ⟨5, .guard⟩ (by simp) rfl)).trans rfl) ?_ rfl (Below.refl _ _)
          first | (go_simp; done) | rfl
        refine stepsL_cons (fun a u hc hdd hd hk hdep => ?_) ?_
        ·
          have d68 : (a.tmps[68]?).getD undef = (.bool false) := hdep ⟨7, .data⟩ (by simp) rfl
          have d69 : (a.tmps[69]?).getD undef = (.bool false) := hdep ⟨8, .data⟩ (by simp) rfl
          refine step_val KC KD hc hdd rfl (.bool true) u ((wanted_guard (j := 5) (b := true) (c := true) rfl (hdep ⟨5, .guard⟩ (by simp) rfl)).trans rfl) ?_ rfl (Below.refl _ _)
          go_simp
        refine stepsL_cons (fun a u hc hdd hd hk hdep => ?_) ?_
        ·
          have d66 : (a.tmps[66]?).getD undef = (.bool true) := hdep ⟨5, .data⟩ (by simp) rfl
          have d70 : (a.tmps[70]?).getD undef = (.bool true) := hdep ⟨9, .data⟩ (by simp) rfl
          refine step_val KC KD hc hdd rfl (.bool true) u (wanted_plain rfl) ?_ rfl (Below.refl _ _)
          first | (go_simp; done) | rfl
        refine stepsL_cons (fun a u hc hdd hd hk hdep => ?_) ?_
        ·
          have d71 : (a.tmps[71]?).getD undef = (.bool true) := hdep ⟨10, .data⟩ (by simp) rfl
          refine step_val KC KD hc hdd rfl (.bool true) u (wanted_plain rfl) ?_ rfl (Below.refl _ _)
          first | (go_simp; done) | rfl
        refine stepsL_cons (fun a u hc hdd hd hk hdep => ?_) ?_
        ·
          have d2 : (a.tmps[2]?).getD undef = (.pointer (some ⟨w.heap.size, 0, none⟩)) := hk 2 (by kernel_rfl)
          refine step_val KC KD hc hdd rfl (.agg #[.int .i64 (k0), .int .u64 ((b0 : Nat) : Int)]) u ((wanted_guard (j := 11) (b := true) (c := true) rfl (hdep ⟨11, .guard⟩ (by simp) rfl)).trans rfl) ?_ rfl (Below.refl _ _)
          obtain ⟨s0, s1, s2, s3, s4, s5, s6, s7, s8, s9, s10⟩ := hc
          go_simp
        refine stepsL_cons (fun a u hc hdd hd hk hdep => ?_) ?_
        ·
          have d3 : (a.tmps[3]?).getD undef = (.pointer (some ⟨w.heap.size + 1, 0, none⟩)) := hk 3 (by kernel_rfl)
          refine step_val KC KD hc hdd rfl (.agg #[.int .i64 (k1), .int .u64 ((b1 : Nat) : Int)]) u ((wanted_guard (j := 11) (b := true) (c := true) rfl (hdep ⟨11, .guard⟩ (by simp) rfl)).trans rfl) ?_ rfl (Below.refl _ _)
          obtain ⟨s0, s1, s2, s3, s4, s5, s6, s7, s8, s9, s10⟩ := hc
          go_simp
        refine stepsL_cons (fun a u hc hdd hd hk hdep => ?_) ?_
        ·
          have d73 : (a.tmps[73]?).getD undef = (.agg #[.int .i64 (k0), .int .u64 ((b0 : Nat) : Int)]) := hdep ⟨12, .data⟩ (by simp) rfl
          have d74 : (a.tmps[74]?).getD undef = (.agg #[.int .i64 (k1), .int .u64 ((b1 : Nat) : Int)]) := hdep ⟨13, .data⟩ (by simp) rfl
          refine step_val KC KD hc hdd rfl (.slice (some ⟨u.heap.size, 0, none⟩) 2 2) (u.alloc (.cells #[.int .i64 (k0), .int .u64 ((b0 : Nat) : Int), .int .i64 (k1), .int .u64 ((b1 : Nat) : Int)] 29)) ((wanted_guard (j := 11) (b := true) (c := true) rfl (hdep ⟨11, .guard⟩ (by simp) rfl)).trans rfl) ?_ ⟨_, 2, rfl, row_two (by first | assumption | decide) (by first | assumption | decide) (by simp) (by simp) (by simp) (by simp)⟩ (below1 _ _)
          go_simp
        refine stepsL_cons (fun a u hc hdd hd hk hdep => ?_) ?_
        ·
          obtain ⟨A75, c75, d75, r75⟩ : rowW [(k0, b0), (k1, b1)] ((a.tmps[75]?).getD undef) u := hdep ⟨14, .data⟩ (by simp) rfl
          refine step_call KC KD hc hdd rfl 17 #[.int .i64 8, .slice A75 2 c75] ((wanted_guard (j := 11) (b := true) (c := true) rfl (hdep ⟨11, .chain⟩ (by simp) rfl)).trans rfl) (by go_simp) ?_
          exact (C8.out _ _ u r75).mono (by rintro e w' ⟨rfl, hb⟩; exact ⟨_, rfl, rfl, hb⟩)
        refine stepsL_cons (fun a u hc hdd hd hk hdep => ?_) ?_
        ·
          have d6 : (a.tmps[6]?).getD undef = (.pointer (some ⟨g6, 0, none⟩)) := hk 6 (by kernel_rfl)
          refine step_val KC KD hc hdd rfl (.agg #[.int .i64 (2), .int .u64 ((1 : Nat) : Int)]) u ((wanted_guard (j := 11) (b := true) (c := true) rfl (hdep ⟨11, .guard⟩ (by simp) rfl)).trans rfl) ?_ rfl (Below.refl _ _)
          obtain ⟨s0, s1, s2, s3, s4, s5, s6, s7, s8, s9, s10⟩ := hc
          go_simp
        refine stepsL_cons (fun a u hc hdd hd hk hdep => ?_) ?_
        ·
          have d77 : (a.tmps[77]?).getD undef = (.agg #[.int .i64 (2), .int .u64 ((1 : Nat) : Int)]) := hdep ⟨16, .data⟩ (by simp) rfl
          refine step_val KC KD hc hdd rfl (.slice (some ⟨u.heap.size, 0, none⟩) 1 1) (u.alloc (.cells #[.int .i64 (2), .int .u64 ((1 : Nat) : Int)] 29)) ((wanted_guard (j := 11) (b := true) (c := true) rfl (hdep ⟨11, .guard⟩ (by simp) rfl)).trans rfl) ?_ ⟨_, 1, rfl, row_one (by first | assumption | decide) (by simp) (by simp)⟩ (below1 _ _)
          go_simp
        refine stepsL_cons (fun a u hc hdd hd hk hdep => ?_) ?_
        ·
          obtain ⟨A78, c78, d78, r78⟩ : rowW [(2, 1)] ((a.tmps[78]?).getD undef) u := hdep ⟨17, .data⟩ (by simp) rfl
          refine step_call KC KD hc hdd rfl 17 #[.int .i64 15, .slice A78 1 c78] ((wanted_guard (j := 11) (b := true) (c := true) rfl (hdep ⟨11, .guard⟩ (by simp) rfl)).trans rfl) (by go_simp) ?_
          exact (D15.out _ _ u r78).mono (by rintro e w' ⟨rfl, hb⟩; exact ⟨_, rfl, rfl, hb⟩)
        refine stepsL_cons (fun a u hc hdd hd hk hdep => ?_) ?_
        ·
          have d76 : (a.tmps[76]?).getD undef = (.agg #[.int .i64 (2), .int .u64 ((0 : Nat) : Int)]) := hdep ⟨15, .data⟩ (by simp) rfl
          have d79 : (a.tmps[79]?).getD undef = (.agg #[.int .i64 (2), .int .u64 ((0 : Nat) : Int)]) := hdep ⟨18, .data⟩ (by simp) rfl
          refine step_val KC KD hc hdd rfl (.bool true) u ((wanted_guard (j := 11) (b := true) (c := true) rfl (hdep ⟨11, .guard⟩ (by simp) rfl)).trans rfl) ?_ rfl (Below.refl _ _)
          go_simp
        refine stepsL_cons (fun a u hc hdd hd hk hdep => ?_) ?_
        ·
          have d72 : (a.tmps[72]?).getD undef = (.bool true) := hdep ⟨11, .data⟩ (by simp) rfl
          have d80 : (a.tmps[80]?).getD undef = (.bool true) := hdep ⟨19, .data⟩ (by simp) rfl
          refine step_val KC KD hc hdd rfl (.bool true) u (wanted_plain rfl) ?_ rfl (Below.refl _ _)
          first | (go_simp; done) | rfl
        refine stepsL_cons (fun a u hc hdd hd hk hdep => ?_) ?_
        ·
          have d81 : (a.tmps[81]?).getD undef = (.bool true) := hdep ⟨20, .data⟩ (by simp) rfl
          refine step_val KC KD hc hdd rfl (.bool true) u (wanted_plain rfl) ?_ rfl (Below.refl _ _)
          first | (go_simp; done) | rfl
        refine stepsL_cons (fun a u hc hdd hd hk hdep => ?_) ?_
        ·
          have d2 : (a.tmps[2]?).getD undef = (.pointer (some ⟨w.heap.size, 0, none⟩)) := hk 2 (by kernel_rfl)
          refine step_val KC KD hc hdd rfl (.agg #[.int .i64 (k0), .int .u64 ((b0 : Nat) : Int)]) u ((wanted_guard (j := 21) (b := true) (c := true) rfl (hdep ⟨21, .guard⟩ (by simp) rfl)).trans rfl) ?_ rfl (Below.refl _ _)
          obtain ⟨s0, s1, s2, s3, s4, s5, s6, s7, s8, s9, s10⟩ := hc
          go_simp
        refine stepsL_cons (fun a u hc hdd hd hk hdep => ?_) ?_
        ·
          have d3 : (a.tmps[3]?).getD undef = (.pointer (some ⟨w.heap.size + 1, 0, none⟩)) := hk 3 (by kernel_rfl)
          refine step_val KC KD hc hdd rfl (.agg #[.int .i64 (k1), .int .u64 ((b1 : Nat) : Int)]) u ((wanted_guard (j := 21) (b := true) (c := true) rfl (hdep ⟨21, .guard⟩ (by simp) rfl)).trans rfl) ?_ rfl (Below.refl _ _)
          obtain ⟨s0, s1, s2, s3, s4, s5, s6, s7, s8, s9, s10⟩ := hc
          go_simp
        refine stepsL_cons (fun a u hc hdd hd hk hdep => ?_) ?_
        ·
          have d83 : (a.tmps[83]?).getD undef = (.agg #[.int .i64 (k0), .int .u64 ((b0 : Nat) : Int)]) := hdep ⟨22, .data⟩ (by simp) rfl
          have d84 : (a.tmps[84]?).getD undef = (.agg #[.int .i64 (k1), .int .u64 ((b1 : Nat) : Int)]) := hdep ⟨23, .data⟩ (by simp) rfl
          refine step_val KC KD hc hdd rfl (.slice (some ⟨u.heap.size, 0, none⟩) 2 2) (u.alloc (.cells #[.int .i64 (k0), .int .u64 ((b0 : Nat) : Int), .int .i64 (k1), .int .u64 ((b1 : Nat) : Int)] 29)) ((wanted_guard (j := 21) (b := true) (c := true) rfl (hdep ⟨21, .guard⟩ (by simp) rfl)).trans rfl) ?_ ⟨_, 2, rfl, row_two (by first | assumption | decide) (by first | assumption | decide) (by simp) (by simp) (by simp) (by simp)⟩ (below1 _ _)
          go_simp
        refine stepsL_cons (fun a u hc hdd hd hk hdep => ?_) ?_
        ·
          obtain ⟨A85, c85, d85, r85⟩ : rowW [(k0, b0), (k1, b1)] ((a.tmps[85]?).getD undef) u := hdep ⟨24, .data⟩ (by simp) rfl
          refine step_call KC KD hc hdd rfl 17 #[.int .i64 10, .slice A85 2 c85] ((wanted_guard (j := 21) (b := true) (c := true) rfl (hdep ⟨21, .chain⟩ (by simp) rfl)).trans rfl) (by go_simp) ?_
          exact (C10.out _ _ u r85).mono (by rintro e w' ⟨rfl, hb⟩; exact ⟨_, rfl, rfl, hb⟩)
        refine stepsL_cons (fun a u hc hdd hd hk hdep => ?_) ?_
        ·
          have d5 : (a.tmps[5]?).getD undef = (.pointer (some ⟨g5, 0, none⟩)) := hk 5 (by kernel_rfl)
          refine step_val KC KD hc hdd rfl (.agg #[.int .i64 (2), .int .u64 ((0 : Nat) : Int)]) u ((wanted_guard (j := 21) (b := true) (c := true) rfl (hdep ⟨21, .guard⟩ (by simp) rfl)).trans rfl) ?_ rfl (Below.refl _ _)
          obtain ⟨s0, s1, s2, s3, s4, s5, s6, s7, s8, s9, s10⟩ := hc
          go_simp
        refine stepsL_cons (fun a u hc hdd hd hk hdep => ?_) ?_
        ·
          have d6 : (a.tmps[6]?).getD undef = (.pointer (some ⟨g6, 0, none⟩)) := hk 6 (by kernel_rfl)
          refine step_val KC KD hc hdd rfl (.agg #[.int .i64 (2), .int .u64 ((1 : Nat) : Int)]) u ((wanted_guard (j := 21) (b := true) (c := true) rfl (hdep ⟨21, .guard⟩ (by simp) rfl)).trans rfl) ?_ rfl (Below.refl _ _)
          obtain ⟨s0, s1, s2, s3, s4, s5, s6, s7, s8, s9, s10⟩ := hc
          go_simp
        refine stepsL_cons (fun a u hc hdd hd hk hdep => ?_) ?_
        ·
          have d87 : (a.tmps[87]?).getD undef = (.agg #[.int .i64 (2), .int .u64 ((0 : Nat) : Int)]) := hdep ⟨26, .data⟩ (by simp) rfl
          have d88 : (a.tmps[88]?).getD undef = (.agg #[.int .i64 (2), .int .u64 ((1 : Nat) : Int)]) := hdep ⟨27, .data⟩ (by simp) rfl
          refine step_val KC KD hc hdd rfl (.slice (some ⟨u.heap.size, 0, none⟩) 2 2) (u.alloc (.cells #[.int .i64 (2), .int .u64 ((0 : Nat) : Int), .int .i64 (2), .int .u64 ((1 : Nat) : Int)] 29)) ((wanted_guard (j := 21) (b := true) (c := true) rfl (hdep ⟨21, .guard⟩ (by simp) rfl)).trans rfl) ?_ ⟨_, 2, rfl, row_two (by first | assumption | decide) (by first | assumption | decide) (by simp) (by simp) (by simp) (by simp)⟩ (below1 _ _)
          go_simp
        refine stepsL_cons (fun a u hc hdd hd hk hdep => ?_) ?_
        ·
          obtain ⟨A89, c89, d89, r89⟩ : rowW [(2, 0), (2, 1)] ((a.tmps[89]?).getD undef) u := hdep ⟨28, .data⟩ (by simp) rfl
          refine step_call KC KD hc hdd rfl 17 #[.int .i64 14, .slice A89 2 c89] ((wanted_guard (j := 21) (b := true) (c := true) rfl (hdep ⟨21, .guard⟩ (by simp) rfl)).trans rfl) (by go_simp) ?_
          exact (D14b.out _ _ u r89).mono (by rintro e w' ⟨rfl, hb⟩; exact ⟨_, rfl, rfl, hb⟩)
        refine stepsL_cons (fun a u hc hdd hd hk hdep => ?_) ?_
        ·
          have d86 : (a.tmps[86]?).getD undef = (.agg #[.int .i64 (2), .int .u64 ((1 : Nat) : Int)]) := hdep ⟨25, .data⟩ (by simp) rfl
          have d90 : (a.tmps[90]?).getD undef = (.agg #[.int .i64 (2), .int .u64 ((1 : Nat) : Int)]) := hdep ⟨29, .data⟩ (by simp) rfl
          refine step_val KC KD hc hdd rfl (.bool true) u ((wanted_guard (j := 21) (b := true) (c := true) rfl (hdep ⟨21, .guard⟩ (by simp) rfl)).trans rfl) ?_ rfl (Below.refl _ _)
          go_simp
        refine stepsL_cons (fun a u hc hdd hd hk hdep => ?_) ?_
        ·
          have d82 : (a.tmps[82]?).getD undef = (.bool true) := hdep ⟨21, .data⟩ (by simp) rfl
          have d91 : (a.tmps[91]?).getD undef = (.bool true) := hdep ⟨30, .data⟩ (by simp) rfl
          refine step_val KC KD hc hdd rfl (.bool true) u (wanted_plain rfl) ?_ rfl (Below.refl _ _)
          first | (go_simp; done) | rfl
        refine stepsL_cons (fun a u hc hdd hd hk hdep => ?_) ?_
        ·
          have d92 : (a.tmps[92]?).getD undef = (.bool true) := hdep ⟨31, .data⟩ (by simp) rfl
          refine step_val KC KD hc hdd rfl (.bool true) u (wanted_plain rfl) ?_ rfl (Below.refl _ _)
          first | (go_simp; done) | rfl
        refine stepsL_cons (fun a u hc hdd hd hk hdep => ?_) ?_
        ·
          have d2 : (a.tmps[2]?).getD undef = (.pointer (some ⟨w.heap.size, 0, none⟩)) := hk 2 (by kernel_rfl)
          refine step_val KC KD hc hdd rfl (.agg #[.int .i64 (k0), .int .u64 ((b0 : Nat) : Int)]) u ((wanted_guard (j := 32) (b := true) (c := true) rfl (hdep ⟨32, .guard⟩ (by simp) rfl)).trans rfl) ?_ rfl (Below.refl _ _)
          obtain ⟨s0, s1, s2, s3, s4, s5, s6, s7, s8, s9, s10⟩ := hc
          go_simp
        refine stepsL_cons (fun a u hc hdd hd hk hdep => ?_) ?_
        ·
          have d3 : (a.tmps[3]?).getD undef = (.pointer (some ⟨w.heap.size + 1, 0, none⟩)) := hk 3 (by kernel_rfl)
          refine step_val KC KD hc hdd rfl (.agg #[.int .i64 (k1), .int .u64 ((b1 : Nat) : Int)]) u ((wanted_guard (j := 32) (b := true) (c := true) rfl (hdep ⟨32, .guard⟩ (by simp) rfl)).trans rfl) ?_ rfl (Below.refl _ _)
          obtain ⟨s0, s1, s2, s3, s4, s5, s6, s7, s8, s9, s10⟩ := hc
          go_simp
        refine stepsL_cons (fun a u hc hdd hd hk hdep => ?_) ?_
        ·
          have d94 : (a.tmps[94]?).getD undef = (.agg #[.int .i64 (k0), .int .u64 ((b0 : Nat) : Int)]) := hdep ⟨33, .data⟩ (by simp) rfl
          have d95 : (a.tmps[95]?).getD undef = (.agg #[.int .i64 (k1), .int .u64 ((b1 : Nat) : Int)]) := hdep ⟨34, .data⟩ (by simp) rfl
          refine step_val KC KD hc hdd rfl (.slice (some ⟨u.heap.size, 0, none⟩) 2 2) (u.alloc (.cells #[.int .i64 (k0), .int .u64 ((b0 : Nat) : Int), .int .i64 (k1), .int .u64 ((b1 : Nat) : Int)] 29)) ((wanted_guard (j := 32) (b := true) (c := true) rfl (hdep ⟨32, .guard⟩ (by simp) rfl)).trans rfl) ?_ ⟨_, 2, rfl, row_two (by first | assumption | decide) (by first | assumption | decide) (by simp) (by simp) (by simp) (by simp)⟩ (below1 _ _)
          go_simp
        refine stepsL_cons (fun a u hc hdd hd hk hdep => ?_) ?_
        ·
          obtain ⟨A96, c96, d96, r96⟩ : rowW [(k0, b0), (k1, b1)] ((a.tmps[96]?).getD undef) u := hdep ⟨35, .data⟩ (by simp) rfl
          refine step_call KC KD hc hdd rfl 17 #[.int .i64 12, .slice A96 2 c96] ((wanted_guard (j := 32) (b := true) (c := true) rfl (hdep ⟨32, .chain⟩ (by simp) rfl)).trans rfl) (by go_simp) ?_
          exact (C12.out _ _ u r96).mono (by rintro e w' ⟨rfl, hb⟩; exact ⟨_, rfl, rfl, hb⟩)
        refine stepsL_cons (fun a u hc hdd hd hk hdep => ?_) ?_
        ·
          have d7 : (a.tmps[7]?).getD undef = (.pointer (some ⟨g7, 0, none⟩)) := hk 7 (by kernel_rfl)
          refine step_val KC KD hc hdd rfl (.agg #[.int .i64 (2), .int .u64 ((0 : Nat) : Int)]) u ((wanted_guard (j := 32) (b := true) (c := true) rfl (hdep ⟨32, .guard⟩ (by simp) rfl)).trans rfl) ?_ rfl (Below.refl _ _)
          obtain ⟨s0, s1, s2, s3, s4, s5, s6, s7, s8, s9, s10⟩ := hc
          go_simp
        refine stepsL_cons (fun a u hc hdd hd hk hdep => ?_) ?_
        ·
          have d6 : (a.tmps[6]?).getD undef = (.pointer (some ⟨g6, 0, none⟩)) := hk 6 (by kernel_rfl)
          refine step_val KC KD hc hdd rfl (.agg #[.int .i64 (2), .int .u64 ((1 : Nat) : Int)]) u ((wanted_guard (j := 32) (b := true) (c := true) rfl (hdep ⟨32, .guard⟩ (by simp) rfl)).trans rfl) ?_ rfl (Below.refl _ _)
          obtain ⟨s0, s1, s2, s3, s4, s5, s6, s7, s8, s9, s10⟩ := hc
          go_simp
        refine stepsL_cons (fun a u hc hdd hd hk hdep => ?_) ?_
        ·
          have d98 : (a.tmps[98]?).getD undef = (.agg #[.int .i64 (2), .int .u64 ((0 : Nat) : Int)]) := hdep ⟨37, .data⟩ (by simp) rfl
          have d99 : (a.tmps[99]?).getD undef = (.agg #[.int .i64 (2), .int .u64 ((1 : Nat) : Int)]) := hdep ⟨38, .data⟩ (by simp) rfl
          refine step_val KC KD hc hdd rfl (.slice (some ⟨u.heap.size, 0, none⟩) 2 2) (u.alloc (.cells #[.int .i64 (2), .int .u64 ((0 : Nat) : Int), .int .i64 (2), .int .u64 ((1 : Nat) : Int)] 29)) ((wanted_guard (j := 32) (b := true) (c := true) rfl (hdep ⟨32, .guard⟩ (by simp) rfl)).trans rfl) ?_ ⟨_, 2, rfl, row_two (by first | assumption | decide) (by first | assumption | decide) (by simp) (by simp) (by simp) (by simp)⟩ (below1 _ _)
          go_simp
        refine stepsL_cons (fun a u hc hdd hd hk hdep => ?_) ?_
        ·
          obtain ⟨A100, c100, d100, r100⟩ : rowW [(2, 0), (2, 1)] ((a.tmps[100]?).getD undef) u := hdep ⟨39, .data⟩ (by simp) rfl
          refine step_call KC KD hc hdd rfl 17 #[.int .i64 14, .slice A100 2 c100] ((wanted_guard (j := 32) (b := true) (c := true) rfl (hdep ⟨32, .guard⟩ (by simp) rfl)).trans rfl) (by go_simp) ?_
          exact (D14b.out _ _ u r100).mono (by rintro e w' ⟨rfl, hb⟩; exact ⟨_, rfl, rfl, hb⟩)
        refine stepsL_cons (fun a u hc hdd hd hk hdep => ?_) ?_
        ·
          have d97 : (a.tmps[97]?).getD undef = (.agg #[.int .i64 (2), .int .u64 ((1 : Nat) : Int)]) := hdep ⟨36, .data⟩ (by simp) rfl
          have d101 : (a.tmps[101]?).getD undef = (.agg #[.int .i64 (2), .int .u64 ((1 : Nat) : Int)]) := hdep ⟨40, .data⟩ (by simp) rfl
          refine step_val KC KD hc hdd rfl (.bool true) u ((wanted_guard (j := 32) (b := true) (c := true) rfl (hdep ⟨32, .guard⟩ (by simp) rfl)).trans rfl) ?_ rfl (Below.refl _ _)
          go_simp
        refine stepsL_cons (fun a u hc hdd hd hk hdep => ?_) ?_
        ·
          have d93 : (a.tmps[93]?).getD undef = (.bool true) := hdep ⟨32, .data⟩ (by simp) rfl
          have d102 : (a.tmps[102]?).getD undef = (.bool true) := hdep ⟨41, .data⟩ (by simp) rfl
          refine step_val KC KD hc hdd rfl (.bool true) u (wanted_plain rfl) ?_ rfl (Below.refl _ _)
          first | (go_simp; done) | rfl
        refine stepsL_cons (fun a u hc hdd hd hk hdep => ?_) ?_
        ·
          have d103 : (a.tmps[103]?).getD undef = (.bool true) := hdep ⟨42, .data⟩ (by simp) rfl
          refine step_val KC KD hc hdd rfl (.bool true) u (wanted_plain rfl) ?_ rfl (Below.refl _ _)
          first | (go_simp; done) | rfl
        exact stepsL_nil
      intro vs8 wE hE hh
      obtain ⟨e0, e1, e2, e3, e4, e5, e6, e7, e8, e9, e10, e11, e12, e13, e14, e15, e16, e17, e18, e19, e20, e21, e22, e23, e24, e25, e26, e27, e28, e29, e30, e31, e32, e33, e34, e35, e36, e37, e38, e39, e40, e41, e42, e43, -⟩ := hh
      have eL : vs8 43 = (.bool true) := e43
      clear e0 e1 e2 e3 e4 e5 e6 e7 e8 e9 e10 e11 e12 e13 e14 e15 e16 e17 e18 e19 e20 e21 e22 e23 e24 e25 e26 e27 e28 e29 e30 e31 e32 e33 e34 e35 e36 e37 e38 e39 e40 e41 e42 e43
      set_option maxRecDepth 100000 in simp only [putAll, Act.put, List.setIfInBounds_toArray, List.set_cons_zero, List.set_cons_succ, eL]
      obtain ⟨ra, rb, rc, rd, s5a, s5b, s6a, s6b, s7a, s7b, hB9⟩ := hE
      go_wp2
      go_ret
      exact ⟨rfl, hB9⟩
    · obtain ⟨xa, za⟩ := na; obtain ⟨xb, zb⟩ := nb; simp only at ya yb; subst ya yb
      simp only [b2n, Bool.not_true, Bool.not_false, Bool.or_true, Bool.true_or, Bool.or_false, Bool.false_or, Bool.or_self, if_true, Bool.false_eq_true, if_false] at s5a s5b s6a s6b s7a s7b C8 C10 C12 Na Nb ⊢
      have hcc : u4.cell? ⟨w.heap.size, 0, none⟩ = some (.int .i64 k0) ∧ u4.cell? ⟨w.heap.size, 1, none⟩ = some (.int .u64 (b0 : Int)) ∧ u4.cell? ⟨w.heap.size + 1, 0, none⟩ = some (.int .i64 k1) ∧ u4.cell? ⟨w.heap.size + 1, 1, none⟩ = some (.int .u64 (b1 : Int)) ∧ u4.cell? ⟨g5, 0, none⟩ = some (.int .i64 2) ∧ u4.cell? ⟨g5, 1, none⟩ = some (.int .u64 ((0 : Nat) : Int)) ∧ u4.cell? ⟨g6, 0, none⟩ = some (.int .i64 2) ∧ u4.cell? ⟨g6, 1, none⟩ = some (.int .u64 ((0 : Nat) : Int)) ∧ u4.cell? ⟨g7, 0, none⟩ = some (.int .i64 2) ∧ u4.cell? ⟨g7, 1, none⟩ = some (.int .u64 ((1 : Nat) : Int)) ∧ Below w.heap.size w u4 := ⟨ra, rb, rc, rd, s5a, s5b, s6a, s6b, s7a, s7b, h4⟩
      have tb : tB true = 1 := rfl
      have D15 := Lib.hid (fun A cap w hv => do_any 15 A 1 cap [(2, 0)] w hv (by decide))
      rw [show appP 15 [(2, 0)] = (2, 1) by first | rfl | decide] at D15
      simp only at D15
      have D14a := Lib.hid (fun A cap w hv => do_any 14 A 2 cap [(2, 0), (2, 0)] w hv (by decide))
      rw [show appP 14 [(2, 0), (2, 0)] = (2, 0) by first | rfl | decide] at D14a
      simp only at D14a
      have D14b := Lib.hid (fun A cap w hv => do_any 14 A 2 cap [(2, 1), (2, 0)] w hv (by decide))
      rw [show appP 14 [(2, 1), (2, 0)] = (2, 1) by first | rfl | decide] at D14b
      simp only at D14b
      go_wp2_with fail
      refine (Na.out _ _ _ (row_one w0 (by simp) (by simp))).mono ?_; rintro e u5 ⟨rfl, hb1⟩
      have hcc := keepC11 hb1 (keepC11 (below1 _ _) hcc); have hcc' := hcc; obtain ⟨ra, rb, rc, rd, s5a, s5b, s6a, s6b, s7a, s7b, hB8⟩ := hcc'
      go_wp2_with fail
      refine (truth_any _ _).mono ?_; rintro e u6 ⟨rfl, hb1⟩
      have hcc := keepC11 hb1 hcc; have hcc' := hcc; obtain ⟨ra, rb, rc, rd, s5a, s5b, s6a, s6b, s7a, s7b, hB8⟩ := hcc'
      go_wp2_with fail
      refine (Nb.out _ _ _ (row_one w1 (by simp) (by simp))).mono ?_; rintro e u7 ⟨rfl, hb1⟩
      have hcc := keepC11 hb1 (keepC11 (below1 _ _) hcc); have hcc' := hcc; obtain ⟨ra, rb, rc, rd, s5a, s5b, s6a, s6b, s7a, s7b, hB8⟩ := hcc'
      go_wp2_with fail
      refine (truth_any _ _).mono ?_; rintro e u8 ⟨rfl, hb1⟩
      have hcc := keepC11 hb1 hcc; have hcc' := hcc; obtain ⟨ra, rb, rc, rd, s5a, s5b, s6a, s6b, s7a, s7b, hB8⟩ := hcc'
      go_wp2_with fail
      have KD := keepsD_true []
      refine region_words (fun w' => w'.cell? ⟨w.heap.size, 0, none⟩ = some (.int .i64 k0) ∧ w'.cell? ⟨w.heap.size, 1, none⟩ = some (.int .u64 (b0 : Int)) ∧ w'.cell? ⟨w.heap.size + 1, 0, none⟩ = some (.int .i64 k1) ∧ w'.cell? ⟨w.heap.size + 1, 1, none⟩ = some (.int .u64 (b1 : Int)) ∧ w'.cell? ⟨g5, 0, none⟩ = some (.int .i64 2) ∧ w'.cell? ⟨g5, 1, none⟩ = some (.int .u64 ((0 : Nat) : Int)) ∧ w'.cell? ⟨g6, 0, none⟩ = some (.int .i64 2) ∧ w'.cell? ⟨g6, 1, none⟩ = some (.int .u64 ((0 : Nat) : Int)) ∧ w'.cell? ⟨g7, 0, none⟩ = some (.int .i64 2) ∧ w'.cell? ⟨g7, 1, none⟩ = some (.int .u64 ((1 : Nat) : Int)) ∧ Below w.heap.size w w') [isW (.int .i64 (1)), isW (.bool true), isW (.bool false), isW (.bool true), isW (.bool true), isW (.bool true), isW (.int .i64 (1)), isW (.bool false), isW (.bool false), isW (.bool true), isW (.bool true), isW (.bool true), isW (.agg #[.int .i64 (k0), .int .u64 ((b0 : Nat) : Int)]), isW (.agg #[.int .i64 (k1), .int .u64 ((b1 : Nat) : Int)]), rowW [(k0, b0), (k1, b1)], isW (.agg #[.int .i64 (2), .int .u64 ((1 : Nat) : Int)]), isW (.agg #[.int .i64 (2), .int .u64 ((0 : Nat) : Int)]), rowW [(2, 0)], isW (.agg #[.int .i64 (2), .int .u64 ((1 : Nat) : Int)]), isW (.bool true), isW (.bool true), isW (.bool true), isW (.agg #[.int .i64 (k0), .int .u64 ((b0 : Nat) : Int)]), isW (.agg #[.int .i64 (k1), .int .u64 ((b1 : Nat) : Int)]), rowW [(k0, b0), (k1, b1)], isW (.agg #[.int .i64 (2), .int .u64 ((0 : Nat) : Int)]), isW (.agg #[.int .i64 (2), .int .u64 ((0 : Nat) : Int)]), isW (.agg #[.int .i64 (2), .int .u64 ((0 : Nat) : Int)]), rowW [(2, 0), (2, 0)], isW (.agg #[.int .i64 (2), .int .u64 ((0 : Nat) : Int)]), isW (.bool true), isW (.bool true), isW (.bool true), isW (.agg #[.int .i64 (k0), .int .u64 ((b0 : Nat) : Int)]), isW (.agg #[.int .i64 (k1), .int .u64 ((b1 : Nat) : Int)]), rowW [(k0, b0), (k1, b1)], isW (.agg #[.int .i64 (2), .int .u64 ((1 : Nat) : Int)]), isW (.agg #[.int .i64 (2), .int .u64 ((1 : Nat) : Int)]), isW (.agg #[.int .i64 (2), .int .u64 ((0 : Nat) : Int)]), rowW [(2, 1), (2, 0)], isW (.agg #[.int .i64 (2), .int .u64 ((1 : Nat) : Int)]), isW (.bool true), isW (.bool true), isW (.bool true)] (by kernel_rfl) (by repeat' (first | exact monoL_nil | exact is_mono _ | exact row_mono _ | exact any_mono | refine monoL_cons ?_ ?_)) (by kernel_rfl) (by kernel_rfl) (fun _ _ h hb => keepC11 hb h) ⟨ra, rb, rc, rd, s5a, s5b, s6a, s6b, s7a, s7b, hB8.drew⟩ ?_ ?_
      · intro KC
        refine stepsL_cons (fun a u hc hdd hd hk hdep => ?_) ?_
        ·
          have d8 : (a.tmps[8]?).getD undef = (.int .i64 (1)) := hk 8 (by kernel_rfl)
          refine step_val KC KD hc hdd rfl (.int .i64 (1)) u (wanted_plain rfl) ?_ rfl (Below.refl _ _)
          first | (go_simp; done) | rfl
        refine stepsL_cons (fun a u hc hdd hd hk hdep => ?_) ?_
        ·
          have d61 : (a.tmps[61]?).getD undef = (.int .i64 (1)) := hdep ⟨0, .data⟩ (by simp) rfl
          refine step_val KC KD hc hdd rfl (.bool true) u (wanted_plain rfl) ?_ rfl (Below.refl _ _)
          go_simp
        refine stepsL_cons (fun a u hc hdd hd hk hdep => ?_) ?_
        ·
          have d9 : (a.tmps[9]?).getD undef = (.bool false) := hk 9 (by kernel_rfl)
          refine step_val KC KD hc hdd rfl (.bool false) u (wanted_plain rfl) ?_ rfl (Below.refl _ _)
          first | (go_simp; done) | rfl
        refine stepsL_cons (fun a u hc hdd hd hk hdep => ?_) ?_
        ·
          have d63 : (a.tmps[63]?).getD undef = (.bool false) := hdep ⟨2, .data⟩ (by simp) rfl
          refine step_val KC KD hc hdd rfl (.bool true) u (wanted_plain rfl) ?_ rfl (Below.refl _ _)
          go_simp
        refine stepsL_cons (fun a u hc hdd hd hk hdep => ?_) ?_
        ·
          have d62 : (a.tmps[62]?).getD undef = (.bool true) := hdep ⟨1, .data⟩ (by simp) rfl
          have d64 : (a.tmps[64]?).getD undef = (.bool true) := hdep ⟨3, .data⟩ (by simp) rfl
          refine step_val KC KD hc hdd rfl (.bool true) u (wanted_plain rfl) ?_ rfl (Below.refl _ _)
          go_simp
        refine stepsL_cons (fun a u hc hdd hd hk hdep => ?_) ?_
        ·
          have d65 : (a.tmps[65]?).getD undef = (.bool true) := hdep ⟨4, .data⟩ (by simp) rfl
          refine step_val KC KD hc hdd rfl (.bool true) u (wanted_plain rfl) ?_ rfl (Below.refl _ _)
          first | (go_simp; done) | rfl
        refine stepsL_cons (fun a u hc hdd hd hk hdep => ?_) ?_
        ·
          have d8 : (a.tmps[8]?).getD undef = (.int .i64 (1)) := hk 8 (by kernel_rfl)
          refine step_val KC KD hc hdd rfl (.int .i64 (1)) u ((wanted_guard (j := 5) (b := true) (c := true) rfl (hdep ⟨5, .guard⟩ (by simp) rfl)).trans rfl) ?_ rfl (Below.refl _ _)
          first | (go_simp; done) | rfl
        refine stepsL_cons (fun a u hc hdd hd hk hdep => ?_) ?_
        ·
          have d67 : (a.tmps[67]?).getD undef = (.int .i64 (1)) := hdep ⟨6, .data⟩ (by simp) rfl
          refine step_val KC KD hc hdd rfl (.bool false) u ((wanted_guard (j := 5) (b := true) (c := true) rfl (hdep ⟨5, .guard⟩ (by simp) rfl)).trans rfl) ?_ rfl (Below.refl _ _)
          go_simp
        refine stepsL_cons (fun a u hc hdd hd hk hdep => ?_) ?_
        ·
          have d9 : (a.tmps[9]?).getD undef = (.bool false) := hk 9 (by kernel_rfl)
          refine step_val KC KD hc hdd rfl (.bool false) u ((wanted_guard (j := 5) (b := true) (c := true) rfl (hdep ⟨5, .guard⟩ (by simp) rfl)).trans rfl) ?_ rfl (Below.refl _ _)
          first | (go_simp; done) | rfl
        refine stepsL_cons (fun a u hc hdd hd hk hdep => ?_) ?_
        ·
          have d68 : (a.tmps[68]?).getD undef = (.bool false) := hdep ⟨7, .data⟩ (by simp) rfl
          have d69 : (a.tmps[69]?).getD undef = (.bool false) := hdep ⟨8, .data⟩ (by simp) rfl
          refine step_val KC KD hc hdd rfl (.bool true) u ((wanted_guard (j := 5) (b := true) (c := true) rfl (hdep ⟨5, .guard⟩ (by simp) rfl)).trans rfl) ?_ rfl (Below.refl _ _)
          go_simp
        refine stepsL_cons (fun a u hc hdd hd hk hdep => ?_) ?_
        ·
          have d66 : (a.tmps[66]?).getD undef = (.bool true) := hdep ⟨5, .data⟩ (by simp) rfl
          have d70 : (a.tmps[70]?).getD undef = (.bool true) := hdep ⟨9, .data⟩ (by simp) rfl
          refine step_val KC KD hc hdd rfl (.bool true) u (wanted_plain rfl) ?_ rfl (Below.refl _ _)
          first | (go_simp; done) | rfl
        refine stepsL_cons (fun a u hc hdd hd hk hdep => ?_) ?_
        ·
          have d71 : (a.tmps[71]?).getD undef = (.bool true) := hdep ⟨10, .data⟩ (by simp) rfl
          refine step_val KC KD hc hdd rfl (.bool true) u (wanted_plain rfl) ?_ rfl (Below.refl _ _)
          first | (go_simp; done) | rfl
        refine stepsL_cons (fun a u hc hdd hd hk hdep => ?_) ?_
        ·
          have d2 : (a.tmps[2]?).getD undef = (.pointer (some ⟨w.heap.size, 0, none⟩)) := hk 2 (by kernel_rfl)
          refine step_val KC KD hc hdd rfl (.agg #[.int .i64 (k0), .int .u64 ((b0 : Nat) : Int)]) u ((wanted_guard (j := 11) (b := true) (c := true) rfl (hdep ⟨11, .guard⟩ (by simp) rfl)).trans rfl) ?_ rfl (Below.refl _ _)
          obtain ⟨s0, s1, s2, s3, s4, s5, s6, s7, s8, s9, s10⟩ := hc
          go_simp
        refine stepsL_cons (fun a u hc hdd hd hk hdep => ?_) ?_
        ·
          have d3 : (a.tmps[3]?).getD undef = (.pointer (some ⟨w.heap.size + 1, 0, none⟩)) := hk 3 (by kernel_rfl)
          refine step_val KC KD hc hdd rfl (.agg #[.int .i64 (k1), .int .u64 ((b1 : Nat) : Int)]) u ((wanted_guard (j := 11) (b := true) (c := true) rfl (hdep ⟨11, .guard⟩ (by simp) rfl)).trans rfl) ?_ rfl (Below.refl _ _)
          obtain ⟨s0, s1, s2, s3, s4, s5, s6, s7, s8, s9, s10⟩ := hc
          go_simp
        refine stepsL_cons (fun a u hc hdd hd hk hdep => ?_) ?_
        ·
          have d73 : (a.tmps[73]?).getD undef = (.agg #[.int .i64 (k0), .int .u64 ((b0 : Nat) : Int)]) := hdep ⟨12, .data⟩ (by simp) rfl
          have d74 : (a.tmps[74]?).getD undef = (.agg #[.int .i64 (k1), .int .u64 ((b1 : Nat) : Int)]) := hdep ⟨13, .data⟩ (by simp) rfl
          refine step_val KC KD hc hdd rfl (.slice (some ⟨u.heap.size, 0, none⟩) 2 2) (u.alloc (.cells #[.int .i64 (k0), .int .u64 ((b0 : Nat) : Int), .int .i64 (k1), .int .u64 ((b1 : Nat) : Int)] 29)) ((wanted_guard (j := 11) (b := true) (c := true) rfl (hdep ⟨11, .guard⟩ (by simp) rfl)).trans rfl) ?_ ⟨_, 2, rfl, row_two (by first | assumption | decide) (by first | assumption | decide) (by simp) (by simp) (by simp) (by simp)⟩ (below1 _ _)
          go_simp
        refine stepsL_cons (fun a u hc hdd hd hk hdep => ?_) ?_
        ·
          obtain ⟨A75, c75, d75, r75⟩ : rowW [(k0, b0), (k1, b1)] ((a.tmps[75]?).getD undef) u := hdep ⟨14, .data⟩ (by simp) rfl
          refine step_call KC KD hc hdd rfl 17 #[.int .i64 8, .slice A75 2 c75] ((wanted_guard (j := 11) (b := true) (c := true) rfl (hdep ⟨11, .chain⟩ (by simp) rfl)).trans rfl) (by go_simp) ?_
          exact (C8.out _ _ u r75).mono (by rintro e w' ⟨rfl, hb⟩; exact ⟨_, rfl, rfl, hb⟩)
        refine stepsL_cons (fun a u hc hdd hd hk hdep => ?_) ?_
        ·
          have d6 : (a.tmps[6]?).getD undef = (.pointer (some ⟨g6, 0, none⟩)) := hk 6 (by kernel_rfl)
          refine step_val KC KD hc hdd rfl (.agg #[.int .i64 (2), .int .u64 ((0 : Nat) : Int)]) u ((wanted_guard (j := 11) (b := true) (c := true) rfl (hdep ⟨11, .guard⟩ (by simp) rfl)).trans rfl) ?_ rfl (Below.refl _ _)
          obtain ⟨s0, s1, s2, s3, s4, s5, s6, s7, s8, s9, s10⟩ := hc
          go_simp
        refine stepsL_cons (fun a u hc hdd hd hk hdep => ?_) ?_
        ·
          have d77 : (a.tmps[77]?).getD undef = (.agg #[.int .i64 (2), .int .u64 ((0 : Nat) : Int)]) := hdep ⟨16, .data⟩ (by simp) rfl
          refine step_val KC KD hc hdd rfl (.slice (some ⟨u.heap.size, 0, none⟩) 1 1) (u.alloc (.cells #[.int .i64 (2), .int .u64 ((0 : Nat) : Int)] 29)) ((wanted_guard (j := 11) (b := true) (c := true) rfl (hdep ⟨11, .guard⟩ (by simp) rfl)).trans rfl) ?_ ⟨_, 1, rfl, row_one (by first | assumption | decide) (by simp) (by simp)⟩ (below1 _ _)
          go_simp
        refine stepsL_cons (fun a u hc hdd hd hk hdep => ?_) ?_
        ·
          obtain ⟨A78, c78, d78, r78⟩ : rowW [(2, 0)] ((a.tmps[78]?).getD undef) u := hdep ⟨17, .data⟩ (by simp) rfl
          refine step_call KC KD hc hdd rfl 17 #[.int .i64 15, .slice A78 1 c78] ((wanted_guard (j := 11) (b := true) (c := true) rfl (hdep ⟨11, .guard⟩ (by simp) rfl)).trans rfl) (by go_simp) ?_
          exact (D15.out _ _ u r78).mono (by rintro e w' ⟨rfl, hb⟩; exact ⟨_, rfl, rfl, hb⟩)
        refine stepsL_cons (fun a u hc hdd hd hk hdep => ?_) ?_
        ·
          have d76 : (a.tmps[76]?).getD undef = (.agg #[.int .i64 (2), .int .u64 ((1 : Nat) : Int)]) := hdep ⟨15, .data⟩ (by simp) rfl
          have d79 : (a.tmps[79]?).getD undef = (.agg #[.int .i64 (2), .int .u64 ((1 : Nat) : Int)]) := hdep ⟨18, .data⟩ (by simp) rfl
          refine step_val KC KD hc hdd rfl (.bool true) u ((wanted_guard (j := 11) (b := true) (c := true) rfl (hdep ⟨11, .guard⟩ (by simp) rfl)).trans rfl) ?_ rfl (Below.refl _ _)
          go_simp
        refine stepsL_cons (fun a u hc hdd hd hk hdep => ?_) ?_
        ·
          have d72 : (a.tmps[72]?).getD undef = (.bool true) := hdep ⟨11, .data⟩ (by simp) rfl
          have d80 : (a.tmps[80]?).getD undef = (.bool true) := hdep ⟨19, .data⟩ (by simp) rfl
          refine step_val KC KD hc hdd rfl (.bool true) u (wanted_plain rfl) ?_ rfl (Below.refl _ _)
          first | (go_simp; done) | rfl
        refine stepsL_cons (fun a u hc hdd hd hk hdep => ?_) ?_
        ·
          have d81 : (a.tmps[81]?).getD undef = (.bool true) := hdep ⟨20, .data⟩ (by simp) rfl
          refine step_val KC KD hc hdd rfl (.bool true) u (wanted_plain rfl) ?_ rfl (Below.refl _ _)
          first | (go_simp; done) | rfl
        refine stepsL_cons (fun a u hc hdd hd hk hdep => ?_) ?_
        ·
          have d2 : (a.tmps[2]?).getD undef = (.pointer (some ⟨w.heap.size, 0, none⟩)) := hk 2 (by kernel_rfl)
          refine step_val KC KD hc hdd rfl (.agg #[.int .i64 (k0), .int .u64 ((b0 : Nat) : Int)]) u ((wanted_guard (j := 21) (b := true) (c := true) rfl (hdep ⟨21, .guard⟩ (by simp) rfl)).trans rfl) ?_ rfl (Below.refl _ _)
          obtain ⟨s0, s1, s2, s3, s4, s5, s6, s7, s8, s9, s10⟩ := hc
          go_simp
        refine stepsL_cons (fun a u hc hdd hd hk hdep => ?_) ?_
        ·
          have d3 : (a.tmps[3]?).getD undef = (.pointer (some ⟨w.heap.size + 1, 0, none⟩)) := hk 3 (by kernel_rfl)
          refine step_val KC KD hc hdd rfl (.agg #[.int .i64 (k1), .int .u64 ((b1 : Nat) : Int)]) u ((wanted_guard (j := 21) (b := true) (c := true) rfl (hdep ⟨21, .guard⟩ (by simp) rfl)).trans rfl) ?_ rfl (Below.refl _ _)
          obtain ⟨s0, s1, s2, s3, s4, s5, s6, s7, s8, s9, s10⟩ := hc
          go_simp
        refine stepsL_cons (fun a u hc hdd hd hk hdep => ?_) ?_
        ·
          have d83 : (a.tmps[83]?).getD undef = (.agg #[.int .i64 (k0), .int .u64 ((b0 : Nat) : Int)]) := hdep ⟨22, .data⟩ (by simp) rfl
          have d84 : (a.tmps[84]?).getD undef = (.agg #[.int .i64 (k1), .int .u64 ((b1 : Nat) : Int)]) := hdep ⟨23, .data⟩ (by simp) rfl
          refine step_val KC KD hc hdd rfl (.slice (some ⟨u.heap.size, 0, none⟩) 2 2) (u.alloc (.cells #[.int .i64 (k0), .int .u64 ((b0 : Nat) : Int), .int .i64 (k1), .int .u64 ((b1 : Nat) : Int)] 29)) ((wanted_guard (j := 21) (b := true) (c := true) rfl (hdep ⟨21, .guard⟩ (by simp) rfl)).trans rfl) ?_ ⟨_, 2, rfl, row_two (by first | assumption | decide) (by first | assumption | decide) (by simp) (by simp) (by simp) (by simp)⟩ (below1 _ _)
          go_simp
        refine stepsL_cons (fun a u hc hdd hd hk hdep => ?_) ?_
        ·
          obtain ⟨A85, c85, d85, r85⟩ : rowW [(k0, b0), (k1, b1)] ((a.tmps[85]?).getD undef) u := hdep ⟨24, .data⟩ (by simp) rfl
          refine step_call KC KD hc hdd rfl 17 #[.int .i64 10, .slice A85 2 c85] ((wanted_guard (j := 21) (b := true) (c := true) rfl (hdep ⟨21, .chain⟩ (by simp) rfl)).trans rfl) (by go_simp) ?_
          exact (C10.out _ _ u r85).mono (by rintro e w' ⟨rfl, hb⟩; exact ⟨_, rfl, rfl, hb⟩)
        refine stepsL_cons (fun a u hc hdd hd hk hdep => ?_) ?_
        ·
          have d5 : (a.tmps[5]?).getD undef = (.pointer (some ⟨g5, 0, none⟩)) := hk 5 (by kernel_rfl)
          refine step_val KC KD hc hdd rfl (.agg #[.int .i64 (2), .int .u64 ((0 : Nat) : Int)]) u ((wanted_guard (j := 21) (b := true) (c := true) rfl (hdep ⟨21, .guard⟩ (by simp) rfl)).trans rfl) ?_ rfl (Below.refl _ _)
          obtain ⟨s0, s1, s2, s3, s4, s5, s6, s7, s8, s9, s10⟩ := hc
          go_simp
        refine stepsL_cons (fun a u hc hdd hd hk hdep => ?_) ?_
        ·
          have d6 : (a.tmps[6]?).getD undef = (.pointer (some ⟨g6, 0, none⟩)) := hk 6 (by kernel_rfl)
          refine step_val KC KD hc hdd rfl (.agg #[.int .i64 (2), .int .u64 ((0 : Nat) : Int)]) u ((wanted_guard (j := 21) (b := true) (c := true) rfl (hdep ⟨21, .guard⟩ (by simp) rfl)).trans rfl) ?_ rfl (Below.refl _ _)
          obtain ⟨s0, s1, s2, s3, s4, s5, s6, s7, s8, s9, s10⟩ := hc
          go_simp
        refine stepsL_cons (fun a u hc hdd hd hk hdep => ?_) ?_
        ·
          have d87 : (a.tmps[87]?).getD undef = (.agg #[.int .i64 (2), .int .u64 ((0 : Nat) : Int)]) := hdep ⟨26, .data⟩ (by simp) rfl
          have d88 : (a.tmps[88]?).getD undef = (.agg #[.int .i64 (2), .int .u64 ((0 : Nat) : Int)]) := hdep ⟨27, .data⟩ (by simp) rfl
          refine step_val KC KD hc hdd rfl (.slice (some ⟨u.heap.size, 0, none⟩) 2 2) (u.alloc (.cells #[.int .i64 (2), .int .u64 ((0 : Nat) : Int), .int .i64 (2), .int .u64 ((0 : Nat) : Int)] 29)) ((wanted_guard (j := 21) (b := true) (c := true) rfl (hdep ⟨21, .guard⟩ (by simp) rfl)).trans rfl) ?_ ⟨_, 2, rfl, row_two (by first | assumption | decide) (by first | assumption | decide) (by simp) (by simp) (by simp) (by simp)⟩ (below1 _ _)
          go_simp
        refine stepsL_cons (fun a u hc hdd hd hk hdep => ?_) ?_
        ·
          obtain ⟨A89, c89, d89, r89⟩ : rowW [(2, 0), (2, 0)] ((a.tmps[89]?).getD undef) u := hdep ⟨28, .data⟩ (by simp) rfl
          refine step_call KC KD hc hdd rfl 17 #[.int .i64 14, .slice A89 2 c89] ((wanted_guard (j := 21) (b := true) (c := true) rfl (hdep ⟨21, .guard⟩ (by simp) rfl)).trans rfl) (by go_simp) ?_
          exact (D14a.out _ _ u r89).mono (by rintro e w' ⟨rfl, hb⟩; exact ⟨_, rfl, rfl, hb⟩)
        refine stepsL_cons (fun a u hc hdd hd hk hdep => ?_) ?_
        ·
          have d86 : (a.tmps[86]?).getD undef = (.agg #[.int .i64 (2), .int .u64 ((0 : Nat) : Int)]) := hdep ⟨25, .data⟩ (by simp) rfl
          have d90 : (a.tmps[90]?).getD undef = (.agg #[.int .i64 (2), .int .u64 ((0 : Nat) : Int)]) := hdep ⟨29, .data⟩ (by simp) rfl
          refine step_val KC KD hc hdd rfl (.bool true) u ((wanted_guard (j := 21) (b := true) (c := true) rfl (hdep ⟨21, .guard⟩ (by simp) rfl)).trans rfl) ?_ rfl (Below.refl _ _)
          go_simp
        refine stepsL_cons (fun a u hc hdd hd hk hdep => ?_) ?_
        ·
          have d82 : (a.tmps[82]?).getD undef = (.bool true) := hdep ⟨21, .data⟩ (by simp) rfl
          have d91 : (a.tmps[91]?).getD undef = (.bool true) := hdep ⟨30, .data⟩ (by simp) rfl
          refine step_val KC KD hc hdd rfl (.bool true) u (wanted_plain rfl) ?_ rfl (Below.refl _ _)
          first | (go_simp; done) | rfl
        refine stepsL_cons (fun a u hc hdd hd hk hdep => ?_) ?_
        ·
          have d92 : (a.tmps[92]?).getD undef = (.bool true) := hdep ⟨31, .data⟩ (by simp) rfl
          refine step_val KC KD hc hdd rfl (.bool true) u (wanted_plain rfl) ?_ rfl (Below.refl _ _)
          first | (go_simp; done) | rfl
        refine stepsL_cons (fun a u hc hdd hd hk hdep => ?_) ?_
        ·
          have d2 : (a.tmps[2]?).getD undef = (.pointer (some ⟨w.heap.size, 0, none⟩)) := hk 2 (by kernel_rfl)
          refine step_val KC KD hc hdd rfl (.agg #[.int .i64 (k0), .int .u64 ((b0 : Nat) : Int)]) u ((wanted_guard (j := 32) (b := true) (c := true) rfl (hdep ⟨32, .guard⟩ (by simp) rfl)).trans rfl) ?_ rfl (Below.refl _ _)
          obtain ⟨s0, s1, s2, s3, s4, s5, s6, s7, s8, s9, s10⟩ := hc
          go_simp
        refine stepsL_cons (fun a u hc hdd hd hk hdep => ?_) ?_
        ·
          have d3 : (a.tmps[3]?).getD undef = (.pointer (some ⟨w.heap.size + 1, 0, none⟩)) := hk 3 (by kernel_rfl)
          refine step_val KC KD hc hdd rfl (.agg #[.int .i64 (k1), .int .u64 ((b1 : Nat) : Int)]) u ((wanted_guard (j := 32) (b := true) (c := true) rfl (hdep ⟨32, .guard⟩ (by simp) rfl)).trans rfl) ?_ rfl (Below.refl _ _)
          obtain ⟨s0, s1, s2, s3, s4, s5, s6, s7, s8, s9, s10⟩ := hc
          go_simp
        refine stepsL_cons (fun a u hc hdd hd hk hdep => ?_) ?_
        ·
          have d94 : (a.tmps[94]?).getD undef = (.agg #[.int .i64 (k0), .int .u64 ((b0 : Nat) : Int)]) := hdep ⟨33, .data⟩ (by simp) rfl
          have d95 : (a.tmps[95]?).getD undef = (.agg #[.int .i64 (k1), .int .u64 ((b1 : Nat) : Int)]) := hdep ⟨34, .data⟩ (by simp) rfl
          refine step_val KC KD hc hdd rfl (.slice (some ⟨u.heap.size, 0, none⟩) 2 2) (u.alloc (.cells #[.int .i64 (k0), .int .u64 ((b0 : Nat) : Int), .int .i64 (k1), .int .u64 ((b1 : Nat) : Int)] 29)) ((wanted_guard (j := 32) (b := true) (c := true) rfl (hdep ⟨32, .guard⟩ (by simp) rfl)).trans rfl) ?_ ⟨_, 2, rfl, row_two (by first | assumption | decide) (by first | assumption | decide) (by simp) (by simp) (by simp) (by simp)⟩ (below1 _ _)
          go_simp
        refine stepsL_cons (fun a u hc hdd hd hk hdep => ?_) ?_
        ·
          obtain ⟨A96, c96, d96, r96⟩ : rowW [(k0, b0), (k1, b1)] ((a.tmps[96]?).getD undef) u := hdep ⟨35, .data⟩ (by simp) rfl
          refine step_call KC KD hc hdd rfl 17 #[.int .i64 12, .slice A96 2 c96] ((wanted_guard (j := 32) (b := true) (c := true) rfl (hdep ⟨32, .chain⟩ (by simp) rfl)).trans rfl) (by go_simp) ?_
          exact (C12.out _ _ u r96).mono (by rintro e w' ⟨rfl, hb⟩; exact ⟨_, rfl, rfl, hb⟩)
        refine stepsL_cons (fun a u hc hdd hd hk hdep => ?_) ?_
        ·
          have d7 : (a.tmps[7]?).getD undef = (.pointer (some ⟨g7, 0, none⟩)) := hk 7 (by kernel_rfl)
          refine step_val KC KD hc hdd rfl (.agg #[.int .i64 (2), .int .u64 ((1 : Nat) : Int)]) u ((wanted_guard (j := 32) (b := true) (c := true) rfl (hdep ⟨32, .guard⟩ (by simp) rfl)).trans rfl) ?_ rfl (Below.refl _ _)
          obtain ⟨s0, s1, s2, s3, s4, s5, s6, s7, s8, s9, s10⟩ := hc
          go_simp
        refine stepsL_cons (fun a u hc hdd hd hk hdep => ?_) ?_
        ·
          have d6 : (a.tmps[6]?).getD undef = (.pointer (some ⟨g6, 0, none⟩)) := hk 6 (by kernel_rfl)
          refine step_val KC KD hc hdd rfl (.agg #[.int .i64 (2), .int .u64 ((0 : Nat) : Int)]) u ((wanted_guard (j := 32) (b := true) (c := true) rfl (hdep ⟨32, .guard⟩ (by simp) rfl)).trans rfl) ?_ rfl (Below.refl _ _)
          obtain ⟨s0, s1, s2, s3, s4, s5, s6, s7, s8, s9, s10⟩ := hc
          go_simp
        refine stepsL_cons (fun a u hc hdd hd hk hdep => ?_) ?_
        ·
          have d98 : (a.tmps[98]?).getD undef = (.agg #[.int .i64 (2), .int .u64 ((1 : Nat) : Int)]) := hdep ⟨37, .data⟩ (by simp) rfl
          have d99 : (a.tmps[99]?).getD undef = (.agg #[.int .i64 (2), .int .u64 ((0 : Nat) : Int)]) := hdep ⟨38, .data⟩ (by simp) rfl
          refine step_val KC KD hc hdd rfl (.slice (some ⟨u.heap.size, 0, none⟩) 2 2) (u.alloc (.cells #[.int .i64 (2), .int .u64 ((1 : Nat) : Int), .int .i64 (2), .int .u64 ((0 : Nat) : Int)] 29)) ((wanted_guard (j := 32) (b := true) (c := true) rfl (hdep ⟨32, .guard⟩ (by simp) rfl)).trans rfl) ?_ ⟨_, 2, rfl, row_two (by first | assumption | decide) (by first | assumption | decide) (by simp) (by simp) (by simp) (by simp)⟩ (below1 _ _)
          go_simp
        refine stepsL_cons (fun a u hc hdd hd hk hdep => ?_) ?_
        ·
          obtain ⟨A100, c100, d100, r100⟩ : rowW [(2, 1), (2, 0)] ((a.tmps[100]?).getD undef) u := hdep ⟨39, .data⟩ (by simp) rfl
          refine step_call KC KD hc hdd rfl 17 #[.int .i64 14, .slice A100 2 c100] ((wanted_guard (j := 32) (b := true) (c := true) rfl (hdep ⟨32, .guard⟩ (by simp) rfl)).trans rfl) (by go_simp) ?_
          exact (D14b.out _ _ u r100).mono (by rintro e w' ⟨rfl, hb⟩; exact ⟨_, rfl, rfl, hb⟩)
        refine stepsL_cons (fun a u hc hdd hd hk hdep => ?_) ?_
        ·
          have d97 : (a.tmps[97]?).getD undef = (.agg #[.int .i64 (2), .int .u64 ((1 : Nat) : Int)]) := hdep ⟨36, .data⟩ (by simp) rfl
          have d101 : (a.tmps[101]?).getD undef = (.agg #[.int .i64 (2), .int .u64 ((1 : Nat) : Int)]) := hdep ⟨40, .data⟩ (by simp) rfl
          refine step_val KC KD hc hdd rfl (.bool true) u ((wanted_guard (j := 32) (b := true) (c := true) rfl (hdep ⟨32, .guard⟩ (by simp) rfl)).trans rfl) ?_ rfl (Below.refl _ _)
          go_simp
        refine stepsL_cons (fun a u hc hdd hd hk hdep => ?_) ?_
        ·
          have d93 : (a.tmps[93]?).getD undef = (.bool true) := hdep ⟨32, .data⟩ (by simp) rfl
          have d102 : (a.tmps[102]?).getD undef = (.bool true) := hdep ⟨41, .data⟩ (by simp) rfl
          refine step_val KC KD hc hdd rfl (.bool true) u (wanted_plain rfl) ?_ rfl (Below.refl _ _)
          first | (go_simp; done) | rfl
        refine stepsL_cons (fun a u hc hdd hd hk hdep => ?_) ?_
        ·
          have d103 : (a.tmps[103]?).getD undef = (.bool true) := hdep ⟨42, .data⟩ (by simp) rfl
          refine step_val KC KD hc hdd rfl (.bool true) u (wanted_plain rfl) ?_ rfl (Below.refl _ _)
          first | (go_simp; done) | rfl
        exact stepsL_nil
      intro vs8 wE hE hh
      obtain ⟨e0, e1, e2, e3, e4, e5, e6, e7, e8, e9, e10, e11, e12, e13, e14, e15, e16, e17, e18, e19, e20, e21, e22, e23, e24, e25, e26, e27, e28, e29, e30, e31, e32, e33, e34, e35, e36, e37, e38, e39, e40, e41, e42, e43, -⟩ := hh
      have eL : vs8 43 = (.bool true) := e43
      clear e0 e1 e2 e3 e4 e5 e6 e7 e8 e9 e10 e11 e12 e13 e14 e15 e16 e17 e18 e19 e20 e21 e22 e23 e24 e25 e26 e27 e28 e29 e30 e31 e32 e33 e34 e35 e36 e37 e38 e39 e40 e41 e42 e43
      set_option maxRecDepth 100000 in simp only [putAll, Act.put, List.setIfInBounds_toArray, List.set_cons_zero, List.set_cons_succ, eL]
      obtain ⟨ra, rb, rc, rd, s5a, s5b, s6a, s6b, s7a, s7b, hB9⟩ := hE
      go_wp2
      go_ret
      exact ⟨rfl, hB9⟩
    · skip
      simp only [b2n, Bool.not_true, Bool.not_false, Bool.or_true, Bool.true_or, Bool.or_false, Bool.false_or, Bool.or_self, if_true, Bool.false_eq_true, if_false] at s5a s5b s6a s6b s7a s7b C8 C10 C12 Na Nb ⊢
      have hcc : u4.cell? ⟨w.heap.size, 0, none⟩ = some (.int .i64 k0) ∧ u4.cell? ⟨w.heap.size, 1, none⟩ = some (.int .u64 (b0 : Int)) ∧ u4.cell? ⟨w.heap.size + 1, 0, none⟩ = some (.int .i64 k1) ∧ u4.cell? ⟨w.heap.size + 1, 1, none⟩ = some (.int .u64 (b1 : Int)) ∧ u4.cell? ⟨g5, 0, none⟩ = some (.int .i64 2) ∧ u4.cell? ⟨g5, 1, none⟩ = some (.int .u64 ((0 : Nat) : Int)) ∧ u4.cell? ⟨g6, 0, none⟩ = some (.int .i64 2) ∧ u4.cell? ⟨g6, 1, none⟩ = some (.int .u64 ((0 : Nat) : Int)) ∧ u4.cell? ⟨g7, 0, none⟩ = some (.int .i64 2) ∧ u4.cell? ⟨g7, 1, none⟩ = some (.int .u64 ((0 : Nat) : Int)) ∧ Below w.heap.size w u4 := ⟨ra, rb, rc, rd, s5a, s5b, s6a, s6b, s7a, s7b, h4⟩
      have tb : tB true = 1 := rfl
      have D15 := Lib.hid (fun A cap w hv => do_any 15 A 1 cap [(2, 0)] w hv (by decide))
      rw [show appP 15 [(2, 0)] = (2, 1) by first | rfl | decide] at D15
      simp only at D15
      have D14a := Lib.hid (fun A cap w hv => do_any 14 A 2 cap [(2, 0), (2, 0)] w hv (by decide))
      rw [show appP 14 [(2, 0), (2, 0)] = (2, 0) by first | rfl | decide] at D14a
      simp only at D14a
      have D14b := Lib.hid (fun A cap w hv => do_any 14 A 2 cap [(2, 0), (2, 0)] w hv (by decide))
      rw [show appP 14 [(2, 0), (2, 0)] = (2, 0) by first | rfl | decide] at D14b
      simp only at D14b
      go_wp2_with fail
      refine (Na.out _ _ _ (row_one w0 (by simp) (by simp))).mono ?_; rintro e u5 ⟨rfl, hb1⟩
      have hcc := keepC11 hb1 (keepC11 (below1 _ _) hcc); have hcc' := hcc; obtain ⟨ra, rb, rc, rd, s5a, s5b, s6a, s6b, s7a, s7b, hB8⟩ := hcc'
      go_wp2_with fail
      refine (truth_any _ _).mono ?_; rintro e u6 ⟨rfl, hb1⟩
      have hcc := keepC11 hb1 hcc; have hcc' := hcc; obtain ⟨ra, rb, rc, rd, s5a, s5b, s6a, s6b, s7a, s7b, hB8⟩ := hcc'
      go_wp2_with fail
      have KD := keepsD_true []
      refine region_words (fun w' => w'.cell? ⟨w.heap.size, 0, none⟩ = some (.int .i64 k0) ∧ w'.cell? ⟨w.heap.size, 1, none⟩ = some (.int .u64 (b0 : Int)) ∧ w'.cell? ⟨w.heap.size + 1, 0, none⟩ = some (.int .i64 k1) ∧ w'.cell? ⟨w.heap.size + 1, 1, none⟩ = some (.int .u64 (b1 : Int)) ∧ w'.cell? ⟨g5, 0, none⟩ = some (.int .i64 2) ∧ w'.cell? ⟨g5, 1, none⟩ = some (.int .u64 ((0 : Nat) : Int)) ∧ w'.cell? ⟨g6, 0, none⟩ = some (.int .i64 2) ∧ w'.cell? ⟨g6, 1, none⟩ = some (.int .u64 ((0 : Nat) : Int)) ∧ w'.cell? ⟨g7, 0, none⟩ = some (.int .i64 2) ∧ w'.cell? ⟨g7, 1, none⟩ = some (.int .u64 ((0 : Nat) : Int)) ∧ Below w.heap.size w w') [isW (.int .i64 (0)), isW (.bool false), isW (.bool true), isW (.bool false), isW (.bool true), isW (.bool true), isW (.int .i64 (0)), isW (.bool true), isW (.bool true), isW (.bool true), isW (.bool true), isW (.bool true), isW (.agg #[.int .i64 (k0), .int .u64 ((b0 : Nat) : Int)]), isW (.agg #[.int .i64 (k1), .int .u64 ((b1 : Nat) : Int)]), rowW [(k0, b0), (k1, b1)], isW (.agg #[.int .i64 (2), .int .u64 ((1 : Nat) : Int)]), isW (.agg #[.int .i64 (2), .int .u64 ((0 : Nat) : Int)]), rowW [(2, 0)], isW (.agg #[.int .i64 (2), .int .u64 ((1 : Nat) : Int)]), isW (.bool true), isW (.bool true), isW (.bool true), isW (.agg #[.int .i64 (k0), .int .u64 ((b0 : Nat) : Int)]), isW (.agg #[.int .i64 (k1), .int .u64 ((b1 : Nat) : Int)]), rowW [(k0, b0), (k1, b1)], isW (.agg #[.int .i64 (2), .int .u64 ((0 : Nat) : Int)]), isW (.agg #[.int .i64 (2), .int .u64 ((0 : Nat) : Int)]), isW (.agg #[.int .i64 (2), .int .u64 ((0 : Nat) : Int)]), rowW [(2, 0), (2, 0)], isW (.agg #[.int .i64 (2), .int .u64 ((0 : Nat) : Int)]), isW (.bool true), isW (.bool true), isW (.bool true), isW (.agg #[.int .i64 (k0), .int .u64 ((b0 : Nat) : Int)]), isW (.agg #[.int .i64 (k1), .int .u64 ((b1 : Nat) : Int)]), rowW [(k0, b0), (k1, b1)], isW (.agg #[.int .i64 (2), .int .u64 ((0 : Nat) : Int)]), isW (.agg #[.int .i64 (2), .int .u64 ((0 : Nat) : Int)]), isW (.agg #[.int .i64 (2), .int .u64 ((0 : Nat) : Int)]), rowW [(2, 0), (2, 0)], isW (.agg #[.int .i64 (2), .int .u64 ((0 : Nat) : Int)]), isW (.bool true), isW (.bool true), isW (.bool true)] (by kernel_rfl) (by repeat' (first | exact monoL_nil | exact is_mono _ | exact row_mono _ | exact any_mono | refine monoL_cons ?_ ?_)) (by kernel_rfl) (by kernel_rfl) (fun _ _ h hb => keepC11 hb h) ⟨ra, rb, rc, rd, s5a, s5b, s6a, s6b, s7a, s7b, hB8.drew⟩ ?_ ?_
      · intro KC
        refine stepsL_cons (fun a u hc hdd hd hk hdep => ?_) ?_
        ·
          have d8 : (a.tmps[8]?).getD undef = (.int .i64 (0)) := hk 8 (by kernel_rfl)
          refine step_val KC KD hc hdd rfl (.int .i64 (0)) u (wanted_plain rfl) ?_ rfl (Below.refl _ _)
          first | (go_simp; done) | rfl
        refine stepsL_cons (fun a u hc hdd hd hk hdep => ?_) ?_
        ·
          have d61 : (a.tmps[61]?).getD undef = (.int .i64 (0)) := hdep ⟨0, .data⟩ (by simp) rfl
          refine step_val KC KD hc hdd rfl (.bool false) u (wanted_plain rfl) ?_ rfl (Below.refl _ _)
          go_simp
        refine stepsL_cons (fun a u hc hdd hd hk hdep => ?_) ?_
        ·
          have d9 : (a.tmps[9]?).getD undef = (.bool true) := hk 9 (by kernel_rfl)
          refine step_val KC KD hc hdd rfl (.bool true) u (wanted_plain rfl) ?_ rfl (Below.refl _ _)
          first | (go_simp; done) | rfl
        refine stepsL_cons (fun a u hc hdd hd hk hdep => ?_) ?_
        ·
          have d63 : (a.tmps[63]?).getD undef = (.bool true) := hdep ⟨2, .data⟩ (by simp) rfl
          refine step_val KC KD hc hdd rfl (.bool false) u (wanted_plain rfl) ?_ rfl (Below.refl _ _)
          go_simp
        refine stepsL_cons (fun a u hc hdd hd hk hdep => ?_) ?_
        ·
          have d62 : (a.tmps[62]?).getD undef = (.bool false) := hdep ⟨1, .data⟩ (by simp) rfl
          have d64 : (a.tmps[64]?).getD undef = (.bool false) := hdep ⟨3, .data⟩ (by simp) rfl
          refine step_val KC KD hc hdd rfl (.bool true) u (wanted_plain rfl) ?_ rfl (Below.refl _ _)
          go_simp
        refine stepsL_cons (fun a u hc hdd hd hk hdep => ?_) ?_
        ·
          have d65 : (a.tmps[65]?).getD undef = (.bool true) := hdep ⟨4, .data⟩ (by simp) rfl
          refine step_val KC KD hc hdd rfl (.bool true) u (wanted_plain rfl) ?_ rfl (Below.refl _ _)
          first | (go_simp; done) | rfl
        refine stepsL_cons (fun a u hc hdd hd hk hdep => ?_) ?_
        ·
          have d8 : (a.tmps[8]?).getD undef = (.int .i64 (0)) := hk 8 (by kernel_rfl)
          refine step_val KC KD hc hdd rfl (.int .i64 (0)) u ((wanted_guard (j := 5) (b := true) (c := true) rfl (hdep ⟨5, .guard⟩ (by simp) rfl)).trans rfl) ?_ rfl (Below.refl _ _)
          first | (go_simp; done) | rfl
        refine stepsL_cons (fun a u hc hdd hd hk hdep => ?_) ?_
        ·
          have d67 : (a.tmps[67]?).getD undef = (.int .i64 (0)) := hdep ⟨6, .data⟩ (by simp) rfl
          refine step_val KC KD hc hdd rfl (.bool true) u ((wanted_guard (j := 5) (b := true) (c := true) rfl (hdep ⟨5, .guard⟩ (by simp) rfl)).trans rfl) ?_ rfl (Below.refl _ _)
          go_simp
        refine stepsL_cons (fun a u hc hdd hd hk hdep => ?_) ?_
        ·
          have d9 : (a.tmps[9]?).getD undef = (.bool true) := hk 9 (by kernel_rfl)
          refine step_val KC KD hc hdd rfl (.bool true) u ((wanted_guard (j := 5) (b := true) (c := true) rfl (hdep ⟨5, .guard⟩ (by simp) rfl)).trans rfl) ?_ rfl (Below.refl _ _)
          first | (go_simp; done) | rfl
        refine stepsL_cons (fun a u hc hdd hd hk hdep => ?_) ?_
        ·
          have d68 : (a.tmps[68]?).getD undef = (.bool true) := hdep ⟨7, .data⟩ (by simp) rfl
          have d69 : (a.tmps[69]?).getD undef = (.bool true) := hdep ⟨8, .data⟩ (by simp) rfl
          refine step_val KC KD hc hdd rfl (.bool true) u ((wanted_guard (j := 5) (b := true) (c := true) rfl (hdep ⟨5, .guard⟩ (by simp) rfl)).trans rfl) ?_ rfl (Below.refl _ _)
          go_simp
        refine stepsL_cons (fun a u hc hdd hd hk hdep => ?_) ?_
        ·
          have d66 : (a.tmps[66]?).getD undef = (.bool true) := hdep ⟨5, .data⟩ (by simp) rfl
          have d70 : (a.tmps[70]?).getD undef = (.bool true) := hdep ⟨9, .data⟩ (by simp) rfl
          refine step_val KC KD hc hdd rfl (.bool true) u (wanted_plain rfl) ?_ rfl (Below.refl _ _)
          first | (go_simp; done) | rfl
        refine stepsL_cons (fun a u hc hdd hd hk hdep => ?_) ?_
        ·
          have d71 : (a.tmps[71]?).getD undef = (.bool true) := hdep ⟨10, .data⟩ (by simp) rfl
          refine step_val KC KD hc hdd rfl (.bool true) u (wanted_plain rfl) ?_ rfl (Below.refl _ _)
          first | (go_simp; done) | rfl
        refine stepsL_cons (fun a u hc hdd hd hk hdep => ?_) ?_
        ·
          have d2 : (a.tmps[2]?).getD undef = (.pointer (some ⟨w.heap.size, 0, none⟩)) := hk 2 (by kernel_rfl)
          refine step_val KC KD hc hdd rfl (.agg #[.int .i64 (k0), .int .u64 ((b0 : Nat) : Int)]) u ((wanted_guard (j := 11) (b := true) (c := true) rfl (hdep ⟨11, .guard⟩ (by simp) rfl)).trans rfl) ?_ rfl (Below.refl _ _)
          obtain ⟨s0, s1, s2, s3, s4, s5, s6, s7, s8, s9, s10⟩ := hc
          go_simp
        refine stepsL_cons (fun a u hc hdd hd hk hdep => ?_) ?_
        ·
          have d3 : (a.tmps[3]?).getD undef = (.pointer (some ⟨w.heap.size + 1, 0, none⟩)) := hk 3 (by kernel_rfl)
          refine step_val KC KD hc hdd rfl (.agg #[.int .i64 (k1), .int .u64 ((b1 : Nat) : Int)]) u ((wanted_guard (j := 11) (b := true) (c := true) rfl (hdep ⟨11, .guard⟩ (by simp) rfl)).trans rfl) ?_ rfl (Below.refl _ _)
          obtain ⟨s0, s1, s2, s3, s4, s5, s6, s7, s8, s9, s10⟩ := hc
          go_simp
        refine stepsL_cons (fun a u hc hdd hd hk hdep => ?_) ?_
        ·
          have d73 : (a.tmps[73]?).getD undef = (.agg #[.int .i64 (k0), .int .u64 ((b0 : Nat) : Int)]) := hdep ⟨12, .data⟩ (by simp) rfl
          have d74 : (a.tmps[74]?).getD undef = (.agg #[.int .i64 (k1), .int .u64 ((b1 : Nat) : Int)]) := hdep ⟨13, .data⟩ (by simp) rfl
          refine step_val KC KD hc hdd rfl (.slice (some ⟨u.heap.size, 0, none⟩) 2 2) (u.alloc (.cells #[.int .i64 (k0), .int .u64 ((b0 : Nat) : Int), .int .i64 (k1), .int .u64 ((b1 : Nat) : Int)] 29)) ((wanted_guard (j := 11) (b := true) (c := true) rfl (hdep ⟨11, .guard⟩ (by simp) rfl)).trans rfl) ?_ ⟨_, 2, rfl, row_two (by first | assumption | decide) (by first | assumption | decide) (by simp) (by simp) (by simp) (by simp)⟩ (below1 _ _)
          go_simp
        refine stepsL_cons (fun a u hc hdd hd hk hdep => ?_) ?_
        ·
          obtain ⟨A75, c75, d75, r75⟩ : rowW [(k0, b0), (k1, b1)] ((a.tmps[75]?).getD undef) u := hdep ⟨14, .data⟩ (by simp) rfl
          refine step_call KC KD hc hdd rfl 17 #[.int .i64 8, .slice A75 2 c75] ((wanted_guard (j := 11) (b := true) (c := true) rfl (hdep ⟨11, .chain⟩ (by simp) rfl)).trans rfl) (by go_simp) ?_
          exact (C8.out _ _ u r75).mono (by rintro e w' ⟨rfl, hb⟩; exact ⟨_, rfl, rfl, hb⟩)
        refine stepsL_cons (fun a u hc hdd hd hk hdep => ?_) ?_
        ·
          have d6 : (a.tmps[6]?).getD undef = (.pointer (some ⟨g6, 0, none⟩)) := hk 6 (by kernel_rfl)
          refine step_val KC KD hc hdd rfl (.agg #[.int .i64 (2), .int .u64 ((0 : Nat) : Int)]) u ((wanted_guard (j := 11) (b := true) (c := true) rfl (hdep ⟨11, .guard⟩ (by simp) rfl)).trans rfl) ?_ rfl (Below.refl _ _)
          obtain ⟨s0, s1, s2, s3, s4, s5, s6, s7, s8, s9, s10⟩ := hc
          go_simp
        refine stepsL_cons (fun a u hc hdd hd hk hdep => ?_) ?_
        ·
          have d77 : (a.tmps[77]?).getD undef = (.agg #[.int .i64 (2), .int .u64 ((0 : Nat) : Int)]) := hdep ⟨16, .data⟩ (by simp) rfl
          refine step_val KC KD hc hdd rfl (.slice (some ⟨u.heap.size, 0, none⟩) 1 1) (u.alloc (.cells #[.int .i64 (2), .int .u64 ((0 : Nat) : Int)] 29)) ((wanted_guard (j := 11) (b := true) (c := true) rfl (hdep ⟨11, .guard⟩ (by simp) rfl)).trans rfl) ?_ ⟨_, 1, rfl, row_one (by first | assumption | decide) (by simp) (by simp)⟩ (below1 _ _)
          go_simp
        refine stepsL_cons (fun a u hc hdd hd hk hdep => ?_) ?_
        ·
          obtain ⟨A78, c78, d78, r78⟩ : rowW [(2, 0)] ((a.tmps[78]?).getD undef) u := hdep ⟨17, .data⟩ (by simp) rfl
          refine step_call KC KD hc hdd rfl 17 #[.int .i64 15, .slice A78 1 c78] ((wanted_guard (j := 11) (b := true) (c := true) rfl (hdep ⟨11, .guard⟩ (by simp) rfl)).trans rfl) (by go_simp) ?_
          exact (D15.out _ _ u r78).mono (by rintro e w' ⟨rfl, hb⟩; exact ⟨_, rfl, rfl, hb⟩)
        refine stepsL_cons (fun a u hc hdd hd hk hdep => ?_) ?_
        ·
          have d76 : (a.tmps[76]?).getD undef = (.agg #[.int .i64 (2), .int .u64 ((1 : Nat) : Int)]) := hdep ⟨15, .data⟩ (by simp) rfl
          have d79 : (a.tmps[79]?).getD undef = (.agg #[.int .i64 (2), .int .u64 ((1 : Nat) : Int)]) := hdep ⟨18, .data⟩ (by simp) rfl
          refine step_val KC KD hc hdd rfl (.bool true) u ((wanted_guard (j := 11) (b := true) (c := true) rfl (hdep ⟨11, .guard⟩ (by simp) rfl)).trans rfl) ?_ rfl (Below.refl _ _)
          go_simp
        refine stepsL_cons (fun a u hc hdd hd hk hdep => ?_) ?_
        ·
          have d72 : (a.tmps[72]?).getD undef = (.bool true) := hdep ⟨11, .data⟩ (by simp) rfl
          have d80 : (a.tmps[80]?).getD undef = (.bool true) := hdep ⟨19, .data⟩ (by simp) rfl
          refine step_val KC KD hc hdd rfl (.bool true) u (wanted_plain rfl) ?_ rfl (Below.refl _ _)
          first | (go_simp; done) | rfl
        refine stepsL_cons (fun a u hc hdd hd hk hdep => ?_) ?_
        ·
          have d81 : (a.tmps[81]?).getD undef = (.bool true) := hdep ⟨20, .data⟩ (by simp) rfl
          refine step_val KC KD hc hdd rfl (.bool true) u (wanted_plain rfl) ?_ rfl (Below.refl _ _)
          first | (go_simp; done) | rfl
        refine stepsL_cons (fun a u hc hdd hd hk hdep => ?_) ?_
        ·
          have d2 : (a.tmps[2]?).getD undef = (.pointer (some ⟨w.heap.size, 0, none⟩)) := hk 2 (by kernel_rfl)
          refine step_val KC KD hc hdd rfl (.agg #[.int .i64 (k0), .int .u64 ((b0 : Nat) : Int)]) u ((wanted_guard (j := 21) (b := true) (c := true) rfl (hdep ⟨21, .guard⟩ (by simp) rfl)).trans rfl) ?_ rfl (Below.refl _ _)
          obtain ⟨s0, s1, s2, s3, s4, s5, s6, s7, s8, s9, s10⟩ := hc
          go_simp
        refine stepsL_cons (fun a u hc hdd hd hk hdep => ?_) ?_
        ·
          have d3 : (a.tmps[3]?).getD undef = (.pointer (some ⟨w.heap.size + 1, 0, none⟩)) := hk 3 (by kernel_rfl)
          refine step_val KC KD hc hdd rfl (.agg #[.int .i64 (k1), .int .u64 ((b1 : Nat) : Int)]) u ((wanted_guard (j := 21) (b := true) (c := true) rfl (hdep ⟨21, .guard⟩ (by simp) rfl)).trans rfl) ?_ rfl (Below.refl _ _)
          obtain ⟨s0, s1, s2, s3, s4, s5, s6, s7, s8, s9, s10⟩ := hc
          go_simp
        refine stepsL_cons (fun a u hc hdd hd hk hdep => ?_) ?_
        ·
          have d83 : (a.tmps[83]?).getD undef = (.agg #[.int .i64 (k0), .int .u64 ((b0 : Nat) : Int)]) := hdep ⟨22, .data⟩ (by simp) rfl
          have d84 : (a.tmps[84]?).getD undef = (.agg #[.int .i64 (k1), .int .u64 ((b1 : Nat) : Int)]) := hdep ⟨23, .data⟩ (by simp) rfl
          refine step_val KC KD hc hdd rfl (.slice (some ⟨u.heap.size, 0, none⟩) 2 2) (u.alloc (.cells #[.int .i64 (k0), .int .u64 ((b0 : Nat) : Int), .int .i64 (k1), .int .u64 ((b1 : Nat) : Int)] 29)) ((wanted_guard (j := 21) (b := true) (c := true) rfl (hdep ⟨21, .guard⟩ (by simp) rfl)).trans rfl) ?_ ⟨_, 2, rfl, row_two (by first | assumption | decide) (by first | assumption | decide) (by simp) (by simp) (by simp) (by simp)⟩ (below1 _ _)
          go_simp
        refine stepsL_cons (fun a u hc hdd hd hk hdep => ?_) ?_
        ·
          obtain ⟨A85, c85, d85, r85⟩ : rowW [(k0, b0), (k1, b1)] ((a.tmps[85]?).getD undef) u := hdep ⟨24, .data⟩ (by simp) rfl
          refine step_call KC KD hc hdd rfl 17 #[.int .i64 10, .slice A85 2 c85] ((wanted_guard (j := 21) (b := true) (c := true) rfl (hdep ⟨21, .chain⟩ (by simp) rfl)).trans rfl) (by go_simp) ?_
          exact (C10.out _ _ u r85).mono (by rintro e w' ⟨rfl, hb⟩; exact ⟨_, rfl, rfl, hb⟩)
        refine stepsL_cons (fun a u hc hdd hd hk hdep => ?_) ?_
        ·
          have d5 : (a.tmps[5]?).getD undef = (.pointer (some ⟨g5, 0, none⟩)) := hk 5 (by kernel_rfl)
          refine step_val KC KD hc hdd rfl (.agg #[.int .i64 (2), .int .u64 ((0 : Nat) : Int)]) u ((wanted_guard (j := 21) (b := true) (c := true) rfl (hdep ⟨21, .guard⟩ (by simp) rfl)).trans rfl) ?_ rfl (Below.refl _ _)
          obtain ⟨s0, s1, s2, s3, s4, s5, s6, s7, s8, s9, s10⟩ := hc
          go_simp
        refine stepsL_cons (fun a u hc hdd hd hk hdep => ?_) ?_
        ·
          have d6 : (a.tmps[6]?).getD undef = (.pointer (some ⟨g6, 0, none⟩)) := hk 6 (by kernel_rfl)
          refine step_val KC KD hc hdd rfl (.agg #[.int .i64 (2), .int .u64 ((0 : Nat) : Int)]) u ((wanted_guard (j := 21) (b := true) (c := true) rfl (hdep ⟨21, .guard⟩ (by simp) rfl)).trans rfl) ?_ rfl (Below.refl _ _)
          obtain ⟨s0, s1, s2, s3, s4, s5, s6, s7, s8, s9, s10⟩ := hc
          go_simp
        refine stepsL_cons (fun a u hc hdd hd hk hdep => ?_) ?_
        ·
          have d87 : (a.tmps[87]?).getD undef = (.agg #[.int .i64 (2), .int .u64 ((0 : Nat) : Int)]) := hdep ⟨26, .data⟩ (by simp) rfl
          have d88 : (a.tmps[88]?).getD undef = (.agg #[.int .i64 (2), .int .u64 ((0 : Nat) : Int)]) := hdep ⟨27, .data⟩ (by simp) rfl
          refine step_val KC KD hc hdd rfl (.slice (some ⟨u.heap.size, 0, none⟩) 2 2) (u.alloc (.cells #[.int .i64 (2), .int .u64 ((0 : Nat) : Int), .int .i64 (2), .int .u64 ((0 : Nat) : Int)] 29)) ((wanted_guard (j := 21) (b := true) (c := true) rfl (hdep ⟨21, .guard⟩ (by simp) rfl)).trans rfl) ?_ ⟨_, 2, rfl, row_two (by first | assumption | decide) (by first | assumption | decide) (by simp) (by simp) (by simp) (by simp)⟩ (below1 _ _)
          go_simp
        refine stepsL_cons (fun a u hc hdd hd hk hdep => ?_) ?_
        ·
          obtain ⟨A89, c89, d89, r89⟩ : rowW [(2, 0), (2, 0)] ((a.tmps[89]?).getD undef) u := hdep ⟨28, .data⟩ (by simp) rfl
          refine step_call KC KD hc hdd rfl 17 #[.int .i64 14, .slice A89 2 c89] ((wanted_guard (j := 21) (b := true) (c := true) rfl (hdep ⟨21, .guard⟩ (by simp) rfl)).trans rfl) (by go_simp) ?_
          exact (D14b.out _ _ u r89).mono (by rintro e w' ⟨rfl, hb⟩; exact ⟨_, rfl, rfl, hb⟩)
        refine stepsL_cons (fun a u hc hdd hd hk hdep => ?_) ?_
        ·
          have d86 : (a.tmps[86]?).getD undef = (.agg #[.int .i64 (2), .int .u64 ((0 : Nat) : Int)]) := hdep ⟨25, .data⟩ (by simp) rfl
          have d90 : (a.tmps[90]?).getD undef = (.agg #[.int .i64 (2), .int .u64 ((0 : Nat) : Int)]) := hdep ⟨29, .data⟩ (by simp) rfl
          refine step_val KC KD hc hdd rfl (.bool true) u ((wanted_guard (j := 21) (b := true) (c := true) rfl (hdep ⟨21, .guard⟩ (by simp) rfl)).trans rfl) ?_ rfl (Below.refl _ _)
          go_simp
        refine stepsL_cons (fun a u hc hdd hd hk hdep => ?_) ?_
        ·
          have d82 : (a.tmps[82]?).getD undef = (.bool true) := hdep ⟨21, .data⟩ (by simp) rfl
          have d91 : (a.tmps[91]?).getD undef = (.bool true) := hdep ⟨30, .data⟩ (by simp) rfl
          refine step_val KC KD hc hdd rfl (.bool true) u (wanted_plain rfl) ?_ rfl (Below.refl _ _)
          first | (go_simp; done) | rfl
        refine stepsL_cons (fun a u hc hdd hd hk hdep => ?_) ?_
        ·
          have d92 : (a.tmps[92]?).getD undef = (.bool true) := hdep ⟨31, .data⟩ (by simp) rfl
          refine step_val KC KD hc hdd rfl (.bool true) u (wanted_plain rfl) ?_ rfl (Below.refl _ _)
          first | (go_simp; done) | rfl
        refine stepsL_cons (fun a u hc hdd hd hk hdep => ?_) ?_
        ·
          have d2 : (a.tmps[2]?).getD undef = (.pointer (some ⟨w.heap.size, 0, none⟩)) := hk 2 (by kernel_rfl)
          refine step_val KC KD hc hdd rfl (.agg #[.int .i64 (k0), .int .u64 ((b0 : Nat) : Int)]) u ((wanted_guard (j := 32) (b := true) (c := true) rfl (hdep ⟨32, .guard⟩ (by simp) rfl)).trans rfl) ?_ rfl (Below.refl _ _)
          obtain ⟨s0, s1, s2, s3, s4, s5, s6, s7, s8, s9, s10⟩ := hc
          go_simp
        refine stepsL_cons (fun a u hc hdd hd hk hdep => ?_) ?_
        ·
          have d3 : (a.tmps[3]?).getD undef = (.pointer (some ⟨w.heap.size + 1, 0, none⟩)) := hk 3 (by kernel_rfl)
          refine step_val KC KD hc hdd rfl (.agg #[.int .i64 (k1), .int .u64 ((b1 : Nat) : Int)]) u ((wanted_guard (j := 32) (b := true) (c := true) rfl (hdep ⟨32, .guard⟩ (by simp) rfl)).trans rfl) ?_ rfl (Below.refl _ _)
          obtain ⟨s0, s1, s2, s3, s4, s5, s6, s7, s8, s9, s10⟩ := hc
          go_simp
        refine stepsL_cons (fun a u hc hdd hd hk hdep => ?_) ?_
        ·
          have d94 : (a.tmps[94]?).getD undef = (.agg #[.int .i64 (k0), .int .u64 ((b0 : Nat) : Int)]) := hdep ⟨33, .data⟩ (by simp) rfl
          have d95 : (a.tmps[95]?).getD undef = (.agg #[.int .i64 (k1), .int .u64 ((b1 : Nat) : Int)]) := hdep ⟨34, .data⟩ (by simp) rfl
          refine step_val KC KD hc hdd rfl (.slice (some ⟨u.heap.size, 0, none⟩) 2 2) (u.alloc (.cells #[.int .i64 (k0), .int .u64 ((b0 : Nat) : Int), .int .i64 (k1), .int .u64 ((b1 : Nat) : Int)] 29)) ((wanted_guard (j := 32) (b := true) (c := true) rfl (hdep ⟨32, .guard⟩ (by simp) rfl)).trans rfl) ?_ ⟨_, 2, rfl, row_two (by first | assumption | decide) (by first | assumption | decide) (by simp) (by simp) (by simp) (by simp)⟩ (below1 _ _)
          go_simp
        refine stepsL_cons (fun a u hc hdd hd hk hdep => ?_) ?_
        ·
          obtain ⟨A96, c96, d96, r96⟩ : rowW [(k0, b0), (k1, b1)] ((a.tmps[96]?).getD undef) u := hdep ⟨35, .data⟩ (by simp) rfl
          refine step_call KC KD hc hdd rfl 17 #[.int .i64 12, .slice A96 2 c96] ((wanted_guard (j := 32) (b := true) (c := true) rfl (hdep ⟨32, .chain⟩ (by simp) rfl)).trans rfl) (by go_simp) ?_
          exact (C12.out _ _ u r96).mono (by rintro e w' ⟨rfl, hb⟩; exact ⟨_, rfl, rfl, hb⟩)
        refine stepsL_cons (fun a u hc hdd hd hk hdep => ?_) ?_
        ·
          have d7 : (a.tmps[7]?).getD undef = (.pointer (some ⟨g7, 0, none⟩)) := hk 7 (by kernel_rfl)
          refine step_val KC KD hc hdd rfl (.agg #[.int .i64 (2), .int .u64 ((0 : Nat) : Int)]) u ((wanted_guard (j := 32) (b := true) (c := true) rfl (hdep ⟨32, .guard⟩ (by simp) rfl)).trans rfl) ?_ rfl (Below.refl _ _)
          obtain ⟨s0, s1, s2, s3, s4, s5, s6, s7, s8, s9, s10⟩ := hc
          go_simp
        refine stepsL_cons (fun a u hc hdd hd hk hdep => ?_) ?_
        ·
          have d6 : (a.tmps[6]?).getD undef = (.pointer (some ⟨g6, 0, none⟩)) := hk 6 (by kernel_rfl)
          refine step_val KC KD hc hdd rfl (.agg #[.int .i64 (2), .int .u64 ((0 : Nat) : Int)]) u ((wanted_guard (j := 32) (b := true) (c := true) rfl (hdep ⟨32, .guard⟩ (by simp) rfl)).trans rfl) ?_ rfl (Below.refl _ _)
          obtain ⟨s0, s1, s2, s3, s4, s5, s6, s7, s8, s9, s10⟩ := hc
          go_simp
        refine stepsL_cons (fun a u hc hdd hd hk hdep => ?_) ?_
        ·
          have d98 : (a.tmps[98]?).getD undef = (.agg #[.int .i64 (2), .int .u64 ((0 : Nat) : Int)]) := hdep ⟨37, .data⟩ (by simp) rfl
          have d99 : (a.tmps[99]?).getD undef = (.agg #[.int .i64 (2), .int .u64 ((0 : Nat) : Int)]) := hdep ⟨38, .data⟩ (by simp) rfl
          refine step_val KC KD hc hdd rfl (.slice (some ⟨u.heap.size, 0, none⟩) 2 2) (u.alloc (.cells #[.int .i64 (2), .int .u64 ((0 : Nat) : Int), .int .i64 (2), .int .u64 ((0 : Nat) : Int)] 29)) ((wanted_guard (j := 32) (b := true) (c := true) rfl (hdep ⟨32, .guard⟩ (by simp) rfl)).trans rfl) ?_ ⟨_, 2, rfl, row_two (by first | assumption | decide) (by first | assumption | decide) (by simp) (by simp) (by simp) (by simp)⟩ (below1 _ _)
          go_simp
        refine stepsL_cons (fun a u hc hdd hd hk hdep => ?_) ?_
        ·
          obtain ⟨A100, c100, d100, r100⟩ : rowW [(2, 0), (2, 0)] ((a.tmps[100]?).getD undef) u := hdep ⟨39, .data⟩ (by simp) rfl
          refine step_call KC KD hc hdd rfl 17 #[.int .i64 14, .slice A100 2 c100] ((wanted_guard (j := 32) (b := true) (c := true) rfl (hdep ⟨32, .guard⟩ (by simp) rfl)).trans rfl) (by go_simp) ?_
          exact (D14b.out _ _ u r100).mono (by rintro e w' ⟨rfl, hb⟩; exact ⟨_, rfl, rfl, hb⟩)
        refine stepsL_cons (fun a u hc hdd hd hk hdep => ?_) ?_
        ·
          have d97 : (a.tmps[97]?).getD undef = (.agg #[.int .i64 (2), .int .u64 ((0 : Nat) : Int)]) := hdep ⟨36, .data⟩ (by simp) rfl
          have d101 : (a.tmps[101]?).getD undef = (.agg #[.int .i64 (2), .int .u64 ((0 : Nat) : Int)]) := hdep ⟨40, .data⟩ (by simp) rfl
          refine step_val KC KD hc hdd rfl (.bool true) u ((wanted_guard (j := 32) (b := true) (c := true) rfl (hdep ⟨32, .guard⟩ (by simp) rfl)).trans rfl) ?_ rfl (Below.refl _ _)
          go_simp
        refine stepsL_cons (fun a u hc hdd hd hk hdep => ?_) ?_
        ·
          have d93 : (a.tmps[93]?).getD undef = (.bool true) := hdep ⟨32, .data⟩ (by simp) rfl
          have d102 : (a.tmps[102]?).getD undef = (.bool true) := hdep ⟨41, .data⟩ (by simp) rfl
          refine step_val KC KD hc hdd rfl (.bool true) u (wanted_plain rfl) ?_ rfl (Below.refl _ _)
          first | (go_simp; done) | rfl
        refine stepsL_cons (fun a u hc hdd hd hk hdep => ?_) ?_
        ·
          have d103 : (a.tmps[103]?).getD undef = (.bool true) := hdep ⟨42, .data⟩ (by simp) rfl
          refine step_val KC KD hc hdd rfl (.bool true) u (wanted_plain rfl) ?_ rfl (Below.refl _ _)
          first | (go_simp; done) | rfl
        exact stepsL_nil
      intro vs8 wE hE hh
      obtain ⟨e0, e1, e2, e3, e4, e5, e6, e7, e8, e9, e10, e11, e12, e13, e14, e15, e16, e17, e18, e19, e20, e21, e22, e23, e24, e25, e26, e27, e28, e29, e30, e31, e32, e33, e34, e35, e36, e37, e38, e39, e40, e41, e42, e43, -⟩ := hh
      have eL : vs8 43 = (.bool true) := e43
      clear e0 e1 e2 e3 e4 e5 e6 e7 e8 e9 e10 e11 e12 e13 e14 e15 e16 e17 e18 e19 e20 e21 e22 e23 e24 e25 e26 e27 e28 e29 e30 e31 e32 e33 e34 e35 e36 e37 e38 e39 e40 e41 e42 e43
      set_option maxRecDepth 100000 in simp only [putAll, Act.put, List.setIfInBounds_toArray, List.set_cons_zero, List.set_cons_succ, eL]
      obtain ⟨ra, rb, rc, rd, s5a, s5b, s6a, s6b, s7a, s7b, hB9⟩ := hE
      go_wp2
      go_ret
      exact ⟨rfl, hB9⟩
    · obtain ⟨xa, za⟩ := na; simp only at ya; subst ya
      simp only [b2n, Bool.not_true, Bool.not_false, Bool.or_true, Bool.true_or, Bool.or_false, Bool.false_or, Bool.or_self, if_true, Bool.false_eq_true, if_false] at s5a s5b s6a s6b s7a s7b C8 C10 C12 Na Nb ⊢
      have hcc : u4.cell? ⟨w.heap.size, 0, none⟩ = some (.int .i64 k0) ∧ u4.cell? ⟨w.heap.size, 1, none⟩ = some (.int .u64 (b0 : Int)) ∧ u4.cell? ⟨w.heap.size + 1, 0, none⟩ = some (.int .i64 k1) ∧ u4.cell? ⟨w.heap.size + 1, 1, none⟩ = some (.int .u64 (b1 : Int)) ∧ u4.cell? ⟨g5, 0, none⟩ = some (.int .i64 2) ∧ u4.cell? ⟨g5, 1, none⟩ = some (.int .u64 ((0 : Nat) : Int)) ∧ u4.cell? ⟨g6, 0, none⟩ = some (.int .i64 2) ∧ u4.cell? ⟨g6, 1, none⟩ = some (.int .u64 ((0 : Nat) : Int)) ∧ u4.cell? ⟨g7, 0, none⟩ = some (.int .i64 2) ∧ u4.cell? ⟨g7, 1, none⟩ = some (.int .u64 ((0 : Nat) : Int)) ∧ Below w.heap.size w u4 := ⟨ra, rb, rc, rd, s5a, s5b, s6a, s6b, s7a, s7b, h4⟩
      have tb : tB true = 1 := rfl
      have D15 := Lib.hid (fun A cap w hv => do_any 15 A 1 cap [(2, 0)] w hv (by decide))
      rw [show appP 15 [(2, 0)] = (2, 1) by first | rfl | decide] at D15
      simp only at D15
      have D14a := Lib.hid (fun A cap w hv => do_any 14 A 2 cap [(2, 0), (2, 0)] w hv (by decide))
      rw [show appP 14 [(2, 0), (2, 0)] = (2, 0) by first | rfl | decide] at D14a
      simp only at D14a
      have D14b := Lib.hid (fun A cap w hv => do_any 14 A 2 cap [(2, 0), (2, 0)] w hv (by decide))
      rw [show appP 14 [(2, 0), (2, 0)] = (2, 0) by first | rfl | decide] at D14b
      simp only at D14b
      go_wp2_with fail
      refine (Na.out _ _ _ (row_one w0 (by simp) (by simp))).mono ?_; rintro e u5 ⟨rfl, hb1⟩
      have hcc := keepC11 hb1 (keepC11 (below1 _ _) hcc); have hcc' := hcc; obtain ⟨ra, rb, rc, rd, s5a, s5b, s6a, s6b, s7a, s7b, hB8⟩ := hcc'
      go_wp2_with fail
      refine (truth_any _ _).mono ?_; rintro e u6 ⟨rfl, hb1⟩
      have hcc := keepC11 hb1 hcc; have hcc' := hcc; obtain ⟨ra, rb, rc, rd, s5a, s5b, s6a, s6b, s7a, s7b, hB8⟩ := hcc'
      go_wp2_with fail
      refine (Nb.out _ _ _ (row_one w1 (by simp) (by simp))).mono ?_; rintro e u7 ⟨rfl, hb1⟩
      have hcc := keepC11 hb1 (keepC11 (below1 _ _) hcc); have hcc' := hcc; obtain ⟨ra, rb, rc, rd, s5a, s5b, s6a, s6b, s7a, s7b, hB8⟩ := hcc'
      go_wp2_with fail
      refine (truth_any _ _).mono ?_; rintro e u8 ⟨rfl, hb1⟩
      have hcc := keepC11 hb1 hcc; have hcc' := hcc; obtain ⟨ra, rb, rc, rd, s5a, s5b, s6a, s6b, s7a, s7b, hB8⟩ := hcc'
      go_wp2_with fail
      have KD := keepsD_true []
      refine region_words (fun w' => w'.cell? ⟨w.heap.size, 0, none⟩ = some (.int .i64 k0) ∧ w'.cell? ⟨w.heap.size, 1, none⟩ = some (.int .u64 (b0 : Int)) ∧ w'.cell? ⟨w.heap.size + 1, 0, none⟩ = some (.int .i64 k1) ∧ w'.cell? ⟨w.heap.size + 1, 1, none⟩ = some (.int .u64 (b1 : Int)) ∧ w'.cell? ⟨g5, 0, none⟩ = some (.int .i64 2) ∧ w'.cell? ⟨g5, 1, none⟩ = some (.int .u64 ((0 : Nat) : Int)) ∧ w'.cell? ⟨g6, 0, none⟩ = some (.int .i64 2) ∧ w'.cell? ⟨g6, 1, none⟩ = some (.int .u64 ((0 : Nat) : Int)) ∧ w'.cell? ⟨g7, 0, none⟩ = some (.int .i64 2) ∧ w'.cell? ⟨g7, 1, none⟩ = some (.int .u64 ((0 : Nat) : Int)) ∧ Below w.heap.size w w') [isW (.int .i64 (0)), isW (.bool false), isW (.bool true), isW (.bool false), isW (.bool true), isW (.bool true), isW (.int .i64 (0)), isW (.bool true), isW (.bool true), isW (.bool true), isW (.bool true), isW (.bool true), isW (.agg #[.int .i64 (k0), .int .u64 ((b0 : Nat) : Int)]), isW (.agg #[.int .i64 (k1), .int .u64 ((b1 : Nat) : Int)]), rowW [(k0, b0), (k1, b1)], isW (.agg #[.int .i64 (2), .int .u64 ((1 : Nat) : Int)]), isW (.agg #[.int .i64 (2), .int .u64 ((0 : Nat) : Int)]), rowW [(2, 0)], isW (.agg #[.int .i64 (2), .int .u64 ((1 : Nat) : Int)]), isW (.bool true), isW (.bool true), isW (.bool true), isW (.agg #[.int .i64 (k0), .int .u64 ((b0 : Nat) : Int)]), isW (.agg #[.int .i64 (k1), .int .u64 ((b1 : Nat) : Int)]), rowW [(k0, b0), (k1, b1)], isW (.agg #[.int .i64 (2), .int .u64 ((0 : Nat) : Int)]), isW (.agg #[.int .i64 (2), .int .u64 ((0 : Nat) : Int)]), isW (.agg #[.int .i64 (2), .int .u64 ((0 : Nat) : Int)]), rowW [(2, 0), (2, 0)], isW (.agg #[.int .i64 (2), .int .u64 ((0 : Nat) : Int)]), isW (.bool true), isW (.bool true), isW (.bool true), isW (.agg #[.int .i64 (k0), .int .u64 ((b0 : Nat) : Int)]), isW (.agg #[.int .i64 (k1), .int .u64 ((b1 : Nat) : Int)]), rowW [(k0, b0), (k1, b1)], isW (.agg #[.int .i64 (2), .int .u64 ((0 : Nat) : Int)]), isW (.agg #[.int .i64 (2), .int .u64 ((0 : Nat) : Int)]), isW (.agg #[.int .i64 (2), .int .u64 ((0 : Nat) : Int)]), rowW [(2, 0), (2, 0)], isW (.agg #[.int .i64 (2), .int .u64 ((0 : Nat) : Int)]), isW (.bool true), isW (.bool true), isW (.bool true)] (by kernel_rfl) (by repeat' (first | exact monoL_nil | exact is_mono _ | exact row_mono _ | exact any_mono | refine monoL_cons ?_ ?_)) (by kernel_rfl) (by kernel_rfl) (fun _ _ h hb => keepC11 hb h) ⟨ra, rb, rc, rd, s5a, s5b, s6a, s6b, s7a, s7b, hB8.drew⟩ ?_ ?_
      · intro KC
        refine stepsL_cons (fun a u hc hdd hd hk hdep => ?_) ?_
        ·
          have d8 : (a.tmps[8]?).getD undef = (.int .i64 (0)) := hk 8 (by kernel_rfl)
          refine step_val KC KD hc hdd rfl (.int .i64 (0)) u (wanted_plain rfl) ?_ rfl (Below.refl _ _)
          first | (go_simp; done) | rfl
        refine stepsL_cons (fun a u hc hdd hd hk hdep => ?_) ?_
        ·
          have d61 : (a.tmps[61]?).getD undef = (.int .i64 (0)) := hdep ⟨0, .data⟩ (by simp) rfl
          refine step_val KC KD hc hdd rfl (.bool false) u (wanted_plain rfl) ?_ rfl (Below.refl _ _)
          go_simp
        refine stepsL_cons (fun a u hc hdd hd hk hdep => ?_) ?_
        ·
          have d9 : (a.tmps[9]?).getD undef = (.bool true) := hk 9 (by kernel_rfl)
          refine step_val KC KD hc hdd rfl (.bool true) u (wanted_plain rfl) ?_ rfl (Below.refl _ _)
          first | (go_simp; done) | rfl
        refine stepsL_cons (fun a u hc hdd hd hk hdep => ?_) ?_
        ·
          have d63 : (a.tmps[63]?).getD undef = (.bool true) := hdep ⟨2, .data⟩ (by simp) rfl
          refine step_val KC KD hc hdd rfl (.bool false) u (wanted_plain rfl) ?_ rfl (Below.refl _ _)
          go_simp
        refine stepsL_cons (fun a u hc hdd hd hk hdep => ?_) ?_
        ·
          have d62 : (a.tmps[62]?).getD undef = (.bool false) := hdep ⟨1, .data⟩ (by simp) rfl
          have d64 : (a.tmps[64]?).getD undef = (.bool false) := hdep ⟨3, .data⟩ (by simp) rfl
          refine step_val KC KD hc hdd rfl (.bool true) u (wanted_plain rfl) ?_ rfl (Below.refl _ _)
          go_simp
        refine stepsL_cons (fun a u hc hdd hd hk hdep => ?_) ?_
        ·
          have d65 : (a.tmps[65]?).getD undef = (.bool true) := hdep ⟨4, .data⟩ (by simp) rfl
          refine step_val KC KD hc hdd rfl (.bool true) u (wanted_plain rfl) ?_ rfl (Below.refl _ _)
          first | (go_simp; done) | rfl
        refine stepsL_cons (fun a u hc hdd hd hk hdep => ?_) ?_
        ·
          have d8 : (a.tmps[8]?).getD undef = (.int .i64 (0)) := hk 8 (by kernel_rfl)
          refine step_val KC KD hc hdd rfl (.int .i64 (0)) u ((wanted_guard (j := 5) (b := true) (c := true) rfl (hdep ⟨5, .guard⟩ (by simp) rfl)).trans rfl) ?_ rfl (Below.refl _ _)
          first | (go_simp; done) | rfl
        refine stepsL_cons (fun a u hc hdd hd hk hdep => ?_) ?_
        ·
          have d67 : (a.tmps[67]?).getD undef = (.int .i64 (0)) := hdep ⟨6, .data⟩ (by simp) rfl
          refine step_val KC KD hc hdd rfl (.bool true) u ((wanted_guard (j := 5) (b := true) (c := true) rfl (hdep ⟨5, .guard⟩ (by simp) rfl)).trans rfl) ?_ rfl (Below.refl _ _)
          go_simp
        refine stepsL_cons (fun a u hc hdd hd hk hdep => ?_) ?_
        ·
          have d9 : (a.tmps[9]?).getD undef = (.bool true) := hk 9 (by kernel_rfl)
          refine step_val KC KD hc hdd rfl (.bool true) u ((wanted_guard (j := 5) (b := true) (c := true) rfl (hdep ⟨5, .guard⟩ (by simp) rfl)).trans rfl) ?_ rfl (Below.refl _ _)
          first | (go_simp; done) | rfl
        refine stepsL_cons (fun a u hc hdd hd hk hdep => ?_) ?_
        ·
          have d68 : (a.tmps[68]?).getD undef = (.bool true) := hdep ⟨7, .data⟩ (by simp) rfl
          have d69 : (a.tmps[69]?).getD undef = (.bool true) := hdep ⟨8, .data⟩ (by simp) rfl
          refine step_val KC KD hc hdd rfl (.bool true) u ((wanted_guard (j := 5) (b := true) (c := true) rfl (hdep ⟨5, .guard⟩ (by simp) rfl)).trans rfl) ?_ rfl (Below.refl _ _)
          go_simp
        refine stepsL_cons (fun a u hc hdd hd hk hdep => ?_) ?_
        ·
          have d66 : (a.tmps[66]?).getD undef = (.bool true) := hdep ⟨5, .data⟩ (by simp) rfl
          have d70 : (a.tmps[70]?).getD undef = (.bool true) := hdep ⟨9, .data⟩ (by simp) rfl
          refine step_val KC KD hc hdd rfl (.bool true) u (wanted_plain rfl) ?_ rfl (Below.refl _ _)
          first | (go_simp; done) | rfl
        refine stepsL_cons (fun a u hc hdd hd hk hdep => ?_) ?_
        ·
          have d71 : (a.tmps[71]?).getD undef = (.bool true) := hdep ⟨10, .data⟩ (by simp) rfl
          refine step_val KC KD hc hdd rfl (.bool true) u (wanted_plain rfl) ?_ rfl (Below.refl _ _)
          first | (go_simp; done) | rfl
        refine stepsL_cons (fun a u hc hdd hd hk hdep => ?_) ?_
        ·
          have d2 : (a.tmps[2]?).getD undef = (.pointer (some ⟨w.heap.size, 0, none⟩)) := hk 2 (by kernel_rfl)
          refine step_val KC KD hc hdd rfl (.agg #[.int .i64 (k0), .int .u64 ((b0 : Nat) : Int)]) u ((wanted_guard (j := 11) (b := true) (c := true) rfl (hdep ⟨11, .guard⟩ (by simp) rfl)).trans rfl) ?_ rfl (Below.refl _ _)
          obtain ⟨s0, s1, s2, s3, s4, s5, s6, s7, s8, s9, s10⟩ := hc
          go_simp
        refine stepsL_cons (fun a u hc hdd hd hk hdep => ?_) ?_
        ·
          have d3 : (a.tmps[3]?).getD undef = (.pointer (some ⟨w.heap.size + 1, 0, none⟩)) := hk 3 (by kernel_rfl)
          refine step_val KC KD hc hdd rfl (.agg #[.int .i64 (k1), .int .u64 ((b1 : Nat) : Int)]) u ((wanted_guard (j := 11) (b := true) (c := true) rfl (hdep ⟨11, .guard⟩ (by simp) rfl)).trans rfl) ?_ rfl (Below.refl _ _)
          obtain ⟨s0, s1, s2, s3, s4, s5, s6, s7, s8, s9, s10⟩ := hc
          go_simp
        refine stepsL_cons (fun a u hc hdd hd hk hdep => ?_) ?_
        ·
          have d73 : (a.tmps[73]?).getD undef = (.agg #[.int .i64 (k0), .int .u64 ((b0 : Nat) : Int)]) := hdep ⟨12, .data⟩ (by simp) rfl
          have d74 : (a.tmps[74]?).getD undef = (.agg #[.int .i64 (k1), .int .u64 ((b1 : Nat) : Int)]) := hdep ⟨13, .data⟩ (by simp) rfl
          refine step_val KC KD hc hdd rfl (.slice (some ⟨u.heap.size, 0, none⟩) 2 2) (u.alloc (.cells #[.int .i64 (k0), .int .u64 ((b0 : Nat) : Int), .int .i64 (k1), .int .u64 ((b1 : Nat) : Int)] 29)) ((wanted_guard (j := 11) (b := true) (c := true) rfl (hdep ⟨11, .guard⟩ (by simp) rfl)).trans rfl) ?_ ⟨_, 2, rfl, row_two (by first | assumption | decide) (by first | assumption | decide) (by simp) (by simp) (by simp) (by simp)⟩ (below1 _ _)
          go_simp
        refine stepsL_cons (fun a u hc hdd hd hk hdep => ?_) ?_
        ·
          obtain ⟨A75, c75, d75, r75⟩ : rowW [(k0, b0), (k1, b1)] ((a.tmps[75]?).getD undef) u := hdep ⟨14, .data⟩ (by simp) rfl
          refine step_call KC KD hc hdd rfl 17 #[.int .i64 8, .slice A75 2 c75] ((wanted_guard (j := 11) (b := true) (c := true) rfl (hdep ⟨11, .chain⟩ (by simp) rfl)).trans rfl) (by go_simp) ?_
          exact (C8.out _ _ u r75).mono (by rintro e w' ⟨rfl, hb⟩; exact ⟨_, rfl, rfl, hb⟩)
        refine stepsL_cons (fun a u hc hdd hd hk hdep => ?_) ?_
        ·
          have d6 : (a.tmps[6]?).getD undef = (.pointer (some ⟨g6, 0, none⟩)) := hk 6 (by kernel_rfl)
          refine step_val KC KD hc hdd rfl (.agg #[.int .i64 (2), .int .u64 ((0 : Nat) : Int)]) u ((wanted_guard (j := 11) (b := true) (c := true) rfl (hdep ⟨11, .guard⟩ (by simp) rfl)).trans rfl) ?_ rfl (Below.refl _ _)
          obtain ⟨s0, s1, s2, s3, s4, s5, s6, s7, s8, s9, s10⟩ := hc
          go_simp
        refine stepsL_cons (fun a u hc hdd hd hk hdep => ?_) ?_
        ·
          have d77 : (a.tmps[77]?).getD undef = (.agg #[.int .i64 (2), .int .u64 ((0 : Nat) : Int)]) := hdep ⟨16, .data⟩ (by simp) rfl
          refine step_val KC KD hc hdd rfl (.slice (some ⟨u.heap.size, 0, none⟩) 1 1) (u.alloc (.cells #[.int .i64 (2), .int .u64 ((0 : Nat) : Int)] 29)) ((wanted_guard (j := 11) (b := true) (c := true) rfl (hdep ⟨11, .guard⟩ (by simp) rfl)).trans rfl) ?_ ⟨_, 1, rfl, row_one (by first | assumption | decide) (by simp) (by simp)⟩ (below1 _ _)
          go_simp
        refine stepsL_cons (fun a u hc hdd hd hk hdep => ?_) ?_
        ·
          obtain ⟨A78, c78, d78, r78⟩ : rowW [(2, 0)] ((a.tmps[78]?).getD undef) u := hdep ⟨17, .data⟩ (by simp) rfl
          refine step_call KC KD hc hdd rfl 17 #[.int .i64 15, .slice A78 1 c78] ((wanted_guard (j := 11) (b := true) (c := true) rfl (hdep ⟨11, .guard⟩ (by simp) rfl)).trans rfl) (by go_simp) ?_
          exact (D15.out _ _ u r78).mono (by rintro e w' ⟨rfl, hb⟩; exact ⟨_, rfl, rfl, hb⟩)
        refine stepsL_cons (fun a u hc hdd hd hk hdep => ?_) ?_
        ·
          have d76 : (a.tmps[76]?).getD undef = (.agg #[.int .i64 (2), .int .u64 ((1 : Nat) : Int)]) := hdep ⟨15, .data⟩ (by simp) rfl
          have d79 : (a.tmps[79]?).getD undef = (.agg #[.int .i64 (2), .int .u64 ((1 : Nat) : Int)]) := hdep ⟨18, .data⟩ (by simp) rfl
          refine step_val KC KD hc hdd rfl (.bool true) u ((wanted_guard (j := 11) (b := true) (c := true) rfl (hdep ⟨11, .guard⟩ (by simp) rfl)).trans rfl) ?_ rfl (Below.refl _ _)
          go_simp
        refine stepsL_cons (fun a u hc hdd hd hk hdep => ?_) ?_
        ·
          have d72 : (a.tmps[72]?).getD undef = (.bool true) := hdep ⟨11, .data⟩ (by simp) rfl
          have d80 : (a.tmps[80]?).getD undef = (.bool true) := hdep ⟨19, .data⟩ (by simp) rfl
          refine step_val KC KD hc hdd rfl (.bool true) u (wanted_plain rfl) ?_ rfl (Below.refl _ _)
          first | (go_simp; done) | rfl
        refine stepsL_cons (fun a u hc hdd hd hk hdep => ?_) ?_
        ·
          have d81 : (a.tmps[81]?).getD undef = (.bool true) := hdep ⟨20, .data⟩ (by simp) rfl
          refine step_val KC KD hc hdd rfl (.bool true) u (wanted_plain rfl) ?_ rfl (Below.refl _ _)
          first | (go_simp; done) | rfl
        refine stepsL_cons (fun a u hc hdd hd hk hdep => ?_) ?_
        ·
          have d2 : (a.tmps[2]?).getD undef = (.pointer (some ⟨w.heap.size, 0, none⟩)) := hk 2 (by kernel_rfl)
          refine step_val KC KD hc hdd rfl (.agg #[.int .i64 (k0), .int .u64 ((b0 : Nat) : Int)]) u ((wanted_guard (j := 21) (b := true) (c := true) rfl (hdep ⟨21, .guard⟩ (by simp) rfl)).trans rfl) ?_ rfl (Below.refl _ _)
          obtain ⟨s0, s1, s2, s3, s4, s5, s6, s7, s8, s9, s10⟩ := hc
          go_simp
        refine stepsL_cons (fun a u hc hdd hd hk hdep => ?_) ?_
        ·
          have d3 : (a.tmps[3]?).getD undef = (.pointer (some ⟨w.heap.size + 1, 0, none⟩)) := hk 3 (by kernel_rfl)
          refine step_val KC KD hc hdd rfl (.agg #[.int .i64 (k1), .int .u64 ((b1 : Nat) : Int)]) u ((wanted_guard (j := 21) (b := true) (c := true) rfl (hdep ⟨21, .guard⟩ (by simp) rfl)).trans rfl) ?_ rfl (Below.refl _ _)
          obtain ⟨s0, s1, s2, s3, s4, s5, s6, s7, s8, s9, s10⟩ := hc
          go_simp
        refine stepsL_cons (fun a u hc hdd hd hk hdep => ?_) ?_
        ·
          have d83 : (a.tmps[83]?).getD undef = (.agg #[.int .i64 (k0), .int .u64 ((b0 : Nat) : Int)]) := hdep ⟨22, .data⟩ (by simp) rfl
          have d84 : (a.tmps[84]?).getD undef = (.agg #[.int .i64 (k1), .int .u64 ((b1 : Nat) : Int)]) := hdep ⟨23, .data⟩ (by simp) rfl
          refine step_val KC KD hc hdd rfl (.slice (some ⟨u.heap.size, 0, none⟩) 2 2) (u.alloc (.cells #[.int .i64 (k0), .int .u64 ((b0 : Nat) : Int), .int .i64 (k1), .int .u64 ((b1 : Nat) : Int)] 29)) ((wanted_guard (j := 21) (b := true) (c := true) rfl (hdep ⟨21, .guard⟩ (by simp) rfl)).trans rfl) ?_ ⟨_, 2, rfl, row_two (by first | assumption | decide) (by first | assumption | decide) (by simp) (by simp) (by simp) (by simp)⟩ (below1 _ _)
          go_simp
        refine stepsL_cons (fun a u hc hdd hd hk hdep => ?_) ?_
        ·
          obtain ⟨A85, c85, d85, r85⟩ : rowW [(k0, b0), (k1, b1)] ((a.tmps[85]?).getD undef) u := hdep ⟨24, .data⟩ (by simp) rfl
          refine step_call KC KD hc hdd rfl 17 #[.int .i64 10, .slice A85 2 c85] ((wanted_guard (j := 21) (b := true) (c := true) rfl (hdep ⟨21, .chain⟩ (by simp) rfl)).trans rfl) (by go_simp) ?_
          exact (C10.out _ _ u r85).mono (by rintro e w' ⟨rfl, hb⟩; exact ⟨_, rfl, rfl, hb⟩)
        refine stepsL_cons (fun a u hc hdd hd hk hdep => ?_) ?_
        ·
          have d5 : (a.tmps[5]?).getD undef = (.pointer (some ⟨g5, 0, none⟩)) := hk 5 (by kernel_rfl)
          refine step_val KC KD hc hdd rfl (.agg #[.int .i64 (2), .int .u64 ((0 : Nat) : Int)]) u ((wanted_guard (j := 21) (b := true) (c := true) rfl (hdep ⟨21, .guard⟩ (by simp) rfl)).trans rfl) ?_ rfl (Below.refl _ _)
          obtain ⟨s0, s1, s2, s3, s4, s5, s6, s7, s8, s9, s10⟩ := hc
          go_simp
        refine stepsL_cons (fun a u hc hdd hd hk hdep => ?_) ?_
        ·
          have d6 : (a.tmps[6]?).getD undef = (.pointer (some ⟨g6, 0, none⟩)) := hk 6 (by kernel_rfl)
          refine step_val KC KD hc hdd rfl (.agg #[.int .i64 (2), .int .u64 ((0 : Nat) : Int)]) u ((wanted_guard (j := 21) (b := true) (c := true) rfl (hdep ⟨21, .guard⟩ (by simp) rfl)).trans rfl) ?_ rfl (Below.refl _ _)
          obtain ⟨s0, s1, s2, s3, s4, s5, s6, s7, s8, s9, s10⟩ := hc
          go_simp
        refine stepsL_cons (fun a u hc hdd hd hk hdep => ?_) ?_
        ·
          have d87 : (a.tmps[87]?).getD undef = (.agg #[.int .i64 (2), .int .u64 ((0 : Nat) : Int)]) := hdep ⟨26, .data⟩ (by simp) rfl
          have d88 : (a.tmps[88]?).getD undef = (.agg #[.int .i64 (2), .int .u64 ((0 : Nat) : Int)]) := hdep ⟨27, .data⟩ (by simp) rfl
          refine step_val KC KD hc hdd rfl (.slice (some ⟨u.heap.size, 0, none⟩) 2 2) (u.alloc (.cells #[.int .i64 (2), .int .u64 ((0 : Nat) : Int), .int .i64 (2), .int .u64 ((0 : Nat) : Int)] 29)) ((wanted_guard (j := 21) (b := true) (c := true) rfl (hdep ⟨21, .guard⟩ (by simp) rfl)).trans rfl) ?_ ⟨_, 2, rfl, row_two (by first | assumption | decide) (by first | assumption | decide) (by simp) (by simp) (by simp) (by simp)⟩ (below1 _ _)
          go_simp
        refine stepsL_cons (fun a u hc hdd hd hk hdep => ?_) ?_
        ·
          obtain ⟨A89, c89, d89, r89⟩ : rowW [(2, 0), (2, 0)] ((a.tmps[89]?).getD undef) u := hdep ⟨28, .data⟩ (by simp) rfl
          refine step_call KC KD hc hdd rfl 17 #[.int .i64 14, .slice A89 2 c89] ((wanted_guard (j := 21) (b := true) (c := true) rfl (hdep ⟨21, .guard⟩ (by simp) rfl)).trans rfl) (by go_simp) ?_
          exact (D14b.out _ _ u r89).mono (by rintro e w' ⟨rfl, hb⟩; exact ⟨_, rfl, rfl, hb⟩)
        refine stepsL_cons (fun a u hc hdd hd hk hdep => ?_) ?_
        ·
          have d86 : (a.tmps[86]?).getD undef = (.agg #[.int .i64 (2), .int .u64 ((0 : Nat) : Int)]) := hdep ⟨25, .data⟩ (by simp) rfl
          have d90 : (a.tmps[90]?).getD undef = (.agg #[.int .i64 (2), .int .u64 ((0 : Nat) : Int)]) := hdep ⟨29, .data⟩ (by simp) rfl
          refine step_val KC KD hc hdd rfl (.bool true) u ((wanted_guard (j := 21) (b := true) (c := true) rfl (hdep ⟨21, .guard⟩ (by simp) rfl)).trans rfl) ?_ rfl (Below.refl _ _)
          go_simp
        refine stepsL_cons (fun a u hc hdd hd hk hdep => ?_) ?_
        ·
          have d82 : (a.tmps[82]?).getD undef = (.bool true) := hdep ⟨21, .data⟩ (by simp) rfl
          have d91 : (a.tmps[91]?).getD undef = (.bool true) := hdep ⟨30, .data⟩ (by simp) rfl
          refine step_val KC KD hc hdd rfl (.bool true) u (wanted_plain rfl) ?_ rfl (Below.refl _ _)
          first | (go_simp; done) | rfl
        refine stepsL_cons (fun a u hc hdd hd hk hdep => ?_) ?_
        ·
          have d92 : (a.tmps[92]?).getD undef = (.bool true) := hdep ⟨31, .data⟩ (by simp) rfl
          refine step_val KC KD hc hdd rfl (.bool true) u (wanted_plain rfl) ?_ rfl (Below.refl _ _)
          first | (go_simp; done) | rfl
        refine stepsL_cons (fun a u hc hdd hd hk hdep => ?_) ?_
        ·
          have d2 : (a.tmps[2]?).getD undef = (.pointer (some ⟨w.heap.size, 0, none⟩)) := hk 2 (by kernel_rfl)
          refine step_val KC KD hc hdd rfl (.agg #[.int .i64 (k0), .int .u64 ((b0 : Nat) : Int)]) u ((wanted_guard (j := 32) (b := true) (c := true) rfl (hdep ⟨32, .guard⟩ (by simp) rfl)).trans rfl) ?_ rfl (Below.refl _ _)
          obtain ⟨s0, s1, s2, s3, s4, s5, s6, s7, s8, s9, s10⟩ := hc
          go_simp
        refine stepsL_cons (fun a u hc hdd hd hk hdep => ?_) ?_
        ·
          have d3 : (a.tmps[3]?).getD undef = (.pointer (some ⟨w.heap.size + 1, 0, none⟩)) := hk 3 (by kernel_rfl)
          refine step_val KC KD hc hdd rfl (.agg #[.int .i64 (k1), .int .u64 ((b1 : Nat) : Int)]) u ((wanted_guard (j := 32) (b := true) (c := true) rfl (hdep ⟨32, .guard⟩ (by simp) rfl)).trans rfl) ?_ rfl (Below.refl _ _)
          obtain ⟨s0, s1, s2, s3, s4, s5, s6, s7, s8, s9, s10⟩ := hc
          go_simp
        refine stepsL_cons (fun a u hc hdd hd hk hdep => ?_) ?_
        ·
          have d94 : (a.tmps[94]?).getD undef = (.agg #[.int .i64 (k0), .int .u64 ((b0 : Nat) : Int)]) := hdep ⟨33, .data⟩ (by simp) rfl
          have d95 : (a.tmps[95]?).getD undef = (.agg #[.int .i64 (k1), .int .u64 ((b1 : Nat) : Int)]) := hdep ⟨34, .data⟩ (by simp) rfl
          refine step_val KC KD hc hdd rfl (.slice (some ⟨u.heap.size, 0, none⟩) 2 2) (u.alloc (.cells #[.int .i64 (k0), .int .u64 ((b0 : Nat) : Int), .int .i64 (k1), .int .u64 ((b1 : Nat) : Int)] 29)) ((wanted_guard (j := 32) (b := true) (c := true) rfl (hdep ⟨32, .guard⟩ (by simp) rfl)).trans rfl) ?_ ⟨_, 2, rfl, row_two (by first | assumption | decide) (by first | assumption | decide) (by simp) (by simp) (by simp) (by simp)⟩ (below1 _ _)
          go_simp
        refine stepsL_cons (fun a u hc hdd hd hk hdep => ?_) ?_
        ·
          obtain ⟨A96, c96, d96, r96⟩ : rowW [(k0, b0), (k1, b1)] ((a.tmps[96]?).getD undef) u := hdep ⟨35, .data⟩ (by simp) rfl
          refine step_call KC KD hc hdd rfl 17 #[.int .i64 12, .slice A96 2 c96] ((wanted_guard (j := 32) (b := true) (c := true) rfl (hdep ⟨32, .chain⟩ (by simp) rfl)).trans rfl) (by go_simp) ?_
          exact (C12.out _ _ u r96).mono (by rintro e w' ⟨rfl, hb⟩; exact ⟨_, rfl, rfl, hb⟩)
        refine stepsL_cons (fun a u hc hdd hd hk hdep => ?_) ?_
        ·
          have d7 : (a.tmps[7]?).getD undef = (.pointer (some ⟨g7, 0, none⟩)) := hk 7 (by kernel_rfl)
          refine step_val KC KD hc hdd rfl (.agg #[.int .i64 (2), .int .u64 ((0 : Nat) : Int)]) u ((wanted_guard (j := 32) (b := true) (c := true) rfl (hdep ⟨32, .guard⟩ (by simp) rfl)).trans rfl) ?_ rfl (Below.refl _ _)
          obtain ⟨s0, s1, s2, s3, s4, s5, s6, s7, s8, s9, s10⟩ := hc
          go_simp
        refine stepsL_cons (fun a u hc hdd hd hk hdep => ?_) ?_
        ·
          have d6 : (a.tmps[6]?).getD undef = (.pointer (some ⟨g6, 0, none⟩)) := hk 6 (by kernel_rfl)
          refine step_val KC KD hc hdd rfl (.agg #[.int .i64 (2), .int .u64 ((0 : Nat) : Int)]) u ((wanted_guard (j := 32) (b := true) (c := true) rfl (hdep ⟨32, .guard⟩ (by simp) rfl)).trans rfl) ?_ rfl (Below.refl _ _)
          obtain ⟨s0, s1, s2, s3, s4, s5, s6, s7, s8, s9, s10⟩ := hc
          go_simp
        refine stepsL_cons (fun a u hc hdd hd hk hdep => ?_) ?_
        ·
          have d98 : (a.tmps[98]?).getD undef = (.agg #[.int .i64 (2), .int .u64 ((0 : Nat) : Int)]) := hdep ⟨37, .data⟩ (by simp) rfl
          have d99 : (a.tmps[99]?).getD undef = (.agg #[.int .i64 (2), .int .u64 ((0 : Nat) : Int)]) := hdep ⟨38, .data⟩ (by simp) rfl
          refine step_val KC KD hc hdd rfl (.slice (some ⟨u.heap.size, 0, none⟩) 2 2) (u.alloc (.cells #[.int .i64 (2), .int .u64 ((0 : Nat) : Int), .int .i64 (2), .int .u64 ((0 : Nat) : Int)] 29)) ((wanted_guard (j := 32) (b := true) (c := true) rfl (hdep ⟨32, .guard⟩ (by simp) rfl)).trans rfl) ?_ ⟨_, 2, rfl, row_two (by first | assumption | decide) (by first | assumption | decide) (by simp) (by simp) (by simp) (by simp)⟩ (below1 _ _)
          go_simp
        refine stepsL_cons (fun a u hc hdd hd hk hdep => ?_) ?_
        ·
          obtain ⟨A100, c100, d100, r100⟩ : rowW [(2, 0), (2, 0)] ((a.tmps[100]?).getD undef) u := hdep ⟨39, .data⟩ (by simp) rfl
          refine step_call KC KD hc hdd rfl 17 #[.int .i64 14, .slice A100 2 c100] ((wanted_guard (j := 32) (b := true) (c := true) rfl (hdep ⟨32, .guard⟩ (by simp) rfl)).trans rfl) (by go_simp) ?_
          exact (D14b.out _ _ u r100).mono (by rintro e w' ⟨rfl, hb⟩; exact ⟨_, rfl, rfl, hb⟩)
        refine stepsL_cons (fun a u hc hdd hd hk hdep => ?_) ?_
        ·
          have d97 : (a.tmps[97]?).getD undef = (.agg #[.int .i64 (2), .int .u64 ((0 : Nat) : Int)]) := hdep ⟨36, .data⟩ (by simp) rfl
          have d101 : (a.tmps[101]?).getD undef = (.agg #[.int .i64 (2), .int .u64 ((0 : Nat) : Int)]) := hdep ⟨40, .data⟩ (by simp) rfl
          refine step_val KC KD hc hdd rfl (.bool true) u ((wanted_guard (j := 32) (b := true) (c := true) rfl (hdep ⟨32, .guard⟩ (by simp) rfl)).trans rfl) ?_ rfl (Below.refl _ _)
          go_simp
        refine stepsL_cons (fun a u hc hdd hd hk hdep => ?_) ?_
        ·
          have d93 : (a.tmps[93]?).getD undef = (.bool true) := hdep ⟨32, .data⟩ (by simp) rfl
          have d102 : (a.tmps[102]?).getD undef = (.bool true) := hdep ⟨41, .data⟩ (by simp) rfl
          refine step_val KC KD hc hdd rfl (.bool true) u (wanted_plain rfl) ?_ rfl (Below.refl _ _)
          first | (go_simp; done) | rfl
        refine stepsL_cons (fun a u hc hdd hd hk hdep => ?_) ?_
        ·
          have d103 : (a.tmps[103]?).getD undef = (.bool true) := hdep ⟨42, .data⟩ (by simp) rfl
          refine step_val KC KD hc hdd rfl (.bool true) u (wanted_plain rfl) ?_ rfl (Below.refl _ _)
          first | (go_simp; done) | rfl
        exact stepsL_nil
      intro vs8 wE hE hh
      obtain ⟨e0, e1, e2, e3, e4, e5, e6, e7, e8, e9, e10, e11, e12, e13, e14, e15, e16, e17, e18, e19, e20, e21, e22, e23, e24, e25, e26, e27, e28, e29, e30, e31, e32, e33, e34, e35, e36, e37, e38, e39, e40, e41, e42, e43, -⟩ := hh
      have eL : vs8 43 = (.bool true) := e43
      clear e0 e1 e2 e3 e4 e5 e6 e7 e8 e9 e10 e11 e12 e13 e14 e15 e16 e17 e18 e19 e20 e21 e22 e23 e24 e25 e26 e27 e28 e29 e30 e31 e32 e33 e34 e35 e36 e37 e38 e39 e40 e41 e42 e43
      set_option maxRecDepth 100000 in simp only [putAll, Act.put, List.setIfInBounds_toArray, List.set_cons_zero, List.set_cons_succ, eL]
      obtain ⟨ra, rb, rc, rd, s5a, s5b, s6a, s6b, s7a, s7b, hB9⟩ := hE
      go_wp2
      go_ret
      exact ⟨rfl, hB9⟩

set_option maxRecDepth 100000 in
theorem lifted (os : Os) (started : os.Started) (H : Type) (enc : TypeId × Value → H) :
    ReturnsInHanded {} Try.checked os 8 .any (Rows.valueComparesSpec.pre6 enc Try.prog Try.f8 Rows.valueComparesRow.domain false) (Rows.valueComparesSpec.post enc Try.prog Try.f8 false true false false) := by
  refine returnsInHanded_of_change (C := Try.checked) own started (by kernel_rfl) Try.func8
    (ChangeSpec.witness6 (enc := enc) (C := Try.checked) false ⟨#[], #[.agg #[.int .i64 0, .int .u64 0], .agg #[.int .i64 0, .int .u64 0]], []⟩ 8 (by kernel_rfl) (by kernel_rfl) (by kernel_rfl) (by kernel_rfl)) ?_
  intro W base args ds gs before hval0 hW hcnd _
  have hval : ∀ (j : Nat) t v, Try.f8.params[j]? = some t → args[j]? = some v → Value.okWide Try.prog W .any base t v := hval0
  have hW' := hW
  obtain ⟨p, q, hA0, hV, rfl, hfz, hnd⟩ := hW
  have hA : DataW.TrodAll enc Try.prog W 0 (fun _ => true) true Try.f8.params.toList args.toList ds p := hA0
  rw [Try.params8] at hA hval
  obtain ⟨v0, vs0, d0, ds0, p0, q0, hargs, rfl, rfl, h0, r0⟩ := trodAll_cons hA
  obtain ⟨v1, vs1, d1, ds1, p1, q1, rfl, rfl, rfl, h1, r1⟩ := trodAll_cons r0
  obtain ⟨rfl, rfl, rfl⟩ := trodAll_nil r1
  obtain rfl : args = #[v0, v1] := by cases args; simp_all
  obtain ⟨rfl, rfl⟩ := trodVars_none hV
  have kk0 := h0
  have lt0 : ∀ x ∈ p0, x.block < W.heap.size := by obtain ⟨m, hm⟩ := kk0; exact DataW.trod_lt m _ _ _ hm
  have kk1 := h1
  have lt1 : ∀ x ∈ p1, x.block < W.heap.size := by obtain ⟨m, hm⟩ := kk1; exact DataW.trod_lt m _ _ _ hm
  obtain ⟨k0, b0, rfl, x0, w0⟩ : ∃ (k : Int) (b : Nat), v0 = .agg #[.int .i64 k, .int .u64 (b : Int)] ∧ (Lit.int .i64 k).wf = true ∧ b < 18446744073709551616 := by
    obtain ⟨c0, c1, y0, y1, m, rfl, _, _, hy0, hy1⟩ := open_agg2 Try.underlying29 (by kernel_rfl) cells29 (hval 0 29 v0 rfl rfl) h0
    obtain ⟨a, e0, _, wa⟩ := DataW.trod_int Try.underlying3 hy0
    obtain ⟨b, e1, _, wb⟩ := DataW.trod_int Try.underlying25 hy1
    simp at e0 e1
    subst e0 e1
    obtain ⟨n, rfl, hn⟩ := nat_of_wf wb
    exact ⟨a, n, rfl, wa, hn⟩
  obtain ⟨k1, b1, rfl, x1, w1⟩ : ∃ (k : Int) (b : Nat), v1 = .agg #[.int .i64 k, .int .u64 (b : Int)] ∧ (Lit.int .i64 k).wf = true ∧ b < 18446744073709551616 := by
    obtain ⟨c0, c1, y0, y1, m, rfl, _, _, hy0, hy1⟩ := open_agg2 Try.underlying29 (by kernel_rfl) cells29 (hval 1 29 v1 rfl rfl) h1
    obtain ⟨a, e0, _, wa⟩ := DataW.trod_int Try.underlying3 hy0
    obtain ⟨b, e1, _, wb⟩ := DataW.trod_int Try.underlying25 hy1
    simp at e0 e1
    subst e0 e1
    obtain ⟨n, rfl, hn⟩ := nat_of_wf wb
    exact ⟨a, n, rfl, wa, hn⟩
  clear hA0 hval0
  refine (walk W k0 b0 x0 w0 k1 b1 x1 w1).mono fun e W' ⟨he, bel⟩ => ?_
  subst he
  exact ⟨_, rfl, _, _, _, [], _, [], hW', trodAll_mk1 (shut_bool Try.underlying4 _), (trodAll_cons_mk (Below.trod laidOut (by kernel_rfl) (of_decide_eq_true (by kernel_rfl)) kk0 bel lt0) (trodAll_cons_mk (Below.trod laidOut (by kernel_rfl) (of_decide_eq_true (by kernel_rfl)) kk1 bel lt1) trodAll_mk0)), rfl, bel.frame _, fun h => by cases h⟩

theorem over : Rows.valueComparesRow.holds Try.pinned (OpenSpec.ofChange Rows.valueComparesSpec) :=
  OpenClaim.holds_of_wide 8 Try.f8 rfl rfl rfl rfl rfl rfl rfl ⟨rfl, rfl, rfl, rfl, rfl⟩ rfl rfl rfl rfl rfl (by kernel_rfl) Try.func8 (by kernel_rfl)
    (of_decide_eq_true (by kernel_rfl)) (by unfold Func.isWrapper; first | (rw [if_pos (by decide +kernel)]; kernel_rfl) | (rw [if_neg (by decide +kernel)]; exact ⟨rfl, rfl⟩))
    (fun os started H enc _ => lifted os started H enc)

/-- the statement -/
theorem proved : Rows.ValueComparesSaid :=
  over
#print axioms proved
end Go.Proofs.Ytocciehjpgkceaa.valueCompares
