/- LexBack: the tokens of any text, spelt with blanks between, are read as they were, their places aside, unless that text is too long. -/
import Derived.Test.YteojcohmocbakaaDoorRows
import Derived.Test.YteojcohmocbakaaDoorCards
import Derived.Test.YteojcohmocbakaaDoorTie
import Derived.LaidMore
import Derived.Lay
import Derived.LaidLaws
import Derived.ChangeVars
import Derived.SevenTiedAt
import Derived.Stop.Joined
import Derived.Stop.LaidErr
import Derived.Lib.LaidTab
import Derived.Lib.ItoaNum
import Derived.WalkKit
import Derived.ProofKit
import Derived.OpenShut
import Derived.ShutString
import Derived.ChangeOld
import Derived.Below
import Derived.Lib.SmallJoins
import Derived.SizedLaws
import Derived.Test.YteojcohmocbakaaDoorLexZ
import Derived.Test.YteojcohmocbakaaDoorInvG
namespace Go.Proofs.YteojcohmocbakaaDoor.lexBack
open Go.ChangeShapes Go.WideShapes Go.ChangeAt Go.RowKit Go.Joins
set_option linter.unusedVariables false
set_option linter.unusedSimpArgs false

theorem own : ownKnob Tryd.prog.godebug = none := by kernel_rfl
theorem laidOut : laidOutB Tryd.prog = true := by kernel_rfl

def blanksL : List (List UInt8) := [[32], [10], [9], [13], [32, 32]]
theorem blank_cell (w : World) (q : Nat) (bq : List UInt8) (h : blanksL[q]? = some bq) : (w.alloc (.cells #[.string ⟨#[32]⟩, .string ⟨#[10]⟩, .string ⟨#[9]⟩, .string ⟨#[13]⟩, .string ⟨#[32, 32]⟩] 9)).cell? ⟨w.heap.size, q, none⟩ = some (.string (ba bq)) := by
  have hk : q < 5 := (List.getElem?_eq_some_iff.1 h).1
  match q, hk with
  | 0, _ | 1, _ | 2, _ | 3, _ | 4, _ =>
    injection h with h
    subst h
    simp [go_sem, ba]
theorem blank_all (q : Nat) (bq : List UInt8) (h : blanksL[q]? = some bq) : (∀ x ∈ bq, blkC (x.toNat : Int) = true) ∧ bq ≠ [] ∧ bq.length ≤ 2 := by
  have hm : bq ∈ blanksL := List.mem_of_getElem? h
  have : ∀ b ∈ blanksL, (∀ x ∈ b, blkC (x.toNat : Int) = true) ∧ b ≠ [] ∧ b.length ≤ 2 := by decide
  exact this bq hm
def BlW (q : Nat) (b : ByteArray) : Value → World → Prop := fun v w => ∃ g, v = .slice (some ⟨g, 0, none⟩) 5 5 ∧ w.cell? ⟨g, q, none⟩ = some (.string b)
def PtW (q : Nat) (b : ByteArray) : Value → World → Prop := fun v w => ∃ g, v = .pointer (some ⟨g, q, none⟩) ∧ w.cell? ⟨g, q, none⟩ = some (.string b)
theorem blw_mono (q : Nat) (b : ByteArray) : G.MonoW (BlW q b) := fun v w w' ⟨g, h1, h2⟩ hb => ⟨g, h1, cell_later hb h2⟩
theorem ptw_mono (q : Nat) (b : ByteArray) : G.MonoW (PtW q b) := fun v w w' ⟨g, h1, h2⟩ hb => ⟨g, h1, cell_later hb h2⟩
theorem keepB {w0 wr w1 : World} {a0 a1 a2 a3 a4 : Addr} {v0 v1 v2 v3 v4 : Value} (hb : Below wr.heap.size wr w1)
    (h : wr.cell? a0 = some v0 ∧ wr.cell? a1 = some v1 ∧ wr.cell? a2 = some v2 ∧ wr.cell? a3 = some v3 ∧ wr.cell? a4 = some v4 ∧ Tab wr ∧ Below w0.heap.size w0 wr) :
    w1.cell? a0 = some v0 ∧ w1.cell? a1 = some v1 ∧ w1.cell? a2 = some v2 ∧ w1.cell? a3 = some v3 ∧ w1.cell? a4 = some v4 ∧ Tab w1 ∧ Below w0.heap.size w0 w1 :=
  ⟨cell_later hb h.1, cell_later hb h.2.1, cell_later hb h.2.2.1, cell_later hb h.2.2.2.1, cell_later hb h.2.2.2.2.1, h.2.2.2.2.2.1.later hb, mmore h.2.2.2.2.2.2 hb⟩
def At8 (x : ByteArray) : Act → World → Prop := fun a _ => (a.tmps[8]?).getD undef = .string x
theorem keeps8 (x : ByteArray) : G.KeepsD (At8 x) [8] := fun a d v w w' h _ hd => by
  unfold At8 at h ⊢
  cases d with
  | none => exact h
  | some k =>
    have hk : k ≠ 8 := by simpa using hd
    simp only [Act.put]
    rw [Array.getElem?_setIfInBounds_ne hk]
    exact h
theorem join_snoc (B : List UInt8) (Gs : List (Tok × List UInt8)) (k : Nat) (g : Tok × List UInt8) (h : Gs[k]? = some g) : joinB B (Gs.take (k + 1)) = joinB B (Gs.take k) ++ (g.2 ++ B) := by
  rw [List.take_add_one, h]
  unfold joinB
  simp
theorem join_le (B : List UInt8) (m : Nat) : ∀ Gs : List (Tok × List UInt8), (∀ g ∈ Gs, g.2.length ≤ m) → (joinB B Gs).length ≤ Gs.length * (m + B.length)
  | [], _ => by simp [joinB]
  | g :: Gs, h => by
    have := join_le B m Gs (fun x hx => h x (by simp [hx]))
    have hg := h g (by simp)
    have e : joinB B (g :: Gs) = g.2 ++ B ++ joinB B Gs := rfl
    rw [e, List.length_append, List.length_append, List.length_cons, Nat.add_mul]
    omega
theorem tab_drew {w : World} (h : Tab w) : Tab w.drew := h
theorem u_mod (a : Int) (h : (Lit.int .i64 a).wf = true) : ∃ U q : Nat, IntKind.u64.wrap a = (U : Int) ∧ q = U % 5 ∧ U < 18446744073709551616 := by
  have h1 : 0 ≤ IntKind.u64.wrap a ∧ IntKind.u64.wrap a < 18446744073709551616 := by rw [IntKind.wrap_u64]; omega
  exact ⟨(IntKind.u64.wrap a).toNat, _, by omega, rfl, by omega⟩
set_option maxHeartbeats 8000000 in
set_option maxRecDepth 100000 in
theorem walk (w : World) (htab : Lib.TabIs Tryd.prog w "internal/strconv.uint64pow10" .u64 Lib.pow10Tab) (hE : ErrCell w) (s0 : ByteArray) (w0 : s0.size ≤ maxLen) (a1 : Int) (w1 : (Lit.int .i64 a1).wf = true) :
    Calls Tryd.prog 6 #[.string s0, .int .i64 a1] w fun e w' => e = .returned (.bool true) ∧ Below w.heap.size w w' := by
  obtain ⟨T, e, hS⟩ := ScanR.some_ s0.data.toList.length s0.data.toList 0 (Nat.le_refl _)
  obtain ⟨U, q, hU, hqU, hUl⟩ := u_mod a1 w1
  have hq5 : q < 5 := by omega
  obtain ⟨bl, hbl⟩ : ∃ bl, blanksL[q]? = some bl := ⟨_, List.getElem?_eq_getElem hq5⟩
  obtain ⟨hB1, hB2, hB3⟩ := blank_all q bl hbl
  by_cases hl : s0.size ≤ 4000
  · obtain ⟨ok, p⟩ := e
    cases ok
    · have CS := fun w hE => scan_bad s0 T p w hl hS hE
      replace CS := Lib.hid CS
      clear hS hl htab w0 w1 hU hqU hUl hq5 hbl hB1 hB2 hB3
      go_enter Tryd.func6, Tryd.ntmps6
      go_wp2_with fail
      refine (CS.out _ hE).mono ?_; rintro e w1 ⟨rfl, hb1⟩
      have hE1 := hE.later hb1
      go_wp2_with fail
      refine (awake5 _ hE1).mono ?_; rintro e w2 ⟨rfl, hb2⟩
      have hE2 := hE1.later hb2
      have hB2 := mmore hb1 hb2
      go_wp2_with fail
      refine (awake5 _ hE2).mono ?_; rintro e w3 ⟨rfl, hb3⟩
      have hB3 := mmore hB2 hb3
      go_wp2
      go_ret
      exact ⟨rfl, hB3⟩
    · have CS := fun w hE => scan_ok s0 T p w hl hS hE
      obtain ⟨Gp, hG1, hG2⟩ := hS.pieces
      have hTl := hS.count
      rw [list_size] at hTl hG2
      have hGl : Gp.length = T.length := by have := congrArg List.length hG1; simpa using this
      have hsz : (T ++ [((⟨0, [], 0, 0⟩ : Tok), s0.size)]).length = T.length + 1 := by simp
      -- the spelt texts, the end's too
      obtain ⟨Gs, hGs⟩ : ∃ Gs, Gp ++ [((⟨0, [], 0, 0⟩ : Tok), ([] : List UInt8))] = Gs := ⟨_, rfl⟩
      have hGsl : Gs.length = T.length + 1 := by rw [← hGs]; simp [hGl]
      have hpair : ∀ (k : Nat) (p : Tok × Nat) (g : Tok × List UInt8), (T ++ [((⟨0, [], 0, 0⟩ : Tok), s0.size)])[k]? = some p → Gs[k]? = some g → g.1 = p.1 ∧ SpellR g.1 g.2 ∧ g.2.length ≤ 4000 := by
        intro k p g hp hg
        rw [← hGs] at hg
        have h1 : (T.map Prod.fst ++ [(⟨0, [], 0, 0⟩ : Tok)])[k]? = some p.1 := by
          rw [show T.map Prod.fst ++ [(⟨0, [], 0, 0⟩ : Tok)] = (T ++ [((⟨0, [], 0, 0⟩ : Tok), s0.size)]).map Prod.fst by simp, List.getElem?_map, hp]; rfl
        have h2 : (Gp.map Prod.fst ++ [(⟨0, [], 0, 0⟩ : Tok)])[k]? = some g.1 := by
          rw [show Gp.map Prod.fst ++ [(⟨0, [], 0, 0⟩ : Tok)] = (Gp ++ [((⟨0, [], 0, 0⟩ : Tok), ([] : List UInt8))]).map Prod.fst by simp, List.getElem?_map, hg]; rfl
        rw [hG1, h1] at h2
        injection h2 with h2
        refine ⟨h2.symm, ?_⟩
        rcases List.mem_append.1 (List.mem_of_getElem? hg) with hm | hm
        · obtain ⟨_, _, x3, x4⟩ := hG2 g hm
          exact ⟨x3, by omega⟩
        · simp at hm
          subst hm
          exact ⟨.fin, by simp⟩
      have hall : ∀ g ∈ Gs, g.2.length ≤ 4000 := by
        intro g hg
        rw [← hGs] at hg
        rcases List.mem_append.1 hg with hm | hm
        · obtain ⟨_, _, _, x4⟩ := hG2 g hm
          omega
        · simp at hm
          subst hm
          simp
      -- the text that is made, and its scan
      have hX : joinB bl Gs = joinB bl Gp ++ bl := by rw [← hGs]; simp [joinB]
      obtain ⟨T2, hS2, hm2⟩ := scan_join bl hB1 hB2 Gp 0 (fun g hg => ⟨(hG2 g hg).1, (hG2 g hg).2.1⟩)
      rw [← hX, Nat.zero_add] at hS2
      rw [hG1] at hm2
      have hT2l : T2.length = T.length := by have := congrArg List.length hm2; simpa using this
      have hpair2 : ∀ (k : Nat) (p p2 : Tok × Nat), (T ++ [((⟨0, [], 0, 0⟩ : Tok), s0.size)])[k]? = some p → (T2 ++ [((⟨0, [], 0, 0⟩ : Tok), (ba (joinB bl Gs)).size)])[k]? = some p2 → p2.1 = p.1 := by
        intro k p p2 hp hp2
        have h1 : (T.map Prod.fst ++ [(⟨0, [], 0, 0⟩ : Tok)])[k]? = some p.1 := by
          rw [show T.map Prod.fst ++ [(⟨0, [], 0, 0⟩ : Tok)] = (T ++ [((⟨0, [], 0, 0⟩ : Tok), s0.size)]).map Prod.fst by simp, List.getElem?_map, hp]; rfl
        have h2 : (T2.map Prod.fst ++ [(⟨0, [], 0, 0⟩ : Tok)])[k]? = some p2.1 := by
          rw [show T2.map Prod.fst ++ [(⟨0, [], 0, 0⟩ : Tok)] = (T2 ++ [((⟨0, [], 0, 0⟩ : Tok), (ba (joinB bl Gs)).size)]).map Prod.fst by simp, List.getElem?_map, hp2]; rfl
        rw [hm2, h1] at h2
        injection h2 with h2
        exact h2.symm
      have hsz2 : (T2 ++ [((⟨0, [], 0, 0⟩ : Tok), (ba (joinB bl Gs)).size)]).length = T.length + 1 := by simp [hT2l]
      have CS2 := fun (hle : (ba (joinB bl Gs)).size ≤ 4000) w hE => scan_ok (ba (joinB bl Gs)) T2 _ w hle hS2 hE
      rw [hT2l] at CS2
      have CL2 := fun (hgt : ¬ (ba (joinB bl Gs)).size ≤ 4000) w => scan_long (ba (joinB bl Gs)) w hgt
      generalize T2 ++ [((⟨0, [], 0, 0⟩ : Tok), (ba (joinB bl Gs)).size)] = L2 at *
      generalize T ++ [((⟨0, [], 0, 0⟩ : Tok), s0.size)] = L at *
      simp only [← hsz] at CS CS2
      rw [← hsz] at hGsl hsz2
      have hL1 : L.length ≤ 4001 := by omega
      have hblk := fun u => blank_cell u q bl hbl
      have hm1 : (U : Int) % 5 = (q : Int) := by omega
      have hmT : (U : Int).tmod 5 = (q : Int) := by rw [Int.tmod_eq_emod_of_nonneg (by omega)]; omega
      have hm3 : IntKind.u64.wrap (q : Int) = (q : Int) := by rw [IntKind.wrap_u64]; omega
      have hm4 : IntKind.i64.wrap (q : Int) = (q : Int) := by rw [IntKind.wrap_i64]; omega
      have hq5' : (q : Int) < 5 := by omega
      have hq0' : (0 : Int) ≤ (q : Int) := by omega
      replace CS := Lib.hid CS
      replace CS2 := Lib.hid CS2
      replace CL2 := Lib.hid CL2
      replace hpair := Lib.hid hpair
      replace hpair2 := Lib.hid hpair2
      replace hGsl := Lib.hid hGsl
      replace hsz2 := Lib.hid hsz2
      replace hall := Lib.hid hall
      replace hblk := Lib.hid hblk
      clear hS w0 hsz hS2 hm2 hT2l hX hGs hGl hG1 hG2 hTl hB1 hB2 hbl w1 hqU
      go_enter Tryd.func6, Tryd.ntmps6
      go_wp2_with fail
      refine (CS.out _ hE).mono ?_; rintro e w1 ⟨g, cap, rfl, hT1, hb1⟩
      have hE1 := hE.later hb1
      have ht1 := Tab.later htab hb1
      replace hT1 := Lib.hid hT1
      go_wp2_with fail
      refine (awake5 _ hE1).mono ?_; rintro e w2 ⟨rfl, hb2⟩
      have hE2 := Lib.hid (hE1.later hb2)
      have ht2 := Lib.hid (ht1.later hb2)
      have hB2 := mmore hb1 hb2
      have hT1 := hT1.out.later hb2
      obtain ⟨ga, ca, e1, k1, k2, k3, k4⟩ := hT1
      cases e1
      replace k4 := Lib.hid k4
      have n3 : cap ≤ 9223372036854775807 := by unfold maxLen at k2; omega
      go_wp2_with fail
      go_loopw [8, 30] (fun tx i wr => ∃ k : Nat, k ≤ L.length ∧ i = .int .i64 (k : Int) ∧ tx = .string (ba (joinB bl (Gs.take k))) ∧ Below w2.heap.size w2 wr) (fun _ i _ => L.length - (intOf i).toNat)
      case atStart => exact ⟨0, Nat.zero_le _, rfl, by simp [joinB, ba], Below.refl _ _⟩
      case round =>
        obtain ⟨k, hk, rfl, rfl, hB⟩ := hrel
        by_cases hlt : k < L.length
        · have hp : L[k]? = some L[k] := List.getElem?_eq_getElem hlt
          obtain ⟨gk, hgk⟩ : ∃ gk, Gs[k]? = some gk := ⟨_, List.getElem?_eq_getElem (by rw [hGsl.out]; exact hlt)⟩
          obtain ⟨a0, a1', a2, a3, a4⟩ := k4.out k _ hp
          obtain ⟨y1, y2, y3⟩ := hpair.out k _ _ hp hgk
          generalize L[k] = pk at *
          obtain ⟨⟨kd, t, n, sc⟩, at_⟩ := pk
          obtain ⟨tk, z⟩ := gk
          simp only at a0 a1' a2 a3 a4 y1 y2 y3
          subst y1
          have S1 : ∀ w, Tab w → Calls Tryd.prog 12 #[.agg #[.int .i64 kd, .string (ba t), .int .i64 n, .int .i64 sc, .int .i64 (at_ : Int)]] w fun e w' => e = .returned (.string (ba z)) ∧ Below w.heap.size w w' := fun w h => (spelt_both y2 y3).1 at_ w h
          have hsn := join_snoc bl Gs k _ hgk
          have hcat : ba (joinB bl (Gs.take k)) ++ (ba z ++ ba bl) = ba (joinB bl (Gs.take (k + 1))) := by
            rw [hsn, ← ba_of (ba (joinB bl (Gs.take k)) ++ (ba z ++ ba bl)), list_append, list_append, ba_list, ba_list, ba_list]
          have hjl := join_le bl 4000 (Gs.take k) (fun g hg => hall.out g (List.mem_of_mem_take hg))
          rw [List.length_take, hGsl.out] at hjl
          have hxz := ba_size (joinB bl (Gs.take k))
          have hzz := ba_size z
          have hbz := ba_size bl
          have hmul : min k L.length * (4000 + bl.length) ≤ 4001 * 4002 := Nat.mul_le_mul (by omega) (by omega)
          have q1 : ¬ 9223372036854775807 < (ba z).size + (ba bl).size := by omega
          have q2 : ¬ 9223372036854775807 < (ba (joinB bl (Gs.take k))).size + ((ba z).size + (ba bl).size) := by omega
          replace hcat := Lib.hid hcat
          clear hsn hjl hxz hzz hbz hmul y2 y3 hgk hp
          generalize ba (joinB bl (Gs.take k)) = x at *
          generalize ba z = y at *
          have hblk := hblk.out
          generalize ba bl = bb at *
          replace S1 := Lib.hid S1
          replace hblk := Lib.hid hblk
          have hz := (by omega : (k : Int) < (L.length : Int))
          have hz0 : (0 : Int) ≤ (k : Int) := by omega
          have a0 := cell_later hB a0
          have a1' := cell_later hB a1'
          have a2 := cell_later hB a2
          have a3 := cell_later hB a3
          have a4 := cell_later hB a4
          have g1 := mblock a0
          go_upto_region 8 with (fail)
          have hu := m1 wr (.cells #[.int .i64 kd, .string (ba t), .int .i64 n, .int .i64 sc, .int .i64 (at_ : Int)] 33)
          have hB2' := mmore hB hu
          have c0 : (wr.alloc (.cells #[.int .i64 kd, .string (ba t), .int .i64 n, .int .i64 sc, .int .i64 (at_ : Int)] 33)).cell? ⟨wr.heap.size, 0, none⟩ = some (.int .i64 kd) := by simp [go_sem]
          have c1 : (wr.alloc (.cells #[.int .i64 kd, .string (ba t), .int .i64 n, .int .i64 sc, .int .i64 (at_ : Int)] 33)).cell? ⟨wr.heap.size, 1, none⟩ = some (.string (ba t)) := by simp [go_sem]
          have c2 : (wr.alloc (.cells #[.int .i64 kd, .string (ba t), .int .i64 n, .int .i64 sc, .int .i64 (at_ : Int)] 33)).cell? ⟨wr.heap.size, 2, none⟩ = some (.int .i64 n) := by simp [go_sem]
          have c3 : (wr.alloc (.cells #[.int .i64 kd, .string (ba t), .int .i64 n, .int .i64 sc, .int .i64 (at_ : Int)] 33)).cell? ⟨wr.heap.size, 3, none⟩ = some (.int .i64 sc) := by simp [go_sem]
          have c4 : (wr.alloc (.cells #[.int .i64 kd, .string (ba t), .int .i64 n, .int .i64 sc, .int .i64 (at_ : Int)] 33)).cell? ⟨wr.heap.size, 4, none⟩ = some (.int .i64 (at_ : Int)) := by simp [go_sem]
          have htu := ht2.out.later hB2'
          generalize wr.alloc (.cells #[.int .i64 kd, .string (ba t), .int .i64 n, .int .i64 sc, .int .i64 (at_ : Int)] 33) = u0 at *
          generalize wr.heap.size = qb at *
          clear a0 a1' a2 a3 a4 hB hu g1
          generalize ba t = tt at *
          have KD := keeps8 x
          have KC : G.KeepsC (fun w' => w'.cell? ⟨qb, 0, none⟩ = some (.int .i64 kd) ∧ w'.cell? ⟨qb, 1, none⟩ = some (.string tt) ∧ w'.cell? ⟨qb, 2, none⟩ = some (.int .i64 n) ∧ w'.cell? ⟨qb, 3, none⟩ = some (.int .i64 sc) ∧ w'.cell? ⟨qb, 4, none⟩ = some (.int .i64 (at_ : Int)) ∧ Tab w' ∧ Below u0.heap.size u0 w') := fun _ _ h hb => keepB hb h
          refine G.region_wordsG 12 (fun w' => w'.cell? ⟨qb, 0, none⟩ = some (.int .i64 kd) ∧ w'.cell? ⟨qb, 1, none⟩ = some (.string tt) ∧ w'.cell? ⟨qb, 2, none⟩ = some (.int .i64 n) ∧ w'.cell? ⟨qb, 3, none⟩ = some (.int .i64 sc) ∧ w'.cell? ⟨qb, 4, none⟩ = some (.int .i64 (at_ : Int)) ∧ Tab w' ∧ Below u0.heap.size u0 w') (At8 x) [G.isW (.string x), G.isW (.agg #[.int .i64 kd, .string tt, .int .i64 n, .int .i64 sc, .int .i64 (at_ : Int)]), G.isW (.string y), BlW q bb, G.isW (.int .i64 a1), G.isW (.int .u64 (U : Int)), G.isW (.int .u64 (q : Int)), G.isW (.int .i64 (q : Int)), PtW q bb, G.isW (.string bb), G.isW (.string (y ++ bb)), G.isW (.string (x ++ (y ++ bb)))] (by kernel_rfl) (by repeat' (first | exact G.monoL_nil | exact G.is_mono _ | exact G.any_mono | exact blw_mono _ _ | exact ptw_mono _ _ | refine G.monoL_cons ?_ ?_)) (by kernel_rfl) (by kernel_rfl) ⟨c0, c1, c2, c3, c4, tab_drew htu, (Below.refl _ _).drew⟩ (by simp [At8]) ?_ ?_
          ·
            refine G.stepsL_cons (fun a u hc hdd hd hk hdep => ?_) ?_
            ·
              have d8 : (a.tmps[8]?).getD undef = (.string x) := hdd
              refine G.step_val KC KD hc hdd rfl (.string x) u (G.wanted_plain rfl) ?_ rfl (Below.refl _ _)
              first | (go_simp; done) | rfl | (simp [go_sem, *]; done)
            refine G.stepsL_cons (fun a u hc hdd hd hk hdep => ?_) ?_
            ·
              have d10 : (a.tmps[10]?).getD undef = (.pointer (some ⟨qb, 0, none⟩)) := hk 10 (by kernel_rfl)
              refine G.step_val KC KD hc hdd rfl (.agg #[.int .i64 kd, .string tt, .int .i64 n, .int .i64 sc, .int .i64 (at_ : Int)]) u (G.wanted_plain rfl) ?_ rfl (Below.refl _ _)
              first | (go_simp; done) | rfl | (simp [go_sem, *]; done)
            refine G.stepsL_cons (fun a u hc hdd hd hk hdep => ?_) ?_
            ·
              have d35 : (a.tmps[35]?).getD undef = (.agg #[.int .i64 kd, .string tt, .int .i64 n, .int .i64 sc, .int .i64 (at_ : Int)]) := hdep ⟨1, .data⟩ (by simp) rfl
              refine G.step_call KC KD hc hdd rfl 12 #[(.agg #[.int .i64 kd, .string tt, .int .i64 n, .int .i64 sc, .int .i64 (at_ : Int)])] (G.wanted_plain rfl) (by first | (go_simp; done) | rfl) ?_
              exact (S1.out u hc.2.2.2.2.2.1).mono (by rintro e w' ⟨rfl, hb⟩; exact ⟨_, rfl, rfl, hb⟩)
            refine G.stepsL_cons (fun a u hc hdd hd hk hdep => ?_) ?_
            ·
              refine G.step_val KC KD hc hdd rfl (.slice (some ⟨u.heap.size, 0, none⟩) 5 5) (u.alloc (.cells #[.string ⟨#[32]⟩, .string ⟨#[10]⟩, .string ⟨#[9]⟩, .string ⟨#[13]⟩, .string ⟨#[32, 32]⟩] 9)) (G.wanted_plain rfl) ?_ ⟨u.heap.size, rfl, hblk.out u⟩ (m1 _ _)
              first | (go_simp; done) | rfl | (simp [go_sem, *]; done)
            refine G.stepsL_cons (fun a u hc hdd hd hk hdep => ?_) ?_
            ·
              have d1 : (a.tmps[1]?).getD undef = (.int .i64 a1) := hk 1 (by kernel_rfl)
              refine G.step_val KC KD hc hdd rfl (.int .i64 a1) u (G.wanted_plain rfl) ?_ rfl (Below.refl _ _)
              first | (go_simp; done) | rfl | (simp [go_sem, *]; done)
            refine G.stepsL_cons (fun a u hc hdd hd hk hdep => ?_) ?_
            ·
              have d38 : (a.tmps[38]?).getD undef = (.int .i64 a1) := hdep ⟨4, .data⟩ (by simp) rfl
              refine G.step_val KC KD hc hdd rfl (.int .u64 (U : Int)) u (G.wanted_plain rfl) ?_ rfl (Below.refl _ _)
              first | (go_simp; done) | rfl | (simp [go_sem, *]; done)
            refine G.stepsL_cons (fun a u hc hdd hd hk hdep => ?_) ?_
            ·
              have d39 : (a.tmps[39]?).getD undef = (.int .u64 (U : Int)) := hdep ⟨5, .data⟩ (by simp) rfl
              refine G.step_val KC KD hc hdd rfl (.int .u64 (q : Int)) u (G.wanted_plain rfl) ?_ rfl (Below.refl _ _)
              first | (go_simp; done) | rfl | (simp [go_sem, *]; done)
            refine G.stepsL_cons (fun a u hc hdd hd hk hdep => ?_) ?_
            ·
              have d40 : (a.tmps[40]?).getD undef = (.int .u64 (q : Int)) := hdep ⟨6, .data⟩ (by simp) rfl
              refine G.step_val KC KD hc hdd rfl (.int .i64 (q : Int)) u (G.wanted_plain rfl) ?_ rfl (Below.refl _ _)
              first | (go_simp; done) | rfl | (simp [go_sem, *]; done)
            refine G.stepsL_cons (fun a u hc hdd hd hk hdep => ?_) ?_
            ·
              have d37' : (BlW q bb) ((a.tmps[37]?).getD undef) u := hdep ⟨3, .data⟩ (by simp) rfl
              obtain ⟨gq, d37, hcq⟩ := d37'
              have d41 : (a.tmps[41]?).getD undef = (.int .i64 (q : Int)) := hdep ⟨7, .data⟩ (by simp) rfl
              refine G.step_val KC KD hc hdd rfl (.pointer (some ⟨gq, q, none⟩)) u (G.wanted_plain rfl) ?_ ⟨gq, rfl, hcq⟩ (Below.refl _ _)
              first | (go_simp; done) | rfl | (simp [go_sem, *]; done)
            refine G.stepsL_cons (fun a u hc hdd hd hk hdep => ?_) ?_
            ·
              have d42' : (PtW q bb) ((a.tmps[42]?).getD undef) u := hdep ⟨8, .data⟩ (by simp) rfl
              obtain ⟨gp, d42, hcp⟩ := d42'
              refine G.step_val KC KD hc hdd rfl (.string bb) u (G.wanted_plain rfl) ?_ rfl (Below.refl _ _)
              first | (go_simp; done) | rfl | (simp [go_sem, *]; done)
            refine G.stepsL_cons (fun a u hc hdd hd hk hdep => ?_) ?_
            ·
              have d36 : (a.tmps[36]?).getD undef = (.string y) := hdep ⟨2, .data⟩ (by simp) rfl
              have d43 : (a.tmps[43]?).getD undef = (.string bb) := hdep ⟨9, .data⟩ (by simp) rfl
              refine G.step_val KC KD hc hdd rfl (.string (y ++ bb)) u (G.wanted_plain rfl) ?_ rfl (Below.refl _ _)
              first | (go_simp; done) | rfl | (simp [go_sem, *]; done)
            refine G.stepsL_cons (fun a u hc hdd hd hk hdep => ?_) ?_
            ·
              have d34 : (a.tmps[34]?).getD undef = (.string x) := hdep ⟨0, .data⟩ (by simp) rfl
              have d44 : (a.tmps[44]?).getD undef = (.string (y ++ bb)) := hdep ⟨10, .data⟩ (by simp) rfl
              refine G.step_val KC KD hc hdd rfl (.string (x ++ (y ++ bb))) u (G.wanted_plain rfl) ?_ rfl (Below.refl _ _)
              first | (go_simp; done) | rfl | (simp [go_sem, *]; done)
            exact G.stepsL_nil
          intro vs' wN hN _ hh
          have eL : vs' 11 = .string (x ++ (y ++ bb)) := by
            obtain ⟨-, -, -, -, -, -, -, -, -, -, -, eX, -⟩ := hh
            exact eX
          clear hh
          set_option maxRecDepth 100000 in simp only [List.take_succ_cons, List.take_zero, putAll, Act.put, List.setIfInBounds_toArray, List.set_cons_zero, List.set_cons_succ, Nat.reduceAdd, eL]
          refine wpAny_ready (rs := [12]) (by kernel_rfl) (by simp) ?_
          refine AllReady.cons rfl (fun K hK => ?_) AllReady.nil
          go_simp
          refine hK _ _ ?_
          clear hK K
          refine wpAny_done (by kernel_rfl) ?_ _
          obtain ⟨-, -, -, -, -, -, hBN⟩ := hN
          have hBN2 := mmore hB2' hBN
          clear c0 c1 c2 c3 c4 htu S1 hblk hBN hB2'
          rw [hcat.out]
          go_wp2_with fail
          go_roundw
          case rel => exact ⟨k + 1, by omega, by go_num, rfl, hBN2⟩
          case measure => simp [intOf]; omega
        · obtain rfl : k = L.length := by omega
          rw [List.take_of_length_le (by rw [hGsl.out]; exact Nat.le_refl _)]
          generalize ba (joinB bl Gs) = x at *
          have hBx := mmore hB2 hB
          have hEx := hE2.out.later hB
          by_cases hle : x.size ≤ 4000
          · have C2 := CS2.out hle wr hEx
            have x1 : ¬ (x.size : Int) > 4000 := by omega
            replace C2 := Lib.hid C2
            go_wp2_with fail
            refine C2.out.mono ?_; rintro e w3 ⟨g3, cap3, rfl, hT3, hb3⟩
            have hB3 := mmore hBx hb3
            have hE3 := Lib.hid (hEx.later hb3)
            have hb23 := mmore hB hb3
            obtain ⟨ga3, ca3, e3, m1, m2, m3, m4⟩ := hT3
            rw [← hsz2.out] at e3
            cases e3
            replace m4 := Lib.hid m4
            have n4 : cap3 ≤ 9223372036854775807 := by unfold maxLen at m2; omega
            go_wp2_with fail
            go_loopw [69] (fun i wz => ∃ j : Nat, j ≤ L.length ∧ i = .int .i64 (j : Int) ∧ Below w3.heap.size w3 wz) (fun i _ => L.length - (intOf i).toNat)
            case atStart => exact ⟨0, Nat.zero_le _, rfl, Below.refl _ _⟩
            case round =>
              obtain ⟨j, hj, rfl, hBz⟩ := hrel
              by_cases hjl : j < L.length
              · have hp : L[j]? = some L[j] := List.getElem?_eq_getElem hjl
                obtain ⟨p2, hp2⟩ : ∃ p2, L2[j]? = some p2 := ⟨_, List.getElem?_eq_getElem (by rw [hsz2.out]; exact hjl)⟩
                obtain ⟨a0, a1', a2, a3, -⟩ := k4.out j _ hp
                obtain ⟨b0, b1, b2, b3, -⟩ := m4.out j _ hp2
                have hpe := hpair2.out j _ _ hp hp2
                rw [hpe] at b0 b1 b2 b3
                have hbj := mmore hb23 hBz
                have a0 := cell_later hbj a0
                have a1' := cell_later hbj a1'
                have a2 := cell_later hbj a2
                have a3 := cell_later hbj a3
                have b0 := cell_later hBz b0
                have b1 := cell_later hBz b1
                have b2 := cell_later hBz b2
                have b3 := cell_later hBz b3
                have g1 := mblock a0
                have g2 := mblock b0
                generalize L[j].1 = tk at *
                obtain ⟨kd, t, n, sc⟩ := tk
                simp only at a0 a1' a2 a3 b0 b1 b2 b3
                generalize ba t = tt at *
                have hz := (by omega : (j : Int) < (L.length : Int))
                have hz0 : (0 : Int) ≤ (j : Int) := by omega
                clear hp hp2 hpe hbj
                go_upto_region 18 with (fail) --A
                go_quiet (fail) --B
                have hB5 := Go.below_drewN hBz nq
                clear hBz a0 a1' a2 a3 b0 b1 b2 b3 g1 g2
                generalize wr.drewN nq = wy at *
                go_wp2_with fail --C
                go_roundw
                case rel => exact ⟨j + 1, by omega, by go_num, hB5⟩
                case measure => simp [intOf]; omega
              · obtain rfl : j = L.length := by omega
                go_wp2_with fail --D
                go_ret
                exact ⟨rfl, mmore hB3 hBz⟩
          · have C2 := CL2.out hle wr
            have x1 : (x.size : Int) > 4000 := by omega
            replace C2 := Lib.hid C2
            go_wp2_with fail
            refine C2.out.mono ?_; rintro e w3 ⟨rfl, rfl⟩
            go_wp2
            go_ret
            exact ⟨rfl, hBx⟩
  · have CS := fun w => scan_long s0 w hl
    replace CS := Lib.hid CS
    clear hS hl htab w0 w1 hU hqU hUl hq5 hbl hB1 hB2 hB3
    go_enter Tryd.func6, Tryd.ntmps6
    go_wp2_with fail
    refine (CS.out _).mono ?_; rintro e w1 ⟨rfl, rfl⟩
    go_wp2_with fail
    refine (awake5 _ hE).mono ?_; rintro e w2 ⟨rfl, hb2⟩
    have hE2 := hE.later hb2
    go_wp2_with fail
    refine (awake5 _ hE2).mono ?_; rintro e w3 ⟨rfl, hb3⟩
    have hB3 := mmore hb2 hb3
    go_wp2
    go_ret
    exact ⟨rfl, hB3⟩

theorem laid_met (os : Os) (args : Array Value) : laidMetH Tryd.prog Rows.lexBackRow.laid ((World.laidAll Tryd.prog os Rows.lexBackRow.laid).forCall (fun _ _ => 0) ⟨#[], args, []⟩).memory := by
  rw [MakeChecks.laidMetH_plain _ _ _ (by kernel_rfl)]
  exact laidMet_laidAll _ (by kernel_rfl) (by kernel_rfl)
theorem gPow : Tryd.prog.globalNamed "internal/strconv.uint64pow10" = some 0 := by kernel_rfl
theorem tPow : (Tryd.prog.globals[0]?).map (·.type) = some 85 := by kernel_rfl
theorem of_laid {W : World} (h : laidMetH Tryd.prog Rows.lexBackRow.laid W) : Lib.TabIs Tryd.prog W "internal/strconv.uint64pow10" .u64 Lib.pow10Tab := by
  rw [MakeChecks.laidMetH_plain _ _ _ (by kernel_rfl)] at h
  have h2 : laidMet Tryd.prog (("internal/strconv.uint64pow10", Lib.tabData .u64 Lib.pow10Tab) :: Rows.lexBackRow.laid.drop 3) W := h.tail.tail
  exact Lib.tabIs_of_head gPow tPow Tryd.underlying85 Tryd.underlying52 (by kernel_rfl) (by kernel_rfl) h2

theorem gErr : Tryd.prog.globalNamed "strconv.ErrRange" = some 2 := by kernel_rfl
theorem tErr : (Tryd.prog.globals[2]?).map (·.type) = some 55 := by kernel_rfl
theorem star : "*" ++ "errors.errorString" = "*errors.errorString" := by decide
theorem rowErr (u : TypeId) (h : Tryd.prog.typeName? 3 u = some "*errors.errorString") : u = 110 :=
  typeName_ptr_named (nm := "errors.errorString") (by rw [star]; kernel_rfl) (by kernel_rfl) (by decide) u (by rw [star]; exact h)
theorem cellsErr : Tryd.prog.cellsOf 112 = 1 := by kernel_rfl
theorem cellsStr : Tryd.prog.cellsOf 9 = 1 := by kernel_rfl
theorem of_laid2 {W : World} (h : laidMetH Tryd.prog Rows.lexBackRow.laid W) : ErrCell W := by
  rw [MakeChecks.laidMetH_plain _ _ _ (by kernel_rfl)] at h
  have h2 : laidMet Tryd.prog (("strconv.ErrRange", .iface "*errors.errorString" (.ptr (.agg [.lit (.string [118, 97, 108, 117, 101, 32, 111, 117, 116, 32, 111, 102, 32, 114, 97, 110, 103, 101])]))) :: Rows.lexBackRow.laid.drop 4) W := h.tail.tail.tail
  obtain ⟨a, s, hv, _, _, _⟩ := laid_sentinel h2 gErr tErr Tryd.underlying55 rowErr Tryd.underlying110 Tryd.underlying112 rfl rfl Tryd.underlying9 cellsErr cellsStr
  exact ⟨_, by simpa using World.var?_cell gErr hv 0, .inr ⟨_, _, rfl⟩⟩

set_option maxRecDepth 100000 in
theorem lifted (os : Os) (started : os.Started) (H : Type) (enc : TypeId × Value → H) :
    ReturnsInHanded {} Tryd.checked os 6 .any (fun w args => (Rows.lexBackSpec.pre enc Tryd.prog Tryd.f6 [] false w args ∧ laidMetH Tryd.prog Rows.lexBackRow.laid w) ∧ sizedMet enc Tryd.prog Tryd.f6 (OpenSpec.ofChange Rows.lexBackSpec) false w args) (Rows.lexBackSpec.post enc Tryd.prog Tryd.f6 false true false false) := by
  refine returnsInHanded_of_change_and (C := Tryd.checked) (X := fun w _ => laidMetH Tryd.prog Rows.lexBackRow.laid w) (fun _ _ _ hh h => h.of_heap hh) own started (by kernel_rfl) Tryd.func6
    (ChangeSpec.witness_shaped (enc := enc) (C := Tryd.checked) (os := os) (X := fun w _ => laidMetH Tryd.prog Rows.lexBackRow.laid w) false (World.laidAll Tryd.prog os Rows.lexBackRow.laid) #[.string ⟨#[]⟩, .int .i64 0] 8 (World.laidAll_os _ _ _) (World.shaped_of_ZipB (by kernel_rfl) (by kernel_rfl)) (by kernel_rfl) (by kernel_rfl) (by kernel_rfl) (laid_met os _)) ?_
  intro W base args ds gs before hval0 hW _ hsz0 hL _
  have hTab := of_laid hL
  have hErr := of_laid2 hL
  clear hL
  have hval : ∀ (j : Nat) t v, Tryd.f6.params[j]? = some t → args[j]? = some v → Value.okWide Tryd.prog W .any base t v := hval0
  have hW' := hW
  obtain ⟨p, q, hA0, hV, rfl, hfz, hnd⟩ := hW
  have hA : DataW.TrodAll enc Tryd.prog W 0 (fun _ => true) true Tryd.f6.params.toList args.toList ds p := hA0
  rw [Tryd.params6] at hA hval
  obtain ⟨v0, vs0, d0, ds0, p0, q0, hargs, rfl, rfl, h0, r0⟩ := trodAll_cons hA
  obtain ⟨v1, vs1, d1, ds1, p1, q1, rfl, rfl, rfl, h1, r1⟩ := trodAll_cons r0
  obtain ⟨rfl, rfl, rfl⟩ := trodAll_nil r1
  obtain rfl : args = #[v0, v1] := by cases args; simp_all
  obtain ⟨rfl, rfl⟩ := trodVars_none hV
  have kk0 := h0
  have lt0 : ∀ x ∈ p0, x.block < W.heap.size := by obtain ⟨m, hm⟩ := kk0; exact DataW.trod_lt m _ _ _ hm
  have kk1 := h1
  have lt1 : ∀ x ∈ p1, x.block < W.heap.size := by obtain ⟨m, hm⟩ := kk1; exact DataW.trod_lt m _ _ _ hm
  obtain ⟨s0, rfl, rfl, rfl, w0⟩ := Go.ChangeMaps.open_string Tryd.underlying9 (hval 0 9 v0 rfl rfl) h0
  obtain ⟨a1, rfl, rfl, rfl, w1⟩ := open_int Tryd.underlying3 (hval 1 3 v1 rfl rfl) h1
  clear hA0 hval0
  refine (walk W hTab hErr s0 w0 a1 w1).mono fun e W' ⟨he, bel⟩ => ?_
  subst he
  exact ⟨_, rfl, _, _, _, [], _, [], hW', trodAll_mk1 (shut_bool Tryd.underlying4 _), (trodAll_cons_mk (Below.trod laidOut (by kernel_rfl) (of_decide_eq_true (by kernel_rfl)) kk0 bel lt0) (trodAll_cons_mk (Below.trod laidOut (by kernel_rfl) (of_decide_eq_true (by kernel_rfl)) kk1 bel lt1) trodAll_mk0)), rfl, bel.frame _, fun h => by cases h⟩

theorem over : Rows.lexBackRow.holds Tryd.pinned (OpenSpec.ofChange Rows.lexBackSpec) :=
  OpenClaim.holds_of_wide 6 Tryd.f6 rfl rfl rfl rfl rfl rfl rfl ⟨rfl, rfl, rfl, rfl, rfl⟩ rfl rfl rfl rfl rfl (by kernel_rfl) Tryd.func6 (by kernel_rfl)
    (of_decide_eq_true (by kernel_rfl)) (by unfold Func.isWrapper; first | (rw [if_pos (by decide +kernel)]; kernel_rfl) | (rw [if_neg (by decide +kernel)]; exact ⟨rfl, rfl⟩))
    (fun os started H enc _ => lifted os started H enc)

/-- the statement -/
theorem proved : Rows.LexBackCardSaid :=
  Claim7.holds_tied_plain_at .later [] [.data, .data, .data, .sentinel, .sentinel] true (true, "a9755c1c0f88b364a01093ef6e9dee2a1cb3e8ed2faa419bde6e0218e56281e1") true
    over (fun _ h => by cases h) (by kernel_rfl) (fun _ h => by cases h) lexBack_row_tie rfl ⟨rfl, rfl⟩ (by kernel_rfl) rfl
    (fun f fn hf hfn => by
      obtain rfl : f = 6 := Option.some.inj ((show Tryd.prog.funcNamed "auspice/auspicelaw05.LexBack" = some 6 by kernel_rfl).symm.trans hf) |>.symm
      obtain rfl : fn = Tryd.f6 := (Option.some.inj (Tryd.func6.symm.trans hfn)).symm
      exact ⟨by kernel_rfl, fun j t ht => by
        rw [Tryd.params6] at ht
        have hm : t ∈ [9, 3] := by simpa using Array.mem_of_getElem? ht
        have hall : ([9, 3].all fun u => !Tryd.prog.wantsStandIn u) = true := by kernel_rfl
        exact (show Tryd.prog.wantsStandIn t = false by simpa using List.all_eq_true.1 hall t hm)⟩)
    (by kernel_rfl)
#print axioms proved
end Go.Proofs.YteojcohmocbakaaDoor.lexBack
