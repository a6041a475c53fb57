/- Tokens that are spelt with blanks between are read again: lists. -/
import Derived.Test.YteojcohmocbakaaDoorLexL
namespace Go.Proofs.YteojcohmocbakaaDoor
open Go.ChangeShapes Go.WideShapes Go.ChangeAt Go.RowKit
set_option linter.unusedVariables false
set_option linter.unusedSimpArgs false

theorem blk_not {b : UInt8} (hb : blkC (b.toNat : Int) = true) : okC (b.toNat : Int) = false ∧ digC (b.toNat : Int) = false ∧ letC (b.toNat : Int) = false ∧ b.toNat ≠ 46 ∧ b.toNat ≠ 39 ∧ b ≠ 61 ∧ twoC (b.toNat : Int) = false ∧ oneC (b.toNat : Int) = false := by
  have h : b.toNat = 32 ∨ b.toNat = 9 ∨ b.toNat = 10 ∨ b.toNat = 13 := by
    unfold blkC at hb
    simp at hb
    omega
  have hb2 : b = 32 ∨ b = 9 ∨ b = 10 ∨ b = 13 := by
    rcases h with h | h | h | h
    · exact .inl (UInt8.toNat_inj.1 h)
    · exact .inr (.inl (UInt8.toNat_inj.1 h))
    · exact .inr (.inr (.inl (UInt8.toNat_inj.1 h)))
    · exact .inr (.inr (.inr (UInt8.toNat_inj.1 h)))
  rcases hb2 with rfl | rfl | rfl | rfl <;> decide
theorem first_blk {b : UInt8} (hb : blkC (b.toNat : Int) = true) (r : List UInt8) : (firstF (b :: r)).2 = 0 := by
  obtain ⟨h1, h2, h3, h4, h5, h6, h7, h8⟩ := blk_not hb
  rw [firstF_cons, if_neg (by rw [h3]; simp), if_neg (by rw [h2]; simp), if_neg h5]
  unfold signF
  rw [if_neg (by rw [h7]; simp), if_neg (by rw [h7, h8]; simp)]
  rfl
theorem run_end (p : Int → Bool) (l r : List UInt8) (b : UInt8) (hl : ∀ x ∈ l, p (x.toNat : Int) = true) (hb : p (b.toNat : Int) = false) : runL p (l ++ b :: r) = l :=
  runL_app p l (b :: r) hl (fun _ => hb)
theorem run_full (p : Int → Bool) (l : List UInt8) (h : (runL p l).length = l.length) : runL p l = l := by
  have := runL_take p l
  rw [h, List.take_length] at this
  exact this.symm
theorem numF_blank (z : List UInt8) (t : Tok) (hz : numF z = (t, z.length)) (h0 : z.length ≠ 0) (b : UInt8) (hb : blkC (b.toNat : Int) = true) (r : List UInt8) : numF (z ++ b :: r) = (t, z.length) := by
  obtain ⟨k1, k2, k3, k4, _⟩ := blk_not hb
  have hW := runL_all digC z
  have key : runL digC (z ++ b :: r) = runL digC z ∧ fracF ((z ++ b :: r).drop (runL digC z).length) = fracF (z.drop (runL digC z).length) := by
    unfold numF at hz
    split at hz
    · injection hz with _ h2
      exact absurd h2.symm h0
    · split at hz
      · rename_i _ hp
        injection hz with _ h2
        have hf := run_full digC z h2
        have e1 : runL digC (z ++ b :: r) = z := run_end digC z r b (by rw [← hf]; exact hW) k2
        rw [e1, hf]
        refine ⟨rfl, ?_⟩
        rw [List.drop_left, List.drop_length, fracF_cons, if_neg k4]
        rfl
      · rename_i _ hp
        split at hz
        · injection hz with _ h2
          exact absurd h2.symm h0
        · injection hz with _ h2
          have ht := fracF_take _ hp
          have hl2 : (z.drop (runL digC z).length).length = 1 + (fracF (z.drop (runL digC z).length)).length := by rw [List.length_drop]; omega
          rw [← hl2, List.take_length] at ht
          have hcat : z = runL digC z ++ 46 :: fracF (z.drop (runL digC z).length) := by
            conv => lhs; rw [← List.take_append_drop (runL digC z).length z, runL_take, ht]
          have hP := fracF_dig (z.drop (runL digC z).length)
          generalize fracF (z.drop (runL digC z).length) = P at *
          generalize runL digC z = W at *
          subst hcat
          have e1 : runL digC (W ++ 46 :: P ++ b :: r) = W := by
            rw [List.append_assoc]
            exact run_end digC W (P ++ b :: r) 46 hW (by decide)
          refine ⟨e1, ?_⟩
          rw [List.append_assoc, List.drop_left, List.cons_append, fracF_cons, if_pos (by rfl)]
          exact run_end digC P r b hP k2
  have hh : (z ++ b :: r).headD 0 = z.headD 0 := by
    cases z with
    | nil => exact absurd rfl h0
    | cons c z => rfl
  rw [← hz]
  unfold numF
  rw [key.1, key.2, hh]
theorem first_blank (z : List UInt8) (t : Tok) (hz : firstF z = (t, z.length)) (h0 : z.length ≠ 0) (b : UInt8) (hb : blkC (b.toNat : Int) = true) (r : List UInt8) : firstF (z ++ b :: r) = (t, z.length) := by
  obtain ⟨k1, k2, k3, k4, k5, k6, k7, k8⟩ := blk_not hb
  cases z with
  | nil => exact absurd rfl h0
  | cons c q =>
    rw [firstF_cons] at hz
    show firstF (c :: (q ++ b :: r)) = _
    rw [firstF_cons]
    split at hz
    · rename_i hc
      rw [if_pos hc]
      have e : runL okC (c :: q) = c :: q := by
        apply run_full
        unfold wordF at hz
        split at hz
        · injection hz
        · split at hz
          · injection hz
          · injection hz with _ h2; exact absurd h2.symm h0
      have hall := runL_all okC (c :: q)
      rw [e] at hall
      have e2 : runL okC (c :: (q ++ b :: r)) = c :: q := run_end okC (c :: q) r b hall k1
      rw [← hz]
      unfold wordF
      rw [e2, e]
    · rename_i hc
      rw [if_neg hc]
      split at hz
      · rename_i hd
        rw [if_pos hd]
        exact numF_blank (c :: q) t hz h0 b hb r
      · rename_i hd
        rw [if_neg hd]
        split at hz
        · rename_i hq
          rw [if_pos hq]
          have hz0 := hz
          unfold symF at hz
          split at hz
          · rename_i h1
            injection hz with _ h2
            have hlen : q.length = (runL okC q).length + 1 := by
              have : (runL okC q).length + 2 = q.length + 1 := h2
              omega
            have hdr : q.drop (runL okC q).length = [39] := by
              have h3 := h1.2
              have h4 : (q.drop (runL okC q).length).length = 1 := by rw [List.length_drop]; omega
              cases hx : q.drop (runL okC q).length with
              | nil => rw [hx] at h4; simp at h4
              | cons x xs =>
                rw [hx] at h3 h4
                simp at h3 h4
                rw [h3, h4]
            have hcat : q = runL okC q ++ [39] := by
              conv => lhs; rw [← List.take_append_drop (runL okC q).length q, runL_take, hdr]
            have hall := runL_all okC q
            have e2 : runL okC (q ++ b :: r) = runL okC q := by
              conv => lhs; rw [hcat]
              rw [List.append_assoc]
              exact run_end okC _ (b :: r) 39 hall (by decide)
            have e3 : (q ++ b :: r).drop (runL okC q).length = 39 :: b :: r := by
              conv => lhs; rw [hcat]
              rw [List.append_assoc]
              have : ((runL okC (runL okC q ++ [39])).length) = (runL okC q).length := by
                rw [← hcat]
              rw [this, List.drop_left]
              rfl
            rw [← hz0]
            unfold symF
            rw [e2, e3, hdr]
            rfl
          · injection hz with _ h2; exact absurd h2.symm h0
        · rename_i hq
          rw [if_neg hq]
          have hz0 := hz
          unfold signF at hz ⊢
          split at hz
          · rename_i h1
            have h2 := h1.2
            cases q with
            | nil => cases h2
            | cons d q =>
              rw [if_pos ⟨h1.1, by rw [← h2]; rfl⟩]
              exact hz
          · rename_i h1
            split at hz
            · rename_i h2
              have hz1 := hz
              injection hz with ht hl
              have hq0 : q = [] := by
                cases q with
                | nil => rfl
                | cons d q => simp at hl
              subst hq0
              rw [if_neg (by rintro ⟨_, h⟩; injection h with h; exact k6 h), if_pos h2]
              exact hz1
            · injection hz with _ h3; exact absurd h3.symm h0
/-- the spelt texts with blanks between -/
def joinB (B : List UInt8) (G : List (Tok × List UInt8)) : List UInt8 := G.flatMap fun g => g.2 ++ B
theorem scan_blanks (a : Nat) (r : List UInt8) (T : List (Tok × Nat)) (e : Bool × Nat) : ∀ (B : List UInt8), (∀ x ∈ B, blkC (x.toNat : Int) = true) → ScanR (a + B.length) r T e → ScanR a (B ++ r) T e := by
  intro B
  induction B generalizing a with
  | nil => intro _ h; exact h
  | cons b B ih =>
    intro hb h
    refine .blank a b (B ++ r) T e (hb b (by simp)) ?_
    refine ih (a + 1) (fun x hx => hb x (by simp [hx])) ?_
    rw [show a + 1 + B.length = a + (b :: B).length by rw [List.length_cons]; omega]
    exact h
theorem scan_join (B : List UInt8) (hB : ∀ x ∈ B, blkC (x.toNat : Int) = true) (hB0 : B ≠ []) : ∀ (G : List (Tok × List UInt8)) (a : Nat), (∀ g ∈ G, firstF g.2 = (g.1, g.2.length) ∧ g.2.length ≠ 0) →
    ∃ T, ScanR a (joinB B G ++ B) T (true, a + (joinB B G ++ B).length) ∧ T.map Prod.fst = G.map Prod.fst
  | [], a, _ => by
    refine ⟨[], ?_, rfl⟩
    show ScanR a B [] (true, a + B.length)
    have := scan_blanks a [] [] (true, a + B.length) B hB (.fin _)
    rw [List.append_nil] at this
    exact this
  | g :: G, a, hg => by
    obtain ⟨h1, h2⟩ := hg g (by simp)
    obtain ⟨T, hT, hm⟩ := scan_join B hB hB0 G (a + g.2.length + B.length) (fun x hx => hg x (by simp [hx]))
    obtain ⟨t, z⟩ := g
    simp only at h1 h2 hT
    have hcat : joinB B ((t, z) :: G) ++ B = z ++ (B ++ (joinB B G ++ B)) := by simp [joinB]
    have hlen : a + (joinB B ((t, z) :: G) ++ B).length = a + z.length + B.length + (joinB B G ++ B).length := by rw [hcat]; simp; omega
    rw [hlen, hcat]
    refine ⟨(t, a) :: T, ?_, by simp [hm]⟩
    have hrest : ScanR (a + z.length) (B ++ (joinB B G ++ B)) T (true, a + z.length + B.length + (joinB B G ++ B).length) := scan_blanks _ _ _ _ B hB hT
    cases z with
    | nil => exact absurd rfl h2
    | cons c z =>
      have hf : firstF (c :: z ++ (B ++ (joinB B G ++ B))) = (t, (c :: z).length) := by
        cases B with
        | nil => exact absurd rfl hB0
        | cons b B => exact first_blank (c :: z) t h1 h2 b (hB b (by simp)) _
      have hc : blkC (c.toNat : Int) = false := by
        cases hcb : blkC (c.toNat : Int)
        · rfl
        · have := first_blk hcb z
          rw [h1] at this
          exact absurd this h2
      have := ScanR.tok a c (z ++ (B ++ (joinB B G ++ B))) T (true, a + (c :: z).length + B.length + (joinB B G ++ B).length) hc (by
        rw [show c :: (z ++ (B ++ (joinB B G ++ B))) = c :: z ++ (B ++ (joinB B G ++ B)) from rfl, hf]
        exact h2) (by
        rw [show c :: (z ++ (B ++ (joinB B G ++ B))) = c :: z ++ (B ++ (joinB B G ++ B)) from rfl, hf]
        show ScanR (a + (c :: z).length) ((c :: z ++ (B ++ (joinB B G ++ B))).drop (c :: z).length) _ _
        rw [List.drop_left]
        exact hrest)
      rw [show c :: (z ++ (B ++ (joinB B G ++ B))) = c :: z ++ (B ++ (joinB B G ++ B)) from rfl, hf] at this
      exact this
/-- each token of a scan, with its bytes -/
theorem ScanR.pieces {a : Nat} {l : List UInt8} {T : List (Tok × Nat)} {e : Bool × Nat} (h : ScanR a l T e) : ∃ G : List (Tok × List UInt8), G.map Prod.fst = T.map Prod.fst ∧ ∀ g ∈ G, firstF g.2 = (g.1, g.2.length) ∧ g.2.length ≠ 0 ∧ SpellR g.1 g.2 ∧ g.2.length ≤ l.length := by
  induction h with
  | fin a => exact ⟨[], rfl, fun g hg => by cases hg⟩
  | blank a c r T e h k ih =>
    obtain ⟨G, h1, h2⟩ := ih
    refine ⟨G, h1, fun g hg => ?_⟩
    obtain ⟨x1, x2, x3, x4⟩ := h2 g hg
    exact ⟨x1, x2, x3, by rw [List.length_cons]; omega⟩
  | tok a c r T e h hn k ih =>
    obtain ⟨G, h1, h2⟩ := ih
    have hle := firstF_le (c :: r)
    have hl : ((c :: r).take (firstF (c :: r)).2).length = (firstF (c :: r)).2 := by rw [List.length_take]; omega
    refine ⟨((firstF (c :: r)).1, (c :: r).take (firstF (c :: r)).2) :: G, by simp [h1], fun g hg => ?_⟩
    rcases List.mem_cons.1 hg with rfl | hg
    · refine ⟨?_, ?_, first_spell _ hn, ?_⟩
      · show firstF ((c :: r).take _) = ((firstF (c :: r)).1, ((c :: r).take (firstF (c :: r)).2).length)
        rw [firstF_cut _ _ hn (Nat.le_refl _), hl]
      · show ((c :: r).take _).length ≠ 0
        rw [hl]; exact hn
      · show ((c :: r).take _).length ≤ _
        rw [hl]; exact hle
    · obtain ⟨x1, x2, x3, x4⟩ := h2 g hg
      rw [List.length_drop] at x4
      exact ⟨x1, x2, x3, by omega⟩
  | bad a c r h hn => exact ⟨[], rfl, fun g hg => by cases hg⟩
/-- there are no more tokens than bytes -/
theorem ScanR.count {a : Nat} {l : List UInt8} {T : List (Tok × Nat)} {e : Bool × Nat} (h : ScanR a l T e) : T.length ≤ l.length := by
  induction h with
  | fin a => exact Nat.le_refl _
  | blank a c r T e h k ih => rw [List.length_cons]; omega
  | tok a c r T e h hn k ih =>
    rw [List.length_drop] at ih
    rw [List.length_cons] at ih ⊢
    have hle := firstF_le (c :: r)
    rw [List.length_cons] at hle
    rw [List.length_cons]
    omega
  | bad a c r h hn => exact Nat.zero_le _
end Go.Proofs.YteojcohmocbakaaDoor
