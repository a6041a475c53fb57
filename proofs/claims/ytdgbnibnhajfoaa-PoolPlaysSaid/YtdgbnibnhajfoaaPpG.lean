/- PoolPlays: Hold and Drop, of both. -/
import Derived.Test.YtdgbnibnhajfoaaPpF
namespace Go.Proofs.Ytdgbnibnhajfoaa
open Go.ChangeShapes Go.WideShapes Go.ChangeAt Go.RowKit
set_option linter.unusedVariables false
set_option linter.unusedSimpArgs false

def HoldTo (s : PS) (a : Int) (s1 : PS) : Prop := match findP s a with | some c => s1 = holdP s a.toNat c | none => s1 = s
theorem PP.hold {w : World} {N p r j : Nat} {most : Int} {s : PS} {vC : Value} {u : World} (h : PP w N p r j most s vC u) {g : Nat} (hg : PAt N p (DG N r vC g) s u) (hj : j ≤ 300) (a : Int) (ha : -9223372036854775808 ≤ a ∧ a ≤ 9223372036854775807) :
    Calls Try.prog 13 #[.pointer (some ⟨p, 0, none⟩), .int .i64 a] u fun e u1 => e = .returned (.bool (findP s a).isSome) ∧ ∃ s1, HoldTo s a s1 ∧ POut N p (DG N r vC g) u s1 u1 := by
  unfold HoldTo
  cases hf : findP s a with
  | none =>
    refine (hold_none hg a ha hf).mono ?_
    rintro e w' ⟨rfl, rfl⟩
    exact ⟨rfl, s, rfl, .same hg⟩
  | some c =>
    obtain ⟨k, rfl, hc, hl⟩ := findP_nat hf
    have hp := h.inv.pos k c hc
    refine (hold_some hg k c hf (by omega) (by omega)).mono ?_
    rintro e w' ⟨rfl, h1⟩
    exact ⟨rfl, _, by rw [Int.toNat_natCast], h1⟩
theorem has_both {N r : Nat} {most : Int} {s : PS} {vC : Value} {u : World} (h : RX N r vC most (s.all.map rcl) u) (a : Int) (ha : -9223372036854775808 ≤ a ∧ a ≤ 9223372036854775807) :
    Calls Try.prog 14 #[.pointer (some ⟨r, 0, none⟩), .int .i64 a] u fun e w' => e = .returned (.bool (findP s a).isSome) ∧ u = w' := by
  refine (rhas_any N r vC most _ u h a ha).mono ?_
  rintro e w' ⟨rfl, h2⟩
  refine ⟨?_, h2⟩
  rw [hasR_map]
  cases findP s a <;> rfl
/-- where there is nothing to hold -/
theorem PP.hold_no {w : World} {N p r j : Nat} {most : Int} {s s1 : PS} {vC : Value} {u u1 : World} (hN : w.heap.size = N) (h : PP w N p r j most s vC u) {a : Int} (hf : findP s a = none) (h1 : HoldTo s a s1) (h2 : POut N p (DP N r vC) u s1 u1) : PP w N p r (j + 1) most s vC u1 := by
  unfold HoldTo at h1
  rw [hf] at h1
  have h1 : s1 = s := h1
  subst h1
  obtain ⟨q1, q2, q3⟩ := h.prog hN h2
  exact ⟨h.inv.mono (by omega), h.most_, q1, q2, q3⟩
/-- and where there is: the document's own count is one more -/
theorem PP.hold_yes {w : World} {N p r j : Nat} {most : Int} {s s1 : PS} {vC : Value} {u u1 : World} (hN : w.heap.size = N) (h : PP w N p r j most s vC u) (hj : j ≤ 300) {k : Nat} {c : Cl} (hf : findP s (k : Int) = some c) (h1 : HoldTo s (k : Int) s1) (h2 : POut N p (DP N r vC) u s1 u1) :
    ∃ A cap, vC = .slice (some ⟨A, 0, none⟩) s.all.length cap ∧ s.all.length ≤ 1000 ∧ k < s.all.length ∧ 0 ≤ c.own ∧ c.own ≤ 1000 ∧ RX N r vC (max 0 most) (s.all.map rcl) u1 ∧ u1.cell? ⟨r, 0, none⟩ = some (.slice (some ⟨A, 0, none⟩) s.all.length cap) ∧ u1.cell? ⟨A, k * 6 + 4, none⟩ = some (.int .i64 c.own) ∧ u1.frozen? ⟨A, k * 6 + 4, none⟩ = false ∧
      ∀ m, PP w N p r (j + 1) most s1 vC ((u1.drewN m).setCell ⟨A, k * 6 + 4, none⟩ (.int .i64 (c.own + 1))) := by
  unfold HoldTo at h1
  rw [hf] at h1
  have h1 : s1 = holdP s k c := by rw [h1, Int.toNat_natCast]
  subst h1
  obtain ⟨hc, hl⟩ := findP_some.1 hf
  have hpo := h.inv.pos k c hc
  have hln := h.inv.len
  obtain ⟨q1, q2, q3⟩ := h.prog hN h2
  have hcm : (s.all.map rcl)[k]? = some (rcl c) := by rw [List.getElem?_map, hc]; rfl
  obtain ⟨A, cap, hv, _, _, _, _, _, _, c4, _⟩ := q2.cl hcm
  rw [List.length_map] at hv
  have d0 := q2.blk.cell 0
  have hkl := (List.getElem?_eq_some_iff.1 hc).1
  have hfz : u1.frozen? ⟨A, k * 6 + 4, none⟩ = false := by
    have := (hv ▸ q2).frozen (by rw [List.length_map]; omega) (k * 6 + 4)
    exact this
  rw [rcl_live hl] at c4
  refine ⟨A, cap, hv, by omega, hkl, hpo.1, by omega, q2, by rw [d0, ← hv]; rfl, c4, hfz, fun m => ?_⟩
  have q2m := q2.later (below_dn u1 m)
  have q1m := q1.later (below_dn u1 m)
  have q3m := mmore q3 (below_dn u1 m)
  rw [hv] at q2m
  obtain ⟨p1, p2, _⟩ := q2m.put (j := 4) (v := .int .i64 (c.own + 1)) (c' := { rcl c with own := (rcl c).own + 1 }) hcm (by omega) (by rw [rcl_live hl]; rfl)
  rw [hold_map hc hl hpo.2.1, ← hv] at p1
  have hRN : RNew N r vC (max 0 most) (u1.drewN m) ((holdP s k c).all.map rcl) _ := RNew.of_put hv (Below.refl _ _) p1 p2
  exact ⟨(h.inv.hold hc hl).mono (by omega), h.most_, q1m.fr (PFr.of_grown (D := fun q => q = A) p2 fun q e => by injection e with e; exact e.symm) (fun q hq e => hq.2.2 (by rw [e, hv]; rfl)), p1, PFr.below q3m (PFr.of_grown (D := fun q => q = A) p2 fun q e => by injection e with e; exact e.symm) fun q e => by
    subst e
    rw [hN]
    exact h.rx.own_low (by rw [hv]; rfl)⟩

def dropB (s : PS) (a : Int) : Bool := match findP s a with | some c => decide (c.own ≠ 0) | none => false
def DropL (s : PS) (a : Int) (l : List Cl) : Prop := match findP s a with | some c => if c.own = 0 then l = s.all else Dr (dropS s a.toNat c).all a l | none => l = s.all
theorem DropL.unique {s : PS} {a : Int} {l1 l2 : List Cl} (h1 : DropL s a l1) (h2 : DropL s a l2) : l1 = l2 := by
  unfold DropL at h1 h2
  cases hf : findP s a with
  | none => rw [hf] at h1 h2; exact h1.trans h2.symm
  | some c =>
    rw [hf] at h1 h2
    simp only at h1 h2
    by_cases h0 : c.own = 0
    · rw [if_pos h0] at h1 h2; exact h1.trans h2.symm
    · rw [if_neg h0] at h1 h2; exact h1.unique h2
theorem PP.dropP {N p j : Nat} {s : PS} {D : Nat → Prop} {u : World} (hI : Inv (2 * j) (-1) s) (h : PAt N p D s u) (hj : j ≤ 300) (a : Int) (ha : -9223372036854775808 ≤ a ∧ a ≤ 9223372036854775807) :
    Calls Try.prog 15 #[.pointer (some ⟨p, 0, none⟩), .int .i64 a] u fun e u1 => e = .returned (.bool (dropB s a)) ∧ ∃ s1, DropL s a s1.all ∧ Inv (2 * j) (-1) s1 ∧ s1.most = s.most ∧ POut N p D u s1 u1 := by
  unfold DropL dropB
  cases hf : findP s a with
  | none =>
    refine (drop_no h a ha hf).mono ?_
    rintro e w' ⟨rfl, rfl⟩
    exact ⟨rfl, s, rfl, hI, rfl, .same h⟩
  | some c =>
    obtain ⟨k, rfl, hc, hl⟩ := findP_nat hf
    simp only [Int.toNat_natCast]
    by_cases h0 : c.own = 0
    · refine (drop_none_own h k c hf h0).mono ?_
      rintro e w' ⟨rfl, rfl⟩
      exact ⟨by simp [h0], s, by rw [if_pos h0], hI, rfl, .same h⟩
    · have hp := hI.pos k c hc
      refine (drop_yes h hI (by omega) k c hf (by omega)).mono ?_
      rintro e w' ⟨rfl, s', h1, h2, h3, h4⟩
      exact ⟨by simp [h0], s', by rw [if_neg h0]; exact h2, h1, h3, h4⟩
theorem PP.dropR {N r j : Nat} {m : Int} {s : PS} {vC : Value} {u : World} (hI : Inv (2 * j) (-1) s) (h : RX N r vC m (s.all.map rcl) u) (hj : j ≤ 300) (a : Int) (ha : -9223372036854775808 ≤ a ∧ a ≤ 9223372036854775807) :
    Calls Try.prog 16 #[.pointer (some ⟨r, 0, none⟩), .int .i64 a] u fun e u1 => e = .returned (.bool (dropB s a)) ∧ ∃ l, DropL s a l ∧ RX N r vC m (l.map rcl) u1 ∧ PFr (fun q => vC.ownBlock = some q) u u1 := by
  unfold DropL dropB
  cases hf : findP s a with
  | none =>
    refine (rdrop_no N r vC m _ u h a ha (by rw [hasR_map, hf]; rfl)).mono ?_
    rintro e w' ⟨rfl, rfl⟩
    exact ⟨rfl, _, rfl, h, PFr.refl _ _⟩
  | some c =>
    obtain ⟨k, rfl, hc, hl⟩ := findP_nat hf
    simp only [Int.toNat_natCast]
    have hcm : (s.all.map rcl)[k]? = some (rcl c) := by rw [List.getElem?_map, hc]; rfl
    by_cases h0 : c.own = 0
    · refine (rdrop_own N r vC m _ u h k (rcl c) hcm ((is_rcl c).2 hl) (by rw [rcl_live hl]; exact h0)).mono ?_
      rintro e w' ⟨rfl, rfl⟩
      exact ⟨by simp [h0], _, by rw [if_pos h0], h, PFr.refl _ _⟩
    · have hp := hI.pos k c hc
      refine (rdrop_yes N r (2 * j) vC m s u h hI (by omega) k c hf (by omega)).mono ?_
      rintro e w' ⟨rfl, l', h1, h2, h3⟩
      exact ⟨by simp [h0], l', by rw [if_neg h0]; exact h1, h2, h3⟩
/-- the program's drop, then the document's -/
theorem PP.drop_PR {w : World} {N p r j g : Nat} {most : Int} {s s1 : PS} {l : List Cl} {vC : Value} {u v1 v2 : World} {a : Int} (hN : w.heap.size = N) (h : PP w N p r j most s vC u) (d1 : DropL s a s1.all) (hI : Inv (2 * j) (-1) s1) (hm : s1.most = s.most) (hp : POut N p (DG N r vC g) u s1 v1)
    (d2 : DropL s a l) (hx : RX N r vC (max 0 most) (l.map rcl) v2) (hf : PFr (fun q => vC.ownBlock = some q) v1 v2) : PP w N p r (j + 1) most s1 vC v2 := by
  obtain ⟨q1, q2, q3⟩ := h.prog hN (hp.wk fun k hk => hk.1)
  rw [← d1.unique d2] at hx
  exact ⟨hI.mono (by omega), hm.trans h.most_, q1.fr hf (fun k hk e => hk.2.2 e), hx, PFr.below q3 hf fun k hk => by rw [hN]; exact h.rx.own_low hk⟩
/-- the document's drop, then the program's -/
theorem PP.drop_RP {w : World} {N p r j g : Nat} {most : Int} {s s1 : PS} {l : List Cl} {vC : Value} {u v1 v2 : World} {a : Int} (hN : w.heap.size = N) (h : PP w N p r j most s vC u) (d1 : DropL s a s1.all) (hI : Inv (2 * j) (-1) s1) (hm : s1.most = s.most)
    (d2 : DropL s a l) (hx : RX N r vC (max 0 most) (l.map rcl) v1) (hf : PFr (fun q => vC.ownBlock = some q) u v1) (hp : POut N p (DG N r vC g) v1 s1 v2) : PP w N p r (j + 1) most s1 vC v2 := by
  rw [← d1.unique d2] at hx
  have hb1 : Below w.heap.size w v1 := PFr.below h.below hf fun k hk => by rw [hN]; exact h.rx.own_low hk
  have hz := h.below.size
  have hz1 := hf.size
  have hx2 : RX N r vC (max 0 most) (s1.all.map rcl) v2 := hx.fr hp.2 fun k hk hd => by
    rcases hk with rfl | hk
    · exact hd.1.2.1 rfl
    · exact hd.1.2.2 hk
  refine ⟨hI.mono (by omega), hm.trans h.most_, hp.1.more fun k hk => ?_, hx2, PFr.below hb1 hp.2 fun k hk => by rw [hN]; exact hk.1.1⟩
  rcases hk with hk | hk
  · exact hk.1
  · refine ⟨by have := hb1.size; omega, fun e => ?_, fun e => ?_⟩
    · have := hx.blk.lt; omega
    · have := hx.own_lt e; omega
theorem DG.fr {N p r g : Nat} {vC : Value} {s : PS} {u v1 : World} (h : PAt N p (DG N r vC g) s u) (hf : PFr (fun q => vC.ownBlock = some q) u v1) : PAt N p (DG N r vC g) s v1 := h.fr hf fun k hk e => hk.1.2.2 e
end Go.Proofs.Ytdgbnibnhajfoaa
