/- Of an image no byte may be another one, none may be missing, none more: as plain functions (made by genImTu.py). -/
import Derived.Test.YtlfhgmoafgjdcaaImI
namespace Go.Proofs.Ytlfhgmoafgjdcaa
open Go.ChangeShapes Go.WideShapes Go.ChangeAt Go.RowKit
set_option linter.unusedVariables false
set_option linter.unusedSimpArgs false
/-- what is written is read, with whatever stands behind it -/
structure GV {X : Type} (p : Rd X) (f : X → List Itm) : Prop where
  gv : ∀ x r, (∀ i ∈ f x, wfI i) → (f x).all okI = true → p (encL (f x) ++ r) = some (x, r)
theorem GV.of_eq {X : Type} {p : Rd X} {f g : X → List Itm} (he : ∀ x, f x = g x) (h : GV p g) : GV p f := by
  have : f = g := funext he
  rw [this]
  exact h
theorem GV.n : GV rdN iInt := ⟨fun x r _ h => gives_n.gives x r trivial h⟩
theorem GV.t : GV rdT fun y => [.t y] := ⟨fun x r _ h => gives_t.gives x r trivial h⟩
theorem GV.b : GV rdB fun y => [.b y] := ⟨fun x r hv h => gives_b.gives x r (hv (.b x) (by simp)) h⟩
theorem GV.p {X Y : Type} {p : Rd X} {q : Rd Y} {f : X → List Itm} {g : Y → List Itm} (hp : GV p f) (hq : GV q g) : GV (rd2 Prod.mk p q) (fun x => f x.1 ++ g x.2) := ⟨fun z r hv h => by
  rw [List.all_append, Bool.and_eq_true] at h
  rw [encL_append, List.append_assoc]
  show (p (encL (f z.1) ++ _)).bind _ = _
  rw [hp.gv z.1 _ (fun i hi => hv i (List.mem_append.2 (.inl hi))) h.1]
  simp only [Option.bind_some]
  rw [hq.gv z.2 r (fun i hi => hv i (List.mem_append.2 (.inr hi))) h.2]
  rfl⟩
theorem GV.l {X : Type} {p : Rd X} {f : X → List Itm} (hp : GV p f) : GV (rdL p) (itL f) := ⟨fun xs r hv h => (gives_l (V := fun x => ∀ i ∈ f x, wfI i) ⟨fun x r hV h => hp.gv x r hV h⟩).gives xs r (fun x hx i hi => hv i (by unfold itL; exact List.mem_cons_of_mem _ (List.mem_flatMap.2 ⟨x, hx, hi⟩))) h⟩
theorem gv_Ints : GV rdInts iInts := GV.l GV.n
theorem gv_Stop : GV rdStop iStop := GV.of_eq (fun x => by simp [iStop, iInt]) (GV.p GV.n GV.n)
theorem gv_Tail : GV rdTail iTail := GV.of_eq (fun x => by simp [iTail, iInt]) (GV.p GV.n (GV.p GV.n (GV.l gv_Stop)))
theorem gv_Row : GV rdRow iRow := GV.of_eq (fun x => by simp [iRow, iInt]) (GV.p (GV.p GV.n (GV.p GV.n (GV.p GV.t (GV.p GV.n (GV.l gv_Stop))))) (GV.p GV.n (GV.p GV.n (GV.l gv_Tail))))
theorem gv_Input : GV rdInput iInput := GV.of_eq (fun x => by simp [iInput, iInt]) (GV.p GV.n (GV.p GV.n (GV.p GV.n GV.n)))
theorem gv_Value : GV rdValue iValue := GV.of_eq (fun x => by simp [iValue, iInt]) (GV.p GV.n GV.b)
theorem gv_Ins : GV rdIns iIns := GV.of_eq (fun x => by simp [iIns, iInt]) (GV.p GV.n (GV.p GV.n (GV.p GV.n GV.n)))
theorem gv_Code : GV rdCode iCode := GV.of_eq (fun x => by simp [iCode, iInt]) (GV.p GV.n (GV.p GV.n (GV.p (GV.l gv_Input) (GV.p (GV.l gv_Value) (GV.l gv_Ins)))))
theorem gv_Table : GV rdTable iTable := GV.of_eq (fun x => by simp [iTable, iInt]) (GV.p (GV.p GV.n (GV.p (GV.l GV.n) (GV.p (GV.l gv_Ints) (GV.p GV.n (GV.p GV.n GV.n))))) (GV.p (GV.l gv_Row) (GV.l gv_Code)))

theorem le4_inj {x y : Nat} (hx : x < 4294967296) (hy : y < 4294967296) (h : le4 x = le4 y) : x = y := by
  simp only [le4, List.cons.injEq, and_true] at h
  omega
theorem encP_cases (x : TTable) : (∃ k, encP x = (k, none) ∧ k ≠ 0 ∧ (Lit.int .i64 k).wf = true) ∨ (encP x = (0, some (ausp ++ encL (iTable x) ++ le4 (sumL (ausp ++ encL (iTable x))))) ∧ (iTable x).all okI = true ∧ (ausp ++ encL (iTable x)).length + 4 ≤ 65536) := by
  unfold encP
  cases ho : (iTable x).all okI with
  | false => rw [runW_bad _ _ ho]; exact .inl ⟨3, rfl, by decide, by decide⟩
  | true =>
    obtain ⟨b, h1, h2, h3, h4⟩ := runW_ok (iTable x) ausp ho
    rw [h1]
    by_cases hl : 65536 < b.length + 4
    · exact .inl ⟨2, by show (if 65536 < b.length + 4 then _ else _) = _; rw [if_pos hl], by decide, by decide⟩
    · have e := h4 (by omega)
      exact .inr ⟨by show (if 65536 < b.length + 4 then _ else _) = _; rw [if_neg hl, e], rfl, by rw [← e]; omega⟩
theorem decP_zero {l : List Nat} (h : (decP l).1 = 0) : ∃ x, ¬ l.length < 8 ∧ l.take 4 = ausp ∧ l.drop (l.length - 4) = le4 (sumL (l.take (l.length - 4))) ∧ rdTable (bodyL l) = some (x, []) := by
  rcases decP_cases l with ⟨k, hk, h0, _⟩ | ⟨x, _, _, h1, h2, h3, h4⟩
  · rw [hk] at h; exact absurd h h0
  · exact ⟨x, h1, h2, h3, h4⟩
theorem decP_none {l : List Nat} (h : (decP l).1 ≠ 0) : ∃ k, decP l = (k, none) ∧ k ≠ 0 ∧ (Lit.int .i64 k).wf = true := by
  rcases decP_cases l with h' | ⟨x, hx, _⟩
  · exact h'
  · rw [hx] at h; exact absurd rfl h
section
variable {e : List Nat} {l : List Nat}
/-- a byte that is another one -/
theorem turned_no (hb : Byt e) (hl : l = ausp ++ e ++ le4 (sumL (ausp ++ e))) {k d : Nat} (hk : k < l.length) (hd : d < 256) (hne : l[k]? ≠ some d) : (decP (l.set k d)).1 ≠ 0 := by
  intro h0
  obtain ⟨x, _, _, h3, _⟩ := decP_zero h0
  have hbA : Byt (ausp ++ e) := fun z hz => by
    rcases List.mem_append.1 hz with h | h
    · simp [ausp] at h; omega
    · exact hb z h
  generalize ausp ++ e = b at *
  have h4 : (le4 (sumL b)).length = 4 := rfl
  have hlen : l.length = b.length + 4 := by rw [hl, List.length_append, h4]
  rw [List.length_set, hlen, Nat.add_sub_cancel] at h3
  subst hl
  by_cases hkb : k < b.length
  · rw [List.set_append_left _ _ hkb, List.drop_left' (by simp), List.take_left' (by simp)] at h3
    have hc : b[k]? = some b[k] := List.getElem?_eq_getElem hkb
    have hs : Byt (b.set k d) := fun z hz => by
      rcases List.mem_or_eq_of_mem_set hz with h | h
      · exact hbA z h
      · omega
    exact sumL_turned hbA hc hd (fun e => hne (by rw [List.getElem?_append_left hkb, hc, e])) (le4_inj (sumL_lt hs) (sumL_lt hbA) h3.symm)
  · rw [List.set_append_right _ _ (by omega), List.drop_left' rfl, List.take_left' rfl] at h3
    have := congrArg (fun z => z[k - b.length]?) h3
    simp only [List.getElem?_set] at this
    rw [if_pos trivial, if_pos (by omega)] at this
    exact hne (by rw [List.getElem?_append_right (by omega), ← this])
theorem take_cut {a b : List Nat} {n : Nat} (h : n ≤ a.length) : (a ++ b).take n = a.take n := List.take_append_of_le_length h
/-- a beginning that is not the whole -/
theorem cut_no {x : TTable} (hv : ∀ i ∈ iTable x, wfI i) (ho : (iTable x).all okI = true) (hb : Byt (encL (iTable x))) (hl : l = ausp ++ encL (iTable x) ++ le4 (sumL (ausp ++ encL (iTable x)))) {k : Nat} (hk : k < l.length) : (decP (l.take k)).1 ≠ 0 := by
  intro h0
  obtain ⟨y, h8, _, _, hy⟩ := decP_zero h0
  have h4 : ∀ s, (le4 s).length = 4 := fun _ => rfl
  have ha : ausp.length = 4 := rfl
  have hlen : l.length = 4 + (encL (iTable x)).length + 4 := by rw [hl, List.length_append, List.length_append, h4, ha]
  have hk8 : ¬ k < 8 := by rw [List.length_take] at h8; omega
  have hbody : bodyL (l.take k) = (encL (iTable x)).take (k - 8) := by
    unfold bodyL
    rw [List.length_take, Nat.min_eq_left (by omega), List.take_take, Nat.min_eq_left (by omega), hl, take_cut (by rw [List.length_append, ha]; omega), List.drop_take, show (4 : Nat) = ausp.length from rfl, List.drop_left]
    congr 1
  rw [hbody] at hy
  have hbt := hb.take (k - 8)
  obtain ⟨e1, e2⟩ := fw_Table.fit.back _ _ _ hbt hy
  rw [List.append_nil] at e1
  have g1 := gv_Table.gv y ((encL (iTable x)).drop (k - 8)) (fw_Table.wf hbt hy) e2
  rw [e1, List.take_append_drop] at g1
  have g2 := gv_Table.gv x [] hv ho
  rw [List.append_nil, g1] at g2
  simp only [Option.some.injEq, Prod.mk.injEq] at g2
  have := congrArg List.length g2.2
  rw [List.length_drop] at this
  simp at this
  omega
/-- one byte more -/
theorem more_no {x : TTable} (hv : ∀ i ∈ iTable x, wfI i) (ho : (iTable x).all okI = true) (hl : l = ausp ++ encL (iTable x) ++ le4 (sumL (ausp ++ encL (iTable x)))) (c : Nat) : (decP (l ++ [c])).1 ≠ 0 := by
  intro h0
  obtain ⟨y, _, _, _, hy⟩ := decP_zero h0
  have ha : ausp.length = 4 := rfl
  obtain ⟨s0, s1, s2, s3, hs⟩ : ∃ s0 s1 s2 s3, le4 (sumL (ausp ++ encL (iTable x))) = [s0, s1, s2, s3] := ⟨_, _, _, _, rfl⟩
  rw [hs] at hl
  have hlc : l ++ [c] = (ausp ++ encL (iTable x) ++ [s0]) ++ [s1, s2, s3, c] := by rw [hl]; simp
  have hbody : bodyL (l ++ [c]) = encL (iTable x) ++ [s0] := by
    unfold bodyL
    rw [hlc, List.length_append, show ([s1, s2, s3, c] : List Nat).length = 4 from rfl, Nat.add_sub_cancel, List.take_left' rfl, List.append_assoc, show (4 : Nat) = ausp.length from rfl, List.drop_left]
  rw [hbody, gv_Table.gv x [s0] hv ho] at hy
  simp at hy
theorem encL_byt (L : List Itm) : Byt (encL L) := fun z hz => by
  obtain ⟨i, _, hi⟩ := List.mem_flatMap.1 hz
  exact encI_byt i z hi
end
end Go.Proofs.Ytlfhgmoafgjdcaa
