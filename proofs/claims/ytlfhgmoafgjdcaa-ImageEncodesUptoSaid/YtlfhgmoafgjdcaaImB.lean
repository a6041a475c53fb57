/- What was read of a table is what is written of it: as plain functions, and as it lies (made by genImB.py). -/
import Derived.Test.YtlfhgmoafgjdcaaImY
import Derived.Test.YtlfhgmoafgjdcaaImZb
namespace Go.Proofs.Ytlfhgmoafgjdcaa
open Go.ChangeShapes Go.WideShapes Go.ChangeAt Go.RowKit
set_option linter.unusedVariables false
set_option linter.unusedSimpArgs false

/-- p reads just what f writes, and no bits that aren't 64 -/
structure FW {X : Type} (p : Rd X) (f : X → List Itm) : Prop where
  fit : Fits p f
  bits : ∀ l x r, Byt l → p l = some (x, r) → ∀ y, Itm.b y ∈ f x → y < 18446744073709551616
theorem FW.of_eq {X : Type} {p : Rd X} {f g : X → List Itm} (he : ∀ x, f x = g x) (h : FW p g) : FW p f := by
  have : f = g := funext he
  rw [this]
  exact h
theorem FW.n : FW rdN iInt := ⟨fits_n, fun l x r hl h y hy => by simp [iInt] at hy⟩
theorem FW.t : FW rdT fun y => [.t y] := ⟨fits_t, fun l x r hl h y hy => by simp at hy⟩
theorem FW.b : FW rdB fun y => [.b y] := ⟨fits_b, fun l x r hl h y hy => by
  simp at hy
  subst hy
  unfold rdB at h
  obtain ⟨⟨n, k⟩, hf, hx⟩ := Option.map_eq_some_iff.1 h
  simp only [Prod.mk.injEq] at hx
  obtain ⟨rfl, rfl⟩ := hx
  exact (first_back hl hf).2.2.2.2⟩
theorem FW.p {X Y : Type} {p : Rd X} {q : Rd Y} {f : X → List Itm} {g : Y → List Itm} (hp : FW p f) (hq : FW q g) : FW (rd2 Prod.mk p q) (fun x => f x.1 ++ g x.2) := ⟨fits_2 Prod.mk hp.fit hq.fit (fun _ _ => rfl), fun l z r hl hz y hy => by
  unfold rd2 at hz
  obtain ⟨⟨x, l1⟩, h1, h2⟩ := Option.bind_eq_some_iff.1 hz
  obtain ⟨⟨v, l2⟩, h3, h4⟩ := Option.map_eq_some_iff.1 h2
  simp only [Prod.mk.injEq] at h4
  obtain ⟨rfl, rfl⟩ := h4
  rcases List.mem_append.1 hy with k | k
  · exact hp.bits l x l1 hl h1 y k
  · exact hq.bits l1 v l2 (byt_rest (hp.fit.back l x l1 hl h1).1 hl) h3 y k⟩
theorem FW.k {X : Type} {p : Rd X} {f : X → List Itm} (hp : FW p f) : ∀ (k : Nat) (l : List Nat) (xs : List X) (r : List Nat), Byt l → rdK p k l = some (xs, r) → ∀ y, Itm.b y ∈ xs.flatMap f → y < 18446744073709551616
  | 0, l, xs, r, hl, h, y, hy => by
    simp only [rdK, Option.some.injEq, Prod.mk.injEq] at h
    obtain ⟨rfl, rfl⟩ := h
    simp at hy
  | k + 1, l, xs, r, hl, h, y, hy => by
    rw [rdK] at h
    obtain ⟨⟨x, l1⟩, h1, h2⟩ := Option.bind_eq_some_iff.1 h
    obtain ⟨⟨ys, l2⟩, h3, h4⟩ := Option.map_eq_some_iff.1 h2
    simp only [Prod.mk.injEq] at h4
    obtain ⟨rfl, rfl⟩ := h4
    rw [List.flatMap_cons] at hy
    rcases List.mem_append.1 hy with q | q
    · exact hp.bits l x l1 hl h1 y q
    · exact FW.k hp k l1 ys l2 (byt_rest (hp.fit.back l x l1 hl h1).1 hl) h3 y q
theorem FW.l {X : Type} {p : Rd X} {f : X → List Itm} (hp : FW p f) : FW (rdL p) (itL f) := ⟨fits_l hp.fit, fun l xs r hl h y hy => by
  unfold rdL at h
  obtain ⟨⟨k, l1⟩, h1, h2⟩ := Option.bind_eq_some_iff.1 h
  obtain ⟨e1, hk⟩ := rdC_back hl h1
  unfold itL at hy
  rcases List.mem_cons.1 hy with q | q
  · cases q
  · exact FW.k hp k l1 xs r (byt_rest e1 hl) h2 y q⟩
theorem wf_of_ok {i : Itm} (h : okI i = true) (hb : ∀ y, i = .b y → y < 18446744073709551616) : wfI i := by
  cases i with
  | n z => simp only [okI, decide_eq_true_eq] at h; exact ⟨by omega, by omega⟩
  | c k => simp only [okI, decide_eq_true_eq] at h; show k ≤ _; omega
  | t y => trivial
  | b x => exact hb x rfl
theorem FW.wf {X : Type} {p : Rd X} {f : X → List Itm} (h : FW p f) {l r : List Nat} {x : X} (hl : Byt l) (hx : p l = some (x, r)) : ∀ i ∈ f x, wfI i := fun i hi => by
  have := (h.fit.back l x r hl hx).2
  rw [List.all_eq_true] at this
  exact wf_of_ok (this i hi) fun y e => h.bits l x r hl hx y (e ▸ hi)

/-! ### in memory -/
/-- cells, one behind the other -/
def CellsAt (w : World) (b o : Nat) (vs : List Value) : Prop := ∀ (j : Nat) (u : Value), vs[j]? = some u → w.cell? ⟨b, o + j, none⟩ = some u
theorem CellsAt.drop {w : World} {b o : Nat} {vs : List Value} (h : CellsAt w b o vs) (n : Nat) : CellsAt w b (o + n) (vs.drop n) := fun j u hj => by
  rw [List.getElem?_drop] at hj
  rw [Nat.add_assoc]
  exact h _ _ hj
/-- what was read lies as what is to be written -/
def Br {X : Type} (w : World) (E : World → List Value → X → Prop) (P : World → Nat → Nat → X → Prop) (I : X → List Itm) : Prop := ∀ (b o : Nat) (vs : List Value) (x : X), E w vs x → CellsAt w b o vs → (∀ n, Itm.c n ∈ I x → n ≤ 1048576) → P w b o x
theorem br_Int (w : World) : Br w eInt pInt iInt := fun b o vs x h hc _ => by
  have h : vs = [.int .i64 x] := h
  subst h
  exact hc 0 _ rfl
theorem flatten_at {vss : List (List Value)} {size : Nat} : ∀ {i j : Nat} {us : List Value} {u : Value}, (∀ (i : Nat) (us : List Value), vss[i]? = some us → us.length = size) → vss[i]? = some us → us[j]? = some u → vss.flatten[i * size + j]? = some u := by
  induction vss with
  | nil => intro i j us u _ h; simp at h
  | cons v r ih =>
    intro i j us u hs hi hj
    have h0 : v.length = size := hs 0 v rfl
    rw [List.flatten_cons]
    cases i with
    | zero =>
      simp at hi
      subst hi
      rw [List.getElem?_append_left (by rw [Nat.zero_mul, Nat.zero_add]; exact (List.getElem?_eq_some_iff.1 hj).1), Nat.zero_mul, Nat.zero_add]
      exact hj
    | succ i =>
      rw [List.getElem?_append_right (by rw [h0, Nat.succ_mul]; omega), h0]
      have := ih (fun i us h => hs (i + 1) us (by simpa using h)) (by simpa using hi) hj
      rw [show (i + 1) * size + j - size = i * size + j by rw [Nat.succ_mul]; omega]
      exact this
theorem br_L {X : Type} {w : World} {E : World → List Value → X → Prop} {P : World → Nat → Nat → X → Prop} {I : X → List Itm} (T : TypeId) (size : Nat) (h : Br w E P I) : Br w (eL E T size) (fun w b o xs => LField P size w.heap.size w b o xs) (itL I) := by
  rintro b o vs xs ⟨v, rfl, A, c, vss, rfl, hl, hels, hrow⟩ hc hok
  have hlen : xs.length ≤ 1048576 := hok xs.length (by simp [itL])
  refine ⟨A, c, hc 0 _ rfl, fun hpos => ?_, by omega⟩
  obtain ⟨b', cur, rfl, hb', hpre⟩ := hrow hpos
  refine ⟨b', 0, rfl, (TyB.lt ⟨cur, hb'⟩), fun i x hi => ?_⟩
  have hiv : i < vss.length := by rw [hl]; exact (List.getElem?_eq_some_iff.1 hi).1
  have hu := List.getElem?_eq_getElem hiv
  obtain ⟨hE, hsz⟩ := hels i _ x hu hi
  refine h b' (0 + i * size) _ x hE (fun j u hj => ?_) (fun it hit => hok it (by unfold itL; exact List.mem_cons_of_mem _ (List.mem_flatMap.2 ⟨x, List.mem_of_getElem? hi, hit⟩)))
  have hf := flatten_at (size := size) (fun i us hus => by
    have hix : i < xs.length := by rw [← hl]; exact (List.getElem?_eq_some_iff.1 hus).1
    exact (hels i us _ hus (List.getElem?_eq_getElem hix)).2) hu hj
  rw [cell_of_row w b' _ cur T (0, 0) hb', Nat.zero_add, ← Array.getElem?_toList]
  obtain ⟨s, hs⟩ := hpre
  rw [← hs, List.getElem?_append_left (List.getElem?_eq_some_iff.1 hf).1]
  exact hf

theorem CellsAt.one {w : World} {b o : Nat} {vs : List Value} {v : Value} (h : CellsAt w b o vs) (n : Nat) (hv : vs[n]? = some v) : CellsAt w b (o + n) [v] := fun j u hj => by
  cases j with
  | zero => simp at hj; subst hj; exact h n _ hv
  | succ j => simp at hj

theorem fw_Ints : FW rdInts iInts := FW.l FW.n
theorem br_Ints (w : World) : Br w eInts (pInts w.heap.size) iInts := br_L _ _ (br_Int w)
theorem fw_Stop : FW rdStop iStop := FW.of_eq (fun x => by simp [iStop, iInt]) (FW.p FW.n FW.n)
theorem br_Stop (w : World) : Br w eStop pStop iStop := by
  rintro b o vs x ⟨_, _, rfl, rfl, rfl⟩ hc hok
  exact ⟨hc 0 _ rfl, hc 1 _ rfl⟩
theorem fw_Tail : FW rdTail iTail := FW.of_eq (fun x => by simp [iTail, iInt]) (FW.p FW.n (FW.p FW.n (FW.l fw_Stop)))
theorem br_Tail (w : World) : Br w eTail (pTail w.heap.size) iTail := by
  rintro b o vs x ⟨_, _, rfl, rfl, ⟨_, _, rfl, rfl, ⟨v2, rfl, k2⟩⟩⟩ hc hok
  exact ⟨hc 0 _ rfl, hc 1 _ rfl, br_L 126 2 (br_Stop w) b (o + 2) [v2] _ ⟨v2, rfl, k2⟩ (hc.one 2 rfl) (fun i hi => hok i (by simp [iTail, hi]))⟩
theorem fw_Row : FW rdRow iRow := FW.of_eq (fun x => by simp [iRow, iInt]) (FW.p (FW.p FW.n (FW.p FW.n (FW.p FW.t (FW.p FW.n (FW.l fw_Stop))))) (FW.p FW.n (FW.p FW.n (FW.l fw_Tail))))
theorem br_Row (w : World) : Br w eRow (pRow w.heap.size) iRow := by
  rintro b o vs x ⟨_, _, rfl, ⟨_, _, rfl, rfl, ⟨_, _, rfl, rfl, ⟨_, _, rfl, rfl, ⟨_, _, rfl, rfl, ⟨v4, rfl, k4⟩⟩⟩⟩⟩, ⟨_, _, rfl, rfl, ⟨_, _, rfl, rfl, ⟨v7, rfl, k7⟩⟩⟩⟩ hc hok
  exact ⟨hc 0 _ rfl, hc 1 _ rfl, hc 2 _ rfl, hc 3 _ rfl, br_L 126 2 (br_Stop w) b (o + 4) [v4] _ ⟨v4, rfl, k4⟩ (hc.one 4 rfl) (fun i hi => hok i (by simp [iRow, hi])), hc 5 _ rfl, hc 6 _ rfl, br_L 55 3 (br_Tail w) b (o + 7) [v7] _ ⟨v7, rfl, k7⟩ (hc.one 7 rfl) (fun i hi => hok i (by simp [iRow, hi]))⟩
theorem fw_Input : FW rdInput iInput := FW.of_eq (fun x => by simp [iInput, iInt]) (FW.p FW.n (FW.p FW.n (FW.p FW.n FW.n)))
theorem br_Input (w : World) : Br w eInput pInput iInput := by
  rintro b o vs x ⟨_, _, rfl, rfl, ⟨_, _, rfl, rfl, ⟨_, _, rfl, rfl, rfl⟩⟩⟩ hc hok
  exact ⟨hc 0 _ rfl, hc 1 _ rfl, hc 2 _ rfl, hc 3 _ rfl⟩
theorem fw_Value : FW rdValue iValue := FW.of_eq (fun x => by simp [iValue, iInt]) (FW.p FW.n FW.b)
theorem br_Value (w : World) : Br w eValue pValue iValue := by
  rintro b o vs x ⟨_, _, rfl, rfl, rfl⟩ hc hok
  exact ⟨hc 0 _ rfl, hc 1 _ rfl⟩
theorem fw_Ins : FW rdIns iIns := FW.of_eq (fun x => by simp [iIns, iInt]) (FW.p FW.n (FW.p FW.n (FW.p FW.n FW.n)))
theorem br_Ins (w : World) : Br w eIns pIns iIns := by
  rintro b o vs x ⟨_, _, rfl, rfl, ⟨_, _, rfl, rfl, ⟨_, _, rfl, rfl, rfl⟩⟩⟩ hc hok
  exact ⟨hc 0 _ rfl, hc 1 _ rfl, hc 2 _ rfl, hc 3 _ rfl⟩
theorem fw_Code : FW rdCode iCode := FW.of_eq (fun x => by simp [iCode, iInt]) (FW.p FW.n (FW.p FW.n (FW.p (FW.l fw_Input) (FW.p (FW.l fw_Value) (FW.l fw_Ins)))))
theorem br_Code (w : World) : Br w eCode (pCode w.heap.size) iCode := by
  rintro b o vs x ⟨_, _, rfl, rfl, ⟨_, _, rfl, rfl, ⟨_, _, rfl, ⟨v2, rfl, k2⟩, ⟨_, _, rfl, ⟨v3, rfl, k3⟩, ⟨v4, rfl, k4⟩⟩⟩⟩⟩ hc hok
  exact ⟨hc 0 _ rfl, hc 1 _ rfl, br_L 89 4 (br_Input w) b (o + 2) [v2] _ ⟨v2, rfl, k2⟩ (hc.one 2 rfl) (fun i hi => hok i (by simp [iCode, hi])), br_L 106 2 (br_Value w) b (o + 3) [v3] _ ⟨v3, rfl, k3⟩ (hc.one 3 rfl) (fun i hi => hok i (by simp [iCode, hi])), br_L 94 4 (br_Ins w) b (o + 4) [v4] _ ⟨v4, rfl, k4⟩ (hc.one 4 rfl) (fun i hi => hok i (by simp [iCode, hi]))⟩
end Go.Proofs.Ytlfhgmoafgjdcaa
