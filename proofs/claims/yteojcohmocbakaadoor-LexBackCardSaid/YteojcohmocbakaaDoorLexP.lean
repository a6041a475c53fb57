/- What a text's tokens are, as lists: the pieces, their lengths, and how a scan goes on. -/
import Derived.Test.YteojcohmocbakaaDoorLexG
import Derived.Test.YteojcohmocbakaaDoorLexR
import Derived.Test.YteojcohmocbakaaDoorLexY
import Derived.Lib.ParseIntB
namespace Go.Proofs.YteojcohmocbakaaDoor
open Go.ChangeShapes Go.WideShapes Go.ChangeAt Go.RowKit
set_option linter.unusedVariables false
set_option linter.unusedSimpArgs false

/-- a token, its place aside -/
structure Tok where
  kind : Int
  text : List UInt8
  n : Int
  scale : Int
def ba (l : List UInt8) : ByteArray := ⟨l.toArray⟩
theorem ba_list (l : List UInt8) : (ba l).data.toList = l := rfl
theorem ba_of (s : ByteArray) : ba s.data.toList = s := by cases s; rfl
theorem ba_size (l : List UInt8) : (ba l).size = l.length := by show l.toArray.size = _; simp
theorem ba_inj {a b : List UInt8} (h : ba a = ba b) : a = b := by rw [← ba_list a, h, ba_list]
theorem list_size (s : ByteArray) : s.data.toList.length = s.size := by cases s; rfl
theorem get_list (s : ByteArray) (i : Nat) (h : i < s.size) : s.data.toList[i]'(by rw [list_size]; exact h) = s[i] := by
  cases s with | mk d => simp; rfl
theorem ext_list (s : ByteArray) (a b : Nat) : (s.extract a b).data.toList = (s.data.toList.drop a).take (b - a) := by
  simp [ByteArray.data_extract, Array.toList_extract, List.extract_eq_take_drop]
theorem ext_from (s : ByteArray) (a : Nat) : (s.extract a s.size).data.toList = s.data.toList.drop a := by
  rw [ext_list, List.take_of_length_le (by rw [List.length_drop, list_size]; omega)]
theorem ext_to (s : ByteArray) (b : Nat) : (s.extract 0 b).data.toList = s.data.toList.take b := by rw [ext_list]; simp
theorem list_append (a b : ByteArray) : (a ++ b).data.toList = a.data.toList ++ b.data.toList := by simp

/-- the bytes of a kind that a list begins with -/
def runL (p : Int → Bool) (l : List UInt8) : List UInt8 := l.takeWhile fun c => p (c.toNat : Int)
theorem runL_cons (p : Int → Bool) (c : UInt8) (l : List UInt8) : runL p (c :: l) = if p (c.toNat : Int) = true then c :: runL p l else [] := by
  unfold runL
  rw [List.takeWhile_cons]
theorem runL_le (p : Int → Bool) : ∀ l, (runL p l).length ≤ l.length
  | [] => Nat.le_refl _
  | c :: l => by
    rw [runL_cons]
    split
    · simp; exact runL_le p l
    · simp
theorem runL_take (p : Int → Bool) : ∀ l, l.take (runL p l).length = runL p l
  | [] => rfl
  | c :: l => by
    rw [runL_cons]
    split
    · simp [runL_take p l]
    · simp
theorem runL_all (p : Int → Bool) : ∀ (l : List UInt8), ∀ x ∈ runL p l, p (x.toNat : Int) = true
  | [] => by intro x h; cases h
  | c :: l => by
    intro x h
    rw [runL_cons] at h
    split at h
    · rename_i hc
      rcases List.mem_cons.1 h with rfl | h
      · exact hc
      · exact runL_all p l x h
    · cases h
theorem runL_get (p : Int → Bool) : ∀ (l : List UInt8) (i : Nat) (h : i < l.length), i < (runL p l).length → p ((l[i]'h).toNat : Int) = true
  | [], i, h, _ => absurd h (by simp)
  | c :: l, i, h, hi => by
    rw [runL_cons] at hi
    split at hi
    · rename_i hc
      cases i with
      | zero => exact hc
      | succ i => exact runL_get p l i (by simpa using h) (by simpa using hi)
    · simp at hi
theorem runL_stop (p : Int → Bool) : ∀ (l : List UInt8) (h : (runL p l).length < l.length), p ((l[(runL p l).length]'h).toNat : Int) = false
  | [], h => absurd h (by simp)
  | c :: l, h => by
    by_cases hc : p (c.toNat : Int) = true
    · have e : (runL p (c :: l)).length = (runL p l).length + 1 := by rw [runL_cons, if_pos hc]; rfl
      have h2 : (runL p l).length < l.length := by rw [e] at h; simpa using h
      have := runL_stop p l h2
      simp only [e]
      exact this
    · have e : (runL p (c :: l)).length = 0 := by rw [runL_cons, if_neg hc]; rfl
      simp only [e]
      simpa using hc
/-- of a text that ends there, or with another byte -/
theorem runL_app (p : Int → Bool) : ∀ (l r : List UInt8), (∀ x ∈ l, p (x.toNat : Int) = true) → (∀ (h : 0 < r.length), p ((r[0]'h).toNat : Int) = false) → runL p (l ++ r) = l
  | [], [], _, _ => rfl
  | [], c :: r, _, h => by
    show runL p (c :: r) = []
    rw [runL_cons, if_neg]
    have := h (by simp)
    simpa using this
  | c :: l, r, h1, h2 => by
    show runL p (c :: (l ++ r)) = _
    rw [runL_cons, if_pos (h1 c (by simp)), runL_app p l r (fun x hx => h1 x (by simp [hx])) h2]
/-- a list that is cut behind the run has the same one -/
theorem runL_cut (p : Int → Bool) : ∀ (l : List UInt8) (k : Nat), (runL p l).length ≤ k → runL p (l.take k) = runL p l
  | [], k, _ => by simp
  | c :: l, 0, h => by
    rw [runL_cons] at h ⊢
    split
    · rename_i hc; rw [if_pos hc] at h; simp at h
    · simp [runL]
  | c :: l, k + 1, h => by
    show runL p (c :: l.take k) = _
    rw [runL_cons, runL_cons]
    split
    · rename_i hc
      rw [runL_cons, if_pos hc] at h
      rw [runL_cut p l k (by simpa using h)]
    · rfl
theorem run_is (p : Int → Bool) (s : ByteArray) : RunIs p s (runL p s.data.toList).length := by
  refine ⟨by have := runL_le p s.data.toList; rw [list_size] at this; exact this, fun i h hi => ?_, fun h => ?_⟩
  · rw [← get_list s i h]
    exact runL_get p _ i _ hi
  · rw [← get_list s _ h]
    exact runL_stop p _ _
theorem run_at (p : Int → Bool) (s : ByteArray) (a : Nat) (ha : a ≤ s.size) : RunAt p s a (runL p (s.data.toList.drop a)).length := by
  have hl : (s.data.toList.drop a).length = s.size - a := by rw [List.length_drop, list_size]
  refine ⟨by have := runL_le p (s.data.toList.drop a); omega, fun i h hi => ?_, fun h => ?_⟩
  · have := runL_get p (s.data.toList.drop a) i (by omega) hi
    rw [List.getElem_drop] at this
    rw [← get_list s _ h]
    exact this
  · have := runL_stop p (s.data.toList.drop a) (by omega)
    rw [List.getElem_drop] at this
    rw [← get_list s _ h]
    exact this

def digStep (a : Nat) (c : UInt8) : Nat := a * 10 + (c.toNat - 48)
def digV (l : List UInt8) : Nat := l.foldl digStep 0
theorem fold_ge : ∀ (l : List UInt8) (a : Nat), a ≤ l.foldl digStep a
  | [], a => Nat.le_refl _
  | c :: l, a => by
    have := fold_ge l (digStep a c)
    show a ≤ l.foldl digStep (digStep a c)
    unfold digStep at this ⊢
    omega
theorem dig_bounds {c : UInt8} (h : digC (c.toNat : Int) = true) : 48 ≤ c.toNat ∧ c.toNat ≤ 57 := by
  unfold digC at h
  simp at h
  omega
theorem parseM_eq : ∀ (l : List UInt8) (a : Nat), a ≤ 18446744073709551615 → (∀ x ∈ l, digC (x.toNat : Int) = true) → Lib.parseUintM 18446744073709551615 a l = if l.foldl digStep a ≤ 18446744073709551615 then .ok (l.foldl digStep a) else .range
  | [], a, h, _ => by simp [Lib.parseUintM, h]
  | c :: l, a, h, hd => by
    have hc := dig_bounds (hd c (by simp))
    have hg := fold_ge l (digStep a c)
    have hs : digStep a c = a * 10 + (c.toNat - 48) := rfl
    unfold Lib.parseUintM
    rw [if_pos hc]
    show _ = if l.foldl digStep (digStep a c) ≤ _ then Lib.NumEnd.ok (l.foldl digStep (digStep a c)) else _
    by_cases h1 : 1844674407370955162 ≤ a
    · rw [if_pos h1, if_neg (by omega)]
    · rw [if_neg h1]
      by_cases h2 : 18446744073709551615 < a * 10 + (c.toNat - 48)
      · rw [if_pos h2, if_neg (by omega)]
      · rw [if_neg h2]
        exact parseM_eq l (digStep a c) (by omega) (fun x hx => hd x (by simp [hx]))
theorem parse_digits (l : List UInt8) (h0 : l ≠ []) (hd : ∀ x ∈ l, digC (x.toNat : Int) = true) : Lib.parseIntB 64 l = if digV l < 9223372036854775808 then .ok (digV l : Int) else .range := by
  cases l with
  | nil => exact absurd rfl h0
  | cons c r =>
    have hc := dig_bounds (hd c (by simp))
    have e := parseM_eq (c :: r) 0 (by omega) hd
    have h43 : ¬ c.toNat = 43 := by omega
    have h45 : ¬ c.toNat = 45 := by omega
    have hU : Lib.parseUintB 64 (c :: r) = if (c :: r).foldl digStep 0 ≤ 18446744073709551615 then .ok ((c :: r).foldl digStep 0) else .range := by
      unfold Lib.parseUintB
      rw [if_neg (by simp), show (2 ^ 64 - 1 : Nat) = 18446744073709551615 from rfl, e]
    have hD : digV (c :: r) = (c :: r).foldl digStep 0 := rfl
    rw [hD]
    unfold Lib.parseIntB
    simp only [h43, h45, or_self, if_false, hU]
    generalize (c :: r).foldl digStep 0 = D
    by_cases h1 : D ≤ 18446744073709551615
    · rw [if_pos h1]
      simp only [not_false_eq_true, true_and, false_and, if_false]
      by_cases h2 : D < 9223372036854775808
      · rw [if_pos h2, if_neg (by omega)]
      · rw [if_neg h2, if_pos (by omega)]
    · rw [if_neg h1, if_neg (by omega)]

def tokNo : Tok × Nat := (⟨0, [], 0, 0⟩, 0)
open Classical in
/-- the word or name that a list begins with -/
noncomputable def wordF (l : List UInt8) : Tok × Nat :=
  if wordB (ba (runL okC l)) = true then (⟨1, runL okC l, 0, 0⟩, (runL okC l).length)
  else if NameP (ba (runL okC l)) then (⟨2, runL okC l, 0, 0⟩, (runL okC l).length) else tokNo
/-- the digits behind a point -/
def fracF : List UInt8 → List UInt8
  | [] => []
  | c :: r => if c.toNat = 46 then runL digC r else []
def numF (l : List UInt8) : Tok × Nat :=
  if ¬ digV (runL digC l ++ fracF (l.drop (runL digC l).length)) < 9223372036854775808 ∨ ((l.headD 0).toNat = 48 ∧ 1 < (runL digC l).length) then tokNo
  else if (fracF (l.drop (runL digC l).length)).length = 0 then (⟨3, [], digV (runL digC l ++ fracF (l.drop (runL digC l).length)), 0⟩, (runL digC l).length)
  else if 15 < (runL digC l).length + (fracF (l.drop (runL digC l).length)).length then tokNo
  else (⟨4, [], digV (runL digC l ++ fracF (l.drop (runL digC l).length)), (fracF (l.drop (runL digC l).length)).length⟩, (runL digC l).length + 1 + (fracF (l.drop (runL digC l).length)).length)
open Classical in
/-- r: what stands behind the quote -/
noncomputable def symF (r : List UInt8) : Tok × Nat :=
  if NameP (ba (runL okC r)) ∧ (r.drop (runL okC r).length).head? = some 39 then (⟨5, runL okC r, 0, 0⟩, (runL okC r).length + 2) else tokNo
def signF (c : UInt8) (r : List UInt8) : Tok × Nat :=
  if twoC (c.toNat : Int) = true ∧ r.head? = some 61 then (⟨6, [c, 61], 0, 0⟩, 2)
  else if twoC (c.toNat : Int) = true ∨ oneC (c.toNat : Int) = true then (⟨6, [c], 0, 0⟩, 1) else tokNo
noncomputable def firstF : List UInt8 → Tok × Nat
  | [] => tokNo
  | c :: r => if letC (c.toNat : Int) = true then wordF (c :: r) else if digC (c.toNat : Int) = true then numF (c :: r) else if c.toNat = 39 then symF r else signF c r
/-- from a place on: the tokens that are there, and how it ends -/
inductive ScanR : Nat → List UInt8 → List (Tok × Nat) → Bool × Nat → Prop
  | fin (a : Nat) : ScanR a [] [] (true, a)
  | blank (a : Nat) (c : UInt8) (r : List UInt8) (T : List (Tok × Nat)) (e : Bool × Nat) (h : blkC (c.toNat : Int) = true) (k : ScanR (a + 1) r T e) : ScanR a (c :: r) T e
  | tok (a : Nat) (c : UInt8) (r : List UInt8) (T : List (Tok × Nat)) (e : Bool × Nat) (h : blkC (c.toNat : Int) = false) (hn : (firstF (c :: r)).2 ≠ 0) (k : ScanR (a + (firstF (c :: r)).2) ((c :: r).drop (firstF (c :: r)).2) T e) : ScanR a (c :: r) (((firstF (c :: r)).1, a) :: T) e
  | bad (a : Nat) (c : UInt8) (r : List UInt8) (h : blkC (c.toNat : Int) = false) (hn : (firstF (c :: r)).2 = 0) : ScanR a (c :: r) [] (false, a)
theorem ScanR.one {a : Nat} {l : List UInt8} {T T' : List (Tok × Nat)} {e e' : Bool × Nat} (h : ScanR a l T e) (h' : ScanR a l T' e') : T = T' ∧ e = e' := by
  induction h generalizing T' e' with
  | fin a => cases h'; exact ⟨rfl, rfl⟩
  | blank a c r T e h k ih =>
    cases h' with
    | blank _ _ _ _ _ _ k' => exact ih k'
    | tok _ _ _ _ _ h2 => rw [h] at h2; cases h2
    | bad _ _ _ h2 => rw [h] at h2; cases h2
  | tok a c r T e h hn k ih =>
    cases h' with
    | blank _ _ _ _ _ h2 => rw [h] at h2; cases h2
    | tok _ _ _ _ _ _ _ k' => obtain ⟨h1, h2⟩ := ih k'; exact ⟨by rw [h1], h2⟩
    | bad _ _ _ _ h2 => exact absurd h2 hn
  | bad a c r h hn =>
    cases h' with
    | blank _ _ _ _ _ h2 => rw [h] at h2; cases h2
    | tok _ _ _ _ _ _ h2 => exact absurd hn h2
    | bad => exact ⟨rfl, rfl⟩
theorem ScanR.some_ : ∀ (n : Nat) (l : List UInt8) (a : Nat), l.length ≤ n → ∃ T e, ScanR a l T e
  | _, [], a, _ => ⟨_, _, .fin a⟩
  | 0, c :: r, a, h => absurd h (by simp)
  | n + 1, c :: r, a, h => by
    by_cases hb : blkC (c.toNat : Int) = true
    · obtain ⟨T, e, k⟩ := ScanR.some_ n r (a + 1) (by simpa using h)
      exact ⟨T, e, .blank a c r T e hb k⟩
    · by_cases hn : (firstF (c :: r)).2 = 0
      · exact ⟨_, _, .bad a c r (by simpa using hb) hn⟩
      · obtain ⟨T, e, k⟩ := ScanR.some_ n ((c :: r).drop (firstF (c :: r)).2) (a + (firstF (c :: r)).2) (by rw [List.length_drop]; omega)
        exact ⟨_, _, .tok a c r T e (by simpa using hb) hn k⟩
theorem fracF_cons (c : UInt8) (r : List UInt8) : fracF (c :: r) = if c.toNat = 46 then runL digC r else [] := rfl
theorem firstF_cons (c : UInt8) (r : List UInt8) : firstF (c :: r) = if letC (c.toNat : Int) = true then wordF (c :: r) else if digC (c.toNat : Int) = true then numF (c :: r) else if c.toNat = 39 then symF r else signF c r := rfl
/-- a token has no more bytes than there are -/
theorem fracF_le : ∀ l : List UInt8, (fracF l).length ≠ 0 → 1 + (fracF l).length ≤ l.length
  | [], h => absurd rfl h
  | c :: r, h => by
    rw [fracF_cons] at h ⊢
    split at h
    · rename_i hc
      rw [if_pos hc]
      have := runL_le digC r
      rw [List.length_cons]; omega
    · simp at h
theorem firstF_le (l : List UInt8) : (firstF l).2 ≤ l.length := by
  cases l with
  | nil => exact Nat.le_refl _
  | cons c r =>
    rw [firstF_cons]
    split
    · have := runL_le okC (c :: r)
      unfold wordF
      split
      · exact this
      · split
        · exact this
        · exact Nat.zero_le _
    · split
      · have := runL_le digC (c :: r)
        unfold numF
        split
        · exact Nat.zero_le _
        · split
          · exact this
          · rename_i h0
            split
            · exact Nat.zero_le _
            · have := fracF_le _ h0
              rw [List.length_drop] at this
              show _ + 1 + _ ≤ _
              omega
      · split
        · unfold symF
          split
          · rename_i h
            have h2 := h.2
            have : (runL okC r).length < r.length := by
              apply Classical.byContradiction
              intro hn
              rw [List.drop_eq_nil_of_le (by omega)] at h2
              cases h2
            show (runL okC r).length + 2 ≤ r.length + 1
            omega
          · exact Nat.zero_le _
        · unfold signF
          split
          · rename_i h
            have h2 := h.2
            cases r with
            | nil => cases h2
            | cons d r => simp
          · split
            · simp
            · exact Nat.zero_le _

theorem fracF_cut : ∀ (l : List UInt8) (k : Nat), ((fracF l).length ≠ 0 → 1 + (fracF l).length ≤ k) → fracF (l.take k) = fracF l
  | [], k, _ => by simp
  | c :: r, 0, h => by
    rw [fracF_cons] at h ⊢
    show [] = _
    split
    · rename_i hc
      rw [if_pos hc] at h
      by_cases h0 : (runL digC r).length = 0
      · exact (List.length_eq_zero_iff.1 h0).symm
      · have := h h0; omega
    · rfl
  | c :: r, k + 1, h => by
    show fracF (c :: r.take k) = _
    rw [fracF_cons] at h ⊢
    rw [fracF_cons]
    split
    · rename_i hc
      rw [if_pos hc] at h
      by_cases h0 : (runL digC r).length = 0
      · exact runL_cut digC r k (by omega)
      · exact runL_cut digC r k (by have := h h0; omega)
    · rfl
theorem head_cut {r : List UInt8} {j : Nat} (h : 1 ≤ j) : (r.take j).head? = r.head? := by
  cases r with
  | nil => simp
  | cons c r =>
    cases j with
    | zero => omega
    | succ j => rfl
theorem numF_cut (l : List UInt8) (k : Nat) (h : (numF l).2 ≠ 0) (hk : (numF l).2 ≤ k) (h0 : l ≠ []) : numF (l.take k) = numF l := by
  have hh : ∀ j, 1 ≤ j → (l.take j).headD 0 = l.headD 0 := by
    intro j hj
    cases l with
    | nil => exact absurd rfl h0
    | cons c r =>
      cases j with
      | zero => omega
      | succ j => rfl
  have key : (runL digC l).length ≤ k ∧ ((fracF (l.drop (runL digC l).length)).length ≠ 0 → 1 + (fracF (l.drop (runL digC l).length)).length ≤ k - (runL digC l).length) := by
    unfold numF at h hk
    split at h
    · exact absurd rfl h
    · rename_i h1
      rw [if_neg h1] at hk
      split at h
      · rename_i h2
        rw [if_pos h2] at hk
        exact ⟨hk, fun h3 => absurd h2 h3⟩
      · rename_i h2
        rw [if_neg h2] at hk
        split at h
        · exact absurd rfl h
        · rename_i h3
          rw [if_neg h3] at hk
          have hk' : (runL digC l).length + 1 + (fracF (l.drop (runL digC l).length)).length ≤ k := hk
          exact ⟨by omega, fun _ => by omega⟩
  have e1 : runL digC (l.take k) = runL digC l := runL_cut digC l k key.1
  have e2 : fracF ((l.take k).drop (runL digC l).length) = fracF (l.drop (runL digC l).length) := by
    rw [List.drop_take]
    exact fracF_cut _ _ key.2
  have e3 : (l.take k).headD 0 = l.headD 0 := hh k (by omega)
  unfold numF
  rw [e1, e2, e3]
theorem firstF_cut (l : List UInt8) (k : Nat) (h : (firstF l).2 ≠ 0) (hk : (firstF l).2 ≤ k) : firstF (l.take k) = firstF l := by
  cases l with
  | nil => exact absurd rfl h
  | cons c r =>
    cases k with
    | zero => omega
    | succ k =>
      show firstF (c :: r.take k) = _
      rw [firstF_cons] at h hk ⊢
      rw [firstF_cons]
      split
      · rename_i hc
        rw [if_pos hc] at h hk
        have e : runL okC (c :: r.take k) = runL okC (c :: r) := by
          apply runL_cut okC (c :: r) (k + 1)
          unfold wordF at h hk
          split at h
          · rename_i h1; rw [if_pos h1] at hk; exact hk
          · rename_i h1
            rw [if_neg h1] at hk
            split at h
            · rename_i h2; rw [if_pos h2] at hk; exact hk
            · exact absurd rfl h
        unfold wordF
        rw [e]
      · rename_i hc
        rw [if_neg hc] at h hk
        split
        · rename_i hd
          rw [if_pos hd] at h hk
          exact numF_cut (c :: r) (k + 1) h hk (by simp)
        · rename_i hd
          rw [if_neg hd] at h hk
          split
          · rename_i hq
            rw [if_pos hq] at h hk
            unfold symF at h hk
            split at h
            · rename_i h1
              rw [if_pos h1] at hk
              have hk' : (runL okC r).length + 2 ≤ k + 1 := hk
              have e : runL okC (r.take k) = runL okC r := runL_cut okC r k (by omega)
              unfold symF
              rw [e, List.drop_take, head_cut (by omega)]
            · exact absurd rfl h
          · rename_i hq
            rw [if_neg hq] at h hk
            unfold signF at h hk ⊢
            by_cases h2 : twoC (c.toNat : Int) = true ∧ r.head? = some 61
            · rw [if_pos h2] at hk
              have hk' : 2 ≤ k + 1 := hk
              rw [head_cut (by omega), if_pos h2]
            · rw [if_neg h2]
              have h3 : ¬ (twoC (c.toNat : Int) = true ∧ (r.take k).head? = some 61) := by
                rintro ⟨h3, h4⟩
                apply h2
                refine ⟨h3, ?_⟩
                cases k with
                | zero => simp at h4
                | succ k => rw [head_cut (by omega)] at h4; exact h4
              rw [if_neg h3]
theorem ScanR.place {a : Nat} {l : List UInt8} {T : List (Tok × Nat)} {e : Bool × Nat} (h : ScanR a l T e) : (e.1 = false → a ≤ e.2 ∧ e.2 < a + l.length) ∧ (e.1 = true → e.2 = a + l.length) := by
  induction h with
  | fin a => exact ⟨by simp, by simp⟩
  | blank a c r T e h k ih =>
    refine ⟨fun h => ?_, fun h => ?_⟩
    · have := ih.1 h; simp; omega
    · have := ih.2 h; simp; omega
  | tok a c r T e h hn k ih =>
    have hl := firstF_le (c :: r)
    generalize firstF (c :: r) = x at *
    rw [List.length_drop] at ih
    refine ⟨fun h => ?_, fun h => ?_⟩
    · have := ih.1 h; omega
    · have := ih.2 h; omega
  | bad a c r h hn => exact ⟨by simp, by simp⟩
theorem ScanR.cut {a : Nat} {l : List UInt8} {T : List (Tok × Nat)} {e : Bool × Nat} (h : ScanR a l T e) (hf : e.1 = false) : ScanR a (l.take (e.2 - a)) T (true, e.2) ∧ ScanR 0 (l.drop (e.2 - a)) [] (false, 0) := by
  induction h with
  | fin a => cases hf
  | blank a c r T e h k ih =>
    have hp := k.place.1 hf
    obtain ⟨h1, h2⟩ := ih hf
    have e1 : e.2 - a = (e.2 - (a + 1)) + 1 := by omega
    rw [e1]
    exact ⟨.blank a c _ T _ h h1, h2⟩
  | tok a c r T e h hn k ih =>
    have hp := k.place.1 hf
    obtain ⟨h1, h2⟩ := ih hf
    have hn1 : 1 ≤ (firstF (c :: r)).2 := by omega
    have ec := firstF_cut (c :: r) (e.2 - a) hn (by omega)
    have e1 : e.2 - a = (e.2 - a - 1) + 1 := by omega
    have et : (c :: r).take (e.2 - a) = c :: r.take (e.2 - a - 1) := by rw [e1]; rfl
    rw [et] at ec ⊢
    constructor
    · have := ScanR.tok a c (r.take (e.2 - a - 1)) T (true, e.2) h (by rw [ec]; exact hn) (by
        rw [ec, ← et, List.drop_take, show e.2 - a - (firstF (c :: r)).2 = e.2 - (a + (firstF (c :: r)).2) by omega]
        exact h1)
      rw [ec] at this
      exact this
    · rw [List.drop_drop] at h2
      rw [show (firstF (c :: r)).2 + (e.2 - (a + (firstF (c :: r)).2)) = e.2 - a by omega] at h2
      exact h2
  | bad a c r h hn =>
    rw [Nat.sub_self]
    exact ⟨.fin a, .bad 0 c r h hn⟩
end Go.Proofs.YteojcohmocbakaaDoor
