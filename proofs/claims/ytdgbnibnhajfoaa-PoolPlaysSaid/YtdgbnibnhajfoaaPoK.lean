/- A pool that is one row of cells, as PoolPaths makes it. -/
import Derived.Test.YtdgbnibnhajfoaaPoJ
import Derived.Test.YtdgbnibnhajfoaaMt
namespace Go.Proofs.Ytdgbnibnhajfoaa
open Go.ChangeShapes Go.WideShapes Go.ChangeAt Go.RowKit Go.Deep
set_option linter.unusedVariables false
set_option linter.unusedSimpArgs false
section
variable {H : Type} {enc : TypeId × Value → H} {w : World} {base : Nat} {held : Bool}
theorem open_rowsT {r : Reach} {b0 : Nat} {v : Value} {d : DataW H} {p : List MemPlace} (hv : Value.okWide Try.prog w r b0 41 v) (h : DataW.Trod enc Try.prog w base (fun _ => true) held 41 v d p) (hw : WB Try.prog 41 d) :
    ∃ (A : Option Addr) (cap : Nat) (bs : List (List Int)), v = .slice A bs.length cap ∧ RowsAt w A bs ∧ bs.length * 24 ≤ 140737488351232 ∧ ∀ l ∈ bs, l.length * 8 ≤ 140737488351232 := by
  obtain ⟨A0, len, cap0, rfl⟩ := okWide_slice Try.underlying41 hv
  obtain ⟨fuel, hf⟩ := h
  have hf2 : DataW.trod enc Try.prog w base (fun _ => true) held fuel 41 [.slice A0 len cap0] = some (d, p) := by simpa [Value.cells] using hf
  exact open_rows hf2 hw
end
/-- the events of rows, each with whether it begins a row -/
def itemR : List Int → List (Int × Bool)
  | [] => []
  | e :: t => (e, true) :: t.map fun x => (x, false)
def itemsOf (b : List (List Int)) : List (Int × Bool) := b.flatMap itemR
theorem itemR_len (l : List Int) : (itemR l).length = l.length := by cases l <;> simp [itemR]
theorem itemR_at {l : List Int} {i : Nat} {e : Int} (h : l[i]? = some e) : (itemR l)[i]? = some (e, i == 0) := by
  cases l with
  | nil => simp at h
  | cons a t =>
    cases i with
    | zero => simp at h; subst h; rfl
    | succ i =>
      simp at h
      simp [itemR, h]
theorem itemsOf_len (b : List (List Int)) : (itemsOf b).length = b.flatten.length := by
  induction b with
  | nil => rfl
  | cons l b ih => simp [itemsOf, itemR_len] at *; (try omega)
/-- how many come ahead of a row -/
def ahead (b : List (List Int)) (k : Nat) : Nat := (b.take k).flatten.length
theorem ahead_succ {b : List (List Int)} {k : Nat} {l : List Int} (h : b[k]? = some l) : ahead b (k + 1) = ahead b k + l.length := by
  unfold ahead
  rw [List.take_add_one, h]
  simp
theorem ahead_all (b : List (List Int)) : ahead b b.length = b.flatten.length := by unfold ahead; rw [List.take_length]
theorem ahead_le (b : List (List Int)) (k : Nat) : ahead b k ≤ b.flatten.length := by
  have h : (b.take k ++ b.drop k).flatten.length = b.flatten.length := by rw [List.take_append_drop]
  rw [List.flatten_append, List.length_append] at h
  unfold ahead
  omega
theorem itemsOf_at : ∀ {b : List (List Int)} {k i : Nat} {l : List Int} {e : Int}, b[k]? = some l → l[i]? = some e → (itemsOf b)[ahead b k + i]? = some (e, i == 0)
  | [], k, i, l, e, h, h2 => by simp at h
  | a :: b, 0, i, l, e, h, h2 => by
    simp at h
    subst h
    have hlt : i < (itemR a).length := by rw [itemR_len]; exact (List.getElem?_eq_some_iff.1 h2).1
    show (itemR a ++ itemsOf b)[ahead (a :: b) 0 + i]? = _
    rw [show ahead (a :: b) 0 + i = i by simp [ahead], List.getElem?_append_left hlt]
    exact itemR_at h2
  | a :: b, k + 1, i, l, e, h, h2 => by
    have := itemsOf_at (b := b) (k := k) (by simpa using h) h2
    show (itemR a ++ itemsOf b)[ahead (a :: b) (k + 1) + i]? = _
    have ha : ahead (a :: b) (k + 1) = a.length + ahead b k := by simp [ahead]
    rw [ha, List.getElem?_append_right (by rw [itemR_len]; omega), ← this, itemR_len]
    congr 1
    omega

/-- the cells of a row, one behind the other: n of them -/
structure PCh (K : Nat) (F : List (Int × Bool)) (n : Nat) (s : PS) : Prop where
  most : s.most = 1000
  free : s.free = []
  len : s.all.length = n
  le : n ≤ F.length
  cl : ∀ (k : Nat) (c : Cl), s.all[k]? = some c → ∃ x, F[k]? = some x ∧ c.prev = (k : Int) - 1 ∧ c.event = x.1 ∧ c.fresh = x.2 ∧ 1 ≤ c.own ∧ c.own ≤ K ∧ 1 ≤ c.holds ∧ c.holds ≤ 2 * K
  num : ∀ (k : Nat) (e : Int) (b : Bool), s.num ((k : Int) - 1, e, b) = if k < n ∧ F[k]? = some (e, b) then some (k : Int) else none
theorem PCh.start (F : List (Int × Bool)) : PCh 0 F 0 (newS 1000) := ⟨rfl, rfl, rfl, Nat.zero_le _, fun k c h => by simp [newS] at h, fun k e b => by simp [newS]⟩
theorem PCh.used {K n : Nat} {F : List (Int × Bool)} {s : PS} (h : PCh K F n s) : usedP s = n := by
  unfold usedP
  rw [h.len, h.free]
  simp
theorem PCh.find {K n : Nat} {F : List (Int × Bool)} {s : PS} (h : PCh K F n s) {k : Nat} (hk : k < n) : ∃ c, s.all[k]? = some c ∧ findP s (k : Int) = some c ∧ 0 ≤ c.own ∧ c.own ≤ K ∧ 0 ≤ c.holds ∧ c.holds ≤ 2 * K := by
  have hc : s.all[k]? = some (s.all[k]'(by rw [h.len]; exact hk)) := List.getElem?_eq_getElem _
  obtain ⟨x, _, _, _, _, b1, b2, b3, b4⟩ := h.cl k _ hc
  exact ⟨_, hc, findP_some.2 ⟨hc, by omega⟩, by omega, b2, by omega, b4⟩
theorem PCh.there {K n : Nat} {F : List (Int × Bool)} {s : PS} (h : PCh K F n s) {k : Nat} {c : Cl} (hc : s.all[k]? = some c) : PCh (K + 1) F n (holdP s k c) := by
  have hlt : k < s.all.length := (List.getElem?_eq_some_iff.1 hc).1
  refine ⟨h.most, h.free, by simp [holdP, h.len], h.le, fun j d hj => ?_, h.num⟩
  simp only [holdP] at hj
  rw [List.getElem?_set] at hj
  split at hj
  · rename_i e
    subst e
    injection hj with hj
    subst hj
    obtain ⟨x, a0, a1, a2, a3, b1, b2, b3, b4⟩ := h.cl k c hc
    exact ⟨x, a0, a1, a2, a3, by simp; omega, by simp; omega, by simp; omega, by simp; omega⟩
  · obtain ⟨x, a0, a1, a2, a3, b1, b2, b3, b4⟩ := h.cl j d hj
    exact ⟨x, a0, a1, a2, a3, b1, by omega, b3, by omega⟩
theorem PCh.bumped {K n : Nat} {F : List (Int × Bool)} {s : PS} (h : PCh K F n s) (hn : n ≤ F.length) :
    (bump s ((n : Int) - 1)).all.length = n ∧ ∀ (k : Nat) (c : Cl), (bump s ((n : Int) - 1)).all[k]? = some c → ∃ x, F[k]? = some x ∧ c.prev = (k : Int) - 1 ∧ c.event = x.1 ∧ c.fresh = x.2 ∧ 1 ≤ c.own ∧ c.own ≤ K ∧ 1 ≤ c.holds ∧ c.holds ≤ 2 * K + 1 := by
  have hl := bump_len s ((n : Int) - 1)
  refine ⟨hl.1.trans h.len, fun k c hk => ?_⟩
  cases n with
  | zero =>
    have e : bump s (((0 : Nat) : Int) - 1) = s := bump_none s
    rw [e] at hk
    obtain ⟨x, a0, a1, a2, a3, b1, b2, b3, b4⟩ := h.cl k c hk
    exact ⟨x, a0, a1, a2, a3, b1, b2, b3, by omega⟩
  | succ m =>
    obtain ⟨d, hd, hf, _⟩ := h.find (k := m) (by omega)
    have e : bump s (((m + 1 : Nat) : Int) - 1) = { s with all := s.all.set m { d with holds := d.holds + 1 } } := by
      rw [show ((m + 1 : Nat) : Int) - 1 = (m : Int) by omega]; exact bump_some hf
    have hml : m < s.all.length := by rw [h.len]; omega
    rw [e] at hk
    simp only at hk
    rw [List.getElem?_set] at hk
    split at hk
    · rename_i e2
      subst e2
      injection hk with hk
      subst hk
      obtain ⟨x, a0, a1, a2, a3, b1, b2, b3, b4⟩ := h.cl m d hd
      exact ⟨x, a0, a1, a2, a3, b1, b2, by simp; omega, by simp; omega⟩
    · obtain ⟨x, a0, a1, a2, a3, b1, b2, b3, b4⟩ := h.cl k c hk
      exact ⟨x, a0, a1, a2, a3, b1, b2, b3, by omega⟩
theorem PCh.new {K n : Nat} {F : List (Int × Bool)} {s : PS} (h : PCh K F n s) {e : Int} {b : Bool} (hx : F[n]? = some (e, b)) : PCh (K + 1) F (n + 1) (addP s ((n : Int) - 1, e, b)) := by
  have hlt : n < F.length := (List.getElem?_eq_some_iff.1 hx).1
  have hl := bump_len s ((n : Int) - 1)
  obtain ⟨hb1, hb2⟩ := h.bumped (by omega)
  refine ⟨?_, ?_, ?_, by omega, ?_, ?_⟩
  · simp only [addP]; rw [hl.2.2.2]; exact h.most
  · simp only [addP]; rw [hl.2.1]; exact h.free
  · simp only [addP, List.length_append]; rw [hb1]; rfl
  · intro k c hk
    simp only [addP] at hk
    by_cases hkn : k < n
    · rw [List.getElem?_append_left (by rw [hb1]; exact hkn)] at hk
      obtain ⟨x, a0, a1, a2, a3, b1, b2, b3, b4⟩ := hb2 k c hk
      exact ⟨x, a0, a1, a2, a3, b1, by omega, b3, by omega⟩
    · rw [List.getElem?_append_right (by rw [hb1]; omega), hb1] at hk
      have h0 : k - n = 0 := by
        rcases Nat.eq_zero_or_pos (k - n) with h0 | h0
        · exact h0
        · rw [List.getElem?_eq_none (by simp; omega)] at hk; cases hk
      rw [h0] at hk
      simp at hk
      subst hk
      obtain rfl : k = n := by omega
      exact ⟨_, hx, rfl, rfl, rfl, by simp [newC], by simp [newC]; omega, by simp [newC], by simp [newC]; omega⟩
  · intro k e' b'
    simp only [addP, putN]
    by_cases hkn : k = n
    · subst hkn
      rw [h.len]
      by_cases h2 : (e', b') = (e, b)
      · cases h2
        rw [if_pos rfl, if_pos ⟨by omega, hx⟩]
      · rw [if_neg (by intro q; injection q with _ q; exact h2 q), h.num, if_neg (by omega), if_neg]
        rintro ⟨_, q⟩
        rw [hx] at q
        injection q with q
        exact h2 q.symm
    · rw [if_neg (by intro q; injection q with q; omega), h.num]
      by_cases h1 : k < n ∧ F[k]? = some (e', b')
      · rw [if_pos h1, if_pos ⟨by omega, h1.2⟩]
      · rw [if_neg h1, if_neg]
        rintro ⟨q1, q2⟩
        exact h1 ⟨by omega, q2⟩
theorem PCh.chain {K n : Nat} {F : List (Int × Bool)} {s : PS} (h : PCh K F n s) : ∀ k : Nat, k ≤ n → chainP s ((k : Int) - 1) (s.all.take k).reverse
  | 0, _ => findP_neg s
  | k + 1, hk => by
    obtain ⟨c, hc, hf, _⟩ := h.find (k := k) (by omega)
    obtain ⟨x, _, hp, _⟩ := h.cl k c hc
    rw [List.take_add_one, hc]
    simp only [Option.toList_some, List.reverse_append, List.reverse_cons, List.reverse_nil, List.nil_append, List.singleton_append]
    refine ⟨by rw [show ((k + 1 : Nat) : Int) - 1 = (k : Int) by omega]; exact hf, ?_⟩
    rw [hp]
    exact h.chain k (by omega)
theorem PCh.items {K : Nat} {F : List (Int × Bool)} {s : PS} (h : PCh K F F.length s) : s.all.map (fun c => (c.event, c.fresh)) = F := by
  apply List.ext_getElem?
  intro k
  rw [List.getElem?_map]
  cases hc : s.all[k]? with
  | none =>
    have := h.len
    rw [List.getElem?_eq_none_iff] at hc
    rw [List.getElem?_eq_none (by omega)]
    rfl
  | some c =>
    obtain ⟨x, a0, _, a2, a3, _⟩ := h.cl k c hc
    rw [a0]
    simp [a2, a3]
theorem pathS_plain : ∀ (r : List Cl) (rest : List Cl) (ll : List (List Int)) (part : List Int), (∀ c ∈ r, c.fresh = false) → pathS (r ++ rest) ll part = pathS rest ll (part ++ r.map (·.event))
  | [], rest, ll, part, h => by simp
  | c :: r, rest, ll, part, h => by
    rw [List.cons_append, pathS, if_neg (by rw [h c (by simp)]; simp), pathS_plain r rest ll _ fun d hd => h d (by simp [hd])]
    simp
theorem pathS_row (r : List Cl) (rest : List Cl) (ll : List (List Int)) (l : List Int) (hl : l ≠ []) (h : r.map (fun c => (c.event, c.fresh)) = itemR l) : pathS (r.reverse ++ rest) ll [] = pathS rest (ll ++ [l]) [] := by
  cases l with
  | nil => exact absurd rfl hl
  | cons e t =>
    cases r with
    | nil => simp [itemR] at h
    | cons c r =>
      simp only [itemR, List.map_cons, List.cons.injEq, Prod.mk.injEq] at h
      obtain ⟨⟨h1, h2⟩, h3⟩ := h
      have hf : ∀ d ∈ r, d.fresh = false := fun d hd => by
        have : (d.event, d.fresh) ∈ t.map fun x => (x, false) := by rw [← h3]; exact List.mem_map.2 ⟨d, hd, rfl⟩
        obtain ⟨y, _, hy⟩ := List.mem_map.1 this
        injection hy with _ hy
        exact hy.symm
      have ht : r.map (·.event) = t := by
        have := congrArg (List.map Prod.fst) h3
        simpa [List.map_map, Function.comp_def] using this
      rw [List.reverse_cons, List.append_assoc, pathS_plain _ _ _ _ (fun d hd => hf d (by simpa using hd))]
      rw [List.singleton_append, pathS, if_pos h2, h1, List.nil_append, List.map_reverse, ht]
      simp
theorem pathL_items_r : ∀ (b : List (List Int)), (∀ l ∈ b, l ≠ []) → ∀ (cs : List Cl), cs.map (fun c => (c.event, c.fresh)) = itemsOf b.reverse → ∀ ll, pathS cs.reverse ll [] = b.reverse ++ ll.reverse
  | [], _, cs, h, ll => by
    simp [itemsOf] at h
    subst h
    rfl
  | l :: b, hb, cs, h, ll => by
    have h2 : itemsOf (l :: b).reverse = itemsOf b.reverse ++ itemR l := by simp [itemsOf]
    rw [h2] at h
    obtain ⟨c1, c2, rfl, h3, h4⟩ := List.map_eq_append_iff.1 h
    rw [List.reverse_append, pathS_row c2 c1.reverse ll l (hb l (by simp)) h4, pathL_items_r b (fun l hl => hb l (by simp [hl])) c1 h3]
    simp
theorem pathL_items (b : List (List Int)) (hb : ∀ l ∈ b, l ≠ []) (cs : List Cl) (h : cs.map (fun c => (c.event, c.fresh)) = itemsOf b) : pathL cs.reverse = b := by
  have := pathL_items_r b.reverse (fun l hl => hb l (by simpa using hl)) cs (by simpa using h) []
  simpa [pathL] using this

/-- one more event put behind the last one, or found there -/
theorem add_step {B p K n : Nat} {D : Nat → Prop} {F : List (Int × Bool)} {s : PS} {w : World} (hP : PAt B p D s w) (hF : PCh K F n s) (hF0 : ∀ x, F[0]? = some x → x.2 = true) (j : Nat) (e : Int) (b : Bool) (hx : F[j]? = some (e, b)) (he : 0 ≤ e) (hj : j ≤ n) (hK : K ≤ 1000) (hn : n ≤ 900) :
    Calls Try.prog 11 #[.pointer (some ⟨p, 0, none⟩), .int .i64 ((j : Int) - 1), .int .i64 e, .bool b] w fun en w' => en = .returned (.tuple #[.int .i64 (j : Int), .bool true]) ∧ ∃ s', PCh (K + 1) F (max n (j + 1)) s' ∧ POut B p D w s' w' := by
  have hnum := hF.num j e b
  by_cases hjn : j < n
  · rw [if_pos ⟨hjn, hx⟩] at hnum
    obtain ⟨c, hc, hf, b1, b2, b3, b4⟩ := hF.find hjn
    have hmax : max n (j + 1) = n := by omega
    rw [hmax]
    have hend : ∀ (en : Ending) (w' : World), (en = .returned (.tuple #[.int .i64 (j : Int), .bool true]) ∧ POut B p D w (holdP s j c) w') → en = .returned (.tuple #[.int .i64 (j : Int), .bool true]) ∧ ∃ s', PCh (K + 1) F n s' ∧ POut B p D w s' w' := fun en w' h => ⟨h.1, _, hF.there hc, h.2⟩
    cases j with
    | zero =>
      have hb : b = true := hF0 _ hx
      subst hb
      exact (add_there_root_true hP e he 0 c hnum hf (by omega) (by omega)).mono hend
    | succ i =>
      obtain ⟨cp, _, hfp, _⟩ := hF.find (k := i) (by omega)
      have e1 : ((i + 1 : Nat) : Int) - 1 = (i : Int) := by omega
      rw [e1] at hnum ⊢
      cases b with
      | true => exact (add_there_kid_true hP e he i cp hfp (i + 1) c hnum hf (by omega) (by omega)).mono hend
      | false => exact (add_there_kid_false hP e he i cp hfp (i + 1) c hnum hf (by omega) (by omega)).mono hend
  · obtain rfl : j = n := by omega
    rw [if_neg (fun q => hjn q.1)] at hnum
    have hmax : max j (j + 1) = j + 1 := by omega
    rw [hmax]
    have hu : usedP s < s.most := by rw [hF.used, hF.most]; omega
    have hend : ∀ (en : Ending) (w' : World), (en = .returned (.tuple #[.int .i64 (s.all.length : Int), .bool true]) ∧ POut B p D w (addP s ((j : Int) - 1, e, b)) w') → en = .returned (.tuple #[.int .i64 (j : Int), .bool true]) ∧ ∃ s', PCh (K + 1) F (j + 1) s' ∧ POut B p D w s' w' := fun en w' h => ⟨by rw [h.1, hF.len], _, hF.new hx, h.2⟩
    cases j with
    | zero =>
      have hb : b = true := hF0 _ hx
      subst hb
      exact (add_new_root_true hP e he hnum hu hF.free (by rw [hF.len]; omega)).mono hend
    | succ i =>
      obtain ⟨cp, _, hfp, _, _, b3, b4⟩ := hF.find (k := i) (by omega)
      have e1 : ((i + 1 : Nat) : Int) - 1 = (i : Int) := by omega
      rw [e1] at hnum hend ⊢
      cases b with
      | true => exact (add_new_kid_true hP e he i cp hfp (by omega) hnum hu hF.free (by rw [hF.len]; omega)).mono hend
      | false => exact (add_new_kid_false hP e he i cp hfp (by omega) hnum hu hF.free (by rw [hF.len]; omega)).mono hend
/-- the path of the last cell -/
theorem path_step {B p K : Nat} {D : Nat → Prop} {bound : List (List Int)} {s : PS} {w : World} (hP : PAt B p D s w) (hF : PCh K (itemsOf bound) (itemsOf bound).length s) (hb : ∀ l ∈ bound, l ≠ []) (hn : (itemsOf bound).length ≤ 900) :
    Calls Try.prog 22 #[.pointer (some ⟨p, 0, none⟩), .int .i64 (((itemsOf bound).length : Int) - 1)] w (PathEnd w bound) := by
  have h := path_any hP (((itemsOf bound).length : Int) - 1) (by omega) s.all.reverse (by
    have := hF.chain (itemsOf bound).length (Nat.le_refl _)
    rw [← hF.len, List.take_length] at this
    rw [← hF.len]; exact this) (by simp; rw [hF.len]; omega) (fun k c hc => by
    obtain ⟨x, a0, a1, _⟩ := hF.cl k c hc
    have := (List.getElem?_eq_some_iff.1 hc).1
    rw [hF.len] at this
    rw [a1]; omega)
  rw [pathL_items bound hb s.all hF.items] at h
  exact h
theorem itemsOf_first {b : List (List Int)} (hb : ∀ l ∈ b, l ≠ []) {x : Int × Bool} (hx : (itemsOf b)[0]? = some x) : x.2 = true := by
  cases b with
  | nil => simp [itemsOf] at hx
  | cons l b =>
    cases l with
    | nil => exact absurd rfl (hb [] (by simp))
    | cons e t =>
      simp [itemsOf, itemR] at hx
      subst hx
      rfl
/-- the law's two last cells, while the one at q is at x -/
def lastC (q na : Nat) (x : Int) : Array Value := if q = 0 then #[.int .i64 x, .int .i64 (-1)] else #[.int .i64 ((na : Int) - 1), .int .i64 x]
theorem lastC_at {q na : Nat} {x : Int} (h : q < 2) : (lastC q na x)[q]? = some (.int .i64 x) := by
  unfold lastC
  match q, h with
  | 0, _ => rfl
  | 1, _ => rfl
theorem lastC_put {q na : Nat} {x y : Int} (h : q < 2) : (lastC q na x).setIfInBounds q (.int .i64 y) = lastC q na y := by
  unfold lastC
  match q, h with
  | 0, _ => rfl
  | 1, _ => rfl
/-- between two rounds of putting in: t events of this one are in -/
structure PRnd (w : World) (N p g na q : Nat) (F : List (Int × Bool)) (t : Nat) (wr : World) : Prop where
  st : ∃ K s, K ≤ q * na + t ∧ PCh K F (max (if q = 0 then 0 else na) t) s ∧ PAt N p (fun k => N ≤ k ∧ k ≠ g) s wr
  last : Blk wr g 48 (lastC q na ((t : Int) - 1))
  below : Below w.heap.size w wr
  low : N ≤ g
theorem PRnd.step {w : World} {N p g na q : Nat} {F : List (Int × Bool)} {t : Nat} {wr : World} (h : PRnd w N p g na q F t wr) (hN : w.heap.size = N) (hF0 : ∀ x, F[0]? = some x → x.2 = true) (hq : q < 2) (hna : na = F.length) (hn : na ≤ 300) {e : Int} {b : Bool} (hx : F[t]? = some (e, b)) (he : 0 ≤ e) :
    Calls Try.prog 11 #[.pointer (some ⟨p, 0, none⟩), .int .i64 ((t : Int) - 1), .int .i64 e, .bool b] wr fun en w' => en = .returned (.tuple #[.int .i64 (t : Int), .bool true]) ∧ w'.frozen? ⟨g, q, none⟩ = false ∧ w'.cell? ⟨g, q, none⟩ = some (.int .i64 ((t : Int) - 1)) ∧ PRnd w N p g na q F (t + 1) (w'.setCell ⟨g, q, none⟩ (.int .i64 (t : Int))) := by
  obtain ⟨⟨K, s, hK, hC, hP⟩, hL, hb, hgN⟩ := h
  have htl : t < F.length := (List.getElem?_eq_some_iff.1 hx).1
  have hKb : K ≤ 1000 := by
    have : q * na ≤ 1 * 300 := Nat.mul_le_mul (by omega) hn
    omega
  refine (add_step hP hC hF0 t e b hx he (Nat.le_max_right _ _) hKb (by split <;> omega)).mono ?_
  rintro en w' ⟨rfl, s', hC', hO⟩
  have hlt := hL.lt
  obtain ⟨hP', hb', hh⟩ := hO.but hb hN hlt
  have hL' : Blk w' g 48 (lastC q na ((t : Int) - 1)) := hh.trans hL
  refine ⟨rfl, hL'.free q, by rw [hL'.cell, lastC_at hq], ⟨K + 1, s', by omega, ?_, hP'.beside (mset w' ⟨g, q, none⟩ _)⟩, ?_, hb'.grown (mset w' ⟨g, q, none⟩ _) hb'.size fun j ej => by injection ej with ej; subst ej; show w.heap.size ≤ g; omega, hgN⟩
  · have e1 : max (max (if q = 0 then 0 else na) t) (t + 1) = max (if q = 0 then 0 else na) (t + 1) := by omega
    rw [← e1]; exact hC'
  · have := hL'.put_ q (.int .i64 (t : Int))
    rw [lastC_put hq] at this
    rw [show ((t + 1 : Nat) : Int) - 1 = (t : Int) by omega]
    exact this
theorem PRnd.next {w : World} {N p g na : Nat} {F : List (Int × Bool)} {wr : World} (h : PRnd w N p g na 0 F na wr) : PRnd w N p g na 1 F 0 wr := by
  obtain ⟨⟨K, s, hK, hC, hP⟩, hL, hb, hg⟩ := h
  refine ⟨⟨K, s, by omega, ?_, hP⟩, hL, hb, hg⟩
  have e : max (if (0 : Nat) = 0 then 0 else na) na = max (if (1 : Nat) = 0 then 0 else na) 0 := by simp
  rw [← e]; exact hC
theorem PRnd.later {w : World} {N p g na q t : Nat} {F : List (Int × Bool)} {wr u : World} (h : PRnd w N p g na q F t wr) (hb : Below wr.heap.size wr u) : PRnd w N p g na q F t u := by
  obtain ⟨⟨K, s, hK, hC, hP⟩, hL, hb0, hg⟩ := h
  exact ⟨⟨K, s, hK, hC, hP.later hb⟩, hL.kept hb, mmore hb0 hb, hg⟩
theorem PRnd.used {w : World} {N p g na q : Nat} {F : List (Int × Bool)} {wr : World} (h : PRnd w N p g na q F na wr) :
    Calls Try.prog 17 #[.pointer (some ⟨p, 0, none⟩)] wr fun e w' => e = .returned (.int .i64 (na : Int)) ∧ PRnd w N p g na q F na w' := by
  have h0 := h
  obtain ⟨⟨K, s, hK, hC, hP⟩, hL, hb0, hg⟩ := h
  refine (used_any hP).mono ?_
  rintro e w' ⟨rfl, n, rfl⟩
  refine ⟨?_, h0.later (below_dn _ _)⟩
  rw [hC.used]
  congr 3
  split <;> omega
theorem PRnd.path {w : World} {N p g na : Nat} {bound : List (List Int)} {wr : World} (h : PRnd w N p g na 1 (itemsOf bound) na wr) (hna : na = (itemsOf bound).length) (hb : ∀ l ∈ bound, l ≠ []) (hn : na ≤ 300) :
    Calls Try.prog 22 #[.pointer (some ⟨p, 0, none⟩), .int .i64 ((na : Int) - 1)] wr (PathEnd wr bound) := by
  obtain ⟨⟨K, s, hK, hC, hP⟩, hL, hb0, hg⟩ := h
  subst hna
  have e : max (if (1 : Nat) = 0 then 0 else (itemsOf bound).length) (itemsOf bound).length = (itemsOf bound).length := by simp
  rw [e] at hC
  exact path_step hP hC hb (by omega)
end Go.Proofs.Ytdgbnibnhajfoaa
