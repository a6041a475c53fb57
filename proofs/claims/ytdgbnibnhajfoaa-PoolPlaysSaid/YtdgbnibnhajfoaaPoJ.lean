/- A pool of events behind none: what there is, as PoolFull keeps it. -/
import Derived.Test.YtdgbnibnhajfoaaPoI
import Derived.Test.YtdgbnibnhajfoaaIMp
import Derived.Test.YtdgbnibnhajfoaaSchO
namespace Go.Proofs.Ytdgbnibnhajfoaa
open Go.ChangeShapes Go.WideShapes Go.ChangeAt Go.RowKit
set_option linter.unusedVariables false
set_option linter.unusedSimpArgs false
/-- what is known of a slice of ints that came in -/
def IntsIn (k : IntKind) (w : World) (a : Option Addr) (len cap : Nat) (zs : List Int) : Prop :=
  (a = none ∧ len = 0 ∧ cap = 0 ∧ zs = []) ∨
  ∃ x, a = some x ∧ len ≤ cap ∧ cap ≤ maxLen ∧ zs.length = cap ∧ (∀ i, i < zs.length → w.cell? (x.add i) = some (.int k (zs.getD i 0))) ∧ ∀ n ∈ zs, (Lit.int k n).wf = true
theorem IntsIn.at_ {w : World} {A : Option Addr} {n c : Nat} {zs : List Int} (h : IntsIn .i64 w A n c zs) : IntsAt w A (zs.take n) ∧ (zs.take n).length = n ∧ ∀ z ∈ zs.take n, -9223372036854775808 ≤ z ∧ z ≤ 9223372036854775807 := by
  rcases h with ⟨rfl, rfl, rfl, rfl⟩ | ⟨x, rfl, hl, hm, hz, hc, hw⟩
  · exact ⟨fun h => absurd h (by simp), rfl, fun z hz => by simp at hz⟩
  · have ht : (zs.take n).length = n := by rw [List.length_take]; omega
    refine ⟨fun hn => ?_, ht, fun z hz => ?_⟩
    · rw [ht] at hn
      obtain ⟨b, off, rfl⟩ := spot_of (hc 0 (by omega))
      refine ⟨b, off, rfl, fun i z hi => ?_⟩
      have hi2 : i < n := by have := (List.getElem?_eq_some_iff.1 hi).1; omega
      have hci := hc i (by omega)
      rw [add_plain] at hci
      rw [hci]
      rw [List.getElem?_take_of_lt hi2] at hi
      rw [List.getD_eq_getElem?_getD, hi]; rfl
    · have := hw z (List.mem_of_mem_take hz)
      simp [Lit.wf, show IntKind.i64.min = -9223372036854775808 from rfl] at this
      omega
theorem run_lookup_I2 {P : Program} {w : World} {t mt et : TypeId} (hmt : P.underlying mt = some (.map t et)) (ht : P.underlying t = some (.int .i64)) {z : Value} {i : TypeInfo} (hz : P.info? et = some i) (hz2 : i.zero = some z) {r : Nat} {f : Int → Option Value} (h : IMap w r f) (x : Int) :
    (Instr.lookup mt (.map (some r)) (.int .i64 x) true).run P w = .ok (.tuple #[(f x).getD z, .bool (f x).isSome]) w := by
  obtain ⟨es, clock, h1, h2, h3, h4⟩ := h
  have hc : ∀ b, (Instr.checkKey b 10000 t (.int .i64 x)).run P w = .ok () w := fun b => MapKept.run_checkKey (d := .int .i64) ht (show MapKept.IsKey (.int .i64) (.int .i64 x) from rfl) b 9999
  rcases findI (P := P) (w := w) ht es f h2 h3 x with ⟨h5, _, h6⟩ | ⟨j, e, h5, _, _, h6⟩
  · simp [Instr.lookup, run_underlying hmt, MapKept.run_getObj_map h1, hc, h6, h5, zeroValue, typeInfo, hz, hz2, Result.andThen]
  · simp [Instr.lookup, run_underlying hmt, MapKept.run_getObj_map h1, hc, h6, h5, Result.andThen]
/-- how many a map holds -/
theorem IMap.count {P : Program} {w : World} {t mt et : TypeId} (hmt : P.underlying mt = some (.map t et)) {r : Nat} {f : Int → Option Value} (h : IMap w r f) {L : List Int} (hn : L.Nodup) (hL : ∀ k, (f k).isSome = true ↔ k ∈ L) (ty : TypeId) :
    (Builtin.len_ #[mt] ty #[.map (some r)]).run P w = .ok (.int .i64 (L.length : Int)) w := by
  obtain ⟨es, clock, h1, h2, h3, h4⟩ := h
  have hs : es.size = L.length := by
    have hk : ∀ e ∈ es.toList, ∃ i : Int, e.key = .int .i64 i ∧ i ∈ L := fun e he => by
      obtain ⟨i, hi, hf⟩ := h2 e he
      exact ⟨i, hi, (hL i).1 (by rw [hf]; rfl)⟩
    let key : MapEntry → Int := fun e => match e.key with | .int _ i => i | _ => 0
    have hkey : ∀ e ∈ es.toList, e.key = .int .i64 (key e) := fun e he => by
      obtain ⟨i, hi, _⟩ := hk e he
      simp only [key, hi]
    have n1 : (es.toList.map key).Nodup := by
      unfold List.Nodup
      rw [List.pairwise_iff_getElem]
      intro i j hi hj hij
      simp only [List.length_map, Array.length_toList] at hj hi
      simp only [List.getElem_map, Array.getElem_toList]
      intro e
      have e1 := hkey es[i] (Array.getElem_mem_toList (by omega))
      have e2 := hkey es[j] (Array.getElem_mem_toList hj)
      have := h4 i j es[i] es[j] (Array.getElem?_eq_getElem (by omega)) (Array.getElem?_eq_getElem hj) (by rw [e1, e2, e])
      omega
    have hp : (es.toList.map key).Perm L := by
      rw [List.perm_ext_iff_of_nodup n1 hn]
      intro a
      constructor
      · intro ha
        obtain ⟨e, he, rfl⟩ := List.mem_map.1 ha
        obtain ⟨i, hi, hiL⟩ := hk e he
        have := hkey e he
        rw [hi] at this
        injection this with _ this
        rw [← this]; exact hiL
      · intro ha
        have := (hL a).2 ha
        cases hfa : f a with
        | none => rw [hfa] at this; cases this
        | some v =>
          obtain ⟨e, he, hek⟩ := h3 a v hfa
          refine List.mem_map.2 ⟨e, he, ?_⟩
          simp only [key, hek]
    have := hp.length_eq
    simpa using this
  simp [Builtin.len_, run_underlying hmt, MapKept.run_getObj_map h1, goInt, Result.andThen, hs]

/-- what a pool is behind some rounds of PoolFull: L are the events that there are, in the order of their cells; f is what the law has written down -/
structure PFull (K m : Nat) (L : List Int) (s : PS) (f : Int → Option Value) : Prop where
  most : s.most = m
  free : s.free = []
  nd : L.Nodup
  le : L.length ≤ m
  len : s.all.length = L.length
  cl : ∀ (k : Nat) (c : Cl), s.all[k]? = some c → 1 ≤ c.own ∧ c.own ≤ K ∧ 1 ≤ c.holds ∧ c.holds ≤ K
  num : ∀ e, s.num (-1, e, true) = if e ∈ L then some (L.idxOf e : Int) else none
  map : ∀ e, f e = if e ∈ L then some (.int .i64 (L.idxOf e : Int)) else none
theorem PFull.start (m : Nat) : PFull 0 m [] (newS m) fun _ => none :=
  ⟨rfl, rfl, List.nodup_nil, Nat.zero_le _, rfl, fun k c h => by simp [newS] at h, fun e => by simp [newS], fun e => by simp⟩
theorem PFull.used {K m : Nat} {L : List Int} {s : PS} {f : Int → Option Value} (h : PFull K m L s f) : usedP s = L.length := by
  unfold usedP
  rw [h.len, h.free]
  simp
theorem PFull.some_ {K m : Nat} {L : List Int} {s : PS} {f : Int → Option Value} (h : PFull K m L s f) (k : Int) : (f k).isSome = true ↔ k ∈ L := by
  rw [h.map]
  split <;> simp [*]
theorem PFull.there {K m : Nat} {L : List Int} {s : PS} {f : Int → Option Value} (h : PFull K m L s f) {e : Int} (he : e ∈ L) :
    ∃ c, findP s (L.idxOf e : Int) = some c ∧ s.num (-1, e, true) = some (L.idxOf e : Int) ∧ f e = some (.int .i64 (L.idxOf e : Int)) ∧ 0 ≤ c.own ∧ c.own ≤ K ∧ 0 ≤ c.holds ∧ c.holds ≤ K ∧ PFull (K + 1) m L (holdP s (L.idxOf e) c) (iput f e (.int .i64 (L.idxOf e : Int))) := by
  have hlt : L.idxOf e < s.all.length := by rw [h.len]; exact List.idxOf_lt_length_iff.2 he
  have hc : s.all[L.idxOf e]? = some s.all[L.idxOf e] := List.getElem?_eq_getElem hlt
  obtain ⟨b1, b2, b3, b4⟩ := h.cl _ _ hc
  refine ⟨_, findP_some.2 ⟨hc, by omega⟩, by rw [h.num, if_pos he], by rw [h.map, if_pos he], by omega, b2, by omega, b4, h.most, h.free, h.nd, h.le, by simp [holdP, h.len], fun k c hk => ?_, h.num, fun e' => ?_⟩
  · simp only [holdP] at hk
    rw [List.getElem?_set] at hk
    split at hk
    · injection hk with hk
      subst hk
      simp
      omega
    · have := h.cl k c hk
      omega
  · unfold iput
    split
    · rename_i q; subst q; rw [if_pos he]
    · exact h.map e'
theorem PFull.more {K m : Nat} {L : List Int} {s : PS} {f : Int → Option Value} (h : PFull K m L s f) : PFull (K + 1) m L s f :=
  ⟨h.most, h.free, h.nd, h.le, h.len, fun k c hk => by have := h.cl k c hk; omega, h.num, h.map⟩
theorem PFull.new {K m : Nat} {L : List Int} {s : PS} {f : Int → Option Value} (h : PFull K m L s f) {e : Int} (he : e ∉ L) (hl : L.length < m) :
    PFull (K + 1) m (L ++ [e]) (addP s (-1, e, true)) (iput f e (.int .i64 (L.length : Int))) := by
  have hb : bump s (-1) = s := bump_none s
  have hidx : ∀ e', e' ∈ L → (L ++ [e]).idxOf e' = L.idxOf e' := fun e' h' => by rw [List.idxOf_append, if_pos h']
  have hself : (L ++ [e]).idxOf e = L.length := by rw [List.idxOf_append, if_neg he]; simp
  refine ⟨?_, ?_, ?_, by simp; omega, ?_, ?_, ?_, ?_⟩
  · simp only [addP, hb]; exact h.most
  · simp only [addP, hb]; exact h.free
  · rw [List.nodup_append]
    refine ⟨h.nd, by simp, fun a ha b hb2 => ?_⟩
    simp at hb2
    subst hb2
    intro e2; subst e2; exact he ha
  · simp only [addP, hb, List.length_append, h.len]; rfl
  · intro k c hk
    simp only [addP, hb] at hk
    by_cases hlt : k < s.all.length
    · rw [List.getElem?_append_left hlt] at hk
      have := h.cl k c hk
      omega
    · rw [List.getElem?_append_right (by omega)] at hk
      have h0 : k - s.all.length = 0 := by
        rcases Nat.eq_zero_or_pos (k - s.all.length) with h0 | h0
        · exact h0
        · rw [List.getElem?_eq_none (by simp; omega)] at hk; cases hk
      rw [h0] at hk
      simp at hk
      subst hk
      simp [newC]
      omega
  · intro e'
    simp only [addP, putN]
    by_cases h1 : e' = e
    · subst h1
      rw [if_pos rfl, if_pos (by simp), hself, h.len]
    · rw [if_neg (by simp [h1]), h.num]
      by_cases h2 : e' ∈ L
      · rw [if_pos h2, if_pos (by simp [h2]), hidx _ h2]
      · rw [if_neg h2, if_neg (by simp [h1, h2])]
  · intro e'
    unfold iput
    by_cases h1 : e' = e
    · subst h1
      rw [if_pos rfl, if_pos (by simp), hself]
    · rw [if_neg h1, h.map]
      by_cases h2 : e' ∈ L
      · rw [if_pos h2, if_pos (by simp [h2]), hidx _ h2]
      · rw [if_neg h2, if_neg (by simp [h1, h2])]
theorem mod_nat (a : Int) (k : Nat) (h0 : 0 < k) (h1 : k ≤ 1000) : ∃ m : Nat, wrap64 ((IntKind.u64.wrap a).tmod (k : Int)) = (m : Int) ∧ m < k := by
  have h2 : 0 ≤ IntKind.u64.wrap a := by rw [IntKind.wrap_u64]; omega
  have h3 : (IntKind.u64.wrap a).tmod (k : Int) = (IntKind.u64.wrap a) % (k : Int) := Int.tmod_eq_emod_of_nonneg h2
  have h4 := Int.emod_nonneg (IntKind.u64.wrap a) (show (k : Int) ≠ 0 by omega)
  have h5 := Int.emod_lt_of_pos (IntKind.u64.wrap a) (show (0 : Int) < (k : Int) by omega)
  rw [h3]
  generalize (IntKind.u64.wrap a) % (k : Int) = x at *
  obtain ⟨m, rfl⟩ := Int.eq_ofNat_of_zero_le h4
  refine ⟨m, ?_, by omega⟩
  show wrap64 (m : Int) = (m : Int)
  unfold wrap64
  omega
theorem PX.lt {B p M : Nat} {vA vF : Value} {s : PS} {w : World} (h : PX B p M vA vF s w) {k : Nat} (hk : Has p M vA vF k) : k < w.heap.size ∧ B ≤ k := by
  rcases hk with e | e | e | e
  · subst e; exact ⟨h.blk.lt, h.low.1⟩
  · subst e; exact ⟨h.num.lt, h.low.2⟩
  · exact ⟨(h.all.lt k e).2, (h.all.lt k e).1⟩
  · exact ⟨(h.free.lt k e).2, (h.free.lt k e).1⟩
theorem PAt.lt {B p : Nat} {D : Nat → Prop} {s : PS} {w : World} (h : PAt B p D s w) : PAt B p (fun k => B ≤ k ∧ k < w.heap.size) s w := by
  obtain ⟨M, vA, vF, h, _⟩ := h
  exact ⟨M, vA, vF, h, fun k hk => ⟨(h.lt hk).2, (h.lt hk).1⟩⟩
/-- a pool turned by a call, that has all blocks from N on but this one -/
theorem POut.but {B p N r : Nat} {s : PS} {w0 w w' : World} (h : POut B p (fun k => N ≤ k ∧ k ≠ r) w s w') (hb : Below w0.heap.size w0 w) (hN : w0.heap.size = N) (hr : r < w.heap.size) : PAt B p (fun k => N ≤ k ∧ k ≠ r) s w' ∧ Below w0.heap.size w0 w' ∧ w'.heap[r]? = w.heap[r]? := by
  have := hb.size
  exact ⟨h.1.more fun k hk => by rcases hk with hk | hk <;> omega, h.2.below (by subst hN; exact hb) fun k hk => by omega, h.2.block r hr fun e => e.2 rfl⟩
theorem look_int {f : Int → Option Value} {u : World} {r : Nat} (h : IMap u r f) (x : Int) :
    (Instr.lookup 50 (.map (some r)) (.int .i64 x) true).run Try.prog u = .ok (.tuple #[(f x).getD (.int .i64 0), .bool (f x).isSome]) u := by
  obtain ⟨i, h1, h2⟩ := infoInt
  exact run_lookup_I2 Try.underlying50 Try.underlying3 h1 h2 h x
theorem up_int {f : Int → Option Value} {u : World} {r : Nat} (h : IMap u r f) (x v : Int) :
    ∃ u', (Instr.mapUpdate 50 (.map (some r)) (.int .i64 x) (.int .i64 v)).run Try.prog u = .ok () u' ∧ IMap u' r (iput f x (.int .i64 v)) ∧ u.grownBy u' (some r) :=
  run_update_I (P := Try.prog) Try.underlying50 Try.underlying3 h x (.int .i64 v)
theorem PAt.beside {B p N r : Nat} {s : PS} {w w' : World} (h : PAt B p (fun k => N ≤ k ∧ k ≠ r) s w) (hg : w.grownBy w' (some r)) : PAt B p (fun k => N ≤ k ∧ k ≠ r) s w' :=
  h.fr (PFr.of_grown (D := fun k => k = r) hg fun k e => by injection e with e; exact e.symm) fun k hk e => hk.2 e
end Go.Proofs.Ytdgbnibnhajfoaa
