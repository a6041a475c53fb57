/- A pool and a list of all that was told to hold: what PoolBalances keeps. -/
import Derived.Test.YtdgbnibnhajfoaaHpM
import Derived.Test.YtdgbnibnhajfoaaPoK
import Derived.Deep.Grids
namespace Go.Proofs.Ytdgbnibnhajfoaa
open Go.ChangeShapes Go.WideShapes Go.ChangeAt Go.RowKit Go.Deep
set_option linter.unusedVariables false
set_option linter.unusedSimpArgs false
section
variable {H : Type} {enc : TypeId × Value → H} {w : World} {base : Nat} {held : Bool}
def BoolsAt (w : World) (A : Option Addr) (l : List Bool) : Prop := 0 < l.length → ∃ b off, A = some ⟨b, off, none⟩ ∧ ∀ (i : Nat) (z : Bool), l[i]? = some z → w.cell? ⟨b, off + i, none⟩ = some (.bool z)
theorem BoolsAt.later {w w1 : World} {A : Option Addr} {l : List Bool} (h : BoolsAt w A l) (hb : Below w.heap.size w w1) : BoolsAt w1 A l := fun hp => by
  obtain ⟨b, off, e, h⟩ := h hp
  exact ⟨b, off, e, fun i t hi => cell_later hb (h i t hi)⟩
theorem open_boolsT {r : Reach} {b0 : Nat} {v : Value} {d : DataW H} {p : List MemPlace} (hv : Value.okWide Try.prog w r b0 45 v) (h : DataW.Trod enc Try.prog w base (fun _ => true) held 45 v d p) :
    ∃ (A : Option Addr) (cap : Nat) (l : List Bool), v = .slice A l.length cap ∧ BoolsAt w A l ∧ l.length ≤ maxLen := by
  obtain ⟨A0, len, cap0, rfl⟩ := okWide_slice Try.underlying45 hv
  obtain ⟨fuel, hf⟩ := h
  have hf2 : DataW.trod enc Try.prog w base (fun _ => true) held fuel 45 [.slice A0 len cap0] = some (d, p) := by simpa [Value.cells] using hf
  rcases open_bools Try.underlying45 Try.underlying4 (by kernel_rfl) hf2 with ⟨hcs, _⟩ | ⟨a, len', cap, B, hcs, _, hl, hm, _, hc⟩
  · simp at hcs
    obtain ⟨rfl, rfl, rfl⟩ := hcs
    exact ⟨none, 0, [], rfl, fun h => absurd h (by simp), by decide⟩
  · simp at hcs
    obtain ⟨rfl, rfl, rfl⟩ := hcs
    refine ⟨some a, cap0, (List.range len).map B, by simp, fun hp => ?_, by simp; unfold maxLen at *; omega⟩
    simp at hp
    obtain ⟨b, off, rfl⟩ := spot_of (hc 0 (by omega))
    refine ⟨b, off, rfl, fun i z hi => ?_⟩
    have hil : i < len := by have := (List.getElem?_eq_some_iff.1 hi).1; simpa using this
    rw [List.getElem?_map, List.getElem?_range hil] at hi
    simp at hi
    subst hi
    have := hc i (by omega)
    rwa [add_plain] at this
end
theorem own_fr {w w' : World} {D : Nat → Prop} {B size n : Nat} {e : TypeId} {v : Value} {xs : List Value} (h : w.ownsRow B e size v n xs) (hf : PFr D w w') (hd : ∀ k, v.ownBlock = some k → ¬ D k) : w'.ownsRow B e size v n xs := by
  refine ⟨h.1, ?_⟩
  rcases h.2 with h0 | ⟨g, cap, cur, hv, hb, hg, hr⟩
  · exact .inl h0
  · exact .inr ⟨g, cap, cur, hv, hb, (hf.block g (Array.getElem?_eq_some_iff.1 hg).1 (hd g (by rw [hv]; rfl))).trans hg, hr⟩
def csV (cs : List Nat) : List Value := cs.map fun (c : Nat) => Value.int .i64 (c : Int)
/-- while events are put in -/
def BJ1 (w : World) (N p : Nat) (cs : List Nat) (v6 : Value) (wr : World) : Prop :=
  ∃ s, Inv (2 * cs.length) (-1) s ∧ s.most = 400 ∧ (∀ j, ownL s.all j = (cs.count j : Int)) ∧ PAt N p (fun q => N ≤ q ∧ v6.ownBlock ≠ some q) s wr ∧ wr.ownsRow N 3 1 v6 cs.length (csV cs) ∧ Below w.heap.size w wr
def BMid (w : World) (N p : Nat) (cs : List Nat) (k : Nat) (v6 : Value) (u : World) : Prop :=
  ∃ s, Inv (2 * (cs.length + 1)) (-1) s ∧ s.most = 400 ∧ (∀ j, ownL s.all j = ((cs ++ [k]).count j : Int)) ∧ PAt N p (fun q => N ≤ q ∧ q < u.heap.size ∧ v6.ownBlock ≠ some q) s u ∧ u.ownsRow N 3 1 v6 cs.length (csV cs) ∧ Below w.heap.size w u
theorem BJ1.add {w : World} {N p : Nat} {cs : List Nat} {v6 : Value} {wr : World} (h : BJ1 w N p cs v6 wr) (hN : w.heap.size = N) (hn : cs.length < 150) (prev event : Int) (fresh : Bool) (hp : prev = -1 ∨ ∃ c ∈ cs, prev = ((c : Nat) : Int)) (he : 0 ≤ event) :
    Calls Try.prog 11 #[.pointer (some ⟨p, 0, none⟩), .int .i64 prev, .int .i64 event, .bool fresh] wr fun e w' => ∃ k : Nat, e = .returned (.tuple #[.int .i64 (k : Int), .bool true]) ∧ BMid w N p cs k v6 w' := by
  obtain ⟨s, hI, hm, ho, hP, hO, hb⟩ := h
  have hfind : prev = -1 ∨ ∃ c, findP s prev = some c := by
    rcases hp with e | ⟨c, hc, rfl⟩
    · exact .inl e
    · right
      have h1 : 0 < cs.count c := List.count_pos_iff.2 hc
      have h2 := ho c
      obtain ⟨d, hd, hl, _⟩ := ownL_live (j := c) hI (by omega)
      exact ⟨d, findP_some.2 ⟨hd, hl⟩⟩
  have hlen := hI.len
  have hpr : -9223372036854775808 ≤ prev ∧ prev ≤ 9223372036854775807 := by
    rcases hfind with e | ⟨c, hc⟩
    · omega
    · obtain ⟨k, e, hk, _⟩ := findP_nat hc
      have := (List.getElem?_eq_some_iff.1 hk).1
      omega
  refine (add_all hP hI (by omega) prev event fresh hpr).mono ?_
  rintro e w' (⟨rfl, _, h1⟩ | ⟨k, s', rfl, _, _, hA, hI', hm', hO'⟩)
  · exfalso
    rcases h1 with h1 | ⟨_, h1⟩
    · exact h1 ⟨he, hfind⟩
    · have hu := hI.used
      have hc := List.countP_le_length (p := fun d : Cl => decide (d.holds ≠ 0)) (l := s.all)
      omega
  · refine ⟨k, rfl, s', by rw [show 2 * (cs.length + 1) = 2 * cs.length + 2 by omega]; exact hI', hm'.trans hm, fun j => ?_, ?_, ?_, ?_⟩
    · rw [hA.own hI j, ho j, List.count_append, List.count_singleton]
      by_cases e : j = k
      · subst e; simp
      · have : ¬ k = j := fun q => e q.symm
        simp [e, this]
    · obtain ⟨M, vA, vF, hX, hD⟩ := hO'.1
      refine ⟨M, vA, vF, hX, fun q hq => ?_⟩
      have hlt := hX.lt hq
      refine ⟨hlt.2, hlt.1, ?_⟩
      rcases hD q hq with h1 | h1
      · exact h1.2
      · intro e
        have := (hO.lt q e).2
        omega
    · exact own_fr hO hO'.2 fun q e h => h.2 e
    · exact hO'.2.below (by rw [hN] at hb ⊢; exact hb) (fun q h => by rw [hN]; exact h.1)
theorem BMid.app {w : World} {N p : Nat} {cs : List Nat} {k : Nat} {v6 v6' : Value} {u w3 : World} {o : Obj} (h : BMid w N p cs k v6 u) (hN : w.heap.size = N) (hO : w3.ownsRow N 3 1 v6' (cs.length + 1) (csV cs ++ [.int .i64 (k : Int)])) (hG : (u.alloc o).grownBy w3 v6.ownBlock)
    (hown : v6'.ownBlock = v6.ownBlock ∨ v6'.ownBlock = some (u.alloc o).heap.size) : BJ1 w N p (cs ++ [k]) v6' w3 := by
  obtain ⟨s, hI, hm, ho, hP, hO6, hb⟩ := h
  have hsz : (u.alloc o).heap.size = u.heap.size + 1 := by simp
  refine ⟨s, by simpa using hI, hm, ho, ?_, by simpa [csV] using hO, ?_⟩
  · have h1 := (hP.later (m1 u o)).fr (D' := fun q => v6.ownBlock = some q) (PFr.of_grown hG fun q e => e) fun q h e => h.2.2 e
    refine h1.more fun q h => ⟨h.1, fun e => ?_⟩
    rcases hown with e2 | e2
    · rw [e2] at e; exact h.2.2 e
    · rw [e2] at e
      injection e with e
      omega
  · exact (mmore hb (m1 u o)).grown hG (Nat.le_trans hb.size (by rw [hsz]; omega)) fun q e => by rw [hN]; exact (hO6.lt q e).1
/-- while all is dropped -/
def BJ2 (w : World) (N p : Nat) (cs : List Nat) (v6 : Value) (i : Nat) (wr : World) : Prop :=
  ∃ s, Inv (2 * cs.length) (-1) s ∧ (∀ j, ownL s.all j = ((cs.drop i).count j : Int)) ∧ PAt N p (fun q => N ≤ q ∧ v6.ownBlock ≠ some q) s wr ∧ wr.ownsRow N 3 1 v6 cs.length (csV cs) ∧ Below w.heap.size w wr
theorem BJ1.two {w : World} {N p : Nat} {cs : List Nat} {v6 : Value} {wr : World} (h : BJ1 w N p cs v6 wr) : BJ2 w N p cs v6 0 wr := by
  obtain ⟨s, hI, hm, ho, hP, hO, hb⟩ := h
  exact ⟨s, hI, ho, hP, hO, hb⟩
theorem BJ2.later {w : World} {N p : Nat} {cs : List Nat} {v6 : Value} {i : Nat} {wr u : World} (h : BJ2 w N p cs v6 i wr) (hb : Below wr.heap.size wr u) : BJ2 w N p cs v6 i u := by
  obtain ⟨s, hI, ho, hP, hO, hb0⟩ := h
  exact ⟨s, hI, ho, hP.later hb, mown_below hO hb, mmore hb0 hb⟩
theorem BJ2.live {N p : Nat} {w : World} {cs : List Nat} {v6 : Value} {i : Nat} {wr : World} {s : PS} {K : Nat} (hI : Inv K (-1) s) (ho : ∀ j, ownL s.all j = ((cs.drop i).count j : Int)) {c : Nat} (hc : c ∈ cs.drop i) : ∃ d, s.all[c]? = some d ∧ d.holds ≠ 0 ∧ 1 ≤ d.own := by
  have h1 : 0 < (cs.drop i).count c := List.count_pos_iff.2 hc
  have h2 := ho c
  obtain ⟨d, hd, hl, he⟩ := ownL_live (j := c) hI (by omega)
  exact ⟨d, hd, hl, by omega⟩
theorem BJ2.held {w : World} {N p : Nat} {cs : List Nat} {v6 : Value} {i : Nat} {wr : World} (h : BJ2 w N p cs v6 i wr) (hn : cs.length ≤ 150) {c : Nat} (hc : c ∈ cs.drop i) :
    ∃ x : Int, 1 ≤ x ∧ Calls Try.prog 19 #[.pointer (some ⟨p, 0, none⟩), .int .i64 (c : Int)] wr fun e w' => e = .returned (.int .i64 x) ∧ wr = w' := by
  obtain ⟨s, hI, ho, hP, hO, hb⟩ := h
  obtain ⟨d, hd, hl, h1⟩ := BJ2.live (N := N) (p := p) (w := w) (v6 := v6) (wr := wr) hI ho hc
  have hpo := hI.pos c d hd
  have hlt := (List.getElem?_eq_some_iff.1 hd).1
  have hlen := hI.len
  have hh : heldP s (c : Int) = d.holds := by unfold heldP; rw [findP_some.2 ⟨hd, hl⟩]
  have := held_any hP (c : Int) (by omega)
  rw [hh] at this
  exact ⟨d.holds, by omega, this⟩
theorem BJ2.path {w : World} {N p : Nat} {cs : List Nat} {v6 : Value} {i : Nat} {wr : World} (h : BJ2 w N p cs v6 i wr) (hn : cs.length ≤ 150) {c : Nat} (hc : c ∈ cs.drop i) :
    Calls Try.prog 22 #[.pointer (some ⟨p, 0, none⟩), .int .i64 (c : Int)] wr fun e w' => ∃ A n cap, e = .returned (.slice A n cap) ∧ 0 < n ∧ BJ2 w N p cs v6 i w' := by
  have h0 := h
  obtain ⟨s, hI, ho, hP, hO, hb⟩ := h
  obtain ⟨d, hd, hl, h1⟩ := BJ2.live (N := N) (p := p) (w := w) (v6 := v6) (wr := wr) hI ho hc
  have hlt := (List.getElem?_eq_some_iff.1 hd).1
  have hlen := hI.len
  obtain ⟨ch, h2, h3, h4⟩ := hI.chain c ⟨d, hd, hl⟩
  refine (path_any hP (c : Int) (by omega) ch h2 (by omega) (fun k c' hk => by
    by_cases h0 : c'.holds = 0
    · rw [hI.dead k c' hk h0]; decide
    · rcases hI.up k c' hk h0 with ⟨e, _⟩ | ⟨kp, e, d', hd', _⟩
      · omega
      · have := (List.getElem?_eq_some_iff.1 hd').1
        omega)).mono ?_
  rintro e w' ⟨A, cap, rfl, _, hb'⟩
  refine ⟨A, _, cap, rfl, ?_, h0.later hb'⟩
  exact List.length_pos_iff.2 (pathS_pos ch [] [] (.inl h4))
theorem BJ2.drop {w : World} {N p : Nat} {cs : List Nat} {v6 : Value} {i : Nat} {wr : World} (h : BJ2 w N p cs v6 i wr) (hN : w.heap.size = N) (hn : cs.length ≤ 150) {c : Nat} (hc : cs[i]? = some c) :
    Calls Try.prog 15 #[.pointer (some ⟨p, 0, none⟩), .int .i64 (c : Int)] wr fun e w' => e = .returned (.bool true) ∧ BJ2 w N p cs v6 (i + 1) w' := by
  obtain ⟨s, hI, ho, hP, hO, hb⟩ := h
  have hdr : cs.drop i = c :: cs.drop (i + 1) := by
    obtain ⟨hlt, rfl⟩ := List.getElem?_eq_some_iff.1 hc
    exact List.drop_eq_getElem_cons hlt
  obtain ⟨d, hd, hl, h1⟩ := BJ2.live (N := N) (p := p) (w := w) (v6 := v6) (wr := wr) hI ho (c := c) (by rw [hdr]; simp)
  refine (drop_yes hP hI (by omega) c d (findP_some.2 ⟨hd, hl⟩) h1).mono ?_
  rintro e w' ⟨rfl, s', hI', hDr, _, hO'⟩
  refine ⟨rfl, s', hI', fun j => ?_, ?_, ?_, ?_⟩
  · rw [Drop.own hI hd hl h1 hDr j, ho j, hdr, List.count_cons]
    by_cases e : j = c
    · subst e; simp
    · have : ¬ c = j := fun q => e q.symm
      simp [e, this]
  · obtain ⟨M, vA, vF, hX, hD⟩ := hO'.1
    refine ⟨M, vA, vF, hX, fun q hq => ⟨(hX.lt hq).2, ?_⟩⟩
    rcases hD q hq with h1 | h1
    · exact h1.2
    · intro e
      have := (hO.lt q e).2
      omega
  · exact own_fr hO hO'.2 fun q e h => h.2 e
  · exact hO'.2.below (by rw [hN] at hb ⊢; exact hb) (fun q h => by rw [hN]; exact h.1)
theorem BJ2.done {w : World} {N p : Nat} {cs : List Nat} {v6 : Value} {wr : World} (h : BJ2 w N p cs v6 cs.length wr) :
    (Calls Try.prog 17 #[.pointer (some ⟨p, 0, none⟩)] wr fun e w' => e = .returned (.int .i64 0) ∧ ∃ n, w' = wr.drewN n) ∧
      Calls Try.prog 15 #[.pointer (some ⟨p, 0, none⟩), .int .i64 0] wr fun e w' => e = .returned (.bool false) ∧ wr = w' := by
  obtain ⟨s, hI, ho, hP, hO, hb⟩ := h
  have h0 : ∀ j, ownL s.all j = 0 := fun j => by rw [ho j]; simp
  have hno := hI.none_ h0
  have hu : usedP s = 0 := by
    rw [hI.used]
    have : s.all.countP (fun d => decide (d.holds ≠ 0)) = 0 := by
      rw [List.countP_eq_zero]
      intro d hd
      obtain ⟨k, hk⟩ := List.mem_iff_getElem?.1 hd
      have := hno k
      simp only [decide_eq_true_eq, ne_eq]
      exact fun q => this ⟨d, hk, q⟩
    rw [this]
    rfl
  constructor
  · have := used_any hP
    rw [hu] at this
    exact this
  · refine drop_no hP 0 (by decide) ?_
    cases hf : findP s 0 with
    | none => rfl
    | some c =>
      obtain ⟨k, _, hc, hl⟩ := findP_nat hf
      exact absurd ⟨c, hc, hl⟩ (hno k)
end Go.Proofs.Ytdgbnibnhajfoaa
