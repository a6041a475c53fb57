/- A script of steps that is handed in; what PoolPlays keeps. -/
import Derived.Test.YtdgbnibnhajfoaaPpE
import Derived.Test.YtdgbnibnhajfoaaHpN
namespace Go.Proofs.Ytdgbnibnhajfoaa
open Go.ChangeShapes Go.WideShapes Go.ChangeAt Go.RowKit Go.Deep Go.Joins
set_option linter.unusedVariables false
set_option linter.unusedSimpArgs false
structure StepS where
  kind : Int
  a : Int
  b : Int
  fresh : Bool
instance : Inhabited StepS := ⟨⟨0, 0, 0, false⟩⟩
def StepS.ok (s : StepS) : Prop := -9223372036854775808 ≤ s.a ∧ s.a ≤ 9223372036854775807
section
variable {H : Type} {enc : TypeId × Value → H} {w : World} {base : Nat} {spare : Nat → Bool} {held : Bool}
theorem wfI64s {n : Int} (h : (Lit.int .i64 n).wf = true) : -9223372036854775808 ≤ n ∧ n ≤ 9223372036854775807 := by
  simp [Lit.wf, IntKind.min, IntKind.max, IntKind.bits, IntKind.signed] at h
  omega
def ScriptAt (w : World) (A : Option Addr) (ss : List StepS) : Prop := 0 < ss.length → ∃ b off, A = some ⟨b, off, none⟩ ∧ ∀ i s, ss[i]? = some s → w.cell? ⟨b, off + i * 4, none⟩ = some (.int .i64 s.kind) ∧ w.cell? ⟨b, off + i * 4 + 1, none⟩ = some (.int .i64 s.a) ∧ w.cell? ⟨b, off + i * 4 + 2, none⟩ = some (.int .i64 s.b) ∧ w.cell? ⟨b, off + i * 4 + 3, none⟩ = some (.bool s.fresh)
theorem ScriptAt.later {w w1 : World} {A : Option Addr} {ss : List StepS} (h : ScriptAt w A ss) (hb : Below w.heap.size w w1) : ScriptAt w1 A ss := fun hp => by
  obtain ⟨b, off, h1, h2⟩ := h hp
  exact ⟨b, off, h1, fun i s hi => ⟨mlater hb (h2 i s hi).1, mlater hb (h2 i s hi).2.1, mlater hb (h2 i s hi).2.2.1, mlater hb (h2 i s hi).2.2.2⟩⟩
set_option maxRecDepth 100000 in
theorem open_script {r : Reach} {b0 : Nat} {v : Value} {d : DataW H} {p : List MemPlace} (hv : Value.okWide Try.prog w r b0 22 v) (h : DataW.Trod enc Try.prog w base spare held 22 v d p) (hw : WB Try.prog 22 d) :
    ∃ (B : Option Addr) (cap : Nat) (ss : List StepS), v = .slice B ss.length cap ∧ ScriptAt w B ss ∧ (∀ s ∈ ss, s.ok) ∧ ss.length * 32 ≤ 140737488351232 := by
  obtain ⟨A0, len, cap, rfl⟩ := okWide_slice Try.underlying22 hv
  obtain ⟨fuel, h⟩ := h
  rcases open_slice_fields Try.underlying22 Try.underlying29 (by kernel_rfl) (by kernel_rfl) h with ⟨hcs, _⟩ | ⟨a, l1, c1, m, D, Pl, hcs, _, hl, hm, hmm, hx, hcell⟩
  · simp [Value.cells] at hcs
    obtain ⟨rfl, rfl, rfl⟩ := hcs
    exact ⟨none, 0, [], rfl, fun h => absurd h (by decide), by simp, by decide⟩
  · simp [Value.cells] at hcs
    obtain ⟨rfl, rfl, rfl⟩ := hcs
    simp only [Prod.mk.injEq] at hx
    obtain ⟨rfl, rfl⟩ := hx
    have hlm : len ≤ m := by rw [hmm]; split <;> omega
    have hb := (wb_slice Try.underlying22 hw).1
    rw [show Try.prog.bytesOf 29 = 32 by kernel_rfl] at hb
    simp only [List.length_map, List.length_range, reachBytes] at hb
    have hv : ∀ i, i < len → ∃ q : StepS, w.cell? (a.add (i * 4)) = some (.int .i64 q.kind) ∧ w.cell? (a.add (i * 4 + 1)) = some (.int .i64 q.a) ∧ w.cell? (a.add (i * 4 + 2)) = some (.int .i64 q.b) ∧ w.cell? (a.add (i * 4 + 3)) = some (.bool q.fresh) ∧ q.ok := by
      intro i hi
      obtain ⟨ys, n, _, _, _, hf⟩ := hcell i (by omega)
      obtain ⟨v0, y0, c0, _, t0⟩ := hf 0 _ rfl
      obtain ⟨v1, y1, c1, _, t1⟩ := hf 1 _ rfl
      obtain ⟨v2, y2, c2, _, t2⟩ := hf 2 _ rfl
      obtain ⟨v3, y3, c3, _, t3⟩ := hf 3 _ rfl
      obtain ⟨k0, e0, _, w0⟩ := DataW.trod_int Try.underlying3 t0
      obtain ⟨k1, e1, _, w1⟩ := DataW.trod_int Try.underlying3 t1
      obtain ⟨k2, e2, _, _⟩ := DataW.trod_int Try.underlying3 t2
      obtain ⟨k3, e3, _⟩ := DataW.trod_bool Try.underlying4 t3
      simp at e0 e1 e2 e3
      subst e0 e1 e2 e3
      exact ⟨⟨k0, k1, k2, k3⟩, c0, c1, c2, c3, wfI64s w1⟩
    obtain ⟨q, hq⟩ := Go.Deep.choose_lt hv
    refine ⟨some a, cap, (List.range len).map q, by simp, fun hp => ?_, fun s hs => ?_, by simpa using hb⟩
    · have hp' : 0 < len := by simpa using hp
      obtain ⟨b, off, rfl⟩ := spot_of (hq 0 hp').1
      refine ⟨b, off, rfl, fun i x hi => ?_⟩
      have hil : i < len := by have := (List.getElem?_eq_some_iff.1 hi).1; simpa using this
      rw [List.getElem?_map, List.getElem?_range hil] at hi
      simp at hi
      subst hi
      obtain ⟨h0, h1, h2, h3, _⟩ := hq i hil
      rw [add_plain] at h0 h1 h2 h3
      exact ⟨h0, by rw [Nat.add_assoc]; exact h1, by rw [Nat.add_assoc]; exact h2, by rw [Nat.add_assoc]; exact h3⟩
    · obtain ⟨i, hi, rfl⟩ := List.mem_map.1 hs
      exact (hq i (List.mem_range.1 hi)).2.2.2.2
end
/-- the blocks that are the program's pool's alone -/
def DP (N r : Nat) (vC : Value) (q : Nat) : Prop := N ≤ q ∧ q ≠ r ∧ vC.ownBlock ≠ some q
/-- both pools, alike, behind j steps -/
structure PP (w : World) (N p r j : Nat) (most : Int) (s : PS) (vC : Value) (u : World) : Prop where
  inv : Inv (2 * j) (-1) s
  most_ : s.most = most
  pat : PAt N p (DP N r vC) s u
  rx : RX N r vC (max 0 most) (s.all.map rcl) u
  below : Below w.heap.size w u
theorem PP.later {w : World} {N p r j : Nat} {most : Int} {s : PS} {vC : Value} {u u' : World} (h : PP w N p r j most s vC u) (hb : Below u.heap.size u u') : PP w N p r j most s vC u' := ⟨h.inv, h.most_, h.pat.later hb, h.rx.later hb, mmore h.below hb⟩
theorem RX.own_lt {B r : Nat} {vC : Value} {most : Int} {l : List RC} {w : World} (h : RX B r vC most l w) {q : Nat} (e : vC.ownBlock = some q) : q < w.heap.size := (h.row.lt q e).2
/-- the program's pool was turned -/
theorem PP.prog {w : World} {N p r j : Nat} {most : Int} {s : PS} {vC : Value} {u u1 : World} (hN : w.heap.size = N) (h : PP w N p r j most s vC u) {s1 : PS} (h1 : POut N p (DP N r vC) u s1 u1) :
    PAt N p (DP N r vC) s1 u1 ∧ RX N r vC (max 0 most) (s.all.map rcl) u1 ∧ Below w.heap.size w u1 := by
  have hz := h.below.size
  refine ⟨h1.1.more fun k hk => ?_, h.rx.fr h1.2 fun k hk hd => ?_, PFr.below h.below h1.2 fun k hk => by rw [hN]; exact hk.1⟩
  · rcases hk with hk | hk
    · exact hk
    · refine ⟨by omega, fun e => ?_, fun e => ?_⟩
      · have := h.rx.blk.lt; omega
      · have := h.rx.own_lt e; omega
  · rcases hk with rfl | hk
    · exact hd.2.1 rfl
    · exact hd.2.2 hk
theorem PX.has_lt {B p M : Nat} {vA vF : Value} {s : PS} {w : World} (h : PX B p M vA vF s w) {k : Nat} (hk : Has p M vA vF k) : k < w.heap.size := by
  rcases hk with rfl | rfl | e | e
  · exact h.blk.lt
  · exact h.num.lt
  · exact (h.all.lt k e).2
  · exact (h.free.lt k e).2
/-- and then the document's -/
theorem PP.doc {w : World} {N p r j : Nat} {most : Int} {s1 : PS} {vC : Value} {u1 u2 : World} (hN : w.heap.size = N) (hI : Inv (2 * (j + 1)) (-1) s1) (hm : s1.most = most) (h1 : PAt N p (DP N r vC) s1 u1) (hb : Below w.heap.size w u1) (hlow : N ≤ r) (hvl : ∀ q, vC.ownBlock = some q → N ≤ q)
    (hR : RNew N r vC (max 0 most) u1 (s1.all.map rcl) u2) : ∃ vC', PP w N p r (j + 1) most s1 vC' u2 := by
  obtain ⟨vC', hX, hf, ho⟩ := hR
  have hz := hb.size
  obtain ⟨M, vA, vF, hP, hD⟩ := h1
  refine ⟨vC', hI, hm, ⟨M, vA, vF, hP.fr hf fun k hk hd => ?_, fun k hk => ?_⟩, hX, PFr.below hb hf fun k hk => ?_⟩
  · have := hD k hk
    rcases hd with e | e
    · exact this.2.1 e
    · exact this.2.2 e
  · have h2 := hD k hk
    refine ⟨h2.1, h2.2.1, fun e => ?_⟩
    rcases ho k e with e | e
    · exact h2.2.2 e
    · have := hP.has_lt hk
      omega
  · rcases hk with rfl | hk
    · rw [hN]; exact hlow
    · rw [hN]; exact hvl k hk
theorem RX.own_low {B r : Nat} {vC : Value} {most : Int} {l : List RC} {w : World} (h : RX B r vC most l w) {q : Nat} (e : vC.ownBlock = some q) : B ≤ q := (h.row.lt q e).1
theorem AddR.form {B p K : Nat} {D : Nat → Prop} {s : PS} {w : World} {prev event : Int} {fresh : Bool} {e : Ending} {w' : World} (h : AddR B p K D s w prev event fresh e w') : ∃ (a : Int) (x : Bool), e = .returned (.tuple #[.int .i64 a, .bool x]) := by
  rcases h with ⟨h, _⟩ | ⟨k, s', h, _⟩
  · exact ⟨_, _, h⟩
  · exact ⟨_, _, h⟩
theorem AddR.pout {B p K : Nat} {D : Nat → Prop} {s : PS} {w : World} {prev event : Int} {fresh : Bool} {e : Ending} {w' : World} (h : AddR B p K D s w prev event fresh e w') (hP : PAt B p D s w) : ∃ s', POut B p D w s' w' := by
  rcases h with ⟨_, hb, _⟩ | ⟨k, s', _, _, _, _, _, _, h⟩
  · exact ⟨s, (hP.later hb).more fun k hk => .inl hk, PFr.of_below hb⟩
  · exact ⟨s', h⟩
theorem Inv.rbound {K : Nat} {x : Int} {s : PS} (h : Inv K x s) (hK : K ≤ 1000) : ∀ c ∈ s.all.map rcl, 0 ≤ c.own ∧ c.own ≤ 1000000 ∧ 0 ≤ c.behind ∧ c.behind ≤ 1000000 := by
  intro c hc
  obtain ⟨d, hd, rfl⟩ := List.mem_map.1 hc
  obtain ⟨k, hk⟩ := List.mem_iff_getElem?.1 hd
  by_cases h0 : d.holds = 0
  · simp [rcl, h0, rc0]
  · have hp := h.pos k d hk
    have hc := h.cnt k d hk h0
    rw [rcl_live h0]
    simp only
    split at hc <;> omega
theorem POut.wk {B p : Nat} {D D' : Nat → Prop} {w w' : World} {s : PS} (h : POut B p D w s w') (hd : ∀ k, D k → D' k) : POut B p D' w s w' := ⟨h.1.more fun k hk => hk.imp (hd k) id, h.2.more hd⟩
/-- .. and not this one -/
def DG (N r : Nat) (vC : Value) (g : Nat) (q : Nat) : Prop := DP N r vC q ∧ q ≠ g
theorem PP.but {w : World} {N p r j : Nat} {most : Int} {s : PS} {vC : Value} {u u' : World} {g : Nat} (h : PP w N p r j most s vC u) (hb : Below u.heap.size u u') (hg : u.heap.size ≤ g) : PAt N p (DG N r vC g) s u' ∧ g ≠ r ∧ vC.ownBlock ≠ some g := by
  obtain ⟨M, vA, vF, h1, h2⟩ := h.pat
  refine ⟨PAt.later ⟨M, vA, vF, h1, fun k hk => ⟨h2 k hk, ?_⟩⟩ hb, ?_, fun e => ?_⟩
  · have := h1.has_lt hk
    omega
  · have := h.rx.blk.lt
    omega
  · have := h.rx.own_lt e
    omega
theorem POut.keeps {B p N r g : Nat} {vC : Value} {w w' : World} {s : PS} {T : TypeId} {cs : Array Value} (h : POut B p (DG N r vC g) w s w') (hg : Blk w g T cs) : Blk w' g T cs := (h.2.block g hg.lt fun e => e.2 rfl).trans hg
/-- Add, of both -/
theorem PP.add {w : World} {N p r j : Nat} {most : Int} {s : PS} {vC : Value} {u : World} (hN : w.heap.size = N) (h : PP w N p r j most s vC u) (hj : j ≤ 300) (t : StepS) (ht : t.ok) {g : Nat} (hg : PAt N p (DG N r vC g) s u) {T : TypeId} {cs : Array Value} (hgb : Blk u g T cs) :
    Calls Try.prog 11 #[.pointer (some ⟨p, 0, none⟩), .int .i64 t.a, .int .i64 t.b, .bool t.fresh] u fun e u1 => ∃ (a : Int) (x : Bool), e = .returned (.tuple #[.int .i64 a, .bool x]) ∧ Blk u1 g T cs ∧
      Calls Try.prog 12 #[.pointer (some ⟨r, 0, none⟩), .int .i64 t.a, .int .i64 t.b, .bool t.fresh] u1 fun e2 u2 => e2 = .returned (.tuple #[.int .i64 a, .bool x]) ∧ ∃ s' vC', PP w N p r (j + 1) most s' vC' u2 := by
  refine (add_all hg h.inv (by omega) t.a t.b t.fresh ht).mono ?_
  intro e u1 hA
  obtain ⟨a, x, rfl⟩ := hA.form
  obtain ⟨sx, hPO⟩ := hA.pout hg
  refine ⟨a, x, rfl, hPO.keeps hgb, ?_⟩
  obtain ⟨_, hX1, hb1⟩ := h.prog hN (hPO.wk fun k hk => hk.1)
  have hX2 : RX N r vC (max 0 s.most) (s.all.map rcl) u1 := by rw [h.most_]; exact hX1
  have hln := h.inv.len
  refine (radd_any N r vC (max 0 s.most) (s.all.map rcl) u1 hX2 t.a t.b t.fresh ht (by rw [List.length_map]; omega) (h.inv.rbound (by omega))).mono ?_
  intro e2 u2 hR
  obtain ⟨a', x', s', h1, rfl, hI', hm', hP', hN'⟩ := add_both hg h.inv hA hX2 hR
  injection h1 with h1
  injection h1 with h1
  have h1 := congrArg Array.toList h1
  simp only [List.cons.injEq, and_true, Value.int.injEq, Value.bool.injEq, true_and] at h1
  obtain ⟨rfl, rfl⟩ := h1
  refine ⟨rfl, s', ?_⟩
  obtain ⟨q1, q2, q3⟩ := h.prog hN (hP'.wk fun k hk => hk.1)
  rw [h.most_] at hN'
  exact PP.doc hN hI' (hm'.trans h.most_) q1 q3 h.rx.low (fun q e => h.rx.own_low e) hN'
/-- one step on -/
theorem PP.mono {w : World} {N p r j j' : Nat} {most : Int} {s : PS} {vC : Value} {u : World} (h : PP w N p r j most s vC u) (hj : j ≤ j') : PP w N p r j' most s vC u := ⟨h.inv.mono (by omega), h.most_, h.pat, h.rx, h.below⟩
end Go.Proofs.Ytdgbnibnhajfoaa
