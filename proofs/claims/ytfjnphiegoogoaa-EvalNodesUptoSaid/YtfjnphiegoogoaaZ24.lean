/- Twn, TwnB, AskC, EvNd, Sam -/
import Derived.Test.YtfjnphiegoogoaaZ23
import Derived.Test.YtfjnphiegoogoaaZ14
import Derived.Test.YtfjnphiegoogoaaZ15
import Derived.Deep.CutRange
import Derived.Deep.DeepCutAuto
import Derived.Deep.RegionHeld3
/- Twn -/
namespace Go.Proofs.Ytfjnphiegoogoaa
open Go.ChangeShapes Go.WideShapes Go.ChangeAt Go.RowKit Go.Fl
set_option linter.unusedVariables false
set_option linter.unusedSimpArgs false

/-- a tree lies at an address, in blocks of S, of which nothing is frozen -/
inductive NodeP (w : World) (S : Nat → Prop) : Addr → NT → Prop
  | mk (b o : Nat) (op kd vk : Int) (vb : Nat) (pos attr : Int) (args : List NT) (A : Option Addr) (c : Nat)
      (h0 : w.cell? ⟨b, o, none⟩ = some (.int .i64 op)) (h1 : w.cell? ⟨b, o + 1, none⟩ = some (.int .i64 kd)) (h2 : w.cell? ⟨b, o + 2, none⟩ = some (.slice A args.length c))
      (h3 : w.cell? ⟨b, o + 3, none⟩ = some (.int .i64 vk)) (h4 : w.cell? ⟨b, o + 4, none⟩ = some (.int .u64 (vb : Int))) (h5 : w.cell? ⟨b, o + 5, none⟩ = some (.int .i64 pos)) (h6 : w.cell? ⟨b, o + 6, none⟩ = some (.int .i64 attr))
      (hvb : vb < 18446744073709551616) (hp : ∃ cs t, w.heap[b]? = some (.cells cs t (0, 0))) (hS : S b) (hA : 0 < args.length → ∃ ab ao, A = some ⟨ab, ao, none⟩)
      (hk : ∀ (i : Nat) (t : NT), args[i]? = some t → ∀ ab ao, A = some ⟨ab, ao, none⟩ → NodeP w S ⟨ab, ao + i * 7, none⟩ t) :
      NodeP w S ⟨b, o, none⟩ (.mk op kd vk vb pos attr args)
theorem NodeP.is {w : World} {S : Nat → Prop} {p : Addr} {t : NT} (h : NodeP w S p t) : NodeIs w p t := by
  induction h with
  | mk b o op kd vk vb pos attr args A c h0 h1 h2 h3 h4 h5 h6 hvb hp hS hA hk ih => exact .mk b o op kd vk vb pos attr args A c h0 h1 h2 h3 h4 h5 h6 hvb hA ih
theorem NodeP.plain {w : World} {S : Nat → Prop} {p : Addr} {t : NT} (h : NodeP w S p t) : Plain w p := by
  cases h with
  | mk b o op kd vk vb pos attr args A c h0 h1 h2 h3 h4 h5 h6 hvb hp hS hA hk => exact hp
theorem NodeP.weak {w : World} {S S' : Nat → Prop} {p : Addr} {t : NT} (h : NodeP w S p t) (hS : ∀ b, b < w.heap.size → S b → S' b) : NodeP w S' p t := by
  induction h with
  | mk b o op kd vk vb pos attr args A c h0 h1 h2 h3 h4 h5 h6 hvb hp hS1 hA hk ih => exact .mk b o op kd vk vb pos attr args A c h0 h1 h2 h3 h4 h5 h6 hvb hp (hS b (mblock h0) hS1) hA ih
theorem NodeP.grown {w w' : World} {S : Nat → Prop} {row : Option Nat} (hg : w.grownBy w' row) (hne : ∀ b, S b → some b ≠ row) {p : Addr} {t : NT} (h : NodeP w S p t) : NodeP w' S p t := by
  induction h with
  | mk b o op kd vk vb pos attr args A c h0 h1 h2 h3 h4 h5 h6 hvb hp hS hA hk ih =>
    have k : ∀ (a : Addr) (v : Value), a.block = b → w.cell? a = some v → w'.cell? a = some v := fun a v e h => grown_cell hg h (by rw [e]; exact hne b hS)
    obtain ⟨cs, t, hp⟩ := hp
    exact .mk b o op kd vk vb pos attr args A c (k _ _ rfl h0) (k _ _ rfl h1) (k _ _ rfl h2) (k _ _ rfl h3) (k _ _ rfl h4) (k _ _ rfl h5) (k _ _ rfl h6) hvb ⟨cs, t, (hg.block b (mblock h0) (hne b hS)).trans hp⟩ hS hA ih
/-- a list of trees lies so behind a slice -/
def NodesP (w : World) (S : Nat → Prop) (A : Option Addr) (l : List NT) : Prop :=
  (0 < l.length → ∃ ab ao, A = some ⟨ab, ao, none⟩) ∧ ∀ (i : Nat) (t : NT), l[i]? = some t → ∀ ab ao, A = some ⟨ab, ao, none⟩ → NodeP w S ⟨ab, ao + i * 7, none⟩ t
theorem NodesP.is {w : World} {S : Nat → Prop} {A : Option Addr} {l : List NT} (h : NodesP w S A l) : NodesIs w A l := ⟨h.1, fun i t hi ab ao e => (h.2 i t hi ab ao e).is⟩
theorem NodesP.weak {w : World} {S S' : Nat → Prop} {A : Option Addr} {l : List NT} (h : NodesP w S A l) (hS : ∀ b, b < w.heap.size → S b → S' b) : NodesP w S' A l := ⟨h.1, fun i t hi ab ao e => (h.2 i t hi ab ao e).weak hS⟩
theorem NodesP.grown {w w' : World} {S : Nat → Prop} {row : Option Nat} (hg : w.grownBy w' row) (hne : ∀ b, S b → some b ≠ row) {A : Option Addr} {l : List NT} (h : NodesP w S A l) : NodesP w' S A l := ⟨h.1, fun i t hi ab ao e => (h.2 i t hi ab ao e).grown hg hne⟩
theorem grown_below' {w w1 : World} (h : Below w.heap.size w w1) : w.grownBy w1 none := ⟨h.os, h.tape, h.output, h.size, fun i hi _ => h.block i hi⟩
theorem NodesP.later {w w1 : World} {S : Nat → Prop} (hb : Below w.heap.size w w1) {A : Option Addr} {l : List NT} (h : NodesP w S A l) : NodesP w1 S A l := h.grown (grown_below' hb) (fun b _ e => by cases e)
theorem NodeP.later {w w1 : World} {S : Nat → Prop} (hb : Below w.heap.size w w1) {p : Addr} {t : NT} (h : NodeP w S p t) : NodeP w1 S p t := h.grown (grown_below' hb) (fun b _ e => by cases e)
/-- the cells of copied nodes: the nodes, and where their own operands lie -/
def cellsT : List (NT × Option Addr × Nat) → List Value
  | [] => []
  | (.mk op kd vk vb pos attr args, A, c) :: l => [.int .i64 op, .int .i64 kd, .slice A args.length c, .int .i64 vk, .int .u64 (vb : Int), .int .i64 pos, .int .i64 attr] ++ cellsT l
theorem cellsT_len : ∀ l, (cellsT l).length = l.length * 7
  | [] => rfl
  | (.mk op kd vk vb pos attr args, A, c) :: l => by
    simp only [cellsT, List.length_append, List.length_cons, List.length_nil, cellsT_len l]
    omega
theorem cellsT_snoc : ∀ (l : List (NT × Option Addr × Nat)) (op kd vk : Int) (vb : Nat) (pos attr : Int) (args : List NT) (A : Option Addr) (c : Nat),
    cellsT (l ++ [(.mk op kd vk vb pos attr args, A, c)]) = cellsT l ++ [.int .i64 op, .int .i64 kd, .slice A args.length c, .int .i64 vk, .int .u64 (vb : Int), .int .i64 pos, .int .i64 attr]
  | [], _, _, _, _, _, _, _, _, _ => rfl
  | (.mk op1 kd1 vk1 vb1 pos1 attr1 args1, A1, c1) :: l, op, kd, vk, vb, pos, attr, args, A, c => by
    simp only [List.cons_append, cellsT, cellsT_snoc l, List.append_assoc]
theorem cellsT_at : ∀ (l : List (NT × Option Addr × Nat)) (i : Nat) (op kd vk : Int) (vb : Nat) (pos attr : Int) (args : List NT) (A : Option Addr) (c : Nat), l[i]? = some (.mk op kd vk vb pos attr args, A, c) →
    ∀ j v, [Value.int .i64 op, .int .i64 kd, .slice A args.length c, .int .i64 vk, .int .u64 (vb : Int), .int .i64 pos, .int .i64 attr][j]? = some v → (cellsT l)[i * 7 + j]? = some v
  | [], i, _, _, _, _, _, _, _, _, _, h => by simp at h
  | (.mk op1 kd1 vk1 vb1 pos1 attr1 args1, A1, c1) :: l, 0, op, kd, vk, vb, pos, attr, args, A, c, h => by
    intro j v hj
    simp only [List.getElem?_cons_zero, Option.some.injEq, Prod.mk.injEq] at h
    obtain ⟨h, rfl, rfl⟩ := h
    cases h
    have := (List.getElem?_eq_some_iff.1 hj).1
    rw [cellsT, Nat.zero_mul, Nat.zero_add, List.getElem?_append_left this]
    exact hj
  | (.mk op1 kd1 vk1 vb1 pos1 attr1 args1, A1, c1) :: l, i + 1, op, kd, vk, vb, pos, attr, args, A, c, h => by
    intro j v hj
    rw [cellsT, List.getElem?_append_right (by simp; omega)]
    simp only [List.length_cons, List.length_nil]
    rw [show (i + 1) * 7 + j - (0 + 1 + 1 + 1 + 1 + 1 + 1 + 1) = i * 7 + j by omega]
    exact cellsT_at l i op kd vk vb pos attr args A c (by simpa using h) j v hj
theorem infoN : (Try.prog.info? 27).map (fun i => (i.zero, i.size, i.bytes)) = some (some (.agg #[.int .i64 0, .int .i64 0, .slice none 0 0, .int .i64 0, .int .u64 0, .int .i64 0, .int .i64 0]), 7, 72) := zNode
/-- between two rounds: the first k are copied -/
def TwR (w : World) (l : List NT) (k : Nat) (v : Value) (wr : World) : Prop :=
  ∃ us : List (NT × Option Addr × Nat), us.map (·.1) = l.take k ∧ wr.ownsRow w.heap.size 27 7 v k (cellsT us) ∧ Below w.heap.size w wr ∧
    ∀ (i : Nat) (t : NT) (A : Option Addr) (c : Nat), us[i]? = some (t, A, c) → NodesP wr (fun b => w.heap.size ≤ b ∧ some b ≠ v.ownBlock) A t.args ∧ (match t with | .mk _ _ _ vb _ _ _ => vb < 18446744073709551616)
/-- what is copied lies so -/
theorem twin_nodes {w wr : World} {l : List NT} {v : Value} (h : TwR w l l.length v wr) : ∃ A c, v = .slice A l.length c ∧ NodesP wr (fun b => w.heap.size ≤ b) A l := by
  obtain ⟨us, hu, hO, hB, hK⟩ := h
  rw [List.take_length] at hu
  rcases hO.2 with ⟨rfl, hz⟩ | ⟨g, cap, cur, rfl, hg, hh, _⟩
  · have : l = [] := List.eq_nil_of_length_eq_zero hz
    subst this
    exact ⟨none, 0, rfl, fun h => absurd h (by simp), fun i t h => by simp at h⟩
  · refine ⟨some ⟨g, 0, none⟩, cap, rfl, fun _ => ⟨g, 0, rfl⟩, fun i t hi ab ao e => ?_⟩
    cases e
    have hul : us.length = l.length := by rw [← hu, List.length_map]
    have hil := (List.getElem?_eq_some_iff.1 hi).1
    have hui : us[i]? = some (us[i]'(by omega)) := List.getElem?_eq_getElem (by omega)
    have ht : (us[i]'(by omega)).1 = t := by
      have := congrArg (fun l => l[i]?) hu
      simp only [List.getElem?_map, hui, hi, Option.map_some, Option.some.injEq] at this
      exact this
    generalize us[i]'(by omega) = x at *
    obtain ⟨t', A, c⟩ := x
    simp only at ht
    subst ht
    obtain ⟨hN, hvb⟩ := hK i t' A c hui
    obtain ⟨op, kd, vk, vb, pos, attr, args⟩ := t'
    have hc := hO.cells (g := g) rfl
    have hat := cellsT_at us i op kd vk vb pos attr args A c hui
    have key : ∀ j u, [Value.int .i64 op, .int .i64 kd, .slice A args.length c, .int .i64 vk, .int .u64 (vb : Int), .int .i64 pos, .int .i64 attr][j]? = some u → wr.cell? ⟨g, 0 + i * 7 + j, none⟩ = some u := fun j u hj => by
      have := hc _ _ (hat j u hj)
      rw [addr_adds] at this
      rw [Nat.zero_add]
      exact this
    exact .mk g (0 + i * 7) op kd vk vb pos attr args A c (key 0 _ rfl) (key 1 _ rfl) (key 2 _ rfl) (key 3 _ rfl) (key 4 _ rfl) (key 5 _ rfl) (key 6 _ rfl) hvb ⟨_, _, hh⟩ hg hN.1 (fun i t hi ab ao e => (hN.2 i t hi ab ao e).weak fun b _ h => h.1)
end Go.Proofs.Ytfjnphiegoogoaa

/- TwnB -/
namespace Go.Proofs.Ytfjnphiegoogoaa
open Go.ChangeShapes Go.WideShapes Go.ChangeAt Go.RowKit Go.Fl
set_option linter.unusedVariables false
set_option linter.unusedSimpArgs false

theorem NT.size_mk (op kd vk : Int) (vb : Nat) (pos attr : Int) (l : List NT) : (NT.mk op kd vk vb pos attr l).size = NT.sizes l + 1 := by unfold NT.size; rfl
theorem twin_step {w wr w2 w5 : World} {l : List NT} {k : Nat} {v v' : Value} {us : List (NT × Option Addr × Nat)} {o o' : Obj} {x : Value} {op kd vk : Int} {vb : Nat} {pos attr : Int} {args : List NT} {A : Option Addr} {c : Nat}
    (hu : us.map (·.1) = l.take k) (hO : wr.ownsRow w.heap.size 27 7 v k (cellsT us)) (hB : Below w.heap.size w wr)
    (hK : ∀ (i : Nat) (t : NT) (A : Option Addr) (c : Nat), us[i]? = some (t, A, c) → NodesP wr (fun b => w.heap.size ≤ b ∧ some b ≠ v.ownBlock) A t.args ∧ (match t with | .mk _ _ _ vb _ _ _ => vb < 18446744073709551616))
    (hb2 : Below (wr.alloc o).heap.size (wr.alloc o) w2) (hC : NodesP w2 (fun b => (wr.alloc o).heap.size ≤ b) A args) (hvb : vb < 18446744073709551616)
    (hl : l[k]? = some (.mk op kd vk vb pos attr args))
    (hg : ((w2.setCell ⟨wr.heap.size, 2, none⟩ x).alloc o').grownBy w5 v.ownBlock)
    (hv : v'.ownBlock = v.ownBlock ∨ v'.ownBlock = some ((w2.setCell ⟨wr.heap.size, 2, none⟩ x).alloc o').heap.size)
    (hO5 : w5.ownsRow w.heap.size 27 7 v' (k + 1) (cellsT us ++ [.int .i64 op, .int .i64 kd, .slice A args.length c, .int .i64 vk, .int .u64 (vb : Int), .int .i64 pos, .int .i64 attr])) : TwR w l (k + 1) v' w5 := by
  have s1 : (wr.alloc o).heap.size = wr.heap.size + 1 := by simp
  have s2 := hb2.size
  have s3 : ((w2.setCell ⟨wr.heap.size, 2, none⟩ x).alloc o').heap.size = w2.heap.size + 1 := by simp [World.setCell]
  have s5 := hg.size
  have hown : ∀ g, v.ownBlock = some g → w.heap.size ≤ g ∧ g < wr.heap.size := fun g e => hO.lt g e
  have c1 := m1 wr o
  have c3 := mset w2 ⟨wr.heap.size, 2, none⟩ x
  have c4 := m1 (w2.setCell ⟨wr.heap.size, 2, none⟩ x) o'
  have hB5 : Below w.heap.size w w5 := by
    have b2 := mmore (mmore hB c1) hb2
    have b3 := b2.setCell (p := ⟨wr.heap.size, 2, none⟩) hB.size x
    exact (mmore b3 c4).grown hg (by rw [s3]; have := hB.size; omega) (fun g e => (hown g e).1)
  refine ⟨us ++ [(.mk op kd vk vb pos attr args, A, c)], ?_, ?_, hB5, ?_⟩
  · rw [List.map_append, hu, List.take_add_one, hl]; rfl
  · rw [cellsT_snoc]; exact hO5
  · intro i t A1 c1' hi
    by_cases hik : i < us.length
    · rw [List.getElem?_append_left hik] at hi
      obtain ⟨h1, h2⟩ := hK i t A1 c1' hi
      refine ⟨?_, h2⟩
      have n0 := h1.weak (S' := fun b => (w.heap.size ≤ b ∧ some b ≠ v.ownBlock) ∧ b < wr.heap.size) fun b hb h => ⟨h, hb⟩
      have n1 := (n0.later c1).later hb2
      have n2 := n1.grown c3 (fun b h e => by injection e with e; have e2 : b = wr.heap.size := e; omega)
      have n3 := (n2.later c4).grown hg (fun b h => h.1.2)
      refine n3.weak fun b _ h => ⟨h.1.1, ?_⟩
      rcases hv with e | e
      · rw [e]; exact h.1.2
      · rw [e, s3]; intro e2; injection e2; omega
    · have hil := (List.getElem?_eq_some_iff.1 hi).1
      simp only [List.length_append, List.length_cons, List.length_nil] at hil
      rw [List.getElem?_append_right (by omega), show i - us.length = 0 by omega] at hi
      simp at hi
      obtain ⟨rfl, rfl, rfl⟩ := hi
      refine ⟨?_, hvb⟩
      have n0 := hC.weak (S' := fun b => (wr.alloc o).heap.size ≤ b ∧ b < w2.heap.size) fun b hb h => ⟨h, hb⟩
      have n2 := n0.grown c3 (fun b h e => by injection e with e; have e2 : b = wr.heap.size := e; omega)
      have n3 := (n2.later c4).grown hg (fun b h e => by have := (hown b e.symm).2; omega)
      refine n3.weak fun b _ h => ⟨by have := hB.size; omega, ?_⟩
      rcases hv with e | e
      · rw [e]; intro e2; have := (hown b e2.symm).2; omega
      · rw [e, s3]; intro e2; injection e2; omega
set_option maxHeartbeats 4000000 in
set_option maxRecDepth 100000 in
theorem twin_any : ∀ (n : Nat) (l : List NT), NT.sizes l < n → NT.sizes l ≤ 1048576 → ∀ (A : Option Addr) (c : Nat) (w : World), NodesIs w A l →
    Calls Try.prog 7 #[.slice A l.length c] w fun e w' => ∃ A' c', e = .returned (.slice A' l.length c') ∧ NodesP w' (fun b => w.heap.size ≤ b) A' l ∧ Below w.heap.size w w' := by
  intro n
  induction n with
  | zero => intro l h; omega
  | succ n ih =>
    intro l hn hs A c w hN
    obtain ⟨i0, hi, hz0, hz1, hz2⟩ := info_parts infoN
    have hlen := NT.size_len l
    replace hN := Lib.hid hN
    go_enter Try.func7, Try.ntmps7
    go_wp2_with fail
    go_loopw [3, 8] (fun v i wr => ∃ k : Nat, k ≤ l.length ∧ i = .int .i64 (k : Int) ∧ TwR w l k v wr) (fun _ i _ => l.length - (intOf i).toNat)
    case atStart => exact ⟨0, Nat.zero_le _, rfl, [], rfl, World.ownsRow_nil _ _ _ _, Below.refl _ _, fun i t A c h => by simp at h⟩
    case round =>
      obtain ⟨k, hk, rfl, hT⟩ := hrel
      by_cases hkl : k < l.length
      · obtain ⟨us, hu, hO, hB, hK⟩ := hT
        obtain ⟨ab, ao, rfl⟩ := hN.out.1 (by omega)
        have hc := hN.out.2 k _ (List.getElem?_eq_getElem hkl) ab ao rfl
        have hlk : l[k]? = some l[k] := List.getElem?_eq_getElem hkl
        have hz := NT.size_mem (List.getElem_mem hkl)
        generalize l[k] = t at *
        cases hc with
        | mk _ _ op kd vk vb pos attr args A1 c1 h0 h1 h2 h3 h4 h5 h6 hvb hA1 hk1 =>
        unfold NT.size at hz
        have d0 := cell_later hB h0
        have d1 := cell_later hB h1
        have d2 := cell_later hB h2
        have d3 := cell_later hB h3
        have d4 := cell_later hB h4
        have d5 := cell_later hB h5
        have d6 := cell_later hB h6
        have hNk : NodesIs w A1 args := ⟨hA1, hk1⟩
        have hbu := mmore hB (m1 wr (.cells #[.int .i64 op, .int .i64 kd, .slice A1 args.length c1, .int .i64 vk, .int .u64 (vb : Int), .int .i64 pos, .int .i64 attr] 27))
        have gb := Blk.made wr 27 #[.int .i64 op, .int .i64 kd, .slice A1 args.length c1, .int .i64 vk, .int .u64 (vb : Int), .int .i64 pos, .int .i64 attr]
        have O := Lib.hid (ih args (by omega) (by omega) A1 c1 _ (NodesIs.later hbu hNk))
        have li : (k : Int) < (l.length : Int) := by omega
        have hstep := fun (w2 w5 : World) (v' : Value) (A : Option Addr) (c : Nat) (o' : Obj) (x : Value) => twin_step (w2 := w2) (w5 := w5) (v' := v') (A := A) (c := c) (o' := o') (x := x) (op := op) (kd := kd) (vk := vk) (vb := vb) (pos := pos) (attr := attr) (args := args) (o := .cells #[.int .i64 op, .int .i64 kd, .slice A1 args.length c1, .int .i64 vk, .int .u64 (vb : Int), .int .i64 pos, .int .i64 attr] 27) hu hO hB hK
        replace hstep := Lib.hid hstep
        replace hbu := Lib.hid hbu
        replace gb := Lib.hid gb
        replace hO := Lib.hid hO
        replace hlk := Lib.hid hlk
        clear h0 h1 h2 h3 h4 h5 h6 hA1 hk1 hNk hK hu
        go_wp2_with fail
        refine O.out.mono ?_; rintro e w2 ⟨A2, c2, rfl, hC, hb2⟩
        have gb2 := gb.out.kept hb2
        have z2 : w2.cell? ⟨wr.heap.size, 2, none⟩ = some (.slice A1 args.length c1) := gb2.cell 2
        have f2 : w2.frozen? ⟨wr.heap.size, 2, none⟩ = false := gb2.free 2
        have gb3 : Blk (w2.setCell ⟨wr.heap.size, 2, none⟩ (.slice A2 args.length c2)) wr.heap.size 27 #[.int .i64 op, .int .i64 kd, .slice A2 args.length c2, .int .i64 vk, .int .u64 (vb : Int), .int .i64 pos, .int .i64 attr] := by simpa using gb2.put_ 2 (.slice A2 args.length c2)
        have y0 := gb3.cell 0
        have y1 := gb3.cell 1
        have y2 := gb3.cell 2
        have y3 := gb3.cell 3
        have y4 := gb3.cell 4
        have y5 := gb3.cell 5
        have y6 := gb3.cell 6
        simp only [List.getElem?_toArray, List.getElem?_cons_zero, List.getElem?_cons_succ] at y0 y1 y2 y3 y4 y5 y6
        have hst := hstep.out w2
        have hO3 : (w2.setCell ⟨wr.heap.size, 2, none⟩ (.slice A2 args.length c2)).ownsRow w.heap.size 27 7 u3 k (cellsT us) := mown_set (own_below (hO.out.alloc _) hb2) (fun e => by have := (hO.out.lt _ e).2; exact absurd this (Nat.lt_irrefl _)) _
        have hs2 : w.heap.size ≤ (w2.setCell ⟨wr.heap.size, 2, none⟩ (.slice A2 args.length c2)).heap.size := by
          have h1 := hb2.size
          have h2 := hbu.out.size
          simp only [World.setCell, Array.size_modify]
          omega
        replace gb3 := Lib.hid gb3
        replace hst := Lib.hid hst
        replace hC := Lib.hid hC
        clear gb2 hstep d0 d1 d2 d3 d4 d5 d6
        go_wp2_with (at_builtin; (refine wpList_append_any _ rfl (.tmp 19) (.tmp 21) 22 rfl w.heap.size 27 i0 (.agg #[.int .i64 0, .int .i64 0, .slice none 0 0, .int .i64 0, .int .u64 0, .int .i64 0, .int .i64 0]) 7 72 Try.underlying22 hi hz0 hz1 hz2 rfl (by decide) u3 k (cellsT us) rfl (hO3.alloc _) (w2.heap.size + 1) (some ⟨w2.heap.size, 0, none⟩) 1 1 [.int .i64 op, .int .i64 kd, .slice A2 args.length c2, .int .i64 vk, .int .u64 (vb : Int), .int .i64 pos, .int .i64 attr] rfl ⟨rfl, fun _ => ⟨_, rfl, Nat.lt_succ_self _, ?c1⟩⟩ ?c2 ?c3 ?c4 ?c5 ?_))
        case c1 =>
          intro j u hj
          have hz3 : (w2.setCell ⟨wr.heap.size, 2, none⟩ (.slice A2 args.length c2)).heap.size = w2.heap.size := by simp [World.setCell]
          have hn := World.alloc_heap_new (w2.setCell ⟨wr.heap.size, 2, none⟩ (.slice A2 args.length c2)) (.cells #[.int .i64 op, .int .i64 kd, .slice A2 args.length c2, .int .i64 vk, .int .u64 (vb : Int), .int .i64 pos, .int .i64 attr] 27)
          rw [hz3] at hn
          rw [addr_adds, cell_of_row _ _ j #[.int .i64 op, .int .i64 kd, .slice A2 args.length c2, .int .i64 vk, .int .u64 (vb : Int), .int .i64 pos, .int .i64 attr] 27 (0, 0) hn]
          simpa using hj
        case c2 => intro u hu; simp at hu; rcases hu with rfl | rfl | rfl | rfl | rfl | rfl | rfl <;> rfl
        case c3 => unfold maxLen; omega
        case c4 => omega
        case c5 => simp only [World.size_alloc]; omega
        intro v' w5 hO5 hgrow hv'
        have hT5 := hst.out w5 v' A2 c2 _ _ hb2 hC.out hvb hlk.out hgrow (by simpa using hv') hO5
        clear hO5 hgrow hv' y0 y1 y2 y3 y4 y5 y6 z2 f2
        go_wp2
        go_roundw
        case rel => exact ⟨k + 1, by omega, by go_num, hT5⟩
        case measure => simp [intOf]; omega
      · obtain rfl : k = l.length := by omega
        obtain ⟨A', c', rfl, hP⟩ := twin_nodes hT
        obtain ⟨us, hu, hO, hB, hK⟩ := hT
        clear hu hO hK
        go_wp2
        go_ret
        exact ⟨A', c', rfl, hP, hB⟩
end Go.Proofs.Ytfjnphiegoogoaa

/- AskC -/
namespace Go.Proofs.Ytfjnphiegoogoaa
open Go.ChangeShapes Go.WideShapes Go.ChangeAt Go.RowKit Go.Fl
set_option linter.unusedVariables false
set_option linter.unusedSimpArgs false

/-- the addresses of a tree's nodes -/
theorem NodeP.list {w : World} {S : Nat → Prop} {p : Addr} {t : NT} (h : NodeP w S p t) : ∃ L : List Addr, p ∈ L ∧ L.length ≤ t.size ∧ ∀ q ∈ L, (∃ u, NodeP w S q u ∧ u.size ≤ t.size) ∧ ∀ r ∈ chA w q, r ∈ L := by
  induction h with
  | mk b o op kd vk vb pos attr args A c h0 h1 h2 h3 h4 h5 h6 hvb hp hS hA hk ih =>
    have hN : NodeP w S ⟨b, o, none⟩ (.mk op kd vk vb pos attr args) := .mk b o op kd vk vb pos attr args A c h0 h1 h2 h3 h4 h5 h6 hvb hp hS hA hk
    have key : ∀ k, k ≤ args.length → ∃ M : List Addr, M.length ≤ NT.sizes (args.take k) ∧ (∀ i, i < k → ∀ ab ao, A = some ⟨ab, ao, none⟩ → (⟨ab, ao + i * 7, none⟩ : Addr) ∈ M) ∧ ∀ q ∈ M, (∃ u, NodeP w S q u ∧ u.size ≤ NT.sizes args) ∧ ∀ r ∈ chA w q, r ∈ M := by
      intro k
      induction k with
      | zero => intro _; exact ⟨[], by simp [NT.sizes], fun i hi => absurd hi (by omega), fun q hq => by cases hq⟩
      | succ k ihk =>
        intro hk1
        obtain ⟨M, m1, m2, m3⟩ := ihk (by omega)
        obtain ⟨ab, ao, hAe⟩ := hA (by omega)
        obtain ⟨L, l1, l2, l3⟩ := ih k _ (List.getElem?_eq_getElem (by omega)) ab ao hAe
        have hsz := NT.size_mem (List.getElem_mem (show k < args.length by omega))
        refine ⟨M ++ L, ?_, fun i hi ab' ao' he => ?_, fun q hq => ?_⟩
        · rw [List.length_append, List.take_add_one, List.getElem?_eq_getElem (by omega)]
          have : ∀ (a b : List NT), NT.sizes (a ++ b) = NT.sizes a + NT.sizes b := by
            intro a b
            induction a with
            | nil => simp [NT.sizes]
            | cons x a iha => simp only [List.cons_append, NT.sizes, iha]; omega
          rw [this]
          simp only [Option.toList_some, NT.sizes]
          omega
        · by_cases e : i = k
          · subst e
            rw [hAe] at he
            simp only [Option.some.injEq, Addr.mk.injEq, and_true] at he
            obtain ⟨rfl, rfl⟩ := he
            exact List.mem_append_right _ l1
          · exact List.mem_append_left _ (m2 i (by omega) ab' ao' he)
        · rcases List.mem_append.1 hq with hq | hq
          · exact ⟨(m3 q hq).1, fun r hr => List.mem_append_left _ ((m3 q hq).2 r hr)⟩
          · obtain ⟨u, hu, hus⟩ := (l3 q hq).1
            exact ⟨⟨u, hu, by omega⟩, fun r hr => List.mem_append_right _ ((l3 q hq).2 r hr)⟩
    obtain ⟨M, m1, m2, m3⟩ := key args.length (Nat.le_refl _)
    rw [List.take_length] at m1
    refine ⟨⟨b, o, none⟩ :: M, List.mem_cons_self .., ?_, fun q hq => ?_⟩
    · unfold NT.size; simp only [List.length_cons]; omega
    · rcases List.mem_cons.1 hq with rfl | hq
      · refine ⟨⟨_, hN, Nat.le_refl _⟩, fun r hr => ?_⟩
        unfold chA at hr
        simp only [h2] at hr
        cases A with
        | none => simp at hr
        | some a =>
          simp only [List.mem_map, List.mem_range] at hr
          obtain ⟨i, hi, rfl⟩ := hr
          obtain ⟨ab, ao, e⟩ := hA (by omega)
          cases e
          exact List.mem_cons_of_mem _ (m2 i hi ab ao rfl)
      · obtain ⟨u, hu, hus⟩ := (m3 q hq).1
        exact ⟨⟨u, hu, by rw [NT.size_mk]; omega⟩, fun r hr => List.mem_cons_of_mem _ ((m3 q hq).2 r hr)⟩
theorem up_any (E B : Option Addr) (ce cb : Nat) (cur : Int) (es : List Ev) (bs : List (List Int)) (S : Nat → Prop) (p : Addr) (t : NT) (w : World) (hs : t.size ≤ 1099511627776) (hN : NodeP w S p t) (hL : LookIn w E B es bs) :
    Calls Try.prog 29 #[lookV E B es.length ce bs.length cb cur, .pointer (some p)] w (VIs (evT (lfP es bs cur) t) w) := by
  obtain ⟨L, l1, l2, l3⟩ := hN.list
  have hsub : ∀ q r, r ∈ chO w q → r ∈ chA w q := fun q r hr => by
    unfold chO at hr
    split at hr
    · cases hr
    · exact hr
  have hw : Within (chO w) (· ∈ L) := fun q hq r hr => (l3 q hq).2 r (hsub q r hr)
  have hr : ∀ q, q ∈ L → ∀ r ∈ chO w q, (treeAt w r).size < (treeAt w q).size := by
    intro q hq r hr
    obtain ⟨u, hu, _⟩ := (l3 q hq).1
    rw [treeAt_of hu.is]
    have hrA := hsub q r hr
    cases hu with
    | mk b o op kd vk vb pos attr args A c h0 h1 h2 h3 h4 h5 h6 hvb hp hS hA hk =>
      unfold chA at hrA
      simp only [h2] at hrA
      cases A with
      | none => simp at hrA
      | some a =>
        simp only [List.mem_map, List.mem_range] at hrA
        obtain ⟨i, hi, rfl⟩ := hrA
        obtain ⟨ab, ao, e⟩ := hA (by omega)
        cases e
        rw [treeAt_of (hk i _ (List.getElem?_eq_getElem hi) ab ao rfl).is]
        have := NT.size_mem (List.getElem_mem hi)
        rw [NT.size_mk]
        omega
  obtain ⟨ys, n, h1, h2, h3⟩ := dfs_all (chO w) (fun q => (treeAt w q).size) (· ∈ L) hw hr p l1
  have hyD : ∀ x ∈ ys ++ [p], x ∈ L := h1.within hw (fun x hx => by rw [List.mem_singleton.1 hx]; exact l1)
  have hlen : (ys ++ [p]).length ≤ 1099511627776 := Nat.le_trans (nodup_len h2 hyD) (by omega)
  have key := up_F E B es.length ce bs.length cb cur p (fun q => evT (lfP es bs cur) (treeAt w q)) (ys ++ [p]) n w (· ∈ L) (chO w) hw h1 h2 h3 (by simp) l1 hyD hlen
    (fun q hq => by obtain ⟨u, hu, _⟩ := (l3 q hq).1; exact hu.plain) ?_ ?_ ?_
  · rw [treeAt_of hN.is] at key
    exact key
  · intro q hq W hW
    obtain ⟨u, hu, hus⟩ := (l3 q hq).1
    obtain ⟨op, kd, vk, vb, pos, attr, args⟩ := u
    obtain ⟨A, m, c, k1, k2, k3, k4⟩ := chO_of hu.is
    refine ⟨?_, A, m, c, fun k => (k1 (W.drewN k) ⟨hW.os, hW.tape, hW.output, hW.size, hW.block⟩).mono fun e w' h => ⟨h.1, h.2⟩, k2, k3, ?_⟩
    · cases hu with
      | mk b o op kd vk vb pos attr args A c h0 h1 h2 h3 h4 h5 h6 hvb hp hS hA hk => rfl
    · have := NT.size_len args
      rw [NT.size_mk] at hus
      omega
  · intro q hq
    obtain ⟨u, hu, _⟩ := (l3 q hq).1
    rw [treeAt_of hu.is]
    exact evT_lt hL.1 bs cur hu.is
  · intro q hq
    obtain ⟨u, hu, hus⟩ := (l3 q hq).1
    have hT := treeAt_of hu.is
    have hui := hu.is
    cases hu with
    | mk b o op kd vk vb pos attr args A c h0 h1 h2 h3 h4 h5 h6 hvb hp hS hA hk =>
      rw [hT]
      by_cases hop : LeafOp op
      · refine .inl ⟨op, hop, h0, fun wz hwz => ?_⟩
        rw [evT, if_pos hop]
        exact leaf_any E B ce cb cur es bs b o op vk vb pos attr w hop hvb ⟨h0, h3, h4, h5, h6⟩ hL wz hwz
      · obtain ⟨A', m, c', k1, k2, k3, k4⟩ := chO_of hui
        have hch : chO w ⟨b, o, none⟩ = kids A args.length := by
          unfold chO
          rw [hT]
          show (if LeafOp op then [] else chA w ⟨b, o, none⟩) = _
          rw [if_neg hop]
          unfold chA
          simp only [h2]
          by_cases hz : 0 < args.length
          · obtain ⟨ab, ao, rfl⟩ := hA hz
            simp [kids]
          · have : args.length = 0 := by omega
            rw [this]
            cases A <;> simp [kids]
        refine .inr ⟨op, hop, h0, ⟨A, args.length, c, h2, hch, hA, ?_⟩, ?_⟩
        · have := NT.size_len args
          rw [NT.size_mk] at hus
          omega
        · rw [evT, if_neg hop, evTs_map, hch]
          congr 1
          refine List.ext_getElem? fun i => ?_
          rw [List.getElem?_map, List.getElem?_map]
          by_cases hi : i < args.length
          · obtain ⟨ab, ao, rfl⟩ := hA (by omega)
            rw [kids_at hi, List.getElem?_eq_getElem hi]
            simp only [Option.map_some, Option.some.injEq]
            rw [treeAt_of (hk i _ (List.getElem?_eq_getElem hi) ab ao rfl).is]
          · rw [List.getElem?_eq_none (by omega), List.getElem?_eq_none (by rw [kids_len hA]; omega)]
            rfl
set_option maxHeartbeats 4000000 in
set_option maxRecDepth 100000 in
theorem ask_any (E B : Option Addr) (ce cb : Nat) (cur : Int) (es : List Ev) (bs : List (List Int)) (S : Nat → Prop) (b o : Nat) (t : NT) (w : World) (hs : t.size ≤ 1099511627776) (hN : NodeP w S ⟨b, o, none⟩ t) (hL : LookIn w E B es bs) :
    Asks 17 E B es.length ce bs.length cb cur b o (evT (lfP es bs cur) t) w := by
  intro wz hz
  replace hN := hN.later hz
  replace hL := hL.later hz
  clear hz w
  have hu := m2 wz (lookO E B es.length ce bs.length cb cur) (.cells #[.int .i64 0, .int .u64 0] 25)
  have F := few_any t hs ⟨b, o, none⟩ _ (hN.later hu).is
  have D := down_any E B ce cb cur es bs t.size t (Nat.le_refl _) hs b o wz hN.is hL _ hu
  have U := up_any E B ce cb cur es bs S ⟨b, o, none⟩ t _ hs (hN.later hu) (hL.later hu)
  generalize evT (lfP es bs cur) t = x at *
  obtain ⟨xk, xb⟩ := x
  replace F := Lib.hid F
  replace D := Lib.hid D
  replace U := Lib.hid U
  replace hu := Lib.hid hu
  clear hN hL hs
  go_enter Try.func17, Try.ntmps17
  go_wp2_with fail
  refine F.out.mono ?_; rintro e w' ⟨⟨b1, rfl⟩, rfl⟩
  cases b1 with
  | true =>
    go_wp2_with fail
    refine D.out.mono ?_; rintro e w1 ⟨rfl, hb1⟩
    obtain ⟨hc, hf⟩ := bcell hb1
    obtain ⟨_, r1, r2⟩ := put2 (w := w1) (g := wz.heap.size + 1) (.int .i64 xk) (.int .u64 (xb : Int)) (x := .int .i64 0) (y := .int .u64 0) (by rw [hc _ _ (by simp)]; simp [go_sem]) (by rw [hc _ _ (by simp)]; simp [go_sem])
    go_wp2
    exact bodyPost_ret (v := .agg #[.int .i64 xk, .int .u64 (xb : Int)]) (by simp [results, Try.results17, go_sem, r1, r2]) rfl (.mk rfl (((mmore hu.out hb1).setCell (by show wz.heap.size ≤ wz.heap.size + 1; omega) _).setCell (by show wz.heap.size ≤ wz.heap.size + 1; omega) _))
  | false =>
    go_wp2_with fail
    refine U.out.mono ?_; rintro e w1 ⟨rfl, hb1⟩
    obtain ⟨hc, hf⟩ := bcell hb1
    obtain ⟨_, r1, r2⟩ := put2 (w := w1) (g := wz.heap.size + 1) (.int .i64 xk) (.int .u64 (xb : Int)) (x := .int .i64 0) (y := .int .u64 0) (by rw [hc _ _ (by simp)]; simp [go_sem]) (by rw [hc _ _ (by simp)]; simp [go_sem])
    go_wp2
    exact bodyPost_ret (v := .agg #[.int .i64 xk, .int .u64 (xb : Int)]) (by simp [results, Try.results17, go_sem, r1, r2]) rfl (.mk rfl (((mmore hu.out hb1).setCell (by show wz.heap.size ≤ wz.heap.size + 1; omega) _).setCell (by show wz.heap.size ≤ wz.heap.size + 1; omega) _))
end Go.Proofs.Ytfjnphiegoogoaa

/- EvNd -/
namespace Go.Proofs.Ytfjnphiegoogoaa
open Go.ChangeShapes Go.WideShapes Go.ChangeAt Go.RowKit Go.Fl
set_option linter.unusedVariables false
set_option linter.unusedSimpArgs false

theorem root_node {wz : World} {g : Nat} {S : Nat → Prop} {op kd vk : Int} {vb : Nat} {pos attr : Int} {A : Option Addr} {c : Nat} {args : List NT} (hvb : vb < 18446744073709551616)
    (hB : Blk wz g 27 #[.int .i64 op, .int .i64 kd, .slice A args.length c, .int .i64 vk, .int .u64 (vb : Int), .int .i64 pos, .int .i64 attr]) (hN : NodesP wz S A args) : NodeP wz (fun _ => True) ⟨g, 0, none⟩ (.mk op kd vk vb pos attr args) :=
  .mk g 0 op kd vk vb pos attr args A c (hB.cell 0) (hB.cell 1) (hB.cell 2) (hB.cell 3) (hB.cell 4) (hB.cell 5) (hB.cell 6) hvb ⟨_, _, hB⟩ trivial hN.1 (fun i t hi ab ao e => (hN.2 i t hi ab ao e).weak fun _ _ _ => trivial)
theorem enode_any (E B : Option Addr) (ce cb : Nat) (cur : Int) (es : List Ev) (bs : List (List Int)) (S : Nat → Prop) (op kd vk : Int) (vb : Nat) (pos attr : Int) (A : Option Addr) (c : Nat) (args : List NT) (w : World) (hs : NT.sizes args + 1 ≤ 1099511627776) (hvb : vb < 18446744073709551616) (hN : NodesP w S A args) (hL : LookIn w E B es bs) :
    Calls Try.prog 8 #[.agg #[.int .i64 op, .int .i64 kd, .slice A args.length c, .int .i64 vk, .int .u64 (vb : Int), .int .i64 pos, .int .i64 attr], lookV E B es.length ce bs.length cb cur] w (VIs (evT (lfP es bs cur) (.mk op kd vk vb pos attr args)) w) :=
  node_any E B _ ce _ cb cur op kd A args.length c vk vb pos attr _ w fun wz hz hB =>
    ask_any E B ce cb cur es bs (fun _ => True) w.heap.size 0 _ wz (by rw [NT.size_mk]; exact hs) (root_node hvb hB (hN.later hz)) (hL.later hz) wz (Below.refl _ _)
set_option maxHeartbeats 4000000 in
set_option maxRecDepth 100000 in
/-- a list of one condition -/
theorem all_this (E B : Option Addr) (ne ce nb cb : Nat) (cur : Int) (b o cap : Nat) (x : Int × Nat) (w : World) (hA : Asks 17 E B ne ce nb cb cur b o x w) :
    Calls Try.prog 11 #[.slice (some ⟨b, o, none⟩) 1 cap, lookV E B ne ce nb cb cur] w fun e w' => e = .returned (.bool (decide (x = (2, 1)))) ∧ Below w.heap.size w w' := by
  obtain ⟨xk, xb⟩ := x
  have hne : ∀ w, (binOp .neq 25 (.agg #[.int .i64 xk, .int .u64 (xb : Int)]) (.agg #[.int .i64 2, .int .u64 1])).run Try.prog w = .ok (.bool (!decide ((xk, xb) = (2, 1)))) w := fun w => by
    by_cases h1 : xk = 2 <;> by_cases h2 : xb = 1
    · subst h1 h2; simp [go_sem]
    · have h3 : ¬ (xb : Int) = 1 := by omega
      simp [go_sem, h1, h2, h3]
    · simp [go_sem, h1, h2]
    · have h3 : ¬ (xb : Int) = 1 := by omega
      simp [go_sem, h1, h2, h3]
  have hu := m1 w (lookO E B ne ce nb cb cur)
  have c0 : (w.alloc (lookO E B ne ce nb cb cur)).cell? ⟨w.heap.size, 0, none⟩ = some (.slice E ne ce) := by simp [go_sem]
  have c1 : (w.alloc (lookO E B ne ce nb cb cur)).cell? ⟨w.heap.size, 1, none⟩ = some (.slice B nb cb) := by simp [go_sem]
  have c2 : (w.alloc (lookO E B ne ce nb cb cur)).cell? ⟨w.heap.size, 2, none⟩ = some (.int .i64 cur) := by simp [go_sem]
  have O := Lib.hid (hA _ hu.drew)
  replace hu := Lib.hid hu
  clear hA
  by_cases hx : (xk, xb) = (2, 1)
  · rw [decide_eq_true hx] at hne ⊢
    simp only [Bool.not_true] at hne
    clear hx
    go_enter Try.func11, Try.ntmps11
    go_wp2_with fail
    go_loopw [8] (fun i wr => (i = .int .i64 0 ∧ wr = w.alloc (lookO E B ne ce nb cb cur)) ∨ (i = .int .i64 1 ∧ Below w.heap.size w wr)) (fun i _ => 1 - (intOf i).toNat)
    case atStart => exact .inl ⟨rfl, rfl⟩
    case round =>
      rcases hrel with ⟨rfl, rfl⟩ | ⟨rfl, hW⟩
      · go_wp2_with fail
        go_region_with (go_at_call 17; refine O.out.mono ?_; rintro e w2 ⟨rfl, hb1⟩; have hB := Lib.hid (mmore hu.out.drew hb1))
        all_goals clear hb1
        all_goals go_wp2
        all_goals go_roundw
        all_goals first | exact .inr ⟨by go_num, hB.out⟩ | (simp [intOf]; done) | (simp [intOf]; omega)
      · go_wp2
        go_ret
        exact ⟨rfl, hW⟩
  · rw [decide_eq_false hx] at hne ⊢
    simp only [Bool.not_false] at hne
    clear hx
    go_enter Try.func11, Try.ntmps11
    go_wp2_with fail
    go_loopw [8] (fun i wr => i = .int .i64 0 ∧ wr = w.alloc (lookO E B ne ce nb cb cur)) (fun i _ => 0)
    case atStart => exact ⟨rfl, rfl⟩
    case round =>
      obtain ⟨rfl, rfl⟩ := hrel
      go_wp2_with fail
      go_region_with (go_at_call 17; refine O.out.mono ?_; rintro e w2 ⟨rfl, hb1⟩; have hB := Lib.hid (mmore hu.out.drew hb1))
      all_goals go_wp2
      all_goals go_ret
      all_goals exact ⟨rfl, hB.out⟩
theorem rtruth_true (w : World) : Calls Try.prog 12 #[.bool true] w fun e w' => e = .returned (.agg #[.int .i64 2, .int .u64 1]) ∧ Below w.heap.size w w' := by
  go_enter Try.func12, Try.ntmps12
  go_wp2
  exact bodyPost_ret (v := .agg #[.int .i64 2, .int .u64 1]) (by simp [results, Try.results12, go_sem]) rfl ⟨rfl, m1 _ _⟩
end Go.Proofs.Ytfjnphiegoogoaa

/- Sam -/
namespace Go.Proofs.Ytfjnphiegoogoaa
open Go.ChangeShapes Go.WideShapes Go.ChangeAt Go.RowKit Go.Fl
set_option linter.unusedVariables false
set_option linter.unusedSimpArgs false

theorem keep14 {wr w1 : World} {a0 a1 a2 a3 a4 a5 a6 a7 a8 a9 a10 a11 a12 a13 : Addr} {v0 v1 v2 v3 v4 v5 v6 v7 v8 v9 v10 v11 v12 v13 : Value} (hb : Below wr.heap.size wr w1) (h : wr.cell? a0 = some v0 ∧ wr.cell? a1 = some v1 ∧ wr.cell? a2 = some v2 ∧ wr.cell? a3 = some v3 ∧ wr.cell? a4 = some v4 ∧ wr.cell? a5 = some v5 ∧ wr.cell? a6 = some v6 ∧ wr.cell? a7 = some v7 ∧ wr.cell? a8 = some v8 ∧ wr.cell? a9 = some v9 ∧ wr.cell? a10 = some v10 ∧ wr.cell? a11 = some v11 ∧ wr.cell? a12 = some v12 ∧ wr.cell? a13 = some v13) : w1.cell? a0 = some v0 ∧ w1.cell? a1 = some v1 ∧ w1.cell? a2 = some v2 ∧ w1.cell? a3 = some v3 ∧ w1.cell? a4 = some v4 ∧ w1.cell? a5 = some v5 ∧ w1.cell? a6 = some v6 ∧ w1.cell? a7 = some v7 ∧ w1.cell? a8 = some v8 ∧ w1.cell? a9 = some v9 ∧ w1.cell? a10 = some v10 ∧ w1.cell? a11 = some v11 ∧ w1.cell? a12 = some v12 ∧ w1.cell? a13 = some v13 := by
  obtain ⟨h0, h1, h2, h3, h4, h5, h6, h7, h8, h9, h10, h11, h12, h13⟩ := h
  exact ⟨cell_later hb h0, cell_later hb h1, cell_later hb h2, cell_later hb h3, cell_later hb h4, cell_later hb h5, cell_later hb h6, cell_later hb h7, cell_later hb h8, cell_later hb h9, cell_later hb h10, cell_later hb h11, cell_later hb h12, cell_later hb h13⟩
theorem two_made (w : World) (t : TypeId) (cs ds : Array Value) : Blk ((w.alloc (.cells cs t)).alloc (.cells ds t)) w.heap.size t cs ∧ Blk ((w.alloc (.cells cs t)).alloc (.cells ds t)) (w.heap.size + 1) t ds :=
  ⟨(Blk.made w t cs).kept (m1 _ _), by have := Blk.made (w.alloc (.cells cs t)) t ds; simpa using this⟩
set_option maxHeartbeats 8000000 in
set_option maxRecDepth 100000 in
theorem same_nodes : ∀ (n : Nat) (l : List NT), NT.sizes l < n → NT.sizes l ≤ 1048576 → ∀ (A B : Option Addr) (c d : Nat) (w : World), NodesIs w A l → NodesIs w B l →
    Calls Try.prog 13 #[.slice A l.length c, .slice B l.length d] w fun e w' => e = .returned (.bool true) ∧ Below w.heap.size w w' := by
  intro n
  induction n with
  | zero => intro l h; omega
  | succ n ih =>
    intro l hn hs A B c d w hA hB
    have hlen := NT.size_len l
    have hll : ((l.length : Int) != (l.length : Int)) = false := by simp
    replace hA := Lib.hid hA
    replace hB := Lib.hid hB
    go_enter Try.func13, Try.ntmps13
    go_wp2_with fail
    go_loopw [15] (fun i wr => ∃ k : Nat, k ≤ l.length ∧ i = .int .i64 (k : Int) ∧ Below w.heap.size w wr) (fun i _ => l.length - (intOf i).toNat)
    case atStart => exact ⟨0, Nat.zero_le _, rfl, Below.refl _ _⟩
    case round =>
      obtain ⟨k, hk, rfl, hW⟩ := hrel
      by_cases hkl : k < l.length
      · obtain ⟨ab, ao, rfl⟩ := hA.out.1 (by omega)
        obtain ⟨bb, bo, rfl⟩ := hB.out.1 (by omega)
        have hc := hA.out.2 k _ (List.getElem?_eq_getElem hkl) ab ao rfl
        have hd := hB.out.2 k _ (List.getElem?_eq_getElem hkl) bb bo rfl
        have hz := NT.size_mem (List.getElem_mem hkl)
        generalize l[k] = t at *
        cases hc with
        | mk _ _ op kd vk vb pos attr args A1 c1 h0 h1 h2 h3 h4 h5 h6 hvb hA1 hk1 =>
        generalize hT : NT.mk op kd vk vb pos attr args = T at hd
        cases hd with
        | mk _ _ op' kd' vk' vb' pos' attr' args' B1 d1 g0 g1 g2 g3 g4 g5 g6 gvb gB1 gk1 =>
        simp only [NT.mk.injEq] at hT
        obtain ⟨rfl, rfl, rfl, rfl, rfl, rfl, rfl⟩ := hT
        rw [NT.size_mk] at hz
        have IH := fun wz (hb : Below w.heap.size w wz) => ih args (by omega) (by omega) A1 B1 c1 d1 wz (NodesIs.later hb ⟨hA1, hk1⟩) (NodesIs.later hb ⟨gB1, gk1⟩)
        have a0 : wr.drew.cell? _ = _ := cell_later hW.drew h0
        have a1 : wr.drew.cell? _ = _ := cell_later hW.drew h1
        have a2 : wr.drew.cell? _ = _ := cell_later hW.drew h2
        have a3 : wr.drew.cell? _ = _ := cell_later hW.drew h3
        have a4 : wr.drew.cell? _ = _ := cell_later hW.drew h4
        have a5 : wr.drew.cell? _ = _ := cell_later hW.drew h5
        have a6 : wr.drew.cell? _ = _ := cell_later hW.drew h6
        have b0 : wr.drew.cell? _ = _ := cell_later hW.drew g0
        have b1 : wr.drew.cell? _ = _ := cell_later hW.drew g1
        have b2 : wr.drew.cell? _ = _ := cell_later hW.drew g2
        have b3 : wr.drew.cell? _ = _ := cell_later hW.drew g3
        have b4 : wr.drew.cell? _ = _ := cell_later hW.drew g4
        have b5 : wr.drew.cell? _ = _ := cell_later hW.drew g5
        have b6 : wr.drew.cell? _ = _ := cell_later hW.drew g6
        have li : (k : Int) < (l.length : Int) := by omega
        replace IH := Lib.hid IH
        replace hW := Lib.hid hW
        clear h0 h1 h2 h3 h4 h5 h6 g0 g1 g2 g3 g4 g5 g6 hA1 hk1 gB1 gk1
        go_upto_region 6 with (fail)
        go_cut [6, 7] from 18 to 25 (fun p q w' => ∃ g h, p = .pointer (some ⟨g, 0, none⟩) ∧ q = .pointer (some ⟨h, 0, none⟩) ∧ Blk w' g 27 #[.int .i64 op, .int .i64 kd, .slice A1 args.length c1, .int .i64 vk, .int .u64 (vb : Int), .int .i64 pos, .int .i64 attr] ∧ Blk w' h 27 #[.int .i64 op, .int .i64 kd, .slice B1 args.length d1, .int .i64 vk, .int .u64 (vb : Int), .int .i64 pos, .int .i64 attr] ∧ Below wr.heap.size wr w')
        case first =>
          go_region_held3 (fun w' => w'.cell? ⟨ab, ao + k * 7, none⟩ = some (.int .i64 op) ∧ w'.cell? ⟨ab, ao + k * 7 + 1, none⟩ = some (.int .i64 kd) ∧ w'.cell? ⟨ab, ao + k * 7 + 2, none⟩ = some (.slice A1 args.length c1) ∧ w'.cell? ⟨ab, ao + k * 7 + 3, none⟩ = some (.int .i64 vk) ∧ w'.cell? ⟨ab, ao + k * 7 + 4, none⟩ = some (.int .u64 (vb : Int)) ∧ w'.cell? ⟨ab, ao + k * 7 + 5, none⟩ = some (.int .i64 pos) ∧ w'.cell? ⟨ab, ao + k * 7 + 6, none⟩ = some (.int .i64 attr) ∧
            w'.cell? ⟨bb, bo + k * 7, none⟩ = some (.int .i64 op) ∧ w'.cell? ⟨bb, bo + k * 7 + 1, none⟩ = some (.int .i64 kd) ∧ w'.cell? ⟨bb, bo + k * 7 + 2, none⟩ = some (.slice B1 args.length d1) ∧ w'.cell? ⟨bb, bo + k * 7 + 3, none⟩ = some (.int .i64 vk) ∧ w'.cell? ⟨bb, bo + k * 7 + 4, none⟩ = some (.int .u64 (vb : Int)) ∧ w'.cell? ⟨bb, bo + k * 7 + 5, none⟩ = some (.int .i64 pos) ∧ w'.cell? ⟨bb, bo + k * 7 + 6, none⟩ = some (.int .i64 attr)) (first | exact ⟨a0, a1, a2, a3, a4, a5, a6, b0, b1, b2, b3, b4, b5, b6⟩ | exact keep14 (wr := wr) (by first | exact (m1 _ _).drew | exact (m2 _ _ _).drew) ⟨a0, a1, a2, a3, a4, a5, a6, b0, b1, b2, b3, b4, b5, b6⟩) (fail)
          all_goals go_wp2_with fail
          all_goals go_meet
          all_goals first | exact ⟨_, _, rfl, rfl, (two_made wr _ _ _).1, (two_made wr _ _ _).2, (m2 wr _ _).drew⟩ | exact ⟨_, _, rfl, rfl, (two_made wr _ _ _).2, (two_made wr _ _ _).1, (m2 wr _ _).drew⟩
        case rest =>
          obtain ⟨g, h, rfl, rfl, bg, bh, hBc⟩ := hcut
          have hWc := Lib.hid (mmore hW.out hBc)
          have p0 := bg.cell 0
          have p1 := bg.cell 1
          have p2 := bg.cell 2
          have p3 := bg.cell 3
          have p4 := bg.cell 4
          have p5 := bg.cell 5
          have p6 := bg.cell 6
          have q0 := bh.cell 0
          have q1 := bh.cell 1
          have q2 := bh.cell 2
          have q3 := bh.cell 3
          have q4 := bh.cell 4
          have q5 := bh.cell 5
          have q6 := bh.cell 6
          simp only [List.getElem?_toArray, List.getElem?_cons_zero, List.getElem?_cons_succ] at p0 p1 p2 p3 p4 p5 p6 q0 q1 q2 q3 q4 q5 q6
          clear a0 a1 a2 a3 a4 a5 a6 b0 b1 b2 b3 b4 b5 b6 bg bh hBc hW
          go_wp2_with fail
          refine (IH.out _ hWc.out).mono ?_; rintro e w5 ⟨rfl, hb5⟩
          have hW5 := mmore hWc.out hb5
          clear p0 p1 p2 p3 p4 p5 p6 q0 q1 q2 q3 q4 q5 q6 hb5 hWc
          go_wp2
          go_roundw
          case rel => exact ⟨k + 1, by omega, by go_num, hW5⟩
          case measure => simp [intOf]; omega
      · obtain rfl : k = l.length := by omega
        have li : ¬ (l.length : Int) < (l.length : Int) := by omega
        go_wp2
        go_ret
        exact ⟨rfl, hW⟩
end Go.Proofs.Ytfjnphiegoogoaa
