/- What Decode answers and Encode of it, as plain functions; the chapter's example (awake). -/
import Derived.Test.YtlfhgmoafgjdcaaImH
namespace Go.Proofs.Ytlfhgmoafgjdcaa
open Go.ChangeShapes Go.WideShapes Go.ChangeAt Go.RowKit
set_option linter.unusedVariables false
set_option linter.unusedSimpArgs false
theorem decB_cases (y : Option (TTable × List Nat)) : (decB y = (32, none)) ∨ ∃ x, y = some (x, []) ∧ decB y = (0, some x) := by
  rcases y with _ | ⟨x, _ | ⟨a, r⟩⟩
  · exact .inl rfl
  · exact .inr ⟨x, rfl, rfl⟩
  · exact .inl rfl
theorem decP_cases (l : List Nat) : (∃ k, decP l = (k, none) ∧ k ≠ 0 ∧ (Lit.int .i64 k).wf = true) ∨ ∃ x, decP l = (0, some x) ∧ ¬ 65536 < l.length ∧ ¬ l.length < 8 ∧ l.take 4 = ausp ∧ l.drop (l.length - 4) = le4 (sumL (l.take (l.length - 4))) ∧ rdTable (bodyL l) = some (x, []) := by
  unfold decP
  by_cases h1 : 65536 < l.length
  · rw [if_pos h1]; exact .inl ⟨2, rfl, by decide, by decide⟩
  rw [if_neg h1]
  by_cases h2 : l.length < 8
  · rw [if_pos h2]; exact .inl ⟨30, rfl, by decide, by decide⟩
  rw [if_neg h2]
  by_cases h3 : l.take 4 = ausp
  · rw [if_pos h3]
    by_cases h4 : l.drop (l.length - 4) = le4 (sumL (l.take (l.length - 4)))
    · rw [if_pos h4]
      rcases decB_cases (rdTable (bodyL l)) with h | ⟨x, hx, h⟩
      · exact .inl ⟨32, h, by decide, by decide⟩
      · exact .inr ⟨x, h, h1, h2, h3, h4, hx⟩
    · rw [if_neg h4]; exact .inl ⟨31, rfl, by decide, by decide⟩
  · rw [if_neg h3]; exact .inl ⟨32, rfl, by decide, by decide⟩
/-- what was read is written as what was read -/
theorem decP_back {l : List Nat} {x : TTable} (hl : Byt l) (h : decP l = (0, some x)) : encP x = (0, some l) ∧ (∀ i ∈ iTable x, okI i = true) ∧ ∀ i ∈ iTable x, wfI i := by
  rcases decP_cases l with ⟨k, hk, h0, _⟩ | ⟨y, hy, h1, h2, h3, h4, hx⟩
  · rw [hk] at h; cases h
  rw [hy] at h
  obtain rfl : y = x := by simpa using h
  have hby : Byt (bodyL l) := fun z hz => hl z (List.mem_of_mem_take (List.mem_of_mem_drop hz))
  obtain ⟨e1, e2⟩ := fw_Table.fit.back _ _ _ hby hx
  rw [List.append_nil] at e1
  obtain ⟨b, r1, r2, _, _⟩ := runW_ok (iTable y) ausp e2
  have e5 : ausp ++ bodyL l = l.take (l.length - 4) := by
    have : (l.take (l.length - 4)).take 4 = ausp := by rw [List.take_take, Nat.min_eq_left (by omega), h3]
    unfold bodyL
    rw [← this]
    exact List.take_append_drop 4 _
  have hlen : (l.take (l.length - 4)).length = l.length - 4 := by rw [List.length_take]; omega
  rw [e1, e5] at r2
  have r3 := r2 (by omega)
  refine ⟨?_, fun i hi => List.all_eq_true.1 e2 i hi, fw_Table.wf hby hx⟩
  unfold encP
  rw [r1, r3]
  show (if 65536 < (l.take (l.length - 4)).length + 4 then _ else _) = _
  rw [if_neg (by omega), ← h4, List.take_append_drop]
theorem off_new (tys : List TypeId) (w : World) : Off tys w w.heap.size := fun T _ h => absurd h.lt (by omega)
/-- what was read lies, in a block of its own, as what is to be written -/
theorem lies_againU {w u : World} {vs : List Value} {x : TTable} (h : eTable w vs x) (hb : Below w.heap.size w u) (hok : ∀ n, Itm.c n ∈ iTable x → n ≤ 1048576) : pTable (u.heap.size + 1) (u.alloc (.cells vs.toArray 27)) u.heap.size 0 x := by
  have hk := keep_Table w (u.alloc (.cells vs.toArray 27)) w.heap.size w.heap.size vs x h (RFr.of_below (mmore hb (m1 u _)) _ _) (off_new _ _) (off_new _ _)
  have := br_Table (u.alloc (.cells vs.toArray 27)) u.heap.size 0 vs x hk (fun j v hj => by
    rw [Nat.zero_add, (Blk.made u _ _).cell, ← Array.getElem?_toList]
    exact hj) hok
  rwa [show (u.alloc (.cells vs.toArray 27)).heap.size = u.heap.size + 1 by simp] at this
theorem cnt_ok {x : TTable} (hok : ∀ i ∈ iTable x, okI i = true) : ∀ n, Itm.c n ∈ iTable x → n ≤ 1048576 := fun n hn => by
  have := hok _ hn
  simp only [okI, decide_eq_true_eq] at this
  omega
theorem lies_again {w u : World} {vs : List Value} {x : TTable} (h : eTable w vs x) (hb : Below w.heap.size w u) (hok : ∀ i ∈ iTable x, okI i = true) : pTable (u.heap.size + 1) (u.alloc (.cells vs.toArray 27)) u.heap.size 0 x := lies_againU h hb (cnt_ok hok)
def xA : TTable := ((3, [], [], 0, 1, 1), [], [])
def imgA : List Nat := [65, 85, 83, 80, 6, 0, 0, 0, 2, 2, 0, 0]
theorem iA : iTable xA = [.n 3, .c 0, .c 0, .n 0, .n 1, .n 1, .c 0, .c 0] := by simp [iTable, xA, iInt, itL]
theorem encA : runW ausp (iTable xA) = some imgA := by
  have u0 : uintL (zig 0) = [0] := by rw [show zig 0 = 0 by decide, uintL_small (by decide)]
  have u3 : uintL (zig 3) = [6] := by rw [show zig 3 = 6 by decide, uintL_small (by decide)]
  have u1 : uintL (zig 1) = [2] := by rw [show zig 1 = 2 by decide, uintL_small (by decide)]
  rw [iA]
  simp [runW, putW, okI, encI, u0, u1, u3, ausp, imgA]
def lA : List Nat := imgA ++ le4 (sumL imgA)
theorem lA_len : lA.length = 16 := rfl
theorem encA' : encP xA = (0, some lA) := by unfold encP; rw [encA]; rfl
theorem imgA_byt : Byt imgA := fun c hc => by simp [imgA] at hc; omega
theorem lA_byt : Byt lA := fun c hc => by
  rcases List.mem_append.1 hc with h | h
  · exact imgA_byt c h
  · exact le4_byt _ c h
theorem rdA : rdTable (bodyL lA) = some (xA, []) := by
  have : bodyL lA = [6, 0, 0, 0, 2, 2, 0, 0] := rfl
  rw [this]
  rfl
theorem decA : decP lA = (0, some xA) := by
  unfold decP
  rw [if_neg (by rw [lA_len]; decide), if_neg (by rw [lA_len]; decide), if_pos (by rfl), if_pos (by rw [lA_len]; show (imgA ++ le4 (sumL imgA)).drop 12 = le4 (sumL ((imgA ++ le4 (sumL imgA)).take 12)); rw [show (12 : Nat) = imgA.length from rfl, List.drop_left, List.take_left]), rdA]
  rfl
theorem wfA : ∀ i ∈ iTable xA, wfI i := (decP_back lA_byt decA).2.2
/-- eight values of a table, and its numbers -/
theorem eTable_nums {w : World} {z0 z3 z4 z5 : Int} {v1 v2 v6 v7 : Value} {x : TTable} (h : eTable w [.int .i64 z0, v1, v2, .int .i64 z3, .int .i64 z4, .int .i64 z5, v6, v7] x) : z0 = x.1.1 ∧ z5 = x.1.2.2.2.2.2 := by
  obtain ⟨_, _, e1, ⟨_, _, rfl, rfl, _, _, rfl, ⟨q1, rfl, A1, c1, _, rfl, _⟩, _, _, rfl, ⟨q2, rfl, A2, c2, _, rfl, _⟩, _, _, rfl, rfl, _, _, rfl, rfl, rfl⟩, _, _, rfl, ⟨q6, rfl, A6, c6, _, rfl, _⟩, ⟨q7, rfl, A7, c7, _, rfl, _⟩⟩ := h
  simp at e1
  exact ⟨e1.1, by simp [e1]⟩
set_option maxHeartbeats 8000000 in
set_option maxRecDepth 1000000 in
theorem awake21 (w : World) : Calls Try.prog 8 #[] w fun e w' => e = .returned (.bool true) ∧ Below w.heap.size w w' := by
  have C1 := fun (u : World) (hu : pTable (u.heap.size + 1) (u.alloc (.cells #[.int .i64 3, .slice none 0 0, .slice none 0 0, .int .i64 0, .int .i64 1, .int .i64 1, .slice none 0 0, .slice none 0 0] 27)) u.heap.size 0 xA) => encode_any xA 3 none 0 0 none 0 0 0 1 1 none 0 0 none 0 0 u hu wfA
  have hp : ∀ u : World, pTable (u.heap.size + 1) (u.alloc (.cells #[.int .i64 3, .slice none 0 0, .slice none 0 0, .int .i64 0, .int .i64 1, .int .i64 1, .slice none 0 0, .slice none 0 0] 27)) u.heap.size 0 xA := by
    intro u
    have hB := Blk.made u 27 #[.int .i64 3, .slice none 0 0, .slice none 0 0, .int .i64 0, .int .i64 1, .int .i64 1, .slice none 0 0, .slice none 0 0]
    have ha : ∀ {X : Type} (P : World → Nat → Nat → X → Prop) (sz base : Nat) (o : Nat), (u.alloc (.cells #[.int .i64 3, .slice none 0 0, .slice none 0 0, .int .i64 0, .int .i64 1, .int .i64 1, .slice none 0 0, .slice none 0 0] 27)).cell? ⟨u.heap.size, o, none⟩ = some (.slice none 0 0) → LField P sz base (u.alloc (.cells #[.int .i64 3, .slice none 0 0, .slice none 0 0, .int .i64 0, .int .i64 1, .int .i64 1, .slice none 0 0, .slice none 0 0] 27)) u.heap.size o [] := fun P sz base o h => ⟨none, 0, h, fun hh => by simp at hh, by simp⟩
    exact ⟨hB.cell 0, ha _ _ _ 1 (hB.cell 1), ha _ _ _ 2 (hB.cell 2), hB.cell 3, hB.cell 4, hB.cell 5, ha _ _ _ 6 (hB.cell 6), ha _ _ _ 7 (hB.cell 7)⟩
  replace C1 := Lib.hid fun u => C1 u (hp u)
  clear hp
  have hm1 := Lib.hid (m1 w (.cells #[.int .i64 3, .slice none 0 0, .slice none 0 0, .int .i64 0, .int .i64 1, .int .i64 1, .slice none 0 0, .slice none 0 0] 27))
  go_enter Try.func8, Try.ntmps8
  go_wp2_with fail
  refine (C1.out _).mono ?_
  rintro e w1 ⟨hb1, v, rfl, hv⟩
  rw [encA'] at hv
  obtain ⟨A, c, rfl, hO⟩ := hv
  obtain ⟨hl0, hy⟩ := Bys.of_own hO
  obtain ⟨_, _, hq, hc, _⟩ := bslice_of hO
  injection hq with q1 q2 q3
  subst q1 q3
  rw [show (encP xA).1 = 0 by rw [encA']] at *
  rw [lA_len] at *
  have hB2 := Lib.hid (mmore hm1.out hb1)
  have D1 := fun (u : World) (h : Below w1.heap.size w1 u) => decode_any A lA c u lA_byt (hy.later h) (by rw [lA_len]; exact hc) (by rw [lA_len]; decide)
  rw [lA_len] at D1
  have hcv := fun (u : World) (h : Below w1.heap.size w1 u) => conv_pre (k := 12) (c := c) (l' := imgA) (by rw [lA_len]; decide) (by show (imgA ++ le4 (sumL imgA)).take 12 = imgA; rw [show (12 : Nat) = imgA.length from rfl, List.take_left]) (hy.later h)
  rw [show strOf imgA = ⟨#[65, 85, 83, 80, 6, 0, 0, 0, 2, 2, 0, 0]⟩ from rfl] at hcv
  replace D1 := Lib.hid D1
  replace hcv := Lib.hid hcv
  clear hO hy hb1 hm1 C1 hl0
  have hbd := Lib.hid (Below.refl w1.heap.size w1)
  clear q2
  go_wp2_with fail
  refine (D1.out _ hbd.out).mono ?_
  rintro e w2 ⟨hb2, tv, rfl, ht⟩
  rw [decA] at ht
  obtain ⟨vs, hvl, hE, rfl⟩ := ht
  rw [show (decP lA).1 = 0 by rw [decA]]
  obtain ⟨z0, A1, n1, c1, A2, n2, c2, z3, z4, z5, A6, n6, c6, A7, n7, c7, rfl⟩ := eTable_form hE
  obtain ⟨y0, y5⟩ := eTable_nums hE
  replace y0 : z0 = 3 := y0
  replace y5 : z5 = 1 := y5
  subst y0 y5
  have hb3 := mmore hb2 (m1 w2 (.cells #[.int .i64 3, .slice A1 n1 c1, .slice A2 n2 c2, .int .i64 z3, .int .i64 z4, .int .i64 1, .slice A6 n6 c6, .slice A7 n7 c7] 27))
  have q := hcv.out _ hb3
  have hB3 := mmore hB2.out hb3
  replace hB3 := Lib.hid hB3
  clear hE hvl hb2 hb3 hB2 hcv D1
  go_wp2
  go_ret
  exact ⟨rfl, hB3.out⟩
end Go.Proofs.Ytlfhgmoafgjdcaa
