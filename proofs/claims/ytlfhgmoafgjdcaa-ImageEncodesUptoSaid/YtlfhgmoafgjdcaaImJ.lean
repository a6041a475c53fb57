/- Bytes put on to a constant's; the document's Summed, as a contract. -/
import Derived.Test.YtlfhgmoafgjdcaaImI
namespace Go.Proofs.Ytlfhgmoafgjdcaa
open Go.ChangeShapes Go.WideShapes Go.ChangeAt Go.RowKit
set_option linter.unusedVariables false
set_option linter.unusedSimpArgs false
/-- any bytes, put on to a constant's -/
theorem run_append_C {w : World} {ad : Addr} {bs news : List Nat} (h : Bys w (some ad) bs) (h0 : 0 < bs.length) (A : Option Addr) (c : Nat) (hA : Bys w A news) (hl : bs.length + news.length ≤ 140737488355328) :
    ∃ A' c' w', (Builtin.append_ #[31, 31] 31 #[.slice (some ad) bs.length bs.length, .slice A news.length c]).run Try.prog w = .ok (.slice A' (bs ++ news).length c') w' ∧ (bs ++ news).length ≤ c' ∧ Bys w' A' (bs ++ news) ∧ Below w.heap.size w w' := by
  obtain ⟨i0, hi, hz0, hz1, hz2⟩ := info_parts infoB
  by_cases hn : 0 < news.length
  · obtain ⟨ad', e, _, hc⟩ := h.2 h0
    injection e with e
    subst e
    obtain ⟨v', w', hr, ho, hb, _⟩ := run_append_W (base := w.heap.size) hi hz0 hz1 hz2 (.inr ⟨ad, rfl, h0, hc, by unfold maxLen; omega⟩) A c hA hn hl (Nat.le_refl _)
    obtain ⟨A', c', rfl, hc', _⟩ := bslice_of ho
    exact ⟨A', c', w', hr, hc', (Bys.of_own ho).2, hb⟩
  · obtain rfl : news = [] := List.length_eq_zero_iff.1 (by omega)
    refine ⟨some ad, bs.length, w, ?_, by simp, by simpa using h, Below.refl _ _⟩
    rw [List.append_nil]
    cases A with
    | none => simp [Builtin.append_, run_underlying Try.underlying31, sizeOf, typeInfo, hi, Builtin.lenOf, Builtin.firstCells, storeCells]
    | some a1 => simp [Builtin.append_, run_underlying Try.underlying31, sizeOf, typeInfo, hi, Builtin.lenOf, Builtin.firstCells, storeCells, loadCells, loadCellsFrom]
theorem wpList_append_C {w : World} {ops : Array Oper} {rest : List Oper} {o : Oper} {a : Act} {Q : Exit → Act → World → Prop} (hgd : o.guard = none) (s x : Operand)
    (ho : o.op = .call { callee := .builtin .append, args := #[s, x], argTypes := #[31, 31] }) (hty : o.type = 31) {ad : Addr} {bs news : List Nat} (n m : Nat) (hn : n = bs.length) (hm : m = news.length)
    (hs : a.eval s = .slice (some ad) n n) (A : Option Addr) (c : Nat) (hx : a.eval x = .slice A m c)
    (h : Bys w (some ad) bs) (h0 : 0 < bs.length) (hA : Bys w A news) (hl : bs.length + news.length ≤ 140737488355328)
    (hK : ∀ A' c' w', (bs ++ news).length ≤ c' → Bys w' A' (bs ++ news) → Below w.heap.size w w' → wpList Try.prog ops Q rest (a.put o.dst (.slice A' (bs ++ news).length c')) w') : wpList Try.prog ops Q (o :: rest) a w := by
  subst hn hm
  refine wpList_plain hgd fun K hK2 => ?_
  obtain ⟨A', c', w', hrun, k1, k2, k3⟩ := run_append_C h h0 A c hA hl
  unfold Oper.wp execOp
  simp only [ho, hty, resolve, invoke, builtin, Sem.run_bind, Sem.run_pure, Result.andThen_ok, List.map_toArray, List.map_cons, List.map_nil, hs, hx, hrun]
  exact hK2 _ _ (hK A' c' w' k1 k2 k3)
theorem bys_lit (w : World) (l : List Nat) (cs : Array Value) (h : cs.toList = bcells l) : Bys (w.alloc (.cells cs 5)) (some ⟨w.heap.size, 0, none⟩) l := by
  refine ⟨by rw [bcells_length, Nat.mul_one], fun hl => ⟨_, rfl, by simp, fun j u hu => ?_⟩⟩
  have hadd : (⟨w.heap.size, 0, none⟩ : Addr).add j = ⟨w.heap.size, j, none⟩ := by unfold Addr.add; split <;> simp_all
  rw [hadd, (Blk.made w _ cs).cell, ← Array.getElem?_toList, h, hu]
theorem reads_lit (w : World) (l : List Nat) (n : Nat) (hn : l.length = n) (cs : Array Value) (h : cs.toList = bcells l) : Reads (w.alloc (.cells cs 5)) (w.heap.size + 1) 1 (some ⟨w.heap.size, 0, none⟩) n (bcells l) := by
  have := bys_lit w l cs h
  unfold Bys at this
  rwa [show (w.alloc (.cells cs 5)).heap.size = w.heap.size + 1 by simp, hn] at this
set_option maxHeartbeats 4000000 in
set_option maxRecDepth 100000 in
theorem summed_any (A : Option Addr) (l : List Nat) (c : Nat) (hl : Byt l) (w : World) (h : Bys w A l) (hlen : l.length ≤ 140737488354000) : Calls Try.prog 28 #[.slice A l.length c] w (OwnB w.heap.size w (l ++ le4 (sumL l))) := by
  obtain ⟨i0, hi, hz0, hz1, hz2⟩ := info_parts infoB
  have C := rsum_any A l c hl w h (by omega)
  have hs : sumL l < 4294967296 := sumL_lt hl
  have h4 : (le4 (sumL l)).length = 4 := rfl
  have e1 : bcells (le4 (sumL l)) = [Value.int IntKind.u8 ((sumL l : Int) % 256), Value.int IntKind.u8 ((sumL l : Int) / 256 % 256), Value.int IntKind.u8 ((sumL l : Int) / 65536 % 256), Value.int IntKind.u8 ((sumL l : Int) / 16777216)] := by
    have : (sumL l : Int) / 16777216 = ((sumL l / 16777216 % 256 : Nat) : Int) := by omega
    rw [this]
    rfl
  generalize le4 (sumL l) = z at *
  generalize sumL l = x at *
  replace C := Lib.hid C
  replace e1 := Lib.hid e1
  have x0 : (0 : Int) ≤ (x : Int) := by omega
  have hO := World.ownsRow_lit (base := w.heap.size) (e := 5) (size := 1) w #[] 0 (Nat.le_refl _) (by unfold maxLen; omega) rfl
  have hR := Lib.hid (Reads.alloc h (Nat.le_refl _) (.cells #[] 5))
  have l1 : 0 + l.length ≤ maxLen := by unfold maxLen; omega
  have l2 : (0 + l.length) * 1 ≤ 140737488355328 := by omega
  have hB := m1 w (.cells #[] 5)
  clear h
  go_enter Try.func28, Try.ntmps28
  go_wp2_with fail
  refine C.out.mono ?_; rintro e u ⟨rfl, rfl⟩
  go_wp2_with (at_builtin; first
    | (refine wpList_append_any _ rfl (.tmp 6) (.tmp 7) 31 rfl w.heap.size 5 i0 (.int .u8 0) 1 1 Try.underlying31 hi hz0 hz1 hz2 rfl (by decide) _ 0 [] rfl hO w.heap.size A l.length c (bcells l) rfl hR.out (bcells_one _) l1 l2 (by simp) ?_; intro v' w4 hO4 hgrow _; have hB4 := bbelow_grown hB (Nat.le_refl _) hO hgrow; clear hgrow; rw [Nat.zero_add, List.nil_append] at hO4; obtain ⟨A4, c4, rfl, _, _⟩ := bslice_of hO4; have hlt := e1.out; have hR4 := Lib.hid (reads_lit w4 z 4 h4 #[Value.int IntKind.u8 ((x : Int) % 256), Value.int IntKind.u8 ((x : Int) / 256 % 256), Value.int IntKind.u8 ((x : Int) / 65536 % 256), Value.int IntKind.u8 ((x : Int) / 16777216)] hlt.symm); have hO5 := Lib.hid (mown_below hO4 (m1 w4 (.cells #[Value.int IntKind.u8 ((x : Int) % 256), Value.int IntKind.u8 ((x : Int) / 256 % 256), Value.int IntKind.u8 ((x : Int) / 65536 % 256), Value.int IntKind.u8 ((x : Int) / 16777216)] 5))); have hB5 := Lib.hid (mmore hB4 (m1 w4 (.cells #[Value.int IntKind.u8 ((x : Int) % 256), Value.int IntKind.u8 ((x : Int) / 256 % 256), Value.int IntKind.u8 ((x : Int) / 65536 % 256), Value.int IntKind.u8 ((x : Int) / 16777216)] 5))); have hz4 := hB4.size; clear hO4 hB4 hlt)
    | (refine wpList_append_any _ rfl (.tmp 8) (.tmp 23) 31 rfl w.heap.size 5 i0 (.int .u8 0) 1 1 Try.underlying31 hi hz0 hz1 hz2 rfl (by decide) _ l.length (bcells l) rfl hO5.out (w4.heap.size + 1) (some ⟨w4.heap.size, 0, none⟩) 4 4 (bcells z) rfl hR4.out (bcells_one _) (by unfold maxLen; omega) (by omega) (by simp; omega) ?_; intro v' w6 hO6 hgrow _; have hB6 := Lib.hid (bbelow_grown hB5.out (Nat.le_refl _) hO5.out hgrow); replace hO6 := Lib.hid hO6; clear hgrow))
  go_ret
  have hO7 := hO6.out
  obtain ⟨A7, c7, rfl, _, _⟩ := bslice_of hO7
  have e7 : (l.length + 4 : Nat) = (l ++ z).length := by rw [List.length_append, h4]
  rw [e7, ← bcells_append] at hO7
  rw [e7]
  exact ⟨A7, c7, rfl, hO7, hB6.out⟩
end Go.Proofs.Ytlfhgmoafgjdcaa
