/- The program's reader: what gives up is caught, and the reader stays where it was, as contracts. -/
import Derived.Test.YtlfhgmoafgjdcaaWrC
namespace Go.Proofs.Ytlfhgmoafgjdcaa
open Go.ChangeShapes Go.WideShapes Go.ChangeAt Go.RowKit
set_option linter.unusedVariables false
set_option linter.unusedSimpArgs false

set_option maxRecDepth 100000 in
theorem idle_u (w : World) :
    CallsD Try.prog 168 #[] .returning w fun e u' w' => e = .returned (.tuple #[]) ∧ u' = .returning ∧ w' = w := by
  refine callsD_of_wpS Try.func168 rfl fun c₀ cs hu => ?_
  apply wpS_seq
  apply wpS_region
  simp [wpOpsS, go_sem, recoverD, hu, Try.ntmps168, Exit.thenS]
  refine wpS_of_wp ?_
  have he : ∀ w, (binOp .eql 20 .nilIface .nilIface).run Try.prog w = .ok (.bool true) w := fun w => rfl
  go_wp2
  cases c₀
  simp_all [bodyPostS, results, Try.results168]
set_option maxRecDepth 100000 in
theorem gone_u (w : World) :
    CallsD Try.prog 168 #[] (.panicking [noneP]) w fun e u' w' => e = .returned (.tuple #[]) ∧ u' = .panicking [{ noneP with recovered := true }] ∧ w' = w := by
  refine callsD_of_wpS Try.func168 rfl fun c₀ cs hu => ?_
  apply wpS_seq
  apply wpS_region
  simp [wpOpsS, go_sem, recoverD, hu, Try.ntmps168, Exit.thenS, noneP]
  refine wpS_of_wp ?_
  have he : ∀ w, (binOp .eql 20 (.iface 233 (.agg #[])) .nilIface).run Try.prog w = .ok (.bool false) w := fun w => rfl
  have he2 : ∀ w, (binOp .eql 20 (.iface 233 (.agg #[])) (.iface 233 (.agg #[]))).run Try.prog w = .ok (.bool true) w := fun w => rfl
  go_wp2
  cases c₀
  simp_all [bodyPostS, results, Try.results168]
set_option maxRecDepth 100000 in
theorem idle_i (w : World) :
    CallsD Try.prog 173 #[] .returning w fun e u' w' => e = .returned (.tuple #[]) ∧ u' = .returning ∧ w' = w := by
  refine callsD_of_wpS Try.func173 rfl fun c₀ cs hu => ?_
  apply wpS_seq
  apply wpS_region
  simp [wpOpsS, go_sem, recoverD, hu, Try.ntmps173, Exit.thenS]
  refine wpS_of_wp ?_
  have he : ∀ w, (binOp .eql 20 .nilIface .nilIface).run Try.prog w = .ok (.bool true) w := fun w => rfl
  go_wp2
  cases c₀
  simp_all [bodyPostS, results, Try.results173]
set_option maxRecDepth 100000 in
theorem gone_i (w : World) :
    CallsD Try.prog 173 #[] (.panicking [noneP]) w fun e u' w' => e = .returned (.tuple #[]) ∧ u' = .panicking [{ noneP with recovered := true }] ∧ w' = w := by
  refine callsD_of_wpS Try.func173 rfl fun c₀ cs hu => ?_
  apply wpS_seq
  apply wpS_region
  simp [wpOpsS, go_sem, recoverD, hu, Try.ntmps173, Exit.thenS, noneP]
  refine wpS_of_wp ?_
  have he : ∀ w, (binOp .eql 20 (.iface 233 (.agg #[])) .nilIface).run Try.prog w = .ok (.bool false) w := fun w => rfl
  have he2 : ∀ w, (binOp .eql 20 (.iface 233 (.agg #[])) (.iface 233 (.agg #[]))).run Try.prog w = .ok (.bool true) w := fun w => rfl
  go_wp2
  cases c₀
  simp_all [bodyPostS, results, Try.results173]

/-- how a read ends -/
def ReadIs (g B : Nat) (x : Option (Value × List Nat)) (z : Value) (l : List Nat) (w : World) (e : Ending) (w' : World) : Prop :=
  w.grownBy w' (some g) ∧ match x with
  | some (v, r) => e = .returned (.tuple #[v, .bool true]) ∧ Rdr w' g B r
  | none => e = .returned (.tuple #[z, .bool false]) ∧ Rdr w' g B l
theorem Rdr.ahead {w : World} {g B : Nat} {l : List Nat} (h : Rdr w g B l) : ∃ A c, w.cell? ⟨g, 0, none⟩ = some (.slice A l.length c) ∧ w.frozen? ⟨g, 0, none⟩ = false ∧ Rdr (w.alloc (.cells #[.slice A l.length c] 109)) w.heap.size B l := by
  obtain ⟨A, c, h1, h2, h3, h4⟩ := h
  refine ⟨A, c, by rw [h1.cell]; rfl, h1.free 0, A, c, Blk.made w _ _, h2, h3, fun hl => ?_⟩
  obtain ⟨a1, ad, a2, a3, a4⟩ := h4 hl
  have hlt := mblock (a4 0 _ (List.getElem?_eq_getElem hl))
  rw [block_of_add] at hlt
  exact ⟨by omega, ad, a2, a3, fun j c hj => mlater (m1 w _) (a4 j c hj)⟩
/-- what was read with the reader ahead is left to the one behind -/
theorem Rdr.take_over {w w1 : World} {g B : Nat} {l r : List Nat} {o : Obj} (h : Rdr w g B l) (h1 : Rdr w1 w.heap.size B r) (hr : r.length ≤ l.length) (hg : (w.alloc o).grownBy w1 (some w.heap.size)) :
    ∃ A c, w1.cell? ⟨w.heap.size, 0, none⟩ = some (.slice A r.length c) ∧ w1.frozen? ⟨g, 0, none⟩ = false ∧ (∃ v, w1.cell? ⟨g, 0, none⟩ = some v) ∧ Rdr (w1.setCell ⟨g, 0, none⟩ (.slice A r.length c)) g B r ∧ w.grownBy (w1.setCell ⟨g, 0, none⟩ (.slice A r.length c)) (some g) := by
  have hgl := h.lt
  obtain ⟨A0, c0, a1, a2, a3, a4⟩ := h
  obtain ⟨A, c, b1, b2, b3, b4⟩ := h1
  have k1 : Blk w1 g 109 #[.slice A0 l.length c0] := by
    have k0 : Blk (w.alloc o) g 109 #[.slice A0 l.length c0] := a1.kept (m1 w o)
    exact k0.grown hg (by simp; omega)
  have b5 : RdAt w1 g B A r := fun hl => ⟨(a4 (by omega)).1, (b4 hl).2⟩
  refine ⟨A, c, by rw [b1.cell]; rfl, k1.free 0, ⟨_, by rw [k1.cell]; rfl⟩, ⟨A, c, k1.put_ 0 _, b2, b3, b5.setCell (p := ⟨g, 0, none⟩) rfl _⟩, ?_⟩
  exact mgrown ⟨hg.os, hg.tape, hg.output, by have := hg.size; simp at this; omega, fun k hk hne => (hg.block k (by simp; omega) (by simp; omega)).trans (heap_alloc_old w o hk)⟩ (mset w1 _ _) (fun k hk => .inl hk)
theorem Rdr.stays {w w1 : World} {g B : Nat} {l : List Nat} {o : Obj} (h : Rdr w g B l) (hg : (w.alloc o).grownBy w1 (some w.heap.size)) : Rdr w1 g B l ∧ w.grownBy w1 (some g) := by
  have hb : Below w.heap.size w w1 := (m1 w o).grown hg (by simp) (fun j ej => by injection ej with ej; omega)
  exact ⟨h.later hb, mgrows hb _⟩
theorem numOf_le {l r : List Nat} {v : Value} (h : numOf l = some (v, r)) : r.length ≤ l.length := by
  unfold numOf at h
  obtain ⟨x, _, hx⟩ := Option.map_eq_some_iff.1 h
  injection hx with _ hx
  subst hx
  rw [List.length_drop]
  omega
theorem intOfL_le {l r : List Nat} {v : Value} (h : intOfL l = some (v, r)) : r.length ≤ l.length := by
  unfold intOfL at h
  obtain ⟨x, _, hx⟩ := Option.map_eq_some_iff.1 h
  injection hx with _ hx
  subst hx
  rw [List.length_drop]
  omega
/-- a number with a sign, from one to another -/
def uptoL (a b : Int) (l : List Nat) : Option (Value × List Nat) := (firstW l).bind fun x => if zag x.1 < a ∨ b < zag x.1 then none else some (.int .i64 (zag x.1), l.drop x.2)
theorem uptoL_le {a b : Int} {l r : List Nat} {v : Value} (h : uptoL a b l = some (v, r)) : r.length ≤ l.length := by
  unfold uptoL at h
  obtain ⟨x, _, hx⟩ := Option.bind_eq_some_iff.1 h
  split at hx
  · cases hx
  · injection hx with hx
    injection hx with _ hx
    subst hx
    rw [List.length_drop]
    omega

set_option maxHeartbeats 4000000 in
set_option maxRecDepth 100000 in
/-- the closure of Upto -/
theorem upto1_any (g B : Nat) (l : List Nat) (hl : Byt l) (w : World) (h : Rdr w g B l) (p q : Nat) (a b : Int) (hp : w.cell? ⟨p, 0, none⟩ = some (.int .i64 a)) (hq : w.cell? ⟨q, 0, none⟩ = some (.int .i64 b)) (np : p ≠ g) (nq : q ≠ g) :
    Calls Try.prog 171 #[.pointer (some ⟨g, 0, none⟩), .pointer (some ⟨p, 0, none⟩), .pointer (some ⟨q, 0, none⟩)] w (NumEnd g B (uptoL a b l) w) := by
  have C := signed_any g B l hl w h
  have hc : ∀ w1, w.grownBy w1 (some g) → w1.cell? ⟨p, 0, none⟩ = some (.int .i64 a) ∧ w1.cell? ⟨q, 0, none⟩ = some (.int .i64 b) := fun w1 hg => ⟨hg.cell hp (fun e => np (by injection e)), hg.cell hq (fun e => nq (by injection e))⟩
  replace hc := Lib.hid hc
  unfold intOfL at C
  unfold uptoL
  cases hf : firstW l with
  | none =>
    rw [hf] at C
    replace C := Lib.hid C
    clear hf hp hq np nq
    go_enter Try.func171, Try.ntmps171
    go_wp2_with fail
    refine C.out.mono ?_
    rintro e w1 ⟨h1, rfl, h3⟩
    replace h1 := Lib.hid h1
    replace h3 := Lib.hid h3
    go_wp2
    exact ⟨rfl, h1.out, rfl, h3.out⟩
  | some x =>
    obtain ⟨n, k⟩ := x
    rw [hf] at C
    have hn := zag_in (first_back hl hf).2.2.2.2
    replace C := Lib.hid C
    clear hf hp hq np nq
    show Calls _ _ _ _ (NumEnd g B (if zag n < a ∨ b < zag n then none else some (.int .i64 (zag n), l.drop k)) w)
    change Hid (Calls _ _ _ _ (NumEnd g B (some (.int .i64 (zag n), l.drop k)) w)) at C
    generalize zag n = z at *
    by_cases h1 : z < a
    · rw [if_pos (.inl h1)]
      go_enter Try.func171, Try.ntmps171
      go_wp2_with fail
      refine C.out.mono ?_
      rintro e w1 ⟨h1, rfl, h3⟩
      obtain ⟨c1, c2⟩ := hc.out w1 h1
      replace h1 := Lib.hid h1
      replace h3 := Lib.hid h3
      go_wp2
      exact ⟨rfl, h1.out, rfl, h3.out.blk⟩
    · by_cases h2 : b < z
      · rw [if_pos (.inr h2)]
        go_enter Try.func171, Try.ntmps171
        go_wp2_with fail
        refine C.out.mono ?_
        rintro e w1 ⟨h1, rfl, h3⟩
        obtain ⟨c1, c2⟩ := hc.out w1 h1
        replace h1 := Lib.hid h1
        replace h3 := Lib.hid h3
        go_wp2
        exact ⟨rfl, h1.out, rfl, h3.out.blk⟩
      · rw [if_neg (by omega)]
        go_enter Try.func171, Try.ntmps171
        go_wp2_with fail
        refine C.out.mono ?_
        rintro e w1 ⟨h1, rfl, h3⟩
        obtain ⟨c1, c2⟩ := hc.out w1 h1
        replace h1 := Lib.hid h1
        replace h3 := Lib.hid h3
        go_wp2
        go_ret
        exact ⟨h1.out, rfl, h3.out⟩

set_option maxHeartbeats 4000000 in
set_option maxRecDepth 100000 in
theorem readu_any (g B : Nat) (l : List Nat) (hl : Byt l) (w : World) (h : Rdr w g B l) : Calls Try.prog 165 #[.pointer (some ⟨g, 0, none⟩), .func (.func 166) #[] #[]] w (ReadIs g B (numOf l) (.int .u64 0) l w) := by
  have hmf : ∀ (fn : Fn) (first cap : Array Value) (w : World), (Instr.makeFunc fn first cap).run Try.prog w = .ok (.func fn first cap) w := fun _ _ _ _ => rfl
  obtain ⟨A, c, r1, r2, hA⟩ := h.ahead
  have C := number_any w.heap.size B l hl _ hA
  cases hx : numOf l with
  | none =>
    rw [hx] at C
    replace C := Lib.hid C
    replace h := Lib.hid h
    clear hA hx
    go_enter_defers Try.func165, Try.ntmps165
    go_wp2_with fail
    refine C.out.mono ?_
    rintro e w1 ⟨h1, rfl, _⟩
    obtain ⟨h2, h3⟩ := h.out.stays h1
    go_wp2_with fail
    refine leaves_cons (f := 168) (args := #[]) (by simp) (by simp [go_sem]) ?_
    refine (gone_u _).mono ?_
    rintro e u' w'' ⟨rfl, rfl, rfl⟩
    simp [Leaves, settle, results, Try.results165, go_sem]
    exact ⟨h3, rfl, h2⟩
  | some y =>
    obtain ⟨v, r⟩ := y
    have hle := numOf_le hx
    rw [hx] at C
    replace C := Lib.hid C
    replace h := Lib.hid h
    clear hA hx
    go_enter_defers Try.func165, Try.ntmps165
    go_wp2_with fail
    refine C.out.mono ?_
    rintro e w1 ⟨h1, rfl, h2⟩
    obtain ⟨A2, c2, q0, q1, ⟨v2, q2⟩, q3, q4⟩ := h.out.take_over h2 hle h1
    replace q3 := Lib.hid q3
    replace q4 := Lib.hid q4
    clear h1 h2
    go_wp2_with fail
    refine leaves_cons (f := 168) (args := #[]) (by simp) (by simp [go_sem]) ?_
    refine (idle_u _).mono ?_
    rintro e u' w'' ⟨rfl, rfl, rfl⟩
    simp [Leaves, settle, results, Try.results165, go_sem]
    exact ⟨q4.out, rfl, q3.out⟩
set_option maxHeartbeats 4000000 in
set_option maxRecDepth 100000 in
theorem readi_any (g B : Nat) (l : List Nat) (hl : Byt l) (w : World) (h : Rdr w g B l) : Calls Try.prog 170 #[.pointer (some ⟨g, 0, none⟩), .func (.func 172) #[] #[]] w (ReadIs g B (intOfL l) (.int .i64 0) l w) := by
  have hmf : ∀ (fn : Fn) (first cap : Array Value) (w : World), (Instr.makeFunc fn first cap).run Try.prog w = .ok (.func fn first cap) w := fun _ _ _ _ => rfl
  obtain ⟨A, c, r1, r2, hA⟩ := h.ahead
  have C := signed_any w.heap.size B l hl _ hA
  cases hx : intOfL l with
  | none =>
    rw [hx] at C
    replace C := Lib.hid C
    replace h := Lib.hid h
    clear hA hx
    go_enter_defers Try.func170, Try.ntmps170
    go_wp2_with fail
    refine C.out.mono ?_
    rintro e w1 ⟨h1, rfl, _⟩
    obtain ⟨h2, h3⟩ := h.out.stays h1
    go_wp2_with fail
    refine leaves_cons (f := 173) (args := #[]) (by simp) (by simp [go_sem]) ?_
    refine (gone_i _).mono ?_
    rintro e u' w'' ⟨rfl, rfl, rfl⟩
    simp [Leaves, settle, results, Try.results170, go_sem]
    exact ⟨h3, rfl, h2⟩
  | some y =>
    obtain ⟨v, r⟩ := y
    have hle := intOfL_le hx
    rw [hx] at C
    replace C := Lib.hid C
    replace h := Lib.hid h
    clear hA hx
    go_enter_defers Try.func170, Try.ntmps170
    go_wp2_with fail
    refine C.out.mono ?_
    rintro e w1 ⟨h1, rfl, h2⟩
    obtain ⟨A2, c2, q0, q1, ⟨v2, q2⟩, q3, q4⟩ := h.out.take_over h2 hle h1
    replace q3 := Lib.hid q3
    replace q4 := Lib.hid q4
    clear h1 h2
    go_wp2_with fail
    refine leaves_cons (f := 173) (args := #[]) (by simp) (by simp [go_sem]) ?_
    refine (idle_i _).mono ?_
    rintro e u' w'' ⟨rfl, rfl, rfl⟩
    simp [Leaves, settle, results, Try.results170, go_sem]
    exact ⟨q4.out, rfl, q3.out⟩
set_option maxHeartbeats 4000000 in
set_option maxRecDepth 100000 in
theorem readc_any (g B : Nat) (l : List Nat) (hl : Byt l) (w : World) (h : Rdr w g B l) (p q : Nat) (a b : Int) (hp : w.cell? ⟨p, 0, none⟩ = some (.int .i64 a)) (hq : w.cell? ⟨q, 0, none⟩ = some (.int .i64 b)) : Calls Try.prog 170 #[.pointer (some ⟨g, 0, none⟩), .func (.func 171) #[] #[.pointer (some ⟨p, 0, none⟩), .pointer (some ⟨q, 0, none⟩)]] w (ReadIs g B (uptoL a b l) (.int .i64 0) l w) := by
  have hmf : ∀ (fn : Fn) (first cap : Array Value) (w : World), (Instr.makeFunc fn first cap).run Try.prog w = .ok (.func fn first cap) w := fun _ _ _ _ => rfl
  obtain ⟨A, c, r1, r2, hA⟩ := h.ahead
  have C := upto1_any w.heap.size B l hl _ hA p q a b (mlater (m1 w _) hp) (mlater (m1 w _) hq) (Nat.ne_of_lt (mblock hp)) (Nat.ne_of_lt (mblock hq))
  cases hx : uptoL a b l with
  | none =>
    rw [hx] at C
    replace C := Lib.hid C
    replace h := Lib.hid h
    clear hA hx hp hq
    go_enter_defers Try.func170, Try.ntmps170
    go_wp2_with fail
    refine C.out.mono ?_
    rintro e w1 ⟨h1, rfl, _⟩
    obtain ⟨h2, h3⟩ := h.out.stays h1
    go_wp2_with fail
    refine leaves_cons (f := 173) (args := #[]) (by simp) (by simp [go_sem]) ?_
    refine (gone_i _).mono ?_
    rintro e u' w'' ⟨rfl, rfl, rfl⟩
    simp [Leaves, settle, results, Try.results170, go_sem]
    exact ⟨h3, rfl, h2⟩
  | some y =>
    obtain ⟨v, r⟩ := y
    have hle := uptoL_le hx
    rw [hx] at C
    replace C := Lib.hid C
    replace h := Lib.hid h
    clear hA hx hp hq
    go_enter_defers Try.func170, Try.ntmps170
    go_wp2_with fail
    refine C.out.mono ?_
    rintro e w1 ⟨h1, rfl, h2⟩
    obtain ⟨A2, c2, q0, q1, ⟨v2, q2⟩, q3, q4⟩ := h.out.take_over h2 hle h1
    replace q3 := Lib.hid q3
    replace q4 := Lib.hid q4
    clear h1 h2
    go_wp2_with fail
    refine leaves_cons (f := 173) (args := #[]) (by simp) (by simp [go_sem]) ?_
    refine (idle_i _).mono ?_
    rintro e u' w'' ⟨rfl, rfl, rfl⟩
    simp [Leaves, settle, results, Try.results170, go_sem]
    exact ⟨q4.out, rfl, q3.out⟩
end Go.Proofs.Ytlfhgmoafgjdcaa
