/- Type, Attr, Kind, Sym of schemas in both packages, as contracts. -/
import Derived.Test.YtpjlocmohcjpfaaFind
namespace Go.Proofs.Ytpjlocmohcjpfaa
open Go.ChangeShapes Go.WideShapes Go.ChangeAt Go.RowKit
set_option linter.unusedVariables false
set_option linter.unusedSimpArgs false

def typeOf (ts : List ST) (name : ByteArray) : Int := place (fun t : ST => t.1.toList == name.toList) ts
def fieldOf (fs : List SF) (name : ByteArray) : Int := place (fun f : SF => f.1.toList == name.toList) fs
def textOf (ss : List ByteArray) (name : ByteArray) : Int := place (fun t : ByteArray => t.toList == name.toList) ss
def attrOf (ts : List ST) (t : Int) (name : ByteArray) : Int := if 0 ≤ t then (match ts[t.toNat]? with | some x => fieldOf x.2 name | none => -1) else -1
def kindOf (ts : List ST) (t a : Int) : Int := if 0 ≤ t then (match ts[t.toNat]? with | some x => if a = -1 then 1 else if 0 ≤ a then (match x.2[a.toNat]? with | some f => f.2 | none => 0) else 0 | none => 0) else 0
theorem attrOf_in {ts : List ST} {k : Nat} {x : ST} (h : ts[k]? = some x) (name : ByteArray) : attrOf ts (k : Int) name = fieldOf x.2 name := by
  unfold attrOf
  rw [if_pos (by omega), Int.toNat_natCast, h]
theorem attrOf_out {ts : List ST} {t : Int} (h : ¬ (0 ≤ t ∧ t < (ts.length : Int))) (name : ByteArray) : attrOf ts t name = -1 := by
  unfold attrOf
  by_cases c : 0 ≤ t
  · rw [if_pos c, List.getElem?_eq_none (by omega)]
  · rw [if_neg c]
theorem kindOf_out {ts : List ST} {t : Int} (h : ¬ (0 ≤ t ∧ t < (ts.length : Int))) (a : Int) : kindOf ts t a = 0 := by
  unfold kindOf
  by_cases c : 0 ≤ t
  · rw [if_pos c, List.getElem?_eq_none (by omega)]
  · rw [if_neg c]
theorem kindOf_in {ts : List ST} {k : Nat} {x : ST} (h : ts[k]? = some x) (a : Int) : kindOf ts (k : Int) a = if a = -1 then 1 else if 0 ≤ a then (match x.2[a.toNat]? with | some f => f.2 | none => 0) else 0 := by
  unfold kindOf
  rw [if_pos (by omega), Int.toNat_natCast, h]

theorem type_any (A : Option Addr) (cap : Nat) (v2 : Value) (ts : List ST) (name : ByteArray) (w : World) (hc : TypesAt w A ts) (hn : ts.length ≤ 9223372036854775807) :
    Calls Try.prog 24 #[.agg #[.slice A ts.length cap, v2], .string name] w fun e w' => e = .returned (.int .i64 (typeOf ts name)) ∧ Below w.heap.size w w' := by
  have hb := m2 w (.cells #[.slice A ts.length cap, v2] 46) (.cells #[.string name] 9)
  have hc2 : TypesAt ((w.alloc (.cells #[.slice A ts.length cap, v2] 46)).alloc (.cells #[.string name] 9)) A ts := fun hp => by
    obtain ⟨b, off, e, h⟩ := hc hp
    exact ⟨b, off, e, fun i t hi => by
      obtain ⟨u, h0, h1, h2⟩ := h i t hi
      exact ⟨u, cell_later hb h0, cell_later hb h1, h2.later hb⟩⟩
  have CC := Lib.hid (ixtype_any A cap (w.heap.size + 1) ts name _ hc2 hn (by simp))
  replace hb := Lib.hid hb
  unfold typeOf
  generalize place (fun t : ST => t.1.toList == name.toList) ts = r at *
  clear hc hc2
  go_enter Try.func24, Try.ntmps24
  go_wp2_with (go_at_call 55; refine CC.out.mono ?_; rintro e w1 ⟨rfl, hb1⟩)
  go_ret
  exact ⟨rfl, mmore hb.out hb1⟩

theorem sym_any (B : Option Addr) (cap : Nat) (v1 : Value) (ss : List ByteArray) (name : ByteArray) (w : World) (hc : SymsAt w B ss) (hn : ss.length ≤ 9223372036854775807) :
    Calls Try.prog 28 #[.agg #[v1, .slice B ss.length cap], .string name] w fun e w' => e = .returned (.int .i64 (textOf ss name)) ∧ Below w.heap.size w w' := by
  have hb := m1 w (.cells #[v1, .slice B ss.length cap] 46)
  have hc2 : SymsAt (w.alloc (.cells #[v1, .slice B ss.length cap] 46)) B ss := fun hp => by
    obtain ⟨b, off, e, h⟩ := hc hp
    exact ⟨b, off, e, fun i t hi => cell_later hb (h i t hi)⟩
  have CC := Lib.hid (ixtext_any B cap ss name _ hc2 hn)
  replace hb := Lib.hid hb
  unfold textOf
  generalize place (fun t : ByteArray => t.toList == name.toList) ss = r at *
  clear hc hc2
  go_enter Try.func28, Try.ntmps28
  go_wp2_with (go_at_call 60; refine CC.out.mono ?_; rintro e w1 ⟨rfl, hb1⟩)
  go_ret
  exact ⟨rfl, mmore hb.out hb1⟩

theorem has_any (A : Option Addr) (cap n : Nat) (v2 : Value) (t : Int) (w : World) :
    Calls Try.prog 57 #[.agg #[.slice A n cap, v2], .int .i64 t] w fun e w' => e = .returned (.bool (decide (0 ≤ t ∧ t < (n : Int)))) ∧ Below w.heap.size w w' := by
  by_cases h0 : 0 ≤ t <;> by_cases h1 : t < (n : Int)
  all_goals go_enter Try.func57, Try.ntmps57
  all_goals go_wp2
  all_goals go_ret
  all_goals exact ⟨by congr 2; simp [h0, h1], m1 _ _⟩

theorem FieldsAt.later {w w1 : World} {A : Option Addr} {fs : List SF} (h : FieldsAt w A fs) (hb : Below w.heap.size w w1) : FieldsAt w1 A fs := fun hp => by
  obtain ⟨b, off, e, h⟩ := h hp
  exact ⟨b, off, e, fun i t hi => ⟨cell_later hb (h i t hi).1, cell_later hb (h i t hi).2⟩⟩
theorem TypesAt.later {w w1 : World} {A : Option Addr} {ts : List ST} (h : TypesAt w A ts) (hb : Below w.heap.size w w1) : TypesAt w1 A ts := fun hp => by
  obtain ⟨b, off, e, h⟩ := h hp
  exact ⟨b, off, e, fun i t hi => by
    obtain ⟨u, h0, h1, h2⟩ := h i t hi
    exact ⟨u, cell_later hb h0, cell_later hb h1, h2.later hb⟩⟩
theorem SymsAt.later {w w1 : World} {A : Option Addr} {ss : List ByteArray} (h : SymsAt w A ss) (hb : Below w.heap.size w w1) : SymsAt w1 A ss := fun hp => by
  obtain ⟨b, off, e, h⟩ := h hp
  exact ⟨b, off, e, fun i t hi => cell_later hb (h i t hi)⟩
/-- the k-th type as it lies in memory -/
theorem TypesAt.at_ {w : World} {A : Option Addr} {ts : List ST} (h : TypesAt w A ts) {k : Nat} {x : ST} (hk : ts[k]? = some x) :
    ∃ b off FA fcap, A = some ⟨b, off, none⟩ ∧ w.cell? ⟨b, off + k * 2, none⟩ = some (.string x.1) ∧ w.cell? ⟨b, off + k * 2 + 1, none⟩ = some (.slice FA x.2.length fcap) ∧ FieldsAt w FA x.2 := by
  obtain ⟨b, off, e, h⟩ := h (by have := (List.getElem?_eq_some_iff.1 hk).1; omega)
  obtain ⟨u, h0, h1, FA, fcap, rfl, h2⟩ := h k x hk
  exact ⟨b, off, FA, fcap, e, h0, h1, h2⟩

set_option maxHeartbeats 4000000 in
theorem attr_any (A : Option Addr) (cap : Nat) (v2 : Value) (ts : List ST) (t : Int) (name : ByteArray) (w : World) (hc : TypesAt w A ts) (hn : ts.length ≤ 9223372036854775807) (hf : ∀ x ∈ ts, x.2.length ≤ 9223372036854775807) :
    Calls Try.prog 26 #[.agg #[.slice A ts.length cap, v2], .int .i64 t, .string name] w fun e w' => e = .returned (.int .i64 (attrOf ts t name)) ∧ Below w.heap.size w w' := by
  have hb := m2 w (.cells #[.slice A ts.length cap, v2] 46) (.cells #[.string name] 9)
  by_cases hin : 0 ≤ t ∧ t < (ts.length : Int)
  · obtain ⟨k, rfl⟩ : ∃ k : Nat, t = (k : Int) := ⟨t.toNat, by omega⟩
    have hlt : k < ts.length := by omega
    have hx : ts[k]? = some ts[k] := List.getElem?_eq_getElem hlt
    have hfx := hf _ (List.getElem_mem hlt)
    generalize ts[k] = x at *
    obtain ⟨nm, fs⟩ := x
    rw [attrOf_in hx]
    unfold fieldOf
    obtain ⟨b, off, FA, fcap, rfl, r0, r1, hF⟩ := hc.at_ hx
    simp only at r0 r1 hF hfx ⊢
    obtain ⟨r, hr⟩ : ∃ r, place (fun f : SF => f.1.toList == name.toList) fs = r := ⟨_, rfl⟩
    rw [hr]
    replace hr := Lib.hid hr
    have CH : ∀ w, Calls Try.prog 57 #[.agg #[.slice (some ⟨b, off, none⟩) ts.length cap, v2], .int .i64 (k : Int)] w fun e w' => e = .returned (.bool true) ∧ Below w.heap.size w w' := fun w => by
      have h := has_any (some ⟨b, off, none⟩) cap ts.length v2 (k : Int) w
      rwa [decide_eq_true hin] at h
    have k0 : (0 : Int) ≤ (k : Int) := by omega
    have k1 : (k : Int) < (ts.length : Int) := by omega
    replace CH := Lib.hid CH
    replace hF := Lib.hid (hF.later hb)
    have r2 := cell_later hb r1
    replace hb := Lib.hid hb
    replace hx := Lib.hid hx
    clear hc hf hin r0 r1
    go_enter Try.func26, Try.ntmps26
    go_wp2_with fail
    refine (CH.out _).mono ?_; rintro e w1 ⟨rfl, hb1⟩
    have r3 := cell_later hb1 r2
    have q0 : w1.cell? ⟨w.heap.size, 0, none⟩ = some (.slice (some ⟨b, off, none⟩) ts.length cap) := cell_later hb1 (by simp)
    have g0 : w1.cell? ⟨w.heap.size + 1, 0, none⟩ = some (.string name) := cell_later hb1 (by simp)
    have CC := ixattr_any FA fcap (w.heap.size + 1) fs name w1 (hF.out.later hb1) hfx g0
    rw [hr.out] at CC
    replace CC := Lib.hid CC
    have hB := Lib.hid (mmore hb.out hb1)
    clear hb1 r2 hF hb
    go_wp2_with (go_at_call 58; refine CC.out.mono ?_; rintro e w2 ⟨rfl, hb1⟩)
    go_ret
    exact ⟨rfl, mmore hB.out hb1⟩
  · rw [attrOf_out hin]
    have CH : ∀ w, Calls Try.prog 57 #[.agg #[.slice A ts.length cap, v2], .int .i64 t] w fun e w' => e = .returned (.bool false) ∧ Below w.heap.size w w' := fun w => by
      have h := has_any A cap ts.length v2 t w
      rwa [decide_eq_false hin] at h
    replace CH := Lib.hid CH
    replace hb := Lib.hid hb
    clear hc hf hin
    go_enter Try.func26, Try.ntmps26
    go_wp2_with fail
    refine (CH.out _).mono ?_; rintro e w1 ⟨rfl, hb1⟩
    go_wp2_with fail
    go_ret
    exact ⟨rfl, mmore hb.out hb1⟩

set_option maxHeartbeats 4000000 in
theorem kind_any (A : Option Addr) (cap : Nat) (v2 : Value) (ts : List ST) (t a : Int) (w : World) (hc : TypesAt w A ts) (hn : ts.length ≤ 9223372036854775807) (hf : ∀ x ∈ ts, x.2.length ≤ 9223372036854775807) :
    Calls Try.prog 31 #[.agg #[.slice A ts.length cap, v2], .int .i64 t, .int .i64 a] w fun e w' => e = .returned (.int .i64 (kindOf ts t a)) ∧ Below w.heap.size w w' := by
  have hb := m1 w (.cells #[.slice A ts.length cap, v2] 46)
  by_cases hin : 0 ≤ t ∧ t < (ts.length : Int)
  · obtain ⟨k, rfl⟩ : ∃ k : Nat, t = (k : Int) := ⟨t.toNat, by omega⟩
    have hlt : k < ts.length := by omega
    have hx : ts[k]? = some ts[k] := List.getElem?_eq_getElem hlt
    have hfx := hf _ (List.getElem_mem hlt)
    generalize ts[k] = x at *
    obtain ⟨nm, fs⟩ := x
    rw [kindOf_in hx]
    obtain ⟨b, off, FA, fcap, rfl, r0, r1, hF⟩ := hc.at_ hx
    simp only at r0 r1 hF hfx ⊢
    have CH : ∀ w, Calls Try.prog 57 #[.agg #[.slice (some ⟨b, off, none⟩) ts.length cap, v2], .int .i64 (k : Int)] w fun e w' => e = .returned (.bool true) ∧ Below w.heap.size w w' := fun w => by
      have h := has_any (some ⟨b, off, none⟩) cap ts.length v2 (k : Int) w
      rwa [decide_eq_true hin] at h
    have k0 : (0 : Int) ≤ (k : Int) := by omega
    have k1 : (k : Int) < (ts.length : Int) := by omega
    replace CH := Lib.hid CH
    have hF2 := hF.later hb
    have r2 := cell_later hb r1
    replace hF2 := Lib.hid hF2
    replace hb := Lib.hid hb
    replace hx := Lib.hid hx
    clear hc hf hin r0 r1 hF
    by_cases a1 : a = -1
    · subst a1
      rw [if_pos rfl]
      go_enter Try.func31, Try.ntmps31
      go_wp2_with fail
      refine (CH.out _).mono ?_; rintro e w1 ⟨rfl, hb1⟩
      go_wp2_with fail
      go_ret
      exact ⟨rfl, mmore hb.out hb1⟩
    rw [if_neg a1]
    have fa1 : (a == -1) = false := by rw [beq_eq_false_iff_ne]; exact a1
    replace a1 := Lib.hid a1
    by_cases a0 : 0 ≤ a
    · rw [if_pos a0]
      by_cases al : a < (fs.length : Int)
      · obtain ⟨j, rfl⟩ : ∃ j : Nat, a = (j : Int) := ⟨a.toNat, by omega⟩
        have hjl : j < fs.length := by omega
        have hy : fs[j]? = some fs[j] := List.getElem?_eq_getElem hjl
        generalize fs[j] = y at *
        obtain ⟨fnm, fk⟩ := y
        rw [Int.toNat_natCast, hy]
        simp only
        replace hy := Lib.hid hy
        go_enter Try.func31, Try.ntmps31
        go_wp2_with fail
        refine (CH.out _).mono ?_; rintro e w1 ⟨rfl, hb1⟩
        have r3 := cell_later hb1 r2
        have q0 : w1.cell? ⟨w.heap.size, 0, none⟩ = some (.slice (some ⟨b, off, none⟩) ts.length cap) := cell_later hb1 (by simp)
        obtain ⟨fb, foff, rfl, hfc⟩ := (hF2.out.later hb1) (by omega)
        have s1 := (hfc j _ hy.out).2
        have hB := Lib.hid (mmore hb.out hb1)
        clear hb1 r2 hF2 hb hfc
        go_wp2_with fail
        go_ret
        exact ⟨rfl, hB.out⟩
      · rw [List.getElem?_eq_none (by omega)]
        simp only
        go_enter Try.func31, Try.ntmps31
        go_wp2_with fail
        refine (CH.out _).mono ?_; rintro e w1 ⟨rfl, hb1⟩
        have r3 := cell_later hb1 r2
        have q0 : w1.cell? ⟨w.heap.size, 0, none⟩ = some (.slice (some ⟨b, off, none⟩) ts.length cap) := cell_later hb1 (by simp)
        have hB := Lib.hid (mmore hb.out hb1)
        clear hb1 r2 hF2 hb
        go_wp2_with fail
        go_ret
        exact ⟨rfl, hB.out⟩
    · rw [if_neg a0]
      go_enter Try.func31, Try.ntmps31
      go_wp2_with fail
      refine (CH.out _).mono ?_; rintro e w1 ⟨rfl, hb1⟩
      go_wp2_with fail
      go_ret
      exact ⟨rfl, mmore hb.out hb1⟩
  · rw [kindOf_out hin]
    have CH : ∀ w, Calls Try.prog 57 #[.agg #[.slice A ts.length cap, v2], .int .i64 t] w fun e w' => e = .returned (.bool false) ∧ Below w.heap.size w w' := fun w => by
      have h := has_any A cap ts.length v2 t w
      rwa [decide_eq_false hin] at h
    replace CH := Lib.hid CH
    replace hb := Lib.hid hb
    clear hc hf hin
    go_enter Try.func31, Try.ntmps31
    go_wp2_with fail
    refine (CH.out _).mono ?_; rintro e w1 ⟨rfl, hb1⟩
    go_wp2_with fail
    go_ret
    exact ⟨rfl, mmore hb.out hb1⟩
end Go.Proofs.Ytpjlocmohcjpfaa
