/- AttrAt and Kind of schemas in the document's package, as contracts. -/
import Derived.Test.YtpjlocmohcjpfaaSchC
namespace Go.Proofs.Ytpjlocmohcjpfaa
open Go.ChangeShapes Go.WideShapes Go.ChangeAt Go.RowKit
set_option linter.unusedVariables false
set_option linter.unusedSimpArgs false

set_option maxHeartbeats 4000000 in
theorem rattrat_any (A : Option Addr) (cap : Nat) (v2 : Value) (ts : List ST) (t : Int) (name : ByteArray) (w : World) (hc : TypesAt w A ts) (hn : ts.length ≤ 9223372036854775807) (hf : ∀ x ∈ ts, x.2.length ≤ 9223372036854775807) :
    Calls Try.prog 27 #[.agg #[.slice A ts.length cap, v2], .int .i64 t, .string name] w fun e w' => e = .returned (.int .i64 (attrOf ts t name)) ∧ Below w.heap.size w w' := by
  have hu := m1 w (.cells #[.slice A ts.length cap, v2] 41)
  by_cases hin : 0 ≤ t ∧ t < (ts.length : Int)
  · obtain ⟨kt, rfl⟩ : ∃ k : Nat, t = (k : Int) := ⟨t.toNat, by omega⟩
    have hlt : kt < ts.length := by omega
    have hx : ts[kt]? = some ts[kt] := List.getElem?_eq_getElem hlt
    have hfx := hf _ (List.getElem_mem hlt)
    generalize ts[kt] = x at *
    obtain ⟨nm0, fs⟩ := x
    rw [attrOf_in hx]
    unfold fieldOf
    obtain ⟨tb, toff, FA, fcap, rfl, r0, r1, hF⟩ := hc.at_ hx
    simp only at r0 r1 hF hfx ⊢
    have k2 : (0 : Int) ≤ (kt : Int) := by omega
    have k3 : (kt : Int) < (ts.length : Int) := by omega
    replace hF := Lib.hid (hF.later hu)
    have r2 := cell_later hu r1
    replace hx := Lib.hid hx
    clear hc hf hin r0 r1 hlt
    go_enter Try.func27, Try.ntmps27
    go_wp2_with fail
    generalize w.alloc (.cells #[.slice (some ⟨tb, toff, none⟩) ts.length cap, v2] 41) = u0 at *
    clear r2
    replace hx := trivial
    go_loopw [25] (fun i wr => ∃ k : Nat, k ≤ fs.length ∧ i = .int .i64 (k : Int) ∧ Below u0.heap.size u0 wr ∧ Hid (∀ (j : Nat) (y : SF), j < k → fs[j]? = some y → (y.1.toList == name.toList) = false)) (fun i _ => fs.length - (intOf i).toNat)
    case atStart => exact ⟨0, Nat.zero_le _, rfl, Below.refl _ _, Lib.hid (fun j y h => by omega)⟩
    case round =>
      obtain ⟨k, hk, rfl, hB, H⟩ := hrel
      by_cases hlt : k < fs.length
      · obtain ⟨b, off, rfl, hcell⟩ := hF.out (by omega)
        have hx : fs[k]? = some fs[k] := List.getElem?_eq_getElem hlt
        obtain ⟨r0, r1⟩ := hcell k _ hx
        have r0 := cell_later hB r0
        have r1 := cell_later hB r1
        generalize fs[k] = x at *
        obtain ⟨nm, fk⟩ := x
        simp only at r0 r1
        clear hcell
        replace hx := Lib.hid hx
        have k0 : (0 : Int) ≤ (k : Int) := by omega
        have k1 : (k : Int) < (fs.length : Int) := by omega
        obtain ⟨q, hq⟩ : ∃ q, (nm.toList == name.toList) = q := ⟨_, rfl⟩
        have hq2 := hq
        replace hq := Lib.hid hq
        cases q
        · go_wp2_with fail
          go_roundw
          case rel => exact ⟨k + 1, by omega, by go_num, mmore hB (m1 _ _), Lib.hid (fun j y h hy => by
            by_cases c : j < k
            · exact H.out j y c hy
            · obtain rfl : j = k := by omega
              rw [hx.out] at hy
              injection hy with hy
              rw [← hy]; exact hq.out)⟩
          case measure => simp [intOf]; omega
        · go_wp2_with fail
          go_ret
          exact ⟨fret_int (by rw [place_hit (fun f : SF => f.1.toList == name.toList) fs k _ hx.out hq.out (fun j y hj hy => H.out j y hj hy)]), mmore hu (mmore hB (m1 _ _))⟩
      · obtain rfl : k = fs.length := by omega
        go_wp2_with fail
        go_ret
        exact ⟨fret_int (by rw [place_miss (fun f : SF => f.1.toList == name.toList) fs (fun j y hy => H.out j y (List.getElem?_eq_some_iff.1 hy).1 hy)]), mmore hu hB⟩
  · rw [attrOf_out hin]
    by_cases h0 : 0 ≤ t
    · have h1 : (ts.length : Int) ≤ t := by omega
      replace hu := Lib.hid hu
      clear hc hf hin
      go_enter Try.func27, Try.ntmps27
      go_wp2_with fail
      go_ret
      exact ⟨rfl, hu.out⟩
    · replace hu := Lib.hid hu
      clear hc hf hin
      go_enter Try.func27, Try.ntmps27
      go_wp2_with fail
      go_ret
      exact ⟨rfl, hu.out⟩

set_option maxHeartbeats 4000000 in
theorem rkind_any (A : Option Addr) (cap : Nat) (v2 : Value) (ts : List ST) (t a : Int) (w : World) (hc : TypesAt w A ts) (hn : ts.length ≤ 9223372036854775807) (hf : ∀ x ∈ ts, x.2.length ≤ 9223372036854775807) :
    Calls Try.prog 32 #[.agg #[.slice A ts.length cap, v2], .int .i64 t, .int .i64 a] w fun e w' => e = .returned (.int .i64 (kindOf ts t a)) ∧ Below w.heap.size w w' := by
  have hu := m1 w (.cells #[.slice A ts.length cap, v2] 41)
  by_cases hin : 0 ≤ t ∧ t < (ts.length : Int)
  · obtain ⟨k, rfl⟩ : ∃ k : Nat, t = (k : Int) := ⟨t.toNat, by omega⟩
    have hlt : k < ts.length := by omega
    have hx : ts[k]? = some ts[k] := List.getElem?_eq_getElem hlt
    have hfx := hf _ (List.getElem_mem hlt)
    generalize ts[k] = x at *
    obtain ⟨nm, fs⟩ := x
    rw [kindOf_in hx]
    obtain ⟨b, off, FA, fcap, rfl, r0, r1, hF⟩ := hc.at_ hx
    simp only at r0 r1 hF hfx ⊢
    have k0 : (0 : Int) ≤ (k : Int) := by omega
    have k1 : (k : Int) < (ts.length : Int) := by omega
    have hF2 := hF.later hu
    have r2 := cell_later hu r1
    replace hF2 := Lib.hid hF2
    replace hu := Lib.hid hu
    replace hx := Lib.hid hx
    clear hc hf hin r0 r1 hF hlt
    by_cases a1 : a = -1
    · subst a1
      rw [if_pos rfl]
      go_enter Try.func32, Try.ntmps32
      go_wp2_with fail
      go_ret
      exact ⟨rfl, hu.out⟩
    rw [if_neg a1]
    have fa1 : (a == -1) = false := by rw [beq_eq_false_iff_ne]; exact a1
    replace a1 := Lib.hid a1
    by_cases a0 : 0 ≤ a
    · rw [if_pos a0]
      by_cases al : a < (fs.length : Int)
      · obtain ⟨j, rfl⟩ : ∃ j : Nat, a = (j : Int) := ⟨a.toNat, by omega⟩
        have hjl : j < fs.length := by omega
        have hy : fs[j]? = some fs[j] := List.getElem?_eq_getElem hjl
        generalize fs[j] = y at *
        obtain ⟨fnm, fk⟩ := y
        rw [Int.toNat_natCast, hy]
        simp only
        replace hy := Lib.hid hy
        obtain ⟨fb, foff, rfl, hfc⟩ := hF2.out (by omega)
        have s1 := (hfc j _ hy.out).2
        clear hF2 hfc hjl
        go_enter Try.func32, Try.ntmps32
        go_wp2_with fail
        go_ret
        exact ⟨rfl, hu.out⟩
      · rw [List.getElem?_eq_none (by omega)]
        simp only
        clear hF2
        go_enter Try.func32, Try.ntmps32
        go_wp2_with fail
        go_ret
        exact ⟨rfl, hu.out⟩
    · rw [if_neg a0]
      clear hF2
      go_enter Try.func32, Try.ntmps32
      go_wp2_with fail
      go_ret
      exact ⟨rfl, hu.out⟩
  · rw [kindOf_out hin]
    by_cases h0 : 0 ≤ t
    · have h1 : (ts.length : Int) ≤ t := by omega
      replace hu := Lib.hid hu
      clear hc hf hin
      go_enter Try.func32, Try.ntmps32
      go_wp2_with fail
      go_ret
      exact ⟨rfl, hu.out⟩
    · replace hu := Lib.hid hu
      clear hc hf hin
      go_enter Try.func32, Try.ntmps32
      go_wp2_with fail
      go_ret
      exact ⟨rfl, hu.out⟩
end Go.Proofs.Ytpjlocmohcjpfaa
