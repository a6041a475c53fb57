/- SchemaWords: each word is one, and no name; with a sign more it is a name and no word. -/
import Derived.Test.YtpjlocmohcjpfaaRows
import Derived.WalkKit
import Derived.ProofKit
import Derived.OpenShut
import Derived.ShutString
import Derived.ChangeOld
import Derived.Below
import Derived.Lib.SmallJoins
import Derived.SizedLaws
import Derived.Test.YtpjlocmohcjpfaaSchA
import Derived.Test.YtpjlocmohcjpfaaSchO
namespace Go.Proofs.Ytpjlocmohcjpfaa.schemaWords
open Go.ChangeShapes Go.WideShapes Go.ChangeAt Go.RowKit Go.Joins
set_option linter.unusedVariables false
set_option linter.unusedSimpArgs false

theorem own : ownKnob Try.prog.godebug = none := by kernel_rfl
theorem laidOut : laidOutB Try.prog = true := by kernel_rfl

/-- each word, with a stroke more -/
theorem words_all : ∀ l ∈ wordL, (wordL.any (fun k => l == k) = true ∧ wordL.any (fun k => l ++ [95] == k) = false) ∧ 1 ≤ l.length ∧ l.length ≤ 23 ∧ (∀ c ∈ l, letC (c.toNat : Int) = true) := by decide
/-- of a word: it is one, it is no name; with a stroke more it is a name and no word -/
theorem word_facts (k : Nat) (hk : k < 25) (x y : ByteArray) (hx : wordL[k]? = some x.toList) (hy : y.data = x.data ++ #[95]) : wordB x = true ∧ ¬ NameP x ∧ NameP y ∧ wordB y = false := by
  have h := words_all x.toList (List.mem_of_getElem? hx)
  obtain ⟨⟨h1, h2⟩, h3, h4, h5⟩ := h
  have ex : x.toList = x.data.toList := ByteArray.toList_eq _
  have ey : y.toList = x.toList ++ [95] := by rw [ByteArray.toList_eq, hy, ex]; simp
  have w1 : wordB x = true := h1
  have w2 : wordB y = false := by unfold wordB; rw [ey]; exact h2
  have hsz : x.size = x.toList.length := by rw [ex]; rfl
  have hysz : y.size = x.size + 1 := by
    show y.data.size = _
    rw [hy, Array.size_append]
    rfl
  refine ⟨w1, fun h => (by rw [h.2.2.2.2] at w1; cases w1), ⟨by omega, by omega, fun hp => ?_, fun i hi => ?_, w2⟩, w2⟩
  · have e : y[0] = x.toList[0]'(by omega) := by
      show y.data[0] = _
      simp only [hy, ex]
      rw [Array.getElem_append_left (by show 0 < x.size; omega)]
      rfl
    rw [e]
    exact h5 _ (List.getElem_mem _)
  · by_cases c : i < x.size
    · have e : y[i] = x.toList[i]'(by omega) := by
        show y.data[i] = _
        simp only [hy, ex]
        rw [Array.getElem_append_left (by exact c)]
        rfl
      rw [e]
      unfold okC
      rw [h5 _ (List.getElem_mem _)]
      rfl
    · obtain rfl : i = x.size := by omega
      have e : y[x.size] = 95 := by
        show y.data[x.size] = _
        simp only [hy]
        rw [Array.getElem_append_right (by exact Nat.le_refl _)]
        simp
      rw [e]
      decide

set_option maxHeartbeats 4000000 in
theorem walk (w : World) (a0 : Int) (w0 : (Lit.int .i64 a0).wf = true) :
    Calls Try.prog 5 #[.int .i64 a0] w fun e w' => e = .returned (.bool true) ∧ Below w.heap.size w w' := by
  obtain ⟨k, hk, hE⟩ : ∃ k : Nat, k < 25 ∧ wrap64 ((IntKind.u64.wrap a0).tmod 25) = (k : Int) := by
    rw [IntKind.wrap_u64]
    have h0 : 0 ≤ a0 % 18446744073709551616 := Int.emod_nonneg _ (by decide)
    rw [Int.tmod_eq_emod_of_nonneg h0]
    refine ⟨(a0 % 18446744073709551616 % 25).toNat, by omega, ?_⟩
    unfold wrap64
    omega
  have k0 : (0 : Int) ≤ (k : Int) := by omega
  have k1 : (k : Int) < 25 := by omega
  go_enter Try.func5, Try.ntmps5
  go_wp2_with fail
  refine (words_any _).mono ?_; rintro e w' ⟨rfl, rfl⟩
  obtain ⟨x, hx, hl⟩ := words_cell w k hk
  have hb1 := m1 w (.cells (wordL.map fun l => Value.string ⟨l.toArray⟩).toArray 9)
  generalize w.alloc (.cells (wordL.map fun l => Value.string ⟨l.toArray⟩).toArray 9) = u at *
  have hl2 := Lib.hid hl
  clear hl
  obtain ⟨y, hy⟩ : ∃ y : ByteArray, x ++ ⟨#[95]⟩ = y := ⟨_, rfl⟩
  have hyd : y.data = x.data ++ #[95] := by rw [← hy]; first | exact ByteArray.data_append | simp
  have F := word_facts k hk x y hl2.out hyd
  have CX := Lib.hid (fun w => word_any x w)
  have CY := Lib.hid (fun w => word_any y w)
  rw [F.1] at CX
  rw [F.2.2.2] at CY
  have hxs : x.size + 1 ≤ maxLen := by
    have h := F.2.2.1.2.1
    have : y.size = x.size + 1 := by show y.data.size = _; rw [hyd, Array.size_append]; rfl
    unfold maxLen; omega
  have hxs2 : x.size + (⟨#[95]⟩ : ByteArray).size ≤ maxLen := hxs
  have hxs3 : ¬ maxLen < x.size + 1 := by omega
  replace F := Lib.hid F
  clear hyd
  go_wp2_with fail
  refine (sawake_any _).mono ?_; rintro e w1 ⟨rfl, hb2⟩
  go_wp2_with (go_at_call 18; refine (CX.out _).mono ?_; rintro e w' ⟨rfl, rfl⟩)
  refine (name_any _ _).mono ?_; rintro e w2 ⟨b, rfl, hb, hb3⟩
  obtain rfl : b = false := by
    cases b with
    | false => rfl
    | true => exact absurd (hb.1 rfl) F.out.2.1
  have hB := mmore (mmore hb1 hb2) hb3
  clear hb hb1 hb2 hb3
  go_wp2_with fail
  refine (name_any _ _).mono ?_; rintro e w3 ⟨b, rfl, hb, hb3⟩
  obtain rfl : b = true := hb.2 F.out.2.2.1
  replace hB := Lib.hid (mmore hB hb3)
  clear hb hb3
  go_wp2_with (go_at_call 18; refine (CY.out _).mono ?_; rintro e w' ⟨rfl, rfl⟩)
  go_ret
  exact ⟨rfl, hB.out⟩

set_option maxRecDepth 100000 in
theorem lifted (os : Os) (started : os.Started) (H : Type) (enc : TypeId × Value → H) :
    ReturnsInHanded {} Try.checked os 5 .any (Rows.schemaWordsSpec.pre6 enc Try.prog Try.f5 Rows.schemaWordsRow.domain false) (Rows.schemaWordsSpec.post enc Try.prog Try.f5 false true false false) := by
  refine returnsInHanded_of_change (C := Try.checked) own started (by kernel_rfl) Try.func5
    (ChangeSpec.witness6 (enc := enc) (C := Try.checked) false ⟨#[], #[.int .i64 0], []⟩ 8 (by kernel_rfl) (by kernel_rfl) (by kernel_rfl) (by kernel_rfl)) ?_
  intro W base args ds gs before hval0 hW hcnd _
  have hval : ∀ (j : Nat) t v, Try.f5.params[j]? = some t → args[j]? = some v → Value.okWide Try.prog W .any base t v := hval0
  have hW' := hW
  obtain ⟨p, q, hA0, hV, rfl, hfz, hnd⟩ := hW
  have hA : DataW.TrodAll enc Try.prog W 0 (fun _ => true) true Try.f5.params.toList args.toList ds p := hA0
  rw [Try.params5] at hA hval
  obtain ⟨v0, vs0, d0, ds0, p0, q0, hargs, rfl, rfl, h0, r0⟩ := trodAll_cons hA
  obtain ⟨rfl, rfl, rfl⟩ := trodAll_nil r0
  obtain rfl : args = #[v0] := by cases args; simp_all
  obtain ⟨rfl, rfl⟩ := trodVars_none hV
  have kk0 := h0
  have lt0 : ∀ x ∈ p0, x.block < W.heap.size := by obtain ⟨m, hm⟩ := kk0; exact DataW.trod_lt m _ _ _ hm
  obtain ⟨a0, rfl, rfl, rfl, w0⟩ := open_int Try.underlying3 (hval 0 3 v0 rfl rfl) h0
  clear hA0 hval0
  refine (walk W a0 w0).mono fun e W' ⟨he, bel⟩ => ?_
  subst he
  exact ⟨_, rfl, _, _, _, [], _, [], hW', trodAll_mk1 (shut_bool Try.underlying4 _), (trodAll_cons_mk (Below.trod laidOut (by kernel_rfl) (of_decide_eq_true (by kernel_rfl)) kk0 bel lt0) trodAll_mk0), rfl, bel.frame _, fun h => by cases h⟩

theorem over : Rows.schemaWordsRow.holds Try.pinned (OpenSpec.ofChange Rows.schemaWordsSpec) :=
  OpenClaim.holds_of_wide 5 Try.f5 rfl rfl rfl rfl rfl rfl rfl ⟨rfl, rfl, rfl, rfl, rfl⟩ rfl rfl rfl rfl rfl (by kernel_rfl) Try.func5 (by kernel_rfl)
    (of_decide_eq_true (by kernel_rfl)) (by unfold Func.isWrapper; first | (rw [if_pos (by decide +kernel)]; kernel_rfl) | (rw [if_neg (by decide +kernel)]; exact ⟨rfl, rfl⟩))
    (fun os started H enc _ => lifted os started H enc)

/-- the statement -/
theorem proved : Rows.SchemaWordsSaid :=
  over
#print axioms proved
end Go.Proofs.Ytpjlocmohcjpfaa.schemaWords
