/- Key of schemas, as a contract. -/
import Derived.Test.YtpjlocmohcjpfaaSchR
namespace Go.Proofs.Ytpjlocmohcjpfaa
open Go.ChangeShapes Go.WideShapes Go.ChangeAt Go.RowKit
set_option linter.unusedVariables false
set_option linter.unusedSimpArgs false

def IntsAt (w : World) (A : Option Addr) (zs : List Int) : Prop := 0 < zs.length → ∃ b off, A = some ⟨b, off, none⟩ ∧ ∀ (i : Nat) (z : Int), zs[i]? = some z → w.cell? ⟨b, off + i, none⟩ = some (.int .i64 z)
theorem IntsAt.later {w w1 : World} {A : Option Addr} {zs : List Int} (h : IntsAt w A zs) (hb : Below w.heap.size w w1) : IntsAt w1 A zs := fun hp => by
  obtain ⟨b, off, e, h⟩ := h hp
  exact ⟨b, off, e, fun i t hi => cell_later hb (h i t hi)⟩
def icells (zs : List Int) : List Value := zs.map (Value.int .i64)
theorem own_ints {w : World} {base : Nat} {e : TypeId} {v : Value} {zs : List Int} (h : w.ownsRow base e 1 v zs.length (icells zs)) : ∃ A cap, v = .slice A zs.length cap ∧ IntsAt w A zs := by
  rcases h.2 with ⟨rfl, h0⟩ | ⟨g, cap, cur, rfl, _⟩
  · exact ⟨none, 0, by rw [h0], fun hp => by omega⟩
  · refine ⟨_, cap, rfl, fun _ => ⟨g, 0, rfl, fun i z hi => ?_⟩⟩
    have hc := h.cells (g := g) rfl
    rw [Nat.zero_add, addr_add g i]
    exact hc i (.int .i64 z) (by unfold icells; rw [List.getElem?_map, hi]; rfl)

/-- in each type the attribute of a name -/
def keyOf (ts : List ST) (name : ByteArray) : List Int := (List.range ts.length).map fun (i : Nat) => attrOf ts (i : Int) name
theorem keyOf_length (ts : List ST) (name : ByteArray) : (keyOf ts name).length = ts.length := by simp [keyOf]
theorem keyOf_at (ts : List ST) (name : ByteArray) (k : Nat) (h : k < ts.length) : (keyOf ts name)[k]? = some (attrOf ts (k : Int) name) := by
  unfold keyOf
  rw [List.getElem?_map, List.getElem?_range h]
  rfl
theorem keyOf_snoc (ts : List ST) (name : ByteArray) (k : Nat) (h : k < ts.length) : icells ((keyOf ts name).take (k + 1)) = icells ((keyOf ts name).take k) ++ [.int .i64 (attrOf ts (k : Int) name)] := by
  rw [List.take_add_one, keyOf_at ts name k h]
  simp [icells]
theorem infoInt : (Try.prog.info? 3).map (fun i => (i.zero, i.size, i.bytes)) = some (some (.int .i64 0), 1, 8) := by kernel_rfl

def KeyR (u : World) (ts : List ST) (name : ByteArray) (v i : Value) (wr : World) : Prop :=
  ∃ k : Nat, k ≤ ts.length ∧ i = .int .i64 (k : Int) ∧ wr.ownsRow u.heap.size 3 1 v k (icells ((keyOf ts name).take k)) ∧ Below u.heap.size u wr

set_option maxHeartbeats 4000000 in
theorem key_any (A : Option Addr) (cap : Nat) (v2 : Value) (ts : List ST) (name : ByteArray) (w : World) (hc : TypesAt w A ts) (hn : ts.length * 40 ≤ 140737488351232) (hf : ∀ x ∈ ts, x.2.length ≤ 9223372036854775807) :
    Calls Try.prog 30 #[.agg #[.slice A ts.length cap, v2], .string name] w fun e w' => ∃ A' cap', e = .returned (.slice A' ts.length cap') ∧ IntsAt w' A' (keyOf ts name) ∧ Below w.heap.size w w' := by
  obtain ⟨i0, hi, hz0, hz1, hz2⟩ := info_parts infoInt
  have hu := m1 w (.cells #[.slice A ts.length cap, v2] 46)
  have hcu := Lib.hid (hc.later hu)
  have c0 : (w.alloc (.cells #[.slice A ts.length cap, v2] 46)).cell? ⟨w.heap.size, 0, none⟩ = some (.slice A ts.length cap) := by simp [go_sem]
  have c1 : (w.alloc (.cells #[.slice A ts.length cap, v2] 46)).cell? ⟨w.heap.size, 1, none⟩ = some v2 := by simp [go_sem]
  replace hf := Lib.hid hf
  clear hc
  go_enter Try.func30, Try.ntmps30
  go_wp2_with fail
  have hs0 : (w.alloc (.cells #[.slice A ts.length cap, v2] 46)).heap.size = w.heap.size + 1 := by simp
  rw [← hs0]
  generalize w.alloc (.cells #[.slice A ts.length cap, v2] 46) = u at *
  replace hs0 := Lib.hid hs0
  replace c1 := Lib.hid c1
  go_loopw [5, 11] (fun v i wr => KeyR u ts name v i wr) (fun _ i _ => ts.length - (intOf i).toNat)
  case atStart => exact ⟨0, Nat.zero_le _, rfl, World.ownsRow_made u #[] 0 (Nat.le_refl _) (by unfold maxLen; omega) rfl, m1 _ _⟩
  case round =>
    obtain ⟨k, hk, rfl, hO, hB⟩ := hrel
    by_cases hlt : k < ts.length
    · have q0 := cell_later hB c0
      have q1 := cell_later hB c1.out
      have SN := Lib.hid (keyOf_snoc ts name k hlt)
      have k0 : (0 : Int) ≤ (k : Int) := by omega
      have CA := Lib.hid (attr_any A cap v2 ts (k : Int) name wr (hcu.out.later hB) (by omega) hf.out)
      generalize attrOf ts (k : Int) name = r at *
      go_wp2_with fail
      refine CA.out.mono ?_; rintro e w1 ⟨rfl, hb1⟩
      have hO1 := mown_below hO hb1
      have hB1 := mmore hB hb1
      have hs1 := hB1.size
      clear hO hb1 q0 q1 CA
      go_wp2_with (at_builtin; refine wpList_append_own _ rfl (.tmp 14) (.tmp 19) 57 rfl u.heap.size 3 i0 (.int .i64 0) 1 8 Try.underlying57 hi hz0 hz1 hz2 rfl (by decide) u5 k (icells ((keyOf ts name).take k)) rfl (hO1.alloc _) ⟨w1.heap.size, 0, none⟩ 1 1 [.int .i64 r] rfl rfl ?c1 ?c2 ?c3 ?c4 ?c5 ?_)
      case c1 =>
        intro j u hj
        match j, hj with
        | 0, hj => simp at hj; subst hj; simp [Addr.add]
      case c2 => intro u hu; simp at hu; subst hu; rfl
      case c3 => unfold maxLen; omega
      case c4 => omega
      case c5 => simp; omega
      intro v' w3 hO3 hgrow _
      rw [← SN.out] at hO3
      have hB3 : Below u.heap.size u w3 := (hB1.alloc hs1 _).grown hgrow (by simp; omega) (fun g hg => (hO1.lt g hg).1)
      clear hO1 hgrow
      go_wp2
      go_roundw
      case rel => exact ⟨k + 1, by omega, by go_num, hO3, hB3⟩
      case measure => simp [intOf]; omega
    · obtain rfl : k = ts.length := by omega
      have kl := keyOf_length ts name
      rw [← kl, List.take_length] at hO
      obtain ⟨A', cap', rfl, hI⟩ := own_ints hO
      have e : (Value.slice A' (keyOf ts name).length cap') = .slice A' ts.length cap' := by rw [kl]
      rw [e]
      replace kl := Lib.hid kl
      replace e := Lib.hid e
      go_wp2_with fail
      go_ret
      exact ⟨_, _, rfl, hI, mmore hu hB⟩
end Go.Proofs.Ytpjlocmohcjpfaa
