/- Bytes held against bytes; an image's sum: contracts. -/
import Derived.Test.YtlfhgmoafgjdcaaWrF
namespace Go.Proofs.Ytlfhgmoafgjdcaa
open Go.ChangeShapes Go.WideShapes Go.ChangeAt Go.RowKit
set_option linter.unusedVariables false
set_option linter.unusedSimpArgs false
theorem Bys.suf {w : World} {ad : Addr} {l : List Nat} (k : Nat) (h : Bys w (some ad) l) (hk : k ≤ l.length) : Bys w (some (ad.add k)) (l.drop k) := by
  by_cases h0 : k = l.length
  · subst h0
    rw [List.drop_length]
    exact Bys.nil _ _
  · obtain ⟨ad', e, h2, h3⟩ := h.2 (by omega)
    injection e with e
    subst e
    refine ⟨by rw [bcells_length, Nat.mul_one], fun hp => ⟨ad.add k, rfl, ?_, fun j u hj => ?_⟩⟩
    · have : (ad.add k).block = ad.block := by unfold Addr.add; split <;> rfl
      rw [this]
      exact h2
    · rw [Addr.add_add]
      refine h3 (k + j) u ?_
      unfold bcells at *
      rw [List.getElem?_map] at hj ⊢
      rw [List.getElem?_drop] at hj
      exact hj
set_option maxRecDepth 100000 in
theorem bytesEq_any (A A' : Option Addr) (l l' : List Nat) (c c' : Nat) (hl : Byt l) (hl' : Byt l') (w : World) (h : Bys w A l) (h' : Bys w A' l') :
    Calls Try.prog 56 #[.slice A l.length c, .slice A' l'.length c'] w fun e w' => e = .returned (.bool (decide (l = l'))) ∧ w' = w := by
  have s1 := conv_str (w := w) (A := A) (l := l) (c := c) rfl h
  have s2 := conv_str (w := w) (A := A') (l := l') (c := c') rfl h'
  by_cases he : l = l'
  · subst he
    go_enter Try.func56, Try.ntmps56
    go_wp2
    go_ret
    exact ⟨by simp, rfl⟩
  · have hs := toList_neM (fun e => he (strOf_inj hl hl' e))
    have hd : decide (l = l') = false := by simpa using he
    go_enter Try.func56, Try.ntmps56
    go_wp2
    go_ret
    exact ⟨by rw [hd]; rfl, rfl⟩
set_option maxHeartbeats 4000000 in
set_option maxRecDepth 100000 in
theorem prefix_any (A A' : Option Addr) (l p : List Nat) (c c' : Nat) (hl : Byt l) (hp : Byt p) (w : World) (h : Bys w A l) (h' : Bys w A' p) (hc : l.length ≤ c) (h63 : l.length ≤ 140737488355328) :
    Calls Try.prog 31 #[.slice A l.length c, .slice A' p.length c'] w fun e w' => e = .returned (.bool (decide (l.take p.length = p))) ∧ w' = w := by
  by_cases hn : p.length ≤ l.length
  · have C := bytesEq_any A A' (l.take p.length) p c c' (hl.take _) hp w (h.pre hn) h'
    rw [List.length_take, Nat.min_eq_left hn] at C
    have i1 : (p.length : Int) ≤ (l.length : Int) := by omega
    have i2 : (p.length : Int) ≤ (c : Int) := by omega
    have i3 : (0 : Int) ≤ (p.length : Int) := by omega
    have i4 : p.length ≤ c := by omega
    obtain ⟨n, hn2⟩ : ∃ n, n = p.length := ⟨_, rfl⟩
    obtain ⟨m, hm2⟩ : ∃ m, m = l.length := ⟨_, rfl⟩
    rw [← hn2] at C i1 i2 i3 i4 hn ⊢
    rw [← hm2] at i1 hn hc h63 ⊢
    obtain ⟨d, hd⟩ : ∃ d, d = decide (l.take n = p) := ⟨_, rfl⟩
    rw [← hd] at C ⊢
    replace C := Lib.hid C
    clear hd h h' hn2 hm2 hl hp
    go_enter Try.func31, Try.ntmps31
    go_wp2_with fail
    refine C.out.mono ?_; rintro e u ⟨rfl, rfl⟩
    go_wp2
    go_ret
    exact ⟨rfl, rfl⟩
  · have hd : decide (l.take p.length = p) = false := by
      rw [decide_eq_false_iff_not]
      intro e
      have := congrArg List.length e
      rw [List.length_take] at this
      omega
    rw [hd]
    have i1 : ¬ (p.length : Int) ≤ (l.length : Int) := by omega
    clear hd
    go_enter Try.func31, Try.ntmps31
    go_wp2
    go_ret
    exact ⟨rfl, rfl⟩
set_option maxHeartbeats 4000000 in
set_option maxRecDepth 100000 in
theorem suffix_any (ad : Addr) (A' : Option Addr) (l p : List Nat) (c c' : Nat) (hl : Byt l) (hp : Byt p) (w : World) (h : Bys w (some ad) l) (h' : Bys w A' p) (hc : l.length ≤ c) (h63 : l.length ≤ 140737488355328) (hn : p.length ≤ l.length) (hp0 : 0 < p.length) :
    Calls Try.prog 32 #[.slice (some ad) l.length c, .slice A' p.length c'] w fun e w' => e = .returned (.bool (decide (l.drop (l.length - p.length) = p))) ∧ w' = w := by
  have C := fun c => bytesEq_any (some (ad.add (l.length - p.length))) A' (l.drop (l.length - p.length)) p c c' (fun z hz => hl z (List.mem_of_mem_drop hz)) hp w (h.suf _ (by omega)) h'
  rw [List.length_drop, show l.length - (l.length - p.length) = p.length by omega] at C
  have i1 : (p.length : Int) ≤ (l.length : Int) := by omega
  have i2 : (l.length : Int) ≤ (c : Int) := by omega
  have i3 : (0 : Int) ≤ (p.length : Int) := by omega
  obtain ⟨n, hn2⟩ : ∃ n, n = p.length := ⟨_, rfl⟩
  obtain ⟨m, hm2⟩ : ∃ m, m = l.length := ⟨_, rfl⟩
  rw [← hn2, ← hm2] at C ⊢
  rw [← hn2] at i1 i3 hn hp0
  rw [← hm2] at i1 i2 hn hc h63
  obtain ⟨d, hd⟩ : ∃ d, d = decide (l.drop (m - n) = p) := ⟨_, rfl⟩
  rw [← hd] at C ⊢
  replace C := Lib.hid C
  clear hd h h' hn2 hm2 hl hp
  have j5 : ¬ c = m - n := by omega
  have j6 : ¬ m - n = c := by omega
  have j8 : m - n < c := by omega
  have j1 : (m : Int) - (n : Int) = ((m - n : Nat) : Int) := by omega
  have j2 : m - (m - n) = n := by omega
  have j3 : IntKind.i64.wrap ((m : Int) - (n : Int)) = ((m - n : Nat) : Int) := by rw [IntKind.wrap_i64]; omega
  go_enter Try.func32, Try.ntmps32
  go_wp2_with fail
  refine (C.out _).mono ?_; rintro e u ⟨rfl, rfl⟩
  go_wp2
  go_ret
  exact ⟨rfl, rfl⟩
end Go.Proofs.Ytlfhgmoafgjdcaa
