/- The document's numbers and sums of layer 20, as plain functions of lists of bytes: what is written is read again, what was read is what was written, and a sum is linear. -/
import Derived.Calls
set_option linter.unusedVariables false
namespace Go.Proofs.Ytlfhgmoafgjdcaa

/-- every one is a byte -/
def Byt (l : List Nat) : Prop := ∀ c ∈ l, c < 256
theorem Byt.cons {a : Nat} {l : List Nat} (h : a < 256) (hl : Byt l) : Byt (a :: l) := fun c hc => by
  rcases List.mem_cons.1 hc with rfl | hc
  · exact h
  · exact hl c hc
theorem Byt.append {a b : List Nat} (ha : Byt a) (hb : Byt b) : Byt (a ++ b) := fun c hc => by
  rcases List.mem_append.1 hc with h | h
  · exact ha c h
  · exact hb c h
theorem Byt.take {l : List Nat} (h : Byt l) (k : Nat) : Byt (l.take k) := fun c hc => h c (List.mem_of_mem_take hc)
theorem Byt.drop {l : List Nat} (h : Byt l) (k : Nat) : Byt (l.drop k) := fun c hc => h c (List.mem_of_mem_drop hc)
theorem Byt.nil : Byt [] := fun c hc => by simp at hc
theorem Byt.get {l : List Nat} (h : Byt l) {j c : Nat} (hj : l[j]? = some c) : c < 256 := h c (List.mem_of_getElem? hj)

/-- digits to the base 128 -/
def uintL (n : Nat) : List Nat := if n < 128 then [n] else (n % 128 + 128) :: uintL (n / 128)
termination_by n
decreasing_by omega
theorem uintL_small {n : Nat} (h : n < 128) : uintL n = [n] := by rw [uintL, if_pos h]
theorem uintL_more {n : Nat} (h : 128 ≤ n) : uintL n = (n % 128 + 128) :: uintL (n / 128) := by rw [uintL, if_neg (by omega)]
theorem uintL_byt (n : Nat) : Byt (uintL n) := by
  induction n using Nat.strongRecOn with
  | ind n ih =>
    by_cases h : n < 128
    · rw [uintL_small h]; exact Byt.cons (by omega) Byt.nil
    · rw [uintL_more (by omega)]; exact Byt.cons (by omega) (ih _ (by omega))
theorem uintL_length : ∀ (k n : Nat), 0 < k → n < 128 ^ k → 0 < (uintL n).length ∧ (uintL n).length ≤ k
  | 0, n, h, _ => by omega
  | k + 1, n, _, h => by
    by_cases h1 : n < 128
    · rw [uintL_small h1]; simp
    · rw [uintL_more (by omega)]
      have hk : 0 < k := by
        rcases Nat.eq_zero_or_pos k with rfl | h0
        · simp at h; omega
        · exact h0
      have := uintL_length k (n / 128) hk (by rw [Nat.pow_succ] at h; omega)
      simp; omega
theorem uintL_len {n : Nat} (h : n < 18446744073709551616) : 0 < (uintL n).length ∧ (uintL n).length ≤ 10 := uintL_length 10 n (by decide) (by omega)

/-- a number with a sign as one without -/
def zig (m : Int) : Nat := if m < 0 then (2 * (-(m + 1)) + 1).toNat else (2 * m).toNat
def zag (n : Nat) : Int := if n % 2 = 1 then -((n / 2 : Nat) : Int) - 1 else ((n / 2 : Nat) : Int)
theorem zag_zig (m : Int) : zag (zig m) = m := by
  unfold zag zig
  split <;> split <;> omega
theorem zig_zag (n : Nat) : zig (zag n) = n := by
  unfold zag zig
  split <;> split <;> omega
theorem zig_lt {m : Int} (h1 : -9223372036854775808 ≤ m) (h2 : m ≤ 9223372036854775807) : zig m < 18446744073709551616 := by
  unfold zig
  split <;> omega
theorem zag_in {n : Nat} (h : n < 18446744073709551616) : -9223372036854775808 ≤ zag n ∧ zag n ≤ 9223372036854775807 := by
  unfold zag
  split <;> omega

/-- the number with which bytes begin, and how many they are -/
def scanW : Nat → Nat → List Nat → Option (Nat × Nat)
  | _, _, [] => none
  | i, acc, b :: r => if 10 ≤ i ∨ (i = 9 ∧ 1 < b) ∨ (0 < i ∧ b = 0) then none else if b < 128 then some (acc + b % 128 * 128 ^ i, i + 1) else scanW (i + 1) (acc + b % 128 * 128 ^ i) r
def firstW (l : List Nat) : Option (Nat × Nat) := scanW 0 0 l

theorem pow9 : (128 : Nat) ^ 9 = 9223372036854775808 := by decide
theorem pow_le9 {i : Nat} (h : i ≤ 9) : (128 : Nat) ^ i ≤ 9223372036854775808 := by rw [← pow9]; exact Nat.pow_le_pow_right (by decide) h

/-- what is written is read -/
theorem scan_uint : ∀ (m i acc : Nat) (r : List Nat), i ≤ 9 → (0 < i → 0 < m) → m * 128 ^ i < 18446744073709551616 → scanW i acc (uintL m ++ r) = some (acc + m * 128 ^ i, i + (uintL m).length) := by
  intro m
  induction m using Nat.strongRecOn with
  | ind m ih =>
    intro i acc r hi h0 hm
    have h9 : i = 9 → m < 2 := by
      rintro rfl
      rw [pow9] at hm
      omega
    by_cases h : m < 128
    · rw [uintL_small h, List.cons_append, scanW, if_neg (by omega), if_pos h, Nat.mod_eq_of_lt h]
      rfl
    · rw [uintL_more (by omega), List.cons_append, scanW, if_neg (by omega), if_neg (by omega)]
      have hp : m * 128 ^ i = (m % 128) * 128 ^ i + (m / 128) * 128 ^ (i + 1) := by
        conv => lhs; rw [← Nat.div_add_mod m 128, Nat.add_mul]
        rw [Nat.pow_succ, Nat.add_comm]
        congr 1
        rw [Nat.mul_comm 128, Nat.mul_assoc, Nat.mul_comm 128]
      have hle : (m / 128) * 128 ^ (i + 1) ≤ m * 128 ^ i := by rw [hp]; exact Nat.le_add_left _ _
      rw [show (m % 128 + 128) % 128 = m % 128 by omega, ih (m / 128) (by omega) (i + 1) _ r (by omega) (by omega) (by omega), hp]
      simp only [List.length_cons, Option.some.injEq, Prod.mk.injEq]
      omega
theorem first_uint {n : Nat} (h : n < 18446744073709551616) (r : List Nat) : firstW (uintL n ++ r) = some (n, (uintL n).length) := by
  have := scan_uint n 0 0 r (by omega) (by omega) (by simpa using h)
  simpa [firstW] using this

/-- what is read was written so -/
theorem scan_back : ∀ (l : List Nat) (i acc n k : Nat), Byt l → acc < 128 ^ i → scanW i acc l = some (n, k) → ∃ m, n = acc + m * 128 ^ i ∧ i < k ∧ k ≤ i + l.length ∧ k ≤ 10 ∧ uintL m = l.take (k - i) ∧ (0 < i → 0 < m) ∧ n < 18446744073709551616
  | [], i, acc, n, k, _, _, h => by simp [scanW] at h
  | b :: r, i, acc, n, k, hb, hacc, h => by
    have hb0 : b < 256 := hb b (by simp)
    have hbr : Byt r := fun c hc => hb c (by simp [hc])
    rw [scanW] at h
    split at h
    · cases h
    · rename_i hno
      have hi : i ≤ 9 := by omega
      split at h
      · rename_i hlt
        simp only [Option.some.injEq, Prod.mk.injEq] at h
        obtain ⟨rfl, rfl⟩ := h
        rw [Nat.mod_eq_of_lt hlt]
        refine ⟨b, rfl, by omega, by simp, by omega, ?_, by omega, ?_⟩
        · rw [uintL_small hlt, show i + 1 - i = 1 by omega]; rfl
        · by_cases h9 : i = 9
          · subst h9
            rw [pow9] at *
            omega
          · have hp : (128 : Nat) ^ (i + 1) ≤ 9223372036854775808 := pow_le9 (by omega)
            have : b * 128 ^ i ≤ 127 * 128 ^ i := Nat.mul_le_mul_right _ (by omega)
            rw [Nat.pow_succ] at hp
            omega
      · rename_i hge
        have hacc' : acc + b % 128 * 128 ^ i < 128 ^ (i + 1) := by
          have : b % 128 * 128 ^ i ≤ 127 * 128 ^ i := Nat.mul_le_mul_right _ (by omega)
          rw [Nat.pow_succ]
          omega
        obtain ⟨m, h1, h2, h3, h4, h5, h6, h7⟩ := scan_back r (i + 1) _ n k hbr hacc' h
        have hm : 0 < m := h6 (by omega)
        refine ⟨b % 128 + 128 * m, ?_, by omega, by simp; omega, h4, ?_, by omega, h7⟩
        · rw [h1, Nat.pow_succ, Nat.add_mul, Nat.add_assoc]
          congr 2
          rw [Nat.mul_comm 128 m, Nat.mul_assoc, Nat.mul_comm 128]
        · rw [uintL_more (by omega), show (b % 128 + 128 * m) % 128 + 128 = b by omega, show (b % 128 + 128 * m) / 128 = m by omega, h5, show k - i = (k - (i + 1)) + 1 by omega, List.take_succ_cons]
theorem first_back {l : List Nat} {n k : Nat} (hb : Byt l) (h : firstW l = some (n, k)) : uintL n = l.take k ∧ 0 < k ∧ k ≤ l.length ∧ k ≤ 10 ∧ n < 18446744073709551616 := by
  obtain ⟨m, h1, h2, h3, h4, h5, h6, h7⟩ := scan_back l 0 0 n k hb (by simp) h
  simp at h1 h5 h3
  subst h1
  exact ⟨h5, h2, h3, h4, h7⟩
/-- no number's bytes begin another one's -/
theorem uintL_prefix {n m : Nat} (hn : n < 18446744073709551616) (hm : m < 18446744073709551616) (h : (uintL m).take (uintL n).length = uintL n) : n = m := by
  have h1 := first_uint hm []
  have h4 := first_uint hn ((uintL m).drop (uintL n).length)
  have h3 : uintL n ++ (uintL m).drop (uintL n).length = uintL m := by
    have := List.take_append_drop (uintL n).length (uintL m)
    rwa [h] at this
  rw [h3] at h4
  rw [List.append_nil, h4] at h1
  simp only [Option.some.injEq, Prod.mk.injEq] at h1
  exact h1.1

/-! ### sums -/
def crc1 (x : Nat) : Nat := (x / 2) ^^^ (x % 2 * 3988292384)
def crcN : Nat → Nat → Nat
  | 0, x => x
  | k + 1, x => crcN k (crc1 x)
def crcB (x c : Nat) : Nat := crcN 8 (x ^^^ c)
def crcL (x : Nat) (l : List Nat) : Nat := l.foldl crcB x
def sumL (l : List Nat) : Nat := crcL 4294967295 l ^^^ 4294967295

theorem xor_half (x y : Nat) : (x ^^^ y) / 2 = (x / 2) ^^^ (y / 2) := by
  have := Nat.shiftRight_xor_distrib (a := x) (b := y) (i := 1)
  simpa [Nat.shiftRight_eq_div_pow] using this
theorem xor_odd (x y : Nat) : (x ^^^ y) % 2 = (x % 2) ^^^ (y % 2) := by
  have := Nat.xor_mod_two_pow (a := x) (b := y) (n := 1)
  simpa using this
theorem crc1_xor (x y : Nat) : crc1 (x ^^^ y) = crc1 x ^^^ crc1 y := by
  unfold crc1
  rw [xor_half, xor_odd]
  rcases Nat.mod_two_eq_zero_or_one x with hx | hx <;> rcases Nat.mod_two_eq_zero_or_one y with hy | hy <;> rw [hx, hy]
  · simp
  · simp [Nat.xor_assoc]
  · simp only [Nat.xor_zero, Nat.one_mul, Nat.zero_mul]
    rw [Nat.xor_assoc, Nat.xor_assoc, Nat.xor_comm (y / 2)]
  · simp only [Nat.xor_self, Nat.one_mul, Nat.zero_mul, Nat.xor_zero]
    rw [Nat.xor_assoc, Nat.xor_comm (y / 2), ← Nat.xor_assoc 3988292384, Nat.xor_self, Nat.zero_xor]
theorem crcN_xor : ∀ (k x y : Nat), crcN k (x ^^^ y) = crcN k x ^^^ crcN k y
  | 0, _, _ => rfl
  | k + 1, x, y => by rw [crcN, crcN, crcN, crc1_xor, crcN_xor k]
theorem xor_swap (a b c d : Nat) : (a ^^^ b) ^^^ (c ^^^ d) = (a ^^^ c) ^^^ (b ^^^ d) := by
  rw [Nat.xor_assoc, Nat.xor_assoc, ← Nat.xor_assoc b, Nat.xor_comm b c, Nat.xor_assoc c]
theorem crcB_xor (x y c d : Nat) : crcB (x ^^^ y) (c ^^^ d) = crcB x c ^^^ crcB y d := by
  unfold crcB
  rw [xor_swap, crcN_xor]
/-- two lists as long, xored -/
def xorL (a b : List Nat) : List Nat := List.zipWith (· ^^^ ·) a b
theorem crcL_xor : ∀ (a b : List Nat) (x y : Nat), a.length = b.length → crcL (x ^^^ y) (xorL a b) = crcL x a ^^^ crcL y b
  | [], [], _, _, _ => rfl
  | a :: as, b :: bs, x, y, h => by
    show crcL (crcB (x ^^^ y) (a ^^^ b)) (xorL as bs) = _
    rw [crcB_xor, crcL_xor as bs _ _ (by simpa using h)]
    rfl
  | [], _ :: _, _, _, h => by simp at h
  | _ :: _, [], _, _, h => by simp at h
theorem xor_cancel (a b c : Nat) : (a ^^^ c) ^^^ (b ^^^ c) = a ^^^ b := by rw [xor_swap, Nat.xor_self, Nat.xor_zero]
theorem sumL_xor (a b : List Nat) (h : a.length = b.length) : sumL a ^^^ sumL b = crcL 0 (xorL a b) := by
  unfold sumL
  rw [xor_cancel, ← crcL_xor a b _ _ h, Nat.xor_self]
theorem xorL_zero : ∀ (a : List Nat), xorL a (List.replicate a.length 0) = a
  | [] => rfl
  | a :: as => by
    show (a ^^^ 0) :: xorL as (List.replicate as.length 0) = _
    rw [xorL_zero as, Nat.xor_zero]
/-- of two texts as long the sums differ as the sum of both, xored, and that of as many noughts do -/
theorem sumL_joins (a b : List Nat) (h : a.length = b.length) : sumL a ^^^ sumL b = sumL (xorL a b) ^^^ sumL (List.replicate a.length 0) := by
  have hl : (xorL a b).length = a.length := by unfold xorL; simp; omega
  have h2 := sumL_xor (xorL a b) (List.replicate a.length 0) (by rw [hl]; simp)
  have h3 := xorL_zero (xorL a b)
  rw [hl] at h3
  rw [h2, h3, sumL_xor a b h]
theorem crc1_lt {x : Nat} (h : x < 4294967296) : crc1 x < 4294967296 := by
  unfold crc1
  have : x / 2 ^^^ (x % 2 * 3988292384) < 2 ^ 32 := Nat.xor_lt_two_pow (by omega) (by omega)
  omega
theorem crc1_zero {x : Nat} (h : x < 4294967296) (h0 : crc1 x = 0) : x = 0 := by
  unfold crc1 at h0
  have : x / 2 = x % 2 * 3988292384 := by
    have := congrArg (· ^^^ (x % 2 * 3988292384)) h0
    simp only [Nat.zero_xor] at this
    rwa [Nat.xor_assoc, Nat.xor_self, Nat.xor_zero] at this
  omega
theorem crcN_lt : ∀ (k : Nat) {x : Nat}, x < 4294967296 → crcN k x < 4294967296
  | 0, _, h => h
  | k + 1, _, h => crcN_lt k (crc1_lt h)
theorem crcN_zero : ∀ (k : Nat) {x : Nat}, x < 4294967296 → crcN k x = 0 → x = 0
  | 0, _, _, h => h
  | k + 1, x, h, h0 => crc1_zero h (crcN_zero k (crc1_lt h) h0)
theorem xor_lt32 {x c : Nat} (h : x < 4294967296) (hc : c < 4294967296) : x ^^^ c < 4294967296 := by
  have : x ^^^ c < 2 ^ 32 := Nat.xor_lt_two_pow (by omega) (by omega)
  omega
theorem crcL_lt : ∀ (l : List Nat) {x : Nat}, Byt l → x < 4294967296 → crcL x l < 4294967296
  | [], _, _, h => h
  | c :: l, _, hb, h => by
    have hc : c < 256 := hb c (by simp)
    exact crcL_lt l (fun d hd => hb d (by simp [hd])) (crcN_lt 8 (xor_lt32 h (by omega)))
theorem sumL_lt {l : List Nat} (h : Byt l) : sumL l < 4294967296 := xor_lt32 (crcL_lt l h (by decide)) (by decide)
/-- noughts leave what isn't nought, not nought -/
theorem crcL_ne : ∀ (k : Nat) {x : Nat}, x < 4294967296 → x ≠ 0 → crcL x (List.replicate k 0) ≠ 0
  | 0, _, _, h0 => h0
  | k + 1, x, h, h0 => by
    show crcL (crcB x 0) (List.replicate k 0) ≠ 0
    have hx : crcB x 0 = crcN 8 x := by unfold crcB; rw [Nat.xor_zero]
    rw [hx]
    exact crcL_ne k (crcN_lt 8 h) (fun e => h0 (crcN_zero 8 h e))
theorem crcL_zero : ∀ (k : Nat), crcL 0 (List.replicate k 0) = 0
  | 0 => rfl
  | k + 1 => by
    show crcL (crcB 0 0) (List.replicate k 0) = 0
    rw [show crcB 0 0 = 0 by decide]
    exact crcL_zero k
theorem xorL_self : ∀ (a : List Nat), xorL a a = List.replicate a.length 0
  | [] => rfl
  | a :: as => by
    show (a ^^^ a) :: xorL as as = _
    rw [xorL_self as, Nat.xor_self]
    rfl
/-- one byte that is another one turns the sum -/
theorem sumL_turned {a : List Nat} (ha : Byt a) {k c d : Nat} (hk : a[k]? = some c) (hd : d < 256) (hne : d ≠ c) : sumL (a.set k d) ≠ sumL a := by
  intro he
  have hl : k < a.length := (List.getElem?_eq_some_iff.1 hk).1
  have h1 := sumL_xor (a.set k d) a (by simp)
  rw [he, Nat.xor_self] at h1
  have hc : c < 256 := ha.get hk
  have hsplit : xorL (a.set k d) a = List.replicate k 0 ++ ((d ^^^ c) :: List.replicate (a.length - (k + 1)) 0) := by
    have e1 : a = a.take k ++ c :: a.drop (k + 1) := by
      have := List.take_append_drop k a
      rw [List.drop_eq_getElem_cons hl] at this
      rw [(List.getElem?_eq_some_iff.1 hk).2] at this
      exact this.symm
    have e2 : a.set k d = a.take k ++ d :: a.drop (k + 1) := by
      rw [List.set_eq_take_append_cons_drop, if_pos hl]
    rw [e2]
    conv => lhs; rw [e1]
    unfold xorL
    have hlk : (a.take k).length = k := by rw [List.length_take]; omega
    rw [List.take_append_of_le_length (by omega), List.take_take, Nat.min_self]
    rw [show (a.take k ++ c :: a.drop (k + 1)).drop (k + 1) = a.drop (k + 1) by rw [← e1]]
    rw [List.zipWith_append rfl, List.zipWith_cons_cons]
    have x1 := xorL_self (a.take k)
    have x2 := xorL_self (a.drop (k + 1))
    unfold xorL at x1 x2
    rw [x1, x2, hlk, List.length_drop]
  rw [hsplit] at h1
  unfold crcL at h1
  rw [List.foldl_append] at h1
  have hz : List.foldl crcB 0 (List.replicate k 0) = 0 := crcL_zero k
  rw [hz, List.foldl_cons] at h1
  have hx0 : d ^^^ c ≠ 0 := by
    intro e
    apply hne
    have := congrArg (· ^^^ c) e
    simp only [Nat.zero_xor] at this
    rwa [Nat.xor_assoc, Nat.xor_self, Nat.xor_zero] at this
  have hx : crcB 0 (d ^^^ c) = crcN 8 (d ^^^ c) := by unfold crcB; rw [Nat.zero_xor]
  rw [hx] at h1
  have hb : d ^^^ c < 4294967296 := xor_lt32 (by omega) (by omega)
  exact crcL_ne _ (crcN_lt 8 hb) (fun e => hx0 (crcN_zero 8 hb e)) h1.symm
end Go.Proofs.Ytlfhgmoafgjdcaa
