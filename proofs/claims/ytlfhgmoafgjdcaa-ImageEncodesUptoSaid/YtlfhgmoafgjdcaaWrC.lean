/- The program's reader: the byte that stands next, a number, as contracts. -/
import Derived.Test.YtlfhgmoafgjdcaaWrB
import Derived.Defers
import Derived.Recover
namespace Go.Proofs.Ytlfhgmoafgjdcaa
open Go.ChangeShapes Go.WideShapes Go.ChangeAt Go.RowKit
set_option linter.unusedVariables false
set_option linter.unusedSimpArgs false

/-- what reading gives up with -/
def noneP : PanicEntry := { v := .iface 233 (.agg #[]), recovered := false }

/-- bytes that lie in block B, which isn't block g -/
def RdAt (w : World) (g B : Nat) (A : Option Addr) (l : List Nat) : Prop :=
  0 < l.length → B ≠ g ∧ ∃ ad, A = some ad ∧ ad.block = B ∧ ∀ j c, l[j]? = some c → w.cell? (ad.add j) = some (.int .u8 ((c : Nat) : Int))
theorem RdAt.keep {w w1 : World} {g B : Nat} {A : Option Addr} {l : List Nat} (h : RdAt w g B A l) (hk : ∀ p : Addr, p.block = B → p.block < w.heap.size → w1.cell? p = w.cell? p) : RdAt w1 g B A l := fun hl => by
  obtain ⟨h1, ad, h2, h3, h4⟩ := h hl
  refine ⟨h1, ad, h2, h3, fun j c hj => ?_⟩
  have := h4 j c hj
  rw [hk _ (by rw [block_of_add]; exact h3) (mblock this)]
  exact this
theorem RdAt.setCell {w : World} {g B : Nat} {A : Option Addr} {l : List Nat} (h : RdAt w g B A l) {p : Addr} (hp : p.block = g) (u : Value) : RdAt (w.setCell p u) g B A l := fun hl => by
  have h1 := (h hl).1
  exact (h.keep fun q hq _ => World.cell?_setCell_other w p q u (fun e => by subst e; omega)) hl
theorem RdAt.cut {w : World} {g B b c : Nat} {A : Option Addr} {r : List Nat} (h : RdAt w g B A (b :: r)) (hc : r.length + 1 ≤ c) : RdAt w g B (if c = 1 then A else A.map (·.add 1)) r := fun hl => by
  obtain ⟨h1, ad, rfl, h3, h4⟩ := h (by simp)
  rw [if_neg (by omega)]
  refine ⟨h1, ad.add 1, rfl, by rw [block_of_add]; exact h3, fun j x hj => ?_⟩
  rw [add_of_add, Nat.add_comm]
  exact h4 (j + 1) x (by simpa using hj)
/-- a reader, with the bytes behind it -/
def Rdr (w : World) (g B : Nat) (l : List Nat) : Prop :=
  ∃ A c, Blk w g 109 #[.slice A l.length c] ∧ l.length ≤ c ∧ c ≤ maxLen ∧ RdAt w g B A l
theorem Rdr.lt {w : World} {g B : Nat} {l : List Nat} (h : Rdr w g B l) : g < w.heap.size := by
  obtain ⟨A, c, hb, _⟩ := h
  exact hb.lt
theorem Rdr.later {w w1 : World} {g B : Nat} {l : List Nat} (h : Rdr w g B l) (hb : Below w.heap.size w w1) : Rdr w1 g B l := by
  obtain ⟨A, c, h1, h2, h3, h4⟩ := h
  exact ⟨A, c, h1.kept hb, h2, h3, h4.keep fun p _ hp => hb.cell hp⟩
/-- what is written elsewhere is nothing to a reader -/
theorem Rdr.grown {w w1 : World} {g B : Nat} {l : List Nat} {row : Option Nat} (h : Rdr w g B l) (hg : w.grownBy w1 row) (h1 : row ≠ some g) (h2 : row ≠ some B) : Rdr w1 g B l := by
  obtain ⟨A, c, a1, a2, a3, a4⟩ := h
  refine ⟨A, c, a1.grown hg (fun e => h1 e.symm), a2, a3, a4.keep fun p hB hp => World.cell?_of_block (hg.block p.block hp (fun e => h2 (by rw [← e, hB])))⟩
theorem Rdr.cell {w : World} {g B : Nat} {l : List Nat} (h : Rdr w g B l) : ∃ A c, w.cell? ⟨g, 0, none⟩ = some (.slice A l.length c) ∧ w.frozen? ⟨g, 0, none⟩ = false := by
  obtain ⟨A, c, h1, _⟩ := h
  exact ⟨A, c, by rw [h1.cell]; rfl, h1.free 0⟩

set_option maxHeartbeats 4000000 in
theorem next_no (g B : Nat) (w : World) (h : Rdr w g B []) : Calls Try.prog 169 #[.pointer (some ⟨g, 0, none⟩)] w fun e w' => e = .panicked [noneP] ∧ w = w' := by
  obtain ⟨A, c, h0, h1⟩ := h.cell
  rw [List.length_nil] at h0
  clear h
  go_enter Try.func169, Try.ntmps169
  go_wp2
  exact ⟨rfl, rfl, rfl⟩

/-- how reading a byte ends -/
def NextIs (g B b : Nat) (r : List Nat) (w : World) (e : Ending) (w' : World) : Prop := e = .returned (.int .u8 (b : Int)) ∧ Rdr w' g B r ∧ w.grownBy w' (some g)
set_option maxHeartbeats 4000000 in
theorem next_yes (g B b : Nat) (r : List Nat) (w : World) (h : Rdr w g B (b :: r)) : Calls Try.prog 169 #[.pointer (some ⟨g, 0, none⟩)] w (NextIs g B b r w) := by
  obtain ⟨A, c, hB, hc1, hc2, hR⟩ := h
  rw [List.length_cons] at hc1
  obtain ⟨hne, ad, rfl, hlt, hcells⟩ := id (hR (by simp))
  have r0 := hcells 0 b rfl
  have r1 : w.cell? ⟨g, 0, none⟩ = some (.slice (some ad) (r.length + 1) c) := by rw [hB.cell]; rfl
  have r2 := hB.free 0
  have hcut := hR.cut (c := c) hc1
  obtain ⟨ab, ao, au⟩ := ad
  obtain rfl : B = ab := hlt.symm
  have hz : (⟨B, ao, au⟩ : Addr).add 0 = ⟨B, ao, au⟩ := by simp [Addr.add]
  have e1 : (⟨B, ao, au⟩ : Addr).add 1 = ⟨B, ao + 1, none⟩ := by simp [Addr.add]
  rw [hz] at r0
  have key : ∀ (v : Value) (A' : Option Addr), v = .slice A' r.length (c - 1) → RdAt w g B A' r → NextIs g B b r w (.returned (.int .u8 (b : Int))) (w.setCell ⟨g, 0, none⟩ v) := by
    intro v A' hv hA
    subst hv
    exact ⟨rfl, ⟨A', c - 1, hB.put_ 0 _, by omega, by omega, hA.setCell (p := ⟨g, 0, none⟩) rfl _⟩, mset w _ _⟩
  replace key := Lib.hid key
  clear hR hcells hB hne hlt
  by_cases hc : c = 1
  · subst hc
    obtain rfl : r = [] := List.eq_nil_of_length_eq_zero (by omega)
    rw [if_pos rfl] at hcut
    replace hcut := Lib.hid hcut
    clear e1 hz
    go_enter Try.func169, Try.ntmps169
    go_wp2
    go_ret
    exact key.out _ _ rfl hcut.out
  · rw [if_neg hc, Option.map_some, e1] at hcut
    replace hcut := Lib.hid hcut
    unfold maxLen at hc2
    clear e1 hz
    go_enter Try.func169, Try.ntmps169
    go_wp2
    go_ret
    exact key.out _ _ rfl hcut.out

/-- how reading a number ends, mk what is made of it -/
def NumEnd (g B : Nat) (x : Option (Value × List Nat)) (w : World) (e : Ending) (w' : World) : Prop :=
  w.grownBy w' (some g) ∧ match x with
  | some (v, r) => e = .returned v ∧ Rdr w' g B r
  | none => e = .panicked [noneP] ∧ ∃ v, Blk w' g 109 #[v]
def numOf (l : List Nat) : Option (Value × List Nat) := (firstW l).map fun x => (.int .u64 (x.1 : Int), l.drop x.2)
theorem Rdr.blk {w : World} {g B : Nat} {l : List Nat} (h : Rdr w g B l) : ∃ v, Blk w g 109 #[v] := by
  obtain ⟨A, c, hb, _⟩ := h
  exact ⟨_, hb⟩

theorem scan10 (acc : Nat) : ∀ (l : List Nat), scanW 10 acc l = none
  | [] => rfl
  | b :: r => by rw [scanW, if_pos (by omega)]
theorem pow7 (i : Nat) : (2 : Nat) ^ (7 * i) = 128 ^ i := by rw [Nat.pow_mul]
theorem pow7I (i : Nat) : (2 : Int) ^ (7 * i) = ((128 ^ i : Nat) : Int) := by rw [← pow7, Int.natCast_pow]; rfl
theorem part_eq {i b : Nat} (hi : i < 10) (hb : b < 256) (h : ¬ (i = 9 ∧ 1 < b % 128)) : IntKind.u64.wrap ((b : Int) % 128 * 2 ^ (7 * i)) = ((b % 128 * 128 ^ i : Nat) : Int) ∧ b % 128 * 128 ^ i < 18446744073709551616 := by
  have hlt : b % 128 * 128 ^ i < 18446744073709551616 := by
    by_cases h9 : i = 9
    · subst h9
      rw [pow9]
      omega
    · have hp : (128 : Nat) ^ (i + 1) ≤ 9223372036854775808 := pow_le9 (by omega)
      have : b % 128 * 128 ^ i ≤ 127 * 128 ^ i := Nat.mul_le_mul_right _ (by omega)
      rw [Nat.pow_succ] at hp
      omega
  refine ⟨?_, hlt⟩
  rw [pow7I, IntKind.wrap_u64, show ((b : Int) % 128) = ((b % 128 : Nat) : Int) by omega, ← Int.natCast_mul]
  omega
theorem part_ok {i b : Nat} (hi : i < 10) (hb : b < 256) (h : ¬ (i = 9 ∧ 1 < b % 128)) : (IntKind.u64.wrap ((b : Int) % 128 * 2 ^ (7 * i)) / 2 ^ (7 * i) != (b : Int) % 128) = false := by
  rw [(part_eq hi hb h).1, pow7I, Int.natCast_mul, Int.mul_ediv_cancel _ (by have := Nat.pow_pos (n := i) (show 0 < 128 by decide); omega)]
  simp
theorem part_no {i b : Nat} (hb : b < 256) (h : i = 9 ∧ 1 < b % 128) : (IntKind.u64.wrap ((b : Int) % 128 * 2 ^ (7 * i)) / 2 ^ (7 * i) != (b : Int) % 128) = true := by
  obtain ⟨rfl, h⟩ := h
  rw [pow7I, pow9, IntKind.wrap_u64]
  rw [bne_iff_ne]
  omega
theorem part_or {i b acc : Nat} (hi : i < 10) (hb : b < 256) (h : ¬ (i = 9 ∧ 1 < b % 128)) (ha : acc < 128 ^ i) (ha2 : acc < 18446744073709551616) :
    bits .or .u64 (acc : Int) (IntKind.u64.wrap ((b : Int) % 128 * 2 ^ (7 * i))) = ((acc + b % 128 * 128 ^ i : Nat) : Int) ∧ acc + b % 128 * 128 ^ i < 18446744073709551616 ∧ acc + b % 128 * 128 ^ i < 128 ^ (i + 1) := by
  obtain ⟨h1, h2⟩ := part_eq hi hb h
  rw [h1, u64_or_nat _ _ ha2 h2, Nat.or_comm, nat_join (7 * i) _ _ (by rw [pow7]; exact Nat.mul_mod_left _ _) (by rw [pow7]; exact ha)]
  have hd : acc + b % 128 * 128 ^ i < 128 ^ (i + 1) := by
    have : b % 128 * 128 ^ i ≤ 127 * 128 ^ i := Nat.mul_le_mul_right _ (by omega)
    rw [Nat.pow_succ]
    omega
  refine ⟨by rw [Nat.add_comm], ?_, hd⟩
  by_cases h9 : i = 9
  · subst h9
    rw [pow9] at *
    omega
  · have hp : (128 : Nat) ^ (i + 1) ≤ 9223372036854775808 := pow_le9 (by omega)
    omega

set_option maxHeartbeats 8000000 in
set_option maxRecDepth 100000 in
theorem number_any (g B : Nat) (l : List Nat) (hl : Byt l) (w : World) (h : Rdr w g B l) : Calls Try.prog 166 #[.pointer (some ⟨g, 0, none⟩)] w (NumEnd g B (numOf l) w) := by
  go_enter Try.func166, Try.ntmps166
  go_wp2_with fail
  go_loopw [3, 8] (fun vn vi wr => ∃ (i acc : Nat), vn = .int .u64 (acc : Int) ∧ vi = .int .i64 (i : Int) ∧ i ≤ 10 ∧ acc < 128 ^ i ∧ acc < 18446744073709551616 ∧ scanW i acc (l.drop i) = firstW l ∧ i ≤ l.length ∧ Rdr wr g B (l.drop i) ∧ w.grownBy wr (some g)) (fun _ vi _ => (10 - intOf vi).toNat)
  case atStart => exact ⟨0, 0, rfl, rfl, by omega, by omega, by omega, rfl, by omega, h, World.grownBy.refl _ _⟩
  case round =>
    obtain ⟨i, acc, rfl, rfl, hi, ha1, ha2, hs, hil, hR, hg⟩ := hrel
    have i0 : (0 : Int) ≤ (i : Int) := by omega
    by_cases hi10 : i < 10
    · have hi1 : (i : Int) < 10 := by omega
      cases hr : l.drop i with
      | nil =>
        rw [hr] at hR hs
        have C := Lib.hid (next_no g B wr hR)
        replace hs := Lib.hid hs
        replace hr := Lib.hid hr
        have hfin : NumEnd g B (numOf l) w (.panicked [noneP]) wr := ⟨hg, by unfold numOf; rw [← hs.out]; exact ⟨rfl, hR.blk⟩⟩
        replace hfin := Lib.hid hfin
        go_wp2_with fail
        refine C.out.mono ?_
        rintro e w1 ⟨rfl, rfl⟩
        go_wp2_with fail
        exact ⟨rfl, hfin.out⟩
      | cons b r =>
        rw [hr] at hR hs
        have C := Lib.hid (next_yes g B b r wr hR)
        have hb : b < 256 := hl b (List.mem_of_mem_drop (i := i) (by rw [hr]; simp))
        have hb1 : (b : Int) < 256 := by omega
        have hb0 : (0 : Int) ≤ (b : Int) := by omega
        have hd : (0 : Int) ≤ (b : Int) % 128 := by omega
        have hd1 : (b : Int) % 128 < 128 := by omega
        have hgone : firstW l = none → ∀ w1, Rdr w1 g B r → wr.grownBy w1 (some g) → NumEnd g B (numOf l) w (.panicked [noneP]) w1 := fun hf w1 h1 h2 => ⟨hg.trans h2, by unfold numOf; rw [hf]; exact ⟨rfl, h1.blk⟩⟩
        have hdr : l.drop (i + 1) = r := by rw [← List.drop_drop, hr]; rfl
        have hil1 : i + 1 ≤ l.length := by
          have := congrArg List.length hr
          rw [List.length_drop] at this
          simp at this
          omega
        by_cases hbig : i = 9 ∧ 1 < b % 128
        · have hf := part_no hb hbig
          have hfin := Lib.hid (hgone (by rw [← hs, scanW, if_pos (by omega)]))
          clear hs hr hgone hdr hd hd1 hbig hil1
          go_wp2_with fail
          refine C.out.mono ?_
          rintro e w1 ⟨rfl, hR1, hg1⟩
          replace hR1 := Lib.hid hR1
          replace hg1 := Lib.hid hg1
          go_wp2
          exact ⟨rfl, hfin.out w1 hR1.out hg1.out⟩
        have hf := part_ok hi10 hb hbig
        obtain ⟨ho1, ho2, ho3⟩ := part_or hi10 hb hbig ha1 ha2
        replace ho1 := Lib.hid ho1
        replace ho3 := Lib.hid ho3
        by_cases hz : b = 0 ∧ 0 < i
        · have hz0 : ((b : Int) == 0) = true := by rw [beq_iff_eq]; omega
          have hzi : decide (0 < i) = true := by simp; omega
          have hfin := Lib.hid (hgone (by rw [← hs, scanW, if_pos (by omega)]))
          clear hs hr hgone hdr hd hd1 hbig hil1 hz
          go_wp2_with fail
          refine C.out.mono ?_
          rintro e w1 ⟨rfl, hR1, hg1⟩
          replace hR1 := Lib.hid hR1
          replace hg1 := Lib.hid hg1
          go_wp2
          exact ⟨rfl, hfin.out w1 hR1.out hg1.out⟩
        have hret : b < 128 → ∀ w1, Rdr w1 g B r → wr.grownBy w1 (some g) → NumEnd g B (numOf l) w (.returned (.int .u64 ((acc + b % 128 * 128 ^ i : Nat) : Int))) w1 := fun hb7 w1 h1 h2 => ⟨hg.trans h2, by
          unfold numOf
          rw [← hs, scanW, if_neg (by omega), if_pos hb7]
          refine ⟨rfl, ?_⟩
          rw [hdr]
          exact h1⟩
        have hmore : ¬ b < 128 → scanW (i + 1) (acc + b % 128 * 128 ^ i) (l.drop (i + 1)) = firstW l := fun hb7 => by
          by_cases h9 : i = 9
          · subst h9
            rw [scan10, ← hs, scanW, if_pos (by omega)]
          · rw [hdr, ← hs, scanW, if_neg (by omega), if_neg hb7]
        replace hret := Lib.hid hret
        replace hmore := Lib.hid hmore
        have hzz : (((b : Int) == 0) = true ∧ decide (0 < i) = false) ∨ ((b : Int) == 0) = false := by
          by_cases hb0 : b = 0
          · left
            exact ⟨by rw [beq_iff_eq]; omega, by simp; omega⟩
          · right
            rw [beq_eq_false_iff_ne]
            omega
        replace hdr := Lib.hid hdr
        clear hs hr hgone hd hd1 hbig hz
        by_cases hb7 : b < 128
        · have hb7' : (b : Int) < 128 := by omega
          have hfin := Lib.hid (hret.out hb7)
          clear hb7
          rcases hzz with ⟨hz0, hz1⟩ | hz0
          all_goals
            go_wp2_with fail
            refine C.out.mono ?_
            rintro e w1 ⟨rfl, hR1, hg1⟩
            replace hR1 := Lib.hid hR1
            replace hg1 := Lib.hid hg1
            go_wp2
            go_ret
            rw [ho1.out]
            exact hfin.out w1 hR1.out hg1.out
        · have hb7' : ¬ (b : Int) < 128 := by omega
          have hfin := Lib.hid (hmore.out hb7)
          have hz0 : ((b : Int) == 0) = false := by rw [beq_eq_false_iff_ne]; omega
          clear hb7 hzz
          go_wp2_with fail
          refine C.out.mono ?_
          rintro e w1 ⟨rfl, hR1, hg1⟩
          replace hR1 := Lib.hid hR1
          replace hg1 := Lib.hid hg1
          go_wp2
          go_roundw
          case rel => exact ⟨i + 1, acc + b % 128 * 128 ^ i, by rw [ho1.out], by go_num, by omega, ho3.out, ho2, hfin.out, hil1, by rw [hdr.out]; exact hR1.out, hg.trans hg1.out⟩
          case measure => simp [intOf]; omega
    · obtain rfl : i = 10 := by omega
      have hfin : NumEnd g B (numOf l) w (.panicked [noneP]) wr := ⟨hg, by unfold numOf; rw [← hs, scan10]; exact ⟨rfl, hR.blk⟩⟩
      replace hfin := Lib.hid hfin
      clear hs ha1 hR
      go_wp2
      exact ⟨rfl, hfin.out⟩

/-- a number with a sign -/
def intOfL (l : List Nat) : Option (Value × List Nat) := (firstW l).map fun x => (.int .i64 (zag x.1), l.drop x.2)
set_option maxHeartbeats 4000000 in
set_option maxRecDepth 100000 in
theorem signed_any (g B : Nat) (l : List Nat) (hl : Byt l) (w : World) (h : Rdr w g B l) : Calls Try.prog 172 #[.pointer (some ⟨g, 0, none⟩)] w (NumEnd g B (intOfL l) w) := by
  have C := number_any g B l hl w h
  unfold numOf at C
  unfold intOfL
  cases hf : firstW l with
  | none =>
    rw [hf] at C
    replace C := Lib.hid C
    clear hf
    go_enter Try.func172, Try.ntmps172
    go_wp2_with fail
    refine C.out.mono ?_
    rintro e w1 ⟨h1, rfl, h3⟩
    replace h1 := Lib.hid h1
    replace h3 := Lib.hid h3
    go_wp2
    exact ⟨rfl, h1.out, rfl, h3.out⟩
  | some x =>
    obtain ⟨n, k⟩ := x
    rw [hf] at C
    have hn := (first_back hl hf).2.2.2.2
    replace C := Lib.hid C
    clear hf
    have n0 : (0 : Int) ≤ (n : Int) := by omega
    have n2 : (n : Int) / 2 ≤ 9223372036854775807 := by omega
    have hx := Lib.hid (i64_notN (n / 2) (by omega))
    by_cases ho : n % 2 = 1
    · have ho' : ((n : Int) % 2 == 1) = true := by rw [beq_iff_eq]; omega
      have hz := Lib.hid (show zag n = -1 - ((n / 2 : Nat) : Int) by unfold zag; rw [if_pos ho]; omega)
      clear ho hn
      go_enter Try.func172, Try.ntmps172
      go_wp2_with fail
      refine C.out.mono ?_
      rintro e w1 ⟨h1, rfl, h3⟩
      replace h1 := Lib.hid h1
      replace h3 := Lib.hid h3
      go_wp2
      go_ret
      refine ⟨h1.out, ?_, h3.out⟩
      have := hx.out
      rw [hz.out, ← this]
      first | rfl | (congr 2)
    · have ho' : ((n : Int) % 2 == 1) = false := by rw [beq_eq_false_iff_ne]; omega
      have hz := Lib.hid (show zag n = ((n / 2 : Nat) : Int) by unfold zag; rw [if_neg ho])
      clear ho hn
      go_enter Try.func172, Try.ntmps172
      go_wp2_with fail
      refine C.out.mono ?_
      rintro e w1 ⟨h1, rfl, h3⟩
      replace h1 := Lib.hid h1
      replace h3 := Lib.hid h3
      go_wp2
      go_ret
      refine ⟨h1.out, ?_, h3.out⟩
      rw [hz.out]
      first | rfl | (congr 2)
end Go.Proofs.Ytlfhgmoafgjdcaa
