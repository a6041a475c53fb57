/- The line of a match, as a contract. -/
import Derived.Test.YtmebbhlebehliaaDoorGood
import Derived.Laws.BytesArg
import Derived.Maps.AppendAt
import Derived.Lib.ItoaNum
namespace Go.Proofs.YtmebbhlebehliaaDoor
open Go.ChangeShapes Go.WideShapes Go.ChangeAt Go.RowKit
set_option linter.unusedVariables false
set_option linter.unusedSimpArgs false

def placesB : List Int → List UInt8
  | [] => []
  | x :: r => 32 :: (Lib.itoa x ++ placesB r)
def partsB : Nat → List (List Int) → List UInt8
  | _, [] => []
  | i, l :: r => (if 0 < i then [59] else []) ++ (placesB l ++ partsB (i + 1) r)
def lineB (st br : Int) (bs : List (List Int)) : List UInt8 := Lib.itoa st ++ (32 :: (Lib.itoa br ++ (58 :: partsB 0 bs)))
def lineOf (st br : Int) (bs : List (List Int)) : ByteArray := if goodP st br bs 9223372036854775807 then ⟨(lineB st br bs).toArray⟩ else ⟨#[]⟩
theorem infoB : (Tryd.prog.info? 5).map (fun i => (i.zero, i.size, i.bytes)) = some (some (.int .u8 0), 1, 1) := by kernel_rfl

/-- the bytes that are written so far -/
def LnJ (u : World) (v : Value) (done : List UInt8) (w : World) : Prop := w.ownsRow u.heap.size 5 1 v done.length (Lib.byteCells done) ∧ Below u.heap.size u w

theorem wpList_byte {ops : Array Oper} {rest : List Oper} {o : Oper} {a : Act} {Q : Exit → Act → World → Prop} (u w : World) (hgd : o.guard = none) (s x : Operand)
    (ho : o.op = .call { callee := .builtin .append, args := #[s, x], argTypes := #[42, 42] }) (v : Value) (done : List UInt8) (b : UInt8) (bi : Int) (hbi : bi = (b.toNat : Int)) (hs : a.eval s = v) (hx : a.eval x = .slice (some ⟨w.heap.size, 0, none⟩) 1 1)
    (hJ : LnJ u v done w) (hlim : done.length + 1 ≤ 140737488355328)
    (h : ∀ v' w', LnJ u v' (done ++ [b]) w' → wpList Tryd.prog ops Q rest (a.put o.dst v') w') : wpList Tryd.prog ops Q (o :: rest) a (w.alloc (.cells #[.int .u8 bi] 5)) := by
  obtain ⟨i0, hi, hz0, hz1, hz2⟩ := info_parts infoB
  obtain ⟨hO, hB⟩ := hJ
  subst hbi
  refine wpList_append_own _ hgd s x 42 ho u.heap.size 5 i0 (.int .u8 0) 1 1 Tryd.underlying42 hi hz0 hz1 hz2 rfl (by decide) v done.length (Lib.byteCells done) hs (hO.alloc _) ⟨w.heap.size, 0, none⟩ 1 1 [.int .u8 (b.toNat : Int)] hx rfl (cell_one_new _ _ _) (by simp [Value.oneCell']) (by unfold maxLen; omega) (by omega) (by have := hB.size; simp; omega) ?_
  intro v' w' hown' hgrow _
  refine h v' w' ⟨by rw [List.length_append]; simpa [Lib.byteCells] using hown', ?_⟩
  exact (hB.alloc hB.size _).grown hgrow (by have := hB.size; simp; omega) (fun j ej => by
    rcases hO.2 with ⟨rfl, _⟩ | ⟨g, cap, cur, rfl, hb, _⟩
    · simp [Value.ownBlock] at ej
    · obtain rfl : g = j := by simpa [Value.ownBlock] using ej
      exact hb)
theorem itoa_any (u w : World) (v : Value) (done : List UInt8) (i : Int) (h0 : -9223372036854775808 ≤ i) (h1 : i ≤ 9223372036854775807) (hJ : LnJ u v done w) (hlim : done.length + 21 ≤ 140737488355328) (htab : Lib.TabBelow Tryd.prog u.heap.size u "internal/strconv.uint64pow10" .u64 Lib.pow10Tab) :
    Calls Tryd.prog 16 #[v, .int .i64 i, .int .i64 10] w fun e w' => ∃ v', e = .returned v' ∧ LnJ u v' (done ++ Lib.itoa i) w' :=
  (Tryd.strconv_AppendInt_10 u.heap.size done.length i h0 h1 v _ w hJ.1 hJ.2.size hlim (htab.on hJ.2)).mono fun e w' ⟨v', he, h2, h3, _⟩ => ⟨v', he, by rw [List.length_append]; simpa [Lib.byteCells] using h2, hJ.2.trans h3⟩

theorem scL_le {a z : Int} : ∀ {l : List Int}, scL a l = some z → a ≤ z ∧ ∀ x ∈ l, a < x ∧ x ≤ z
  | [], h => by simp [scL] at h; subst h; exact ⟨by omega, fun x hx => by simp at hx⟩
  | x :: r, h => by
    simp only [scL] at h
    split at h
    · cases h
    · obtain ⟨h1, h2⟩ := scL_le h
      refine ⟨by omega, fun y hy => ?_⟩
      rcases List.mem_cons.1 hy with rfl | hy
      · exact ⟨by omega, by omega⟩
      · have := h2 y hy; exact ⟨by omega, this.2⟩
theorem scR_le {z : Int} : ∀ {bs : List (List Int)} {a : Int}, scR a bs = some z → a ≤ z ∧ ∀ l ∈ bs, ∀ x ∈ l, a < x ∧ x ≤ z
  | [], a, h => by simp [scR] at h; subst h; exact ⟨by omega, fun l hl => by simp at hl⟩
  | l :: r, a, h => by
    simp only [scR] at h
    split at h
    · cases h
    · cases h1 : scL a l with
      | none => rw [h1] at h; cases h
      | some y =>
        rw [h1] at h
        obtain ⟨p1, p2⟩ := scL_le h1
        obtain ⟨q1, q2⟩ := scR_le (a := y) h
        refine ⟨by omega, fun m hm x hx => ?_⟩
        rcases List.mem_cons.1 hm with rfl | hm
        · have := p2 x hx; exact ⟨this.1, by omega⟩
        · have := q2 m hm x hx; exact ⟨by omega, this.2⟩
theorem good_range {st br : Int} {bs : List (List Int)} {n : Int} (h : goodP st br bs n = true) : ∀ l ∈ bs, ∀ x ∈ l, -1 < x ∧ x < n := by
  unfold goodP at h
  cases h1 : scR (-1) bs with
  | none => rw [h1] at h; cases h
  | some z =>
    rw [h1] at h
    simp at h
    intro l hl x hx
    have := (scR_le h1).2 l hl x hx
    exact ⟨this.1, by omega⟩
theorem own_conv {w : World} {base n : Nat} {v : Value} {done : List UInt8} (h : w.ownsRow base 5 1 v n (Lib.byteCells done)) : ∃ a c, v = .slice a done.length c ∧ (convert 42 9 (.slice a done.length c)).run Tryd.prog w = .ok (.string ⟨done.toArray⟩) w := by
  have hn : n = done.length := by have := h.1; simp [Lib.byteCells] at this; omega
  subst hn
  rcases h.2 with ⟨rfl, h0⟩ | ⟨g, cap, cur, rfl, _⟩
  · have hd : done = [] := List.length_eq_zero_iff.1 h0
    subst hd
    exact ⟨none, 0, rfl, run_convert_bytes_nil w 42 5 Tryd.underlying42 Tryd.underlying5 0 0 _ Tryd.underlying9⟩
  · refine ⟨_, cap, rfl, ?_⟩
    have hc := h.cells (g := g) rfl
    have := run_convert_bytes_arg (P := Tryd.prog) w 42 5 Tryd.underlying42 Tryd.underlying5 g 0 done.length cap (done.map fun b => (b.toNat : Int)) (by simp) (fun i hi => by
      have h2 := hc i (.int .u8 (done[i].toNat : Int)) (by simp [Lib.byteCells, hi])
      rw [← addr_add g i] at h2
      rw [Nat.zero_add, h2]
      simp [List.getD, hi]) _ Tryd.underlying9
    have e : strOfNums (done.map fun b => (b.toNat : Int)) = ⟨done.toArray⟩ := by simp [strOfNums, Function.comp_def]
    rw [e] at this
    exact this

set_option maxHeartbeats 8000000 in
set_option maxRecDepth 100000 in
theorem line_any (A : Option Addr) (cap : Nat) (st br : Int) (bs : List (List Int)) (w : World) (hA : RowsAt w A bs) (hx : bs.length ≤ 9223372036854775806) (hx2 : ∀ l ∈ bs, l.length ≤ 9223372036854775806)
    (s0 : -9223372036854775808 ≤ st) (s1 : st ≤ 9223372036854775807) (r0 : -9223372036854775808 ≤ br) (r1 : br ≤ 9223372036854775807) (hlim : (lineB st br bs).length + 64 ≤ 140737488355328)
    (htab : Lib.TabIs Tryd.prog w "internal/strconv.uint64pow10" .u64 Lib.pow10Tab) :
    Calls Tryd.prog 7 #[matV st br A bs.length cap] w fun e w' => e = .returned (.string (lineOf st br bs)) ∧ Below w.heap.size w w' := by
  have bu := m1 w (matO st br A bs.length cap)
  have hA1 := hA.later bu
  have c0 : (w.alloc (matO st br A bs.length cap)).cell? ⟨w.heap.size, 0, none⟩ = some (.int .i64 st) := by simp [go_sem]
  have c1 : (w.alloc (matO st br A bs.length cap)).cell? ⟨w.heap.size, 1, none⟩ = some (.int .i64 br) := by simp [go_sem]
  have c2 : (w.alloc (matO st br A bs.length cap)).cell? ⟨w.heap.size, 2, none⟩ = some (.slice A bs.length cap) := by simp [go_sem]
  have tab0 := (Lib.tabBelow_of_tabIs htab).here
  have tabU : Lib.TabIs Tryd.prog (w.alloc (matO st br A bs.length cap)) "internal/strconv.uint64pow10" .u64 Lib.pow10Tab := (Lib.tabBelow_of_tabIs htab) _ bu
  replace tabU := Lib.hid (Lib.tabBelow_of_tabIs tabU)
  have LO : goodP st br bs 9223372036854775807 = true → lineOf st br bs = ⟨(lineB st br bs).toArray⟩ := fun h => by unfold lineOf; rw [if_pos h]
  have LN : goodP st br bs 9223372036854775807 = false → lineOf st br bs = ⟨#[]⟩ := fun h => by unfold lineOf; rw [if_neg (by rw [h]; decide)]
  have hrange := @good_range st br bs 9223372036854775807
  have hG := fun A cap w hA => good_any A cap st br bs 9223372036854775807 w hA hx hx2
  have hst : Lib.itoa st ++ (32 :: (Lib.itoa br ++ (58 :: partsB 0 bs))) = lineB st br bs := rfl
  generalize lineOf st br bs = LL at *
  generalize lineB st br bs = FL at *
  generalize goodP st br bs 9223372036854775807 = G at *
  replace hG := Lib.hid hG
  replace LO := Lib.hid LO
  replace LN := Lib.hid LN
  replace hrange := Lib.hid hrange
  replace hst := Lib.hid hst
  replace hx2 := Lib.hid hx2
  clear hA htab tab0
  go_enter Tryd.func7, Tryd.ntmps7
  go_wp2_with fail
  generalize w.alloc (matO st br A bs.length cap) = u at *
  refine (hG.out A cap u hA1).mono ?_; rintro e w1 ⟨rfl, hb1⟩
  cases G
  · obtain rfl := LN.out rfl
    go_wp2_with fail
    go_ret
    exact ⟨rfl, mmore bu hb1⟩
  · obtain rfl := LO.out rfl
    have hr := hrange.out rfl
    have d0 := cell_later (hb1.alloc hb1.size (.cells #[] 5)) c0
    have J0 : LnJ u (.slice (some ⟨w1.heap.size, 0, none⟩) 0 0) [] (w1.alloc (.cells #[] 5)) := ⟨World.ownsRow_lit w1 #[] 0 hb1.size (by unfold maxLen; omega) rfl, hb1.alloc hb1.size _⟩
    have d8 := cell_later hb1 c0
    have d9 := cell_later hb1 c1
    have d10 := cell_later hb1 c2
    have hL : (Lib.itoa st).length + 1 + (Lib.itoa br).length + 1 + (partsB 0 bs).length = FL.length := by rw [← hst.out]; simp; omega
    have hA2 := Lib.hid hA1
    clear hG LO LN hrange hA1
    replace hr := Lib.hid hr
    go_wp2_with fail
    refine (itoa_any u _ _ [] st s0 s1 J0 (by simp) tabU.out).mono ?_; rintro e w2 ⟨v2, rfl, J2⟩
    have e1 := cell_later J2.2 c1
    clear d8 d9 d10 d0 J0 c0
    have l2 : ([] ++ Lib.itoa st).length + 1 ≤ 140737488355328 := by simp; omega
    go_wp2_with (at_builtin; refine wpList_byte u _ rfl (.tmp 16) (.tmp 17) rfl v2 ([] ++ Lib.itoa st) 32 32 rfl rfl rfl J2 l2 ?_; intro v3 w3 J3; have f1 := cell_later J3.2 c1)
    have l3 : (([] ++ Lib.itoa st) ++ [32]).length + 21 ≤ 140737488355328 := by simp; omega
    refine (itoa_any u _ _ _ br r0 r1 J3 l3 tabU.out).mono ?_; rintro e w4 ⟨v4, rfl, J4⟩
    clear e1 f1 l2 l3 J2 J3 c1
    have l4 : ((([] ++ Lib.itoa st) ++ [32]) ++ Lib.itoa br).length + 1 ≤ 140737488355328 := by simp; omega
    go_wp2_with (at_builtin; refine wpList_byte u _ rfl (.tmp 23) (.tmp 24) rfl v4 ((([] ++ Lib.itoa st) ++ [32]) ++ Lib.itoa br) 58 58 rfl rfl rfl J4 l4 ?_; intro v5 w5 J5; have g2 := cell_later J5.2 c2)
    have hD : ((([] ++ Lib.itoa st) ++ [32]) ++ Lib.itoa br) ++ [58] ++ partsB 0 bs = FL := by rw [← hst.out]; simp
    generalize ((([] ++ Lib.itoa st) ++ [32]) ++ Lib.itoa br) ++ [58] = D5 at *
    clear J4 l4 hL hst
    replace hD := Lib.hid hD
    go_loopw [3, 29] (fun v i wr => ∃ (k : Nat) (done : List UInt8), k ≤ bs.length ∧ i = .int .i64 (k : Int) ∧ done ++ partsB k (bs.drop k) = FL ∧ LnJ u v done wr) (fun _ i _ => bs.length - (intOf i).toNat)
    case atStart => exact ⟨0, D5, Nat.zero_le _, rfl, hD.out, J5⟩
    case round =>
      clear J5 g2 hD
      obtain ⟨k, done, hk, rfl, hdn, J⟩ := hrel
      have k0 : (0 : Int) ≤ (k : Int) := by omega
      by_cases hlt : k < bs.length
      · obtain ⟨b, off, rfl, hc⟩ := hA2.out (by omega)
        obtain ⟨uu, q0, A2, c9, rfl, hI⟩ := hc k _ (List.getElem?_eq_getElem hlt)
        have q0 := cell_later J.2 q0
        have hl := hx2.out _ (List.getElem_mem hlt)
        have hrl := Lib.hid (hr.out _ (List.getElem_mem hlt))
        have k1 : (k : Int) < (bs.length : Int) := by omega
        clear hc
        rw [drop_at hlt] at hdn
        simp only [partsB] at hdn
        generalize bs[k] = xs at *
        replace hI := Lib.hid hI
        by_cases hk0 : 0 < k
        · rw [if_pos hk0] at hdn
          have k2 : (0 : Int) < (k : Int) := by omega
          have lq0 : done.length + 1 ≤ FL.length := by rw [← hdn]; simp
          have lq3 : done.length + 1 ≤ 140737488355328 := by omega
          replace hdn := Lib.hid hdn
          go_wp2_with (at_builtin; refine wpList_byte u _ rfl (.tmp 36) (.tmp 37) rfl _ done 59 59 rfl rfl rfl J lq3 ?_; intro v6 w6 J6)
          go_loopw [3, 41] (fun v i wr => ∃ (j : Nat) (d2 : List UInt8), j ≤ xs.length ∧ i = .int .i64 (j : Int) ∧ d2 ++ (placesB (xs.drop j) ++ partsB (k + 1) (bs.drop (k + 1))) = FL ∧ LnJ u v d2 wr) (fun _ i _ => xs.length - (intOf i).toNat)
          case atStart => exact ⟨0, done ++ [59], Nat.zero_le _, rfl, by simpa using hdn.out, J6⟩
          case round =>
            obtain ⟨j, d2, hj, rfl, hdn2, J2⟩ := hrel
            have j0 : (0 : Int) ≤ (j : Int) := by omega
            clear q0
            by_cases hjl : j < xs.length
            · obtain ⟨b2, off2, rfl, hc2⟩ := hI.out (by omega)
              have q1 := cell_later J2.2 (hc2 j _ (List.getElem?_eq_getElem hjl))
              have hxr := hrl.out _ (List.getElem_mem hjl)
              have j1 : (j : Int) < (xs.length : Int) := by omega
              clear hc2
              rw [drop_at hjl] at hdn2
              simp only [placesB] at hdn2
              generalize xs[j] = x at *
              have lq : d2.length + 1 + (Lib.itoa x).length ≤ FL.length := by rw [← hdn2]; simp; omega
              replace hdn2 := Lib.hid hdn2
              have lq1 : d2.length + 1 ≤ 140737488355328 := by omega
              have lq2 : (d2 ++ [32]).length + 21 ≤ 140737488355328 := by rw [List.length_append]; simp; omega
              go_wp2_with (at_builtin; refine wpList_byte u _ rfl (.tmp 45) (.tmp 46) rfl _ d2 32 32 rfl rfl rfl J2 lq1 ?_; intro v7 w7 J7)
              refine (itoa_any u _ _ (d2 ++ [32]) x (by omega) (by omega) J7 lq2 tabU.out).mono ?_; rintro e w8 ⟨v8, rfl, J8⟩
              clear J7 J2 q1
              go_wp2_with fail
              go_roundw
              case rel => exact ⟨j + 1, _, by omega, by go_num, by rw [← hdn2.out]; simp, J8⟩
              case measure => simp [intOf]; omega
            · have hje : j = xs.length := by omega
              have j1 : ¬ (j : Int) < (xs.length : Int) := by omega
              rw [drop_end hjl] at hdn2
              simp only [placesB, List.nil_append] at hdn2
              subst hje
              replace hdn2 := Lib.hid hdn2
              go_wp2_with fail
              go_roundw
              case rel => exact ⟨k + 1, d2, by omega, by go_num, hdn2.out, J2⟩
              case measure => simp [intOf]; omega
        · rw [if_neg hk0] at hdn
          have k2 : ¬ (0 : Int) < (k : Int) := by omega
          replace hdn := Lib.hid hdn
          go_wp2_with fail
          go_loopw [3, 41] (fun v i wr => ∃ (j : Nat) (d2 : List UInt8), j ≤ xs.length ∧ i = .int .i64 (j : Int) ∧ d2 ++ (placesB (xs.drop j) ++ partsB (k + 1) (bs.drop (k + 1))) = FL ∧ LnJ u v d2 wr) (fun _ i _ => xs.length - (intOf i).toNat)
          case atStart => exact ⟨0, done, Nat.zero_le _, rfl, by simpa using hdn.out, J⟩
          case round =>
            obtain ⟨j, d2, hj, rfl, hdn2, J2⟩ := hrel
            have j0 : (0 : Int) ≤ (j : Int) := by omega
            clear q0
            by_cases hjl : j < xs.length
            · obtain ⟨b2, off2, rfl, hc2⟩ := hI.out (by omega)
              have q1 := cell_later J2.2 (hc2 j _ (List.getElem?_eq_getElem hjl))
              have hxr := hrl.out _ (List.getElem_mem hjl)
              have j1 : (j : Int) < (xs.length : Int) := by omega
              clear hc2
              rw [drop_at hjl] at hdn2
              simp only [placesB] at hdn2
              generalize xs[j] = x at *
              have lq : d2.length + 1 + (Lib.itoa x).length ≤ FL.length := by rw [← hdn2]; simp; omega
              replace hdn2 := Lib.hid hdn2
              have lq1 : d2.length + 1 ≤ 140737488355328 := by omega
              have lq2 : (d2 ++ [32]).length + 21 ≤ 140737488355328 := by rw [List.length_append]; simp; omega
              go_wp2_with (at_builtin; refine wpList_byte u _ rfl (.tmp 45) (.tmp 46) rfl _ d2 32 32 rfl rfl rfl J2 lq1 ?_; intro v7 w7 J7)
              refine (itoa_any u _ _ (d2 ++ [32]) x (by omega) (by omega) J7 lq2 tabU.out).mono ?_; rintro e w8 ⟨v8, rfl, J8⟩
              clear J7 J2 q1
              go_wp2_with fail
              go_roundw
              case rel => exact ⟨j + 1, _, by omega, by go_num, by rw [← hdn2.out]; simp, J8⟩
              case measure => simp [intOf]; omega
            · have hje : j = xs.length := by omega
              have j1 : ¬ (j : Int) < (xs.length : Int) := by omega
              rw [drop_end hjl] at hdn2
              simp only [placesB, List.nil_append] at hdn2
              subst hje
              replace hdn2 := Lib.hid hdn2
              go_wp2_with fail
              go_roundw
              case rel => exact ⟨k + 1, d2, by omega, by go_num, hdn2.out, J2⟩
              case measure => simp [intOf]; omega
      · have hke : k = bs.length := by omega
        have k1 : ¬ (k : Int) < (bs.length : Int) := by omega
        rw [drop_end hlt] at hdn
        simp only [partsB, List.append_nil] at hdn
        subst hke
        subst hdn
        obtain ⟨hO, hB⟩ := J
        obtain ⟨ra, rc, rfl, hcv⟩ := own_conv hO
        replace hO := Lib.hid hO
        go_wp2_with fail
        go_ret
        exact ⟨rfl, mmore bu hB⟩
end Go.Proofs.YtmebbhlebehliaaDoor
