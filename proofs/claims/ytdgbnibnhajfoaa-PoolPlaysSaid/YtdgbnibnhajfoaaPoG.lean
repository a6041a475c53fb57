/- A pool: Path. -/
import Derived.Test.YtdgbnibnhajfoaaPoF
namespace Go.Proofs.Ytdgbnibnhajfoaa
open Go.ChangeShapes Go.WideShapes Go.ChangeAt Go.RowKit
set_option linter.unusedVariables false
set_option linter.unusedSimpArgs false

theorem RowIn.lt {w : World} {B : Nat} {o : Option Nat} {x : Sl} {l : List Int} (h : RowIn w B o x l) : ∃ g, x.1 = some ⟨g, 0, none⟩ ∧ g < w.heap.size ∧ o ≠ some g := by
  obtain ⟨g, e, h1, h2⟩ := h
  exact ⟨g, e, (h1.lt g (by unfold slV; rw [e]; rfl)).2, h2⟩
theorem RowIn.below {w w' : World} {B : Nat} {o : Option Nat} {x : Sl} {l : List Int} (h : RowIn w B o x l) (hb : Below w.heap.size w w') : RowIn w' B o x l := by
  obtain ⟨g, e, h1, h2⟩ := h
  exact ⟨g, e, mown_below h1 hb, h2⟩
theorem RowIn.grown {w w' : World} {B : Nat} {o o' : Option Nat} {x : Sl} {l : List Int} (h : RowIn w B o x l) (hg : w.grownBy w' o) (ho : o' = o ∨ o' = some w.heap.size ∨ o' = none) : RowIn w' B o' x l := by
  obtain ⟨g, e, hlt, h2⟩ := h.lt
  obtain ⟨g', e', h1, _⟩ := h
  rw [e] at e'
  cases e'
  refine ⟨g, e, h1.kept hg (.inr fun e2 => h2 (by rw [← e2]; unfold slV; rw [e]; rfl)), ?_⟩
  rcases ho with rfl | rfl | rfl
  · exact h2
  · intro e2; injection e2 with e2; omega
  · simp
theorem RowIn.other {w w' : World} {B B' n : Nat} {o : Option Nat} {x : Sl} {l : List Int} {v : Value} {xs : List Value} (h : RowIn w B o x l) (h5 : w.ownsRow B' 44 1 v n xs) (hg : w.grownBy w' v.ownBlock) : RowIn w' B o x l := by
  obtain ⟨g, e, h1, h2⟩ := h
  exact ⟨g, e, h1.kept hg (mown_ne h1 h5 (by decide)), h2⟩
theorem news_1 (w : World) (t : TypeId) (u : Value) : ∀ (j : Nat) (y : Value), [u][j]? = some y → (w.alloc (.cells #[u] t)).cell? ((⟨w.heap.size, 0, none⟩ : Addr).add j) = some y := by
  intro j y hj
  match j, hj with
  | 0, hj => simp at hj; subst hj; simp [Addr.add]
  | n + 1, hj => simp at hj
theorem below_grow {w0 w w' : World} {n size : Nat} {e : TypeId} {v : Value} {xs : List Value} (hb : Below w0.heap.size w0 w) (h : w.ownsRow w0.heap.size e size v n xs) (hg : w.grownBy w' v.ownBlock) : Below w0.heap.size w0 w' :=
  hb.grown hg hb.size fun j ej => (h.lt j ej).1

/-- how the events up to a cell are answered -/
def PathEnd (w : World) (l : List (List Int)) (e : Ending) (w' : World) : Prop := ∃ A c, e = .returned (.slice A l.length c) ∧ RowsAt w' A l ∧ Below w.heap.size w w'
theorem rows_end {w' : World} {B : Nat} {v : Value} {us : List Sl} {ll : List (List Int)} (h : w'.ownsRow B 44 1 v us.length (us.map slV)) (hl : us.length = ll.length) (hr : ∀ (j : Nat) (x : Sl) (l : List Int), us[j]? = some x → ll[j]? = some l → RowIn w' B none x l) :
    ∃ A c, v = .slice A ll.length c ∧ RowsAt w' A ll := by
  rcases h.2 with ⟨rfl, h0⟩ | ⟨g, cap, cur, rfl, _⟩
  · exact ⟨none, 0, by rw [← hl, h0], fun hp => by omega⟩
  · refine ⟨_, cap, by rw [hl], fun _ => ⟨g, 0, rfl, fun i ks hi => ?_⟩⟩
    have hlt : i < us.length := by rw [hl]; exact (List.getElem?_eq_some_iff.1 hi).1
    have hx : us[i]? = some us[i] := List.getElem?_eq_getElem hlt
    obtain ⟨g', e, h1, _⟩ := hr i _ _ hx hi
    have hc := h.cellAt i (by omega)
    rw [Nat.zero_add, hc, List.getElem?_map, hx]
    exact ⟨_, rfl, own_ints h1⟩

theorem path_nil (i : Int) (w : World) : Calls Try.prog 22 #[.pointer none, .int .i64 i] w (PathEnd w []) := by
  have C := Lib.hid (fun u => find_nil i u)
  have R := Lib.hid (fun a u => Try.slices_Reverse_empty_f29 (α := Int) a 0 u)
  have hm := Lib.hid (m1 w (.cells #[] 44))
  go_enter Try.func22, Try.ntmps22
  go_upto_region 2 with (fail)
  generalize w.alloc (.cells #[] 44) = u at *
  go_wp2_with fail
  refine (C.out _).mono ?_
  rintro e w1 ⟨rfl, rfl⟩
  go_wp2_with fail
  go_loopw [5, 7] (fun v5 v wr => v5 = .slice (some ⟨w.heap.size, 0, none⟩) 0 0 ∧ v = .pointer none ∧ wr = u) (fun _ _ _ => 0)
  case atStart => exact ⟨rfl, rfl, rfl⟩
  case round =>
    obtain ⟨rfl, rfl, rfl⟩ := hrel
    go_wp2_with fail
    refine (R.out _ _).mono ?_
    rintro e w1 ⟨rfl, rfl⟩
    go_wp2
    go_ret
    exact ⟨_, _, rfl, fun hp => absurd hp (by simp), hm.out⟩

set_option maxHeartbeats 8000000 in
set_option maxRecDepth 100000 in
theorem path_any {B p : Nat} {D : Nat → Prop} {s : PS} {w : World} (h : PAt B p D s w) (i0 : Int) (hi : -9223372036854775808 ≤ i0 ∧ i0 ≤ 9223372036854775807) (cs0 : List Cl) (hc : chainP s i0 cs0) (hl : cs0.length ≤ 1000000) (hr : ∀ (k : Nat) (c : Cl), s.all[k]? = some c → -9223372036854775808 ≤ c.prev ∧ c.prev ≤ 9223372036854775807) :
    Calls Try.prog 22 #[.pointer (some ⟨p, 0, none⟩), .int .i64 i0] w (PathEnd w (pathL cs0)) := by
  obtain ⟨M, vA, vF, hX, _⟩ := h
  obtain ⟨j0, hj, hz0, hz1, hz2⟩ := info_parts infoI1
  obtain ⟨j1, hk, hy0, hy1, hy2⟩ := info_parts infoR1
  replace hj := Lib.hid hj
  replace hk := Lib.hid hk
  replace hz1 := Lib.hid hz1
  replace hz2 := Lib.hid hz2
  replace hy1 := Lib.hid hy1
  replace hy2 := Lib.hid hy2
  have F := Lib.hid (fun (u : World) (hb : Below w.heap.size w u) (i : Int) (hi : -9223372036854775808 ≤ i ∧ i ≤ 9223372036854775807) => find_any B p M vA vF s u (hX.later hb) i hi)
  replace hX := Lib.hid hX
  replace hr := Lib.hid hr
  replace hc := Lib.hid hc
  have hm := Lib.hid (m1 w (.cells #[] 44))
  have ho5 := Lib.hid (World.ownsRow_made (e := 44) (size := 1) w #[] 0 (Nat.le_refl _) (by unfold maxLen; omega) rfl)
  go_enter Try.func22, Try.ntmps22
  go_upto_region 2 with (fail)
  generalize w.alloc (.cells #[] 44) = u at *
  obtain ⟨v0, hv0, C0⟩ := F.out u hm.out i0 hi
  replace C0 := Lib.hid C0
  replace hv0 := Lib.hid hv0
  go_wp2_with fail
  refine C0.out.mono ?_
  rintro e w1 ⟨rfl, rfl⟩
  clear C0
  go_wp2_with fail
  go_loopg [5, 6, 7] cs0.length (fun k v5 v6 v7 wr => ∃ cs i us ll part, cs.length = k ∧ PJ w cs0.length (pathL cs0) vA s cs i us ll part v5 v6 v7 wr)
  case atStart => exact ⟨cs0, i0, [], [], [], rfl, hc.out, hv0.out, ho5.out, World.ownsRow_nil _ _ _ _, rfl, fun j x l hj => by simp at hj, rfl, by simp, hm.out⟩
  case round =>
    obtain ⟨cs, i, us, ll, part, hlen, J⟩ := hrel
    clear hv0 ho5 hm hc
    cases cs with
    | nil =>
      have h7 : u7 = .pointer none := by
        rcases J.fv with ⟨_, e⟩ | ⟨k, c, A, cap, _, e, _⟩
        · exact e
        · have := J.chain; unfold chainP at this; rw [this] at e; cases e
      subst h7
      have hfin : ll.reverse = pathL cs0 := J.fin_
      have R := Lib.hid (rev_rows J.own5 (by have := J.count; omega))
      replace hfin := Lib.hid hfin
      replace J := Lib.hid J
      go_wp2_with fail
      refine R.out.mono ?_
      rintro e w2 ⟨rfl, hO, hG⟩
      replace hO := Lib.hid hO
      replace hG := Lib.hid hG
      go_wp2
      go_ret
      have hb2 : Below w.heap.size w w2 := below_grow J.out.below J.out.own5 hG.out
      have hl2 := J.out.len
      obtain ⟨A, c, rfl, hR⟩ := rows_end (us := us.reverse) (ll := ll.reverse) (by simpa using hO.out) (by simp [hl2]) fun j x l hj hl3 => by
        have hj1 : j < us.length := by have := (List.getElem?_eq_some_iff.1 hj).1; simpa using this
        rw [List.getElem?_reverse hj1] at hj
        rw [List.getElem?_reverse (by omega)] at hl3
        have := J.out.rows _ _ _ hj (by rw [hl2]; exact hl3)
        have := this.other J.out.own5 hG.out
        obtain ⟨g, e1, e2, _⟩ := this
        exact ⟨g, e1, e2, by simp⟩
      exact ⟨A, c, by rw [← hfin.out]; rfl, by rw [← hfin.out]; exact hR, hb2⟩
    | cons c cs =>
      obtain ⟨hf, hch⟩ := J.chain
      obtain ⟨k, A, cap, rfl, hv, h7⟩ : ∃ (k : Nat) (A cap : Nat), i = k ∧ vA = .slice (some ⟨A, 0, none⟩) s.all.length cap ∧ u7 = .pointer (some ⟨A, k * 5, none⟩) := by
        rcases J.fv with ⟨e, _⟩ | ⟨k, c', A, cap, e1, _, e3, e4⟩
        · rw [hf] at e; cases e
        · exact ⟨k, A, cap, e1, e3, e4⟩
      subst h7
      have hpr := hr.out k c (findP_some.1 hf).1
      have hXr := hX.out.later J.below
      obtain ⟨A', cap', hv', _, _, c0, c1, c2, _, _⟩ := hXr.cl (findP_some.1 hf).1
      rw [hv] at hv'
      cases hv'
      have hcnt := J.count
      simp only [List.length_cons] at hcnt
      have hbz : w.heap.size ≤ wr.heap.size := J.below.size
      have hfin : (if c.fresh then pathS cs (ll ++ [(part ++ [c.event]).reverse]) [] else pathS cs ll (part ++ [c.event])) = pathL cs0 := J.fin_
      have o6 := J.own6
      have d0 : ∀ u, Below w.heap.size w u → u.cell? ⟨A, k * 5, none⟩ = some (.int .i64 c.prev) ∧ u.cell? ⟨A, k * 5 + 2, none⟩ = some (.bool c.fresh) := fun u hb => by
        obtain ⟨A'', cap'', hv'', _, _, q0, _, q2, _, _⟩ := (hX.out.later hb).cl (findP_some.1 hf).1
        rw [hv] at hv''
        cases hv''
        exact ⟨q0, q2⟩
      replace d0 := Lib.hid d0
      replace hfin := Lib.hid hfin
      replace hch := Lib.hid hch
      replace J := Lib.hid J
      clear hXr hv c0 c2 hf
      go_wp2_with (at_builtin; refine wpList_append_any _ rfl (.tmp 22) (.tmp 29) 44 rfl w.heap.size 3 j0 (.int .i64 0) 1 8 Try.underlying44 hj.out hz0 hz1.out hz2.out rfl (by decide) u6 part.length (icells part) rfl (o6.alloc _) (wr.heap.size + 1) (some ⟨wr.heap.size, 0, none⟩) 1 1 [.int .i64 c.event] rfl ⟨rfl, fun _ => ⟨_, rfl, Nat.lt_succ_self _, news_1 _ _ _⟩⟩ ?c2 ?c3 ?c4 ?c5 ?_)
      case c2 => intro u hu; simp at hu; subst hu; rfl
      case c3 => unfold maxLen; omega
      case c4 => omega
      case c5 => exact Nat.le_trans hbz (by simp)
      intro v6' w3 hO3 hG3 hown3
      have hmz := m1 wr (.cells #[.int .i64 c.event] 3)
      have hbz1 := mmore J.out.below hmz
      have hb3 : Below w.heap.size w w3 := below_grow hbz1 (o6.alloc _) hG3
      obtain ⟨e0, e2⟩ := d0.out w3 hb3
      have o5 : w3.ownsRow w.heap.size 44 1 u5 us.length (us.map slV) := (mown_below J.out.own5 hmz).kept hG3 (mown_ne (mown_below J.out.own5 hmz) (o6.alloc _) (by decide))
      have hrows : ∀ (j : Nat) (x : Sl) (l : List Int), us[j]? = some x → ll[j]? = some l → RowIn w3 w.heap.size v6'.ownBlock x l := fun j x l h1 h2 => ((J.out.rows j x l h1 h2).below hmz).grown hG3 (by
        rcases hown3 with e | e
        · exact .inl e
        · exact .inr (.inl (by rw [e]; simp)))
      have hO3' : w3.ownsRow w.heap.size 3 1 v6' (part ++ [c.event]).length ((part ++ [c.event]).map (Value.int .i64)) := by simpa [icells] using hO3
      have hl := Lib.hid J.out.len
      clear hO3 hG3 hown3 hmz hbz1 o6 c1
      replace hb3 := Lib.hid hb3
      replace o5 := Lib.hid o5
      replace hrows := Lib.hid hrows
      cases hfr : c.fresh with
      | true =>
        rw [hfr] at e2
        have R := Lib.hid (rev_ints hO3' (by simp; omega))
        replace hO3' := Lib.hid hO3'
        go_wp2_with fail
        refine R.out.mono ?_
        rintro e w4 ⟨rfl, hO4, hG4⟩
        have hb4 := below_grow hb3.out hO3'.out hG4
        have o54 := o5.out.kept hG4 (mown_ne o5.out hO3'.out (by decide))
        have hrows4 : ∀ (j : Nat) (x : Sl) (l : List Int), us[j]? = some x → ll[j]? = some l → RowIn w4 w.heap.size v6'.ownBlock x l := fun j x l h1 h2 => (hrows.out j x l h1 h2).grown hG4 (.inl rfl)
        obtain ⟨g6, cap6, rfl, hg6, hlt6⟩ := hO4.form (by simp)
        have hr6 : ∀ o, (some g6 ≠ o) → RowIn w4 w.heap.size o (some ⟨g6, 0, none⟩, (part ++ [c.event]).length, cap6) (part ++ [c.event]).reverse := fun o ho => ⟨g6, rfl, by simpa [icells, slV] using hO4, fun e => ho e.symm⟩
        have hbz4 : w.heap.size ≤ w4.heap.size := hb4.size
        clear e0 R hG4 hO4
        replace hb4 := Lib.hid hb4
        replace hrows4 := Lib.hid hrows4
        replace hr6 := Lib.hid hr6
        have hcl : us.length + 1 ≤ 1000000 := by omega
        generalize hnl : (part ++ [c.event]).length = nl at *
        replace hnl := Lib.hid hnl
        go_wp2_with (at_builtin; refine wpList_append_any _ rfl (.tmp 39) (.tmp 41) 41 rfl w.heap.size 44 j1 (.slice none 0 0) 1 24 Try.underlying41 hk.out hy0 hy1.out hy2.out rfl (by decide) u5 us.length (us.map slV) rfl (o54.alloc _) (w4.heap.size + 1) (some ⟨w4.heap.size, 0, none⟩) 1 1 [.slice (some ⟨g6, 0, none⟩) nl cap6] rfl ⟨rfl, fun _ => ⟨_, rfl, Nat.lt_succ_self _, news_1 _ _ _⟩⟩ ?c2 ?c3 ?c4 ?c5 ?_)
        case c2 => intro u hu; simp at hu; subst hu; rfl
        case c3 => unfold maxLen; omega
        case c4 => omega
        case c5 => exact Nat.le_trans hbz4 (by simp)
        intro v5' w5 hO5 hG5 _
        have hm4 := m1 w4 (.cells #[.slice (some ⟨g6, 0, none⟩) nl cap6] 44)
        have hb5 : Below w.heap.size w w5 := below_grow (mmore hb4.out hm4) (o54.alloc _) hG5
        obtain ⟨e0, _⟩ := d0.out w5 hb5
        obtain ⟨v7, hfv7, C7⟩ := F.out w5 hb5 c.prev hpr
        replace C7 := Lib.hid C7
        have J' : PJ w cs0.length (pathL cs0) vA s cs c.prev (us ++ [(some ⟨g6, 0, none⟩, nl, cap6)]) (ll ++ [(part ++ [c.event]).reverse]) [] v5' (.slice none 0 0) v7 w5 := by
          refine ⟨hch.out, hfv7, by simpa [slV] using hO5, World.ownsRow_nil _ _ _ _, by simp [hl.out], fun j x l h1 h2 => ?_, ?_, by simp; omega, hb5⟩
          · by_cases hj : j < us.length
            · rw [List.getElem?_append_left hj] at h1
              rw [List.getElem?_append_left (by rw [← hl.out]; exact hj)] at h2
              obtain ⟨g, q1, q2, _⟩ := ((hrows4.out j x l h1 h2).below hm4).other (o54.alloc _) hG5
              exact ⟨g, q1, q2, by simp [Value.ownBlock]⟩
            · rw [List.getElem?_append_right (by omega)] at h1
              rw [List.getElem?_append_right (by rw [← hl.out]; omega)] at h2
              have hj0 : j - us.length = 0 := by
                rcases Nat.eq_zero_or_pos (j - us.length) with h0 | h0
                · exact h0
                · rw [List.getElem?_eq_none (by simp; omega)] at h1; cases h1
              rw [hj0] at h1
              rw [← hl.out, hj0] at h2
              simp at h1
              simp only [List.getElem?_cons_zero, Option.some.injEq] at h2
              subst h1
              rw [← h2]
              have := ((hr6.out none (by simp)).below hm4).other (o54.alloc _) hG5
              exact this
          · have := hfin.out
            rw [hfr, if_pos rfl] at this
            exact this
        replace J' := Lib.hid J'
        clear hO5 hG5 hm4 o54 hrows4 hr6 hfv7
        go_wp2_with fail
        refine C7.out.mono ?_
        rintro e w6 ⟨rfl, rfl⟩
        go_wp2
        go_roundg cs.length
        case measure => simp only [List.length_cons] at hlen; omega
        case rel => exact ⟨cs, _, _, _, _, rfl, J'.out⟩
      | false =>
        rw [hfr] at e2
        obtain ⟨v7, hfv7, C7⟩ := F.out w3 hb3.out c.prev hpr
        replace C7 := Lib.hid C7
        have J' : PJ w cs0.length (pathL cs0) vA s cs c.prev us ll (part ++ [c.event]) u5 v6' v7 w3 :=
          ⟨hch.out, hfv7, o5.out, hO3', hl.out, hrows.out, by have := hfin.out; rw [hfr, if_neg (by simp)] at this; exact this, by simp; omega, hb3.out⟩
        replace J' := Lib.hid J'
        clear hO3' hfv7
        go_wp2_with fail
        refine C7.out.mono ?_
        rintro e w6 ⟨rfl, rfl⟩
        go_wp2
        go_roundg cs.length
        case measure => simp only [List.length_cons] at hlen; omega
        case rel => exact ⟨cs, _, _, _, _, rfl, J'.out⟩
end Go.Proofs.Ytdgbnibnhajfoaa
