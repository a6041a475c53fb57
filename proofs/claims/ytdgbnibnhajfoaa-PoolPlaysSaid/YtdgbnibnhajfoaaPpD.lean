/- The document's pool: New, Path. -/
import Derived.Test.YtdgbnibnhajfoaaPpC
namespace Go.Proofs.Ytdgbnibnhajfoaa
open Go.ChangeShapes Go.WideShapes Go.ChangeAt Go.RowKit
set_option linter.unusedVariables false
set_option linter.unusedSimpArgs false

theorem oslice {W : World} {base n : Nat} {e : TypeId} {size : Nat} {v : Value} {xs : List Value} (h : W.ownsRow base e size v n xs) : ∃ a c, v = .slice a n c ∧ n ≤ c ∧ c ≤ maxLen := by
  rcases h.2 with ⟨rfl, h0⟩ | ⟨g, cap, cur, rfl, _, _, h1, h2, _⟩
  · exact ⟨none, 0, by rw [h0], by omega, by decide⟩
  · exact ⟨_, _, rfl, h1, h2⟩
theorem rnew_any (most : Int) (w : World) (hm : -9223372036854775808 ≤ most ∧ most ≤ 9223372036854775807) : Calls Try.prog 9 #[.int .i64 most] w fun e w' => ∃ r, e = .returned (.pointer (some ⟨r, 0, none⟩)) ∧ RX w.heap.size r (.slice none 0 0) (max 0 most) [] w' ∧ Below w.heap.size w w' := by
  have hend := Lib.hid (show RX w.heap.size w.heap.size (.slice none 0 0) (max 0 most) [] (w.alloc (.cells #[.slice none 0 0, .int .i64 (max 0 most)] 37)) from ⟨Blk.made w _ _, World.ownsRow_nil _ _ _ _, Nat.le_refl _⟩)
  by_cases h : most ≤ 0
  · have e : max 0 most = 0 := by omega
    rw [e] at hend ⊢
    go_enter Try.func9, Try.ntmps9
    go_wp2
    go_ret
    exact ⟨_, rfl, hend.out, m1 w _⟩
  · have e : max 0 most = most := by omega
    rw [e] at hend ⊢
    go_enter Try.func9, Try.ntmps9
    go_wp2
    go_ret
    exact ⟨_, rfl, hend.out, m1 w _⟩
theorem RowIn.lit {wa wb w' : World} {B : Nat} {x : Sl} {l : List Int} (h : RowIn wa B none x l) (hm : Below wa.heap.size wa wb) (hg : wb.grownBy w' (some wa.heap.size)) : RowIn w' B none x l := by
  obtain ⟨g, e, hlt, _⟩ := h.lt
  obtain ⟨g', e', h1, _⟩ := h
  rw [e] at e'
  cases e'
  refine ⟨g, e, (mown_below h1 hm).kept hg (.inr fun e2 => ?_), by simp⟩
  have : (slV x).ownBlock = some g := by unfold slV; rw [e]; rfl
  rw [this] at e2
  injection e2 with e2
  omega
theorem icells_one1 (l : List Int) : ∀ u ∈ icells l, u.oneCell' = true := by
  intro u hu
  simp [icells] at hu
  obtain ⟨z, _, rfl⟩ := hu
  rfl
theorem slV_one (us : List Sl) : ∀ u ∈ us.map slV, u.oneCell' = true := by
  intro u hu
  simp at hu
  obtain ⟨a, b, c, _, rfl⟩ := hu
  rfl
/-- between two rounds of Path -/
structure RJ (w0 : World) (N : Nat) (fin : List (List Int)) (s : PS) (cs : List Cl) (i : Int) (us : List Sl) (ll : List (List Int)) (part : List Int) (v5 v6 : Value) (wr : World) : Prop where
  chain : chainP s i cs
  own5 : wr.ownsRow w0.heap.size 44 1 v5 us.length (us.map slV)
  own6 : wr.ownsRow w0.heap.size 3 1 v6 part.length (icells part.reverse)
  len : us.length = ll.length
  rows : ∀ (j : Nat) (x : Sl) (l : List Int), us[j]? = some x → ll.reverse[j]? = some l → RowIn wr w0.heap.size none x l
  fin_ : pathS cs ll part = fin
  count : us.length + part.length + cs.length ≤ N
  below : Below w0.heap.size w0 wr
set_option maxHeartbeats 8000000 in
set_option maxRecDepth 100000 in
theorem rpath_any (B r : Nat) (vC : Value) (most : Int) (s : PS) (w : World) (h : RX B r vC most (s.all.map rcl) w) (i0 : Int) (hi : -9223372036854775808 ≤ i0 ∧ i0 ≤ 9223372036854775807) (cs0 : List Cl) (hc : chainP s i0 cs0) (hl : cs0.length ≤ 1000000) (hr : ∀ (k : Nat) (c : Cl), s.all[k]? = some c → -9223372036854775808 ≤ c.prev ∧ c.prev ≤ 9223372036854775807) :
    Calls Try.prog 23 #[.pointer (some ⟨r, 0, none⟩), .int .i64 i0] w (PathEnd w (pathL cs0)) := by
  obtain ⟨j0, hj, hz0, hz1, hz2⟩ := info_parts infoI1
  obtain ⟨j1, hk, hy0, hy1, hy2⟩ := info_parts infoR1
  replace hj := Lib.hid hj
  replace hk := Lib.hid hk
  replace hz1 := Lib.hid hz1
  replace hz2 := Lib.hid hz2
  replace hy1 := Lib.hid hy1
  replace hy2 := Lib.hid hy2
  have F := Lib.hid (fun (u : World) (hb : Below w.heap.size w u) (i : Int) (hi : -9223372036854775808 ≤ i ∧ i ≤ 9223372036854775807) => rhas_any B r vC most _ u (h.later hb) i hi)
  replace h := Lib.hid h
  replace hr := Lib.hid hr
  replace hc := Lib.hid hc
  go_enter Try.func23, Try.ntmps23
  go_wp2_with fail
  go_loopg [1, 5, 6] cs0.length (fun k v1 v5 v6 wr => ∃ cs i us ll part, v1 = .int .i64 i ∧ (-9223372036854775808 ≤ i ∧ i ≤ 9223372036854775807) ∧ cs.length = k ∧ RJ w cs0.length (pathL cs0) s cs i us ll part v5 v6 wr)
  case atStart => exact ⟨cs0, i0, [], [], [], rfl, hi, rfl, hc.out, World.ownsRow_nil _ _ _ _, World.ownsRow_nil _ _ _ _, rfl, fun j x l hj => by simp at hj, rfl, by simp, Below.refl _ _⟩
  case round =>
    obtain ⟨cs, i, us, ll, part, rfl, hir, hlen, J⟩ := hrel
    clear hi hc
    have HI := F.out wr J.below i hir
    rw [hasR_map] at HI
    cases cs with
    | nil =>
      have hch : findP s i = none := J.chain
      rw [hch] at HI
      replace HI := Lib.hid HI
      have hfin : ll.reverse = pathL cs0 := J.fin_
      obtain ⟨A, c, rfl, hR⟩ := rows_end (us := us) (ll := ll.reverse) J.own5 (by simp [J.len]) J.rows
      have hend := Lib.hid (show PathEnd w (pathL cs0) (.returned (.slice A ll.reverse.length c)) wr from ⟨A, c, by rw [← hfin], by rw [← hfin]; exact hR, J.below⟩)
      clear J hR hfin hch
      generalize ll.reverse.length = m at *
      go_wp2_with fail
      refine HI.out.mono ?_; rintro e u ⟨rfl, rfl⟩
      go_wp2
      go_ret
      exact hend.out
    | cons c cs =>
      obtain ⟨hf, hch⟩ := J.chain
      rw [hf] at HI
      obtain ⟨k, rfl, hck, hcl⟩ := findP_nat hf
      have hpr := hr.out k c hck
      have hcm : (s.all.map rcl)[k]? = some ⟨true, c.prev, c.event, c.fresh, c.own, c.holds - c.own⟩ := by rw [List.getElem?_map, hck, Option.map_some, rcl_live hcl]
      have hXr := h.out.later J.below
      obtain ⟨A, cap, hv, h1, h2, c0, c1, c2, c3, c4, c5⟩ := hXr.cl hcm
      dsimp only at c0 c1 c2 c3 c4 c5
      have d1 := hXr.blk.cell 0
      rw [hv] at d1
      simp only [List.getElem?_toArray, List.getElem?_cons_zero, List.length_map] at d1
      have hkl : k < s.all.length := (List.getElem?_eq_some_iff.1 hck).1
      rw [List.length_map] at h1
      have n9 : (s.all.length : Int) ≤ 9223372036854775807 := by unfold maxLen at h2; omega
      have k1 : (k : Int) < (s.all.length : Int) := by omega
      have k2 : (0 : Int) ≤ (k : Int) := by omega
      have hcnt := J.count
      simp only [List.length_cons] at hcnt
      have hbz : w.heap.size ≤ wr.heap.size := J.below.size
      have hfin : (if c.fresh then pathS cs (ll ++ [(part ++ [c.event]).reverse]) [] else pathS cs ll (part ++ [c.event])) = pathL cs0 := J.fin_
      have kb := Blk.made wr 34 #[.bool true, .int .i64 c.prev, .int .i64 c.event, .bool c.fresh, .int .i64 c.own, .int .i64 (c.holds - c.own)]
      have hm := m1 wr (.cells #[.bool true, .int .i64 c.prev, .int .i64 c.event, .bool c.fresh, .int .i64 c.own, .int .i64 (c.holds - c.own)] 34)
      obtain ⟨y5, hy5⟩ : ∃ y, c.holds - c.own = y := ⟨_, rfl⟩
      rw [hy5] at c5 kb hm
      replace HI := Lib.hid HI
      replace hfin := Lib.hid hfin
      replace hch := Lib.hid hch
      replace kb := Lib.hid kb
      replace hm := Lib.hid hm
      have hbu := mmore J.below hm.out
      have o5 := mown_below J.own5 hm.out
      have o6 := mown_below J.own6 hm.out
      have hrows : ∀ (j : Nat) (x : Sl) (l : List Int), us[j]? = some x → ll.reverse[j]? = some l → RowIn (wr.alloc (.cells #[.bool true, .int .i64 c.prev, .int .i64 c.event, .bool c.fresh, .int .i64 c.own, .int .i64 y5] 34)) w.heap.size none x l := fun j x l h1 h2 => (J.rows j x l h1 h2).below hm.out
      have hlen2 := J.len
      replace hbu := Lib.hid hbu
      replace o5 := Lib.hid o5
      replace o6 := Lib.hid o6
      replace hrows := Lib.hid hrows
      replace hlen2 := Lib.hid hlen2
      replace hlen := Lib.hid hlen
      clear J hXr hv h1 h2 hck hcm hkl hf hy5
      generalize s.all.length = n at *
      go_wp2_with fail
      refine HI.out.mono ?_; rintro e u ⟨rfl, rfl⟩
      go_upto_region 5 with (fail)
      generalize wr.alloc (.cells #[.bool true, .int .i64 c.prev, .int .i64 c.event, .bool c.fresh, .int .i64 c.own, .int .i64 y5] 34) = wa at *
      clear c0 c1 c2 c3 c4 c5 d1 HI
      obtain ⟨g, hg⟩ : ∃ g, wr.heap.size = g := ⟨_, rfl⟩
      rw [hg] at kb
      rw [hg]
      have x1 : wa.cell? ⟨g, 1, none⟩ = some (.int .i64 c.prev) := kb.out.cell 1
      have x2 : wa.cell? ⟨g, 2, none⟩ = some (.int .i64 c.event) := kb.out.cell 2
      have x3 : wa.cell? ⟨g, 3, none⟩ = some (.bool c.fresh) := kb.out.cell 3
      obtain ⟨A6, c6, rfl, h61, h62⟩ := oslice o6.out
      have r6 := Reads.of_own o6.out
      have hz := hbu.out.size
      have ol := World.ownsRow_lit (base := w.heap.size) (e := 3) (size := 1) wa #[.int .i64 c.event] 1 hz (by unfold maxLen; omega) rfl
      go_wp2_with (at_builtin; refine wpList_append_any _ rfl (.tmp 20) (.tmp 21) 44 rfl w.heap.size 3 j0 (.int .i64 0) 1 8 Try.underlying44 hj.out hz0 hz1.out hz2.out rfl (by decide) _ 1 [.int .i64 c.event] rfl ol wa.heap.size A6 part.length c6 (icells part.reverse) rfl (r6.alloc (Nat.le_refl _) _) (icells_one1 _) ?c3 ?c4 ?c5 ?_)
      case c3 => unfold maxLen; omega
      case c4 => omega
      case c5 => exact Nat.le_trans hz (by simp)
      intro v6' w3 hO3 hG3 hown3
      have hmz := m1 wa (.cells #[.int .i64 c.event] 3)
      have hG4 : (wa.alloc (.cells #[.int .i64 c.event] 3)).grownBy w3 (some wa.heap.size) := hG3
      have hgl := kb.out.lt
      have kb3 := (kb.out.kept hmz).grown hG4 (fun e => by injection e with e; omega)
      have y1 : w3.cell? ⟨g, 1, none⟩ = some (.int .i64 c.prev) := kb3.cell 1
      have y3 : w3.cell? ⟨g, 3, none⟩ = some (.bool c.fresh) := kb3.cell 3
      have hb3 : Below w.heap.size w w3 := below_grow (mmore hbu.out hmz) ol hG3
      have o53 : w3.ownsRow w.heap.size 44 1 u5 us.length (us.map slV) := (mown_below o5.out hmz).kept hG3 (mown_ne (mown_below o5.out hmz) ol (by decide))
      have hrows3 : ∀ (j : Nat) (x : Sl) (l : List Int), us[j]? = some x → ll.reverse[j]? = some l → RowIn w3 w.heap.size none x l := fun j x l h1 h2 => (hrows.out j x l h1 h2).lit hmz hG4
      obtain ⟨g6, cap6, rfl, hg6, _⟩ := hO3.form (by omega)
      have hO3' : w3.ownsRow w.heap.size 3 1 (.slice (some ⟨g6, 0, none⟩) (1 + part.length) cap6) (part ++ [c.event]).length (icells (part ++ [c.event]).reverse) := by
        have e1 : icells (part ++ [c.event]).reverse = [Value.int .i64 c.event] ++ icells part.reverse := by simp [icells]
        have e2 : (part ++ [c.event]).length = 1 + part.length := by simp; omega
        rw [e1, e2]
        exact hO3
      clear hO3 hG3 hG4 hown3 hmz kb3 ol r6 hrows o5 o6 h61 h62 x1 x2 x3 hgl hz kb hm hbu hg
      replace hb3 := Lib.hid hb3
      replace o53 := Lib.hid o53
      replace hrows3 := Lib.hid hrows3
      replace hO3' := Lib.hid hO3'
      cases hfr : c.fresh with
      | false =>
        rw [hfr] at y3
        have hfin2 := hfin.out
        rw [hfr] at hfin2
        replace hfin2 := Lib.hid hfin2
        clear hfin
        go_wp2
        go_roundg cs.length
        case measure => have := hlen.out; simp only [List.length_cons] at this; omega
        case rel => exact ⟨cs, c.prev, us, ll, part ++ [c.event], rfl, hpr, rfl, hch.out, o53.out, hO3'.out, hlen2.out, hrows3.out, hfin2.out, by simp only [List.length_append, List.length_cons, List.length_nil]; omega, hb3.out⟩
      | true =>
        rw [hfr] at y3
        have hfin2 := hfin.out
        rw [hfr] at hfin2
        replace hfin2 := Lib.hid hfin2
        clear hfin
        obtain ⟨A5, c5', rfl, h51, h52⟩ := oslice o53.out
        have r5 := Reads.of_own o53.out
        have hz3 := hb3.out.size
        have ol2 := World.ownsRow_lit (base := w.heap.size) (e := 44) (size := 1) w3 #[.slice (some ⟨g6, 0, none⟩) (1 + part.length) cap6] 1 hz3 (by unfold maxLen; omega) rfl
        go_wp2_with (at_builtin; refine wpList_append_any _ rfl (.tmp 26) (.tmp 27) 41 rfl w.heap.size 44 j1 (.slice none 0 0) 1 24 Try.underlying41 hk.out hy0 hy1.out hy2.out rfl (by decide) _ 1 [.slice (some ⟨g6, 0, none⟩) (1 + part.length) cap6] rfl ol2 w3.heap.size A5 us.length c5' (us.map slV) rfl (r5.alloc (Nat.le_refl _) _) (slV_one _) ?c3 ?c4 ?c5 ?_)
        case c3 => unfold maxLen; omega
        case c4 => omega
        case c5 => exact Nat.le_trans hz3 (by simp)
        intro v5' w5 hO5 hG5 hown5
        have hmz := m1 w3 (.cells #[.slice (some ⟨g6, 0, none⟩) (1 + part.length) cap6] 44)
        have hG6 : (w3.alloc (.cells #[.slice (some ⟨g6, 0, none⟩) (1 + part.length) cap6] 44)).grownBy w5 (some w3.heap.size) := hG5
        have hgl : g < w3.heap.size := mblock y1
        have z1 : w5.cell? ⟨g, 1, none⟩ = some (.int .i64 c.prev) := hG6.cell (mlater hmz y1) (fun e => by injection e with e; dsimp only at e; omega)
        have hb5 : Below w.heap.size w w5 := below_grow (mmore hb3.out hmz) ol2 hG5
        have hrow : RowIn w3 w.heap.size none (some ⟨g6, 0, none⟩, 1 + part.length, cap6) (part ++ [c.event]).reverse := ⟨g6, rfl, by rw [List.length_reverse]; exact hO3'.out, by simp⟩
        have hrow5 := hrow.lit hmz hG6
        have hrows5 : ∀ (j : Nat) (x : Sl) (l : List Int), us[j]? = some x → ll.reverse[j]? = some l → RowIn w5 w.heap.size none x l := fun j x l h1 h2 => (hrows3.out j x l h1 h2).lit hmz hG6
        have hall : ∀ (j : Nat) (x : Sl) (l : List Int), ((some ⟨g6, 0, none⟩, 1 + part.length, cap6) :: us : List Sl)[j]? = some x → (ll ++ [(part ++ [c.event]).reverse]).reverse[j]? = some l → RowIn w5 w.heap.size none x l := fun j x l h1 h2 => by
          rw [List.reverse_append] at h2
          cases j with
          | zero =>
            simp at h1 h2
            subst h1
            have : l = (part ++ [c.event]).reverse := by rw [← h2]; simp
            rw [this]
            exact hrow5
          | succ j => exact hrows5 j x l (by simpa using h1) (by simpa using h2)
        have hO7 : w5.ownsRow w.heap.size 44 1 v5' ((some ⟨g6, 0, none⟩, 1 + part.length, cap6) :: us : List Sl).length (((some ⟨g6, 0, none⟩, 1 + part.length, cap6) :: us : List Sl).map slV) := by
          rw [List.length_cons, Nat.add_comm]
          exact hO5
        have hrel : ∃ cs' i us' ll' part', Value.int .i64 c.prev = .int .i64 i ∧ (-9223372036854775808 ≤ i ∧ i ≤ 9223372036854775807) ∧ cs'.length = cs.length ∧ RJ w cs0.length (pathL cs0) s cs' i us' ll' part' v5' (.slice none 0 0) w5 :=
          ⟨cs, c.prev, (some ⟨g6, 0, none⟩, 1 + part.length, cap6) :: us, ll ++ [(part ++ [c.event]).reverse], [], rfl, hpr, rfl, hch.out, hO7, World.ownsRow_nil _ _ _ _, by simp [hlen2.out], hall, hfin2.out, by simp only [List.length_cons, List.length_nil]; omega, hb5⟩
        replace hrel := Lib.hid hrel
        clear hO5 hG5 hG6 hown5 hmz hb5 hrow hrow5 hrows5 hall hO7 ol2 r5 y1 y3 h51 h52 hgl hz3
        go_wp2
        go_roundg cs.length
        case measure => have := hlen.out; simp only [List.length_cons] at this; omega
        case rel => exact hrel.out
end Go.Proofs.Ytdgbnibnhajfoaa
