/- The document's pool in memory; its Has, Used, Held, New. -/
import Derived.Test.YtdgbnibnhajfoaaHpM
import Derived.Deep.Grids
namespace Go.Proofs.Ytdgbnibnhajfoaa
open Go.ChangeShapes Go.WideShapes Go.ChangeAt Go.RowKit
set_option linter.unusedVariables false
set_option linter.unusedSimpArgs false

/-- a cell of the document's -/
structure RC where
  is : Bool
  prev : Int
  event : Int
  fresh : Bool
  own : Int
  behind : Int
def rc0 : RC := ⟨false, 0, 0, false, 0, 0⟩
/-- what the program's cell is in the document's pool -/
def rcl (c : Cl) : RC := if c.holds = 0 then rc0 else ⟨true, c.prev, c.event, c.fresh, c.own, c.holds - c.own⟩
def rcC (c : RC) : List Value := [.bool c.is, .int .i64 c.prev, .int .i64 c.event, .bool c.fresh, .int .i64 c.own, .int .i64 c.behind]
def rcs (l : List RC) : List Value := l.flatMap rcC
def hasR (l : List RC) (i : Int) : Option RC := if 0 ≤ i then (l[i.toNat]?).bind fun c => if c.is = true then some c else none else none
theorem hasR_map (s : PS) (i : Int) : hasR (s.all.map rcl) i = (findP s i).map rcl := by
  unfold hasR findP
  split
  · rw [List.getElem?_map]
    cases hk : s.all[i.toNat]? with
    | none => rfl
    | some c =>
      simp only [Option.map_some, Option.bind_some]
      by_cases hc : c.holds = 0
      · rw [if_pos hc]; simp [rcl, hc, rc0]
      · rw [if_neg hc]; simp [rcl, hc]
  · rfl
theorem rcs_len : ∀ l : List RC, (rcs l).length = l.length * 6
  | [] => rfl
  | c :: l => by
    have := rcs_len l
    unfold rcs at *
    rw [List.flatMap_cons, List.length_append, this, List.length_cons]
    simp [rcC]
    omega
theorem rcs_at : ∀ (l : List RC) (k j : Nat) (c : RC), l[k]? = some c → j < 6 → (rcs l)[k * 6 + j]? = (rcC c)[j]?
  | [], k, j, c, h, hj => by simp at h
  | a :: l, 0, j, c, h, hj => by
    simp at h
    subst h
    unfold rcs
    rw [List.flatMap_cons, List.getElem?_append_left (by simp [rcC]; omega)]
    simp
  | a :: l, k + 1, j, c, h, hj => by
    have := rcs_at l k j c (by simpa using h) hj
    unfold rcs at *
    rw [List.flatMap_cons, List.getElem?_append_right (by simp [rcC]; omega), ← this]
    congr 1
    simp [rcC]
    omega
theorem rcs_set : ∀ (l : List RC) (k j : Nat) (c c' : RC) (v : Value), l[k]? = some c → j < 6 → (rcC c).set j v = rcC c' → (rcs l).set (k * 6 + j) v = rcs (l.set k c')
  | [], k, j, c, c', v, h, hj, hc => by simp at h
  | a :: l, 0, j, c, c', v, h, hj, hc => by
    simp at h
    subst h
    unfold rcs
    rw [List.flatMap_cons, List.set_append_left _ _ (by simp [rcC]; omega), List.set_cons_zero, List.flatMap_cons, ← hc]
    simp
  | a :: l, k + 1, j, c, c', v, h, hj, hc => by
    have := rcs_set l k j c c' v (by simpa using h) hj hc
    unfold rcs at *
    rw [List.flatMap_cons, List.set_append_right _ _ (by simp [rcC]; omega), List.set_cons_succ, List.flatMap_cons, ← this]
    congr 2
    simp [rcC]
    omega
/-- the document's pool lies at r -/
structure RX (B r : Nat) (vC : Value) (most : Int) (l : List RC) (w : World) : Prop where
  blk : Blk w r 37 #[vC, .int .i64 most]
  row : w.ownsRow B 34 6 vC l.length (rcs l)
  low : B ≤ r
theorem RX.fr {B r : Nat} {vC : Value} {most : Int} {l : List RC} {w w' : World} {D : Nat → Prop} (h : RX B r vC most l w) (hf : PFr D w w') (hd : ∀ k, (k = r ∨ vC.ownBlock = some k) → ¬ D k) : RX B r vC most l w' := by
  refine ⟨(hf.block r h.blk.lt (hd r (.inl rfl))).trans h.blk, ⟨h.row.1, ?_⟩, h.low⟩
  rcases h.row.2 with h0 | ⟨g, cap, cur, hv, hb, hg, hr⟩
  · exact .inl h0
  · exact .inr ⟨g, cap, cur, hv, hb, (hf.block g (Array.getElem?_eq_some_iff.1 hg).1 (hd g (.inr (by rw [hv]; rfl)))).trans hg, hr⟩
theorem RX.later {B r : Nat} {vC : Value} {most : Int} {l : List RC} {w w' : World} (h : RX B r vC most l w) (hb : Below w.heap.size w w') : RX B r vC most l w' := h.fr (D := fun _ => False) (.of_below hb) fun _ _ => id
theorem RX.cl {B r : Nat} {vC : Value} {most : Int} {l : List RC} {w : World} (h : RX B r vC most l w) {k : Nat} {c : RC} (hc : l[k]? = some c) :
    ∃ A cap, vC = .slice (some ⟨A, 0, none⟩) l.length cap ∧ l.length ≤ cap ∧ cap ≤ maxLen ∧ w.cell? ⟨A, k * 6, none⟩ = some (.bool c.is) ∧ w.cell? ⟨A, k * 6 + 1, none⟩ = some (.int .i64 c.prev) ∧ w.cell? ⟨A, k * 6 + 2, none⟩ = some (.int .i64 c.event) ∧ w.cell? ⟨A, k * 6 + 3, none⟩ = some (.bool c.fresh) ∧
      w.cell? ⟨A, k * 6 + 4, none⟩ = some (.int .i64 c.own) ∧ w.cell? ⟨A, k * 6 + 5, none⟩ = some (.int .i64 c.behind) := by
  have hlt : k < l.length := (List.getElem?_eq_some_iff.1 hc).1
  rcases h.row.2 with ⟨_, h0⟩ | ⟨A, cap, cur, hv, hb, hg, h1, h2, h3, h4⟩
  · omega
  · have hat : ∀ j, j < 6 → w.cell? ⟨A, k * 6 + j, none⟩ = (rcC c)[j]? := fun j hj => by
      have := (hv ▸ h.row).cellAt (k * 6 + j) (by omega)
      rw [this]; exact rcs_at _ _ _ _ hc hj
    exact ⟨A, cap, hv, h1, h2, hat 0 (by omega), hat 1 (by omega), hat 2 (by omega), hat 3 (by omega), hat 4 (by omega), hat 5 (by omega)⟩
theorem RX.len {B r : Nat} {vC : Value} {most : Int} {l : List RC} {w : World} (h : RX B r vC most l w) : ∃ A cap, vC = .slice A l.length cap ∧ l.length ≤ maxLen := by
  rcases h.row.2 with ⟨hv, h0⟩ | ⟨A, cap, cur, hv, hb, hg, h1, h2, h3, h4⟩
  · exact ⟨none, 0, by rw [hv, h0], by rw [h0]; decide⟩
  · exact ⟨_, cap, hv, Nat.le_trans h1 h2⟩
set_option maxHeartbeats 4000000 in
set_option maxRecDepth 100000 in
theorem rhas_any (B r : Nat) (vC : Value) (most : Int) (l : List RC) (w : World) (h : RX B r vC most l w) (i : Int) (hi : -9223372036854775808 ≤ i ∧ i ≤ 9223372036854775807) :
    Calls Try.prog 14 #[.pointer (some ⟨r, 0, none⟩), .int .i64 i] w fun e w' => e = .returned (.bool (hasR l i).isSome) ∧ w = w' := by
  obtain ⟨A, cap, hv, h2⟩ := h.len
  have d1 : w.cell? ⟨r, 0, none⟩ = some (.slice A l.length cap) := by rw [h.blk.cell 0, ← hv]; rfl
  have n9 : (l.length : Int) ≤ 9223372036854775807 := by unfold maxLen at h2; omega
  by_cases h0 : i < 0
  · have e := Lib.hid (show (hasR l i).isSome = false by unfold hasR; rw [if_neg (by omega)]; rfl)
    generalize (hasR l i).isSome = b at *
    generalize l.length = n at *
    clear h h2 hv
    go_enter Try.func14, Try.ntmps14
    go_wp2
    go_ret
    exact ⟨by rw [e.out]; rfl, rfl⟩
  by_cases h1 : (l.length : Int) ≤ i
  · have e := Lib.hid (show (hasR l i).isSome = false by unfold hasR; rw [if_pos (by omega), List.getElem?_eq_none (by omega)]; rfl)
    generalize (hasR l i).isSome = b at *
    generalize l.length = n at *
    clear h h2 hv
    go_enter Try.func14, Try.ntmps14
    go_wp2
    go_ret
    exact ⟨by rw [e.out]; rfl, rfl⟩
  obtain ⟨k, rfl⟩ := Int.eq_ofNat_of_zero_le (Int.not_lt.1 h0)
  have hlt : k < l.length := by omega
  obtain ⟨A', cap', hv', h1', h2', c0, c1, c2, c3, c4, c5⟩ := h.cl (List.getElem?_eq_getElem hlt)
  have e := Lib.hid (show (hasR l (k : Int)).isSome = (l[k]).is by
    unfold hasR
    rw [if_pos (by omega), Int.toNat_natCast, List.getElem?_eq_getElem hlt]
    simp only [Option.bind_some]
    cases (l[k]).is <;> rfl)
  rw [hv'] at hv
  cases hv
  have k1 : ((k : Int) < (l.length : Int)) := by omega
  have k2 : (0 : Int) ≤ (k : Int) := by omega
  show Calls _ _ #[_, .int .i64 (k : Int)] _ _
  clear h h1 h2 h1' h2' hv' c1 c2 c3 c4 c5 h0 hi
  generalize (l[k]).is = b at *
  generalize l.length = n at *
  go_enter Try.func14, Try.ntmps14
  go_wp2
  go_ret
  exact ⟨by rw [← e.out]; rfl, rfl⟩
def rheldP (l : List RC) (i : Int) : Int := match hasR l i with | some c => c.own + c.behind | none => 0
set_option maxHeartbeats 4000000 in
set_option maxRecDepth 100000 in
theorem rheld_any (B r : Nat) (vC : Value) (most : Int) (l : List RC) (w : World) (h : RX B r vC most l w) (i : Int) (hi : -9223372036854775808 ≤ i ∧ i ≤ 9223372036854775807) (hw : ∀ c ∈ l, -9223372036854775808 ≤ c.own + c.behind ∧ c.own + c.behind ≤ 9223372036854775807) :
    Calls Try.prog 20 #[.pointer (some ⟨r, 0, none⟩), .int .i64 i] w fun e w' => e = .returned (.int .i64 (rheldP l i)) ∧ ∃ n, w' = w.drewN n := by
  have C := rhas_any B r vC most l w h i hi
  unfold rheldP
  cases hf : hasR l i with
  | none =>
    rw [hf] at C
    replace C := Lib.hid C
    clear h hw hf
    go_enter Try.func20, Try.ntmps20
    go_wp2_with fail
    refine C.out.mono ?_; rintro e u ⟨rfl, rfl⟩
    go_wp2
    go_ret
    exact ⟨rfl, 0, rfl⟩
  | some c =>
    rw [hf] at C
    obtain ⟨k, rfl, hk⟩ : ∃ k : Nat, i = (k : Int) ∧ l[k]? = some c := by
      unfold hasR at hf
      split at hf
      · rename_i h0
        obtain ⟨k, rfl⟩ := Int.eq_ofNat_of_zero_le h0
        refine ⟨k, rfl, ?_⟩
        simp only [Int.ofNat_eq_natCast, Int.toNat_natCast] at hf
        cases hk : l[k]? with
        | none => rw [hk] at hf; cases hf
        | some d =>
          rw [hk] at hf
          simp only [Option.bind_some] at hf
          split at hf
          · exact hf
          · cases hf
      · cases hf
    obtain ⟨A, cap, hv, h1, h2, c0, c1, c2, c3, c4, c5⟩ := h.cl hk
    have hlt : k < l.length := (List.getElem?_eq_some_iff.1 hk).1
    have d1 : w.cell? ⟨r, 0, none⟩ = some (.slice (some ⟨A, 0, none⟩) l.length cap) := by rw [h.blk.cell 0, ← hv]; rfl
    have n9 : (l.length : Int) ≤ 9223372036854775807 := by unfold maxLen at h2; omega
    have hs := hw c (List.mem_of_getElem? hk)
    have hwr : IntKind.i64.wrap (c.own + c.behind) = c.own + c.behind := by rw [IntKind.wrap_i64]; omega
    have k1 : ((k : Int) < (l.length : Int)) := by omega
    have k2 : (0 : Int) ≤ (k : Int) := by omega
    replace C := Lib.hid C
    clear h hw hf hk h1 h2 hv c0 c1 c2 c3 hs hlt hi
    generalize l.length = n at *
    go_enter Try.func20, Try.ntmps20
    go_wp2_with fail
    refine C.out.mono ?_; rintro e u ⟨rfl, rfl⟩
    go_upto_region 3 with (fail)
    go_quiet (fail)
    all_goals go_wp2
    all_goals go_ret
    all_goals exact ⟨rfl, _, rfl⟩
def rusedN (l : List RC) : Nat := l.countP (·.is)
theorem rused_step {l : List RC} {k : Nat} {c : RC} (hc : l[k]? = some c) : (l.take (k + 1)).countP (·.is) = (l.take k).countP (·.is) + if c.is then 1 else 0 := by
  obtain ⟨hlt, rfl⟩ := List.getElem?_eq_some_iff.1 hc
  rw [List.take_succ_eq_append_getElem hlt, List.countP_append, List.countP_singleton]
set_option maxHeartbeats 8000000 in
set_option maxRecDepth 100000 in
theorem rused_any (B r : Nat) (vC : Value) (most : Int) (l : List RC) (w : World) (h : RX B r vC most l w) :
    Calls Try.prog 18 #[.pointer (some ⟨r, 0, none⟩)] w fun e w' => e = .returned (.int .i64 (rusedN l : Int)) ∧ Below w.heap.size w w' := by
  obtain ⟨A, cap, hv, h2⟩ := h.len
  have d1 : w.cell? ⟨r, 0, none⟩ = some (.slice A l.length cap) := by rw [h.blk.cell 0, ← hv]; rfl
  have n9 : (l.length : Int) ≤ 9223372036854775807 := by unfold maxLen at h2; omega
  obtain ⟨n, hn⟩ : ∃ n, l.length = n := ⟨_, rfl⟩
  rw [hn] at d1 n9
  replace hn := Lib.hid hn
  replace h := Lib.hid h
  replace hv := Lib.hid hv
  clear h2
  go_enter Try.func18, Try.ntmps18
  go_wp2_with fail
  go_loopw [3, 11] (fun v3 v11 wr => ∃ k : Nat, k ≤ n ∧ v11 = .int .i64 (k : Int) ∧ v3 = .int .i64 (((l.take k).countP (·.is) : Nat) : Int) ∧ Below w.heap.size w wr) (fun _ v11 _ => n - (intOf v11).toNat)
  case atStart => exact ⟨0, Nat.zero_le _, rfl, rfl, Below.refl _ _⟩
  case round =>
    obtain ⟨k, hk, rfl, rfl, hb⟩ := hrel
    by_cases hlt : k < n
    · have hkl : k < l.length := by rw [hn.out]; exact hlt
      obtain ⟨A', cap', hv', h1', h2', c0, c1, c2, c3, c4, c5⟩ := (h.out.later hb).cl (List.getElem?_eq_getElem hkl)
      have hst := rused_step (List.getElem?_eq_getElem hkl)
      have hle : (l.take k).countP (·.is) ≤ k := Nat.le_trans List.countP_le_length (by rw [List.length_take]; omega)
      rw [hv.out] at hv'
      cases hv'
      obtain ⟨b, hbb⟩ : ∃ b, (l[k]).is = b := ⟨_, rfl⟩
      rw [hbb] at c0 hst
      have hz := hb.size
      have hb2 := Lib.hid fun u (hu : Below wr.heap.size wr u) => mmore hb hu
      have k1 : ((k : Int) < (n : Int)) := by omega
      have k2 : (0 : Int) ≤ (k : Int) := by omega
      have wk : IntKind.i64.wrap ((k : Int) + 1) = ((k + 1 : Nat) : Int) := by rw [IntKind.wrap_i64]; omega
      generalize (l.take k).countP (·.is) = x at *
      have wx : IntKind.i64.wrap ((x : Int) + 1) = ((x + 1 : Nat) : Int) := by rw [IntKind.wrap_i64]; omega
      replace hst := Lib.hid hst
      clear hbb h1' h2' hle
      generalize hp1 : (l[k]).prev = y1 at *
      generalize hp2 : (l[k]).event = y2 at *
      generalize hp3 : (l[k]).fresh = y3 at *
      generalize hp4 : (l[k]).own = y4 at *
      generalize hp5 : (l[k]).behind = y5 at *
      clear hp1 hp2 hp3 hp4 hp5 hb
      replace hlt := Lib.hid hlt
      replace hk := Lib.hid hk
      cases b with
      | true =>
        go_wp2
        have hx := hst.out
        have hl := hlt.out
        exact ⟨⟨k + 1, by omega, by simp, by rw [hx]; simp, hb2.out _ (m1 wr _)⟩, by simp [intOf]; omega⟩
      | false =>
        go_wp2
        have hx := hst.out
        have hl := hlt.out
        exact ⟨⟨k + 1, by omega, by simp, by rw [hx]; simp, hb2.out _ (m1 wr _)⟩, by simp [intOf]; omega⟩
    · obtain rfl : k = n := by omega
      have k1 : ¬ ((k : Int) < (k : Int)) := by omega
      have e := Lib.hid (show (l.take k).countP (·.is) = rusedN l by unfold rusedN; rw [List.take_of_length_le (by rw [hn.out]; exact Nat.le_refl _)])
      generalize (l.take k).countP (·.is) = x at *
      replace hb := Lib.hid hb
      go_wp2
      go_ret
      exact ⟨by rw [e.out]; rfl, hb.out⟩
end Go.Proofs.Ytdgbnibnhajfoaa
