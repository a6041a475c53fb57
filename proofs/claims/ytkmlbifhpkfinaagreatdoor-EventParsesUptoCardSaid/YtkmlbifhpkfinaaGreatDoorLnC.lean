/- event.read: the value that a word may tell, as a contract. -/
import Derived.Test.YtkmlbifhpkfinaaGreatDoorLnB
import Derived.Deep.RegionLaw
namespace Go.Proofs.YtkmlbifhpkfinaaGreatDoor
open Go.ChangeShapes Go.WideShapes Go.ChangeAt Go.RowKit Go.Fl Go.Shelf
set_option linter.unusedVariables false
set_option linter.unusedSimpArgs false

/-- a value of this kind is read: of a valid value's word it is that value -/
def ReadR (ss : List ByteArray) (k : Int) (s : ByteArray) (w : World) (e : Ending) (w' : World) : Prop :=
  (∃ b : Nat, e = .returned (.agg #[.int .i64 k, .int .u64 (b : Int)]) ∧ b < 18446744073709551616 ∧ ∀ ts, CheckIs ts ss 0 → ∀ v : Int × Nat, ValP (ss.length : Int) k v → v.2 < 18446744073709551616 → s.data.toList = wordW ss v → b = v.2) ∧ Below w.heap.size w w'
theorem ReadR.mk {ss : List ByteArray} {k x : Int} {s : ByteArray} {w w' : World} (b : Nat) (hx : x = (b : Int)) (hb : b < 18446744073709551616) (h : ∀ ts, CheckIs ts ss 0 → ∀ v : Int × Nat, ValP (ss.length : Int) k v → v.2 < 18446744073709551616 → s.data.toList = wordW ss v → b = v.2) (hB : Below w.heap.size w w') :
    ReadR ss k s w (.returned (.agg #[.int .i64 k, .int .u64 x])) w' := by subst hx; exact ⟨⟨b, rfl, hb, h⟩, hB⟩
theorem read_int {ss : List ByteArray} {s : ByteArray} {n : Int} (h0 : -9223372036854775808 ≤ n) (h1 : n ≤ 9223372036854775807) (h : ∀ x : Int, -9223372036854775808 ≤ x → x ≤ 9223372036854775807 → s.data.toList = Lib.itoa x → n = x) :
    ∀ ts, CheckIs ts ss 0 → ∀ v : Int × Nat, ValP (ss.length : Int) 1 v → v.2 < 18446744073709551616 → s.data.toList = wordW ss v → (IntKind.u64.wrap n).toNat = v.2 := by
  intro ts hc v hv hb hw
  have hr := wrap64_range (v.2 : Int)
  unfold wordW at hw
  rw [if_pos hv.1] at hw
  rw [h _ hr.1 hr.2 hw, wrap64_back _ hb]
  rfl
theorem read_bool {ss : List ByteArray} {s : ByteArray} {b : Nat} (h1 : s.data.toList = trueB → b = 1) (h0 : s.data.toList ≠ trueB → b = 0) :
    ∀ ts, CheckIs ts ss 0 → ∀ v : Int × Nat, ValP (ss.length : Int) 2 v → v.2 < 18446744073709551616 → s.data.toList = wordW ss v → b = v.2 := by
  intro ts hc v hv hb hw
  have h2 : clK 2 v.2 = 2 := by have := hv.2.1; rw [hv.1] at this; exact this
  unfold wordW at hw
  rw [if_neg (by rw [hv.1]; decide), if_pos hv.1] at hw
  rcases clB_bool h2 rfl with e | e
  · rw [e] at hw ⊢
    exact h0 (by rw [hw]; try decide)
  · rw [e] at hw ⊢
    exact h1 hw
theorem trim39 (l : List UInt8) : Lib.trimPrefix (39 :: l) [39] = l := by
  unfold Lib.trimPrefix Lib.hasPrefix
  simp
theorem trim_len (l : List UInt8) : (Lib.trimPrefix l [39]).length ≤ l.length := by
  unfold Lib.trimPrefix
  split <;> simp
theorem place_range {α : Type} (p : α → Bool) (l : List α) : -1 ≤ place p l ∧ place p l ≤ (l.length : Int) := by
  have : ∀ (l : List α) (i : Nat), -1 ≤ placeFrom p l i ∧ placeFrom p l i ≤ ((i + l.length : Nat) : Int) := by
    intro l
    induction l with
    | nil => intro i; simp [placeFrom]; try omega
    | cons a r ih =>
      intro i
      simp only [placeFrom]
      split
      · simp
        try omega
      · have := ih (i + 1)
        simp at this ⊢
        omega
  have := this l 0
  simpa [place] using this
theorem read_sym {ss : List ByteArray} {s : ByteArray} (hl : ss.length < 9223372036854775808) :
    ∀ ts, CheckIs ts ss 0 → ∀ v : Int × Nat, ValP (ss.length : Int) 3 v → v.2 < 18446744073709551616 → s.data.toList = wordW ss v → (IntKind.u64.wrap (textOf ss (bl (Lib.trimPrefix s.data.toList [39])))).toNat = v.2 := by
  intro ts hc v hv hb hw
  unfold wordW at hw
  rw [if_neg (by rw [hv.1]; decide), if_neg (by rw [hv.1]; decide), if_pos hv.1] at hw
  have hl2 : v.2 < ss.length := by have := hv.2.2.2 hv.1; omega
  rw [List.getElem?_eq_getElem hl2] at hw
  simp only [Option.map_some, Option.getD_some] at hw
  rw [hw, trim39, bl_of, ok_symOf hc (List.getElem?_eq_getElem hl2), IntKind.wrap_u64]
  omega
theorem read_real {ss : List ByteArray} {s : ByteArray} {n : Nat} (h : ∀ m, m < 18446744073709551616 → s.data.toList = textB (cn m) → n = cn m) :
    ∀ ts, CheckIs ts ss 0 → ∀ v : Int × Nat, ValP (ss.length : Int) 4 v → v.2 < 18446744073709551616 → s.data.toList = wordW ss v → n = v.2 := by
  intro ts hc v hv hb hw
  unfold wordW at hw
  rw [if_neg (by rw [hv.1]; decide), if_neg (by rw [hv.1]; decide), if_neg (by rw [hv.1]; decide)] at hw
  rw [h _ hb hw]
  have := hv.2.2.1
  exact clB_real this hv.1
theorem read_none {ss : List ByteArray} {s : ByteArray} {k : Int} (h1 : k ≠ 1) (h2 : k ≠ 2) (h3 : k ≠ 3) (h4 : k ≠ 4) :
    ∀ ts, CheckIs ts ss 0 → ∀ v : Int × Nat, ValP (ss.length : Int) k v → v.2 < 18446744073709551616 → s.data.toList = wordW ss v → 0 = v.2 := by
  intro ts hc v hv hb hw
  have := hv.2.2.1
  rw [hv.1] at this
  unfold clB at this
  rw [if_neg h4, if_neg (by omega)] at this
  exact this

set_option maxHeartbeats 4000000 in
set_option maxRecDepth 100000 in
theorem read_any (v1 : Value) (C : Option Addr) (capC : Nat) (ss : List ByteArray) (k : Int) (s : ByteArray) (w : World) (hS : SymsAt w C ss) (hn : ss.length ≤ 140737488355328) (hs : s.size ≤ 281474976710656) (hT : TzCell w) (hE : ErrCells w) :
    Calls Tryz.prog 44 #[.agg #[v1, .slice C ss.length capC], .int .i64 k, .string s] w (ReadR ss k s w) := by
  have hu := (m2 w (.cells #[v1, .slice C ss.length capC] 31) (.cells #[.int .i64 0, .int .u64 0] 61)).alloc (by simp; omega) (.cells #[.int .i64 k, .int .u64 0] 61)
  have k0 : Blk (((w.alloc (.cells #[v1, .slice C ss.length capC] 31)).alloc (.cells #[.int .i64 0, .int .u64 0] 61)).alloc (.cells #[.int .i64 k, .int .u64 0] 61)) w.heap.size 31 #[v1, .slice C ss.length capC] := ((Blk.made _ _ _).kept (m1 _ _)).kept (m1 _ _)
  have k1 : Blk (((w.alloc (.cells #[v1, .slice C ss.length capC] 31)).alloc (.cells #[.int .i64 0, .int .u64 0] 61)).alloc (.cells #[.int .i64 k, .int .u64 0] 61)) (w.heap.size + 1) 61 #[.int .i64 0, .int .u64 0] := by
    have := (Blk.made (w.alloc (.cells #[v1, .slice C ss.length capC] 31)) 61 #[.int .i64 0, .int .u64 0]).kept (m1 _ (.cells #[.int .i64 k, .int .u64 0] 61))
    simpa using this
  have k2 : Blk (((w.alloc (.cells #[v1, .slice C ss.length capC] 31)).alloc (.cells #[.int .i64 0, .int .u64 0] 61)).alloc (.cells #[.int .i64 k, .int .u64 0] 61)) (w.heap.size + 1 + 1) 61 #[.int .i64 k, .int .u64 0] := by
    have := Blk.made ((w.alloc (.cells #[v1, .slice C ss.length capC] 31)).alloc (.cells #[.int .i64 0, .int .u64 0] 61)) 61 #[.int .i64 k, .int .u64 0]
    simpa using this
  have fin : ∀ (W : World) (x : Int) (b : Nat), Below w.heap.size w W → x = (b : Int) → b < 18446744073709551616 → (∀ ts, CheckIs ts ss 0 → ∀ v : Int × Nat, ValP (ss.length : Int) k v → v.2 < 18446744073709551616 → s.data.toList = wordW ss v → b = v.2) →
      ReadR ss k s w (.returned (.agg #[.int .i64 k, .int .u64 x])) (((W.setCell ⟨w.heap.size + 1 + 1, 1, none⟩ (.int .u64 x)).setCell ⟨w.heap.size + 1, 0, none⟩ (.int .i64 k)).setCell ⟨w.heap.size + 1, 1, none⟩ (.int .u64 x)) := fun W x b hB hx hb h =>
    .mk b hx hb h (((hB.setCell (p := ⟨w.heap.size + 1 + 1, 1, none⟩) (by show w.heap.size ≤ w.heap.size + 1 + 1; omega) _).setCell (p := ⟨w.heap.size + 1, 0, none⟩) (by show w.heap.size ≤ w.heap.size + 1; omega) _).setCell (p := ⟨w.heap.size + 1, 1, none⟩) (by show w.heap.size ≤ w.heap.size + 1; omega) _)
  have fin3 : ∀ (o1 o2 o3 : Obj) (x : Int) (b : Nat), x = (b : Int) → b < 18446744073709551616 → (∀ ts, CheckIs ts ss 0 → ∀ v : Int × Nat, ValP (ss.length : Int) k v → v.2 < 18446744073709551616 → s.data.toList = wordW ss v → b = v.2) →
      ReadR ss k s w (.returned (.agg #[.int .i64 k, .int .u64 x])) (((w.alloc o1).alloc o2).alloc o3) := fun o1 o2 o3 x b hx hb h =>
    .mk b hx hb h ((m2 w o1 o2).alloc (by simp; omega) o3)
  replace fin := Lib.hid fin
  replace fin3 := Lib.hid fin3
  have cells : ∀ W, Below (((w.alloc (.cells #[v1, .slice C ss.length capC] 31)).alloc (.cells #[.int .i64 0, .int .u64 0] 61)).alloc (.cells #[.int .i64 k, .int .u64 0] 61)).heap.size (((w.alloc (.cells #[v1, .slice C ss.length capC] 31)).alloc (.cells #[.int .i64 0, .int .u64 0] 61)).alloc (.cells #[.int .i64 k, .int .u64 0] 61)) W →
      W.cell? ⟨w.heap.size + 1 + 1, 0, none⟩ = some (.int .i64 k) ∧ W.cell? ⟨w.heap.size + 1 + 1, 1, none⟩ = some (.int .u64 0) ∧ W.frozen? ⟨w.heap.size + 1 + 1, 1, none⟩ = false ∧ W.cell? ⟨w.heap.size + 1, 0, none⟩ = some (.int .i64 0) ∧ W.cell? ⟨w.heap.size + 1, 1, none⟩ = some (.int .u64 0) ∧ W.frozen? ⟨w.heap.size + 1, 0, none⟩ = false ∧ W.frozen? ⟨w.heap.size + 1, 1, none⟩ = false ∧ Below w.heap.size w W := fun W hB =>
    ⟨(k2.kept hB).cell 0, (k2.kept hB).cell 1, (k2.kept hB).free 1, (k1.kept hB).cell 0, (k1.kept hB).cell 1, (k1.kept hB).free 0, (k1.kept hB).free 1, mmore hu hB⟩
  replace cells := Lib.hid cells
  have hEu := Lib.hid (hE.later hu)
  have hTu := Lib.hid (hT.later hu)
  have hSu := Lib.hid (hS.later hu)
  have c1 : (((w.alloc (.cells #[v1, .slice C ss.length capC] 31)).alloc (.cells #[.int .i64 0, .int .u64 0] 61)).alloc (.cells #[.int .i64 k, .int .u64 0] 61)).cell? ⟨w.heap.size, 0, none⟩ = some v1 := k0.cell 0
  have c2 : (((w.alloc (.cells #[v1, .slice C ss.length capC] 31)).alloc (.cells #[.int .i64 0, .int .u64 0] 61)).alloc (.cells #[.int .i64 k, .int .u64 0] 61)).cell? ⟨w.heap.size, 1, none⟩ = some (.slice C ss.length capC) := k0.cell 1
  clear k0 k1 k2 hu hS hT hE
  by_cases h1 : k = 1
  · subst h1
    clear c1 c2
    go_enter Tryz.func44, Tryz.ntmps44
    go_wp2_with fail
    refine (pint_any s _ hs hEu.out).mono ?_; rintro e w3 ⟨⟨n, ev, rfl, n0, n1, hx⟩, hb⟩
    obtain ⟨z0, z1, f1, r0, r1, g0, g1, hB⟩ := cells.out w3 hb
    replace hx := Lib.hid hx
    clear hb
    go_wp2
    have hr := read_int (ss := ss) (s := s) n0 n1 hx.out
    have hw0 : 0 ≤ IntKind.u64.wrap n ∧ IntKind.u64.wrap n < 18446744073709551616 := by rw [IntKind.wrap_u64]; omega
    exact bodyPost_ret (v := .agg #[.int .i64 1, .int .u64 (IntKind.u64.wrap n)]) (by simp [results, Tryz.results44, go_sem, *]) rfl (fin.out w3 (IntKind.u64.wrap n) _ hB (by omega) (by omega) hr)
  · by_cases h2 : k = 2
    · subst h2
      clear c1 c2
      by_cases hs2 : (s.toList == [116, 114, 117, 101]) = true
      · have hst : s.data.toList = trueB := by have := eq_of_beq hs2; rw [ByteArray.toList_eq] at this; exact this
        have hr := read_bool (ss := ss) (s := s) (b := 1) (fun _ => rfl) (fun h => absurd hst h)
        replace hr := Lib.hid hr
        clear hst
        go_enter Tryz.func44, Tryz.ntmps44
        go_wp2
        exact bodyPost_ret (v := .agg #[.int .i64 2, .int .u64 1]) (by simp [results, Tryz.results44, go_sem, *]) rfl (fin3.out _ _ _ 1 1 rfl (by decide) hr.out)
      · have hst : s.data.toList ≠ trueB := fun h => hs2 (by rw [ByteArray.toList_eq, h]; rfl)
        have hs3 : (s.toList == [116, 114, 117, 101]) = false := by simpa using hs2
        have hr := read_bool (ss := ss) (s := s) (b := 0) (fun h => absurd h hst) (fun _ => rfl)
        replace hr := Lib.hid hr
        clear hst hs2
        go_enter Tryz.func44, Tryz.ntmps44
        go_wp2
        exact bodyPost_ret (v := .agg #[.int .i64 2, .int .u64 0]) (by simp [results, Tryz.results44, go_sem, *]) rfl (fin3.out _ _ _ 0 0 rfl (by decide) hr.out)
    · by_cases h3 : k = 3
      · subst h3
        have hlt : s.data.toList.length ≤ 281474976710656 := by rw [list_len]; exact hs
        have TP := Tryz.strings_TrimPrefix s ⟨#[39]⟩
        have hr := read_sym (ss := ss) (s := s) (by omega)
        have hrg := place_range (fun t : ByteArray => t.toList == (bl (Lib.trimPrefix s.data.toList [39])).toList) ss
        have SY := fun v1 w h => sym_any C capC v1 ss (bl (Lib.trimPrefix s.data.toList [39])) w h (by omega)
        change ∀ w, Calls Tryz.prog 68 #[.string s, .string ⟨#[39]⟩] w fun e w' => e = .returned (.string (bl (Lib.trimPrefix s.data.toList [39]))) ∧ w' = w at TP
        have hre : place (fun t : ByteArray => t.toList == (bl (Lib.trimPrefix s.data.toList [39])).toList) ss = textOf ss (bl (Lib.trimPrefix s.data.toList [39])) := rfl
        rw [hre] at hrg
        generalize textOf ss (bl (Lib.trimPrefix s.data.toList [39])) = r at *
        generalize bl (Lib.trimPrefix s.data.toList [39]) = t at *
        replace TP := Lib.hid TP
        replace SY := Lib.hid SY
        replace hr := Lib.hid hr
        replace hrg := Lib.hid hrg
        clear hre hlt h1 h2
        go_enter Tryz.func44, Tryz.ntmps44
        go_wp2_with fail
        generalize ((w.alloc (.cells #[v1, .slice C ss.length capC] 31)).alloc (.cells #[.int .i64 0, .int .u64 0] 61)).alloc (.cells #[.int .i64 3, .int .u64 0] 61) = u at *
        go_region_law (first | (go_simp; go_at_call 68; refine (TP.out _).mono ?_; rintro e w2 ⟨rfl, rfl⟩) | ((try go_simp); go_at_call 67; refine (SY.out v1 _ (show SymsAt u.drew C ss from hSu.out)).mono ?_; rintro e w3 ⟨rfl, hb⟩; obtain ⟨z0, z1, f1, r0, r1, g0, g1, hB⟩ := cells.out w3 (mmore ((Below.refl _ u).drew) hb)))
        all_goals clear hb
        all_goals go_wp2
        all_goals have hw0 : 0 ≤ IntKind.u64.wrap r ∧ IntKind.u64.wrap r < 18446744073709551616 := by rw [IntKind.wrap_u64]; omega
        all_goals exact bodyPost_ret (v := .agg #[.int .i64 3, .int .u64 (IntKind.u64.wrap r)]) (by simp [results, Tryz.results44, go_sem, *]) rfl (fin.out w3 (IntKind.u64.wrap r) _ hB (by omega) (by omega) hr.out)
      · by_cases h4 : k = 4
        · subst h4
          clear c1 c2 h1 h2 h3
          go_enter Tryz.func44, Tryz.ntmps44
          go_wp2_with fail
          refine (preal_any s _ hs hTu.out hEu.out).mono ?_; rintro e w3 ⟨⟨n, b, rfl, n0, hx⟩, hb⟩
          obtain ⟨z0, z1, f1, r0, r1, g0, g1, hB⟩ := cells.out w3 hb
          have hr := read_real (ss := ss) (s := s) hx
          replace hr := Lib.hid hr
          clear hb hx
          go_wp2
          exact bodyPost_ret (v := .agg #[.int .i64 4, .int .u64 (n : Int)]) (by simp [results, Tryz.results44, go_sem, *]) rfl (fin.out w3 n n hB rfl n0 hr.out)
        · have hr := read_none (ss := ss) (s := s) h1 h2 h3 h4
          have e1 : (k == 1) = false := by simpa using h1
          have e2 : (k == 2) = false := by simpa using h2
          have e3 : (k == 3) = false := by simpa using h3
          have e4 : (k == 4) = false := by simpa using h4
          replace hr := Lib.hid hr
          clear h1 h2 h3 h4 c1 c2
          go_enter Tryz.func44, Tryz.ntmps44
          go_wp2
          exact bodyPost_ret (v := .agg #[.int .i64 k, .int .u64 0]) (by simp [results, Tryz.results44, go_sem, *]) rfl (fin3.out _ _ _ 0 0 rfl (by decide) hr.out)
end Go.Proofs.YtkmlbifhpkfinaaGreatDoor
