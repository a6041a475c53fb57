/- What an aggregate makes of the attributes of a position's events, as contracts. -/
import Derived.Test.YtfjnphiegoogoaaLkB
import Derived.Test.YtfjnphiegoogoaaUna
import Derived.Test.YtfjnphiegoogoaaKinds
import Derived.Test.YtfjnphiegoogoaaRealD
import Derived.Test.YtfjnphiegoogoaaValB
import Derived.Test.YtfjnphiegoogoaaRow
namespace Go.Proofs.Ytfjnphiegoogoaa
open Go.ChangeShapes Go.WideShapes Go.ChangeAt Go.RowKit Go.Fl
set_option linter.unusedVariables false
set_option linter.unusedSimpArgs false

theorem RowV.at_ {w : World} {A : Option Addr} {n : Nat} {vs : List (Int × Nat)} (h : RowV w A n vs) {i : Nat} {v : Int × Nat} (hv : vs[i]? = some v) :
    ∃ b off, A = some ⟨b, off, none⟩ ∧ w.cell? ⟨b, off + i * 2, none⟩ = some (.int .i64 v.1) ∧ w.cell? ⟨b, off + i * 2 + 1, none⟩ = some (.int .u64 (v.2 : Int)) ∧ v.2 < 18446744073709551616 := by
  have hl : i < n := by rw [← h.1]; exact (List.getElem?_eq_some_iff.1 hv).1
  obtain ⟨b, off, hA, hc⟩ := h.2.2 (by omega)
  have := hc i v.1 v.2 hv
  exact ⟨b, off, hA, this.1, this.2, h.2.1 _ (List.mem_of_getElem? hv)⟩

def headP (vs : List (Int × Nat)) : Int × Nat := vs.headD (0, 0)
def lastP (vs : List (Int × Nat)) : Int × Nat := vs.getLastD (0, 0)

theorem head_any (A : Option Addr) (cap : Nat) (vs : List (Int × Nat)) (w : World) (hv : RowV w A vs.length vs) (h0 : 0 < vs.length) :
    Calls Try.prog 94 #[.slice A vs.length cap] w (VIs (headP vs) w) := by
  obtain ⟨v, hv0⟩ : ∃ v, vs[0]? = some v := ⟨vs[0], List.getElem?_eq_getElem h0⟩
  have hp : headP vs = v := by unfold headP; cases vs with | nil => simp at h0 | cons a l => simpa using hv0
  have hu := m1 w (.cells #[.int .i64 0, .int .u64 0] 25)
  obtain ⟨b, off, rfl, c0, c1, _⟩ := (hv.later hu).at_ hv0
  rw [hp]
  obtain ⟨k, c⟩ := v
  simp only [Nat.zero_mul, Nat.add_zero] at c0 c1
  have i1 : (0 : Int) < (vs.length : Int) := by omega
  replace hu := Lib.hid hu
  clear hp hv0 hv
  go_enter Try.func94, Try.ntmps94
  go_wp2
  exact bodyPost_ret (v := .agg #[.int .i64 k, .int .u64 (c : Int)]) (by simp [results, Try.results94, go_sem]) rfl (.mk rfl (m1 _ _))

theorem last_any (A : Option Addr) (cap : Nat) (vs : List (Int × Nat)) (w : World) (hv : RowV w A vs.length vs) (h0 : 0 < vs.length) (hl : vs.length ≤ 9223372036854775807) :
    Calls Try.prog 88 #[.slice A vs.length cap] w (VIs (lastP vs) w) := by
  obtain ⟨n, hn⟩ : ∃ n, vs.length = n + 1 := ⟨vs.length - 1, by omega⟩
  obtain ⟨v, hv0⟩ : ∃ v, vs[n]? = some v := ⟨vs[n], List.getElem?_eq_getElem (by omega)⟩
  have hp : lastP vs = v := by unfold lastP; rw [List.getLastD_eq_getLast?, List.getLast?_eq_getElem?, hn, Nat.add_sub_cancel, hv0]; rfl
  have hu := m1 w (.cells #[.int .i64 0, .int .u64 0] 25)
  obtain ⟨b, off, rfl, c0, c1, _⟩ := (hv.later hu).at_ hv0
  rw [hp, hn]
  obtain ⟨k, c⟩ := v
  have hw : IntKind.i64.wrap (((n + 1 : Nat) : Int) - 1) = (n : Int) := by rw [IntKind.wrap_i64]; omega
  have hw2 : ((n + 1 : Nat) : Int) - 1 = (n : Int) := by omega
  have i0 : (0 : Int) ≤ (n : Int) := by omega
  have i1 : (n : Int) < ((n + 1 : Nat) : Int) := by omega
  have hn2 : n + 1 ≤ 9223372036854775807 := by omega
  replace hu := Lib.hid hu
  clear hp hv0 hv hn hl h0
  go_enter Try.func88, Try.ntmps88
  go_wp2
  exact bodyPost_ret (v := .agg #[.int .i64 k, .int .u64 (c : Int)]) (by simp [results, Try.results88, go_sem]) rfl (.mk rfl (m1 _ _))

def addP (t v : Int × Nat) : Int × Nat := appP 1 [t, v]
def sumP (vs : List (Int × Nat)) : Int × Nat :=
  match vs with
  | [] => (0, 0)
  | v :: l => l.foldl addP v
def SumR (w : World) (g : Nat) (rs : List (Int × Nat)) (R : Int × Nat) (k : Nat) (wr : World) : Prop :=
  ∃ t : Int × Nat, Blk wr g 25 #[.int .i64 t.1, .int .u64 (t.2 : Int)] ∧ (rs.drop k).foldl addP t = R ∧ t.2 < 18446744073709551616 ∧ Blk wr w.heap.size 25 #[.int .i64 0, .int .u64 0] ∧ Below w.heap.size w wr

set_option maxHeartbeats 4000000 in
set_option maxRecDepth 100000 in
theorem sum_one (A : Option Addr) (v : Int × Nat) (w : World) (hv : RowV w A 1 [v]) :
    Calls Try.prog 89 #[.slice A 1 1] w (VIs v w) := by
  have hu := m1 w (.cells #[.int .i64 0, .int .u64 0] 25)
  obtain ⟨b, off, rfl, c0, c1, _⟩ := (hv.later hu).at_ (i := 0) rfl
  obtain ⟨k, c⟩ := v
  simp only [Nat.zero_mul, Nat.add_zero] at c0 c1
  clear hv hu
  go_enter Try.func89, Try.ntmps89
  go_wp2
  go_loopw [12] (fun i wr => i = .int .i64 0 ∧ wr = (w.alloc (.cells #[.int .i64 0, .int .u64 0] 25)).alloc (.cells #[.int .i64 k, .int .u64 (c : Int)] 25)) (fun i _ => 0)
  case atStart => exact ⟨rfl, rfl⟩
  case round =>
    obtain ⟨rfl, rfl⟩ := hrel
    go_wp2
    exact bodyPost_ret (v := .agg #[.int .i64 k, .int .u64 (c : Int)]) (by simp [results, Try.results89, go_sem]) rfl (.mk rfl (m2 _ _ _))

set_option maxHeartbeats 4000000 in
set_option maxRecDepth 100000 in
theorem sum_more (A : Option Addr) (v x : Int × Nat) (l : List (Int × Nat)) (w : World) (hv : RowV w A (l.length + 2) (v :: x :: l)) (hl : l.length + 2 ≤ 9223372036854775807) :
    Calls Try.prog 89 #[.slice A (l.length + 2) (l.length + 2)] w (VIs (sumP (v :: x :: l)) w) := by
  show Calls _ _ _ _ (VIs ((x :: l).foldl addP v) w)
  have hrs : (x :: l).length = l.length + 1 := rfl
  have hcell : ∀ k y, (x :: l)[k]? = some y → (v :: x :: l)[k + 1]? = some y := fun k y h => by simpa using h
  generalize x :: l = rs at *
  generalize hR : rs.foldl addP v = R
  generalize l.length = m at *
  have hu := m1 w (.cells #[.int .i64 0, .int .u64 0] 25)
  obtain ⟨b, off, rfl, c0, c1, vlt⟩ := (hv.later hu).at_ (i := 0) rfl
  obtain ⟨vk, vb⟩ := v
  simp only [Nat.zero_mul, Nat.add_zero] at c0 c1 vlt
  have hcl : ∀ k y, rs[k]? = some y → w.cell? ⟨b, off + 2 + k * 2, none⟩ = some (.int .i64 y.1) ∧ w.cell? ⟨b, off + 2 + k * 2 + 1, none⟩ = some (.int .u64 (y.2 : Int)) ∧ y.2 < 18446744073709551616 := fun k y h => by
    obtain ⟨b', off', e, d0, d1, d2⟩ := hv.at_ (hcell k y h)
    simp only [Option.some.injEq, Addr.mk.injEq, and_true] at e
    obtain ⟨rfl, rfl⟩ := e
    rw [show off + (k + 1) * 2 = off + 2 + k * 2 by omega] at d0 d1
    exact ⟨d0, d1, d2⟩
  have k0 : Blk ((w.alloc (.cells #[.int .i64 0, .int .u64 0] 25)).alloc (.cells #[.int .i64 vk, .int .u64 (vb : Int)] 25)) (w.heap.size + 1) 25 #[.int .i64 vk, .int .u64 (vb : Int)] := by
    have := Blk.made (w.alloc (.cells #[.int .i64 0, .int .u64 0] 25)) 25 #[.int .i64 vk, .int .u64 (vb : Int)]
    simpa using this
  have z0 : Blk ((w.alloc (.cells #[.int .i64 0, .int .u64 0] 25)).alloc (.cells #[.int .i64 vk, .int .u64 (vb : Int)] 25)) w.heap.size 25 #[.int .i64 0, .int .u64 0] :=
    (Blk.made w 25 #[.int .i64 0, .int .u64 0]).kept (m1 _ _)
  have s0 : SumR w (w.heap.size + 1) rs R 0 ((w.alloc (.cells #[.int .i64 0, .int .u64 0] 25)).alloc (.cells #[.int .i64 vk, .int .u64 (vb : Int)] 25)) :=
    ⟨(vk, vb), k0, by simpa using hR, vlt, z0, m2 _ _ _⟩
  replace s0 := Lib.hid s0
  replace hcl := Lib.hid hcl
  replace hrs := Lib.hid hrs
  clear hv hcell hu k0 z0 hR
  go_enter Try.func89, Try.ntmps89
  go_wp2
  go_loopw [12] (fun i wr => ∃ k : Nat, k ≤ m + 1 ∧ i = .int .i64 (k : Int) ∧ SumR w (w.heap.size + 1) rs R k wr) (fun i _ => m + 1 - (intOf i).toNat)
  case atStart => exact ⟨0, Nat.zero_le _, rfl, s0.out⟩
  case round =>
    obtain ⟨k, hk, rfl, ⟨tk, tb⟩, hT, hR, hlt, hZ, hW⟩ := hrel
    clear s0
    by_cases hkl : k < m + 1
    · have hkr : k < rs.length := by rw [hrs.out]; exact hkl
      have hrk : rs[k]? = some (rs[k].1, rs[k].2) := List.getElem?_eq_getElem hkr
      rw [List.drop_eq_getElem_cons hkr, List.foldl_cons] at hR
      obtain ⟨d0, d1, d2⟩ := hcl.out k _ hrk
      generalize rs[k] = y at *
      obtain ⟨yk, yb⟩ := y
      clear hrk hkr
      simp only at hT hlt d0 d1 d2
      have d0 := cell_later hW d0
      have d1 := cell_later hW d1
      have t0 : wr.cell? ⟨w.heap.size + 1, 0, none⟩ = some (.int .i64 tk) := hT.cell 0
      have t1 : wr.cell? ⟨w.heap.size + 1, 1, none⟩ = some (.int .u64 (tb : Int)) := hT.cell 1
      have hb2 := m2 wr (.cells #[.int .i64 yk, .int .u64 (yb : Int)] 25) (.cells #[.int .i64 tk, .int .u64 (tb : Int), .int .i64 yk, .int .u64 (yb : Int)] 25)
      have hrow := row_two (w := (wr.alloc (.cells #[.int .i64 yk, .int .u64 (yb : Int)] 25)).alloc (.cells #[.int .i64 tk, .int .u64 (tb : Int), .int .i64 yk, .int .u64 (yb : Int)] 25)) (g := wr.heap.size + 1) (k1 := tk) (k2 := yk) hlt d2 (by simp [go_sem]) (by simp [go_sem]) (by simp [go_sem]) (by simp [go_sem])
      have hA := apply_any 1 _ 2 2 _ _ hrow
      have hap := app_lt 1 [(tk, tb), (yk, yb)] wr (by simp; exact ⟨hlt, d2⟩)
      have hR' : (rs.drop (k + 1)).foldl addP (appP 1 [(tk, tb), (yk, yb)]) = R := hR
      have h1 : w.heap.size + 1 < wr.heap.size := hT.lt
      generalize appP 1 [(tk, tb), (yk, yb)] = x at *
      obtain ⟨xk, xb⟩ := x
      simp only at hA hap
      replace hA := Lib.hid hA
      replace hb2 := Lib.hid hb2
      replace hW := Lib.hid hW
      replace hT := Lib.hid hT
      replace hZ := Lib.hid hZ
      replace hR' := Lib.hid hR'
      clear hR hrow
      go_wp2_with fail
      refine hA.out.mono ?_; rintro e w5 ⟨rfl, hb5⟩
      have hT5 := (hT.out.kept hb2.out).kept hb5
      have hZ5 := ((hZ.out.kept hb2.out).kept hb5)
      have hW5 := mmore (mmore hW.out hb2.out) hb5
      have u0 : w5.cell? ⟨w.heap.size + 1, 0, none⟩ = some (.int .i64 tk) := hT5.cell 0
      have u1 : w5.cell? ⟨w.heap.size + 1, 1, none⟩ = some (.int .u64 (tb : Int)) := hT5.cell 1
      have f0 : w5.frozen? ⟨w.heap.size + 1, 0, none⟩ = false := hT5.free 0
      have f1 : w5.frozen? ⟨w.heap.size + 1, 1, none⟩ = false := hT5.free 1
      have hT6 : Blk ((w5.setCell ⟨w.heap.size + 1, 0, none⟩ (.int .i64 xk)).setCell ⟨w.heap.size + 1, 1, none⟩ (.int .u64 (xb : Int))) (w.heap.size + 1) 25 #[.int .i64 xk, .int .u64 (xb : Int)] := by simpa using (hT5.put_ 0 (.int .i64 xk)).put_ 1 (.int .u64 (xb : Int))
      have hZ6 := (hZ5.else_ (p := ⟨w.heap.size + 1, 0, none⟩) (by show w.heap.size + 1 ≠ w.heap.size; omega) (.int .i64 xk)).else_ (p := ⟨w.heap.size + 1, 1, none⟩) (by show w.heap.size + 1 ≠ w.heap.size; omega) (.int .u64 (xb : Int))
      have hW6 := (hW5.setCell (p := ⟨w.heap.size + 1, 0, none⟩) (by show w.heap.size ≤ w.heap.size + 1; omega) (.int .i64 xk)).setCell (p := ⟨w.heap.size + 1, 1, none⟩) (by show w.heap.size ≤ w.heap.size + 1; omega) (.int .u64 (xb : Int))
      replace hT6 := Lib.hid hT6
      replace hZ6 := Lib.hid hZ6
      replace hW6 := Lib.hid hW6
      clear hT5 hZ5 hW5 t0 t1 d0 d1 hA hb2 hb5 hT hZ hW
      go_wp2
      go_roundw
      case rel => exact ⟨k + 1, by omega, by go_num, (xk, xb), hT6.out, hR'.out, hap, hZ6.out, hW6.out⟩
      case measure => simp [intOf]; omega
    · obtain rfl : k = m + 1 := by omega
      have t0 : wr.cell? ⟨w.heap.size + 1, 0, none⟩ = some (.int .i64 tk) := hT.cell 0
      have t1 : wr.cell? ⟨w.heap.size + 1, 1, none⟩ = some (.int .u64 (tb : Int)) := hT.cell 1
      have x0 : wr.cell? ⟨w.heap.size, 0, none⟩ = some (.int .i64 0) := hZ.cell 0
      have x1 : wr.cell? ⟨w.heap.size, 1, none⟩ = some (.int .u64 0) := hZ.cell 1
      have f0 : wr.frozen? ⟨w.heap.size, 0, none⟩ = false := hZ.free 0
      have f1 : wr.frozen? ⟨w.heap.size, 1, none⟩ = false := hZ.free 1
      have hE : (tk, tb) = R := by
        rw [← hR, List.drop_eq_nil_of_le (by rw [hrs.out]; exact Nat.le_refl _)]; rfl
      subst hE
      obtain ⟨_, r1, r2⟩ := put2 (w := wr) (g := w.heap.size) (.int .i64 tk) (.int .u64 (tb : Int)) x0 x1
      replace r1 := Lib.hid r1
      replace r2 := Lib.hid r2
      replace hW := Lib.hid hW
      clear hT hZ hR
      go_wp2
      exact bodyPost_ret (v := .agg #[.int .i64 tk, .int .u64 (tb : Int)]) (by simp [results, Try.results89, go_sem, r1.out, r2.out]) rfl (.mk rfl ((hW.out.setCell (Nat.le_refl _) _).setCell (Nat.le_refl _) _))

theorem sum_any (A : Option Addr) (vs : List (Int × Nat)) (w : World) (hv : RowV w A vs.length vs) (h0 : 0 < vs.length) (hl : vs.length ≤ 9223372036854775807) :
    Calls Try.prog 89 #[.slice A vs.length vs.length] w (VIs (sumP vs) w) := by
  match vs, hv, h0, hl with
  | [v], hv, _, _ => exact sum_one A v w hv
  | v :: x :: l, hv, _, hl => exact sum_more A v x l w hv (by simpa using hl)
end Go.Proofs.Ytfjnphiegoogoaa
