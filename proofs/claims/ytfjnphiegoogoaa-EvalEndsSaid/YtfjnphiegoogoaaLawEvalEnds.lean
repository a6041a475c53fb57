/- EvalEnds: to the program the least and the greatest of whole numbers don't hang on the order, are among them, and none is beyond. -/
import Derived.Test.YtfjnphiegoogoaaRows
import Derived.WalkKit
import Derived.ProofKit
import Derived.OpenShut
import Derived.ShutString
import Derived.ChangeOld
import Derived.Below
import Derived.Lib.SmallJoins
import Derived.SizedLaws
import Derived.Test.YtfjnphiegoogoaaEnd
import Derived.Test.YtfjnphiegoogoaaEvN
import Derived.Deep.CutRange
import Derived.Deep.DeepCutAuto
import Derived.Deep.QuietTactic
import Derived.BigQuiet
namespace Go.Proofs.Ytfjnphiegoogoaa.evalEnds
open Go.ChangeShapes Go.WideShapes Go.ChangeAt Go.RowKit Go.Joins
set_option linter.unusedVariables false
set_option linter.unusedSimpArgs false

theorem own : ownKnob Try.prog.godebug = none := by kernel_rfl
theorem laidOut : laidOutB Try.prog = true := by kernel_rfl

theorem bytes2 : Try.prog.bytesOf 2 = 8 := by kernel_rfl
/-- what is known of a slice of ints that came in -/
def IntsIn (k : IntKind) (w : World) (a : Option Addr) (len cap : Nat) (zs : List Int) : Prop :=
  (a = none ∧ len = 0 ∧ cap = 0 ∧ zs = []) ∨
  ∃ x, a = some x ∧ len ≤ cap ∧ cap ≤ maxLen ∧ zs.length = cap ∧ (∀ i, i < zs.length → w.cell? (x.add i) = some (.int k (zs.getD i 0))) ∧ ∀ n ∈ zs, (Lit.int k n).wf = true

theorem reads_of {k : IntKind} {w : World} {a : Option Addr} {n c : Nat} {zs : List Int} (h : IntsIn k w a n c zs) :
    RowI k w a n (zs.take n) ∧ Reads w w.heap.size 1 a n ((zs.take n).map (Value.int k)) := by
  rcases h with ⟨rfl, rfl, rfl, rfl⟩ | ⟨x, rfl, hl, hm, hz, hc, _⟩
  · exact ⟨⟨rfl, fun h => absurd h (by simp)⟩, Reads.none_⟩
  · have ht : (zs.take n).length = n := by rw [List.length_take]; omega
    refine ⟨⟨ht, fun hn => ?_⟩, by rw [List.length_map, ht, Nat.mul_one], fun hn => ?_⟩
    · obtain ⟨b, off, rfl, hc2⟩ := ints_at hc (by omega)
      refine ⟨b, off, rfl, fun i z hi => ?_⟩
      have hi2 : i < n := by have := (List.getElem?_eq_some_iff.1 hi).1; omega
      rw [hc2 i (by omega)]
      rw [List.getElem?_take_of_lt hi2] at hi
      rw [List.getD_eq_getElem?_getD, hi]; rfl
    · refine ⟨x, rfl, ?_, fun j u hu => ?_⟩
      · have := block_of_cell (hc 0 (by omega))
        rwa [block_of_add] at this
      · rw [List.getElem?_map] at hu
        obtain ⟨z, hz2, rfl⟩ := Option.map_eq_some_iff.1 hu
        have hj : j < n := by have := (List.getElem?_eq_some_iff.1 hz2).1; omega
        rw [hc j (by omega)]
        rw [List.getElem?_take_of_lt hj] at hz2
        rw [List.getD_eq_getElem?_getD, hz2]; rfl


theorem wf64 {z : Int} (h : (Lit.int .i64 z).wf = true) : I64 z := i64_of_wf h
theorem bdrewN {B : Nat} {a w : World} (h : Below B a w) (n : Nat) : Below B a (w.drewN n) := ⟨h.os, h.tape, h.output, h.size, h.block⟩
theorem infoI9 : (Try.prog.info? 3).map (fun i => (i.zero, i.size, i.bytes)) = some (some (.int .i64 0), 1, 8) := by kernel_rfl
def E1R (w : World) (n : Nat) (a b i : Value) (wr : World) : Prop :=
  ∃ k : Nat, k ≤ n ∧ i = .int .i64 (k : Int) ∧ wr.ownsRow w.heap.size 3 1 a k (icells (upTo k)) ∧ wr.ownsRow w.heap.size 3 1 b k (icells (downTo n k)) ∧ (∀ g, a.ownBlock = some g → b.ownBlock ≠ some g) ∧ Below w.heap.size w wr
theorem apart_or {a b : Value} (h : ∀ g, a.ownBlock = some g → b.ownBlock ≠ some g) : b.ownBlock = none ∨ b.ownBlock ≠ a.ownBlock := by
  cases hb : b.ownBlock with
  | none => exact .inl rfl
  | some g => exact .inr fun e => h g e.symm hb
theorem apart_or' {a b : Value} (h : ∀ g, a.ownBlock = some g → b.ownBlock ≠ some g) : a.ownBlock = none ∨ a.ownBlock ≠ b.ownBlock := by
  cases ha : a.ownBlock with
  | none => exact .inl rfl
  | some g => exact .inr fun e => h g ha e.symm
theorem reads_one (w : World) (t : TypeId) (v : Value) : Reads (w.alloc (.cells #[v] t)) (w.alloc (.cells #[v] t)).heap.size 1 (some ⟨w.heap.size, 0, none⟩) 1 [v] :=
  ⟨rfl, fun _ => ⟨_, rfl, by simp, fun j u hj => by
    match j, hj with
    | 0, hj => simp at hj; subst hj; simp [Addr.add]⟩⟩
theorem kinds_two {w : World} {g : Nat} {A B : Option Addr} {ca cb : Nat} {l m : List Int} (hB : Blk w g 43 #[.slice A l.length ca, .slice B m.length cb]) (hI : IntsAt w A l) (hJ : IntsAt w B m) : KindsAt w (some ⟨g, 0, none⟩) [l, m] := fun _ => ⟨g, 0, rfl, fun i ks h => by
  match i, h with
  | 0, h => simp at h; subst h; exact ⟨_, hB.cell 0, A, ca, rfl, hI⟩
  | 1, h => simp at h; subst h; exact ⟨_, hB.cell 1, B, cb, rfl, hJ⟩⟩
theorem keepE3 {w0 wr w1 : World} {E B : Option Addr} {es : List Ev} {bs : List (List Int)} {a0 a1 a2 : Addr} {v0 v1 v2 : Value} (hb : Below wr.heap.size wr w1)
    (h : wr.cell? a0 = some v0 ∧ wr.cell? a1 = some v1 ∧ wr.cell? a2 = some v2 ∧ LookIn wr E B es bs ∧ Below w0.heap.size w0 wr) :
    w1.cell? a0 = some v0 ∧ w1.cell? a1 = some v1 ∧ w1.cell? a2 = some v2 ∧ LookIn w1 E B es bs ∧ Below w0.heap.size w0 w1 :=
  ⟨cell_later hb h.1, cell_later hb h.2.1, cell_later hb h.2.2.1, h.2.2.2.1.later hb, mmore h.2.2.2.2 hb⟩
theorem keepE7 {w0 wr w1 : World} {E B : Option Addr} {es : List Ev} {bs : List (List Int)} {a0 a1 a2 a3 a4 a5 a6 : Addr} {v0 v1 v2 v3 v4 v5 v6 : Value} (hb : Below wr.heap.size wr w1)
    (h : wr.cell? a0 = some v0 ∧ wr.cell? a1 = some v1 ∧ wr.cell? a2 = some v2 ∧ wr.cell? a3 = some v3 ∧ wr.cell? a4 = some v4 ∧ wr.cell? a5 = some v5 ∧ wr.cell? a6 = some v6 ∧ LookIn wr E B es bs ∧ Below w0.heap.size w0 wr) :
    w1.cell? a0 = some v0 ∧ w1.cell? a1 = some v1 ∧ w1.cell? a2 = some v2 ∧ w1.cell? a3 = some v3 ∧ w1.cell? a4 = some v4 ∧ w1.cell? a5 = some v5 ∧ w1.cell? a6 = some v6 ∧ LookIn w1 E B es bs ∧ Below w0.heap.size w0 w1 :=
  ⟨cell_later hb h.1, cell_later hb h.2.1, cell_later hb h.2.2.1, cell_later hb h.2.2.2.1, cell_later hb h.2.2.2.2.1, cell_later hb h.2.2.2.2.2.1, cell_later hb h.2.2.2.2.2.2.1, h.2.2.2.2.2.2.2.1.later hb, mmore h.2.2.2.2.2.2.2.2 hb⟩
set_option maxRecDepth 100000 in
set_option maxHeartbeats 4000000 in
theorem walk (w : World) (A0 : Option Addr) (n0 c0 : Nat) (z0 : List Int) (w0 : IntsIn .i64 w A0 n0 c0 z0) (s0 : n0 * 8 ≤ 140737488351232) :
    Calls Try.prog 5 #[.slice A0 n0 c0] w fun e w' => e = .returned (.bool true) ∧ Below w.heap.size w w' := by
  obtain ⟨hR, hRd⟩ := reads_of w0
  have hl1 : (z0.take n0).length = n0 := hR.1
  have h64 : ∀ z ∈ z0.take n0, I64 z := by
    intro z hz
    have hz := List.mem_of_mem_take hz
    rcases w0 with ⟨_, _, _, rfl⟩ | ⟨x, _, _, _, _, _, hw⟩
    · simp at hz
    · exact wf64 (hw z hz)
  have hI : IntsAt w A0 (z0.take n0) := fun hp => by
    obtain ⟨b, off, e, hc⟩ := hR.2 (by omega)
    exact ⟨b, off, e, fun i z hi => hc i z hi⟩
  clear hR w0 hRd
  generalize z0.take n0 = l at *
  subst hl1
  replace hI := Lib.hid hI
  replace h64 := Lib.hid h64
  go_enter Try.func5, Try.ntmps5
  by_cases hn0 : l.length = 0
  · have f0 : ((l.length : Int) == 0) = true := by simpa using hn0
    replace hn0 := Lib.hid hn0
    go_wp2_with fail
    refine (awake9 _).mono ?_; rintro e v1 ⟨rfl, hb1⟩
    go_wp2_with fail
    refine (awake9 _).mono ?_; rintro e v2 ⟨rfl, hb2⟩
    have hB := Lib.hid (mmore hb1 hb2)
    clear hb1 hb2
    go_wp2_with fail
    go_ret
    exact ⟨rfl, hB.out⟩
  by_cases hn3 : 300 < l.length
  · have f0 : ((l.length : Int) == 0) = false := by simpa using hn0
    have f1 : (300 : Int) < (l.length : Int) := by omega
    replace hn0 := Lib.hid hn0
    replace hn3 := Lib.hid hn3
    go_wp2_with fail
    refine (awake9 _).mono ?_; rintro e v1 ⟨rfl, hb1⟩
    go_wp2_with fail
    refine (awake9 _).mono ?_; rintro e v2 ⟨rfl, hb2⟩
    have hB := Lib.hid (mmore hb1 hb2)
    clear hb1 hb2
    go_wp2_with fail
    go_ret
    exact ⟨rfl, hB.out⟩
  have hle : l.length ≤ 301 := by omega
  have hle3 := Lib.hid (show l.length ≤ 300 by omega)
  have f0 : ((l.length : Int) == 0) = false := by simpa using hn0
  have f1 : ¬ (300 : Int) < (l.length : Int) := by omega
  obtain ⟨i0, hi, hz0, hz1, hz2⟩ := info_parts infoI9
  clear hn3
  replace hn0 := Lib.hid hn0
  go_wp2_with fail
  refine (awake9 _).mono ?_; rintro e v1 ⟨rfl, hb1⟩
  replace hb1 := Lib.hid hb1
  go_wp2_with fail
  clear f0 f1
  go_loopw [3, 4, 27] (fun a b i wr => E1R w l.length a b i wr) (fun _ _ i _ => l.length - (intOf i).toNat)
  case atStart => exact ⟨0, Nat.zero_le _, rfl, World.ownsRow_nil _ _ _ _, World.ownsRow_nil _ _ _ _, (fun g h => by simp [Value.ownBlock] at h), hb1.out⟩
  case round =>
    obtain ⟨k, hk, rfl, hO3, hO4, hD, hB⟩ := hrel
    by_cases hkl : k < l.length
    · have i1 : (k : Int) < (l.length : Int) := by omega
      have SU : icells (upTo (k + 1)) = icells (upTo k) ++ [.int .i64 (k : Int)] := by rw [upTo_snoc]; unfold icells; rw [List.map_append]; rfl
      have SD : icells (downTo l.length (k + 1)) = icells (downTo l.length k) ++ [.int .i64 ((l.length : Int) - 1 - (k : Int))] := by rw [downTo_snoc]; unfold icells; rw [List.map_append]; rfl
      replace SU := Lib.hid SU
      replace SD := Lib.hid SD
      have n3 : k + 1 ≤ maxLen := by unfold maxLen; omega
      have n4 : (k + 1) * 8 ≤ 140737488355328 := by omega
      have s1 := hB.size
      go_wp2_with (at_builtin; refine wpList_append_any _ rfl (.tmp 30) (.tmp 32) 43 rfl w.heap.size 3 i0 (.int .i64 0) 1 8 Try.underlying43 hi hz0 hz1 hz2 rfl (by decide) u3 k (icells (upTo k)) rfl (hO3.alloc _) _ (some ⟨wr.heap.size, 0, none⟩) 1 1 [.int .i64 (k : Int)] rfl (reads_one wr 3 _) (by intro u hu; simp at hu; subst hu; rfl) n3 n4 (by simp; omega) ?_)
      intro va wa hOa hga hla
      rw [← SU.out] at hOa
      have hOb := (hO4.alloc (.cells #[.int .i64 (k : Int)] 3)).kept hga (apart_or hD)
      have hDa : ∀ g, va.ownBlock = some g → u4.ownBlock ≠ some g := fun g hg => by
        rcases hla with e | e
        · exact hD g (e ▸ hg)
        · intro h4
          rw [e] at hg
          injection hg with hg
          have := (hO4.lt g h4).2
          first | omega | (simp at hg; omega)
      have hBa : Below w.heap.size w wa := (hB.alloc hB.size _).grown hga (by simp; omega) (fun g hg => (hO3.lt g hg).1)
      replace hDa := Lib.hid hDa
      replace hBa := Lib.hid hBa
      clear hO3 hO4 hD hB hga hla SU s1
      have s2 := hBa.out.size
      go_wp2_with (at_builtin; refine wpList_append_any _ rfl (.tmp 34) (.tmp 40) 43 rfl w.heap.size 3 i0 (.int .i64 0) 1 8 Try.underlying43 hi hz0 hz1 hz2 rfl (by decide) u4 k (icells (downTo l.length k)) rfl (hOb.alloc _) _ (some ⟨wa.heap.size, 0, none⟩) 1 1 [.int .i64 ((l.length : Int) - 1 - (k : Int))] rfl (reads_one wa 3 _) (by intro u hu; simp at hu; subst hu; rfl) n3 n4 (by simp; omega) ?_)
      intro vb wb hOc hgb hlb
      rw [← SD.out] at hOc
      have hOd := (hOa.alloc (.cells #[.int .i64 ((l.length : Int) - 1 - (k : Int))] 3)).kept hgb (apart_or' hDa.out)
      have hDb : ∀ g, va.ownBlock = some g → vb.ownBlock ≠ some g := fun g hg => by
        rcases hlb with e | e
        · rw [e]; exact hDa.out g hg
        · intro h4
          rw [e] at h4
          injection h4 with h4
          have := (hOa.lt g hg).2
          first | omega | (simp at h4; omega)
      have hBb : Below w.heap.size w wb := (hBa.out.alloc hBa.out.size _).grown hgb (by simp; omega) (fun g hg => (hOb.lt g hg).1)
      replace hDb := Lib.hid hDb
      replace hBb := Lib.hid hBb
      clear hOa hOb hDa hBa hgb hlb SD s2
      go_wp2
      go_roundw
      case rel => exact ⟨k + 1, by omega, by go_num, hOd, hOc, hDb.out, hBb.out⟩
      case measure => simp [intOf]; omega
    · obtain rfl : k = l.length := by omega
      obtain ⟨A3, cap3, e3, I3⟩ := own_ints (zs := upTo l.length) (show wr.ownsRow _ _ 1 u3 (upTo l.length).length (icells (upTo l.length)) by rw [upTo_length]; exact hO3)
      obtain ⟨A4, cap4, e4, I4⟩ := own_ints (zs := downTo l.length l.length) (show wr.ownsRow _ _ 1 u4 (downTo l.length l.length).length (icells (downTo l.length l.length)) by rw [downTo_length]; exact hO4)
      rw [upTo_length] at e3
      rw [downTo_length] at e4
      subst e3 e4
      have W : Calls Try.prog 16 #[.slice A0 l.length c0] wr fun e w' => ∃ A cap, e = .returned (.slice A l.length cap) ∧ EvsAt w' A (l.map intEv) ∧ Below wr.heap.size wr w' :=
        (ints_any A0 c0 l wr (hI.out.later hB) (by omega)).mono fun e w' ⟨A, cap, he, h1, h2⟩ => ⟨A, cap, by rw [he, List.length_map], h1, h2⟩
      replace W := Lib.hid W
      replace I3 := Lib.hid I3
      replace I4 := Lib.hid I4
      replace hB := Lib.hid hB
      clear hO3 hO4 hD hi hz0 hz1 hz2 hb1
      go_wp2_with fail
      refine W.out.mono ?_; rintro e v5 ⟨E, cE, rfl, hE, hb5⟩
      go_upto_region 11 with (fail)
      have hb6 := m2 v5 (.cells #[.slice A3 l.length cap3, .slice A4 l.length cap4] 43) (lookO E (some ⟨v5.heap.size, 0, none⟩) l.length cE 2 2 0)
      have gk : Blk ((v5.alloc (.cells #[.slice A3 l.length cap3, .slice A4 l.length cap4] 43)).alloc (lookO E (some ⟨v5.heap.size, 0, none⟩) l.length cE 2 2 0)) v5.heap.size 43 #[.slice A3 (upTo l.length).length cap3, .slice A4 (downTo l.length l.length).length cap4] := by
        rw [upTo_length, downTo_length]
        exact (Blk.made v5 43 #[.slice A3 l.length cap3, .slice A4 l.length cap4]).kept (m1 _ _)
      have gl : Blk ((v5.alloc (.cells #[.slice A3 l.length cap3, .slice A4 l.length cap4] 43)).alloc (lookO E (some ⟨v5.heap.size, 0, none⟩) l.length cE 2 2 0)) (v5.heap.size + 1) 34 #[.slice E l.length cE, .slice (some ⟨v5.heap.size, 0, none⟩) 2 2, .int .i64 0] := by
        have := Blk.made (v5.alloc (.cells #[.slice A3 l.length cap3, .slice A4 l.length cap4] 43)) 34 #[.slice E l.length cE, .slice (some ⟨v5.heap.size, 0, none⟩) 2 2, .int .i64 0]
        simpa using this
      have hL : LookIn ((v5.alloc (.cells #[.slice A3 l.length cap3, .slice A4 l.length cap4] 43)).alloc (lookO E (some ⟨v5.heap.size, 0, none⟩) l.length cE 2 2 0)) E (some ⟨v5.heap.size, 0, none⟩) (l.map intEv) [upTo l.length, downTo l.length l.length] :=
        ⟨hE.later hb6, kinds_two gk (I3.out.later (mmore hb5 hb6)) (I4.out.later (mmore hb5 hb6)), by rw [List.length_map]; omega, by
          intro e he; obtain ⟨z, _, rfl⟩ := List.mem_map.1 he; simp [intEv], by simp, by
          intro x hx; simp at hx; rcases hx with rfl | rfl
          · rw [upTo_length]; omega
          · rw [downTo_length]; omega⟩
      have hB6 := mmore (mmore hB.out hb5) hb6
      have c0' : ((v5.alloc (.cells #[.slice A3 l.length cap3, .slice A4 l.length cap4] 43)).alloc (lookO E (some ⟨v5.heap.size, 0, none⟩) l.length cE 2 2 0)).cell? ⟨v5.heap.size + 1, 0, none⟩ = some (.slice E l.length cE) := gl.cell 0
      have c1' : ((v5.alloc (.cells #[.slice A3 l.length cap3, .slice A4 l.length cap4] 43)).alloc (lookO E (some ⟨v5.heap.size, 0, none⟩) l.length cE 2 2 0)).cell? ⟨v5.heap.size + 1, 1, none⟩ = some (.slice (some ⟨v5.heap.size, 0, none⟩) 2 2) := gl.cell 1
      have c2' : ((v5.alloc (.cells #[.slice A3 l.length cap3, .slice A4 l.length cap4] 43)).alloc (lookO E (some ⟨v5.heap.size, 0, none⟩) l.length cE 2 2 0)).cell? ⟨v5.heap.size + 1, 2, none⟩ = some (.int .i64 0) := gl.cell 2
      have hI6 := (hI.out.later (mmore (mmore hB.out hb5) hb6))
      clear gk gl hE I3 I4 hb5 hb6 hB W
      generalize v5.heap.size + 1 = gL at *
      generalize hgB : v5.heap.size = gB at *
      generalize (v5.alloc (.cells #[.slice A3 l.length cap3, .slice A4 l.length cap4] 43)).alloc (lookO E (some ⟨gB, 0, none⟩) l.length cE 2 2 0) = u6 at *
      clear hgB
      have hne : l ≠ [] := fun h => hn0.out (by rw [h]; rfl)
      have hrne : l.reverse ≠ [] := by simpa using hne
      have hr64 : ∀ z ∈ l.reverse, I64 z := fun z hz => h64.out z (List.mem_reverse.1 hz)
      have hp0 : placesP [upTo l.length, downTo l.length l.length] 0 ≠ [] := fun h => hn0.out (by have := congrArg List.length h; rw [show placesP [upTo l.length, downTo l.length l.length] 0 = upTo l.length from rfl, upTo_length] at this; exact this)
      have hp1 : placesP [upTo l.length, downTo l.length l.length] 1 ≠ [] := fun h => hn0.out (by have := congrArg List.length h; rw [show placesP [upTo l.length, downTo l.length l.length] 1 = downTo l.length l.length from rfl, downTo_length] at this; exact this)
      have Q : ∀ (last : Bool) (op pos : Int), op = (if last then 30 else 29) → (pos = 0 ∨ pos = 1) → ∀ u, LookIn u E (some ⟨gB, 0, none⟩) (l.map intEv) [upTo l.length, downTo l.length l.length] → Calls Try.prog 14 #[.int .i64 op, .int .i64 pos, .int .i64 0, lookV E (some ⟨gB, 0, none⟩) l.length cE 2 2 0] u (VIs (1, nU (endOf last l)) u) := by
        intro last op pos hop hpos u hL
        have := do_any9 E (some ⟨gB, 0, none⟩) cE 2 0 (l.map intEv) [upTo l.length, downTo l.length l.length] op pos 0 u (by unfold LeafOp; subst hop; cases last <;> simp) hL
        rw [List.length_map] at this
        rcases hpos with rfl | rfl
        · rw [leaf_ends last op 0 l _ 0 hop hp0 l (attrs_up l _ rfl) hne h64.out] at this
          exact this
        · rw [leaf_ends last op 1 l _ 0 hop hp1 l.reverse (attrs_down l _ rfl) hrne hr64, endOf_rev last l hne] at this
          exact this
      have m64 := h64.out _ (endOf_in false l hne)
      have M64 := h64.out _ (endOf_in true l hne)
      have wl := nU_back m64
      have wh := nU_back M64
      have hinj : nU (endOf false l) = nU (endOf true l) ↔ endOf false l = endOf true l := ⟨fun h => nU_inj m64 M64 h, fun h => by rw [h]⟩
      have hlow : ∀ z ∈ l, endOf false l ≤ z := fun z hz => by have := endOf_nb false l z hz; unfold nb4 at this; simpa using this
      have hhigh : ∀ z ∈ l, z ≤ endOf true l := fun z hz => by have := endOf_nb true l z hz; unfold nb4 at this; simpa using this
      have hin := endOf_in false l hne
      have Q1 := Lib.hid (Q false 29 0 rfl (.inl rfl))
      have Q2 := Lib.hid (Q true 30 0 rfl (.inl rfl))
      have Q3 := Lib.hid (Q false 29 1 rfl (.inr rfl))
      have Q4 := Lib.hid (Q true 30 1 rfl (.inr rfl))
      clear Q hp0 hp1 hr64 hrne m64 M64
      generalize nU (endOf false l) = lo at *
      generalize nU (endOf true l) = hi at *
      generalize endOf false l = m at *
      generalize endOf true l = M at *
      replace hinj := Lib.hid hinj
      replace hlow := Lib.hid hlow
      replace hhigh := Lib.hid hhigh
      replace hin := Lib.hid hin
      replace wl := Lib.hid wl
      replace wh := Lib.hid wh
      replace hI6 := Lib.hid hI6
      have KD := keepsD_dist [7, 8]
      have KC : KeepsC (fun w' => w'.cell? ⟨gL, 0, none⟩ = some (.slice E l.length cE) ∧ w'.cell? ⟨gL, 1, none⟩ = some (.slice (some ⟨gB, 0, none⟩) 2 2) ∧ w'.cell? ⟨gL, 2, none⟩ = some (.int .i64 0) ∧ LookIn w' E (some ⟨gB, 0, none⟩) (l.map intEv) [upTo l.length, downTo l.length l.length] ∧ Below u6.heap.size u6 w') := fun _ _ h hb => keepE3 hb h
      refine region_wordsG 6 (fun w' => w'.cell? ⟨gL, 0, none⟩ = some (.slice E l.length cE) ∧ w'.cell? ⟨gL, 1, none⟩ = some (.slice (some ⟨gB, 0, none⟩) 2 2) ∧ w'.cell? ⟨gL, 2, none⟩ = some (.int .i64 0) ∧ LookIn w' E (some ⟨gB, 0, none⟩) (l.map intEv) [upTo l.length, downTo l.length l.length] ∧ Below u6.heap.size u6 w') (DistD [7, 8]) [isW (lookV E (some ⟨gB, 0, none⟩) l.length cE 2 2 0), isW (.agg #[.int .i64 1, .int .u64 (lo : Int)]), isW (lookV E (some ⟨gB, 0, none⟩) l.length cE 2 2 0), isW (.agg #[.int .i64 1, .int .u64 (hi : Int)]), ptrW u6.heap.size 25 #[.int .i64 0, .int .u64 0], ptrW u6.heap.size 25 #[.int .i64 0, .int .u64 0]] (by kernel_rfl) (by repeat' (first | exact monoL_nil | exact is_mono _ | exact any_mono | exact ptr_mono _ _ _ | refine monoL_cons ?_ ?_)) (by kernel_rfl) (by kernel_rfl) ⟨c0', c1', c2', hL.later (Below.refl _ _).drew, (Below.refl _ _).drew⟩ ?_ ?_ ?_
      · intro p hp g hg
        simp at hp
        rcases hp with rfl | rfl <;> simp [slotP, undef] at hg
      ·
        refine stepsL_cons (fun a u hc hdd hd hk hdep => ?_) ?_
        ·
          have d6 : (a.tmps[6]?).getD undef = (.pointer (some ⟨gL, 0, none⟩)) := hk 6 (by kernel_rfl)
          refine step_val KC KD hc hdd rfl (lookV E (some ⟨gB, 0, none⟩) l.length cE 2 2 0) u (wanted_plain rfl) ?_ rfl (Below.refl _ _)
          obtain ⟨s0, s1, s2, -, -⟩ := hc
          first | (go_simp; done) | rfl | (simp [go_sem, *]; done)
        refine stepsL_cons (fun a u hc hdd hd hk hdep => ?_) ?_
        ·
          have d49 : (a.tmps[49]?).getD undef = (lookV E (some ⟨gB, 0, none⟩) l.length cE 2 2 0) := hdep ⟨0, .data⟩ (by simp) rfl
          refine step_call KC KD hc hdd rfl 14 #[.int .i64 29, .int .i64 0, .int .i64 0, (lookV E (some ⟨gB, 0, none⟩) l.length cE 2 2 0)] (wanted_plain rfl) (by first | (go_simp; done) | rfl) ?_
          exact (Q1.out u hc.2.2.2.1).mono (by rintro e w' ⟨rfl, hb⟩; exact ⟨_, rfl, rfl, hb⟩)
        refine stepsL_cons (fun a u hc hdd hd hk hdep => ?_) ?_
        ·
          have d6 : (a.tmps[6]?).getD undef = (.pointer (some ⟨gL, 0, none⟩)) := hk 6 (by kernel_rfl)
          refine step_val KC KD hc hdd rfl (lookV E (some ⟨gB, 0, none⟩) l.length cE 2 2 0) u (wanted_plain rfl) ?_ rfl (Below.refl _ _)
          obtain ⟨s0, s1, s2, -, -⟩ := hc
          first | (go_simp; done) | rfl | (simp [go_sem, *]; done)
        refine stepsL_cons (fun a u hc hdd hd hk hdep => ?_) ?_
        ·
          have d51 : (a.tmps[51]?).getD undef = (lookV E (some ⟨gB, 0, none⟩) l.length cE 2 2 0) := hdep ⟨2, .data⟩ (by simp) rfl
          refine step_call KC KD hc hdd rfl 14 #[.int .i64 30, .int .i64 0, .int .i64 0, (lookV E (some ⟨gB, 0, none⟩) l.length cE 2 2 0)] (wanted_plain rfl) (by first | (go_simp; done) | rfl) ?_
          exact (Q2.out u hc.2.2.2.1).mono (by rintro e w' ⟨rfl, hb⟩; exact ⟨_, rfl, rfl, hb⟩)
        refine stepsL_cons (fun a u hc hdd hd hk hdep => ?_) ?_
        ·
          refine step_valD KC hc (.pointer (some ⟨u.heap.size, 0, none⟩)) (u.alloc (.cells #[.int .i64 0, .int .u64 0] 25)) (wanted_plain rfl) (by go_simp) ⟨_, rfl, hc.2.2.2.2.size, Whole.made _ _ _⟩ (below1 _ _) (dist_new 7 _ hdd)
        refine stepsL_cons (fun a u hc hdd hd hk hdep => ?_) ?_
        ·
          refine step_valD KC hc (.pointer (some ⟨u.heap.size, 0, none⟩)) (u.alloc (.cells #[.int .i64 0, .int .u64 0] 25)) (wanted_plain rfl) (by go_simp) ⟨_, rfl, hc.2.2.2.2.size, Whole.made _ _ _⟩ (below1 _ _) (dist_new 8 _ hdd)
        exact stepsL_nil
      intro vs' wN hN hD hh
      obtain ⟨-, e1, -, e3, e4, e5, -⟩ := hh
      obtain ⟨g7, e4, hg7, B7⟩ := e4
      obtain ⟨g8, e5, hg8, B8⟩ := e5
      replace e1 : vs' 1 = .agg #[.int .i64 1, .int .u64 (lo : Int)] := e1
      replace e3 : vs' 3 = .agg #[.int .i64 1, .int .u64 (hi : Int)] := e3
      simp only [Nat.reduceAdd] at e4 e5
      set_option maxRecDepth 100000 in simp only [List.take_succ_cons, List.take_zero, putAll, Act.put, List.setIfInBounds_toArray, List.set_cons_zero, List.set_cons_succ, Nat.reduceAdd, e1, e3, e4, e5] at hD ⊢
      have n78 : g7 ≠ g8 := fun e => (hD 7 (by simp) g7 rfl).2 8 (by simp) (by decide) (by subst e; rfl)
      obtain ⟨-, -, -, -, hBN⟩ := hN
      clear hD e1 e3 e4 e5
      have m70 : wN.cell? ⟨g7, 0, none⟩ = some (.int .i64 0) := (B7.at_ 0).trans rfl
      have m71 : wN.cell? ⟨g7, 1, none⟩ = some (.int .u64 0) := (B7.at_ 1).trans rfl
      have f70 : wN.frozen? ⟨g7, 0, none⟩ = false := B7.free 0
      have f71 : wN.frozen? ⟨g7, 1, none⟩ = false := B7.free 1
      refine wpAny_ready (rs := [6]) (by kernel_rfl) (by simp) ?_
      refine AllReady.cons rfl (fun K hK => ?_) AllReady.nil
      go_simp
      refine hK _ _ ?_
      clear hK K m70 m71 f70 f71
      replace B7 := B7.two (.int .i64 1) (.int .u64 (lo : Int))
      replace B8 := (B8.else_ (p := ⟨g7, 0, none⟩) n78 (.int .i64 1)).else_ (p := ⟨g7, 1, none⟩) n78 (.int .u64 (lo : Int))
      replace hBN := (hBN.setCell (p := ⟨g7, 0, none⟩) hg7 (.int .i64 1)).setCell (p := ⟨g7, 1, none⟩) hg7 (.int .u64 (lo : Int))
      generalize (wN.setCell ⟨g7, 0, none⟩ (.int .i64 1)).setCell ⟨g7, 1, none⟩ (.int .u64 (lo : Int)) = wM at *
      have m80 : wM.cell? ⟨g8, 0, none⟩ = some (.int .i64 0) := (B8.at_ 0).trans rfl
      have m81 : wM.cell? ⟨g8, 1, none⟩ = some (.int .u64 0) := (B8.at_ 1).trans rfl
      have f80 : wM.frozen? ⟨g8, 0, none⟩ = false := B8.free 0
      have f81 : wM.frozen? ⟨g8, 1, none⟩ = false := B8.free 1
      refine wpAny_ready (rs := [7]) (by kernel_rfl) (by simp) ?_
      refine AllReady.cons rfl (fun K hK => ?_) AllReady.nil
      go_simp
      refine hK _ _ ?_
      clear hK K m80 m81 f80 f81
      replace B8 := B8.two (.int .i64 1) (.int .u64 (hi : Int))
      replace B7 := (B7.else_ (p := ⟨g8, 0, none⟩) n78.symm (.int .i64 1)).else_ (p := ⟨g8, 1, none⟩) n78.symm (.int .u64 (hi : Int))
      replace hBN := (hBN.setCell (p := ⟨g8, 0, none⟩) hg8 (.int .i64 1)).setCell (p := ⟨g8, 1, none⟩) hg8 (.int .u64 (hi : Int))
      generalize (wM.setCell ⟨g8, 0, none⟩ (.int .i64 1)).setCell ⟨g8, 1, none⟩ (.int .u64 (hi : Int)) = u7 at *
      refine wpAny_done (by kernel_rfl) ?_ _
      replace c0' := cell_later hBN c0'
      replace c1' := cell_later hBN c1'
      replace c2' := cell_later hBN c2'
      replace hL := hL.later hBN
      replace hB6 := mmore hB6 hBN
      replace hI6 := Lib.hid (hI6.out.later hBN)
      have l0 : u7.cell? ⟨g7, 0, none⟩ = some (.int .i64 1) := (B7.at_ 0).trans rfl
      have l1 : u7.cell? ⟨g7, 1, none⟩ = some (.int .u64 (lo : Int)) := (B7.at_ 1).trans rfl
      have h0 : u7.cell? ⟨g8, 0, none⟩ = some (.int .i64 1) := (B8.at_ 0).trans rfl
      have h1 : u7.cell? ⟨g8, 1, none⟩ = some (.int .u64 (hi : Int)) := (B8.at_ 1).trans rfl
      clear B7 B8 hg7 hg8 n78 hBN Q1 Q2
      have hnv : ∀ (k l b c : Int) (w : World), (binOp .neq 25 (.agg #[.int .i64 k, .int .u64 b]) (.agg #[.int .i64 l, .int .u64 c])).run Try.prog w = .ok (.bool (!decide (k = l ∧ b = c))) w := fun k l b c w => by
        by_cases h1 : k = l <;> by_cases h2 : b = c <;> simp [go_sem, h1, h2]
      go_wp2_with fail
      have KD := G.keepsD_true []
      refine G.region_words (fun w' => w'.cell? ⟨gL, 0, none⟩ = some (.slice E l.length cE) ∧ w'.cell? ⟨gL, 1, none⟩ = some (.slice (some ⟨gB, 0, none⟩) 2 2) ∧ w'.cell? ⟨gL, 2, none⟩ = some (.int .i64 0) ∧ w'.cell? ⟨g7, 0, none⟩ = some (.int .i64 1) ∧ w'.cell? ⟨g7, 1, none⟩ = some (.int .u64 (lo : Int)) ∧ w'.cell? ⟨g8, 0, none⟩ = some (.int .i64 1) ∧ w'.cell? ⟨g8, 1, none⟩ = some (.int .u64 (hi : Int)) ∧ LookIn w' E (some ⟨gB, 0, none⟩) (l.map intEv) [upTo l.length, downTo l.length l.length] ∧ Below u7.heap.size u7 w') [G.isW (.agg #[.int .i64 1, .int .u64 (lo : Int)]), G.isW (lookV E (some ⟨gB, 0, none⟩) l.length cE 2 2 0), G.isW (.agg #[.int .i64 1, .int .u64 (lo : Int)]), G.isW (.bool false), G.isW (.bool false), G.isW (.agg #[.int .i64 1, .int .u64 (hi : Int)]), G.isW (lookV E (some ⟨gB, 0, none⟩) l.length cE 2 2 0), G.isW (.agg #[.int .i64 1, .int .u64 (hi : Int)]), G.isW (.bool false), G.isW (.bool false), G.isW (.bool false), G.isW (.pointer (some ⟨g7, 0, none⟩)), G.isW (.int .i64 1), G.isW (.bool false), G.isW (.bool false), G.isW (.bool false), G.isW (.pointer (some ⟨g8, 0, none⟩)), G.isW (.int .i64 1), G.isW (.bool false), G.isW (.bool false)] (by kernel_rfl) (by repeat' (first | exact G.monoL_nil | exact G.is_mono _ | exact G.any_mono | refine G.monoL_cons ?_ ?_)) (by kernel_rfl) (by kernel_rfl) (fun _ _ h hb => keepE7 hb h) ⟨c0', c1', c2', l0, l1, h0, h1, hL.later (Below.refl _ _).drew, (Below.refl _ _).drew⟩ ?_ ?_
      · intro KC
        refine G.stepsL_cons (fun a u hc hdd hd hk hdep => ?_) ?_
        ·
          have d7 : (a.tmps[7]?).getD undef = (.pointer (some ⟨g7, 0, none⟩)) := hk 7 (by kernel_rfl)
          refine G.step_val KC KD hc hdd rfl (.agg #[.int .i64 1, .int .u64 (lo : Int)]) u (G.wanted_plain rfl) ?_ rfl (Below.refl _ _)
          obtain ⟨s0, s1, s2, s3, s4, s5, s6, -, -⟩ := hc
          first | (go_simp; done) | rfl | (simp [go_sem, *]; done)
        refine G.stepsL_cons (fun a u hc hdd hd hk hdep => ?_) ?_
        ·
          have d6 : (a.tmps[6]?).getD undef = (.pointer (some ⟨gL, 0, none⟩)) := hk 6 (by kernel_rfl)
          refine G.step_val KC KD hc hdd rfl (lookV E (some ⟨gB, 0, none⟩) l.length cE 2 2 0) u (G.wanted_plain rfl) ?_ rfl (Below.refl _ _)
          obtain ⟨s0, s1, s2, s3, s4, s5, s6, -, -⟩ := hc
          first | (go_simp; done) | rfl | (simp [go_sem, *]; done)
        refine G.stepsL_cons (fun a u hc hdd hd hk hdep => ?_) ?_
        ·
          have d54 : (a.tmps[54]?).getD undef = (lookV E (some ⟨gB, 0, none⟩) l.length cE 2 2 0) := hdep ⟨1, .data⟩ (by simp) rfl
          refine G.step_call KC KD hc hdd rfl 14 #[.int .i64 29, .int .i64 1, .int .i64 0, (lookV E (some ⟨gB, 0, none⟩) l.length cE 2 2 0)] (G.wanted_plain rfl) (by first | (go_simp; done) | rfl) ?_
          exact (Q3.out u hc.2.2.2.2.2.2.2.1).mono (by rintro e w' ⟨rfl, hb⟩; exact ⟨_, rfl, rfl, hb⟩)
        refine G.stepsL_cons (fun a u hc hdd hd hk hdep => ?_) ?_
        ·
          have d53 : (a.tmps[53]?).getD undef = (.agg #[.int .i64 1, .int .u64 (lo : Int)]) := hdep ⟨0, .data⟩ (by simp) rfl
          have d55 : (a.tmps[55]?).getD undef = (.agg #[.int .i64 1, .int .u64 (lo : Int)]) := hdep ⟨2, .data⟩ (by simp) rfl
          refine G.step_val KC KD hc hdd rfl (.bool false) u (G.wanted_plain rfl) ?_ rfl (Below.refl _ _)
          first | (go_simp; done) | rfl | (simp [go_sem, *]; done)
        refine G.stepsL_cons (fun a u hc hdd hd hk hdep => ?_) ?_
        ·
          have d56 : (a.tmps[56]?).getD undef = (.bool false) := hdep ⟨3, .data⟩ (by simp) rfl
          refine G.step_val KC KD hc hdd rfl (.bool false) u (G.wanted_plain rfl) ?_ rfl (Below.refl _ _)
          first | (go_simp; done) | rfl | (simp [go_sem, *]; done)
        refine G.stepsL_cons (fun a u hc hdd hd hk hdep => ?_) ?_
        ·
          have d8 : (a.tmps[8]?).getD undef = (.pointer (some ⟨g8, 0, none⟩)) := hk 8 (by kernel_rfl)
          refine G.step_val KC KD hc hdd rfl (.agg #[.int .i64 1, .int .u64 (hi : Int)]) u ((G.wanted_guard (j := 4) (b := false) (c := false) rfl (hdep ⟨4, .guard⟩ (by simp) rfl)).trans rfl) ?_ rfl (Below.refl _ _)
          obtain ⟨s0, s1, s2, s3, s4, s5, s6, -, -⟩ := hc
          first | (go_simp; done) | rfl | (simp [go_sem, *]; done)
        refine G.stepsL_cons (fun a u hc hdd hd hk hdep => ?_) ?_
        ·
          have d6 : (a.tmps[6]?).getD undef = (.pointer (some ⟨gL, 0, none⟩)) := hk 6 (by kernel_rfl)
          refine G.step_val KC KD hc hdd rfl (lookV E (some ⟨gB, 0, none⟩) l.length cE 2 2 0) u ((G.wanted_guard (j := 4) (b := false) (c := false) rfl (hdep ⟨4, .guard⟩ (by simp) rfl)).trans rfl) ?_ rfl (Below.refl _ _)
          obtain ⟨s0, s1, s2, s3, s4, s5, s6, -, -⟩ := hc
          first | (go_simp; done) | rfl | (simp [go_sem, *]; done)
        refine G.stepsL_cons (fun a u hc hdd hd hk hdep => ?_) ?_
        ·
          have d59 : (a.tmps[59]?).getD undef = (lookV E (some ⟨gB, 0, none⟩) l.length cE 2 2 0) := hdep ⟨6, .data⟩ (by simp) rfl
          refine G.step_call KC KD hc hdd rfl 14 #[.int .i64 30, .int .i64 1, .int .i64 0, (lookV E (some ⟨gB, 0, none⟩) l.length cE 2 2 0)] ((G.wanted_guard (j := 4) (b := false) (c := false) rfl (hdep ⟨4, .chain⟩ (by simp) rfl)).trans rfl) (by first | (go_simp; done) | rfl) ?_
          exact (Q4.out u hc.2.2.2.2.2.2.2.1).mono (by rintro e w' ⟨rfl, hb⟩; exact ⟨_, rfl, rfl, hb⟩)
        refine G.stepsL_cons (fun a u hc hdd hd hk hdep => ?_) ?_
        ·
          have d58 : (a.tmps[58]?).getD undef = (.agg #[.int .i64 1, .int .u64 (hi : Int)]) := hdep ⟨5, .data⟩ (by simp) rfl
          have d60 : (a.tmps[60]?).getD undef = (.agg #[.int .i64 1, .int .u64 (hi : Int)]) := hdep ⟨7, .data⟩ (by simp) rfl
          refine G.step_val KC KD hc hdd rfl (.bool false) u ((G.wanted_guard (j := 4) (b := false) (c := false) rfl (hdep ⟨4, .guard⟩ (by simp) rfl)).trans rfl) ?_ rfl (Below.refl _ _)
          first | (go_simp; done) | rfl | (simp [go_sem, *]; done)
        refine G.stepsL_cons (fun a u hc hdd hd hk hdep => ?_) ?_
        ·
          have d57 : (a.tmps[57]?).getD undef = (.bool false) := hdep ⟨4, .data⟩ (by simp) rfl
          have d61 : (a.tmps[61]?).getD undef = (.bool false) := hdep ⟨8, .data⟩ (by simp) rfl
          refine G.step_val KC KD hc hdd rfl (.bool false) u (G.wanted_plain rfl) ?_ rfl (Below.refl _ _)
          first | (go_simp; done) | rfl | (simp [go_sem, *]; done)
        refine G.stepsL_cons (fun a u hc hdd hd hk hdep => ?_) ?_
        ·
          have d62 : (a.tmps[62]?).getD undef = (.bool false) := hdep ⟨9, .data⟩ (by simp) rfl
          refine G.step_val KC KD hc hdd rfl (.bool false) u (G.wanted_plain rfl) ?_ rfl (Below.refl _ _)
          first | (go_simp; done) | rfl | (simp [go_sem, *]; done)
        refine G.stepsL_cons (fun a u hc hdd hd hk hdep => ?_) ?_
        ·
          have d7 : (a.tmps[7]?).getD undef = (.pointer (some ⟨g7, 0, none⟩)) := hk 7 (by kernel_rfl)
          refine G.step_val KC KD hc hdd rfl (.pointer (some ⟨g7, 0, none⟩)) u ((G.wanted_guard (j := 10) (b := false) (c := false) rfl (hdep ⟨10, .guard⟩ (by simp) rfl)).trans rfl) ?_ rfl (Below.refl _ _)
          first | (go_simp; done) | rfl | (simp [go_sem, *]; done)
        refine G.stepsL_cons (fun a u hc hdd hd hk hdep => ?_) ?_
        ·
          have d64 : (a.tmps[64]?).getD undef = (.pointer (some ⟨g7, 0, none⟩)) := hdep ⟨11, .data⟩ (by simp) rfl
          refine G.step_val KC KD hc hdd rfl (.int .i64 1) u ((G.wanted_guard (j := 10) (b := false) (c := false) rfl (hdep ⟨10, .guard⟩ (by simp) rfl)).trans rfl) ?_ rfl (Below.refl _ _)
          obtain ⟨s0, s1, s2, s3, s4, s5, s6, -, -⟩ := hc
          first | (go_simp; done) | rfl | (simp [go_sem, *]; done)
        refine G.stepsL_cons (fun a u hc hdd hd hk hdep => ?_) ?_
        ·
          have d65 : (a.tmps[65]?).getD undef = (.int .i64 1) := hdep ⟨12, .data⟩ (by simp) rfl
          refine G.step_val KC KD hc hdd rfl (.bool false) u ((G.wanted_guard (j := 10) (b := false) (c := false) rfl (hdep ⟨10, .guard⟩ (by simp) rfl)).trans rfl) ?_ rfl (Below.refl _ _)
          first | (go_simp; done) | rfl | (simp [go_sem, *]; done)
        refine G.stepsL_cons (fun a u hc hdd hd hk hdep => ?_) ?_
        ·
          have d63 : (a.tmps[63]?).getD undef = (.bool false) := hdep ⟨10, .data⟩ (by simp) rfl
          have d66 : (a.tmps[66]?).getD undef = (.bool false) := hdep ⟨13, .data⟩ (by simp) rfl
          refine G.step_val KC KD hc hdd rfl (.bool false) u (G.wanted_plain rfl) ?_ rfl (Below.refl _ _)
          first | (go_simp; done) | rfl | (simp [go_sem, *]; done)
        refine G.stepsL_cons (fun a u hc hdd hd hk hdep => ?_) ?_
        ·
          have d67 : (a.tmps[67]?).getD undef = (.bool false) := hdep ⟨14, .data⟩ (by simp) rfl
          refine G.step_val KC KD hc hdd rfl (.bool false) u (G.wanted_plain rfl) ?_ rfl (Below.refl _ _)
          first | (go_simp; done) | rfl | (simp [go_sem, *]; done)
        refine G.stepsL_cons (fun a u hc hdd hd hk hdep => ?_) ?_
        ·
          have d8 : (a.tmps[8]?).getD undef = (.pointer (some ⟨g8, 0, none⟩)) := hk 8 (by kernel_rfl)
          refine G.step_val KC KD hc hdd rfl (.pointer (some ⟨g8, 0, none⟩)) u ((G.wanted_guard (j := 15) (b := false) (c := false) rfl (hdep ⟨15, .guard⟩ (by simp) rfl)).trans rfl) ?_ rfl (Below.refl _ _)
          first | (go_simp; done) | rfl | (simp [go_sem, *]; done)
        refine G.stepsL_cons (fun a u hc hdd hd hk hdep => ?_) ?_
        ·
          have d69 : (a.tmps[69]?).getD undef = (.pointer (some ⟨g8, 0, none⟩)) := hdep ⟨16, .data⟩ (by simp) rfl
          refine G.step_val KC KD hc hdd rfl (.int .i64 1) u ((G.wanted_guard (j := 15) (b := false) (c := false) rfl (hdep ⟨15, .guard⟩ (by simp) rfl)).trans rfl) ?_ rfl (Below.refl _ _)
          obtain ⟨s0, s1, s2, s3, s4, s5, s6, -, -⟩ := hc
          first | (go_simp; done) | rfl | (simp [go_sem, *]; done)
        refine G.stepsL_cons (fun a u hc hdd hd hk hdep => ?_) ?_
        ·
          have d70 : (a.tmps[70]?).getD undef = (.int .i64 1) := hdep ⟨17, .data⟩ (by simp) rfl
          refine G.step_val KC KD hc hdd rfl (.bool false) u ((G.wanted_guard (j := 15) (b := false) (c := false) rfl (hdep ⟨15, .guard⟩ (by simp) rfl)).trans rfl) ?_ rfl (Below.refl _ _)
          first | (go_simp; done) | rfl | (simp [go_sem, *]; done)
        refine G.stepsL_cons (fun a u hc hdd hd hk hdep => ?_) ?_
        ·
          have d68 : (a.tmps[68]?).getD undef = (.bool false) := hdep ⟨15, .data⟩ (by simp) rfl
          have d71 : (a.tmps[71]?).getD undef = (.bool false) := hdep ⟨18, .data⟩ (by simp) rfl
          refine G.step_val KC KD hc hdd rfl (.bool false) u (G.wanted_plain rfl) ?_ rfl (Below.refl _ _)
          first | (go_simp; done) | rfl | (simp [go_sem, *]; done)
        exact G.stepsL_nil
      intro vs' wN hN hh
      have eL : vs' 19 = .bool false := by
        obtain ⟨-, -, -, -, -, -, -, -, -, -, -, -, -, -, -, -, -, -, -, eX, -⟩ := hh
        exact eX
      clear hh
      set_option maxRecDepth 100000 in simp only [List.take_succ_cons, List.take_zero, putAll, Act.put, List.setIfInBounds_toArray, List.set_cons_zero, List.set_cons_succ, Nat.reduceAdd, eL]
      obtain ⟨-, -, -, l0, l1, h0, h1, -, hBN⟩ := hN
      replace hB6 := Lib.hid (mmore hB6 hBN)
      replace hI6 := Lib.hid (hI6.out.later hBN)
      clear c0' c1' c2' hL hBN Q3 Q4 hnv
      replace wl := wl.out
      replace wh := wh.out
      go_wp2_with fail
      go_loop [9, 75] (fun s i => ∃ k : Nat, k ≤ l.length ∧ i = .int .i64 (k : Int) ∧ s = .int .i64 ((cntE m M (l.take k) : Nat) : Int)) (fun _ i => l.length - (intOf i).toNat)
      case atStart => exact ⟨0, Nat.zero_le _, rfl, by simp [cntE]⟩
      case round =>
        obtain ⟨k, hk, rfl, rfl⟩ := hrel
        by_cases hkl : k < l.length
        · obtain ⟨b, off, e2, hc⟩ := hI6.out (by omega)
          have q0 := hc k _ (List.getElem?_eq_getElem hkl)
          have hzl : l[k] ∈ l := List.getElem_mem hkl
          have t1 : ¬ l[k] < m := by have := hlow.out _ hzl; omega
          have t2 : ¬ M < l[k] := by have := hhigh.out _ hzl; omega
          have CS := cntE_snoc m M l[k] (l.take k)
          rw [show l.take k ++ [l[k]] = l.take (k + 1) by rw [List.take_succ_eq_append_getElem hkl]] at CS
          have hcl : cntE m M (l.take k) ≤ k := by have := cntE_le m M (l.take k); rw [List.length_take] at this; omega
          subst e2
          generalize cntE m M (l.take k) = c at *
          generalize l[k] = z at *
          have i1 : (k : Int) < (l.length : Int) := by omega
          clear hc hzl
          by_cases ea : z = m
          · rw [if_pos (.inl ea)] at CS
            have x1 : (z == m) = true := by simpa using ea
            replace CS := Lib.hid CS
            clear ea
            go_wp2
            go_round
            case rel => exact ⟨k + 1, by omega, by go_num, by rw [CS.out]; go_num⟩
            case measure => simp [intOf]; omega
          · have x1 : (z == m) = false := by simpa using ea
            by_cases eb : z = M
            · rw [if_pos (.inr eb)] at CS
              have x2 : (z == M) = true := by simpa using eb
              replace CS := Lib.hid CS
              clear ea eb
              go_wp2
              go_round
              case rel => exact ⟨k + 1, by omega, by go_num, by rw [CS.out]; go_num⟩
              case measure => simp [intOf]; omega
            · rw [if_neg (by omega)] at CS
              have x2 : (z == M) = false := by simpa using eb
              replace CS := Lib.hid CS
              clear ea eb
              go_wp2
              go_round
              case rel => exact ⟨k + 1, by omega, by go_num, by rw [CS.out]; go_num⟩
              case measure => simp [intOf]; omega
        · obtain rfl : k = l.length := by omega
          rw [List.take_length]
          have hl0 : 0 < l.length := by have := hn0.out; omega
          obtain ⟨b, off, e2, hc⟩ := hI6.out hl0
          have q0 := hc 0 _ (List.getElem?_eq_getElem hl0)
          rw [Nat.add_zero] at q0
          have hzl : l[0] ∈ l := List.getElem_mem hl0
          have hpos := cntE_pos m M l hin.out
          have hall : m = M → cntE m M l = l.length ∧ l[0] = m := fun h => by
            have ha : ∀ z ∈ l, z = m := fun z hz => by have := hlow.out z hz; have := hhigh.out z hz; omega
            refine ⟨?_, ha _ hzl⟩
            rw [← h]
            exact cntE_all m l ha
          subst e2
          have hcl := cntE_le m M l
          generalize cntE m M l = c at *
          generalize l[0] = z at *
          clear hc hzl hI6 hI
          have d1 : decide ((c : Int) > 0) = true := by simp; omega
          have d1n : 0 < c := hpos
          have i1 : (0 : Int) < (l.length : Int) := by omega
          have iz : ¬ (l.length : Int) < (l.length : Int) := by omega
          by_cases hmm : m = M
          · obtain ⟨ec, ez⟩ := hall hmm
            have hev : ∀ w, (binOp .eql 25 (.agg #[.int .i64 1, .int .u64 (lo : Int)]) (.agg #[.int .i64 1, .int .u64 (hi : Int)])).run Try.prog w = .ok (.bool true) w := fun w => by
              have : lo = hi := hinj.out.2 hmm
              simp [go_sem, this]
            have x1 : ((c : Int) == (l.length : Int)) = true := by rw [ec]; simp
            have x2 : (z == m) = true := by simpa using ez
            have x3 : (z == M) = true := by simp; omega
            clear hall hmm ec ez
            go_wp2_with fail
            go_quiet (fail)
            go_wp2
            go_ret
            exact ⟨rfl, bdrewN hB6.out _⟩
          · have hev : ∀ w, (binOp .eql 25 (.agg #[.int .i64 1, .int .u64 (lo : Int)]) (.agg #[.int .i64 1, .int .u64 (hi : Int)])).run Try.prog w = .ok (.bool false) w := fun w => by
              have : ¬ lo = hi := fun h => hmm (hinj.out.1 h)
              simp [go_sem]
              omega
            by_cases ec : c = l.length
            · have x1 : ((c : Int) == (l.length : Int)) = true := by rw [ec]; simp
              by_cases ez : z = m
              · have x2 : (z == m) = true := by simpa using ez
                have x3 : (z == M) = false := by simp; omega
                clear hall hmm ec ez
                go_wp2_with fail
                go_quiet (fail)
                go_wp2
                go_ret
                exact ⟨rfl, bdrewN hB6.out _⟩
              · have x2 : (z == m) = false := by simpa using ez
                clear hall hmm ec ez
                go_wp2_with fail
                go_quiet (fail)
                go_wp2
                go_ret
                exact ⟨rfl, bdrewN hB6.out _⟩
            · have x1 : ((c : Int) == (l.length : Int)) = false := by simp; omega
              clear hall hmm
              replace ec := Lib.hid ec
              go_wp2_with fail
              go_quiet (fail)
              go_wp2
              go_ret
              exact ⟨rfl, bdrewN hB6.out _⟩

set_option maxRecDepth 100000 in
theorem lifted (os : Os) (started : os.Started) (H : Type) (enc : TypeId × Value → H) :
    ReturnsInHanded {} Try.checked os 5 .any (Rows.evalEndsSpec.pre6 enc Try.prog Try.f5 Rows.evalEndsRow.domain false) (Rows.evalEndsSpec.post enc Try.prog Try.f5 false true false false) := by
  refine returnsInHanded_of_change_sized (C := Try.checked) own started (by kernel_rfl) Try.func5
    (ChangeSpec.witness6 (enc := enc) (C := Try.checked) false ⟨#[], #[.slice none 0 0], []⟩ 8 (by kernel_rfl) (by kernel_rfl) (by kernel_rfl) (by kernel_rfl)) ?_
  intro W base args ds gs before hval0 hW hcnd hsz0 _
  have hsz : (DataW.weightsEach Try.prog (Try.f5.params.toList ++ Rows.evalEndsSpec.plain.varTypes Try.prog) (ds ++ gs)).all (· ≤ reachBytes) = true := hsz0
  clear hsz0
  have hval : ∀ (j : Nat) t v, Try.f5.params[j]? = some t → args[j]? = some v → Value.okWide Try.prog W .any base t v := hval0
  have hW' := hW
  obtain ⟨p, q, hA0, hV, rfl, hfz, hnd⟩ := hW
  have hA : DataW.TrodAll enc Try.prog W 0 (fun _ => true) true Try.f5.params.toList args.toList ds p := hA0
  rw [Try.params5] at hA hval hsz
  obtain ⟨v0, vs0, d0, ds0, p0, q0, hargs, rfl, rfl, h0, r0⟩ := trodAll_cons hA
  obtain ⟨rfl, rfl, rfl⟩ := trodAll_nil r0
  obtain rfl : args = #[v0] := by cases args; simp_all
  obtain ⟨rfl, rfl⟩ := trodVars_none hV
  have kk0 := h0
  have lt0 : ∀ x ∈ p0, x.block < W.heap.size := by obtain ⟨m, hm⟩ := kk0; exact DataW.trod_lt m _ _ _ hm
  obtain ⟨A0, n0, c0, rfl⟩ := okWide_slice Try.underlying49 (hval 0 49 v0 rfl rfl)
  obtain ⟨z0, w0, s0⟩ : ∃ zs, IntsIn .i64 W A0 n0 c0 zs ∧ n0 * 8 ≤ 140737488351232 := by
    obtain ⟨fuel, hf⟩ := h0
    rcases open_ints Try.underlying49 Try.underlying2 (by kernel_rfl) hf with ⟨hcs, _⟩ | ⟨x, l, c, zs, hcs, _, hl, hm, hz, hx, hcell, hwz⟩
    · simp [Value.cells] at hcs
      obtain ⟨rfl, rfl, rfl⟩ := hcs
      exact ⟨[], .inl ⟨rfl, rfl, rfl, rfl⟩, by decide⟩
    · simp [Value.cells] at hcs
      obtain ⟨rfl, rfl, rfl⟩ := hcs
      simp only [Prod.mk.injEq] at hx
      obtain ⟨rfl, rfl⟩ := hx
      have hb := sized_slice hsz (j := 0) (t := 49) (e := 2) rfl rfl Try.underlying49
      rw [bytes2] at hb
      simp only [lits, List.length_map, List.length_take, List.length_drop, reachBytes] at hb
      simp only [if_true] at hz
      exact ⟨zs, .inr ⟨_, rfl, hl, hm, hz, hcell, hwz⟩, by omega⟩
  clear hA0 hval0
  refine (walk W A0 n0 c0 z0 w0 s0).mono fun e W' ⟨he, bel⟩ => ?_
  subst he
  exact ⟨_, rfl, _, _, _, [], _, [], hW', trodAll_mk1 (shut_bool Try.underlying4 _), (trodAll_cons_mk (Below.trod laidOut (by kernel_rfl) (of_decide_eq_true (by kernel_rfl)) kk0 bel lt0) trodAll_mk0), rfl, bel.frame _, fun h => by cases h⟩

theorem over : Rows.evalEndsRow.holds Try.pinned (OpenSpec.ofChange Rows.evalEndsSpec) :=
  OpenClaim.holds_of_wide 5 Try.f5 rfl rfl rfl rfl rfl rfl rfl ⟨rfl, rfl, rfl, rfl, rfl⟩ rfl rfl rfl rfl rfl (by kernel_rfl) Try.func5 (by kernel_rfl)
    (of_decide_eq_true (by kernel_rfl)) (by unfold Func.isWrapper; first | (rw [if_pos (by decide +kernel)]; kernel_rfl) | (rw [if_neg (by decide +kernel)]; exact ⟨rfl, rfl⟩))
    (fun os started H enc _ => lifted os started H enc)

/-- the statement -/
theorem proved : Rows.EvalEndsSaid :=
  over
#print axioms proved
end Go.Proofs.Ytfjnphiegoogoaa.evalEnds
