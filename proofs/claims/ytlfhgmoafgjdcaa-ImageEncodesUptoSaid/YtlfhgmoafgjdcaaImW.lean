/- The writer of images: a number, and bits, put behind what it holds, as contracts. -/
import Derived.Test.YtlfhgmoafgjdcaaImV
import Derived.RegionTactic
import Derived.BigRegion
import Derived.Deep.RegionHeld3
import Derived.Deep.RegionWith
import Derived.Deep.RegionLaw
import Derived.Deep.CutRange
import Derived.Deep.DeepCutAuto
namespace Go.Proofs.Ytlfhgmoafgjdcaa
open Go.ChangeShapes Go.WideShapes Go.ChangeAt Go.RowKit
set_option linter.unusedVariables false
set_option linter.unusedSimpArgs false

/-- what is put on, is stored -/
theorem wend_put {g base : Nat} {bs news : List Nat} {w w2 w3 : World} {v' v0 : Value} (kg : base ≤ g) (hB : Below base w w2) (hb : Below base w2 w3) (ho : w3.ownsRow base 5 1 v' (bs ++ news).length (bcells (bs ++ news)))
    (hk : Blk w3 g 59 #[v0]) : WEnd g base (some (bs ++ news)) (.tuple #[]) w (.returned (.tuple #[])) (w3.setCell ⟨g, 0, none⟩ v') := by
  refine ⟨(hB.trans hb).setCell (p := ⟨g, 0, none⟩) kg _, rfl, v', hk.put_ 0 v', .inl ?_, kg⟩
  exact mown_set ho (fun e => hk.own_ne ho (by decide) e.symm) v'
theorem WEnd.drew {g base : Nat} {o : Option (List Nat)} {ret : Value} {w w' : World} {e : Ending} (h : WEnd g base o ret w e w') : WEnd g base o ret w e w'.drew :=
  ⟨h.1.drew, by
    have h2 := h.2
    cases o with
    | none => exact h2
    | some bs => exact ⟨h2.1, h2.2.later (Below.refl _ _).drew⟩⟩

set_option maxHeartbeats 8000000 in
set_option maxRecDepth 100000 in
theorem write_any (g base : Nat) (bs : List Nat) (z : Int) (h1 : -9223372036854775808 ≤ z) (h2 : z ≤ 9223372036854775807) (w : World) (h : Wtr w g base bs) (hlen : bs.length ≤ 70000) :
    Calls Try.prog 156 #[.pointer (some ⟨g, 0, none⟩), .int .i64 z] w (WEnd g base (runW bs [.n z]) (.tuple #[]) w) := by
  obtain ⟨i0, hi, hz0, hz1, hz2⟩ := info_parts infoB
  replace hi := Lib.hid hi
  replace hz1 := Lib.hid hz1
  replace hz2 := Lib.hid hz2
  by_cases hok : -1 ≤ z ∧ z ≤ 1152921504606846976
  · have hr : runW bs [.n z] = some (putW bs (.n z)) := by
      rw [runW, if_pos (by simp [okI]; omega)]
      rfl
    rw [hr]
    obtain ⟨o1, o2⟩ := hok
    have f1 : ¬ z < -1 := by omega
    have f2 : ¬ (1152921504606846976 : Int) < z := by omega
    have FU := Lib.hid (full_any g base bs w h)
    by_cases hbig : 65536 < bs.length
    · have hb : (65536 : Int) < (bs.length : Int) := by omega
      have hfin : WEnd g base (some (putW bs (.n z))) (.tuple #[]) w (.returned (.tuple #[])) w := ⟨Below.refl _ _, by unfold putW; rw [if_pos hbig]; exact ⟨rfl, h⟩⟩
      replace hfin := Lib.hid hfin
      rw [show decide ((65536 : Int) < (bs.length : Int)) = true by simpa using hb] at FU
      clear h hr hbig hb o1 o2
      go_enter Try.func156, Try.ntmps156
      go_wp2_with fail
      refine FU.out.mono ?_; rintro e w1 ⟨rfl, rfl⟩
      go_wp2
      go_end0
      exact hfin.out
    · have hb : ¬ (65536 : Int) < (bs.length : Int) := by omega
      have hputs : putW bs (.n z) = bs ++ uintL (zig z) := by unfold putW; rw [if_neg hbig]; rfl
      rw [hputs]
      have IN := Lib.hid (fun u => int_any z h1 h2 u)
      have hnp := (uintL_len (zig_lt h1 h2)).1
      have hnl' := (uintL_len (zig_lt h1 h2)).2
      generalize uintL (zig z) = news at *
      have hnl : bs.length + news.length ≤ 140737488355328 := by omega
      replace hnp := Lib.hid hnp
      rw [show decide ((65536 : Int) < (bs.length : Int)) = false by simpa using hb] at FU
      obtain ⟨v0, kb, kr, kg⟩ := h
      obtain ⟨A, c, rfl, _, _⟩ := kr.slice
      have kgl := kb.lt
      have s0 : w.cell? ⟨g, 0, none⟩ = some (.slice A bs.length c) := by rw [kb.cell]; rfl
      replace kb := Lib.hid kb
      replace kr := Lib.hid kr
      have hbase : base ≤ w.heap.size := by omega
      have hbd := Lib.hid (Below.refl base w)
      clear hr hbig hb o1 o2 hputs hnl'
      go_enter Try.func156, Try.ntmps156
      go_wp2_with fail
      refine FU.out.mono ?_; rintro e w1 ⟨rfl, rfl⟩
      go_upto_region 3 with (fail)
      go_region_law (first
        | ((try go_simp); go_at_call 157; refine (IN.out _).mono ?_; rintro e w2 ⟨Ar, cr, rfl, hO, hb2⟩; have hb3 := (hbd.out.drew.trans (hb2.mono hbase)); have kb2 := kb.out.kept ((Below.refl w.heap.size w).drew.trans hb2); have kr2 := kr.out.later ((Below.refl w.heap.size w).drew.trans hb2); have s2 : w2.cell? ⟨g, 0, none⟩ = some (.slice A bs.length c) := (by rw [kb2.cell]; rfl); have hz3 := hb3.size; have hBr := (Bys.of_own hO).2; replace hb3 := Lib.hid hb3; replace kb2 := Lib.hid kb2; replace kr2 := Lib.hid kr2; replace hBr := Lib.hid hBr; clear hO hb2)
        | (refine step_append_W (v := .slice A bs.length c) (base := base) (bs := bs) (news := news) rfl (.tmp 19) (.tmp 21) rfl rfl hi.out hz0 hz1.out hz2.out rfl Ar cr news.length rfl rfl kr2.out hBr.out hnp.out hnl (by omega) ?_; intro v' w3 ho hb4 hk4; obtain ⟨A3, c3, rfl, -, -⟩ := bslice_of ho; have kb3 := hk4 g _ _ kb2.out (by decide); have hx3 : w3.cell? ⟨g, 0, none⟩ = some (.slice A bs.length c) := (by rw [kb3.cell]; rfl); have hf3 := kb3.free 0; have hfin := wend_put kg hb3.out hb4 ho kb3; replace hfin := Lib.hid hfin; clear ho hb4 hk4 kb3))
      all_goals
        go_end0
        have hq := hfin.out
        rw [List.length_append] at hq
        exact hq
  · have hr : runW bs [.n z] = none := by
      rw [runW, if_neg (by simp [okI]; omega)]
    rw [hr]
    clear h
    by_cases hz : z < -1
    · go_enter Try.func156, Try.ntmps156
      go_wp2
      exact ⟨rfl, Below.refl _ _, rfl⟩
    · have hz2 : (1152921504606846976 : Int) < z := by omega
      clear hok
      go_enter Try.func156, Try.ntmps156
      go_wp2
      exact ⟨rfl, Below.refl _ _, rfl⟩

theorem runW_b (bs : List Nat) (x : Nat) : runW bs [.b x] = some (putW bs (.b x)) := rfl
set_option maxHeartbeats 8000000 in
set_option maxRecDepth 100000 in
theorem bits_w (g base : Nat) (bs : List Nat) (x pb po : Nat) (hx : x < 18446744073709551616) (w : World) (h : Wtr w g base bs) (hlen : bs.length ≤ 70000) (hp : w.cell? ⟨pb, po, none⟩ = some (.int .u64 (x : Int))) (hpb : pb < base) :
    Calls Try.prog 149 #[.pointer (some ⟨g, 0, none⟩), .pointer (some ⟨pb, po, none⟩)] w (WEnd g base (runW bs [.b x]) (.tuple #[]) w) := by
  obtain ⟨i0, hi, hz0, hz1, hz2⟩ := info_parts infoB
  replace hi := Lib.hid hi
  replace hz1 := Lib.hid hz1
  replace hz2 := Lib.hid hz2
  rw [runW_b]
  have FU := Lib.hid (full_any g base bs w h)
  by_cases hbig : 65536 < bs.length
  · have hb : (65536 : Int) < (bs.length : Int) := by omega
    have hfin : WEnd g base (some (putW bs (.b x))) (.tuple #[]) w (.returned (.tuple #[])) w := ⟨Below.refl _ _, by unfold putW; rw [if_pos hbig]; exact ⟨rfl, h⟩⟩
    replace hfin := Lib.hid hfin
    rw [show decide ((65536 : Int) < (bs.length : Int)) = true by simpa using hb] at FU
    clear h hbig hb hp
    go_enter Try.func149, Try.ntmps149
    go_wp2_with fail
    refine FU.out.mono ?_; rintro e w1 ⟨rfl, rfl⟩
    go_wp2
    go_end0
    exact hfin.out
  · have hb : ¬ (65536 : Int) < (bs.length : Int) := by omega
    have hputs : putW bs (.b x) = bs ++ uintL x := by unfold putW; rw [if_neg hbig]; rfl
    rw [hputs]
    have IN := Lib.hid (fun u => uint_any x hx u)
    have hnp := (uintL_len hx).1
    have hnl' := (uintL_len hx).2
    generalize uintL x = news at *
    have hnl : bs.length + news.length ≤ 140737488355328 := by omega
    replace hnp := Lib.hid hnp
    rw [show decide ((65536 : Int) < (bs.length : Int)) = false by simpa using hb] at FU
    obtain ⟨v0, kb, kr, kg⟩ := h
    obtain ⟨A, c, rfl, _, _⟩ := kr.slice
    have kgl := kb.lt
    have s0 : w.cell? ⟨g, 0, none⟩ = some (.slice A bs.length c) := by rw [kb.cell]; rfl
    replace kb := Lib.hid kb
    replace kr := Lib.hid kr
    have hbase : base ≤ w.heap.size := by omega
    have hbd := Lib.hid (Below.refl base w)
    clear hbig hb hputs hnl'
    go_enter Try.func149, Try.ntmps149
    go_wp2_with fail
    refine FU.out.mono ?_; rintro e w1 ⟨rfl, rfl⟩
    go_upto_region 1 with (fail)
    go_region_law (first
      | ((try go_simp); go_at_call 155; refine (IN.out _).mono ?_; rintro e w2 ⟨Ar, cr, rfl, hO, hb2⟩; have hb3 := (hbd.out.drew.trans (hb2.mono hbase)); have kb2 := kb.out.kept ((Below.refl w.heap.size w).drew.trans hb2); have kr2 := kr.out.later ((Below.refl w.heap.size w).drew.trans hb2); have s2 : w2.cell? ⟨g, 0, none⟩ = some (.slice A bs.length c) := (by rw [kb2.cell]; rfl); have hz3 := hb3.size; have hBr := (Bys.of_own hO).2; replace hb3 := Lib.hid hb3; replace kb2 := Lib.hid kb2; replace kr2 := Lib.hid kr2; replace hBr := Lib.hid hBr; clear hO hb2)
      | (refine step_append_W (v := .slice A bs.length c) (base := base) (bs := bs) (news := news) rfl (.tmp 11) (.tmp 15) rfl rfl hi.out hz0 hz1.out hz2.out rfl Ar cr news.length rfl rfl kr2.out hBr.out hnp.out hnl (by omega) ?_; intro v' w3 ho hb4 hk4; obtain ⟨A3, c3, rfl, -, -⟩ := bslice_of ho; have kb3 := hk4 g _ _ kb2.out (by decide); have hx3 : w3.cell? ⟨g, 0, none⟩ = some (.slice A bs.length c) := (by rw [kb3.cell]; rfl); have hf3 := kb3.free 0; have hfin := wend_put kg hb3.out hb4 ho kb3; replace hfin := Lib.hid hfin; clear ho hb4 hk4 kb3))
    all_goals
      go_end0
      have hq := hfin.out
      rw [List.length_append] at hq
      exact hq

set_option maxHeartbeats 4000000 in
set_option maxRecDepth 100000 in
theorem number_w (g base : Nat) (bs : List Nat) (z : Int) (pb po : Nat) (h1 : -9223372036854775808 ≤ z) (h2 : z ≤ 9223372036854775807) (w : World) (h : Wtr w g base bs) (hlen : bs.length ≤ 70000) (hp : w.cell? ⟨pb, po, none⟩ = some (.int .i64 z)) :
    Calls Try.prog 152 #[.pointer (some ⟨g, 0, none⟩), .pointer (some ⟨pb, po, none⟩)] w (WEnd g base (runW bs [.n z]) (.tuple #[]) w) := by
  have C := write_any g base bs z h1 h2 w h hlen
  clear h
  cases hr : runW bs [.n z] with
  | none =>
    rw [hr] at C
    replace C := Lib.hid C
    clear hr
    go_enter Try.func152, Try.ntmps152
    go_wp2_with fail
    refine C.out.mono ?_; rintro e w1 ⟨hb, rfl⟩
    go_wp2
    exact ⟨rfl, hb, rfl⟩
  | some bs' =>
    rw [hr] at C
    replace C := Lib.hid C
    clear hr
    go_enter Try.func152, Try.ntmps152
    go_wp2_with fail
    refine C.out.mono ?_; rintro e w1 ⟨hb, rfl, hw⟩
    replace hb := Lib.hid hb
    replace hw := Lib.hid hw
    go_wp2
    go_end0
    exact ⟨hb.out, rfl, hw.out⟩
set_option maxHeartbeats 4000000 in
set_option maxRecDepth 100000 in
theorem time_w (g base : Nat) (bs : List Nat) (z : Int) (pb po : Nat) (h1 : -9223372036854775808 ≤ z) (h2 : z ≤ 9223372036854775807) (w : World) (h : Wtr w g base bs) (hlen : bs.length ≤ 70000) (hp : w.cell? ⟨pb, po, none⟩ = some (.int .i64 z)) :
    Calls Try.prog 153 #[.pointer (some ⟨g, 0, none⟩), .pointer (some ⟨pb, po, none⟩)] w (WEnd g base (runW bs [.n z]) (.tuple #[]) w) := by
  have C := write_any g base bs z h1 h2 w h hlen
  clear h
  cases hr : runW bs [.n z] with
  | none =>
    rw [hr] at C
    replace C := Lib.hid C
    clear hr
    go_enter Try.func153, Try.ntmps153
    go_wp2_with fail
    refine C.out.mono ?_; rintro e w1 ⟨hb, rfl⟩
    go_wp2
    exact ⟨rfl, hb, rfl⟩
  | some bs' =>
    rw [hr] at C
    replace C := Lib.hid C
    clear hr
    go_enter Try.func153, Try.ntmps153
    go_wp2_with fail
    refine C.out.mono ?_; rintro e w1 ⟨hb, rfl, hw⟩
    replace hb := Lib.hid hb
    replace hw := Lib.hid hw
    go_wp2
    go_end0
    exact ⟨hb.out, rfl, hw.out⟩
theorem runW_t (bs : List Nat) (y : Bool) : runW bs [.t y] = some (putW bs (.t y)) := rfl
theorem runW_tn (bs : List Nat) (y : Bool) : runW bs [.n (if y then 1 else 0)] = some (putW bs (.t y)) := by cases y <;> rfl
set_option maxHeartbeats 4000000 in
set_option maxRecDepth 100000 in
theorem truth_w (g base : Nat) (bs : List Nat) (y : Bool) (pb po : Nat) (w : World) (h : Wtr w g base bs) (hlen : bs.length ≤ 70000) (hp : w.cell? ⟨pb, po, none⟩ = some (.bool y)) :
    Calls Try.prog 154 #[.pointer (some ⟨g, 0, none⟩), .pointer (some ⟨pb, po, none⟩)] w (WEnd g base (runW bs [.t y]) (.tuple #[]) w) := by
  have C := write_any g base bs (if y then 1 else 0) (by split <;> omega) (by split <;> omega) w h hlen
  rw [runW_tn] at C
  rw [runW_t]
  clear h
  generalize putW bs (.t y) = bs' at *
  cases y with
  | true =>
    change Calls _ _ #[.pointer (some ⟨g, 0, none⟩), .int .i64 1] _ _ at C
    replace C := Lib.hid C
    go_enter Try.func154, Try.ntmps154
    go_wp2_with fail
    refine C.out.mono ?_; rintro e w1 ⟨hb, rfl, hw⟩
    replace hb := Lib.hid hb
    replace hw := Lib.hid hw
    go_wp2
    go_end0
    exact ⟨hb.out, rfl, hw.out⟩
  | false =>
    change Calls _ _ #[.pointer (some ⟨g, 0, none⟩), .int .i64 0] _ _ at C
    replace C := Lib.hid C
    go_enter Try.func154, Try.ntmps154
    go_wp2_with fail
    refine C.out.mono ?_; rintro e w1 ⟨hb, rfl, hw⟩
    replace hb := Lib.hid hb
    replace hw := Lib.hid hw
    go_wp2
    go_end0
    exact ⟨hb.out, rfl, hw.out⟩
theorem runW_c (bs : List Nat) (k : Nat) : runW bs [.c k] = if k ≤ 1024 then runW bs [.n (k : Int)] else none := by
  by_cases hk : k ≤ 1024
  · have a : okI (.c k) = true := by simp [okI]; omega
    have b : okI (.n (k : Int)) = true := by simp [okI]; omega
    rw [if_pos hk]
    simp only [runW, a, b, if_true]
    rfl
  · rw [if_neg hk, runW, if_neg (by simp [okI]; omega)]
set_option maxHeartbeats 4000000 in
set_option maxRecDepth 100000 in
theorem count_w (g base : Nat) (bs : List Nat) (k : Nat) (hk9 : k ≤ 9223372036854775807) (w : World) (h : Wtr w g base bs) (hlen : bs.length ≤ 70000) :
    Calls Try.prog 150 #[.pointer (some ⟨g, 0, none⟩), .int .i64 (k : Int)] w (WEnd g base (runW bs [.c k]) (.int .i64 (k : Int)) w) := by
  have C := write_any g base bs (k : Int) (by omega) (by omega) w h hlen
  rw [runW_c]
  clear h
  by_cases hk : k ≤ 1024
  · rw [if_pos hk]
    have hk1 : ¬ (1024 : Int) < (k : Int) := by omega
    cases hr : runW bs [.n (k : Int)] with
    | none =>
      rw [hr] at C
      replace C := Lib.hid C
      clear hr hk9 hk
      go_enter Try.func150, Try.ntmps150
      go_wp2_with fail
      refine C.out.mono ?_; rintro e w1 ⟨hb, rfl⟩
      go_wp2
      exact ⟨rfl, hb, rfl⟩
    | some bs' =>
      rw [hr] at C
      replace C := Lib.hid C
      clear hr hk9 hk
      go_enter Try.func150, Try.ntmps150
      go_wp2_with fail
      refine C.out.mono ?_; rintro e w1 ⟨hb, rfl, hw⟩
      replace hb := Lib.hid hb
      replace hw := Lib.hid hw
      go_wp2
      go_ret
      exact ⟨hb.out, rfl, hw.out⟩
  · rw [if_neg hk]
    have hk1 : (1024 : Int) < (k : Int) := by omega
    clear C hk9 hk
    go_enter Try.func150, Try.ntmps150
    go_wp2
    exact ⟨rfl, Below.refl _ _, rfl⟩
end Go.Proofs.Ytlfhgmoafgjdcaa
