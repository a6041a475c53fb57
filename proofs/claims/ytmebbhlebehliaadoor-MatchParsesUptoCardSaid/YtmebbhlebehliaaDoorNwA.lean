/- The words of any text, one by one (strings.FieldsSeq at every text): some words, none longer than the text, no more of them than bytes and one. -/
import Derived.Test.YtmebbhlebehliaaDoorFs
import Derived.Test.YtmebbhlebehliaaDoorMem
import Derived.Test.YtmebbhlebehliaaDoorSch
import Derived.Test.YtmebbhlebehliaaDoorNum
import Derived.Lib.TrimU
import Derived.Lib.QuoteLoop
namespace Go.Proofs.YtmebbhlebehliaaDoor
open Go.RowKit Go.Shelf
set_option linter.unusedVariables false
set_option linter.unusedSimpArgs false
attribute [local go_sem] Oper.semAt_some
/-- the tables that such a scan reads -/
def SpAll (W : World) : Prop := ∀ c : Nat, c < 256 → ∃ n : Nat, n < 256 ∧ W.cell? ⟨0, c, none⟩ = some (.int .u8 (n : Int))
def ScanTabs (W : World) : Prop := SpAll W ∧ Lib.Utf8Tabs 3 4 W ∧ Lib.WhiteTab 2 W
theorem ScanTabs.later {w w1 : World} (h : ScanTabs w) (hb : Below w.heap.size w w1) : ScanTabs w1 := by
  refine ⟨fun c hc => ?_, ⟨fun c hc => cell_later hb (h.2.1.1 c hc), fun i hi => ⟨cell_later hb (h.2.1.2 i hi).1, cell_later hb (h.2.1.2 i hi).2⟩⟩, ?_⟩
  · obtain ⟨n, hn, h0⟩ := h.1 c hc
    exact ⟨n, hn, cell_later hb h0⟩
  · obtain ⟨T, oT, R, oR, h1, h2, h3, h4, h5⟩ := h.2.2
    exact ⟨T, oT, R, oR, cell_later hb h1, cell_later hb h2, cell_later hb h3, cell_later hb h4, fun i hi => cell_later hb (h5 i hi)⟩
theorem dec_bounds (s : ByteArray) (h : 0 < s.size) : 1 ≤ (Lib.decodeGo s).2 ∧ (Lib.decodeGo s).2 ≤ s.size ∧ (Lib.decodeGo s).1 ≤ 1114111 := by
  unfold Lib.decodeGo
  rw [if_neg (by omega)]
  exact ⟨Lib.width_pos s 0, Lib.width_le s h, Lib.rune_le s 0⟩
/-- what a round keeps: all that lies below the text's cell, and that -/
def KpW (w0 : World) (Bs : Nat) (W W' : World) : Prop := W'.cell? ⟨Bs, 0, none⟩ = W.cell? ⟨Bs, 0, none⟩ ∧ (Below w0.heap.size w0 W → Below w0.heap.size w0 W')
theorem KpW.trans {w0 : World} {Bs : Nat} {A B C : World} (h : KpW w0 Bs A B) (k : KpW w0 Bs B C) : KpW w0 Bs A C := ⟨k.1.trans h.1, fun t => k.2 (h.2 t)⟩
def StW (st : Option Nat) (k : Nat) (v : Value) : Prop := (st = none ∧ v = .int .i64 (-1)) ∨ ∃ a : Nat, st = some a ∧ a < k ∧ v = .int .i64 (a : Int)
set_option maxHeartbeats 8000000 in
set_option maxRecDepth 100000 in
theorem fseqW_in (n : Nat) (hn : 1 ≤ n) (w0 : World) (hsp0 : SpAll w0) (l Bs : Nat) (s : ByteArray) (hs : s.size ≤ 281474976710656) (J Jx : List ByteArray → World → Prop)
    (hJB : ∀ pre W W', J pre W → Below W.heap.size W W' → J pre W')
    (hY : ∀ pre x W, J pre W → Below w0.heap.size w0 W → x.size ≤ s.size → pre.length ≤ s.size → YieldAt Fence.wide (n - 1) Tryd.prog l #[.string x] W fun e W' =>
      (e = .returned (.bool true) ∧ J (pre ++ [x]) W' ∧ KpW w0 Bs W W') ∨ (e = .returned (.bool false) ∧ Jx (pre ++ [x]) W'))
    (hDR : ∀ (t : ByteArray) (W : World), Below w0.heap.size w0 W → Calls Tryd.prog 30 #[.string t] W fun e w' => e = .returned (.tuple #[.int .i32 ((Lib.decodeGo t).1 : Int), .int .i64 ((Lib.decodeGo t).2 : Int)]) ∧ Below W.heap.size W w')
    (hIS : ∀ (r : Int) (W : World), -2147483648 ≤ r → r ≤ 2147483647 → Below w0.heap.size w0 W → Calls Tryd.prog 31 #[.int .i32 r] W fun e w' => e = .returned (.bool (Lib.isSpaceZ r)) ∧ Below W.heap.size W w')
    (W : World) (hBs : W.cell? ⟨Bs, 0, none⟩ = some (.string s)) (hT : Below w0.heap.size w0 W) (h0 : J [] W) :
    CallsIn Fence.wide n Tryd.prog 29 #[.func (.yield l) #[] #[], .pointer (some ⟨Bs, 0, none⟩)] W fun e W' => (∃ v, e = .returned v) ∧
      ((∃ ys, ys.length ≤ s.size + 1 ∧ J ys W') ∨ (∃ pre, Jx pre W')) := by
  refine callsIn_of_wp Tryd.func29 rfl trivial ?_ rfl
  simp only [Tryd.ntmps29, List.size_toArray, List.length_cons, List.length_nil, Nat.reduceAdd, Nat.reduceSub, Array.replicate_succ, Array.replicate_zero, List.push_toArray, List.append_toArray, List.nil_append, List.cons_append]
  gi_wp2
  gi_loopw [3, 4] (fun v i wr => ∃ (k : Nat) (st : Option Nat) (pre : List ByteArray), k ≤ s.size ∧ i = .int .i64 (k : Int) ∧ StW st k v ∧ pre.length ≤ k ∧ J pre wr ∧ wr.cell? ⟨Bs, 0, none⟩ = some (.string s) ∧ Below w0.heap.size w0 wr)
    (fun _ i _ => s.size - (intOf i).toNat)
  case atStart => exact ⟨0, none, [], Nat.zero_le _, rfl, .inl ⟨rfl, rfl⟩, Nat.le_refl _, h0, hBs, hT⟩
  case round =>
    obtain ⟨k, st, pre, hk, rfl, hst, hpre, hJ, hcs, hTw⟩ := hrel
    have k0 : (0 : Int) ≤ (k : Int) := by omega
    by_cases hlt : k < s.size
    · have k1 : (k : Int) < (s.size : Int) := by omega
      obtain ⟨tb, htb, hTc0⟩ := hsp0 ((s[k]'hlt).toNat) (UInt8.toNat_lt _)
      have hTc := cell_later hTw hTc0
      have cv : IntKind.i32.wrap ((s[k]'hlt).toNat : Int) = ((s[k]'hlt).toNat : Int) := by have := UInt8.toNat_lt (s[k]'hlt); rw [IntKind.wrap_i32]; omega
      have c256 : ((s[k]'hlt).toNat : Int) < 256 := by have := UInt8.toNat_lt (s[k]'hlt); omega
      by_cases hasc : ((s[k]'hlt).toNat : Int) ≥ 128
      · have d0 : 0 < (s.extract k s.size).size := by simp; omega
        have dz : (s.extract k s.size).size = s.size - k := by simp
        obtain ⟨g1, g2, g3⟩ := dec_bounds _ d0
        have cD := Lib.hid (fun W h => hDR (s.extract k s.size) W h)
        rw [show (Lib.decodeGo (s.extract k s.size)) = ((Lib.decodeGo (s.extract k s.size)).1, (Lib.decodeGo (s.extract k s.size)).2) from rfl] at cD
        have cS := Lib.hid (fun W h => hIS ((Lib.decodeGo (s.extract k s.size)).1 : Int) W (by omega) (by omega) h)
        generalize (Lib.decodeGo (s.extract k s.size)).1 = rr at *
        generalize (Lib.decodeGo (s.extract k s.size)).2 = z at *
        generalize Lib.isSpaceZ (rr : Int) = sb at *
        have kz : IntKind.i64.wrap ((k : Int) + (z : Int)) = ((k + z : Nat) : Int) := by rw [IntKind.wrap_i64]; omega
        have kl : (k : Int) ≤ (s.size : Int) := by omega
        clear d0 g3
        rcases hst with ⟨rfl, rfl⟩ | ⟨a, rfl, hak, rfl⟩
        · by_cases sp : sb = true
          · subst sp
            gi_wp2_with (first | (refine ⟨trivial, ?_⟩; gi_at_call 30; refine (callsIn_wide.2 (cD.out _ hTw)).mono ?_; rintro e W1 ⟨rfl, hb1⟩; have hT1 := mmore hTw hb1; have hJ1 := hJB _ _ _ hJ hb1; have hcs1 := cell_later hb1 hcs; clear cD) | (refine ⟨trivial, ?_⟩; gi_at_call 31; refine (callsIn_wide.2 (cS.out _ hT1)).mono ?_; rintro e W2 ⟨rfl, hb2⟩; have hT2 := mmore hT1 hb2; have hJ2 := hJB _ _ _ hJ1 hb2; have hcs2 := cell_later hb2 hcs1; clear cS))
            go_roundw
            case rel => exact ⟨k + z, none, pre, by omega, by go_num, .inl ⟨rfl, rfl⟩, by omega, hJ2, hcs2, hT2⟩
            case measure => simp [intOf]; omega
          · have sp3 : sb = false := by cases sb; rfl; exact absurd rfl sp
            subst sp3
            clear sp
            gi_wp2_with (first | (refine ⟨trivial, ?_⟩; gi_at_call 30; refine (callsIn_wide.2 (cD.out _ hTw)).mono ?_; rintro e W1 ⟨rfl, hb1⟩; have hT1 := mmore hTw hb1; have hJ1 := hJB _ _ _ hJ hb1; have hcs1 := cell_later hb1 hcs; clear cD) | (refine ⟨trivial, ?_⟩; gi_at_call 31; refine (callsIn_wide.2 (cS.out _ hT1)).mono ?_; rintro e W2 ⟨rfl, hb2⟩; have hT2 := mmore hT1 hb2; have hJ2 := hJB _ _ _ hJ1 hb2; have hcs2 := cell_later hb2 hcs1; clear cS))
            go_roundw
            case rel => exact ⟨k + z, some k, pre, by omega, by go_num, .inr ⟨k, rfl, by omega, rfl⟩, by omega, hJ2, hcs2, hT2⟩
            case measure => simp [intOf]; omega
        · have a0 : (0 : Int) ≤ (a : Int) := by omega
          have a1 : (a : Int) ≤ (k : Int) := by omega
          by_cases sp : sb = true
          · subst sp
            gi_wp2_with (first | (refine ⟨trivial, ?_⟩; gi_at_call 30; refine (callsIn_wide.2 (cD.out _ hTw)).mono ?_; rintro e W1 ⟨rfl, hb1⟩; have hT1 := mmore hTw hb1; have hJ1 := hJB _ _ _ hJ hb1; have hcs1 := cell_later hb1 hcs; clear cD) | (refine ⟨trivial, ?_⟩; gi_at_call 31; refine (callsIn_wide.2 (cS.out _ hT1)).mono ?_; rintro e W2 ⟨rfl, hb2⟩; have hT2 := mmore hT1 hb2; have hJ2 := hJB _ _ _ hJ1 hb2; have hcs2 := cell_later hb2 hcs1; obtain ⟨fn, tmps, assign, body, hy, hR⟩ := hY pre (s.extract a k) W2 hJ2 hT2 (by simp; omega) (by omega); clear cS))
            refine hR.mono ?_
            rintro e W3 (⟨rfl, hJ3, hk3⟩ | ⟨rfl, hJx3⟩)
            · have hcs3 := hk3.1.trans hcs2
              have hT3 := hk3.2 hT2
              clear hy hR
              gi_wp2
              go_roundw
              case rel => exact ⟨k + z, none, pre ++ [s.extract a k], by omega, by go_num, .inl ⟨rfl, rfl⟩, by simp; omega, hJ3, hcs3, hT3⟩
              case measure => simp [intOf]; omega
            · gi_wp2
              refine bodyPost_ret (results_none rfl _ _ _) rfl ?_
              exact ⟨⟨_, rfl⟩, .inr ⟨_, hJx3⟩⟩
          · have sp3 : sb = false := by cases sb; rfl; exact absurd rfl sp
            subst sp3
            clear sp
            gi_wp2_with (first | (refine ⟨trivial, ?_⟩; gi_at_call 30; refine (callsIn_wide.2 (cD.out _ hTw)).mono ?_; rintro e W1 ⟨rfl, hb1⟩; have hT1 := mmore hTw hb1; have hJ1 := hJB _ _ _ hJ hb1; have hcs1 := cell_later hb1 hcs; clear cD) | (refine ⟨trivial, ?_⟩; gi_at_call 31; refine (callsIn_wide.2 (cS.out _ hT1)).mono ?_; rintro e W2 ⟨rfl, hb2⟩; have hT2 := mmore hT1 hb2; have hJ2 := hJB _ _ _ hJ1 hb2; have hcs2 := cell_later hb2 hcs1; clear cS))
            go_roundw
            case rel => exact ⟨k + z, some a, pre, by omega, by go_num, .inr ⟨a, rfl, by omega, rfl⟩, by omega, hJ2, hcs2, hT2⟩
            case measure => simp [intOf]; omega
      · have hasc2 : ((s[k]'hlt).toNat : Int) < 128 := by omega
        rcases hst with ⟨rfl, rfl⟩ | ⟨a, rfl, hak, rfl⟩
        · by_cases sp : tb = 0
          · subst sp
            gi_wp2
            go_roundw
            case rel => exact ⟨k + 1, some k, pre, by omega, by go_num, .inr ⟨k, rfl, by omega, rfl⟩, by omega, hJ, hcs, hTw⟩
            case measure => simp [intOf]; omega
          · have sp2 : ¬ (tb : Int) = 0 := by omega
            gi_wp2
            go_roundw
            case rel => exact ⟨k + 1, none, pre, by omega, by go_num, .inl ⟨rfl, rfl⟩, by omega, hJ, hcs, hTw⟩
            case measure => simp [intOf]; omega
        · have a0 : (0 : Int) ≤ (a : Int) := by omega
          have a1 : (a : Int) ≤ (k : Int) := by omega
          by_cases sp : tb = 0
          · subst sp
            gi_wp2
            go_roundw
            case rel => exact ⟨k + 1, some a, pre, by omega, by go_num, .inr ⟨a, rfl, by omega, rfl⟩, by omega, hJ, hcs, hTw⟩
            case measure => simp [intOf]; omega
          · have sp2 : ¬ (tb : Int) = 0 := by omega
            obtain ⟨fn, tmps, assign, body, hy, hR⟩ := hY pre (s.extract a k) wr hJ hTw (by simp; omega) (by omega)
            gi_wp2
            refine hR.mono ?_
            rintro e W3 (⟨rfl, hJ3, hk3⟩ | ⟨rfl, hJx3⟩)
            · have hcs3 := hk3.1.trans hcs
              have hT3 := hk3.2 hTw
              clear hy hR
              gi_wp2
              go_roundw
              case rel => exact ⟨k + 1, none, pre ++ [s.extract a k], by omega, by go_num, .inl ⟨rfl, rfl⟩, by simp; omega, hJ3, hcs3, hT3⟩
              case measure => simp [intOf]; omega
            · gi_wp2
              refine bodyPost_ret (results_none rfl _ _ _) rfl ?_
              exact ⟨⟨_, rfl⟩, .inr ⟨_, hJx3⟩⟩
    · have hke : k = s.size := by omega
      have k1 : ¬ (k : Int) < (s.size : Int) := by omega
      subst hke
      rcases hst with ⟨rfl, rfl⟩ | ⟨a, rfl, hak, rfl⟩
      · gi_wp2
        go_end0
        exact ⟨⟨_, rfl⟩, .inl ⟨_, by omega, hJ⟩⟩
      · have a0 : (0 : Int) ≤ (a : Int) := by omega
        have a1 : (a : Int) ≤ (s.size : Int) := by omega
        obtain ⟨fn, tmps, assign, body, hy, hR⟩ := hY pre (s.extract a s.size) wr hJ hTw (by simp) (by omega)
        gi_wp2
        refine hR.mono ?_
        rintro e W3 (⟨rfl, hJ3, hk3⟩ | ⟨rfl, hJx3⟩)
        · gi_wp2
          go_end0
          exact ⟨⟨_, rfl⟩, .inl ⟨_, by simp; omega, hJ3⟩⟩
        · gi_wp2
          go_end0
          exact ⟨⟨_, rfl⟩, .inr ⟨_, hJx3⟩⟩
end Go.Proofs.YtmebbhlebehliaaDoor
