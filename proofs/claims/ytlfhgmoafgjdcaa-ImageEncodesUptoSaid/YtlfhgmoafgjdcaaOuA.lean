/- The document's writer of images: numbers and counts, as contracts. -/
import Derived.Test.YtlfhgmoafgjdcaaImV
import Derived.Test.YtlfhgmoafgjdcaaImR
import Derived.Test.YtlfhgmoafgjdcaaImL
namespace Go.Proofs.Ytlfhgmoafgjdcaa
open Go.ChangeShapes Go.WideShapes Go.ChangeAt Go.RowKit
set_option linter.unusedVariables false
set_option linter.unusedSimpArgs false
/-- the document's writer: its block, what is written, whether all could be -/
def ROut (w : World) (g base : Nat) (bs : List Nat) (ok : Bool) : Prop := ∃ A c, Blk w g 65 #[.slice A bs.length c, .bool ok] ∧ WRow w base (.slice A bs.length c) bs ∧ base ≤ g
/-- what the writer leaves -/
structure OFr (base g : Nat) (w w' : World) : Prop where
  below : Below base w w'
  blk : ∀ b t cs, b ≠ g → t ≠ 5 → Blk w b t cs → Blk w' b t cs
theorem OFr.refl (base g : Nat) (w : World) : OFr base g w w := ⟨Below.refl _ _, fun _ _ _ _ _ h => h⟩
theorem OFr.trans {base g : Nat} {a b c : World} (h : OFr base g a b) (k : OFr base g b c) : OFr base g a c := ⟨h.below.trans k.below, fun x t cs h1 h2 h3 => k.blk x t cs h1 h2 (h.blk x t cs h1 h2 h3)⟩
theorem OFr.of_below {base g : Nat} {w w' : World} (h : Below w.heap.size w w') (hb : base ≤ w.heap.size) : OFr base g w w' := ⟨h.mono hb, fun b t cs _ _ k => k.kept h⟩
theorem OFr.set_ {base g : Nat} (w : World) (hg : base ≤ g) (i : Nat) (u : Value) : OFr base g w (w.setCell ⟨g, i, none⟩ u) := ⟨(Below.refl base w).setCell (p := ⟨g, i, none⟩) hg u, fun b t cs h1 _ k => Blk.else_ (p := ⟨g, i, none⟩) k (fun e => h1 e.symm) u⟩
theorem ROut.later {w w1 : World} {g base : Nat} {bs : List Nat} {ok : Bool} (h : ROut w g base bs ok) (hb : Below w.heap.size w w1) : ROut w1 g base bs ok := by
  obtain ⟨A, c, h1, h2, h3⟩ := h
  exact ⟨A, c, h1.kept hb, h2.later hb, h3⟩
theorem ROut.base {w : World} {g base : Nat} {bs : List Nat} {ok : Bool} (h : ROut w g base bs ok) : base ≤ g ∧ g < w.heap.size := by
  obtain ⟨A, c, h1, _, h3⟩ := h
  exact ⟨h3, h1.lt⟩
theorem WRow.set_ {w : World} {base g i : Nat} {A A0 : Option Addr} {c n0 c0 : Nat} {ok : Bool} {bs : List Nat} {u : Value} (h : WRow w base (.slice A bs.length c) bs) (hB : Blk w g 65 #[.slice A0 n0 c0, .bool ok]) : WRow (w.setCell ⟨g, i, none⟩ u) base (.slice A bs.length c) bs := by
  rcases h with h | ⟨ad, hv, h1, h2, h3⟩
  · refine .inl ⟨h.1, ?_⟩
    rcases h.2 with k | ⟨b, cap, cur, k1, k2, k3, k4⟩
    · exact .inl k
    · have hne : b ≠ g := TyB.ne (T := 5) ⟨cur, k3⟩ hB.ty (by decide)
      exact .inr ⟨b, cap, cur, k1, k2, Blk.else_ (p := ⟨g, i, none⟩) (t := 5) k3 (fun e => hne e.symm) u, k4⟩
  · refine .inr ⟨ad, hv, h1, fun j v hj => ?_, h3⟩
    have hc := h2 j v hj
    refine (World.cell?_setCell_other w ⟨g, i, none⟩ (ad.add j) u (fun e => ?_)).trans hc
    rw [← e, hB.cell] at hc
    obtain ⟨z, hz⟩ : ∃ z : Nat, v = .int .u8 (z : Int) := by
      obtain ⟨z, _, rfl⟩ := List.mem_map.1 (List.mem_of_getElem? hj)
      exact ⟨z, rfl⟩
    subst hz
    rcases i with _ | _ | i
    · simp at hc
    · simp at hc
    · simp at hc
theorem ROut.put {w : World} {g base : Nat} {bs : List Nat} {ok : Bool} (h : ROut w g base bs ok) (q : Bool) : ROut (w.setCell ⟨g, 1, none⟩ (.bool q)) g base bs q := by
  obtain ⟨A, c, h1, h2, h3⟩ := h
  have hP := h1.put_ 1 (.bool q)
  simp only [List.setIfInBounds_toArray, List.set_cons_zero, List.set_cons_succ] at hP
  exact ⟨A, c, hP, h2.set_ h1, h3⟩
/-- how writing ends -/
def OutR (base g : Nat) (bs : List Nat) (ok : Bool) (L : List Itm) (w : World) (e : Ending) (w' : World) : Prop := e = .returned (.tuple #[]) ∧ OFr base g w w' ∧ ROut w' g base (bs ++ encL L) (ok && L.all okI)
/-- whole numbers that stay readable -/
def NumsAt (base g : Nat) (w : World) (A : Option Addr) (zs : List Int) : Prop := ∀ u, OFr base g w u → 0 < zs.length → ∃ b off, A = some ⟨b, off, none⟩ ∧ ∀ (i : Nat) z, zs[i]? = some z → u.cell? ⟨b, off + i, none⟩ = some (.int .i64 z)
theorem NumsAt.later {base g : Nat} {w w1 : World} {A : Option Addr} {zs : List Int} (h : NumsAt base g w A zs) (hf : OFr base g w w1) : NumsAt base g w1 A zs := fun u hu => h u (hf.trans hu)
theorem NumsAt.lit {base g : Nat} (w : World) (zs : List Int) (hg : g < w.heap.size) : NumsAt base g (w.alloc (.cells (zs.map (Value.int .i64)).toArray 3)) (some ⟨w.heap.size, 0, none⟩) zs := fun u hu _ => by
  refine ⟨_, _, rfl, fun i z hz => ?_⟩
  have hB := hu.blk w.heap.size 3 (zs.map (Value.int .i64)).toArray (by omega) (by decide) (Blk.made w _ _)
  rw [Nat.zero_add, hB.cell]
  simp [hz]
theorem NumsAt.list {base g : Nat} {w : World} {A : Option Addr} {zs : List Int} (h : ListAt pInt 1 base w A zs) : NumsAt base g w A zs := fun u hu hl => by
  obtain ⟨b, off, h1, h2, h3⟩ := h hl
  exact ⟨b, off, h1, fun i z hz => by
    have := pInt.belowB hu.below h2 (h3 i z hz)
    rw [Nat.mul_one] at this
    exact this⟩
def nI (zs : List Int) : List Itm := zs.map Itm.n
theorem all_snoc {L : List Itm} {x : Itm} : (L ++ [x]).all okI = (L.all okI && okI x) := by simp
set_option maxHeartbeats 16000000 in
set_option maxRecDepth 100000 in
theorem onums_any (g base : Nat) (bs : List Nat) (ok : Bool) (A : Option Addr) (zs : List Int) (c : Nat) (w : World) (h : ROut w g base bs ok) (hz : NumsAt base g w A zs) (hw : ∀ i ∈ nI zs, wfI i) (hlen : (bs ++ encL (nI zs)).length ≤ 1000000000000) (hzl : zs.length ≤ 1000000000000) :
    Calls Try.prog 24 #[.pointer (some ⟨g, 0, none⟩), .slice A zs.length c] w (OutR base g bs ok (nI zs) w) := by
  obtain ⟨i0, hi, hz0, hz1, hz2⟩ := info_parts infoB
  have hbg := h.base
  replace hi := Lib.hid hi
  replace hz1 := Lib.hid hz1
  replace hz2 := Lib.hid hz2
  go_enter Try.func24, Try.ntmps24
  go_wp2_with fail
  go_loopw [8] (fun i wr => ∃ k : Nat, k ≤ zs.length ∧ i = .int .i64 (k : Int) ∧ OFr base g w wr ∧ ROut wr g base (bs ++ encL (nI (zs.take k))) (ok && (nI (zs.take k)).all okI)) (fun i _ => zs.length - (intOf i).toNat)
  case atStart => exact ⟨0, Nat.zero_le _, rfl, OFr.refl _ _ _, by simpa [nI, encL] using h⟩
  case round =>
    clear h
    obtain ⟨k, hk, rfl, hfr, hR⟩ := hrel
    have k0 : (0 : Int) ≤ (k : Int) := by omega
    by_cases hlt : k < zs.length
    · have k1 : (k : Int) < (zs.length : Int) := by omega
      obtain ⟨b, off, rfl, hcell⟩ := hz wr hfr (by omega)
      have hzk : zs[k]? = some zs[k] := List.getElem?_eq_getElem hlt
      have htk : nI (zs.take (k + 1)) = nI (zs.take k) ++ [.n zs[k]] := by rw [List.take_add_one, hzk]; unfold nI; rw [List.map_append]; rfl
      have hcz := hcell k _ hzk
      have hwz : wfI (.n zs[k]) := hw _ (List.mem_map.2 ⟨_, List.getElem_mem hlt, rfl⟩)
      have hle : (bs ++ encL (nI (zs.take k))).length + (uintL (zig zs[k])).length ≤ 1000000000000 := by
        have h1 : encL (nI zs) = encL (nI (zs.take (k + 1))) ++ encL (nI (zs.drop (k + 1))) := by rw [← encL_append]; congr 1; unfold nI; rw [← List.map_append, List.take_append_drop]
        have h2 : (encL [Itm.n zs[k]]).length = (uintL (zig zs[k])).length := by simp [encL, encI]
        rw [h1, htk, encL_append, List.length_append, List.length_append, List.length_append, h2] at hlen
        rw [List.length_append]
        omega
      generalize zs[k] = z at *
      generalize hbk : bs ++ encL (nI (zs.take k)) = bk at *
      generalize hok : (ok && (nI (zs.take k)).all okI) = okk at *
      have hnext : bs ++ encL (nI (zs.take (k + 1))) = bk ++ uintL (zig z) ∧ (ok && (nI (zs.take (k + 1))).all okI) = (okk && okI (.n z)) := by
        rw [htk, encL_append, ← List.append_assoc, hbk, List.all_append, ← Bool.and_assoc, hok]
        exact ⟨by simp [encL, encI], by simp⟩
      clear hcell htk hzk hbk hok
      replace hnext := Lib.hid hnext
      have IN := Lib.hid (fun u => rint_any z hwz.1 hwz.2 u)
      have hnp := Lib.hid (uintL_len (zig_lt hwz.1 hwz.2)).1
      generalize uintL (zig z) = news at *
      go_upto_region 3 with (fail)
      obtain ⟨A0, c0, hB0, hW0, _⟩ := id hR
      have cg1 : wr.cell? ⟨g, 1, none⟩ = some (.bool okk) := by rw [hB0.cell]; rfl
      have cf1 := hB0.free 1
      go_cut [24] from 12 to 26 (fun p w' => ∃ w4, w4 = w' ∧ ROut w4 g base bk (okk && okI (.n z)) ∧ OFr base g wr w4)
      case first =>
        have hfin : ∀ q, q = (okk && okI (.n z)) → ∃ w4, w4 = wr.setCell ⟨g, 1, none⟩ (.bool q) ∧ ROut w4 g base bk (okk && okI (.n z)) ∧ OFr base g wr w4 := fun q hq => ⟨_, rfl, by rw [← hq]; exact hR.put q, OFr.set_ wr hbg.1 1 _⟩
        replace hfin := Lib.hid hfin
        clear hR hB0 hW0
        cases okk with
        | false =>
          go_wp2
          all_goals (go_meet; exact hfin.out _ rfl)
        | true =>
          by_cases b1 : -1 ≤ z
          · by_cases b2 : z ≤ 1152921504606846976
            · go_wp2
              all_goals (go_meet; exact hfin.out _ (by simp [okI]; omega))
            · go_wp2
              all_goals (go_meet; exact hfin.out _ (by simp [okI]; omega))
          · go_wp2
            all_goals (go_meet; exact hfin.out _ (by simp [okI]; omega))
      case rest =>
      clear hR hB0 hW0 cg1 cf1
      obtain ⟨w4, hw4, hR4, hf4⟩ := hcut
      subst hw4
      have hfr4 := hfr.trans hf4
      obtain ⟨A4, c4, kb, kr, kg⟩ := hR4
      have kgl := kb.lt
      generalize (okk && okI (.n z)) = ok4 at *
      have s0 : w4.cell? ⟨g, 0, none⟩ = some (.slice A4 bk.length c4) := by rw [kb.cell]; rfl
      replace kb := Lib.hid kb
      replace kr := Lib.hid kr
      have hbase : base ≤ w4.heap.size := by omega
      have hle' : bk.length + news.length ≤ 140737488355328 := by omega
      clear hfr hf4
      go_upto_region 4 with (fail)
      go_region_law (first
        | ((try go_simp); go_at_call 52; refine (IN.out _).mono ?_; rintro e w2 ⟨Ar, cr, rfl, hO, hb2⟩; have hd2 := (Below.refl w4.heap.size w4).drew.trans hb2; have hf2 := hfr4.trans (OFr.of_below hd2 hbase); have kb2 := kb.out.kept hd2; have kr2 := kr.out.later hd2; have s2 : w2.cell? ⟨g, 0, none⟩ = some (.slice A4 bk.length c4) := (by rw [kb2.cell]; rfl); have hz3 := hd2.size; have hBr := (Bys.of_own hO).2; replace hf2 := Lib.hid hf2; replace kb2 := Lib.hid kb2; replace kr2 := Lib.hid kr2; replace hBr := Lib.hid hBr; clear hO hb2 hd2)
        | (refine step_append_W (v := .slice A4 bk.length c4) (base := base) (bs := bk) (news := news) rfl (.tmp 31) (.tmp 33) rfl rfl hi.out hz0 hz1.out hz2.out rfl Ar cr news.length rfl rfl kr2.out hBr.out hnp.out hle' (by omega) ?_; intro v' w3 ho hb4 hk4; obtain ⟨A3, c3, rfl, -, -⟩ := bslice_of ho; have kb3 := hk4 g _ _ kb2.out (by decide); have hx3 : w3.cell? ⟨g, 0, none⟩ = some (.slice A4 bk.length c4) := (by rw [kb3.cell]; rfl); have hf3 := kb3.free 0; have hP := kb3.put_ 0 (.slice A3 (bk ++ news).length c3); simp only [List.setIfInBounds_toArray, List.set_cons_zero, List.set_cons_succ] at hP; have hfin : OFr base g w (w3.setCell ⟨g, 0, none⟩ (.slice A3 (bk ++ news).length c3)) ∧ ROut (w3.setCell ⟨g, 0, none⟩ (.slice A3 (bk ++ news).length c3)) g base (bk ++ news) ok4 := ⟨hf2.out.trans ((⟨hb4, fun b t cs h1 h2 h3 => hk4 b cs t h3 h2⟩ : OFr base g w2 w3).trans (OFr.set_ w3 kg 0 _)), A3, c3, hP, WRow.set_ (.inl ho) kb3, kg⟩; replace hfin := Lib.hid hfin; clear ho hb4 hk4 kb3 hP))
      all_goals
        have hq := hfin.out
        rw [List.length_append] at hq
        go_wp2
        go_roundw
        case rel => exact ⟨k + 1, by omega, by go_num, hq.1, by rw [hnext.out.1, hnext.out.2]; exact hq.2⟩
        case measure => simp [intOf]; omega
    · obtain rfl : k = zs.length := by omega
      rw [List.take_length] at hR
      have hfin : OutR base g bs ok (nI zs) w (.returned (.tuple #[])) wr := ⟨rfl, hfr, hR⟩
      replace hfin := Lib.hid hfin
      clear hfr hR
      go_wp2
      go_end0
      exact hfin.out
end Go.Proofs.Ytlfhgmoafgjdcaa
