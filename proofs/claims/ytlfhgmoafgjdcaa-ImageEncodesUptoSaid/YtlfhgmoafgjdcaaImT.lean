/- The reader of images over lists, as contracts. -/
import Derived.Test.YtlfhgmoafgjdcaaImS
namespace Go.Proofs.Ytlfhgmoafgjdcaa
open Go.ChangeShapes Go.WideShapes Go.ChangeAt Go.RowKit
set_option linter.unusedVariables false
set_option linter.unusedSimpArgs false
theorem step_append_own {P : Program} {w : World} {ops : Array Oper} {o : Oper} {a : Act} {K : Act → World → Prop} {Q : Exit → Act → World → Prop} {E : Prop} (hgd : o.guard = none) (s x : Operand) (t : TypeId)
    (ho : o.op = .call { callee := .builtin .append, args := #[s, x], argTypes := #[t, t] })
    (base : Nat) (e : TypeId) (i : TypeInfo) (z : Value) (size bytes : Nat) (ht : P.underlying t = some (.slice e)) (hi : P.info? e = some i) (hz : i.zero = some z)
    (hsize : i.size = size) (hby : i.bytes = bytes) (hzs : z.cells.size = size) (hsz : 0 < size)
    (v : Value) (n : Nat) (xs : List Value) (hs : a.eval s = v) (hown : w.ownsRow base e size v n xs)
    (ad : Addr) (m c : Nat) (news : List Value) (hx : a.eval x = .slice (some ad) m c) (hl : news.length = m * size) (hnews : ∀ j u, news[j]? = some u → w.cell? (ad.add j) = some u) (h1 : ∀ u ∈ news, u.oneCell' = true)
    (h63 : n + m ≤ maxLen) (hbytes : (n + m) * bytes ≤ 140737488355328) (hbase : base ≤ w.heap.size)
    (h : ∀ v' w', w'.ownsRow base e size v' (n + m) (xs ++ news) → w.grownBy w' v.ownBlock → K (a.put o.dst v') w') :
    if Region.wanted o (yielded ops a.tmps) = true then Oper.wp P o a w K Q else E := by
  have hw : Region.wanted o (yielded ops a.tmps) = true := by simp [Region.wanted, hgd]
  rw [if_pos hw]
  exact wp_append_own w s x t ho base e i z size bytes ht hi hz hsize hby hzs hsz v n xs hs hown ad m c news hx hl hnews h1 h63 hbytes hbase fun v' w' h2 h3 _ => h v' w' h2 h3
theorem news_at (w : World) (t : TypeId) (vs : List Value) : ∀ (j : Nat) (u : Value), vs[j]? = some u → (w.alloc (.cells vs.toArray t)).cell? ((⟨w.heap.size, 0, none⟩ : Addr).add j) = some u := by
  intro j u hj
  have hadd : (⟨w.heap.size, 0, none⟩ : Addr).add j = ⟨w.heap.size, j, none⟩ := by unfold Addr.add; split <;> simp_all
  rw [hadd, cell_of_row _ w.heap.size j _ _ _ (heap_alloc_new w _)]
  simpa using hj
theorem news_two (w : World) (t1 t : TypeId) (c1 : Array Value) (vs : List Value) : ∀ (j : Nat) (u : Value), vs[j]? = some u → (((w.alloc (.cells c1 t1)).alloc (.cells vs.toArray t)).drew).cell? ((⟨w.heap.size + 1, 0, none⟩ : Addr).add j) = some u := by
  intro j u hj
  have := news_at (w.alloc (.cells c1 t1)) t vs j u hj
  have e : (w.alloc (.cells c1 t1)).heap.size = w.heap.size + 1 := by simp
  rw [e] at this
  exact this
theorem below_two (w : World) (o1 o2 : Obj) : Below w.heap.size w ((w.alloc o1).alloc o2).drew := (((Below.refl _ w).alloc (Nat.le_refl _) o1).alloc (by simp) o2).drew
theorem grown_drew {w w1 : World} {r : Option Nat} (h : w.drew.grownBy w1 r) : w.grownBy w1 r := ⟨h.os, h.tape, h.output, h.size, h.block⟩
theorem LJ.form {X : Type} {E : World → List Value → X → Prop} {p : LP} {w0 : World} {k : Nat} {xs : List X} {vss : List (List Value)} {l : List Nat} {v : Value} {wr : World} (h : LJ E p w0 k xs vss l v wr) : ∃ A c, v = .slice A k c := by
  rcases h.own.2 with ⟨rfl, rfl⟩ | ⟨g', cap, cur', rfl, _⟩
  · exact ⟨_, _, rfl⟩
  · exact ⟨_, _, rfl⟩
theorem LJ.here {X : Type} {E : World → List Value → X → Prop} {p : LP} {w0 : World} {k : Nat} {xs : List X} {vss : List (List Value)} {l : List Nat} {v : Value} {wr : World} (h : LJ E p w0 k xs vss l v wr) (ho : p.o < p.cur.size) : wr.cell? ⟨p.G, p.o, none⟩ = some v := by
  rw [h.blk.cell]
  have := putC_get_in (cur := p.cur) (o := p.o) (vs := [v]) (i := 0) (by simp; omega) (by simp)
  simpa using this
theorem LG.here {X : Type} {E : World → List Value → X → Prop} {p : LP} {w0 : World} {k : Nat} {xs : List X} {vss : List (List Value)} {zs : List Value} {l : List Nat} {g' cap : Nat} {cur' : Array Value} {w4 : World}
    (h : LG E p w0 k xs vss zs l g' cap cur' w4) (ho : p.o < p.cur.size) : w4.cell? ⟨p.G, p.o, none⟩ = some (.slice (some ⟨g', 0, none⟩) (k + 1) cap) := by
  rw [h.blk.cell]
  have := putC_get_in (cur := p.cur) (o := p.o) (vs := [.slice (some ⟨g', 0, none⟩) (k + 1) cap]) (i := 0) (by simp; omega) (by simp)
  simpa using this
theorem LG.next' {X : Type} {E : World → List Value → X → Prop} {tys : List TypeId} {p : LP} {w0 : World} {k oo : Nat} {xs : List X} {vss : List (List Value)} {zs : List Value} {l r : List Nat} {g' cap : Nat} {cur' : Array Value} {w4 w5 : World} {x : X} {e : Ending}
    (h : LG E p w0 k xs vss zs l g' cap cur' w4) (ha : LA p w0) (hE : KeepE tys E) (hT : p.T ∉ tys) (hR : 109 ∉ tys) (hTR : p.T ≠ 109) (ho : oo = k * p.size)
    (hr : REnd p.lo p.rb p.g p.B g' p.T cur' oo p.size E (some (x, r)) w4 e w5) :
    e = .returned (.tuple #[]) ∧ ∃ vs, LJ E p w0 (k + 1) (xs ++ [x]) (vss ++ [vs]) r (.slice (some ⟨g', 0, none⟩) (k + 1) cap) w5 := by
  subst ho
  exact h.next ha hE hT hR hTR hr
theorem LG.stop' {X : Type} {E : World → List Value → X → Prop} {p : LP} {w0 : World} {k oo : Nat} {xs : List X} {vss : List (List Value)} {zs : List Value} {l : List Nat} {g' cap : Nat} {cur' : Array Value} {w4 w5 : World} {e : Ending}
    (h : LG E p w0 k xs vss zs l g' cap cur' w4) (ha : LA p w0)
    (hr : REnd p.lo p.rb p.g p.B g' p.T cur' oo p.size E none w4 e w5) :
    e = .panicked [unfitP] ∧ RFr w0 w5 p.g p.G := ⟨hr.2, h.fr.newer' hr.1 (.inr (.inl rfl)) (.inl h.base)⟩
theorem rna_count (a : Addr) (w : World) : (nilAhead 339 73 (.pointer (some a)) "auspice/image.count").run Try.prog w = .ok (some false) w := by kernel_rfl
theorem rme_count (a : Addr) (w : World) : (method 339 73 (.pointer (some a)) "auspice/image.count").run Try.prog w = .ok (159, .pointer (some a)) w := by kernel_rfl
theorem rna_number (a : Addr) (w : World) : (nilAhead 339 73 (.pointer (some a)) "auspice/image.number").run Try.prog w = .ok (some false) w := by kernel_rfl
theorem rme_number (a : Addr) (w : World) : (method 339 73 (.pointer (some a)) "auspice/image.number").run Try.prog w = .ok (160, .pointer (some a)) w := by kernel_rfl
theorem rna_time (a : Addr) (w : World) : (nilAhead 339 73 (.pointer (some a)) "auspice/image.time").run Try.prog w = .ok (some false) w := by kernel_rfl
theorem rme_time (a : Addr) (w : World) : (method 339 73 (.pointer (some a)) "auspice/image.time").run Try.prog w = .ok (161, .pointer (some a)) w := by kernel_rfl
theorem rna_truth (a : Addr) (w : World) : (nilAhead 339 73 (.pointer (some a)) "auspice/image.truth").run Try.prog w = .ok (some false) w := by kernel_rfl
theorem rme_truth (a : Addr) (w : World) : (method 339 73 (.pointer (some a)) "auspice/image.truth").run Try.prog w = .ok (162, .pointer (some a)) w := by kernel_rfl
theorem rna_bits (a : Addr) (w : World) : (nilAhead 339 73 (.pointer (some a)) "auspice/image.bits").run Try.prog w = .ok (some false) w := by kernel_rfl
theorem rme_bits (a : Addr) (w : World) : (method 339 73 (.pointer (some a)) "auspice/image.bits").run Try.prog w = .ok (158, .pointer (some a)) w := by kernel_rfl

/-- two pieces, one behind the other -/
def eP {X Y : Type} (E1 : World → List Value → X → Prop) (E2 : World → List Value → Y → Prop) (w : World) (vs : List Value) (x : X × Y) : Prop := ∃ a b, vs = a ++ b ∧ E1 w a x.1 ∧ E2 w b x.2
theorem keepE_P {X Y : Type} {tys : List TypeId} {E1 : World → List Value → X → Prop} {E2 : World → List Value → Y → Prop} (h1 : KeepE tys E1) (h2 : KeepE tys E2) : KeepE tys (eP E1 E2) := by
  rintro w w' x y vs z ⟨a, b, e, k1, k2⟩ hf hx hy
  exact ⟨a, b, e, h1 _ _ _ _ _ _ k1 hf hx hy, h2 _ _ _ _ _ _ k2 hf hx hy⟩
/-- a struct that is being read: acc of it is there -/
structure SA (w0 : World) (lo rb g B G o : Nat) (t : TypeId) (cur : Array Value) (acc : List Value) (l : List Nat) (wi : World) : Prop where
  fr : RFr w0 wi g G
  rd : RdS wi lo rb g B l
  blk : Blk wi G t (putC cur o acc)
theorem putC_nil' {cur : Array Value} {o : Nat} : putC cur o [] = cur := by
  apply Array.ext'
  simp [putC]
theorem SA.start {lo rb g B G o : Nat} {t : TypeId} {cur : Array Value} {l : List Nat} {w : World} (h : RdS w lo rb g B l) (hG : Blk w G t cur) : SA w lo rb g B G o t cur [] l w := ⟨RFr.refl _ _ _, h, by rw [putC_nil']; exact hG⟩
theorem SA.drew {w0 : World} {lo rb g B G o : Nat} {t : TypeId} {cur : Array Value} {acc : List Value} {l : List Nat} {wi : World} (h : SA w0 lo rb g B G o t cur acc l wi) : SA w0 lo rb g B G o t cur acc l wi.drew := ⟨h.fr.drew, h.rd.drew, h.blk⟩
theorem RFr.undrew {w w' : World} {x y : Nat} (h : RFr w.drew w' x y) : RFr w w' x y := ⟨h.os, h.tape, h.output, h.size, h.block⟩
theorem SA.room {w0 : World} {lo rb g B G o n k : Nat} {t : TypeId} {cur : Array Value} {acc : List Value} {l : List Nat} {wi : World} (_ : SA w0 lo rb g B G o t cur acc l wi) (hs : o + n ≤ cur.size) (hk : acc.length = k) (hkn : k < n) : o + k < (putC cur o acc).size := by
  rw [putC_size (by omega)]
  omega
theorem SA.nil {w0 : World} {lo rb g B G o n k : Nat} {t : TypeId} {cur : Array Value} {acc : List Value} {l : List Nat} {wi : World} {u : Value} (_ : SA w0 lo rb g B G o t cur acc l wi) (hs : o + n ≤ cur.size) (hk : acc.length = k) (hkn : k < n) (hu : cur[o + k]? = some u) : (putC cur o acc)[o + k]? = some u := by
  rw [putC_get (by omega) (by omega), hu]
theorem SA.step {X : Type} {E : World → List Value → X → Prop} {w0 : World} {lo rb g B G o n k m : Nat} {t : TypeId} {cur : Array Value} {acc : List Value} {l r : List Nat} {x : X} {e : Ending} {wi w2 : World} (h : SA w0 lo rb g B G o t cur acc l wi) (hs : o + n ≤ cur.size) (hk : acc.length = k) (hkn : k + m ≤ n)
    (hr : REnd lo rb g B G t (putC cur o acc) (o + k) m E (some (x, r)) wi e w2) :
    e = .returned (.tuple #[]) ∧ ∃ vs, vs.length = m ∧ E w2 vs x ∧ SA w0 lo rb g B G o t cur (acc ++ vs) r w2 ∧ RFr wi w2 g G := by
  obtain ⟨hf, he, hS, vs, hv, hE, hB⟩ := hr
  subst hk
  exact ⟨he, vs, hv, hE, ⟨h.fr.trans hf, hS, by rw [← putC_putC (by omega)]; exact hB⟩, hf⟩
theorem SA.stop {X : Type} {E : World → List Value → X → Prop} {w0 : World} {lo rb g B G o k m : Nat} {t : TypeId} {cur cur' : Array Value} {acc : List Value} {l : List Nat} {e : Ending} {wi w2 : World} (h : SA w0 lo rb g B G o t cur acc l wi)
    (hr : REnd lo rb g B G t cur' k m E none wi e w2) : e = .panicked [unfitP] ∧ RFr w0 w2 g G := ⟨hr.2, h.fr.trans hr.1⟩
theorem SA.keepE {X : Type} {E : World → List Value → X → Prop} {tys : List TypeId} {w0 : World} {lo rb g B G o : Nat} {t : TypeId} {cur : Array Value} {acc vs : List Value} {l : List Nat} {x : X} {wi w2 : World} (h : SA w0 lo rb g B G o t cur acc l wi) (hE : KeepE tys E) (hf : RFr wi w2 g G) (hR : 109 ∉ tys) (ht : t ∉ tys) (hx : E wi vs x) : E w2 vs x :=
  hE _ _ _ _ _ _ hx hf (Off.of_ty h.rd.gty hR) (Off.of_ty h.blk.ty ht)
theorem SA.done {X : Type} {E : World → List Value → X → Prop} {w0 : World} {lo rb g B G o size : Nat} {t : TypeId} {cur : Array Value} {acc : List Value} {l : List Nat} {x : X} {wi : World} (h : SA w0 lo rb g B G o t cur acc l wi) (hl : acc.length = size) (hE : E wi acc x) :
    REnd lo rb g B G t cur o size E (some (x, l)) w0 (.returned (.tuple #[])) wi := ⟨h.fr, rfl, h.rd, acc, hl, hE, h.blk⟩

theorem z_Int : (Try.prog.info? 3).map (fun i => (i.zero, i.size, i.bytes)) = some (some (.int .i64 0), 1, 8) := by kernel_rfl
set_option maxHeartbeats 16000000 in
set_option maxRecDepth 100000 in
theorem list_Int_r (lo rb g B G o : Nat) (t : TypeId) (cur : Array Value) (l : List Nat) (w : World) (h : RdS w lo rb g B l) (hP : RdP w lo g G o t cur) (hz : cur[o]? = some (.slice none 0 0)) (ht : t ∉ ([] : List TypeId)) :
    Calls Try.prog 102 #[(.iface 73 (.pointer (some ⟨rb, 0, none⟩))), .pointer (some ⟨G, o, none⟩), .func (.methodOf 96 "auspice/image.number") #[] #[]] w (REnd lo rb g B G t cur o 1 (eL eInt 3 1) (rdL rdN l) w) := by
  have hmf : ∀ (fn : Fn) (first cap : Array Value) (w : World), (Instr.makeFunc fn first cap).run Try.prog w = .ok (.func fn first cap) w := fun _ _ _ _ => rfl
  have nacount := rna_count ⟨rb, 0, none⟩
  have mecount := rme_count ⟨rb, 0, none⟩
  have nanumber := rna_number ⟨rb, 0, none⟩
  have menumber := rme_number ⟨rb, 0, none⟩
  obtain ⟨i0, hi, hz0, hz1, hz2⟩ := info_parts z_Int
  have tT : 3 ∉ ([] : List TypeId) := by decide
  have tR : 109 ∉ ([] : List TypeId) := by decide
  have tTR : 3 ≠ 109 := by decide
  obtain ⟨hG, hne, hlo, ho⟩ := hP
  have hp : w.cell? ⟨G, o, none⟩ = some (.slice none 0 0) := by rw [hG.cell]; exact hz
  have ha : LA ⟨3, t, 1, lo, rb, g, B, G, o, cur⟩ w := ⟨hG.lt, hlo, hne, ho⟩
  have CC := fun n => count_r lo rb g B l n w.drew h.drew
  unfold rdL
  replace ha := Lib.hid ha
  replace hG := Lib.hid hG
  replace hz := Lib.hid hz
  replace hz1 := Lib.hid hz1
  replace hz2 := Lib.hid hz2
  replace hi := Lib.hid hi
  clear h
  cases h0 : rdC l with
  | none =>
    rw [h0] at CC
    rw [Option.bind_none]
    go_enter Try.func102, Try.ntmps102
    go_upto_region 0 with (fail)
    go_region_with (go_at_call 159; refine (CC _).mono ?_; rintro e u ⟨hb, rfl⟩; refine paysI ⟨#[], []⟩ u ⟨rfl, RFr.of_grown (grown_drew hb) G, rfl⟩ ?_)
    all_goals trivial
  | some y =>
    obtain ⟨n, l1⟩ := y
    rw [h0] at CC
    rw [Option.bind_some]
    clear h0
    go_enter Try.func102, Try.ntmps102
    go_upto_region 0 with (fail)
    go_cut [15, 16] from 7 to 16 (fun vn vi w' => vn = .int .i64 (n : Int) ∧ vi = .int .i64 0 ∧ n ≤ 1024 ∧ w.grownBy w' (some g) ∧ RdS w' lo rb g B l1)
    case first =>
      go_region_with (go_at_call 159; refine (CC _).mono ?_; rintro e u ⟨hb, rfl, hn, hS⟩; have hb := Lib.hid (grown_drew hb); have hn := Lib.hid hn)
      all_goals (go_wp2_with fail; go_meet; exact ⟨rfl, rfl, hn.out, hb.out, hS⟩)
    case rest =>
    obtain ⟨rfl, rfl, hn, hg, hS⟩ := hcut
    have hJ := LJ.start (E := eInt) (p := ⟨3, t, 1, lo, rb, g, B, G, o, cur⟩) ha.out hg hS hG.out hz.out
    clear CC
    go_wp2_with fail
    go_loopw [16] (fun vi wr => ∃ (k : Nat) (xs : List (Int)) (vss : List (List Value)) (lk : List Nat) (v : Value), k ≤ n ∧ vi = .int .i64 (k : Int) ∧ LJ eInt ⟨3, t, 1, lo, rb, g, B, G, o, cur⟩ w k xs vss lk v wr ∧ LRel rdN n l1 k xs lk) (fun vi _ => n - (intOf vi).toNat)
    case atStart => exact ⟨0, [], [], l1, _, by omega, rfl, hJ, LRel.start _ _ _⟩
    case round =>
      clear hS hg hJ
      obtain ⟨k, xs, vss, lk, v, hk, rfl, hJ, hrk⟩ := hrel
      have k0 : (0 : Int) ≤ (k : Int) := by omega
      obtain ⟨A, c, rfl⟩ := hJ.form
      have hc := hJ.here ho
      dsimp only at hc
      by_cases hlt : k < n
      · have k1 : (k : Int) < (n : Int) := by omega
        have hcA : ∀ o1 o2 : Obj, ((wr.alloc o1).alloc o2).cell? ⟨G, o, none⟩ = some (.slice A (k : Nat) c) := fun o1 o2 => cell_later (m1 _ o2) (cell_later (m1 wr o1) hc)
        have hcB : ∀ o1 : Obj, (wr.alloc o1).cell? ⟨G, o, none⟩ = some (.slice A (k : Nat) c) := fun o1 => cell_later (m1 wr o1) hc
        have hO := hJ.own
        dsimp only at hO
        have n3 : k + 1 ≤ maxLen := by unfold maxLen; omega
        have n4 : (k + 1) * 8 ≤ 140737488355328 := by omega
        have n5 : w.heap.size ≤ wr.heap.size := hJ.fr.size
        replace hJ := Lib.hid hJ
        replace hrk := Lib.hid hrk
        replace hn := Lib.hid hn
        go_upto_region 4 with (fail)
        go_region_law (refine step_append_own rfl (.tmp 28) (.tmp 32) 22 rfl w.heap.size 3 i0 (.int .i64 0) 1 8 Try.underlying22 hi.out hz0 hz1.out hz2.out rfl (by decide) (.slice A k c) k vss.flatten rfl ((hO.alloc _).alloc _).drew ⟨wr.heap.size + 1, 0, none⟩ 1 1 [.int .i64 0] rfl rfl (news_two wr _ _ _ _) (fun u hu => by simp at hu; rcases hu with rfl <;> rfl) n3 n4 (Nat.le_trans n5 (by simp; omega)) ?_; intro v' w3 hO3 hgrow; obtain ⟨y1, y2, g', cap, cur', rfl, hL⟩ := hJ.out.grow ha.out keepE_int tT ht tR (below_two wr _ _) hgrow hO3 rfl; dsimp only at y1 y2; replace hL := Lib.hid hL; clear hgrow hO3)
        all_goals have e1 := hL.out.here ho
        all_goals dsimp only at e1 hL
        all_goals obtain ⟨q1, q2, q3⟩ := hL.out.pre ha.out
        all_goals dsimp only at q1 q2 q3
        all_goals generalize w3.setCell ⟨G, o, none⟩ (.slice (some ⟨g', 0, none⟩) (k + 1) cap) = w4 at *
        all_goals have CE := number_r lo rb g B g' (k) 3 cur' lk w4 hL.out.rd ⟨hL.out.row, q1, q2, by omega⟩
        all_goals have kb1 : (k : Int) < ((k + 1 : Nat) : Int) := by omega
        all_goals clear hO hcA hcB y1 y2 n3 n4 n5 hc
        all_goals have h9 := hn.out
        all_goals (
          cases hx : rdN lk with
          | none =>
            rw [hx] at CE
            replace CE := Lib.hid CE
            have hrn := Lib.hid (hrk.out.stop hlt hx)
            clear hx
            go_wp2_with fail
            refine CE.out.mono ?_; rintro e u he
            obtain ⟨rfl, hf⟩ := hL.out.stop' ha.out he
            replace hf := Lib.hid hf
            clear he
            go_wp2_with fail
            refine ⟨rfl, ?_⟩
            rw [hrn.out]
            exact ⟨hf.out, rfl⟩
          | some y =>
            obtain ⟨x, r⟩ := y
            rw [hx] at CE
            replace CE := Lib.hid CE
            have hrn := Lib.hid (hrk.out.next hlt hx)
            clear hx
            go_wp2_with fail
            refine CE.out.mono ?_; rintro e u he
            obtain ⟨rfl, vs, hJ2⟩ := hL.out.next' ha.out keepE_int tT tR tTR (by simp) he
            replace hJ2 := Lib.hid hJ2
            clear he
            go_wp2
            go_roundw
            case rel => exact ⟨k + 1, xs ++ [x], vss ++ [vs], r, _, by omega, by go_num, hJ2.out, hrn.out⟩
            case measure => simp [intOf]; omega)
      · obtain rfl : k = n := by omega
        have hfin := hJ.done
        rw [← hrk.done] at hfin
        dsimp only at hfin
        replace hfin := Lib.hid hfin
        clear hrk hJ
        go_wp2
        go_end0
        exact hfin.out


abbrev eInts : World → List Value → List Int → Prop := eL eInt 3 1
def rdInts : Rd (List Int) := rdL rdN
theorem keep_Ints : KeepE ([3] : List TypeId) eInts := keepE_L _ _ keepE_int


set_option maxHeartbeats 8000000 in
set_option maxRecDepth 100000 in
theorem numbers_r (lo rb g B G o : Nat) (t : TypeId) (cur : Array Value) (l : List Nat) (w : World) (h : RdS w lo rb g B l) (hP : RdP w lo g G o t cur) (hz : cur[o]? = some (.slice none 0 0)) (ht : t ∉ ([3] : List TypeId)) :
    Calls Try.prog 75 #[(.iface 73 (.pointer (some ⟨rb, 0, none⟩))), .pointer (some ⟨G, o, none⟩)] w (REnd lo rb g B G t cur o 1 eInts (rdInts l) w) := by
  have hmf : ∀ (fn : Fn) (first cap : Array Value) (w : World), (Instr.makeFunc fn first cap).run Try.prog w = .ok (.func fn first cap) w := fun _ _ _ _ => rfl
  have C := list_Int_r lo rb g B G o t cur l w h hP hz (by simp)
  clear h hP hz
  show Calls _ _ _ _ (REnd lo rb g B G t cur o 1 (eL eInt 3 1) (rdL rdN l) w)
  cases e0 : rdL rdN l with
  | none =>
    rw [e0] at C
    replace C := Lib.hid C
    clear e0
    go_enter Try.func75, Try.ntmps75
    go_wp2_with fail
    refine C.out.mono ?_; rintro e u ⟨hb, rfl⟩
    go_wp2_with fail
    exact ⟨rfl, hb, rfl⟩
  | some y =>
    obtain ⟨x, r⟩ := y
    rw [e0] at C
    replace C := Lib.hid C
    clear e0
    go_enter Try.func75, Try.ntmps75
    go_wp2_with fail
    refine C.out.mono ?_; rintro e u ⟨hb, rfl, hw⟩
    replace hb := Lib.hid hb
    replace hw := Lib.hid hw
    go_wp2
    go_end0
    exact ⟨hb.out, rfl, hw.out⟩


theorem z_Ints : (Try.prog.info? 22).map (fun i => (i.zero, i.size, i.bytes)) = some (some (.slice none 0 0), 1, 24) := by kernel_rfl
set_option maxHeartbeats 16000000 in
set_option maxRecDepth 100000 in
theorem list_Ints_r (lo rb g B G o : Nat) (t : TypeId) (cur : Array Value) (l : List Nat) (w : World) (h : RdS w lo rb g B l) (hP : RdP w lo g G o t cur) (hz : cur[o]? = some (.slice none 0 0)) (ht : t ∉ ([3] : List TypeId)) :
    Calls Try.prog 76 #[(.iface 73 (.pointer (some ⟨rb, 0, none⟩))), .pointer (some ⟨G, o, none⟩), .func (.func 75) #[] #[]] w (REnd lo rb g B G t cur o 1 (eL eInts 22 1) (rdL rdInts l) w) := by
  have hmf : ∀ (fn : Fn) (first cap : Array Value) (w : World), (Instr.makeFunc fn first cap).run Try.prog w = .ok (.func fn first cap) w := fun _ _ _ _ => rfl
  have nacount := rna_count ⟨rb, 0, none⟩
  have mecount := rme_count ⟨rb, 0, none⟩
  obtain ⟨i0, hi, hz0, hz1, hz2⟩ := info_parts z_Ints
  have tT : 22 ∉ ([3] : List TypeId) := by decide
  have tR : 109 ∉ ([3] : List TypeId) := by decide
  have tTR : 22 ≠ 109 := by decide
  obtain ⟨hG, hne, hlo, ho⟩ := hP
  have hp : w.cell? ⟨G, o, none⟩ = some (.slice none 0 0) := by rw [hG.cell]; exact hz
  have ha : LA ⟨22, t, 1, lo, rb, g, B, G, o, cur⟩ w := ⟨hG.lt, hlo, hne, ho⟩
  have CC := fun n => count_r lo rb g B l n w.drew h.drew
  unfold rdL
  replace ha := Lib.hid ha
  replace hG := Lib.hid hG
  replace hz := Lib.hid hz
  replace hz1 := Lib.hid hz1
  replace hz2 := Lib.hid hz2
  replace hi := Lib.hid hi
  clear h
  cases h0 : rdC l with
  | none =>
    rw [h0] at CC
    rw [Option.bind_none]
    go_enter Try.func76, Try.ntmps76
    go_upto_region 0 with (fail)
    go_region_with (go_at_call 159; refine (CC _).mono ?_; rintro e u ⟨hb, rfl⟩; refine paysI ⟨#[], []⟩ u ⟨rfl, RFr.of_grown (grown_drew hb) G, rfl⟩ ?_)
    all_goals trivial
  | some y =>
    obtain ⟨n, l1⟩ := y
    rw [h0] at CC
    rw [Option.bind_some]
    clear h0
    go_enter Try.func76, Try.ntmps76
    go_upto_region 0 with (fail)
    go_cut [15, 16] from 7 to 16 (fun vn vi w' => vn = .int .i64 (n : Int) ∧ vi = .int .i64 0 ∧ n ≤ 1024 ∧ w.grownBy w' (some g) ∧ RdS w' lo rb g B l1)
    case first =>
      go_region_with (go_at_call 159; refine (CC _).mono ?_; rintro e u ⟨hb, rfl, hn, hS⟩; have hb := Lib.hid (grown_drew hb); have hn := Lib.hid hn)
      all_goals (go_wp2_with fail; go_meet; exact ⟨rfl, rfl, hn.out, hb.out, hS⟩)
    case rest =>
    obtain ⟨rfl, rfl, hn, hg, hS⟩ := hcut
    have hJ := LJ.start (E := eInts) (p := ⟨22, t, 1, lo, rb, g, B, G, o, cur⟩) ha.out hg hS hG.out hz.out
    clear CC
    go_wp2_with fail
    go_loopw [16] (fun vi wr => ∃ (k : Nat) (xs : List (List Int)) (vss : List (List Value)) (lk : List Nat) (v : Value), k ≤ n ∧ vi = .int .i64 (k : Int) ∧ LJ eInts ⟨22, t, 1, lo, rb, g, B, G, o, cur⟩ w k xs vss lk v wr ∧ LRel rdInts n l1 k xs lk) (fun vi _ => n - (intOf vi).toNat)
    case atStart => exact ⟨0, [], [], l1, _, by omega, rfl, hJ, LRel.start _ _ _⟩
    case round =>
      clear hS hg hJ
      obtain ⟨k, xs, vss, lk, v, hk, rfl, hJ, hrk⟩ := hrel
      have k0 : (0 : Int) ≤ (k : Int) := by omega
      obtain ⟨A, c, rfl⟩ := hJ.form
      have hc := hJ.here ho
      dsimp only at hc
      by_cases hlt : k < n
      · have k1 : (k : Int) < (n : Int) := by omega
        have hcA : ∀ o1 o2 : Obj, ((wr.alloc o1).alloc o2).cell? ⟨G, o, none⟩ = some (.slice A (k : Nat) c) := fun o1 o2 => cell_later (m1 _ o2) (cell_later (m1 wr o1) hc)
        have hcB : ∀ o1 : Obj, (wr.alloc o1).cell? ⟨G, o, none⟩ = some (.slice A (k : Nat) c) := fun o1 => cell_later (m1 wr o1) hc
        have hO := hJ.own
        dsimp only at hO
        have n3 : k + 1 ≤ maxLen := by unfold maxLen; omega
        have n4 : (k + 1) * 24 ≤ 140737488355328 := by omega
        have n5 : w.heap.size ≤ wr.heap.size := hJ.fr.size
        replace hJ := Lib.hid hJ
        replace hrk := Lib.hid hrk
        replace hn := Lib.hid hn
        go_upto_region 4 with (fail)
        go_region_law (refine step_append_own rfl (.tmp 28) (.tmp 32) 23 rfl w.heap.size 22 i0 (.slice none 0 0) 1 24 Try.underlying23 hi.out hz0 hz1.out hz2.out rfl (by decide) (.slice A k c) k vss.flatten rfl ((hO.alloc _).alloc _).drew ⟨wr.heap.size + 1, 0, none⟩ 1 1 [.slice none 0 0] rfl rfl (news_two wr _ _ _ _) (fun u hu => by simp at hu; rcases hu with rfl <;> rfl) n3 n4 (Nat.le_trans n5 (by simp; omega)) ?_; intro v' w3 hO3 hgrow; obtain ⟨y1, y2, g', cap, cur', rfl, hL⟩ := hJ.out.grow ha.out keep_Ints tT ht tR (below_two wr _ _) hgrow hO3 rfl; dsimp only at y1 y2; replace hL := Lib.hid hL; clear hgrow hO3)
        all_goals have e1 := hL.out.here ho
        all_goals dsimp only at e1 hL
        all_goals obtain ⟨q1, q2, q3⟩ := hL.out.pre ha.out
        all_goals dsimp only at q1 q2 q3
        all_goals generalize w3.setCell ⟨G, o, none⟩ (.slice (some ⟨g', 0, none⟩) (k + 1) cap) = w4 at *
        all_goals have CE := numbers_r lo rb g B g' (k) 22 cur' lk w4 hL.out.rd ⟨hL.out.row, q1, q2, by omega⟩ (by have := hL.out.new 0 _ rfl; simpa using this) tT
        all_goals have kb1 : (k : Int) < ((k + 1 : Nat) : Int) := by omega
        all_goals clear hO hcA hcB y1 y2 n3 n4 n5 hc
        all_goals have h9 := hn.out
        all_goals (
          cases hx : rdInts lk with
          | none =>
            rw [hx] at CE
            replace CE := Lib.hid CE
            have hrn := Lib.hid (hrk.out.stop hlt hx)
            clear hx
            go_wp2_with fail
            refine CE.out.mono ?_; rintro e u he
            obtain ⟨rfl, hf⟩ := hL.out.stop' ha.out he
            replace hf := Lib.hid hf
            clear he
            go_wp2_with fail
            refine ⟨rfl, ?_⟩
            rw [hrn.out]
            exact ⟨hf.out, rfl⟩
          | some y =>
            obtain ⟨x, r⟩ := y
            rw [hx] at CE
            replace CE := Lib.hid CE
            have hrn := Lib.hid (hrk.out.next hlt hx)
            clear hx
            go_wp2_with fail
            refine CE.out.mono ?_; rintro e u he
            obtain ⟨rfl, vs, hJ2⟩ := hL.out.next' ha.out keep_Ints tT tR tTR (by simp) he
            replace hJ2 := Lib.hid hJ2
            clear he
            go_wp2
            go_roundw
            case rel => exact ⟨k + 1, xs ++ [x], vss ++ [vs], r, _, by omega, by go_num, hJ2.out, hrn.out⟩
            case measure => simp [intOf]; omega)
      · obtain rfl : k = n := by omega
        have hfin := hJ.done
        rw [← hrk.done] at hfin
        dsimp only at hfin
        replace hfin := Lib.hid hfin
        clear hrk hJ
        go_wp2
        go_end0
        exact hfin.out

end Go.Proofs.Ytlfhgmoafgjdcaa
