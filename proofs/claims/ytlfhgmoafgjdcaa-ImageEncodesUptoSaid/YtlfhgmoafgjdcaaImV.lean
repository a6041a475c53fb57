/- The writer of images: what it holds, and how bytes are put behind what it holds. -/
import Derived.Test.YtlfhgmoafgjdcaaImP
import Derived.Test.YtlfhgmoafgjdcaaWrE
import Derived.Test.YtlfhgmoafgjdcaaWrF
import Derived.Test.YtlfhgmoafgjdcaaInvG
namespace Go.Proofs.Ytlfhgmoafgjdcaa
open Go.ChangeShapes Go.WideShapes Go.ChangeAt Go.RowKit
set_option linter.unusedVariables false
set_option linter.unusedSimpArgs false

/-- what a carrier gives up with -/
def unfitP : PanicEntry := { v := .iface 98 (.agg #[]), recovered := false }
/-- bytes that may be put on: a row of one's own, or a constant's, that is full -/
def WRow (w : World) (base : Nat) (v : Value) (bs : List Nat) : Prop :=
  w.ownsRow base 5 1 v bs.length (bcells bs) ∨ ∃ ad, v = .slice (some ad) bs.length bs.length ∧ 0 < bs.length ∧ (∀ j u, (bcells bs)[j]? = some u → w.cell? (ad.add j) = some u) ∧ bs.length ≤ maxLen
theorem WRow.slice {w : World} {base : Nat} {v : Value} {bs : List Nat} (h : WRow w base v bs) : ∃ A c, v = .slice A bs.length c ∧ bs.length ≤ c ∧ c ≤ maxLen := by
  rcases h with h | ⟨ad, rfl, h1, h2, h3⟩
  · exact bslice_of h
  · exact ⟨_, _, rfl, Nat.le_refl _, h3⟩
theorem WRow.bys {w : World} {base : Nat} {A : Option Addr} {c : Nat} {bs : List Nat} (h : WRow w base (.slice A bs.length c) bs) : Bys w A bs := by
  rcases h with h | ⟨ad, hv, h1, h2, h3⟩
  · exact (Bys.of_own h).2
  · injection hv with hv
    subst hv
    refine ⟨by rw [bcells_length, Nat.mul_one], fun _ => ⟨ad, rfl, ?_, h2⟩⟩
    have := mblock (h2 0 _ (bcells_get (List.getElem?_eq_getElem h1)))
    rwa [block_of_add] at this
theorem WRow.later {w w1 : World} {base : Nat} {v : Value} {bs : List Nat} (h : WRow w base v bs) (hb : Below w.heap.size w w1) : WRow w1 base v bs := by
  rcases h with h | ⟨ad, h0, h1, h2, h3⟩
  · exact .inl (mown_below h hb)
  · exact .inr ⟨ad, h0, h1, fun j u hu => mlater hb (h2 j u hu), h3⟩
/-- put on -/
theorem run_append_W {w : World} {base : Nat} {v : Value} {bs news : List Nat} {i0 : TypeInfo} (hi : Try.prog.info? 5 = some i0) (hz0 : i0.zero = some (.int .u8 0)) (hz1 : i0.size = 1) (hz2 : i0.bytes = 1)
    (h : WRow w base v bs) (A : Option Addr) (c : Nat) (hA : Bys w A news) (hn : 0 < news.length) (hl : bs.length + news.length ≤ 140737488355328) (hb : base ≤ w.heap.size) :
    ∃ v' w', (Builtin.append_ #[31, 31] 31 #[v, .slice A news.length c]).run Try.prog w = .ok v' w' ∧ w'.ownsRow base 5 1 v' (bs ++ news).length (bcells (bs ++ news)) ∧ Below base w w' ∧ (∀ g cs t, Blk w g t cs → t ≠ 5 → Blk w' g t cs) := by
  have l1 : bs.length + news.length ≤ maxLen := by unfold maxLen; omega
  rcases h with h | ⟨ad, rfl, h1, h2, h3⟩
  · obtain ⟨v', w', hr, ho, hg, hv⟩ := run_append_any (P := Try.prog) w base 31 31 5 i0 (.int .u8 0) 1 1 Try.underlying31 hi hz0 hz1 hz2 rfl (by decide) v bs.length (bcells bs) h w.heap.size A news.length c (bcells news) hA (bcells_one _) l1 (by omega) hb
    refine ⟨v', w', hr, ?_, ?_, fun g cs t hB ht => hB.grown hg (hB.own_ne h (fun e => ht e.symm))⟩
    · rw [List.length_append, bcells_append]
      exact ho
    · refine ⟨hg.os, hg.tape, hg.output, hg.size, fun k hk => hg.block k (by omega) (fun e => ?_)⟩
      have := (h.lt k e.symm).1
      omega
  · obtain ⟨ad2, rfl, _, hc2⟩ := hA.2 hn
    have hr := run_append_grow (P := Try.prog) w 31 31 5 i0 (.int .u8 0) Try.underlying31 hi hz0 ad bs.length bs.length (bcells bs) (by rw [bcells_length, hz1, Nat.mul_one]) h2 ad2 news.length c (bcells news) (by rw [bcells_length, hz1, Nat.mul_one]) hc2 (by omega) (by omega) (by rw [hz2]; exact growslice_fits (by omega) (by omega))
    have hge := grownCap_ge w (bs.length + news.length) bs.length 5
    have hcm := grownCap_le_maxLen w (bs.length + news.length) bs.length 5 l1
    refine ⟨_, _, hr, ⟨by simp [bcells], .inr ⟨w.heap.size, _, _, by rw [List.length_append], hb, heap_alloc_new w.drew _, by simpa using hge, hcm, ?_, ?_⟩⟩, ?_, fun g cs t hB _ => hB.kept ((Below.refl w.heap.size w).drew.alloc (Nat.le_refl _) _)⟩
    · simp only [Array.size_append, List.size_toArray, size_zeroCells, bcells_length]
      rw [show ((Value.int .u8 0).cells.size) = 1 from rfl]
      omega
    · simp only [Array.toList_append, List.append_assoc, bcells_append, List.length_append]
      rw [← List.append_assoc, Nat.mul_one]
      exact List.take_left' (by simp [bcells])
    · exact ((Below.refl w.heap.size w).drew.alloc (Nat.le_refl _) _).mono hb
/-- a writer, with what it holds -/
def Wtr (w : World) (g base : Nat) (bs : List Nat) : Prop := ∃ v, Blk w g 59 #[v] ∧ WRow w base v bs ∧ base ≤ g
theorem Wtr.later {w w1 : World} {g base : Nat} {bs : List Nat} (h : Wtr w g base bs) (hb : Below w.heap.size w w1) : Wtr w1 g base bs := by
  obtain ⟨v, h1, h2, h3⟩ := h
  exact ⟨v, h1.kept hb, h2.later hb, h3⟩
theorem Wtr.cell {w : World} {g base : Nat} {bs : List Nat} (h : Wtr w g base bs) : ∃ A c, w.cell? ⟨g, 0, none⟩ = some (.slice A bs.length c) ∧ w.frozen? ⟨g, 0, none⟩ = false := by
  obtain ⟨v, h1, h2, _⟩ := h
  obtain ⟨A, c, rfl, _⟩ := h2.slice
  exact ⟨A, c, by rw [h1.cell]; rfl, h1.free 0⟩
theorem step_append_W {w : World} {base : Nat} {v : Value} {bs news : List Nat} {i0 : TypeInfo} {ops : Array Oper} {o : Oper} {a : Act} {K : Act → World → Prop} {Q : Exit → Act → World → Prop} {E : Prop} (hgd : o.guard = none) (s x : Operand)
    (ho : o.op = .call { callee := .builtin .append, args := #[s, x], argTypes := #[31, 31] }) (hty : o.type = 31)
    (hi : Try.prog.info? 5 = some i0) (hz0 : i0.zero = some (.int .u8 0)) (hz1 : i0.size = 1) (hz2 : i0.bytes = 1)
    (hs : a.eval s = v) (A : Option Addr) (c n : Nat) (hx : a.eval x = .slice A n c) (hn1 : n = news.length)
    (h : WRow w base v bs) (hA : Bys w A news) (hn : 0 < news.length) (hl : bs.length + news.length ≤ 140737488355328) (hb : base ≤ w.heap.size)
    (hK : ∀ v' w', w'.ownsRow base 5 1 v' (bs ++ news).length (bcells (bs ++ news)) → Below base w w' → (∀ g cs t, Blk w g t cs → t ≠ 5 → Blk w' g t cs) → K (a.put o.dst v') w') :
    if Region.wanted o (yielded ops a.tmps) = true then Oper.wp Try.prog o a w K Q else E := by
  subst hn1
  obtain ⟨v', w', hrun, k1, k2, k3⟩ := run_append_W hi hz0 hz1 hz2 h A c hA hn hl hb
  have hw : Region.wanted o (yielded ops a.tmps) = true := by simp [Region.wanted, hgd]
  rw [if_pos hw]
  unfold Oper.wp execOp
  simp only [ho, hty, resolve, invoke, builtin, Sem.run_bind, Sem.run_pure, Result.andThen_ok, List.map_toArray, List.map_cons, List.map_nil, hs, hx, hrun]
  exact hK v' w' k1 k2 k3
/-- how writing ends -/
def WEnd (g base : Nat) (o : Option (List Nat)) (ret : Value) (w : World) (e : Ending) (w' : World) : Prop :=
  Below base w w' ∧ match o with
  | some bs => e = .returned ret ∧ Wtr w' g base bs
  | none => e = .panicked [unfitP]

set_option maxHeartbeats 4000000 in
set_option maxRecDepth 100000 in
theorem full_any (g base : Nat) (bs : List Nat) (w : World) (h : Wtr w g base bs) : Calls Try.prog 151 #[.pointer (some ⟨g, 0, none⟩)] w fun e w' => e = .returned (.bool (decide ((65536 : Int) < (bs.length : Int)))) ∧ w = w' := by
  obtain ⟨A, c, r0, r1⟩ := h.cell
  clear h
  go_enter Try.func151, Try.ntmps151
  go_wp2
  go_ret
  exact ⟨by simp, rfl⟩
end Go.Proofs.Ytlfhgmoafgjdcaa
