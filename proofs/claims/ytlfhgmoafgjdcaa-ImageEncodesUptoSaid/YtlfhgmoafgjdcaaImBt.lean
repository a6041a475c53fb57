/- The same of a table (made by genImB.py). -/
import Derived.Test.YtlfhgmoafgjdcaaImB
import Derived.Test.YtlfhgmoafgjdcaaImZc
namespace Go.Proofs.Ytlfhgmoafgjdcaa
open Go.ChangeShapes Go.WideShapes Go.ChangeAt Go.RowKit
set_option linter.unusedVariables false
set_option linter.unusedSimpArgs false
theorem fw_Table : FW rdTable iTable := FW.of_eq (fun x => by simp [iTable, iInt]) (FW.p (FW.p FW.n (FW.p (FW.l FW.n) (FW.p (FW.l fw_Ints) (FW.p FW.n (FW.p FW.n FW.n))))) (FW.p (FW.l fw_Row) (FW.l fw_Code)))
theorem br_Table (w : World) : Br w eTable (pTable w.heap.size) iTable := by
  rintro b o vs x ⟨_, _, rfl, ⟨_, _, rfl, rfl, ⟨_, _, rfl, ⟨v1, rfl, k1⟩, ⟨_, _, rfl, ⟨v2, rfl, k2⟩, ⟨_, _, rfl, rfl, ⟨_, _, rfl, rfl, rfl⟩⟩⟩⟩⟩, ⟨_, _, rfl, ⟨v6, rfl, k6⟩, ⟨v7, rfl, k7⟩⟩⟩ hc hok
  exact ⟨hc 0 _ rfl, br_L 3 1 (br_Int w) b (o + 1) [v1] _ ⟨v1, rfl, k1⟩ (hc.one 1 rfl) (fun i hi => hok i (by simp [iTable, hi])), br_L 22 1 (br_Ints w) b (o + 2) [v2] _ ⟨v2, rfl, k2⟩ (hc.one 2 rfl) (fun i hi => hok i (by simp [iTable, hi])), hc 3 _ rfl, hc 4 _ rfl, hc 5 _ rfl, br_L 53 8 (br_Row w) b (o + 6) [v6] _ ⟨v6, rfl, k6⟩ (hc.one 6 rfl) (fun i hi => hok i (by simp [iTable, hi])), br_L 47 5 (br_Code w) b (o + 7) [v7] _ ⟨v7, rfl, k7⟩ (hc.one 7 rfl) (fun i hi => hok i (by simp [iTable, hi]))⟩
end Go.Proofs.Ytlfhgmoafgjdcaa
