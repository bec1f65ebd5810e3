/-
  The walk of chicanelaw09.ToxicChecks: it returns true, whatever toxic. Conditions: what of the world the program's functions read.
-/
import Derived.Test.YthlpdhhifjjofaaDoorV
namespace Go.Proofs.YthlpdhhifjjofaaDoor.toxicChecks
open Go.RowKit

theorem start (w : World) (s : ByteArray) (k : Int) (up : Bool) (o a b : Int) : Tx w (w.alloc (.cells #[.string s, .int .i64 k, .bool up, .int .i64 o, .int .i64 a, .int .i64 b] 23)) w.heap.size s k up o a b := tx_new (Below.refl _ _) s k up o a b
set_option maxRecDepth 100000 in
set_option maxHeartbeats 4000000 in
theorem long (s : ByteArray) (hs : s.size ≤ maxLen) (k : Int) (up : Bool) (o a b : Int) (w : World) (hf : Fit w) (h : 1000 < s.size) :
    Calls Tryd.prog 3 #[.agg #[.string s, .int .i64 k, .bool up, .int .i64 o, .int .i64 a, .int .i64 b]] w fun e w' => e = .returned (.bool true) ∧ Below w.heap.size w w' := by
  have HX := Lib.hid (start w s k up o a b)
  have HA := Lib.hid (alive_any _ (fit_on hf HX.out.2.2))
  unfold maxLen at hs
  have d1 : decide (1000 < s.size) = true := by simpa using h
  clear hf
  go_enter Tryd.func3, Tryd.ntmps3
  go_wp2_with fail
  refine HA.out.mono ?_
  rintro e w3 ⟨rfl, hb⟩
  have HE := Lib.hid (HX.out.on hb).2.2
  clear hb HX
  go_wp2_with fail
  go_ret
  exact ⟨rfl, HE.out⟩
set_option maxRecDepth 100000 in
set_option maxHeartbeats 16000000 in
theorem short (s : ByteArray) (hs : s.size ≤ 1000) (k : Int) (up : Bool) (o a b : Int) (w : World) (hf : Fit w) :
    Calls Tryd.prog 3 #[.agg #[.string s, .int .i64 k, .bool up, .int .i64 o, .int .i64 a, .int .i64 b]] w fun e w' => e = .returned (.bool true) ∧ Below w.heap.size w w' := by
  have HX := Lib.hid (start w s k up o a b)
  have HF := Lib.hid (fit_on hf HX.out.2.2)
  clear hf
  obtain ⟨C, hC⟩ : ∃ C, checkB s k o a b = C := ⟨_, rfl⟩
  have hC1 := fun W h => check_i s (by unfold maxLen; omega) k up o a b W h
  have hR1 := fun W h => right_i s (by unfold maxLen; omega) k up o a b W h
  have hC2 := fun W => rcheck_any s (by omega) k up o a b W
  unfold Chk at hC2
  rw [hC] at hC1 hR1 hC2
  obtain ⟨X, hX⟩ : ∃ X, textB s k up o a b = X := ⟨_, rfl⟩
  have hT1 := fun W h => text_i s (by omega) k up o a b W h
  have hT2 := fun W => rtoxic_any s (by omega) k up o a b W
  unfold Txt at hT2
  rw [hX] at hT1 hT2
  obtain ⟨M, hM⟩ : ∃ M, nameB s = M := ⟨_, rfl⟩
  have hN1 := fun W h => name_i s (by unfold maxLen; omega) W h
  have hN2 := fun W => rname_any s (by unfold maxLen; omega) W
  rw [hM] at hN1 hN2
  clear hC hX hM
  have hsz : s.size ≤ 1000 := hs
  go_enter Tryd.func3, Tryd.ntmps3
  obtain ⟨w1, hw1⟩ : ∃ w1, w.alloc (.cells #[.string s, .int .i64 k, .bool up, .int .i64 o, .int .i64 a, .int .i64 b] 23) = w1 := ⟨_, rfl⟩
  obtain ⟨g, hg⟩ : ∃ g, w.heap.size = g := ⟨_, rfl⟩
  rw [hw1] at HX HF
  have HX1 : Hid (Tx w w1 g s k up o a b) := Lib.hid (by rw [← hg]; exact HX.out)
  have HCK := Lib.hid (show ∀ W, Below w1.heap.size w1 W → (W.cell? ⟨g, 0, none⟩ = some (.string s) ∧ W.cell? ⟨g, 1, none⟩ = some (.int .i64 k) ∧ W.cell? ⟨g, 2, none⟩ = some (.bool up) ∧ W.cell? ⟨g, 3, none⟩ = some (.int .i64 o) ∧ W.cell? ⟨g, 4, none⟩ = some (.int .i64 a) ∧ W.cell? ⟨g, 5, none⟩ = some (.int .i64 b)) ∧ Below w1.heap.size w1 W from fun W hb => ⟨(HX1.out.on hb).cells, hb⟩)
  have HA := Lib.hid (show ∀ W, Below w1.heap.size w1 W → Calls Tryd.prog 9 #[] W fun e w' => e = .returned (.bool true) ∧ Below W.heap.size W w' from fun W hb => alive_any W (fit_on HF.out hb))
  have HC1 := Lib.hid (fun W (hb : Below w1.heap.size w1 W) => hC1 W (fit_on HF.out hb))
  have HR1 := Lib.hid (fun W (hb : Below w1.heap.size w1 W) => hR1 W (fit_on HF.out hb))
  have HC2 := Lib.hid (fun W (_ : Below w1.heap.size w1 W) => hC2 W)
  have HT1 := Lib.hid (fun W (hb : Below w1.heap.size w1 W) => hT1 W (fit_on HF.out hb))
  have HT2 := Lib.hid (fun W (_ : Below w1.heap.size w1 W) => hT2 W)
  have HN1 := Lib.hid (fun W (hb : Below w1.heap.size w1 W) => hN1 W (fit_on HF.out hb))
  have HN2 := Lib.hid (fun W (hb : Below w1.heap.size w1 W) => (hN2 W).mono (fun e w' (h : _ ∧ W = w') => (⟨h.1, h.2 ▸ Below.refl _ _⟩ : _ ∧ Below W.heap.size W w')))
  clear hC1 hR1 hC2 hT1 hT2 hN1 hN2 HX hs
  obtain ⟨y0, y1, y2, y3, y4, y5⟩ := HX1.out.cells
  go_wp2_with fail
  clear y0 y1 y2 y3 y4 y5
  go_region_held (fun W => (W.cell? ⟨g, 0, none⟩ = some (.string s) ∧ W.cell? ⟨g, 1, none⟩ = some (.int .i64 k) ∧ W.cell? ⟨g, 2, none⟩ = some (.bool up) ∧ W.cell? ⟨g, 3, none⟩ = some (.int .i64 o) ∧ W.cell? ⟨g, 4, none⟩ = some (.int .i64 a) ∧ W.cell? ⟨g, 5, none⟩ = some (.int .i64 b)) ∧ Below w1.heap.size w1 W)
    ((refine HCK.out _ ?_
      go_split_ands
      first
        | with_reducible exact (Below.refl _ _).drew
        | with_reducible assumption))
    (first
      | (go_at_call 9; go_split_ands; (with_reducible refine Calls.mono (HA.out _ (by assumption)) ?_); rintro e w3 ⟨rfl, hb⟩; (have hb3 := seqB (by assumption) hb); clear hb)
      | (go_at_call 10; go_split_ands; (with_reducible refine Calls.mono (HC1.out _ (by assumption)) ?_); rintro e w3 ⟨rfl, hb⟩; (have hb3 := seqB (by assumption) hb); clear hb)
      | (go_at_call 11; go_split_ands; (with_reducible refine Calls.mono (HC2.out _ (by assumption)) ?_); rintro e w3 ⟨rfl, hb⟩; (have hb3 := seqB (by assumption) hb); clear hb)
      | (go_at_call 12; go_split_ands; (with_reducible refine Calls.mono (HR1.out _ (by assumption)) ?_); rintro e w3 ⟨rfl, hb⟩; (have hb3 := seqB (by assumption) hb); clear hb)
      | (go_at_call 13; go_split_ands; (with_reducible refine Calls.mono (HT1.out _ (by assumption)) ?_); rintro e w3 ⟨rfl, hb⟩; (have hb3 := seqB (by assumption) hb); clear hb)
      | (go_at_call 14; go_split_ands; (with_reducible refine Calls.mono (HT2.out _ (by assumption)) ?_); rintro e w3 ⟨rfl, hb⟩; (have hb3 := seqB (by assumption) hb); clear hb)
      | (go_at_call 15; go_split_ands; (with_reducible refine Calls.mono (HN1.out _ (by assumption)) ?_); rintro e w3 ⟨rfl, hb⟩; (have hb3 := seqB (by assumption) hb); (have HBE := Lib.hid hb3); clear hb)
      | (go_at_call 16; go_split_ands; (with_reducible refine Calls.mono (HN2.out _ (by assumption)) ?_); rintro e w3 ⟨rfl, hb⟩; (have hb3 := seqB (by assumption) hb); (have HBE := Lib.hid hb3); clear hb))
  go_wp2_with fail
  go_ret
  exact ⟨rfl, seqB HX1.out.2.2 HBE.out⟩
theorem walk (s : ByteArray) (hs : s.size ≤ maxLen) (k : Int) (up : Bool) (o a b : Int) (w : World) (hf : Fit w) :
    Calls Tryd.prog 3 #[.agg #[.string s, .int .i64 k, .bool up, .int .i64 o, .int .i64 a, .int .i64 b]] w fun e w' => e = .returned (.bool true) ∧ Below w.heap.size w w' := by
  rcases Nat.lt_or_ge 1000 s.size with h | h
  · exact long s hs k up o a b w hf h
  · exact short s h k up o a b w hf
end Go.Proofs.YthlpdhhifjjofaaDoor.toxicChecks
