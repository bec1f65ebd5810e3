/-
  Contract: the statements' own alive. Conditions: a word of the library holds some number.
-/
import Derived.Test.YtngnkkigjlenoaaGreatDoorU
import Derived.Test.YtngnkkigjlenoaaGreatDoorP
import Derived.Test.YtngnkkigjlenoaaGreatDoorF
namespace Go.Proofs.YtngnkkigjlenoaaGreatDoor
open Go.RowKit

def sA : ByteArray := ⟨#[97, 32, 34, 98, 32, 99, 34, 32, 35, 32, 100]⟩
def sB : ByteArray := ⟨#[97, 34, 98]⟩
def sC : ByteArray := ⟨#[97, 10, 98]⟩
def tA : List ByteArray := [⟨#[97]⟩, ⟨#[98, 32, 99]⟩]
theorem split_sA : spS [] (nums sA) = .ok [[97], [98, 32, 99]] := by kernel_rfl
theorem split_sB : spS [] (nums sB) = .bad [34, 98] 150 := by kernel_rfl
theorem join_tA : joinB tA = ⟨#[97, 32, 34, 98, 32, 99, 34]⟩ := by kernel_rfl
theorem plain_a : plainL (nums ⟨#[97]⟩) = true := by kernel_rfl
theorem words_tA : ([[97], [98, 32, 99]] : List (List Int)).map strOfNums = tA := by kernel_rfl
theorem count_sC : (pl sC).count 10 + 1 = 2 := by kernel_rfl
set_option maxRecDepth 100000 in
set_option maxHeartbeats 8000000 in
theorem alive_any (w : World) (hg : Big w) : Calls Tryz.prog 10 #[] w fun e w' => e = .returned (.bool true) ∧ Below w.heap.size w w' := by
  have HG := Lib.hid hg
  have HA := Lib.hid (fun W => split_any sA (by decide) W)
  have HB := Lib.hid (fun W => split_any sB (by decide) W)
  rw [split_sA] at HA
  rw [split_sB] at HB
  have hz1 : sA.size = 11 := rfl
  have hz2 : plc sB.size [34, 98] = 1 := rfl
  clear hg
  go_enter Tryz.func10, Tryz.ntmps10
  go_wp2_with fail
  refine (HA.out _).mono ?_
  rintro e w1 ⟨q, d, rfl, hs1, hb1⟩
  rw [words_tA] at hs1
  have HS1 := Lib.hid hs1
  have HB1 := Lib.hid hb1
  clear hs1 hb1 HA
  go_wp2_with fail
  refine (HB.out _).mono ?_
  rintro e w2 ⟨rfl, hb2⟩
  have HT2 := Lib.hid (HS1.out.txt.on hb2)
  have HB2 := Lib.hid (seqB HB1.out hb2)
  clear hb2 HB HB1 HS1
  have hnew := heap_alloc_new w2 (.cells #[.string ⟨#[97]⟩, .string ⟨#[98, 32, 99]⟩] 9)
  have hba : Below w2.heap.size w2 (w2.alloc (.cells #[.string ⟨#[97]⟩, .string ⟨#[98, 32, 99]⟩] 9)) := (Below.refl _ _).alloc (Nat.le_refl _) _
  have HX := Lib.hid (show TxtIn (w2.alloc (.cells #[.string ⟨#[97]⟩, .string ⟨#[98, 32, 99]⟩] 9)) (some ⟨w2.heap.size, 0, none⟩) 2 tA from ⟨rfl, fun _ => ⟨_, 0, rfl, fun j hj => by
    have : j = 0 ∨ j = 1 := by omega
    rcases this with rfl | rfl
    · exact cell_of_row _ _ 0 _ _ _ hnew
    · exact cell_of_row _ _ 1 _ _ _ hnew⟩⟩)
  have HSm := Lib.hid (same_any q (some ⟨w2.heap.size, 0, none⟩) 2 2 d 2 tA tA _ (HT2.out.on hba) HX.out (by decide) (by decide))
  rw [show decide (tA = tA) = true from by simp] at HSm
  have HB3 := Lib.hid (seqB HB2.out hba)
  have HT3 := Lib.hid (HT2.out.on hba)
  clear hnew hba HX HB2 HT2
  go_wp2_with fail
  refine HSm.out.mono ?_
  rintro e w4 ⟨rfl, hb4⟩
  have HJ := Lib.hid (join_any q 2 d tA w4 (by decide) (HT3.out.on hb4) (by decide))
  have HB4 := Lib.hid (seqB HB3.out hb4)
  rw [join_tA] at HJ
  clear hb4 HSm HB3 HT3
  go_wp2_with fail
  refine HJ.out.mono ?_
  rintro e w5 ⟨rfl, hb5⟩
  have HB5 := Lib.hid (seqB HB4.out hb5)
  clear hb5 HJ HB4
  have HL := Lib.hid (lines_any sC (by decide) w5 (big_on HG.out HB5.out))
  go_wp2_with fail
  refine HL.out.mono ?_
  rintro e w6 ⟨q6, m6, d6, rfl, hm6, ht6, hb6⟩
  rw [count_sC] at hm6
  subst hm6
  have HB6 := Lib.hid (seqB HB5.out hb6)
  clear hb6 ht6 HB5 HL
  have HP := Lib.hid (plain_any ⟨#[97]⟩ (by decide) w6)
  rw [plain_a] at HP
  go_wp2_with fail
  refine HP.out.mono ?_
  rintro e w' ⟨rfl, rfl⟩
  go_wp2_with fail
  go_ret
  exact ⟨rfl, HB6.out⟩
end Go.Proofs.YtngnkkigjlenoaaGreatDoor
