/-
  Contract: what the statements' own alive answers. Conditions: as each states.
-/
import Derived.Test.YtoiodcaohkfdjaaGreatMP47
import Derived.Test.YtoiodcaohkfdjaaGreatMP17
namespace Go.Proofs.YtoiodcaohkfdjaaGreat
open Go.RowKit gc

def ak0 : Lk := (Lk.newK true 7 9 0).addL 0 []
def ak1 : Lk := ak0.sendK 0 ⟨#[97, 98]⟩
def ak2 : Lk := ak1.finK 0
def ak3 : Lk := ak2.stepK 0 1
def ak4 : Lk := ak3.stepK 0 9
def ak5 : Lk := ak4.stepK 0 9
theorem ak_new : newLE [] 9 = 0 := by decide +kernel
theorem ak_a1 : (ak0.c.doA (Lk.oPut 0 ⟨#[97, 98]⟩)).n = 2 := by decide +kernel
theorem ak_t3 : ak2.stepT 0 1 = ⟨#[97]⟩ ∧ ak2.stepE 0 1 = 0 := by decide +kernel
theorem ak_t4 : ak3.stepT 0 9 = ⟨#[98]⟩ ∧ ak3.stepE 0 9 = 1 := by decide +kernel
theorem ak_t5 : ak4.stepT 0 9 = ⟨#[]⟩ ∧ ak4.stepE 0 9 = 0 := by decide +kernel
theorem ak_f : ak5.fin ≠ 0 ∧ ak5.sent = 2 ∧ ak5.got = 2 ∧ (ak5.c.held : Int) = 0 ∧ ak5.c.lost = 0 := by decide +kernel
theorem kmade_bytes (w : World) (xs : List Int) (n : Nat) (fr : Nat × Nat) (hn : xs.length = n) : Lib.BytesIn (w.alloc (.cells (xs.map (Value.int .u8)).toArray 5 fr)) (some ⟨w.heap.size, 0, none⟩) n xs := fun _ => ⟨_, _, rfl, fun i hi => by
    rw [World.cell?_alloc_fr]
    simp only [Nat.zero_add, List.getElem?_toArray, List.getElem?_map]
    rw [List.getD_eq_getElem?_getD, List.getElem?_eq_getElem (by omega)]
    rfl⟩
set_option maxRecDepth 100000 in
set_option maxHeartbeats 8000000 in
theorem lalive (w : World) : Calls Tryz.prog 10 #[] w fun e w' => e = .returned (.bool true) ∧ Below w.heap.size w w' := by
  have kc := fun (w : World) (C : Array Value) (n c : Nat) => Lib.run_convert_bytes_const (P := Tryz.prog) w 57 5 C n c Tryz.underlying57 Tryz.underlying5
  have HN := Lib.hid (lnew none 0 0 [] true 7 9 0 w rfl (Nat.le_refl _) (fun t ht => by cases ht) (fun h => absurd h (Nat.lt_irrefl _)) ak_new)
  go_enter Tryz.func10, Tryz.ntmps10
  go_wp2_with fail
  refine HN.out.mono ?_
  rintro e w1 ⟨g, V, rfl, h1, _⟩
  have H1 := Lib.hid (show LHd w w1 V g ak0 128 from h1)
  clear h1 HN
  go_wp2_with fail
  clear kc
  have hb2 : Below w1.heap.size w1 (w1.alloc (.cells #[.int .u8 97, .int .u8 98] 5 (2, 3))) := (Below.refl _ _).alloc (Nat.le_refl _) _
  have HP := Lib.hid (lsend (H1.out.on hb2).1 0 (pb := some ⟨w1.heap.size, 0, none⟩) (nb := 2) (cb := 2) (b := ⟨#[97, 98]⟩) rfl (kmade_bytes w1 [97, 98] 2 (2, 3) rfl) (Nat.le_refl _) (M' := 130) (by decide) (by decide))
  have H2 := Lib.hid (H1.out.on hb2)
  clear hb2 H1
  rw [ak_a1] at HP
  refine HP.out.mono ?_
  rintro e w2 ⟨rfl, hs⟩
  obtain ⟨V2, h3, _⟩ := H2.out.step hs
  have H3 := Lib.hid (show LHd w w2 V2 g ak1 130 from h3)
  clear hs h3 H2 HP
  go_wp2_with fail
  refine (lfin H3.out.1 0).mono ?_
  rintro e w3 ⟨rfl, hs⟩
  obtain ⟨V3, h4, _⟩ := H3.out.step hs
  have H4 := Lib.hid (show LHd w w3 V3 g ak2 130 from h4)
  clear hs h4 H3
  go_wp2_with fail
  have HS := Lib.hid (lstep H4.out.1 0 1)
  rw [ak_t3.1, ak_t3.2] at HS
  refine HS.out.mono ?_
  rintro e w4 ⟨q4, d4, rfl, hi4, hd4, _, V4, r4, m4, f4⟩
  have hf4 := Fr.mvd ⟨H4.out.2.2, H4.out.2.1⟩ m4
  have H5 := Lib.hid (show LHd w w4 V4 g ak3 130 from ⟨r4, hf4.2, hf4.1⟩)
  have I4 := Lib.hid (And.intro hi4 f4)
  have hd4 : 1 ≤ d4 := hd4
  clear hi4 f4 r4 m4 hf4 HS H4
  rw [show (⟨#[97]⟩ : ByteArray).size = 1 from rfl]
  go_wp2_with fail
  have HS := Lib.hid (lstep H5.out.1 0 9)
  rw [ak_t4.1, ak_t4.2] at HS
  refine HS.out.mono ?_
  rintro e w5 ⟨q5, d5, rfl, hi5, hd5, _, V5, r5, m5, f5⟩
  have hf5 := Fr.mvd ⟨H5.out.2.2, H5.out.2.1⟩ m5
  have H6 := Lib.hid (show LHd w w5 V5 g ak4 130 from ⟨r5, hf5.2, hf5.1⟩)
  have J4 := Lib.hid (bytes_mvd I4.out.1 I4.out.2 m5)
  have I5 := Lib.hid (And.intro hi5 f5)
  have hd5 : 1 ≤ d5 := hd5
  clear hi5 f5 r5 m5 hf5 HS H5 I4
  rw [show (⟨#[98]⟩ : ByteArray).size = 1 from rfl]
  go_wp2_with fail
  have HS := Lib.hid (lstep H6.out.1 0 9)
  rw [ak_t5.1, ak_t5.2] at HS
  refine HS.out.mono ?_
  rintro e w6 ⟨q6, d6, rfl, _, _, _, V6, r6, m6, _⟩
  have hf6 := Fr.mvd ⟨H6.out.2.2, H6.out.2.1⟩ m6
  have H7 := Lib.hid (show LHd w w6 V6 g ak5 130 from ⟨r6, hf6.2, hf6.1⟩)
  have cv4 : (convert 57 9 (.slice q4 1 d4)).run Tryz.prog w6 = .ok (.string ⟨#[97]⟩) w6 := gc.got_text (d := d4) (bytes_mvd J4.out.1 J4.out.2 m6).1 rfl
  have cv5 : (convert 57 9 (.slice q5 1 d5)).run Tryz.prog w6 = .ok (.string ⟨#[98]⟩) w6 := gc.got_text (d := d5) (bytes_mvd I5.out.1 I5.out.2 m6).1 rfl
  clear r6 m6 hf6 HS H6 J4 I5
  rw [show (⟨#[]⟩ : ByteArray).size = 0 from rfl]
  have HDN := Lib.hid (ldone H7.out.1)
  have HCT := Lib.hid (lcounts H7.out.1)
  rw [show decide (ak5.fin ≠ 0) = true from decide_eq_true ak_f.1] at HDN
  rw [ak_f.2.1, ak_f.2.2.1, ak_f.2.2.2.1, ak_f.2.2.2.2] at HCT
  go_wp2_with fail
  refine HDN.out.mono ?_
  rintro e w7 ⟨rfl, rfl⟩
  go_wp2_with fail
  refine HCT.out.mono ?_
  rintro e w8 ⟨rfl, hb⟩
  have HB8 := Lib.hid (H7.out.on hb).2.2
  clear hb HCT HDN H7 cv4 cv5
  go_wp2_with fail
  go_ret
  exact ⟨rfl, HB8.out⟩
end Go.Proofs.YtoiodcaohkfdjaaGreat
