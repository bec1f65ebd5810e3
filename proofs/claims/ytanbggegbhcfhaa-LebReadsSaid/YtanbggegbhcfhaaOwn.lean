/-
  The walk of chicanelaw04.LebOwn: it returns true, whatever text and byte. Conditions: as each states.
-/
import Derived.Test.YtanbggegbhcfhaaSizes
import Derived.Laws.OwnMore
namespace Go.Proofs.Ytanbggegbhcfhaa
open Go.RowKit
theorem str_nil (s : ByteArray) (Z : List Int) (hZ : Z = strL (nums s)) (hs : s.size ≤ 100000000) (w : World) : Calls Try.prog 17 #[.slice none 0 0, .string s] w (OutB Z w) := by
  have h := str_any none 0 0 [] s w rfl (by omega) (Lib.BytesIn.nil _ _ _)
  rw [List.nil_append, ← hZ] at h
  exact h
theorem strL_pos (xs : List Int) : 1 ≤ (strL xs).length := by
  have := num_pos xs.length
  simp [strL]
  omega
theorem strL_len (xs : List Int) (h : xs.length ≤ 100000000) : (strL xs).length ≤ 9 + xs.length := by
  have := num_len9 xs.length (by omega)
  simp [strL]
  omega
/-- A text that was put is read whole. -/
theorem found_str (s : ByteArray) (h : s.size ≤ 100000000) (Z : List Int) (hZ : Z = strL (nums s)) : foundS false Z 0 (s.size : Int) = (nums s, Z.length) := by
  have e := gs_str (nums s) [] (by rw [nums_length]; omega) (s.size : Int) (by rw [nums_length]; omega)
  rw [List.append_nil] at e
  subst hZ
  exact e
namespace lebOwn
set_option maxHeartbeats 2000000 in
theorem walk_long (s : ByteArray) (c : Int) (h : 500 < s.size) (hs : s.size ≤ 9223372036854775807) (w : World) :
    Calls Try.prog 8 #[.string s, .int .u8 c] w fun e w' => e = .returned (.bool true) ∧ Below w.heap.size w w' := by
  have d1 : decide ((500 : Int) < (s.size : Int)) = true := by simp; omega
  go_enter Try.func8, Try.ntmps8
  go_wp2_with fail
  refine (alive_any _).mono ?_
  rintro e w5 ⟨rfl, hb5⟩
  have HB5 := Lib.hid hb5
  clear hb5
  go_wp2_with fail
  go_ret
  exact ⟨rfl, HB5.out⟩

set_option maxHeartbeats 2000000 in
theorem walk_main (s : ByteArray) (c : Int) (h : s.size ≤ 500) (w : World) :
    Calls Try.prog 8 #[.string s, .int .u8 c] w fun e w' => e = .returned (.bool true) ∧ Below w.heap.size w w' := by
  have d1 : decide ((500 : Int) < (s.size : Int)) = false := by simp; omega
  obtain ⟨Z, hZ⟩ : ∃ Z, Z = strL (nums s) := ⟨_, rfl⟩
  have hZ1 := strL_pos (nums s)
  have hZ2 := strL_len (nums s) (by rw [nums_length]; omega)
  have HZA := Lib.hid (allB_str (nums_all s))
  rw [nums_length] at hZ2
  rw [← hZ] at hZ1 hZ2 HZA
  have HZ := Lib.hid hZ
  have HF := Lib.hid (found_str s (by omega) Z hZ)
  clear hZ
  obtain ⟨L, HL⟩ : ∃ L, Hid (Z.length = L) := ⟨_, Lib.hid rfl⟩
  rw [HL.out] at hZ1 hZ2 HF
  go_enter Try.func8, Try.ntmps8
  go_wp2_with fail
  refine (str_nil s Z HZ.out (by omega) _).mono ?_
  rintro e w1 ⟨u, rfl, ho, hb1⟩
  rw [HL.out] at ho
  obtain ⟨_, ⟨_, h0⟩ | ⟨gb, cap, cur, rfl, hgb, hh, hcap, _⟩⟩ := id ho
  · omega
  have hlt : gb < w1.heap.size := (Array.getElem?_eq_some_iff.1 hh).1
  obtain ⟨q, d, eq, hzl, hi, _⟩ := own_bytes ho
  cases eq
  have HO := Lib.hid ho
  have HB1 := Lib.hid hb1
  have HI := Lib.hid hi
  clear ho hb1 hi hh hzl
  go_wp2_with fail
  refine (new_any _ L cap Z _ HL.out (by omega) HZA.out HI.out).mono ?_
  rintro e w2 ⟨g, rfl, hr, hb2⟩
  have HR := Lib.hid hr
  have HB2 := Lib.hid (seqB HB1.out hb2)
  have HO2 := Lib.hid (show w2.ownsRow w.heap.size 5 1 (.slice (some ⟨gb, 0, none⟩) L cap) L (Z.map (Value.int .u8)) from HO.out.kept (only_below hb2 none) (by simp [Value.ownBlock]))
  clear hr hb2 HO HI
  go_wp2_with fail
  go_loopw [20] (fun i wr => ∃ (k : Nat) (zs : List Value), k ≤ L ∧ i = .int .i64 k ∧ Hid (Below w.heap.size w wr) ∧ Hid (Rd wr w1.heap.size g Z 0 false) ∧ Hid (wr.ownsRow w.heap.size 5 1 (.slice (some ⟨gb, 0, none⟩) L cap) L zs)) (fun i _ => L - (intOf i).toNat)
  case atStart => exact ⟨0, _, by omega, rfl, HB2, HR, HO2⟩
  case round =>
    clear HB2 HR HO2
    obtain ⟨k, zs, hk, rfl, HB, HR, HO⟩ := hrel
    by_cases hkl : k < L
    · have hzs : zs.length = L := by have := HO.out.1; omega
      have gc : _ = some (zs[k]'(by omega)) := (HO.out.cellAt k (by omega)).trans (List.getElem?_eq_getElem (by omega))
      have gf := HO.out.frozenAt k
      have HO' := Lib.hid (HO.out.stored k (.int .u8 c)).1
      have HR' := Lib.hid (HR.out.far (p := ⟨gb, k, none⟩) hlt (.int .u8 c))
      have HB' := Lib.hid (HB.out.setCell (p := ⟨gb, k, none⟩) hgb (.int .u8 c))
      generalize zs[k]'(by omega) = z at gc
      clear hzs
      go_wp2_with fail
      go_roundw
      case rel => exact ⟨k + 1, _, by omega, by go_num, HB', HR', HO'⟩
      case measure => simp [intOf]; omega
    · have hsz1 := HB1.out.size
      go_wp2_with fail
      refine (alive_any _).mono ?_
      rintro e w5 ⟨rfl, hb5⟩
      have HR5 := Lib.hid (HR.out.on hb5)
      have HB5 := Lib.hid (seqB HB.out hb5)
      clear hb5 HR HB HO
      go_wp2_with fail
      refine (rstr_any _ g _ 0 false (s.size : Int) _ HR5.out).mono ?_
      rw [HF.out]
      intro e w6 ht
      obtain ⟨rfl, hr6, _⟩ := id ht
      have HR6 := Lib.hid hr6
      have HB6 := Lib.hid (took_below ht HB5.out HB5.out.size hsz1)
      clear ht hr6
      simp only [tS]
      rw [str_nums]
      go_wp2_with fail
      refine (end_any _ g _ _ _ _ HR6.out).mono ?_
      rintro e w7 ⟨rfl, m7, hm⟩
      have HB7 := Lib.hid (show Below w.heap.size w w7 by rw [hm]; exact below_drawn HB6.out m7)
      have e1 : (!(L == 0) && decide (0 + L = Z.length)) = true := by
        rw [HL.out]
        simp
        omega
      rw [e1]
      clear hm e1
      go_wp2_with fail
      go_ret
      exact ⟨rfl, HB7.out⟩

theorem walk (s : ByteArray) (c : Int) (hs : s.size ≤ 9223372036854775807) (w : World) :
    Calls Try.prog 8 #[.string s, .int .u8 c] w fun e w' => e = .returned (.bool true) ∧ Below w.heap.size w w' := by
  by_cases h : 500 < s.size
  · exact walk_long s c h hs w
  · exact walk_main s c (by omega) w
end lebOwn
end Go.Proofs.Ytanbggegbhcfhaa
