/-
  Contracts: what leb.Str and leb.GetStr answer. Conditions: as each states.
-/
import Derived.Test.YtanbggegbhcfhaaW2
import Derived.Lib.AppendStr
namespace Go.Proofs.Ytanbggegbhcfhaa
open Go.RowKit

/-- A text as numbers. -/
def nums (s : ByteArray) : List Int := s.data.toList.map fun u => (u.toNat : Int)
theorem nums_length (s : ByteArray) : (nums s).length = s.size := by simp [nums]
theorem nums_all (s : ByteArray) : AllB (nums s) := by
  intro x hx
  obtain ⟨u, _, rfl⟩ := List.mem_map.mp hx
  have := u.toNat_lt
  omega
theorem nums_at (s : ByteArray) (k : Nat) (h : k < s.size) : ((s[k]'h).toNat : Int) = (nums s).getD k 0 := by
  rw [List.getD_eq_getElem?_getD, nums, List.getElem?_map, List.getElem?_eq_getElem (by simpa using h)]
  rfl
theorem nums_str (xs : List Int) (h : AllB xs) : nums (strOfNums xs) = xs := by
  unfold nums
  rw [show (strOfNums xs).data.toList = xs.map fun n => UInt8.ofNat n.toNat from rfl, List.map_map]
  conv => rhs; rw [← List.map_id xs]
  apply List.map_congr_left
  intro x hx
  have := h x hx
  simp
  omega
theorem str_nums (s : ByteArray) : strOfNums (nums s) = s := by
  apply ByteArray.ext
  apply Array.ext'
  rw [strOfNums_data]
  unfold nums
  rw [List.map_map]
  conv => rhs; rw [← List.map_id s.data.toList]
  apply List.map_congr_left
  intro u _
  simp
theorem str_append (xs ys : List Int) : strOfNums xs ++ strOfNums ys = strOfNums (xs ++ ys) := by
  unfold strOfNums
  rw [ByteArray.mk_append_mk, List.map_append]
theorem strCells_nums (s : ByteArray) : Lib.strCells s = (nums s).map (Value.int .u8) := by
  unfold nums Lib.strCells
  rw [List.map_map]
  rfl
theorem conv_bytes {w : World} {p : Option Addr} {n : Nat} {xs : List Int} (h : Lib.BytesIn w p n xs) (hx : xs.length = n) (c : Nat) : (convert 22 9 (.slice p n c)).run Try.prog w = .ok (.string (strOfNums xs)) w := by
  rcases Nat.eq_zero_or_pos n with h0 | h0
  · subst h0
    obtain rfl : xs = [] := List.eq_nil_of_length_eq_zero hx
    exact run_convert_bytes_zero w 22 5 Try.underlying22 Try.underlying5 p c 9 Try.underlying9
  · obtain ⟨b, o, rfl, hc⟩ := h.at h0
    exact run_convert_bytes_arg w 22 5 Try.underlying22 Try.underlying5 b o n c xs hx hc 9 Try.underlying9

/-- A text's bytes, appended to a row of the call's own. -/
theorem app_str {w w0 : World} {base m : Nat} {v : Value} {zs : List Int} (hown : w.ownsRow base 5 1 v m (zs.map (Value.int .u8))) (hbase : base ≤ w.heap.size) (hb : Below base w0 w) (s : ByteArray) (hbig : m + s.size ≤ 140737488355328) (ty : TypeId) :
    ∃ v' w', (Builtin.append_ #[22, 9] ty #[v, .string s]).run Try.prog w = .ok v' w' ∧ w'.ownsRow base 5 1 v' (m + s.size) ((zs ++ nums s).map (Value.int .u8)) ∧ Below base w0 w' := by
  obtain ⟨i0, hi0, hz0, hz1, hz2⟩ := info_parts info5
  obtain ⟨v', w', h1, h2, h3, _⟩ := Lib.run_append_own_string (P := Try.prog) w base 22 9 ty 5 i0 Try.underlying22 Try.underlying9 hi0 hz0 hz1 hz2 v m _ hown s (by unfold maxLen; omega) hbig hbase
  refine ⟨v', w', h1, ?_, hb.grown h3 hbase (fun j hj => (hown.lt j hj).1)⟩
  rw [strCells_nums, ← List.map_append] at h2
  exact h2

set_option maxHeartbeats 2000000 in
theorem str_any (p : Option Addr) (n c : Nat) (xs : List Int) (s : ByteArray) (w : World) (hx : xs.length = n) (hbig : n + 9 + s.size ≤ 140737488355328) (hi : Lib.BytesIn w p n xs) :
    Calls Try.prog 17 #[.slice p n c, .string s] w (OutB (xs ++ strL (nums s)) w) := by
  have HP := Lib.hid (put_any p n c xs (s.size : Int) w hx (by omega) hi (by omega))
  have hs9 := numI_len9 (s.size : Int) (by omega)
  have HX := Lib.hid hx
  clear hx hi
  go_enter Try.func17, Try.ntmps17
  go_wp2_with fail
  refine HP.out.mono ?_
  rintro e w1 ⟨u, rfl, hown, hb1⟩
  obtain ⟨v', w3, hrun, hown', hb'⟩ := app_str hown hb1.size hb1 s (by rw [List.length_append, HX.out]; omega) 22
  have HR := Lib.hid hrun
  have HO' := Lib.hid hown'
  have HB' := Lib.hid hb'
  clear hrun hown' hb' hown hb1 HP
  go_wp2_with (at_builtin; refine Lib.wpList_append_run _ rfl _ _ _ _ rfl _ _ rfl rfl _ _ HR.out ?_)
  go_ret
  refine ⟨_, rfl, ?_, HB'.out⟩
  have h := HO'.out
  rw [show xs ++ strL (nums s) = (xs ++ numI (s.size : Int)) ++ nums s by rw [numI_nat, strL, nums_length, List.append_assoc], List.length_append (bs := nums s), nums_length]
  exact h

theorem bytes_take {w : World} {p : Option Addr} {n : Nat} {xs : List Int} (h : Lib.BytesIn w p n xs) (m : Nat) (hm : m ≤ n) : Lib.BytesIn w p m (xs.take m) := fun hn => by
  obtain ⟨b, o, e, hc⟩ := h.at (by omega)
  refine ⟨b, o, e, fun i hi => ?_⟩
  rw [hc i (by omega), List.getD_eq_getElem?_getD, List.getD_eq_getElem?_getD, List.getElem?_take, if_pos hi]
theorem bytes_drop {w : World} {b o : Nat} {n : Nat} {xs : List Int} (h : Lib.BytesIn w (some ⟨b, o, none⟩) n xs) (m k : Nat) (hm : m + k = n) : Lib.BytesIn w (some ⟨b, o + m, none⟩) k (xs.drop m) := fun hn => by
  obtain ⟨b', o', e, hc⟩ := h.at (by omega)
  cases e
  refine ⟨b, o + m, rfl, fun i hi => ?_⟩
  rw [Nat.add_assoc, hc (m + i) (by omega), List.getD_eq_getElem?_getD, List.getD_eq_getElem?_getD, List.getElem?_drop]

set_option maxHeartbeats 2000000 in
theorem getstr_any (p : Option Addr) (n c : Nat) (xs : List Int) (most : Int) (w : World) (hx : xs.length = n) (hnc : n ≤ c) (hm : c ≤ 9223372036854775807) (hb : AllB xs) (hi : Lib.BytesIn w p n xs) :
    Calls Try.prog 15 #[.slice p n c, .int .i64 most] w fun e w' => e = .returned (.tuple #[.string (strOfNums (gsL xs most).1), .int .i64 (gsL xs most).2]) ∧ w = w' := by
  have HG := Lib.hid (get_any p n c xs w hx hnc hm hb hi)
  have HF := get_fit xs hb
  have HX := Lib.hid hx
  have HI := Lib.hid hi
  obtain ⟨N, H, e⟩ : ∃ N H : Nat, getL xs = (N, H) := ⟨_, _, rfl⟩
  have HE := Lib.hid e
  rw [e] at HG HF
  rw [hx] at HF
  simp only at HF
  clear hx hb hi e
  go_enter Try.func15, Try.ntmps15
  go_wp2_with fail
  refine HG.out.mono ?_
  rintro e w1 ⟨rfl, rfl⟩
  simp only
  by_cases h1 : H = 0
  · have HB := Lib.hid (show gsL xs most = ([], 0) from if_pos (by unfold gsB; rw [HE.out]; simp [h1]))
    subst h1
    go_wp2_with fail
    go_ret2
    rw [HB.out]
    exact ⟨rfl, rfl⟩
  · have c1 : ((H : Int) == 0) = false := by simp; omega
    by_cases h2 : most < (N : Int)
    · have HB := Lib.hid (show gsL xs most = ([], 0) from if_pos (by unfold gsB; rw [HE.out]; simp [h2]))
      go_wp2_with fail
      go_ret2
      rw [HB.out]
      exact ⟨rfl, rfl⟩
    · by_cases h3 : n < H + N
      · have HB := Lib.hid (show gsL xs most = ([], 0) from if_pos (by unfold gsB; rw [HE.out, HX.out]; simp [h3]))
        go_wp2_with fail
        go_ret2
        rw [HB.out]
        exact ⟨rfl, rfl⟩
      · have HB := Lib.hid (show gsL xs most = ((xs.drop H).take N, H + N) by
          unfold gsL
          rw [if_neg (by unfold gsB; rw [HE.out, HX.out]; simp [h1, h2, h3]), HE.out])
        obtain ⟨b, o, rfl, _⟩ := HI.out.at (by omega)
        by_cases h4 : c = H
        · obtain rfl : N = 0 := by omega
          have cv := fun (p : Option Addr) (c : Nat) => run_convert_bytes_zero (P := Try.prog) w 22 5 Try.underlying22 Try.underlying5 p c 9 Try.underlying9
          go_wp2_with fail
          go_ret2
          rw [HB.out]
          exact ⟨by simp; rfl, rfl⟩
        · have cv := conv_bytes (bytes_take (bytes_drop HI.out H (n - H) (by omega)) N (by omega)) (by rw [List.length_take, List.length_drop, HX.out]; omega)
          go_wp2_with fail
          go_ret2
          rw [HB.out]
          exact ⟨by simp, rfl⟩
end Go.Proofs.Ytanbggegbhcfhaa
