/-
  The walk of chicanelaw05.RingForced: it returns true, whatever room and texts. Conditions: as each states.
-/
import Derived.Test.YtkjljnfhnkaocaaW10
import Derived.Test.YtkjljnfhnkaocaaW11
namespace Go.Proofs.Ytkjljnfhnkaocaa.ringForced
open Go.RowKit

set_option maxHeartbeats 2000000 in
theorem walk_no (room : Int) (s t : ByteArray) (h : ¬ (0 ≤ room ∧ room ≤ 4096)) (w : World) :
    Calls Try.prog 8 #[.int .i64 room, .string s, .string t] w fun e w' => e = .returned (.bool true) ∧ Below w.heap.size w w' := by
  go_enter Try.func8, Try.ntmps8
  go_wp2_with fail
  refine (new_no room h _).mono ?_
  rintro e w1 ⟨rfl, rfl⟩
  go_wp2_with fail
  refine (alive_any _).mono ?_
  rintro e w5 ⟨rfl, hb5⟩
  have HB5 := Lib.hid hb5
  clear hb5
  go_wp2_with fail
  go_ret
  exact ⟨rfl, HB5.out⟩
set_option maxHeartbeats 2000000 in
theorem walk_long (room : Int) (s t : ByteArray) (h0 : 0 ≤ room) (h1 : room ≤ 4096) (hs : s.size ≤ 140737488351232) (ht : t.size ≤ 140737488351232) (hl : 10000 < s.size + t.size) (w : World) :
    Calls Try.prog 8 #[.int .i64 room, .string s, .string t] w fun e w' => e = .returned (.bool true) ∧ Below w.heap.size w w' := by
  have hw : IntKind.i64.wrap ((s.size : Int) + (t.size : Int)) = (s.size : Int) + (t.size : Int) := IntWalk.i64_in _ (by omega)
  go_enter Try.func8, Try.ntmps8
  go_wp2_with fail
  refine (new_any room h0 h1 _).mono ?_
  rintro e w1 ⟨rfl, _, hb1, _⟩
  have HB1 := Lib.hid hb1
  clear hb1
  go_wp2_with fail
  refine (alive_any _).mono ?_
  rintro e w5 ⟨rfl, hb5⟩
  have HB5 := Lib.hid (seqB HB1.out hb5)
  clear hb5
  go_wp2_with fail
  go_ret
  exact ⟨rfl, HB5.out⟩
set_option maxRecDepth 100000 in
set_option maxHeartbeats 8000000 in
theorem walk_main (room : Int) (s t : ByteArray) (h0 : 0 ≤ room) (h1 : room ≤ 4096) (hl : s.size + t.size ≤ 10000) (K : Nat) (hK : min t.size (room.toNat - s.size) = K) (T : ByteArray) (hT : T = t.extract 0 K) (w : World) :
    Calls Try.prog 8 #[.int .i64 room, .string s, .string t] w fun e w' => e = .returned (.bool true) ∧ Below w.heap.size w w' := by
  have HK := Lib.hid hK
  have HT := Lib.hid hT
  have HL := Lib.hid hl
  clear hK hT
  go_enter Try.func8, Try.ntmps8
  go_wp2_with fail
  refine (new_any room h0 h1 _).mono ?_
  rintro e w1 ⟨rfl, hr, hb1, _⟩
  have HA := Lib.hid (show At w w.heap.size w.heap.size room [] w1 from ⟨none, hr, hb1, Nat.le_refl _⟩)
  clear hr hb1
  generalize w.heap.size = g at *
  obtain ⟨c2, w2, hcv, hi, hb2, hc0, hc1, _⟩ := conv_text s (by omega) w1
  have HI := Lib.hid hi
  have HA2 := Lib.hid (HA.out.on hb2)
  have HC := Lib.hid (And.intro hc0 hc1)
  clear hi hb2 hc0 hc1 HA
  go_wp2_with fail
  clear hcv
  refine (force_at HA2.out (nums_length s) (nums_all s) (fun h => by cases h) HI.out (by simp) (by omega)).mono ?_
  rintro e w3 ⟨rfl, ha3⟩
  rw [List.nil_append] at ha3
  clear HI HC HA2
  obtain ⟨c4, w4, hcv, hi, hb4, hc0, hc1, _⟩ := conv_text t (by omega) w3
  have HI := Lib.hid hi
  have HA4 := Lib.hid (ha3.on hb4)
  have HC := Lib.hid (And.intro hc0 hc1)
  clear hi hb4 hc0 hc1 ha3
  go_wp2_with fail
  clear hcv
  refine (write_at HA4.out (nums_length t) (nums_all t) (fun h => by cases h) HI.out HC.out.1 HC.out.2 (by rw [nums_length]; omega) K (by rw [nums_length]; exact HK.out)).mono ?_
  rintro e w5 ⟨rfl, ha5⟩
  have HA5 := Lib.hid ha5
  clear ha5 HI HC HA4
  go_wp2_with fail
  have eM : min (max (room - (s.size : Int)) 0) (t.size : Int) = (K : Int) := by have := HK.out; omega
  have hK1 : K ≤ t.size := by have := HK.out; omega
  have hwr : IntKind.i64.wrap ((s.size : Int) + (K : Int)) = (s.size : Int) + (K : Int) := IntWalk.i64_in _ (by omega)
  have hwr1 : IntKind.i64.wrap ((K : Int) + 1) = (K : Int) + 1 := IntWalk.i64_in _ (by omega)
  have hTe : t.extract 0 K = T := HT.out.symm
  have HN := Lib.hid (show (nums s ++ (nums t).take K).length = s.size + K by rw [List.length_append, nums_length, List.length_take, nums_length]; omega)
  have hb5' := HA5.out.on (Below.refl _ _).drew
  have HA5' := Lib.hid hb5'
  clear hb5'
  go_region_held (fun w' => Below w.heap.size w w')
    (first
      | exact HA5'.out.below
      | assumption)
    (first
      | (go_at_call 11; refine (alive_any _).mono ?_; rintro e w6 ⟨rfl, hb6⟩; (have HA6 := Lib.hid (HA5'.out.on hb6)); (have hb6' := HA6.out.below); clear hb6)
      | (go_at_call 16; refine (len_at HA6.out (s.size + K) HN.out).mono ?_; rw [Int.natCast_add]; rintro e w7 ⟨rfl, ha7⟩; (have HA7 := Lib.hid ha7); (have hb7' := ha7.below); clear ha7)
      | (go_at_call 25; refine (drop_at HA7.out (s.size : Int) s.size (cut_nat _ _ (by rw [HN.out]; omega))).mono ?_; rintro e w8 ⟨rfl, ha8⟩; (have HA8 := Lib.hid ha8); (have hb8' := ha8.below); clear ha8)
      | (go_at_call 20; refine (peek_at HA8.out (by rw [List.length_drop, HN.out]; omega) _ T (by
          have e1 : (nums s ++ (nums t).take K).drop s.size = (nums t).take K := by rw [← nums_length s]; exact List.drop_left
          rw [e1, cut_over _ _ (by rw [List.length_take]; omega), List.take_length, ← str_taken]
          exact HT.out)).mono ?_; rintro e w9 ⟨q9, n9, c9, rfl, cv9, ha9⟩; (have HA9 := Lib.hid ha9); (have hb9' := ha9.below); clear ha9))
  go_wp2_with fail
  go_ret
  exact ⟨rfl, by assumption⟩
theorem walk (room : Int) (s t : ByteArray) (hs : s.size ≤ 140737488351232) (ht : t.size ≤ 140737488351232) (w : World) :
    Calls Try.prog 8 #[.int .i64 room, .string s, .string t] w fun e w' => e = .returned (.bool true) ∧ Below w.heap.size w w' := by
  by_cases h : 0 ≤ room ∧ room ≤ 4096
  · by_cases hl : s.size + t.size ≤ 10000
    · exact walk_main room s t h.1 h.2 hl _ rfl _ rfl w
    · exact walk_long room s t h.1 h.2 hs ht (by omega) w
  · exact walk_no room s t h w
end Go.Proofs.Ytkjljnfhnkaocaa.ringForced
