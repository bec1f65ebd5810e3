/-
  The walk of chicanelaw05.RingKeeps: it returns true, whatever room and calls. Conditions: as each states.
-/
import Derived.Test.YtkjljnfhnkaocaaW13
namespace Go.Proofs.Ytkjljnfhnkaocaa.ringKeeps
open Go.RowKit

set_option maxHeartbeats 2000000 in
theorem walk_no (room : Int) (p : Option Addr) (m d : Nat) (h : ¬ (0 ≤ room ∧ room ≤ 4096)) (w : World) :
    Calls Try.prog 4 #[.int .i64 room, .slice p m d] w fun e w' => e = .returned (.bool true) ∧ Below w.heap.size w w' := by
  go_enter Try.func4, Try.ntmps4
  go_wp2_with fail
  refine (new_no room h _).mono ?_
  rintro e w1 ⟨rfl, rfl⟩
  go_wp2_with fail
  refine (alive_any _).mono ?_
  rintro e w5 ⟨rfl, hb5⟩
  have HB5 := Lib.hid hb5
  clear hb5
  go_wp2_with fail
  go_ret
  exact ⟨rfl, HB5.out⟩
theorem keeps_write {IN OUT S : ByteArray} (h : IN = OUT ++ S) (T : ByteArray) : IN ++ T = OUT ++ (S ++ T) := by
  rw [h]
  apply nums_inj
  simp only [append_nums, List.append_assoc]
theorem keeps_read {IN OUT S : ByteArray} (k : Nat) (h : IN = OUT ++ S) : IN = (OUT ++ S.extract 0 k) ++ S.extract k S.size := by
  rw [h]
  apply nums_inj
  simp only [append_nums, taken_nums, rest_nums, List.append_assoc, List.take_append_drop]

set_option maxHeartbeats 8000000 in
theorem walk_main (room : Int) (p : Option Addr) (m d : Nat) (os : List Call) (w : World) (h0 : 0 ≤ room) (h1 : room ≤ 4096) (hx : os.length = m) (hmd : m ≤ d) (hd : d ≤ 9223372036854775807) (hz : ∀ o ∈ os, o.2.2.size ≤ 140737488351232) (hj : OpsIn w p m os) :
    Calls Try.prog 4 #[.int .i64 room, .slice p m d] w fun e w' => e = .returned (.bool true) ∧ Below w.heap.size w w' := by
  have HX := Lib.hid hx
  have HZ := Lib.hid hz
  have HJ := Lib.hid hj
  clear hx hz hj
  go_enter Try.func4, Try.ntmps4
  go_wp2_with fail
  refine (new_any room h0 h1 _).mono ?_
  rintro e w1 ⟨rfl, hr, hb1, _⟩
  have HA := Lib.hid (show At w w.heap.size w.heap.size room [] w1 from ⟨none, hr, hb1, Nat.le_refl _⟩)
  clear hr hb1
  generalize w.heap.size = g at *
  go_wp2_with fail
  refine (few_any p m d os _ HX.out hmd hd HZ.out (ops_on HJ.out HA.out.below)).mono ?_
  rintro e w2 ⟨b, rfl, hf, hb2⟩
  have HA2 := Lib.hid (HA.out.on hb2)
  have HF := Lib.hid hf
  clear hf hb2 HA
  cases b with
  | false =>
    clear HF
    go_wp2_with fail
    refine (alive_any _).mono ?_
    rintro e w5 ⟨rfl, hb5⟩
    have HB5 := Lib.hid (HA2.out.on hb5).below
    clear hb5
    go_wp2_with fail
    go_ret
    exact ⟨rfl, HB5.out⟩
  | true =>
    obtain ⟨hm, ht⟩ := HF.out rfl
    have HT := Lib.hid ht
    clear HF ht
    go_wp2_with fail
    go_loopw [7, 8, 31] (fun a b i wr => ∃ (k : Nat) (IN OUT S : ByteArray), k ≤ m ∧ i = .int .i64 k ∧ a = .string IN ∧ b = .string OUT ∧ Hid (At w g g room (nums S) wr) ∧ Hid (IN = OUT ++ S) ∧ Hid (IN.size ≤ total (os.take k))) (fun _ _ i _ => m - (intOf i).toNat)
    case atStart => exact ⟨0, ⟨#[]⟩, ⟨#[]⟩, ⟨#[]⟩, by omega, rfl, rfl, rfl, HA2, Lib.hid rfl, Lib.hid (Nat.zero_le _)⟩
    case round =>
      clear HA2
      obtain ⟨k, IN, OUT, S, hk, rfl, rfl, rfl, HA, HE, HS⟩ := hrel
      have hIN : IN.size ≤ 20000 := by have := HS.out; have := total_take_le os k; have := HT.out; omega
      have hsum : IN.size = OUT.size + S.size := by rw [HE.out, append_size]
      have hOUT : OUT.size ≤ 20000 := by omega
      have HSS := Lib.hid (show S.size ≤ 20000 by omega)
      clear hsum
      by_cases hlt : k < m
      · obtain ⟨b, o, rfl, hc⟩ := ops_on HJ.out HA.out.below (by omega)
        obtain ⟨g0, g1, g2⟩ := hc k hlt
        have HTK := Lib.hid (total_step os k m HX.out hlt _ rfl)
        have hsz := size_of_total os k (by rw [HX.out]; exact hlt)
        generalize os.getD k noCall = op at *
        obtain ⟨kind, N, A⟩ := op
        simp only at g0 g1 g2 HTK hsz
        rw [← Nat.add_assoc] at g1 g2
        have hAs : A.size ≤ 20000 := by have := HT.out; omega
        have hbl : b < wr.heap.size := World.block_lt_of_cell? wr _ g0
        have hbw : Below wr.heap.size wr (wr.alloc (.cells #[.int .i64 kind, .int .i64 N, .string A] 33)) := (Below.refl _ _).alloc (Nat.le_refl _) _
        have hblk := heap_alloc_new wr (.cells #[.int .i64 kind, .int .i64 N, .string A] 33)
        clear hc hsz
        by_cases k0 : kind = 0
        · subst k0
          obtain ⟨c, w5, hcv, hi, hb5, hc0, hc1, _⟩ := conv_text A (by omega) (wr.alloc (.cells #[.int .i64 0, .int .i64 N, .string A] 33))
          have HA5 := Lib.hid (HA.out.on (seqB hbw hb5))
          have HO5 := Lib.hid ((hb5.block _ (blk_lt hblk)).trans hblk)
          have hsz : (wr.alloc (.cells #[.int .i64 0, .int .i64 N, .string A] 33)).heap.size = wr.heap.size + 1 := by simp
          rw [hsz] at hcv hi
          have HI := Lib.hid hi
          have HC := Lib.hid (And.intro hc0 hc1)
          obtain ⟨K, hK⟩ : ∃ K, min A.size (room.toNat - S.size) = K := ⟨_, rfl⟩
          obtain ⟨T, hT⟩ : ∃ T, A.extract 0 K = T := ⟨_, rfl⟩
          have hKA : K ≤ A.size := by omega
          have hTs : T.size = K := by rw [← hT, taken_size _ _ hKA]
          have HKK := Lib.hid hK
          have HTE := Lib.hid hT
          have HTS := Lib.hid hTs
          have hTl : T.size ≤ 20000 := by omega
          clear hsz hi hb5 hc0 hc1 hblk hbw hK hTs HA
          go_wp2_with fail
          clear hcv g0 g1 g2
          refine (write_k HA5.out (nums_length A) (nums_all A) (fun h => by cases h) HI.out HC.out.1 HC.out.2 (by rw [nums_length]; have := HSS.out; omega) K (by rw [nums_length]; exact HKK.out)).mono ?_
          rintro e w6 ⟨rfl, ha6, hk6⟩
          have hn : nums S ++ (nums A).take K = nums (S ++ T) := by rw [append_nums, ← HTE.out, taken_nums]
          rw [hn] at ha6
          have HA6 := Lib.hid ha6
          have HO6 := Lib.hid (hk6 _ _ _ _ (by decide) (by decide) HO5.out)
          have o2 : w6.cell? ⟨wr.heap.size, 2, none⟩ = some (.string A) := cell_of_row w6 _ 2 _ _ _ HO6.out
          clear ha6 hk6 hn HI HC HA5 HO5
          go_wp2_with fail
          go_roundw
          case rel => exact ⟨k + 1, IN ++ T, OUT, S ++ T, by omega, by go_num, rfl, rfl, HA6, Lib.hid (keeps_write HE.out T), Lib.hid (by rw [append_size, HTS.out]; have := HS.out; have := HTK.out; omega)⟩
          case measure => simp [intOf]; omega
        by_cases k1 : kind = 1
        · subst k1
          obtain ⟨c, w5, hcv, hi, hb5, hc0, hc1, _⟩ := conv_text A (by omega) (wr.alloc (.cells #[.int .i64 1, .int .i64 N, .string A] 33))
          have HA5 := Lib.hid (HA.out.on (seqB hbw hb5))
          have HO5 := Lib.hid ((hb5.block _ (blk_lt hblk)).trans hblk)
          have hsz : (wr.alloc (.cells #[.int .i64 1, .int .i64 N, .string A] 33)).heap.size = wr.heap.size + 1 := by simp
          rw [hsz] at hcv hi
          have HI := Lib.hid hi
          clear hsz hi hb5 hc0 hc1 hblk hbw HA
          go_wp2_with fail
          clear hcv g0 g1 g2
          refine (force_k HA5.out (nums_length A) (nums_all A) (fun h => by cases h) HI.out (by rw [nums_length]; have := HSS.out; omega) (by omega)).mono ?_
          rintro e w6 ⟨rfl, ha6, hk6⟩
          rw [← append_nums] at ha6
          have HA6 := Lib.hid ha6
          have HO6 := Lib.hid (hk6 _ _ _ _ (by decide) (by decide) HO5.out)
          have o2 : w6.cell? ⟨wr.heap.size, 2, none⟩ = some (.string A) := cell_of_row w6 _ 2 _ _ _ HO6.out
          clear ha6 hk6 HI HA5 HO5
          go_wp2_with fail
          go_roundw
          case rel => exact ⟨k + 1, IN ++ A, OUT, S ++ A, by omega, by go_num, rfl, rfl, HA6, Lib.hid (keeps_write HE.out A), Lib.hid (by rw [append_size]; have := HS.out; have := HTK.out; omega)⟩
          case measure => simp [intOf]; omega
        by_cases k2 : kind = 2
        · subst k2
          have HA5 := Lib.hid (HA.out.on hbw)
          obtain ⟨K, hK⟩ : ∃ K, cut N S.size = K := ⟨_, rfl⟩
          have hKS : K ≤ S.size := by rw [← hK]; exact cut_le _ _
          obtain ⟨T, hT⟩ : ∃ T, S.extract 0 K = T := ⟨_, rfl⟩
          have hTs : T.size ≤ 20000 := by rw [← hT, taken_size _ _ hKS]; have := HSS.out; omega
          have HKK := Lib.hid hK
          have HTE := Lib.hid hT
          clear hblk hbw hK HA hT hKS
          go_wp2_with fail
          clear g0 g1 g2
          refine (read_k HA5.out (by rw [nums_length]; have := HSS.out; omega) N K (by rw [nums_length]; exact HKK.out) T (by rw [← HTE.out, str_taken])).mono ?_
          rintro e w6 ⟨q, n, c, rfl, cv, ha6, hk6⟩
          rw [← rest_nums] at ha6
          have HA6 := Lib.hid ha6
          clear ha6 hk6 HA5
          go_wp2_with fail
          go_roundw
          case rel => exact ⟨k + 1, IN, OUT ++ T, S.extract K S.size, by omega, by go_num, rfl, rfl, HA6, Lib.hid (by rw [← HTE.out]; exact keeps_read K HE.out), Lib.hid (by have := HS.out; have := HTK.out; omega)⟩
          case measure => simp [intOf]; omega
        · clear hblk
          go_wp2_with fail
          go_roundw
          case rel => exact ⟨k + 1, IN, OUT, S, by omega, by go_num, rfl, rfl, Lib.hid (HA.out.on hbw), HE, Lib.hid (by have := HS.out; have := HTK.out; omega)⟩
          case measure => simp [intOf]; omega
      · have hw1 : IntKind.i64.wrap ((IN.size : Int) + 1) = (IN.size : Int) + 1 := IntWalk.i64_in _ (by omega)
        have hS2 : S.size ≤ 20000 := HSS.out
        have hle : S.size ≤ IN.size := by rw [HE.out, append_size]; omega
        have HLE := Lib.hid hle
        have eIO : OUT ++ S = IN := HE.out.symm
        clear hle
        go_wp2_with fail
        refine (read_k HA.out (by rw [nums_length]; omega) ((IN.size : Int) + 1) S.size (by rw [nums_length]; exact cut_over _ _ (by have := HLE.out; omega)) S (by rw [← nums_length, List.take_length, str_nums])).mono ?_
        rintro e w6 ⟨q, n, c, rfl, cv, ha6, hk6⟩
        rw [List.drop_eq_nil_of_le (by rw [nums_length]; exact Nat.le_refl _)] at ha6
        have HA6 := Lib.hid ha6
        clear ha6 hk6 HA
        go_wp2_with fail
        refine (alive_any _).mono ?_
        rintro e w7 ⟨rfl, hb7⟩
        have HA7 := Lib.hid (HA6.out.on hb7)
        clear hb7 HA6
        go_wp2_with fail
        refine (len_k HA7.out 0 rfl).mono ?_
        rintro e w8 ⟨rfl, ha8, hk8⟩
        have HB8 := Lib.hid ha8.below
        clear ha8 hk8 HA7
        go_wp2_with fail
        go_ret
        exact ⟨rfl, HB8.out⟩
theorem walk (room : Int) (p : Option Addr) (m d : Nat) (os : List Call) (w : World) (hx : os.length = m) (hmd : m ≤ d) (hd : d ≤ 9223372036854775807) (hz : ∀ o ∈ os, (-9223372036854775808 ≤ o.1 ∧ o.1 ≤ 9223372036854775807) ∧ (-9223372036854775808 ≤ o.2.1 ∧ o.2.1 ≤ 9223372036854775807) ∧ o.2.2.size ≤ 140737488351232) (hj : OpsIn w p m os) :
    Calls Try.prog 4 #[.int .i64 room, .slice p m d] w fun e w' => e = .returned (.bool true) ∧ Below w.heap.size w w' := by
  by_cases h : 0 ≤ room ∧ room ≤ 4096
  · exact walk_main room p m d os w h.1 h.2 hx hmd hd (fun o ho => (hz o ho).2.2) hj
  · exact walk_no room p m d h w
end Go.Proofs.Ytkjljnfhnkaocaa.ringKeeps
