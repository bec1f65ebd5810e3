/-
  The walk of chicanelaw05.RingRooms: it returns true, whatever room and calls. Conditions: as each states.
-/
import Derived.Test.YtkjljnfhnkaocaaW13
namespace Go.Proofs.Ytkjljnfhnkaocaa.ringRooms
open Go.RowKit

set_option maxHeartbeats 2000000 in
theorem walk_no (room : Int) (p : Option Addr) (m d : Nat) (h : ¬ (0 ≤ room ∧ room ≤ 4096)) (w : World) :
    Calls Try.prog 9 #[.int .i64 room, .slice p m d] w fun e w' => e = .returned (.bool true) ∧ Below w.heap.size w w' := by
  go_enter Try.func9, Try.ntmps9
  go_wp2_with fail
  refine (new_no room h _).mono ?_
  rintro e w1 ⟨rfl, rfl⟩
  go_wp2_with fail
  refine (alive_any _).mono ?_
  rintro e w5 ⟨rfl, hb5⟩
  have HB5 := Lib.hid hb5
  clear hb5
  go_wp2_with fail
  go_ret
  exact ⟨rfl, HB5.out⟩
set_option maxHeartbeats 8000000 in
theorem walk_main (room : Int) (p : Option Addr) (m d : Nat) (os : List Call) (w : World) (h0 : 0 ≤ room) (h1 : room ≤ 4096) (hx : os.length = m) (hmd : m ≤ d) (hd : d ≤ 9223372036854775807) (hz : ∀ o ∈ os, o.2.2.size ≤ 140737488351232) (hj : OpsIn w p m os) :
    Calls Try.prog 9 #[.int .i64 room, .slice p m d] w fun e w' => e = .returned (.bool true) ∧ Below w.heap.size w w' := by
  have HX := Lib.hid hx
  have HZ := Lib.hid hz
  have HJ := Lib.hid hj
  clear hx hz hj
  go_enter Try.func9, Try.ntmps9
  go_wp2_with fail
  refine (new_any room h0 h1 _).mono ?_
  rintro e w1 ⟨rfl, hr, hb1, _⟩
  have HA := Lib.hid (show At w w.heap.size w.heap.size room [] w1 from ⟨none, hr, hb1, Nat.le_refl _⟩)
  clear hr hb1
  generalize w.heap.size = g at *
  go_wp2_with fail
  refine (few_any p m d os _ HX.out hmd hd HZ.out (ops_on HJ.out HA.out.below)).mono ?_
  rintro e w2 ⟨b, rfl, hf, hb2⟩
  have HA2 := Lib.hid (HA.out.on hb2)
  have HF := Lib.hid hf
  clear hf hb2 HA
  cases b with
  | false =>
    clear HF
    go_wp2_with fail
    refine (alive_any _).mono ?_
    rintro e w5 ⟨rfl, hb5⟩
    have HB5 := Lib.hid (HA2.out.on hb5).below
    clear hb5
    go_wp2_with fail
    go_ret
    exact ⟨rfl, HB5.out⟩
  | true =>
    obtain ⟨hm, ht⟩ := HF.out rfl
    have HT := Lib.hid ht
    clear HF ht
    go_wp2_with fail
    go_loopw [31] (fun i wr => ∃ (k : Nat) (S : ByteArray), k ≤ m ∧ i = .int .i64 k ∧ Hid (At w g g room (nums S) wr) ∧ Hid (S.size ≤ room.toNat)) (fun i _ => m - (intOf i).toNat)
    case atStart => exact ⟨0, ⟨#[]⟩, by omega, rfl, HA2, Lib.hid (Nat.zero_le _)⟩
    case round =>
      clear HA2
      obtain ⟨k, S, hk, rfl, HA, HS⟩ := hrel
      by_cases hlt : k < m
      · obtain ⟨b, o, rfl, hc⟩ := ops_on HJ.out HA.out.below (by omega)
        obtain ⟨g0, g1, g2⟩ := hc k hlt
        have HO := Lib.hid (show (os.getD k noCall).2.2.size ≤ 20000 by have := size_of_total os k (by rw [HX.out]; exact hlt); have := HT.out; omega)
        generalize os.getD k noCall = op at *
        obtain ⟨kind, N, A⟩ := op
        simp only at g0 g1 g2 HO
        rw [← Nat.add_assoc] at g1 g2
        have hbl : b < wr.heap.size := World.block_lt_of_cell? wr _ g0
        by_cases k1 : kind = 1
        · subst k1
          clear hc
          go_wp2_with fail
          go_roundw
          case rel => exact ⟨k + 1, S, by omega, by go_num, Lib.hid (HA.out.on ((Below.refl _ _).alloc (Nat.le_refl _) _)), HS⟩
          case measure => simp [intOf]; omega
        · obtain ⟨S', n, T, hst⟩ := step_all S room kind N A h0 h1 (by have := HS.out; omega) (by have := HO.out; omega)
          have HST := Lib.hid hst
          have HS' := Lib.hid (hst.fits k1 HS.out)
          clear hc hst
          go_wp2_with fail
          have HA3 := Lib.hid (HA.out.on (w' := wr.alloc (.cells #[.int .i64 kind, .int .i64 N, .string A] 33)) ((Below.refl _ _).alloc (Nat.le_refl _) _))
          have HO3 := Lib.hid (heap_alloc_new wr (.cells #[.int .i64 kind, .int .i64 N, .string A] 33))
          generalize wr.alloc (.cells #[.int .i64 kind, .int .i64 N, .string A] 33) = w3 at *
          generalize wr.heap.size = go at *
          clear HA g0 g1 g2 hbl
          obtain ⟨F, hF⟩ : ∃ F, room.toNat - S.size = F := ⟨_, rfl⟩
          refine (free_k HA3.out F (by rw [nums_length]; exact hF)).mono ?_
          rintro e w4 ⟨rfl, ha4, hk4⟩
          have HA4 := Lib.hid ha4
          have HO4 := Lib.hid (hk4 go _ _ _ (by decide) (by decide) HO3.out)
          have HFF := Lib.hid hF
          clear ha4 hk4 HA3 HO3 hF
          have o0 : w4.cell? ⟨go, 0, none⟩ = some (.int .i64 kind) := cell_of_row w4 go 0 _ _ _ HO4.out
          have o1 : w4.cell? ⟨go, 1, none⟩ = some (.int .i64 N) := cell_of_row w4 go 1 _ _ _ HO4.out
          have o2 : w4.cell? ⟨go, 2, none⟩ = some (.string A) := cell_of_row w4 go 2 _ _ _ HO4.out
          go_wp2_with fail
          clear o0 o1 o2
          refine (does_k HA4.out HST.out).mono ?_
          rintro e w5 ⟨rfl, ha5, hk5⟩
          have HA5 := Lib.hid ha5
          have HO5 := Lib.hid (hk5 go _ _ _ (by decide) (by decide) HO4.out)
          clear ha5 hk5 HA4 HO4
          go_wp2_with fail
          obtain ⟨L, hL⟩ : ∃ L, S'.size = L := ⟨_, rfl⟩
          obtain ⟨F', hF'⟩ : ∃ F', room.toNat - S'.size = F' := ⟨_, rfl⟩
          refine (len_k HA5.out L (by rw [nums_length]; exact hL)).mono ?_
          rintro e w6 ⟨rfl, ha6, hk6⟩
          have HA6 := Lib.hid ha6
          have HO6 := Lib.hid (hk6 go _ _ _ (by decide) (by decide) HO5.out)
          clear ha6 hk6 HA5 HO5
          go_wp2_with fail
          refine (free_k HA6.out F' (by rw [nums_length]; exact hF')).mono ?_
          rintro e w7 ⟨rfl, ha7, hk7⟩
          have HA7 := Lib.hid ha7
          have HO7 := Lib.hid (hk7 go _ _ _ (by decide) (by decide) HO6.out)
          clear ha7 hk7 HA6 HO6
          have eS : IntKind.i64.wrap ((L : Int) + (F' : Int)) = room := by
            have := HS'.out
            rw [IntWalk.i64_in _ (by omega)]
            omega
          have o0 : w7.cell? ⟨go, 0, none⟩ = some (.int .i64 kind) := cell_of_row w7 go 0 _ _ _ HO7.out
          have o2 : w7.cell? ⟨go, 2, none⟩ = some (.string A) := cell_of_row w7 go 2 _ _ _ HO7.out
          clear hL hF'
          by_cases k0 : kind = 0
          · have eN : min (F : Int) (A.size : Int) = (n : Int) := by
              have h := HST.out.wrote k0
              have := HFF.out
              omega
            subst k0
            go_wp2_with fail
            go_roundw
            case rel => exact ⟨k + 1, S', by omega, by go_num, HA7, HS'⟩
            case measure => simp [intOf]; omega
          · go_wp2_with fail
            go_roundw
            case rel => exact ⟨k + 1, S', by omega, by go_num, HA7, HS'⟩
            case measure => simp [intOf]; omega
      · go_wp2_with fail
        refine (alive_any _).mono ?_
        rintro e w5 ⟨rfl, hb5⟩
        have HB5 := Lib.hid (HA.out.on hb5).below
        clear hb5
        go_wp2_with fail
        go_ret
        exact ⟨rfl, HB5.out⟩
theorem walk (room : Int) (p : Option Addr) (m d : Nat) (os : List Call) (w : World) (hx : os.length = m) (hmd : m ≤ d) (hd : d ≤ 9223372036854775807) (hz : ∀ o ∈ os, (-9223372036854775808 ≤ o.1 ∧ o.1 ≤ 9223372036854775807) ∧ (-9223372036854775808 ≤ o.2.1 ∧ o.2.1 ≤ 9223372036854775807) ∧ o.2.2.size ≤ 140737488351232) (hj : OpsIn w p m os) :
    Calls Try.prog 9 #[.int .i64 room, .slice p m d] w fun e w' => e = .returned (.bool true) ∧ Below w.heap.size w w' := by
  by_cases h : 0 ≤ room ∧ room ≤ 4096
  · exact walk_main room p m d os w h.1 h.2 hx hmd hd (fun o ho => (hz o ho).2.2) hj
  · exact walk_no room p m d h w
end Go.Proofs.Ytkjljnfhnkaocaa.ringRooms
