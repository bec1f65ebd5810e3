/-
  Law WordsBack: a line of words has just these, whatever blanks stand around it. Conditions: the form's reach; a word of the library holds some number.
-/
import Derived.Test.YtngnkkigjlenoaaGreatDoorRest
import Derived.Laws.RangeAny
namespace Go.Proofs.YtngnkkigjlenoaaGreatDoor
open Go.RowKit

theorem gap_of {c : Int} (h : c = 32 ∨ c = 9) : knd c = 2 := by unfold knd; rw [if_pos h]
theorem gaps_take {xs : List Int} {k : Nat} (h : ∀ x ∈ xs.take k, knd x = 2) (hk : k < xs.length) (hc : knd (xs.getD k 0) = 2) : ∀ x ∈ xs.take (k + 1), knd x = 2 := by
  rw [List.take_succ_eq_append_getElem hk]
  rw [List.getD_eq_getElem?_getD, List.getElem?_eq_getElem hk] at hc
  intro x hx
  rcases List.mem_append.1 hx with hx | hx
  · exact h x hx
  · rw [List.mem_singleton.1 hx]; exact hc
set_option maxRecDepth 100000 in
set_option maxHeartbeats 4000000 in
theorem wordsBack.walk (q : Option Addr) (n d : Nat) (ps : List ByteArray) (a b : ByteArray) (w : World) (hi : TxtIn w q n ps) (hn : n ≤ 9223372036854775807) (hz : ∀ t ∈ ps, t.size ≤ maxLen) (ha : a.size ≤ 140737488351232) (hb : b.size ≤ 140737488351232) (hg : Big w) :
    Calls Tryz.prog 4 #[.slice q n d, .string a, .string b] w fun e w' => e = .returned (.bool true) ∧ Below w.heap.size w w' := by
  have HAl := Lib.hid (fun W (hb : Below w.heap.size w W) => alive_any W (big_on hg hb))
  have HI := Lib.hid hi
  have HZ := Lib.hid hz
  obtain ⟨T, hT⟩ : ∃ T, a ++ b = T := ⟨_, rfl⟩
  have hTs : T.size = a.size + b.size := by rw [← hT, cat_size]
  have HTn := Lib.hid (show nums T = nums a ++ nums b from by rw [← hT, nums_append])
  have r1 : ∀ W, (Op.stringOp .add a b).run Tryz.prog W = .ok (.string T) W := fun W => by
    rw [← hT]
    exact run_string_add_sum W a b (by omega)
  have HTs := Lib.hid hTs
  clear hg hi hz hT hTs
  go_enter Tryz.func4, Tryz.ntmps4
  go_wp2_with fail
  go_loopw [7, 9, 18] (fun nn _ i wr => ∃ (k : Nat) (z : Int), k ≤ n ∧ i = .int .i64 k ∧ nn = .int .i64 z ∧ w = wr) (fun _ _ i _ => n - (intOf i).toNat)
  case atStart => exact ⟨0, 0, Nat.zero_le _, rfl, rfl, rfl⟩
  case round =>
    obtain ⟨k, z, hk, rfl, rfl, rfl⟩ := hrel
    by_cases hlt : k < n
    · have d3 : decide ((k : Int) < (n : Int)) = true := decide_eq_true (by omega)
      obtain ⟨bb, o, rfl, hc⟩ := HI.out.2 (by omega)
      have c0 := hc k hlt
      have hwk : IntKind.i64.wrap ((k : Int) + 1) = (k : Int) + 1 := IntWalk.i64_in _ (by omega)
      generalize ps.getD k ⟨#[]⟩ = t at *
      clear hc
      go_wp2_with fail
      go_roundw
      case rel => exact ⟨k + 1, _, by omega, by go_num, rfl, by first | rfl | trivial⟩
      case measure => simp [intOf]; omega
    · obtain rfl : k = n := by omega
      have d3 : decide ((k : Int) < (k : Int)) = false := by simp
      clear hlt
      go_wp2_with fail
      go_loopw [11] (fun _ wr => ∃ pos : Nat, pos ≤ T.size ∧ wr = w.iter T pos ∧ Hid (∀ x ∈ (nums T).take pos, knd x = 2)) (fun _ wr => T.size - wr.iterPos w.heap.size)
      case atStart => exact ⟨0, Nat.zero_le _, rfl, Lib.hid (fun x hx => by simp at hx)⟩
      case round =>
        obtain ⟨pos, hp, rfl, HG⟩ := hrel
        have HBi := Lib.hid (show ∀ p, Below w.heap.size w (w.iter T p) from fun p => (Below.refl _ _).alloc (Nat.le_refl _) _)
        by_cases hlt : pos < T.size
        · have hx := nums_at T pos hlt
          have HNx := Lib.hid (fun h => gaps_take HG.out (by rw [nums_length]; exact hlt) h)
          by_cases hasc : (T[pos]'hlt).toNat < 128
          · have hnx : ∀ ty, (Instr.next (.pointer (some ⟨w.heap.size, 0, none⟩)) true ty).run Tryz.prog (w.iter T pos) = _ := fun ty => run_next_ascii (P := Tryz.prog) w T pos ty hlt hasc
            obtain ⟨c, hcc⟩ : ∃ c, (T[pos]'hlt).toNat = c := ⟨_, rfl⟩
            rw [hcc] at hnx hx
            rw [← hx] at HNx
            by_cases hgp : c = 32 ∨ c = 9
            · have HG2 := Lib.hid (HNx.out (gap_of (by omega)))
              clear HNx HG hx hasc hcc
              rcases hgp with rfl | rfl
              · go_wp2_with fail
                go_roundw
                case rel => exact ⟨pos + 1, by omega, rfl, HG2⟩
                case measure => simp; omega
              · go_wp2_with fail
                go_roundw
                case rel => exact ⟨pos + 1, by omega, rfl, HG2⟩
                case measure => simp; omega
            · have q1 : ((c : Int) != 32) = true := by simp; omega
              have q2 : ((c : Int) != 9) = true := by simp; omega
              clear HNx HG hx hasc hcc hgp
              have HA1 := Lib.hid (HAl.out _ (HBi.out (pos + 1)))
              go_wp2_with fail
              refine HA1.out.mono ?_
              rintro e wz ⟨rfl, hbz⟩
              have HBz := Lib.hid (seqB (HBi.out (pos + 1)) hbz)
              clear hbz
              go_wp2_with fail
              go_ret
              exact ⟨rfl, HBz.out⟩
          · have hnx : ∀ ty, (Instr.next (.pointer (some ⟨w.heap.size, 0, none⟩)) true ty).run Tryz.prog (w.iter T pos) = _ := fun ty => run_next_any (P := Tryz.prog) w T pos ty hlt
            obtain ⟨g1, g2⟩ := decode_high T pos hlt (by omega)
            generalize (Utf8.decode T pos).2 = wd at *
            generalize (Utf8.decode T pos).1 = rn at *
            have q1 : ((rn : Int) != 32) = true := by simp; omega
            have q2 : ((rn : Int) != 9) = true := by simp; omega
            clear HNx HG hx hasc
            have HA1 := Lib.hid (HAl.out _ (HBi.out (pos + wd)))
            go_wp2_with fail
            refine HA1.out.mono ?_
            rintro e wz ⟨rfl, hbz⟩
            have HBz := Lib.hid (seqB (HBi.out (pos + wd)) hbz)
            clear hbz
            go_wp2_with fail
            go_ret
            exact ⟨rfl, HBz.out⟩
        · obtain rfl : pos = T.size := by omega
          have hnx : ∀ ty, (Instr.next (.pointer (some ⟨w.heap.size, 0, none⟩)) true ty).run Tryz.prog (w.iter T T.size) = _ := fun ty => run_next_end (P := Tryz.prog) w T T.size ty hlt
          have hall := HG.out
          rw [← nums_length T, List.take_length, HTn.out] at hall
          have HGa := Lib.hid (show ∀ x ∈ nums a, knd x = 2 from fun x hx => hall x (List.mem_append_left _ hx))
          have HGb := Lib.hid (show ∀ x ∈ nums b, knd x = 2 from fun x hx => hall x (List.mem_append_right _ hx))
          have HB1 := Lib.hid (HBi.out T.size)
          clear hall HG HBi hlt hp
          by_cases hz2 : z > 2000
          · have e1 : (2000 : Int) < z := hz2
            clear hz2
            have HA1 := Lib.hid (HAl.out _ HB1.out)
            go_wp2_with fail
            refine HA1.out.mono ?_
            rintro e wz ⟨rfl, hbz⟩
            have HBz := Lib.hid (seqB HB1.out hbz)
            clear hbz
            go_wp2_with fail
            go_ret
            exact ⟨rfl, HBz.out⟩
          · have e1 : ¬ (2000 : Int) < z := hz2
            have e2 : decide (z > 2000) = false := decide_eq_false hz2
            clear hz2
            have HJ := Lib.hid (join_any q k d ps (w.iter T T.size) hn (HI.out.on HB1.out) HZ.out)
            go_wp2_with fail
            refine HJ.out.mono ?_
            rintro e w2 ⟨rfl, hb2⟩
            have HB2 := Lib.hid (seqB HB1.out hb2)
            clear hb2 HJ hnx
            have hjs := joinB_size ps
            have HJn := Lib.hid (joinB_nums ps)
            obtain ⟨J, hJ⟩ : ∃ J, joinB ps = J := ⟨_, rfl⟩
            rw [hJ] at hjs HJn ⊢
            clear hJ
            by_cases hj0 : J.size = 0
            · obtain rfl : J = ⟨#[]⟩ := by
                apply ByteArray.ext
                exact Array.eq_empty_of_size_eq_zero hj0
              clear hj0 hjs
              have HA1 := Lib.hid (HAl.out _ HB2.out)
              go_wp2_with fail
              refine HA1.out.mono ?_
              rintro e wz ⟨rfl, hbz⟩
              have HBz := Lib.hid (seqB HB2.out hbz)
              clear hbz
              go_wp2_with fail
              go_ret
              exact ⟨rfl, HBz.out⟩
            · have e3 : (J.toList == ([] : List UInt8)) = false := by simpa using size_ne hj0
              have e4 : J.toList.isEmpty = false := by simpa using size_ne hj0
              have e5 := size_ne hj0
              have hwa : IntKind.i64.wrap ((J.size : Int) + (a.size : Int)) = (J.size : Int) + (a.size : Int) := IntWalk.i64_in _ (by omega)
              have hwb : IntKind.i64.wrap ((J.size : Int) + (a.size : Int) + (b.size : Int)) = (J.size : Int) + (a.size : Int) + (b.size : Int) := IntWalk.i64_in _ (by omega)
              by_cases h256 : J.size + a.size + b.size ≤ 256
              · have d1 : decide ((J.size : Int) + (a.size : Int) + (b.size : Int) > 256) = false := decide_eq_false (by omega)
                have d2 : decide ((256 : Int) < (J.size : Int) + (a.size : Int) + (b.size : Int)) = false := decide_eq_false (by omega)
                obtain ⟨X, hX⟩ : ∃ X, a ++ J = X := ⟨_, rfl⟩
                obtain ⟨Y, hY⟩ : ∃ Y, X ++ b = Y := ⟨_, rfl⟩
                have hXs : X.size = a.size + J.size := by rw [← hX, cat_size]
                have hYs : Y.size ≤ 256 := by rw [← hY, cat_size, hXs]; omega
                have r2 := fun W => cat_run hX (by omega) (by omega) W
                have r3 := fun W => cat_run hY (by omega) (by omega) W
                have hback := join_back (l := ps.map nums) (a := nums a) (b := nums b) (fun e => hj0 (by rw [← nums_length, HJn.out, e]; rfl)) HGa.out HGb.out
                rw [← HJn.out, ← nums_append, hX, ← nums_append, hY] at hback
                have HS := Lib.hid (split_any Y hYs w2)
                rw [hback] at HS
                have hml : (ps.map nums).length = ps.length := List.length_map ..
                have hpn : ps.length = k := HI.out.1
                clear hback hX hY hXs hYs h256 hj0 hjs
                go_wp2_with fail
                refine HS.out.mono ?_
                rintro e w3 ⟨q3, d3', rfl, hs3, hb3⟩
                rw [map_back, hml, hpn] at hs3
                rw [hml, hpn]
                have HM := Lib.hid hs3.txt
                have HB3 := Lib.hid (seqB HB2.out hb3)
                have HL3 := Lib.hid (HI.out.on HB3.out)
                have HA1 := Lib.hid (HAl.out _ HB3.out)
                clear hb3 hs3 HS hml hpn
                go_wp2_with fail
                refine HA1.out.mono ?_
                rintro e w4 ⟨rfl, hb4⟩
                have HB4 := Lib.hid (seqB HB3.out hb4)
                have HSm := Lib.hid (same_any q3 q k k d3' d ps ps w4 (HM.out.on hb4) (HL3.out.on hb4) (by omega) (by omega))
                rw [show decide (ps = ps) = true from by simp] at HSm
                clear hb4 HA1
                go_wp2_with fail
                refine HSm.out.mono ?_
                rintro e w5 ⟨rfl, hb5⟩
                have HB5 := Lib.hid (seqB HB4.out hb5)
                clear hb5
                go_wp2_with fail
                go_ret
                exact ⟨rfl, HB5.out⟩
              · have d2 : (256 : Int) < (J.size : Int) + (a.size : Int) + (b.size : Int) := by omega
                clear h256 hj0 hjs
                have HA1 := Lib.hid (HAl.out _ HB2.out)
                go_wp2_with fail
                refine HA1.out.mono ?_
                rintro e wz ⟨rfl, hbz⟩
                have HBz := Lib.hid (seqB HB2.out hbz)
                clear hbz
                go_wp2_with fail
                go_ret
                exact ⟨rfl, HBz.out⟩
end Go.Proofs.YtngnkkigjlenoaaGreatDoor
