/-
  The walk of chicanelaw07.CargoHurries: it returns true, whatever calls. Conditions: as each states.
-/
import Derived.Test.YtmblgpejgdlakaaV
namespace Go.Proofs.Ytmblgpejgdlakaa.cargoHurries
open Go.RowKit

theorem ready_lows (A : List Int) (t : Int) : readyN (lows t A) t = A.length := by
  refine ready_is (by rw [lows_length]; exact Nat.le_refl _) (fun j hj => ?_) (fun h => by rw [lows_length] at h; omega)
  unfold lows
  rw [List.getD_eq_getElem?_getD, List.getElem?_map, List.getElem?_eq_getElem hj]
  show low t _ ≤ t
  unfold low
  split <;> omega
theorem low_le (t n : Int) : low t n ≤ t := by unfold low; split <;> omega
theorem lows_le {A : List Int} {t : Int} {x : Int} (h : x ∈ lows t A) : x ≤ t := by
  obtain ⟨y, _, rfl⟩ := List.mem_map.1 h
  exact low_le t y
theorem ready_more {A : List Int} {t : Int} (h : ∀ x ∈ A, x ≤ t) (n : Nat) (T : Int) (hT : t < T) : readyN (A ++ List.replicate n T) t = A.length ∧ readyN (A ++ List.replicate n T) T = A.length + n := by
  have hA : ∀ j, j < A.length → (A ++ List.replicate n T).getD j 0 ≤ t := fun j hj => by
    rw [List.getD_eq_getElem?_getD, List.getElem?_append_left hj, List.getElem?_eq_getElem hj]
    exact h _ (List.getElem_mem hj)
  have hB : ∀ j, A.length ≤ j → j < A.length + n → (A ++ List.replicate n T).getD j 0 = T := fun j h1 h2 => by
    rw [List.getD_eq_getElem?_getD, List.getElem?_append_right h1, List.getElem?_replicate, if_pos (by omega)]
    rfl
  have hlen : (A ++ List.replicate n T).length = A.length + n := by simp
  refine ⟨ready_is (by rw [hlen]; omega) hA (fun hl => ?_), ready_is (by rw [hlen]; exact Nat.le_refl _) (fun j hj => ?_) (fun hl => by rw [hlen] at hl; omega)⟩
  · rw [hlen] at hl
    rw [hB _ (Nat.le_refl _) hl]
    exact hT
  · by_cases hj1 : j < A.length
    · have := hA j hj1
      omega
    · rw [hB j (by omega) hj]
      exact Int.le_refl _
/-- What is put behind bytes that were hurried. -/
theorem put_hurried {S : ByteArray} {A : List Int} {l a T : Int} (hA : ∀ x ∈ A, x ≤ a) (hl : l ≤ a) (h0 : 0 ≤ a) (h1 : a ≤ 549755813888) (hT : a + 5 = T) (hlen : A.length = S.size) (s : ByteArray) {X : DoC} (hX : doC S A l 0 T 0 s = X) :
    X.n = T ∧ readyN X.A a = S.size ∧ readyN X.A T = S.size + s.size ∧ X.S.size ≤ S.size + s.size := by
  have hp : putT l T = T := by
    unfold putT
    rw [near_of T (by omega) (by omega), if_neg (by omega)]
  have hs := doC_size S A l 0 T 0 s
  rw [hX] at hs
  refine ⟨?_, ?_, ?_, hs⟩
  all_goals
    rw [← hX]
    unfold doC
    rw [if_pos rfl]
    by_cases hz : s.size = 0
    · rw [if_pos hz]
      first
        | exact hp
        | (show readyN A _ = _
           rw [← hlen]
           have hm := ready_more hA 0 T (by omega)
           simp only [List.replicate_zero, List.append_nil] at hm
           first
             | exact hm.1
             | (rw [hm.2, hz]))
    · rw [if_neg hz]
      first
        | exact hp
        | (show readyN (A ++ List.replicate s.size (putT l T)) _ = _
           rw [hp, ← hlen]
           have hm := ready_more hA s.size T (by omega)
           first
             | exact hm.1
             | exact hm.2)
set_option maxRecDepth 100000 in
set_option maxHeartbeats 16000000 in
theorem walk (p : Option Addr) (m d : Nat) (os : List Call) (w : World) (hx : os.length = m) (hmd : m ≤ d) (hd : d ≤ 9223372036854775807) (hz : ∀ o ∈ os, Wf64 o.1 ∧ Wf64 o.2.1 ∧ Wf64 o.2.2.1 ∧ o.2.2.2.size ≤ 140737488351232) (hj : OpsIn w p m os) (x : Int) (s0 : ByteArray) (hs0 : s0.size ≤ 140737488351232) :
    Calls Try.prog 9 #[.slice p m d, .int .i64 x, .string s0] w fun e w' => e = .returned (.bool true) ∧ Below w.heap.size w w' := by
  have HX := Lib.hid hx
  have HJ := Lib.hid hj
  have HZ := Lib.hid hz
  clear hx hz hj
  go_enter Try.func9, Try.ntmps9
  go_wp2_with fail
  refine (new_at w _ (Below.refl _ _)).mono ?_
  rintro e w1 ⟨g, rfl, ha, hbn⟩
  have HA1 := Lib.hid ha
  clear ha hbn
  obtain ⟨B, hB⟩ : ∃ B, w.heap.size = B := ⟨_, rfl⟩
  rw [hB] at HA1
  clear hB
  go_wp2_with fail
  refine (few_any p m d os _ HX.out hmd hd (fun o ho => (HZ.out o ho).2.2.2) (ops_on HJ.out HA1.out.below)).mono ?_
  rintro e w2 ⟨b, rfl, hf, hb⟩
  have HA2 := Lib.hid (HA1.out.on hb)
  have HF := Lib.hid hf
  clear hb hf HA1
  clear hmd hd
  cases b with
  | false =>
    clear HF
    go_wp2_with fail
    refine (alive_any _).mono ?_
    rintro e w5 ⟨rfl, hb5⟩
    have HB5 := Lib.hid (HA2.out.on hb5).below
    clear hb5
    go_wp2_with fail
    go_ret
    exact ⟨rfl, HB5.out⟩
  | true =>
    obtain ⟨hm, ht⟩ := HF.out rfl
    have HT := Lib.hid ht
    clear HF ht
    by_cases hs1 : 100 < s0.size
    · go_wp2_with fail
      refine (alive_any _).mono ?_
      rintro e w5 ⟨rfl, hb5⟩
      have HB5 := Lib.hid (HA2.out.on hb5).below
      clear hb5
      go_wp2_with fail
      go_ret
      exact ⟨rfl, HB5.out⟩
    by_cases hx0 : x < 0
    · go_wp2_with fail
      refine (alive_any _).mono ?_
      rintro e w5 ⟨rfl, hb5⟩
      have HB5 := Lib.hid (HA2.out.on hb5).below
      clear hb5
      go_wp2_with fail
      go_ret
      exact ⟨rfl, HB5.out⟩
    by_cases hx1 : 549755813888 < x
    · go_wp2_with fail
      refine (alive_any _).mono ?_
      rintro e w5 ⟨rfl, hb5⟩
      have HB5 := Lib.hid (HA2.out.on hb5).below
      clear hb5
      go_wp2_with fail
      go_ret
      exact ⟨rfl, HB5.out⟩
    go_wp2_with fail
    go_loopw [41] (fun i wr => ∃ (k : Nat) (S : ByteArray) (A : List Int) (last : Int), k ≤ m ∧ i = .int .i64 k ∧ Hid (At w B g S A last (total (os.take k)) wr) ∧ Hid (S.size ≤ total (os.take k))) (fun i _ => m - (intOf i).toNat)
    case atStart => exact ⟨0, ⟨#[]⟩, [], 0, by omega, rfl, HA2, Lib.hid (Nat.zero_le _)⟩
    case round =>
      clear HA2
      obtain ⟨k, S, A, last, hk, rfl, HA, HL⟩ := hrel
      by_cases hlt : k < m
      · obtain ⟨b, o, rfl, hcell⟩ := ops_on HJ.out HA.out.below (by omega)
        obtain ⟨c0, c1, c2, c3⟩ := hcell k hlt
        have hzk := HZ.out _ (at_of os k (by rw [HX.out]; exact hlt))
        have HTK := Lib.hid (total_step os k m HX.out hlt _ rfl)
        have HTL := Lib.hid (Nat.le_trans (total_take_le os (k + 1)) HT.out)
        generalize os.getD k noCall = O at *
        obtain ⟨kd, a, N, s⟩ := O
        simp only at c0 c1 c2 c3 HTK
        rw [← Nat.add_assoc] at c1 c2 c3
        have HID := Lib.hid hzk.2.1
        have hbl := World.block_lt_of_cell? wr _ c0
        have HSS := Lib.hid (show s.size ≤ 5000 by have h1 := HTK.out; have h2 := HTL.out; omega)
        clear hcell hzk
        have HSZ := Lib.hid (show S.size ≤ 5000 by have h1 := HL.out; have h2 := HTK.out; have h3 := HTL.out; omega)
        have hal : Below wr.heap.size wr (wr.alloc (.cells #[.int .i64 kd, .int .i64 a, .int .i64 N, .string s] 31)) := (Below.refl _ _).alloc (Nat.le_refl _) _
        have HA4 := Lib.hid (HA.out.on hal)
        clear hal HA
        go_wp2_with fail
        generalize wr.alloc (.cells #[.int .i64 kd, .int .i64 a, .int .i64 N, .string s] 31) = w4 at *
        obtain ⟨X, hX⟩ : ∃ X, doC S A last kd a N s = X := ⟨_, rfl⟩
        have HXS := Lib.hid (show X.S.size ≤ total (os.take (k + 1)) by have h0 := doC_size S A last kd a N s; rw [hX] at h0; have h1 := HL.out; have h2 := HTK.out; omega)
        have HDs := Lib.hid (does_at (M1 := total (os.take (k + 1))) HA4.out (by rw [HTK.out]; exact Nat.le_refl _) (by have := HTL.out; omega) hX)
        clear hX
        refine HDs.out.mono ?_
        rintro e w7 ⟨rfl, ha7, _⟩
        obtain ⟨S1, A1, l1, nn, t1⟩ := X
        dsimp only at ha7 HXS ⊢
        have HA7 := Lib.hid ha7
        clear ha7 HDs HA4 c0 c1 c2 c3 hbl
        go_wp2_with fail
        go_roundw
        case rel => exact ⟨k + 1, S1, A1, l1, by omega, by go_num, HA7, HXS⟩
        case measure => simp [intOf]; omega
      · obtain rfl : k = m := by omega
        have HSZ := Lib.hid (show S.size ≤ 5000 by have h1 := HL.out; have h2 := total_take_le os k; have h3 := HT.out; omega)
        have HINV := Lib.hid HA.out.inv
        clear hlt hk HL
        have HXR := Lib.hid (show 0 ≤ x ∧ x ≤ 549755813888 by omega)
        have HS0 := Lib.hid (show s0.size ≤ 100 by omega)
        have hs00 : s0.size ≤ 100 := by omega
        obtain ⟨n, hn⟩ : ∃ n, S.size = n := ⟨_, rfl⟩
        have hnx : near x = x := near_of x (by omega) (by omega)
        obtain ⟨A1, hA1⟩ : ∃ A1, lows (near x) A = A1 := ⟨_, rfl⟩
        obtain ⟨l1, hl1⟩ : ∃ l1, low (near x) last = l1 := ⟨_, rfl⟩
        obtain ⟨T, hTT⟩ : ∃ T, x + 5 = T := ⟨_, rfl⟩
        obtain ⟨X, hX⟩ : ∃ X, doC S A1 l1 0 T 0 s0 = X := ⟨_, rfl⟩
        have hR1 : readyN A1 x = n := by rw [← hA1, hnx, ready_lows, HINV.out.len, hn]
        have hph := put_hurried (S := S) (A := A1) (l := l1) (a := x) (T := T) (fun y hy => by rw [← hA1, hnx] at hy; exact lows_le hy) (by rw [← hl1, hnx]; exact low_le _ _) (by omega) (by omega) hTT (by rw [← hA1, lows_length]; exact HINV.out.len) s0 hX
        rw [hn] at hph
        have hwx : IntKind.i64.wrap (x + 5) = T := by rw [IntWalk.i64_in _ (by omega)]; exact hTT
        have hwn : IntKind.i64.wrap ((n : Int) + (s0.size : Int)) = ((n + s0.size : Nat) : Int) := by rw [IntWalk.i64_in _ (by have := HSZ.out; omega)]; omega
        have HN := Lib.hid hn
        have HA1 := Lib.hid hA1
        have HL1 := Lib.hid hl1
        have HX1 := Lib.hid hX
        have HR1 := Lib.hid hR1
        have HPH := Lib.hid hph
        have HTR := Lib.hid (show -9223372036854775808 ≤ T ∧ T ≤ 9223372036854775807 by omega)
        clear hn hnx hA1 hl1 hX hR1 hph hTT hx0 hx1 hs1
        go_wp2_with fail
        have HMM := Lib.hid (Nat.le_trans (total_take_le os k) HT.out)
        refine (len_at HA.out HN.out).mono ?_
        rintro e w3 ⟨rfl, hb⟩
        have HA3 := Lib.hid (HA.out.on hb)
        clear hb HA
        go_wp2_with fail
        refine (hurry_at HA3.out x HA1.out HL1.out).mono ?_
        rintro e w4 ⟨rfl, ha⟩
        have HA4 := Lib.hid ha
        clear ha HA3
        go_wp2_with fail
        refine (ready_at HA4.out x HR1.out).mono ?_
        rintro e w5 ⟨rfl, hb⟩
        have HA5 := Lib.hid (HA4.out.on hb)
        clear hb HA4
        obtain ⟨c6, w6, hcv, hi6, hb6, hc60, hc61, _⟩ := conv_text s0 (by omega) w5
        have HA6 := Lib.hid (HA5.out.on hb6)
        have HI6 := Lib.hid hi6
        have HC6 := Lib.hid (And.intro hc60 hc61)
        clear hi6 hb6 hc60 hc61 HA5
        go_wp2_with fail
        refine (put_at (M' := total (os.take k) + s0.size) HA6.out T (s := s0) rfl HI6.out (Nat.le_refl _) (by have := HMM.out; omega) HX1.out).mono ?_
        rintro e w7 ⟨rfl, ha⟩
        rw [HPH.out.1]
        have HA7 := Lib.hid ha
        have HXS := Lib.hid (show X.S.size ≤ 100000 by have := HPH.out.2.2.2; have := HSZ.out; have := HN.out; omega)
        clear ha HA6 hcv
        go_wp2_with fail
        refine (alive_any _).mono ?_
        rintro e w8 ⟨rfl, hb⟩
        have HA8 := Lib.hid (HA7.out.on hb)
        clear hb HA7
        go_wp2_with fail
        refine (ready_at HA8.out x HPH.out.2.1).mono ?_
        rintro e w9 ⟨rfl, hb⟩
        have HA9 := Lib.hid (HA8.out.on hb)
        clear hb HA8
        go_wp2_with fail
        refine (ready_at HA9.out T HPH.out.2.2.1).mono ?_
        rintro e wa ⟨rfl, hb⟩
        have HE := Lib.hid (HA9.out.on hb).below
        clear hb HA9
        go_wp2_with fail
        go_ret
        exact ⟨ret_bool (by simp), HE.out⟩
end Go.Proofs.Ytmblgpejgdlakaa.cargoHurries
