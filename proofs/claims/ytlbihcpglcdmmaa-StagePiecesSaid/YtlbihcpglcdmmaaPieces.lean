/-
  The walk of chicanelaw10.StagePieces: it returns true, whatever numbers, seed and puts. Conditions: as each states.
-/
import Derived.Test.YtlbihcpglcdmmaaZN
namespace Go.Proofs.Ytlbihcpglcdmmaa.stagePieces
open Go.RowKit

theorem law_size (k a b : Int) : (lawTox k a b).s.size ≤ maxLen := by show (1 : Nat) ≤ maxLen; decide
/-- Nothing to be shown: the law says true at once. -/
def Alive (w : World) (e : Ending) (w' : World) : Prop := e = .returned (.bool true) ∧ Below w.heap.size w w'
set_option maxRecDepth 100000 in
set_option maxHeartbeats 8000000 in
theorem no_new (size pause seed : Int) (h : newE (lawTox 3 size pause) 4096 ≠ 0) (p : Option Addr) (m d : Nat) (w : World) :
    Calls Try.prog 6 #[.agg #[.int .i64 size, .int .i64 pause], .int .u64 seed, .slice p m d] w (Alive w) := by
  unfold Alive
  have HN := Lib.hid (fun W => new_no (seed := seed) (now := 0) (t := lawTox 3 size pause) (law_size _ _ _) h W)
  have hE : (newE (lawTox 3 size pause) 4096 != 0) = true := by simpa using h
  generalize newE (lawTox 3 size pause) 4096 = E at *
  unfold Tox.v lawTox at HN
  simp only at HN
  have HB := Lib.hid (show Below w.heap.size w (w.alloc (.cells #[.int .i64 size, .int .i64 pause] 48)).drew from ((Below.refl _ _).alloc (Nat.le_refl _) _).drew)
  clear h
  go_enter Try.func6, Try.ntmps6
  go_wp2_with fail
  go_region
  go_wp2_with fail
  generalize (w.alloc (.cells #[.int .i64 size, .int .i64 pause] 48)).drew = w1 at *
  refine (HN.out _).mono ?_
  rintro e w2 ⟨rfl, hb⟩
  have HB2 := Lib.hid (HB.out.trans (hb.mono HB.out.size))
  clear hb
  go_wp2_with fail
  refine (alive_any _).mono ?_
  rintro e w3 ⟨rfl, hb⟩
  have HB3 := Lib.hid (HB2.out.trans (hb.mono HB2.out.size))
  clear hb
  go_wp2_with fail
  go_ret
  exact ⟨rfl, HB3.out⟩
set_option maxRecDepth 100000 in
set_option maxHeartbeats 8000000 in
theorem long (size pause seed : Int) (h : newE (lawTox 3 size pause) 4096 = 0) (p : Option Addr) (m d : Nat) (hm : 60 < m) (w : World) :
    Calls Try.prog 6 #[.agg #[.int .i64 size, .int .i64 pause], .int .u64 seed, .slice p m d] w (Alive w) := by
  unfold Alive
  have HN := Lib.hid (fun W => new_ok (seed := seed) (now := 0) (t := lawTox 3 size pause) (law_size _ _ _) h W)
  have d1 : decide ((60 : Int) < (m : Int)) = true := decide_eq_true (by omega)
  unfold Tox.v lawTox at HN
  simp only at HN
  have HB := Lib.hid (show Below w.heap.size w (w.alloc (.cells #[.int .i64 size, .int .i64 pause] 48)).drew from ((Below.refl _ _).alloc (Nat.le_refl _) _).drew)
  clear h
  go_enter Try.func6, Try.ntmps6
  go_wp2_with fail
  go_region
  go_wp2_with fail
  generalize (w.alloc (.cells #[.int .i64 size, .int .i64 pause] 48)).drew = w1 at *
  refine (HN.out _).mono ?_
  rintro e w2 ⟨g, U, rfl, hr, hu, hb⟩
  have HB2 := Lib.hid (HB.out.trans (hb.mono HB.out.size))
  clear hb hr hu
  go_wp2_with fail
  refine (alive_any _).mono ?_
  rintro e w3 ⟨rfl, hb⟩
  have HB3 := Lib.hid (HB2.out.trans (hb.mono HB2.out.size))
  clear hb
  go_wp2_with fail
  go_ret
  exact ⟨rfl, HB3.out⟩
set_option maxRecDepth 100000 in
set_option maxHeartbeats 16000000 in
theorem walk (size pause seed : Int) (p : Option Addr) (m d : Nat) (os : List Pt) (w : World) (hx : os.length = m) (_hmd : m ≤ d) (_hd : d ≤ 9223372036854775807) (hj : PutsIn w p m os) :
    Calls Try.prog 6 #[.agg #[.int .i64 size, .int .i64 pause], .int .u64 seed, .slice p m d] w (Alive w) := by
  by_cases h : newE (lawTox 3 size pause) 4096 = 0
  case neg => exact no_new size pause seed h p m d w
  by_cases hm : 60 < m
  · exact long size pause seed h p m d hm w
  unfold Alive
  have hck := slice_chk ((law_newE 3 size pause 4096 (by omega) (by omega)).symm.trans h)
  have HN := Lib.hid (fun W => new_ok (seed := seed) (now := 0) (t := lawTox 3 size pause) (law_size _ _ _) h W)
  have HL0 := Lib.hid (show PieI size pause (newS (lawTox 3 size pause) seed 4096 0) 0 0 false from ⟨base_new (Or.inr rfl), hck.1, hck.2.1, fun h => by cases h⟩)
  have HJ := Lib.hid hj
  have HX := Lib.hid hx
  have d1 : decide ((60 : Int) < (m : Int)) = false := decide_eq_false (by omega)
  generalize newS (lawTox 3 size pause) seed 4096 0 = s0 at *
  unfold Tox.v lawTox at HN
  simp only at HN
  have HB := Lib.hid (show Below w.heap.size w (w.alloc (.cells #[.int .i64 size, .int .i64 pause] 48)).drew from ((Below.refl _ _).alloc (Nat.le_refl _) _).drew)
  have hm60 : m ≤ 60 := by omega
  clear h hm hck hj hx
  go_enter Try.func6, Try.ntmps6
  go_wp2_with fail
  go_region
  go_wp2_with fail
  generalize (w.alloc (.cells #[.int .i64 size, .int .i64 pause] 48)).drew = w1 at *
  refine (HN.out _).mono ?_
  rintro e w2 ⟨g, U, rfl, hr, hu, hb⟩
  have HA2 := Lib.hid (show Hd w w2 U g s0 0 from ⟨hr, fun i hi => Nat.le_trans HB.out.size (hu i hi), HB.out.trans (hb.mono HB.out.size)⟩)
  clear hr hu hb HB HN
  go_wp2_with fail
  go_loopw [11, 12, 13, 43] (fun vn vl va i wr => ∃ (k : Nat) (now last : Int) (any : Bool) (s : St) (U' : Own), k ≤ m ∧ i = .int .i64 k ∧ vn = .int .i64 now ∧ vl = .int .i64 last ∧ va = .bool any ∧ Hid (Hd w wr U' g s (200 * k)) ∧ Hid (PieI size pause s now last any)) (fun _ _ _ i _ => m - (intOf i).toNat)
  case atStart => exact ⟨0, 0, 0, false, s0, U, by omega, rfl, rfl, rfl, rfl, HA2, HL0⟩
  case round =>
    clear HA2 HL0
    obtain ⟨k, now, last, any, s, U1, hk, rfl, rfl, rfl, rfl, HA, HL⟩ := hrel
    by_cases hlt : k < m
    · obtain ⟨b, o, rfl, hcell⟩ := puts_on HJ.out HA.out.2.2 (by omega)
      obtain ⟨c0, c1, c2⟩ := hcell k hlt
      generalize os.getD k noPt = op at *
      obtain ⟨lt, tk, N⟩ := op
      simp only at c0 c1 c2
      rw [← Nat.add_assoc] at c1 c2
      have hal : Below wr.heap.size wr (wr.alloc (.cells #[.int .i64 lt, .bool tk, .int .i64 N] 52)) := (Below.refl _ _).alloc (Nat.le_refl _) _
      have HA4 := Lib.hid (HA.out.on hal)
      have HP4 := Lib.hid (heap_alloc_new wr (.cells #[.int .i64 lt, .bool tk, .int .i64 N] 52))
      have HAD := Lib.hid (fun W => add_any now lt W)
      have hn0 := HL.out.base.now0
      have hn1 := HL.out.base.now1
      have hnn := addT_le (b := lt) hn0 hn1
      have hnr := addT_range now lt
      generalize addT now lt = now' at *
      clear hcell hal HA
      go_upto_region 9 with fail
      generalize wr.alloc (.cells #[.int .i64 lt, .bool tk, .int .i64 N] 52) = w4 at *
      generalize wr.heap.size = go at *
      have y0 := cell_of_row w4 go 0 _ _ _ HP4.out
      have y1 := cell_of_row w4 go 1 _ _ _ HP4.out
      have y2 := cell_of_row w4 go 2 _ _ _ HP4.out
      clear c0 c1 c2
      cases tk with
      | false =>
        go_wp2_with fail
        refine (HAD.out _).mono ?_
        rintro e w5 ⟨rfl, rfl⟩
        obtain ⟨z, hz0, hz1, hz2⟩ : ∃ z : Nat, (min (max N 0) 200 : Int) = (z : Int) ∧ z ≤ 200 ∧ True := ⟨(min (max N 0) 200 : Int).toNat, by omega, by omega, trivial⟩
        obtain ⟨w6, r6, hi6, hb6⟩ := make_zeros w4 z hz1
        have HPU := Lib.hid (put_i (HA4.out.on hb6).1 now' (p := some ⟨w4.heap.size, 0, none⟩) (n := z) (c := z) (zeros_size z) hi6 (M' := 200 * (k + 1)) (by rw [zeros_size]; omega) (by omega))
        obtain ⟨hp1, hp2, _⟩ := base_put HL.out.base (Or.inr rfl) hnn hnr.2 (zeros z)
        have HL5 := Lib.hid (show PieI size pause (bringS s now' (zeros z)).1 now' last any from ⟨hp1, HL.out.a1, HL.out.a2, fun h => by rw [hp2]; exact HL.out.pause h⟩)
        have HA6 := Lib.hid (HA4.out.on hb6)
        clear hi6 hb6 hp1 hp2 hz2 HL HA4 HAD y0 HP4
        go_wp2_with fail
        refine HPU.out.mono ?_
        rintro e w7 ⟨rfl, hs⟩
        obtain ⟨U7, h7, _⟩ := HA6.out.step hs
        have HA7 := Lib.hid h7
        clear hs h7 HA6 HPU
        go_wp2_with fail
        go_roundw
        case rel => exact ⟨k + 1, now', last, any, _, U7, by omega, by go_num, rfl, rfl, rfl, HA7, HL5⟩
        case measure => simp [intOf]; omega
      | true =>
        go_wp2_with fail
        refine (HAD.out _).mono ?_
        rintro e w5 ⟨rfl, rfl⟩
        obtain ⟨hp1, hp2, hp3⟩ := pie_take HL.out hnn hnr.2 N
        have HTI := Lib.hid (take_i HA4.out.1 now' N (T := (takeS s now' N).2) rfl)
        have HA2 := Lib.hid (fun W => add_any last pause W)
        obtain ⟨K, hK⟩ : ∃ K, (takeS s now' N).2.size = K := ⟨_, rfl⟩
        rw [hK] at HTI hp1 hp2 hp3
        have HP3 := Lib.hid hp3
        have HP2 := Lib.hid hp2
        generalize (takeS s now' N).1 = s1 at *
        generalize (takeS s now' N).2 = T at *
        generalize addT last pause = lim at *
        clear hp2 hp3 HL
        go_wp2_with fail
        refine HTI.out.mono ?_
        rintro e w6 ⟨q2, d2, rfl, hi, hTs, hd1, hd2, hs⟩
        obtain ⟨U6, h6, hr6, hf6⟩ := HA4.out.stepq hs
        have HA6 := Lib.hid (h6.mono (show 200 * k ≤ 200 * (k + 1) by omega) (by omega))
        have dK : decide (size < (K : Int)) = false := decide_eq_false (by omega)
        clear hs h6 hr6 hf6 hi hTs HA4 HTI y0 y1 y2 HP4
        by_cases hK0 : 0 < K
        · have HI := Lib.hid (HP3.out)
          rw [if_pos hK0] at HI
          have d0 : decide ((0 : Int) < (K : Int)) = true := decide_eq_true (by omega)
          cases any with
          | true =>
            have hlim := HP2.out hK0 rfl
            have dl : decide (now' < lim) = false := decide_eq_false (by omega)
            go_wp2_with fail
            refine (HA2.out _).mono ?_
            rintro e w7 ⟨rfl, rfl⟩
            go_wp2_with fail
            go_roundw
            case rel => exact ⟨k + 1, now', now', true, s1, U6, by omega, by go_num, rfl, rfl, rfl, HA6, HI⟩
            case measure => simp [intOf]; omega
          | false =>
            go_wp2_with fail
            go_roundw
            case rel => exact ⟨k + 1, now', now', true, s1, U6, by omega, by go_num, rfl, rfl, rfl, HA6, HI⟩
            case measure => simp [intOf]; omega
        · have HI := Lib.hid (HP3.out)
          rw [if_neg hK0] at HI
          obtain rfl : K = 0 := by omega
          clear hK0
          go_wp2_with fail
          go_roundw
          case rel => exact ⟨k + 1, now', last, any, s1, U6, by omega, by go_num, rfl, rfl, rfl, HA6, HI⟩
          case measure => simp [intOf]; omega
    · go_wp2_with fail
      refine (alive_any _).mono ?_
      rintro e w5 ⟨rfl, hb⟩
      have HE := Lib.hid (HA.out.on hb).2.2
      clear hb
      go_wp2_with fail
      go_ret
      exact ⟨rfl, HE.out⟩
end Go.Proofs.Ytlbihcpglcdmmaa.stagePieces
