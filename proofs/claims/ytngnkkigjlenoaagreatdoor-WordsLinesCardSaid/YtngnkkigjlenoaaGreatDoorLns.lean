/-
  Law WordsLines: the lines of any text are what the document says, and as many as its bytes 10 and one. Conditions: a word of the library holds some number.
-/
import Derived.Test.YtngnkkigjlenoaaGreatDoorW
import Derived.Laws.RangeAny
namespace Go.Proofs.YtngnkkigjlenoaaGreatDoor
open Go.RowKit

/-- Behind the first byte of a sign of more bytes than one no byte 10 stands. -/
theorem dec_cont (s : ByteArray) (pos : Nat) (h : pos < s.size) : pos + (Utf8.decode s pos).2 ≤ s.size ∧ ∀ k, 1 ≤ k → k < (Utf8.decode s pos).2 → 128 ≤ (s.get! (pos + k)).toNat := by
  have three : ∀ k : Nat, 1 ≤ k → k < 4 → k = 1 ∨ k = 2 ∨ k = 3 := fun k _ _ => by omega
  simp only [Utf8.decode]
  repeat' split
  all_goals simp_all
  all_goals first
    | omega
    | (refine ⟨by omega, fun k h1 h2 => ?_⟩
       rcases three k h1 (by omega) with rfl | rfl | rfl <;> omega)
theorem get_pl (s : ByteArray) (k : Nat) (h : k < s.size) : (pl s)[k]? = some (s.get! k) := by
  have hl : k < (pl s).length := by rw [pl_len]; exact h
  rw [List.getElem?_eq_getElem hl]
  congr 1
  have := get_at s k h
  rw [Nat.add_zero] at this
  rw [this]
  rfl
theorem count_same (l : List UInt8) (pos n : Nat) (h : ∀ k, k < n → ∀ x, l[pos + k]? = some x → x ≠ 10) : (l.take (pos + n)).count 10 = (l.take pos).count 10 := by
  induction n with
  | zero => rfl
  | succ n ih =>
    rw [← Nat.add_assoc, List.take_add_one, List.count_append, ih fun k hk => h k (by omega)]
    cases hx : l[pos + n]? with
    | none => rfl
    | some x =>
      have := h n (Nat.lt_succ_self n) x hx
      simp [this]
theorem count_next (l : List UInt8) (pos : Nat) (x : UInt8) (h : l[pos]? = some x) : (l.take (pos + 1)).count 10 = (l.take pos).count 10 + if x = 10 then 1 else 0 := by
  rw [List.take_add_one, List.count_append, h]
  by_cases hx : x = 10 <;> simp [hx]
set_option maxRecDepth 100000 in
set_option maxHeartbeats 8000000 in
theorem wordsLines.walk (s : ByteArray) (w : World) (hg : Big w) : Calls Tryz.prog 6 #[.string s] w fun e w' => e = .returned (.bool true) ∧ Below w.heap.size w w' := by
  have HAl := Lib.hid (fun W (hb : Below w.heap.size w W) => alive_any W (big_on hg hb))
  by_cases h2000 : s.size ≤ 2000
  · have d1 : decide ((s.size : Int) > 2000) = false := decide_eq_false (by omega)
    have d2 : decide ((2000 : Int) < (s.size : Int)) = false := decide_eq_false (by omega)
    have HLn := Lib.hid (lines_any s (by omega) w hg)
    have HRl := Lib.hid (fun W => rlines_any s (by omega) W)
    have hcs : (pl s).count 10 ≤ s.size := by rw [← pl_len s]; exact List.count_le_length
    clear hg
    go_enter Tryz.func6, Tryz.ntmps6
    go_wp2_with fail
    refine HLn.out.mono ?_
    rintro e w1 ⟨q, m, d, rfl, hm, ht, hb1⟩
    have HT := Lib.hid ht
    have HB1 := Lib.hid hb1
    have HM := Lib.hid hm
    clear hb1 ht hm HLn
    go_wp2_with fail
    go_loopw [4, 6] (fun n _ wr => ∃ pos c : Nat, pos ≤ s.size ∧ c ≤ pos ∧ n = .int .i64 c ∧ wr = w1.iter s pos ∧ Hid (((pl s).take pos).count 10 = c)) (fun _ _ wr => s.size - wr.iterPos w1.heap.size)
    case atStart => exact ⟨0, 0, Nat.zero_le _, Nat.zero_le _, rfl, rfl, Lib.hid rfl⟩
    case round =>
      obtain ⟨pos, c, hp, hcp, rfl, rfl, HC⟩ := hrel
      by_cases hlt : pos < s.size
      · have hget := get_pl s pos hlt
        have hga := get_at s pos hlt
        rw [Nat.add_zero] at hga
        rw [hga] at hget
        by_cases ha : (s[pos]'hlt).toNat < 128
        · have hnx : ∀ ty, (Instr.next (.pointer (some ⟨w1.heap.size, 0, none⟩)) true ty).run Tryz.prog (w1.iter s pos) = _ := fun ty => run_next_ascii (P := Tryz.prog) w1 s pos ty hlt ha
          have hcn := count_next (pl s) pos _ hget
          have hw1 : IntKind.i64.wrap ((c : Int) + 1) = (c : Int) + 1 := IntWalk.i64_in _ (by omega)
          obtain ⟨b, hb⟩ : ∃ b, (s[pos]'hlt).toNat = b := ⟨_, rfl⟩
          by_cases h10 : (s[pos]'hlt) = 10
          · have hb10 : b = 10 := by rw [← hb, h10]; rfl
            subst hb10
            rw [if_pos h10, HC.out] at hcn
            have HC1 := Lib.hid hcn
            rw [hb] at hnx
            clear hcn HC hget hga ha h10 hb
            go_wp2_with fail
            go_roundw
            case rel => exact ⟨pos + 1, c + 1, by omega, by omega, by go_num, rfl, HC1⟩
            case measure => simp; omega
          · have hbn : b ≠ 10 := fun e => h10 (UInt8.toNat_inj.1 (by rw [hb, e]; rfl))
            rw [if_neg h10, HC.out, Nat.add_zero] at hcn
            have HC1 := Lib.hid hcn
            have q10 : ((b : Int) == 10) = false := by simp; omega
            rw [hb] at hnx
            clear hcn HC hget hga ha h10 hb
            go_wp2_with fail
            go_roundw
            case rel => exact ⟨pos + 1, c, by omega, by omega, rfl, rfl, HC1⟩
            case measure => simp; omega
        · have hnx : ∀ ty, (Instr.next (.pointer (some ⟨w1.heap.size, 0, none⟩)) true ty).run Tryz.prog (w1.iter s pos) = _ := fun ty => run_next_any (P := Tryz.prog) w1 s pos ty hlt
          obtain ⟨g1, g2⟩ := decode_high s pos hlt (by omega)
          obtain ⟨g3, g4⟩ := dec_cont s pos hlt
          have hcn := count_same (pl s) pos (Utf8.decode s pos).2 (fun k hk x hx => by
            rintro rfl
            by_cases hk0 : k = 0
            · subst hk0
              rw [Nat.add_zero, hget] at hx
              injection hx with hx
              rw [hx] at ha
              exact ha (by decide)
            · have := g4 k (by omega) hk
              rw [get_pl s (pos + k) (by omega)] at hx
              injection hx with hx
              rw [hx] at this
              exact absurd this (by decide))
          rw [HC.out] at hcn
          have HC1 := Lib.hid hcn
          generalize (Utf8.decode s pos).2 = wd at *
          generalize (Utf8.decode s pos).1 = rn at *
          have q10 : ((rn : Int) == 10) = false := by simp; omega
          clear hcn HC hget hga ha g4
          go_wp2_with fail
          go_roundw
          case rel => exact ⟨pos + wd, c, by omega, by omega, rfl, rfl, HC1⟩
          case measure => simp; omega
      · obtain rfl : pos = s.size := by omega
        have hnx : ∀ ty, (Instr.next (.pointer (some ⟨w1.heap.size, 0, none⟩)) true ty).run Tryz.prog (w1.iter s s.size) = _ := fun ty => run_next_end (P := Tryz.prog) w1 s s.size ty hlt
        have hcc : (pl s).count 10 = c := by
          have := HC.out
          rw [← pl_len s, List.take_length] at this
          exact this
        have hmc : m = c + 1 := by rw [HM.out, hcc]
        subst hmc
        have hbi : Below w1.heap.size w1 (w1.iter s s.size) := (Below.refl _ _).alloc (Nat.le_refl _) _
        have HBi := Lib.hid (seqB HB1.out hbi)
        have HTi := Lib.hid (HT.out.on hbi)
        have HA3 := Lib.hid (HAl.out _ HBi.out)
        have hw1 : IntKind.i64.wrap ((c : Int) + 1) = (c : Int) + 1 := IntWalk.i64_in _ (by omega)
        clear hbi HB1 HT HC hcc
        go_wp2_with fail
        refine HA3.out.mono ?_
        rintro e w4 ⟨rfl, hb4⟩
        have HB4 := Lib.hid (seqB HBi.out hb4)
        have HT4 := Lib.hid (HTi.out.on hb4)
        clear hb4 HA3
        go_wp2_with fail
        refine (HRl.out _).mono ?_
        rintro e w5 ⟨q5, m5, d5, rfl, hm5, ht5, hb5⟩
        have HB5 := Lib.hid (seqB HB4.out hb5)
        have HSm := Lib.hid (same_any q q5 (c + 1) m5 d d5 (linesB s) (linesB s) w5 (HT4.out.on hb5) ht5 (by omega) (by omega))
        rw [show decide (linesB s = linesB s) = true from by simp] at HSm
        clear hb5 ht5 hm5
        go_wp2_with fail
        refine HSm.out.mono ?_
        rintro e w6 ⟨rfl, hb6⟩
        have HB6 := Lib.hid (seqB HB5.out hb6)
        clear hb6
        go_wp2_with fail
        go_ret
        exact ⟨rfl, HB6.out⟩
  · have d2 : (2000 : Int) < (s.size : Int) := by omega
    have HA1 := Lib.hid (HAl.out w (Below.refl _ _))
    clear h2000 hg
    go_enter Tryz.func6, Tryz.ntmps6
    go_wp2_with fail
    refine HA1.out.mono ?_
    rintro e w2 ⟨rfl, hb2⟩
    have HB2 := Lib.hid hb2
    clear hb2
    go_wp2_with fail
    go_ret
    exact ⟨rfl, HB2.out⟩
end Go.Proofs.YtngnkkigjlenoaaGreatDoor
