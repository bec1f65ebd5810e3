/-
  Contract: what the program's own Text of a toxic answers. Conditions: the name's length.
-/
import Derived.Test.YtmghkcjljnlocaaGreatDoorXW6
import Derived.Deep.Cut
namespace Go.Proofs.YtmghkcjljnlocaaGreatDoor.gx
open Go.RowKit

set_option maxRecDepth 100000 in
set_option maxHeartbeats 8000000 in
theorem toxic_any (s : ByteArray) (hs : s.size ≤ 1000000) (k : Int) (up : Bool) (o a b : Int) (w : World) (ht : Tab w) : Calls Tryz.prog 35 #[.agg #[.string s, .int .i64 k, .bool up, .int .i64 o, .int .i64 a, .int .i64 b]] w (Txt s k up o a b w) := by
  unfold Txt
  have HB := Lib.hid (show Below w.heap.size w (w.alloc (.cells #[.string s, .int .i64 k, .bool up, .int .i64 o, .int .i64 a, .int .i64 b] 24)) from (Below.refl _ _).alloc (Nat.le_refl _) _)
  have HK := Lib.hid (heap_alloc_new w (.cells #[.string s, .int .i64 k, .bool up, .int .i64 o, .int .i64 a, .int .i64 b] 24))
  have HC := Lib.hid (fun W => rightT_any s (by unfold maxLen; omega) k up o a b W)
  have HT := Lib.hid ht
  have HTX := Lib.hid (fun n W (hb : Below w.heap.size w W) => (show Calls Tryz.prog 33 #[.int .i64 n] W fun e w' => e = .returned (.string (itB n)) ∧ Below W.heap.size W w' from text_any n W (tab_on HT.out hb)))
  clear ht
  by_cases hc0 : checkB s k o a b = 0
  · have c0 : (checkB s k o a b == 0) = true := by simpa using hc0
    rw [c0] at HC
    have HV := Lib.hid (show textB s k up o a b = _ from if_pos hc0)
    have hkr : 1 ≤ k ∧ k ≤ 7 := by
      unfold checkB at hc0
      split at hc0
      · omega
      · split at hc0
        · omega
        · omega
    have HW := Lib.hid (fun W => word_any k W)
    have HTO := Lib.hid (HTX.out o)
    have HTA := Lib.hid (HTX.out a)
    have HTB := Lib.hid (HTX.out b)
    have HX5 := Lib.hid (show (⟨(Lib.join ([s, wordB k, upd up, itB o, itB a].map (·.data.toList)) (⟨#[32]⟩ : ByteArray).data.toList).toArray⟩ : ByteArray) = txt5 s k up o a by rw [join5, way_eq]; rfl)
    have HX6 := Lib.hid (show (⟨(Lib.join ([s, wordB k, upd up, itB o, itB a, itB b].map (·.data.toList)) (⟨#[32]⟩ : ByteArray).data.toList).toArray⟩ : ByteArray) = txt5 s k up o a ++ ⟨#[32]⟩ ++ itB b by rw [join6, way_eq]; rfl)
    have HSZ := Lib.hid (show ∀ x ∈ [s, wordB k, upd up, itB o, itB a, itB b], x.size ≤ 1000000 by
      have h1 := word_size k
      have h2 := it_size o
      have h3 := it_size a
      have h4 := it_size b
      have h5 : (upd up).size ≤ 4 := by cases up <;> decide
      intro x hx
      simp only [List.mem_cons, List.not_mem_nil, or_false] at hx
      rcases hx with rfl | rfl | rfl | rfl | rfl | rfl <;> omega)
    have HNU := Lib.hid (fun W => numbers_any k W)
    have HN2 := Lib.hid (show (k ≤ 3 → numsB k = 2) ∧ (¬ k ≤ 3 → numsB k = 1) from ⟨fun h => by unfold numsB; rw [if_neg (by omega), if_pos h], fun h => by unfold numsB; rw [if_neg (by omega), if_neg h]⟩)
    clear hc0 c0 hkr hs HTX
    generalize wordB k = wk at *
    generalize itB o = to at *
    generalize itB a = ta at *
    generalize itB b = tb at *
    cases up with
    | true =>
      have HU := Lib.hid (show upd true = ⟨#[117, 112]⟩ from rfl)
      rw [HU.out] at HX5 HX6 HSZ
      go_enter Tryz.func35, Tryz.ntmps35
      go_wp2_with fail
      generalize w.alloc (.cells #[.string s, .int .i64 k, .bool true, .int .i64 o, .int .i64 a, .int .i64 b] 24) = w1 at *
      refine (HC.out _).mono ?_
      rintro e w2 ⟨rfl, hb⟩
      have HB2 := Lib.hid (seqB HB.out hb)
      have HK2 := Lib.hid ((hb.block _ (blk_lt HK.out)).trans HK.out)
      obtain ⟨x0, x1, x2, x3, x4, x5⟩ := box6 HK2.out (Below.refl _ _)
      have HCK := Lib.hid (show ∀ W, Below w2.heap.size w2 W → W.cell? ⟨w.heap.size, 0, none⟩ = some (.string s) ∧ W.cell? ⟨w.heap.size, 1, none⟩ = some (.int .i64 k) ∧ W.cell? ⟨w.heap.size, 3, none⟩ = some (.int .i64 o) ∧ W.cell? ⟨w.heap.size, 4, none⟩ = some (.int .i64 a) ∧ Hid (Below w2.heap.size w2 W) from
        fun W hW => by
          obtain ⟨u0, u1, u2, u3, u4, u5⟩ := box6 HK2.out hW
          exact ⟨u0, u1, u3, u4, Lib.hid hW⟩)
      have HTO1 := Lib.hid (fun W (hW : Hid (Below w2.heap.size w2 W)) => HTO.out W (seqB HB2.out hW.out))
      have HTA1 := Lib.hid (fun W (hW : Hid (Below w2.heap.size w2 W)) => HTA.out W (seqB HB2.out hW.out))
      have HQ := Lib.hid (show ∀ W W', Hid (Below w2.heap.size w2 W) → Below W.heap.size W W' → W'.cell? ⟨w.heap.size, 0, none⟩ = some (.string s) ∧ W'.cell? ⟨w.heap.size, 1, none⟩ = some (.int .i64 k) ∧ W'.cell? ⟨w.heap.size, 3, none⟩ = some (.int .i64 o) ∧ W'.cell? ⟨w.heap.size, 4, none⟩ = some (.int .i64 a) ∧ Hid (Below w2.heap.size w2 W') from fun W W' h1 h2 => HCK.out W' (seqB h1.out h2))
      clear hb
      go_wp2_with fail
      clear x0 x1 x2 x3 x4 x5
      go_region_held (fun W => W.cell? ⟨w.heap.size, 0, none⟩ = some (.string s) ∧ W.cell? ⟨w.heap.size, 1, none⟩ = some (.int .i64 k) ∧ W.cell? ⟨w.heap.size, 3, none⟩ = some (.int .i64 o) ∧ W.cell? ⟨w.heap.size, 4, none⟩ = some (.int .i64 a) ∧ Hid (Below w2.heap.size w2 W))
        (first
          | exact HCK.out _ (Below.refl _ _).drew
          | with_reducible assumption
          | (go_split_ands; refine HQ.out _ _ ?_ ((Below.refl _ _).alloc (Nat.le_refl _) _); assumption))
        (first
          | (go_at_call 71; (with_reducible refine Calls.mono (HW.out _) ?_); rintro e w' ⟨rfl, rfl⟩)
          | (go_at_call 33; go_split_ands; (with_reducible refine Calls.mono (HTO1.out _ (by assumption)) ?_); rintro e w' ⟨rfl, hb⟩; (have hS := HQ.out _ _ (by assumption) hb); clear hb)
          | (go_at_call 33; go_split_ands; (with_reducible refine Calls.mono (HTA1.out _ (by assumption)) ?_); rintro e w' ⟨rfl, hb⟩; (have hS := HQ.out _ _ (by assumption) hb); clear hb))
      have HD := Lib.hid (show Below w2.heap.size w2 w' from hS.2.2.2.2.out)
      clear hS
      have hal : Below w'.heap.size w' (w'.alloc (.cells #[.string s, .string wk, .string ⟨#[117, 112]⟩, .string to, .string ta] 9)) := (Below.refl _ _).alloc (Nat.le_refl _) _
      have HB5 := Lib.hid (seqB (seqB HB2.out HD.out) hal)
      have HO5 := Lib.hid (row5 w' w.heap.size (seqB HB2.out HD.out).size s wk ⟨#[117, 112]⟩ to ta)
      have HK5 := Lib.hid (((seqB HD.out hal).block _ (blk_lt HK2.out)).trans HK2.out)
      obtain ⟨y0, y1, y2, y3, y4, y5⟩ := box6 HK5.out (Below.refl _ _)
      clear hal HD HQ HTO1 HTA1 HCK
      generalize w'.alloc (.cells #[.string s, .string wk, .string ⟨#[117, 112]⟩, .string to, .string ta] 9) = w5 at *
      generalize w'.heap.size = r5 at *
      by_cases hk : k ≤ 3
      · have HN3 := Lib.hid (fun W => HNU.out W)
        rw [HN2.out.1 hk] at HN3
        have HV2 := Lib.hid (HV.out.trans (if_pos hk))
        clear hk
        go_wp2_with fail
        refine (HN3.out _).mono ?_
        rintro e w6 ⟨rfl, rfl⟩
        go_wp2_with fail
        refine (HTB.out _ HB5.out).mono ?_
        rintro e w7 ⟨rfl, hb⟩
        obtain ⟨q', d', w8, h1, h2, h3⟩ := app_str (own_on HO5.out hb) (seqB HB5.out hb).size (seqB HB5.out hb) (by omega) tb
        have HR := Lib.hid h1
        have HO8 := Lib.hid h2
        have HB8 := Lib.hid h3
        clear hb h1 h2 h3 y0 y1 y2 y3 y4 y5
        go_wp2_with (at_builtin; refine Lib.wpList_append_run _ rfl _ _ _ _ rfl (.slice (some ⟨r5, 0, none⟩) 5 5) (.slice (some ⟨w7.heap.size, 0, none⟩) 1 1) rfl rfl _ _ (HR.out _) ?_)
        refine (join_strs (n := 1000000) HO8.out (by omega) (fun x hx => HSZ.out x (by simpa using hx)) (by omega)).mono ?_
        rintro e w9 ⟨rfl, hb⟩
        have HE := Lib.hid (seqB HB8.out hb)
        clear hb
        go_wp2_with fail
        go_ret
        exact ⟨ret_strB (by rw [HV2.out, ← HX6.out]; rfl), HE.out⟩
      · have HN3 := Lib.hid (fun W => HNU.out W)
        rw [HN2.out.2 (by omega)] at HN3
        have HV2 := Lib.hid (HV.out.trans (if_neg hk))
        clear hk
        go_wp2_with fail
        refine (HN3.out _).mono ?_
        rintro e w6 ⟨rfl, rfl⟩
        clear y0 y1 y2 y3 y4 y5
        go_wp2_with fail
        refine (join_strs (n := 1000000) HO5.out (by omega) (fun x hx => HSZ.out x (by simp at hx ⊢; rcases hx with h | h | h | h | h <;> simp [h])) (by omega)).mono ?_
        rintro e w9 ⟨rfl, hb⟩
        have HE := Lib.hid (seqB HB5.out hb)
        clear hb
        go_wp2_with fail
        go_ret
        exact ⟨ret_strB (by rw [HV2.out, ← HX5.out]; rfl), HE.out⟩
    | false =>
      have HU := Lib.hid (show upd false = ⟨#[100, 111, 119, 110]⟩ from rfl)
      rw [HU.out] at HX5 HX6 HSZ
      go_enter Tryz.func35, Tryz.ntmps35
      go_wp2_with fail
      generalize w.alloc (.cells #[.string s, .int .i64 k, .bool false, .int .i64 o, .int .i64 a, .int .i64 b] 24) = w1 at *
      refine (HC.out _).mono ?_
      rintro e w2 ⟨rfl, hb⟩
      have HB2 := Lib.hid (seqB HB.out hb)
      have HK2 := Lib.hid ((hb.block _ (blk_lt HK.out)).trans HK.out)
      obtain ⟨x0, x1, x2, x3, x4, x5⟩ := box6 HK2.out (Below.refl _ _)
      have HCK := Lib.hid (show ∀ W, Below w2.heap.size w2 W → W.cell? ⟨w.heap.size, 0, none⟩ = some (.string s) ∧ W.cell? ⟨w.heap.size, 1, none⟩ = some (.int .i64 k) ∧ W.cell? ⟨w.heap.size, 3, none⟩ = some (.int .i64 o) ∧ W.cell? ⟨w.heap.size, 4, none⟩ = some (.int .i64 a) ∧ Hid (Below w2.heap.size w2 W) from
        fun W hW => by
          obtain ⟨u0, u1, u2, u3, u4, u5⟩ := box6 HK2.out hW
          exact ⟨u0, u1, u3, u4, Lib.hid hW⟩)
      have HTO1 := Lib.hid (fun W (hW : Hid (Below w2.heap.size w2 W)) => HTO.out W (seqB HB2.out hW.out))
      have HTA1 := Lib.hid (fun W (hW : Hid (Below w2.heap.size w2 W)) => HTA.out W (seqB HB2.out hW.out))
      have HQ := Lib.hid (show ∀ W W', Hid (Below w2.heap.size w2 W) → Below W.heap.size W W' → W'.cell? ⟨w.heap.size, 0, none⟩ = some (.string s) ∧ W'.cell? ⟨w.heap.size, 1, none⟩ = some (.int .i64 k) ∧ W'.cell? ⟨w.heap.size, 3, none⟩ = some (.int .i64 o) ∧ W'.cell? ⟨w.heap.size, 4, none⟩ = some (.int .i64 a) ∧ Hid (Below w2.heap.size w2 W') from fun W W' h1 h2 => HCK.out W' (seqB h1.out h2))
      clear hb
      go_wp2_with fail
      clear x0 x1 x2 x3 x4 x5
      go_region_held (fun W => W.cell? ⟨w.heap.size, 0, none⟩ = some (.string s) ∧ W.cell? ⟨w.heap.size, 1, none⟩ = some (.int .i64 k) ∧ W.cell? ⟨w.heap.size, 3, none⟩ = some (.int .i64 o) ∧ W.cell? ⟨w.heap.size, 4, none⟩ = some (.int .i64 a) ∧ Hid (Below w2.heap.size w2 W))
        (first
          | exact HCK.out _ (Below.refl _ _).drew
          | with_reducible assumption
          | (go_split_ands; refine HQ.out _ _ ?_ ((Below.refl _ _).alloc (Nat.le_refl _) _); assumption))
        (first
          | (go_at_call 71; (with_reducible refine Calls.mono (HW.out _) ?_); rintro e w' ⟨rfl, rfl⟩)
          | (go_at_call 33; go_split_ands; (with_reducible refine Calls.mono (HTO1.out _ (by assumption)) ?_); rintro e w' ⟨rfl, hb⟩; (have hS := HQ.out _ _ (by assumption) hb); clear hb)
          | (go_at_call 33; go_split_ands; (with_reducible refine Calls.mono (HTA1.out _ (by assumption)) ?_); rintro e w' ⟨rfl, hb⟩; (have hS := HQ.out _ _ (by assumption) hb); clear hb))
      have HD := Lib.hid (show Below w2.heap.size w2 w' from hS.2.2.2.2.out)
      clear hS
      have hal : Below w'.heap.size w' (w'.alloc (.cells #[.string s, .string wk, .string ⟨#[100, 111, 119, 110]⟩, .string to, .string ta] 9)) := (Below.refl _ _).alloc (Nat.le_refl _) _
      have HB5 := Lib.hid (seqB (seqB HB2.out HD.out) hal)
      have HO5 := Lib.hid (row5 w' w.heap.size (seqB HB2.out HD.out).size s wk ⟨#[100, 111, 119, 110]⟩ to ta)
      have HK5 := Lib.hid (((seqB HD.out hal).block _ (blk_lt HK2.out)).trans HK2.out)
      obtain ⟨y0, y1, y2, y3, y4, y5⟩ := box6 HK5.out (Below.refl _ _)
      clear hal HD HQ HTO1 HTA1 HCK
      generalize w'.alloc (.cells #[.string s, .string wk, .string ⟨#[100, 111, 119, 110]⟩, .string to, .string ta] 9) = w5 at *
      generalize w'.heap.size = r5 at *
      by_cases hk : k ≤ 3
      · have HN3 := Lib.hid (fun W => HNU.out W)
        rw [HN2.out.1 hk] at HN3
        have HV2 := Lib.hid (HV.out.trans (if_pos hk))
        clear hk
        go_wp2_with fail
        refine (HN3.out _).mono ?_
        rintro e w6 ⟨rfl, rfl⟩
        go_wp2_with fail
        refine (HTB.out _ HB5.out).mono ?_
        rintro e w7 ⟨rfl, hb⟩
        obtain ⟨q', d', w8, h1, h2, h3⟩ := app_str (own_on HO5.out hb) (seqB HB5.out hb).size (seqB HB5.out hb) (by omega) tb
        have HR := Lib.hid h1
        have HO8 := Lib.hid h2
        have HB8 := Lib.hid h3
        clear hb h1 h2 h3 y0 y1 y2 y3 y4 y5
        go_wp2_with (at_builtin; refine Lib.wpList_append_run _ rfl _ _ _ _ rfl (.slice (some ⟨r5, 0, none⟩) 5 5) (.slice (some ⟨w7.heap.size, 0, none⟩) 1 1) rfl rfl _ _ (HR.out _) ?_)
        refine (join_strs (n := 1000000) HO8.out (by omega) (fun x hx => HSZ.out x (by simpa using hx)) (by omega)).mono ?_
        rintro e w9 ⟨rfl, hb⟩
        have HE := Lib.hid (seqB HB8.out hb)
        clear hb
        go_wp2_with fail
        go_ret
        exact ⟨ret_strB (by rw [HV2.out, ← HX6.out]; rfl), HE.out⟩
      · have HN3 := Lib.hid (fun W => HNU.out W)
        rw [HN2.out.2 (by omega)] at HN3
        have HV2 := Lib.hid (HV.out.trans (if_neg hk))
        clear hk
        go_wp2_with fail
        refine (HN3.out _).mono ?_
        rintro e w6 ⟨rfl, rfl⟩
        clear y0 y1 y2 y3 y4 y5
        go_wp2_with fail
        refine (join_strs (n := 1000000) HO5.out (by omega) (fun x hx => HSZ.out x (by simp at hx ⊢; rcases hx with h | h | h | h | h <;> simp [h])) (by omega)).mono ?_
        rintro e w9 ⟨rfl, hb⟩
        have HE := Lib.hid (seqB HB5.out hb)
        clear hb
        go_wp2_with fail
        go_ret
        exact ⟨ret_strB (by rw [HV2.out, ← HX5.out]; rfl), HE.out⟩
  · have c0 : (checkB s k o a b == 0) = false := by simpa using hc0
    rw [c0] at HC
    have HV := Lib.hid (show textB s k up o a b = _ from if_neg hc0)
    clear hc0 c0 HTX
    go_enter Tryz.func35, Tryz.ntmps35
    go_wp2_with fail
    refine (HC.out _).mono ?_
    rintro e w2 ⟨rfl, hb⟩
    have HE := Lib.hid (seqB HB.out hb)
    clear hb
    go_wp2_with fail
    go_ret
    exact ⟨ret_strB HV.out.symm, HE.out⟩
end Go.Proofs.YtmghkcjljnlocaaGreatDoor.gx
