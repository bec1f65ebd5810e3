/-
  The walk of chicanelaw08.BucketMore: it returns true, whatever bucket. Conditions: none.
-/
import Derived.Test.YtidklcjacejkaaaWhen
import Derived.Deep.RegionHeld
import Derived.Deep.RegionLaw
import Derived.Deep.Cut
namespace Go.Proofs.Ytidklcjacejkaaa.bucketMore
open Go.RowKit

/-- A pair of numbers, and a bucket, in blocks of the law's own. -/
theorem start (w : World) (r u l t a b : Int) : Bx w (((w.alloc (.cells #[.int .i64 r, .int .i64 u, .int .i64 l, .int .i64 t] 23)).alloc (.cells #[.int .i64 a, .int .i64 b] 50)).alloc (.cells #[.int .i64 r, .int .i64 u, .int .i64 l, .int .i64 t] 24)) (w.heap.size + 1 + 1) r u l t 24 ∧
    (((w.alloc (.cells #[.int .i64 r, .int .i64 u, .int .i64 l, .int .i64 t] 23)).alloc (.cells #[.int .i64 a, .int .i64 b] 50)).alloc (.cells #[.int .i64 r, .int .i64 u, .int .i64 l, .int .i64 t] 24)).heap[w.heap.size + 1]? = some (.cells #[.int .i64 a, .int .i64 b] 50 (0, 0)) := by
  have h := bx_new (below2 w (.cells #[.int .i64 r, .int .i64 u, .int .i64 l, .int .i64 t] 23) (.cells #[.int .i64 a, .int .i64 b] 50)) r u l t 24
  have h2 := two_blocks ((Below.refl _ ((w.alloc (.cells #[.int .i64 r, .int .i64 u, .int .i64 l, .int .i64 t] 23)).alloc (.cells #[.int .i64 a, .int .i64 b] 50))).alloc (Nat.le_refl _) (.cells #[.int .i64 r, .int .i64 u, .int .i64 l, .int .i64 t] 24))
  exact ⟨by simpa using h, h2.2.1⟩
set_option maxRecDepth 100000 in
set_option maxHeartbeats 4000000 in
theorem idle (r u l t a b now : Int) (w : World) (h : ¬ (rightB r u l t = true ∧ 0 ≤ a ∧ 0 ≤ b ∧ a ≤ 1000000 ∧ b ≤ 1000000)) :
    Calls Try.prog 8 #[.agg #[.int .i64 r, .int .i64 u, .int .i64 l, .int .i64 t], .agg #[.int .i64 a, .int .i64 b], .int .i64 now] w fun e w' => e = .returned (.bool true) ∧ Below w.heap.size w w' := by
  obtain ⟨hx, hk⟩ := start w r u l t a b
  have HX := Lib.hid hx
  have HK := Lib.hid hk
  have HR := Lib.hid (fun W => right_b r u l t W)
  clear hx hk
  cases hr : rightB r u l t with
  | false =>
    rw [hr] at HR
    clear h hr
    go_enter Try.func8, Try.ntmps8
    go_wp2_with fail
    generalize ((w.alloc (.cells #[.int .i64 r, .int .i64 u, .int .i64 l, .int .i64 t] 23)).alloc (.cells #[.int .i64 a, .int .i64 b] 50)).alloc (.cells #[.int .i64 r, .int .i64 u, .int .i64 l, .int .i64 t] 24) = w1 at *
    refine (HR.out _).mono ?_
    rintro e w2 ⟨rfl, hb⟩
    have HX2 := Lib.hid (HX.out.on hb)
    clear hb HX
    go_wp2_with fail
    refine (alive_any _).mono ?_
    rintro e w3 ⟨rfl, hb⟩
    have HE := Lib.hid (HX2.out.on hb).2.2
    clear hb HX2
    go_wp2_with fail
    go_ret
    exact ⟨rfl, HE.out⟩
  | true =>
    have hn : ¬ (0 ≤ a ∧ 0 ≤ b ∧ a ≤ 1000000 ∧ b ≤ 1000000) := fun h' => h ⟨hr, h'⟩
    rw [hr] at HR
    have HN := Lib.hid hn
    clear h hr hn
    go_enter Try.func8, Try.ntmps8
    go_wp2_with fail
    generalize ((w.alloc (.cells #[.int .i64 r, .int .i64 u, .int .i64 l, .int .i64 t] 23)).alloc (.cells #[.int .i64 a, .int .i64 b] 50)).alloc (.cells #[.int .i64 r, .int .i64 u, .int .i64 l, .int .i64 t] 24) = w1 at *
    generalize w.heap.size + 1 + 1 = g1 at *
    generalize w.heap.size + 1 = gp at *
    refine (HR.out _).mono ?_
    rintro e w2 ⟨rfl, hb⟩
    have HX2 := Lib.hid (HX.out.on hb)
    have hk2 := (hb.block _ (blk_lt HK.out)).trans HK.out
    have p0 := cell_of_row w2 gp 0 _ _ _ hk2
    have p1 := cell_of_row w2 gp 1 _ _ _ hk2
    clear hb HX HK hk2
    by_cases ha : a < 0
    · have d1 : decide (a < 0) = true := by simpa using ha
      go_wp2_with fail
      refine (alive_any _).mono ?_
      rintro e w3 ⟨rfl, hb⟩
      have HE := Lib.hid (HX2.out.on hb).2.2
      clear hb HX2
      go_wp2_with fail
      go_ret
      exact ⟨rfl, HE.out⟩
    · have d1 : decide (a < 0) = false := by simpa using ha
      by_cases hb : b < 0
      · have d2 : decide (b < 0) = true := by simpa using hb
        go_wp2_with fail
        refine (alive_any _).mono ?_
        rintro e w3 ⟨rfl, hb⟩
        have HE := Lib.hid (HX2.out.on hb).2.2
        clear hb HX2
        go_wp2_with fail
        go_ret
        exact ⟨rfl, HE.out⟩
      · have d2 : decide (b < 0) = false := by simpa using hb
        by_cases ha2 : 1000000 < a
        · have d3 : decide (1000000 < a) = true := by simpa using ha2
          go_wp2_with fail
          refine (alive_any _).mono ?_
          rintro e w3 ⟨rfl, hb⟩
          have HE := Lib.hid (HX2.out.on hb).2.2
          clear hb HX2
          go_wp2_with fail
          go_ret
          exact ⟨rfl, HE.out⟩
        · have d3 : decide (1000000 < a) = false := by simpa using ha2
          have hb2 : 1000000 < b := by
            rcases Int.lt_or_le 1000000 b with h | h
            · exact h
            · exact absurd ⟨by omega, by omega, by omega, h⟩ HN.out
          have d4 : decide (1000000 < b) = true := by simpa using hb2
          go_wp2_with fail
          refine (alive_any _).mono ?_
          rintro e w3 ⟨rfl, hb⟩
          have HE := Lib.hid (HX2.out.on hb).2.2
          clear hb HX2
          go_wp2_with fail
          go_ret
          exact ⟨rfl, HE.out⟩
set_option maxRecDepth 100000 in
set_option maxHeartbeats 16000000 in
theorem good (r u l t a b now : Int) (w : World) (h : rightB r u l t = true) (ha : 0 ≤ a ∧ a ≤ 1000000) (hb : 0 ≤ b ∧ b ≤ 1000000) :
    Calls Try.prog 8 #[.agg #[.int .i64 r, .int .i64 u, .int .i64 l, .int .i64 t], .agg #[.int .i64 a, .int .i64 b], .int .i64 now] w fun e w' => e = .returned (.bool true) ∧ Below w.heap.size w w' := by
  obtain ⟨hx, hk⟩ := start w r u l t a b
  have HX := Lib.hid hx
  have HK := Lib.hid hk
  have HR := Lib.hid (fun W => right_b r u l t W)
  rw [h] at HR
  have hr := (rightB_iff r u l t).1 h
  obtain ⟨r', hr'⟩ : ∃ r', near (near r + near a) = r' := ⟨_, rfl⟩
  obtain ⟨u', hu'⟩ : ∃ u', near (near u + near b) = u' := ⟨_, rfl⟩
  have hm1 := add_more (m := a) hr.1 ha.1
  have hm2 := add_more (m := b) hr.2.1 hb.1
  rw [hr'] at hm1
  rw [hu'] at hm2
  have HA1 := Lib.hid (fun W => radd_any r a W)
  have HA2 := Lib.hid (fun W => radd_any u b W)
  rw [hr'] at HA1
  rw [hu'] at HA2
  have HR2 := Lib.hid (fun W => right_b r' u' l t W)
  rw [more_right h hm1 hm2] at HR2
  have HF1 := Lib.hid (fun W => fill_b r' u' l t now W)
  have HF2 := Lib.hid (fun W => fill_b r u l t now W)
  have HM1 := Lib.hid (fun W => most_b r' u' l t now W)
  have HM2 := Lib.hid (fun W => most_b r u l t now W)
  have hf := more_fill h hm1 hm2 now
  have hm := more_most h hm1 hm2 now
  generalize fillL r' u' l t now = L1 at *
  generalize fillT r' u' l t now = T1 at *
  generalize fillL r u l t now = L2 at *
  generalize fillT r u l t now = T2 at *
  generalize mostV r' u' l t now = M1 at *
  generalize mostV r u l t now = M2 at *
  have d5 : decide (L2 ≤ L1) = true := by simpa using hf
  have d6 : decide (M2 ≤ M1) = true := by simpa using hm
  have d1 : decide (a < 0) = false := by simp; omega
  have d2 : decide (b < 0) = false := by simp; omega
  have d3 : decide (1000000 < a) = false := by simp; omega
  have d4 : decide (1000000 < b) = false := by simp; omega
  have hfd := bucketWhen.fieldB
  clear h hr hr' hu' hm1 hm2 hf hm hx hk ha hb
  go_enter Try.func8, Try.ntmps8
  go_wp2_with fail
  generalize ((w.alloc (.cells #[.int .i64 r, .int .i64 u, .int .i64 l, .int .i64 t] 23)).alloc (.cells #[.int .i64 a, .int .i64 b] 50)).alloc (.cells #[.int .i64 r, .int .i64 u, .int .i64 l, .int .i64 t] 24) = w1 at *
  generalize w.heap.size + 1 + 1 = g1 at *
  generalize w.heap.size + 1 = gp at *
  refine (HR.out _).mono ?_
  rintro e w2 ⟨rfl, hb⟩
  have HX2 := Lib.hid (HX.out.on hb)
  have hk2 := (hb.block _ (blk_lt HK.out)).trans HK.out
  have p0 := cell_of_row w2 gp 0 _ _ _ hk2
  have p1 := cell_of_row w2 gp 1 _ _ _ hk2
  have hltp := blk_lt hk2
  have hltx := blk_lt HX2.out.2.1
  obtain ⟨x0, x1, x2, x3⟩ := HX2.out.cells
  have hal := (Below.refl w2.heap.size w2).alloc (Nat.le_refl _) (.cells #[.int .i64 r, .int .i64 u, .int .i64 l, .int .i64 t] 24)
  have HY3 := Lib.hid (bx_new HX2.out.2.2 r u l t 24)
  have HX3 := Lib.hid (HX2.out.on hal)
  have HK3 := Lib.hid ((hal.block _ hltp).trans hk2)
  clear hb HX HK hk2 hal HX2
  go_wp2_with fail
  clear x0 x1 x2 x3 p0 p1
  generalize w2.alloc (.cells #[.int .i64 r, .int .i64 u, .int .i64 l, .int .i64 t] 24) = w3 at *
  generalize w2.heap.size = g2 at *
  obtain ⟨y0, y1, y2, y3⟩ := HY3.out.cells
  have fy0 := HY3.out.frozen 0
  have fy1 := HY3.out.frozen 1
  have p0 := cell_of_row w3 gp 0 _ _ _ HK3.out
  have p1 := cell_of_row w3 gp 1 _ _ _ HK3.out
  have hbs : Below w.heap.size w ((w3.setCell ⟨g2, 0, none⟩ (.int .i64 r')).setCell ⟨g2, 1, none⟩ (.int .i64 u')) := (HY3.out.2.2.setCell (p := ⟨g2, 0, none⟩) HY3.out.1 _).setCell (p := ⟨g2, 1, none⟩) HY3.out.1 _
  have hy : ((w3.setCell ⟨g2, 0, none⟩ (.int .i64 r')).setCell ⟨g2, 1, none⟩ (.int .i64 u')).heap[g2]? = some (.cells #[.int .i64 r', .int .i64 u', .int .i64 l, .int .i64 t] 24 (0, 0)) := by
    rw [set_heap (set_heap HY3.out.2.1 _) _]
    rfl
  have hx : ((w3.setCell ⟨g2, 0, none⟩ (.int .i64 r')).setCell ⟨g2, 1, none⟩ (.int .i64 u')).heap[g1]? = some (.cells #[.int .i64 r, .int .i64 u, .int .i64 l, .int .i64 t] 24 (0, 0)) := by
    rw [Below.heap_setCell _ _ _ _ (Nat.ne_of_lt hltx), Below.heap_setCell _ _ _ _ (Nat.ne_of_lt hltx)]
    exact HX3.out.2.1
  have hY : Bx w ((w3.setCell ⟨g2, 0, none⟩ (.int .i64 r')).setCell ⟨g2, 1, none⟩ (.int .i64 u')) g2 r' u' l t 24 := ⟨HY3.out.1, hy, hbs⟩
  have hX : Bx w ((w3.setCell ⟨g2, 0, none⟩ (.int .i64 r')).setCell ⟨g2, 1, none⟩ (.int .i64 u')) g1 r u l t 24 := ⟨HX3.out.1, hx, hbs⟩
  have hdr : Below ((w3.setCell ⟨g2, 0, none⟩ (.int .i64 r')).setCell ⟨g2, 1, none⟩ (.int .i64 u')).heap.size ((w3.setCell ⟨g2, 0, none⟩ (.int .i64 r')).setCell ⟨g2, 1, none⟩ (.int .i64 u')) ((w3.setCell ⟨g2, 0, none⟩ (.int .i64 r')).setCell ⟨g2, 1, none⟩ (.int .i64 u')).drew := (Below.refl _ _).drew
  have HY4 := Lib.hid (hY.on hdr)
  have HX4 := Lib.hid (hX.on hdr)
  clear hbs hy hx hY hX hdr
  go_cut [] from 35 (fun wc => wc = ((w3.setCell ⟨g2, 0, none⟩ (.int .i64 r')).setCell ⟨g2, 1, none⟩ (.int .i64 u')).drew)
  case first =>
    go_region_law
      (first
        | (go_simp; go_at_call 21; (with_reducible refine Calls.mono (HA1.out _) ?_); rintro e w' ⟨rfl, rfl⟩)
        | (go_simp; go_at_call 21; (with_reducible refine Calls.mono (HA2.out _) ?_); rintro e w' ⟨rfl, rfl⟩))
    all_goals (go_wp2_with fail; go_meet; exact rfl)
  case rest =>
    subst hcut
    generalize ((w3.setCell ⟨g2, 0, none⟩ (.int .i64 r')).setCell ⟨g2, 1, none⟩ (.int .i64 u')).drew = w4 at *
    clear y0 y1 y2 y3 fy0 fy1 p0 p1 HY3 HX3 HK3
    have HCK := Lib.hid (show ∀ W, Below w4.heap.size w4 W → (W.cell? ⟨g1, 0, none⟩ = some (.int .i64 r) ∧ W.cell? ⟨g1, 1, none⟩ = some (.int .i64 u) ∧ W.cell? ⟨g1, 2, none⟩ = some (.int .i64 l) ∧ W.cell? ⟨g1, 3, none⟩ = some (.int .i64 t)) ∧ (W.cell? ⟨g2, 0, none⟩ = some (.int .i64 r') ∧ W.cell? ⟨g2, 1, none⟩ = some (.int .i64 u') ∧ W.cell? ⟨g2, 2, none⟩ = some (.int .i64 l) ∧ W.cell? ⟨g2, 3, none⟩ = some (.int .i64 t)) ∧ Below w4.heap.size w4 W from fun W hb => ⟨(HX4.out.on hb).cells, (HY4.out.on hb).cells, hb⟩)
    go_wp2_with fail
    go_region_held (fun W => (W.cell? ⟨g1, 0, none⟩ = some (.int .i64 r) ∧ W.cell? ⟨g1, 1, none⟩ = some (.int .i64 u) ∧ W.cell? ⟨g1, 2, none⟩ = some (.int .i64 l) ∧ W.cell? ⟨g1, 3, none⟩ = some (.int .i64 t)) ∧ (W.cell? ⟨g2, 0, none⟩ = some (.int .i64 r') ∧ W.cell? ⟨g2, 1, none⟩ = some (.int .i64 u') ∧ W.cell? ⟨g2, 2, none⟩ = some (.int .i64 l) ∧ W.cell? ⟨g2, 3, none⟩ = some (.int .i64 t)) ∧ Below w4.heap.size w4 W)
      ((refine HCK.out _ ?_
        go_split_ands
        first
          | with_reducible exact (Below.refl _ _).drew
          | with_reducible assumption))
      (first
        | (go_at_call 13; go_split_ands; (with_reducible refine Calls.mono (alive_any _) ?_); rintro e w8 ⟨rfl, hb⟩; (have hb8 := seqB (by assumption) hb); clear hb)
        | (go_at_call 14; go_split_ands; (with_reducible refine Calls.mono (HR2.out _) ?_); rintro e w8 ⟨rfl, hb⟩; (have hb8 := seqB (by assumption) hb); clear hb)
        | (go_at_call 16; go_split_ands; (with_reducible refine Calls.mono (HF1.out _) ?_); rintro e w8 ⟨rfl, hb⟩; (have hb8 := seqB (by assumption) hb); clear hb)
        | (go_at_call 16; go_split_ands; (with_reducible refine Calls.mono (HF2.out _) ?_); rintro e w8 ⟨rfl, hb⟩; (have hb8 := seqB (by assumption) hb); clear hb)
        | (go_at_call 18; go_split_ands; (with_reducible refine Calls.mono (HM1.out _) ?_); rintro e w8 ⟨rfl, hb⟩; (have hb8 := seqB (by assumption) hb); (have HBE := Lib.hid hb8); clear hb)
        | (go_at_call 18; go_split_ands; (with_reducible refine Calls.mono (HM2.out _) ?_); rintro e w8 ⟨rfl, hb⟩; (have hb8 := seqB (by assumption) hb); (have HBE := Lib.hid hb8); clear hb))
    go_wp2_with fail
    go_ret
    exact ⟨rfl, seqB HX4.out.2.2 HBE.out⟩
theorem walk (r u l t a b now : Int) (w : World) :
    Calls Try.prog 8 #[.agg #[.int .i64 r, .int .i64 u, .int .i64 l, .int .i64 t], .agg #[.int .i64 a, .int .i64 b], .int .i64 now] w fun e w' => e = .returned (.bool true) ∧ Below w.heap.size w w' := by
  by_cases h : rightB r u l t = true ∧ 0 ≤ a ∧ 0 ≤ b ∧ a ≤ 1000000 ∧ b ≤ 1000000
  · exact good r u l t a b now w h.1 ⟨h.2.1, h.2.2.2.1⟩ ⟨h.2.2.1, h.2.2.2.2⟩
  · exact idle r u l t a b now w h
end Go.Proofs.Ytidklcjacejkaaa.bucketMore
