/-
  Contracts: what cargo's own nearest, end, due, Ready, Next, Last and Len answer. Conditions: as each states.
  Contracts: what cargo's own due and Ready answer. Conditions: as each states.
  Contract: what cargo's own lay does. Conditions: as each states.
  Contracts: what cargo's Put and Hurry do. Conditions: as each states.
-/
import Derived.Test.YtlbihcpglcdmmaaGreatZ6
import Derived.Deep.RegionLaw
namespace Go.Proofs.YtlbihcpglcdmmaaGreat.gc
open Go.RowKit

set_option maxHeartbeats 400000 in
theorem tnear_any (n : Int) (w : World) : Calls Tryz.prog 64 #[.int .i64 n] w fun e w' => e = .returned (.int .i64 (near n)) ∧ w = w' := by
  go_enter Tryz.func64, Tryz.ntmps64
  go_wp2
  all_goals go_ret
  all_goals exact ⟨ret_int (by unfold near; (repeat' split at *) <;> omega), rfl⟩
set_option maxHeartbeats 400000 in
theorem tadd_any (a b : Int) (w : World) : Calls Tryz.prog 38 #[.int .i64 a, .int .i64 b] w fun e w' => e = .returned (.int .i64 (near (near a + near b))) ∧ w = w' := by
  have ha := near_range a
  have hb := near_range b
  go_enter Tryz.func38, Tryz.ntmps38
  go_wp2_with (go_at_call 64; refine (tnear_any _ _).mono ?_; rintro e w' ⟨rfl, rfl⟩)
  go_ret
  exact ⟨rfl, rfl⟩
set_option maxHeartbeats 400000 in
theorem cnear_any (a : Int) (w : World) : Calls Tryz.prog 87 #[.int .i64 a] w fun e w' => e = .returned (.int .i64 (near a)) ∧ w = w' := by
  have HE := Lib.hid (show near (near a + near 0) = near a by
    have h := near_range a
    rw [show near 0 = 0 from rfl, Int.add_zero]
    exact near_of _ h.1 h.2)
  go_enter Tryz.func87, Tryz.ntmps87
  go_wp2_with (go_at_call 38; refine (tadd_any _ _ _).mono ?_; rintro e w' ⟨rfl, rfl⟩)
  go_ret
  exact ⟨ret_int HE.out, rfl⟩
variable {w : World} {base g : Nat} {u : U} {S : ByteArray} {A : List Int} {last : Int} {M G : Nat} {ms : List Mk}
set_option maxHeartbeats 2000000 in
theorem end_raw (h : R w base g u S ms G last) (hb : G + S.size ≤ 2000000) :
    Calls Tryz.prog 88 #[.pointer (some ⟨g, 0, none⟩)] w fun e w' => e = .returned (.int .i64 ((G + S.size : Nat) : Int)) ∧ ∃ m, w' = w.drewN m := by
  obtain ⟨p, n, c, q, m, d, hr, rfl⟩ := h
  obtain ⟨g0, g1, g2, g3⟩ := hr.cells
  have hn := hr.sizes.1
  rw [← hn] at hb ⊢
  have HE := Lib.hid (Int.natCast_add G n)
  clear hr hn g1 g3
  go_enter Tryz.func88, Tryz.ntmps88
  go_wp2_with fail
  go_quiet (fail)
  go_wp2_with fail
  go_ret
  exact ⟨ret_int (by first | exact HE.out.symm | (rw [HE.out])), _, rfl⟩
set_option maxHeartbeats 2000000 in
theorem len_raw (h : R w base g u S ms G last) :
    Calls Tryz.prog 35 #[.pointer (some ⟨g, 0, none⟩)] w fun e w' => e = .returned (.int .i64 (S.size : Int)) ∧ w = w' := by
  obtain ⟨p, n, c, q, m, d, hr, rfl⟩ := h
  obtain ⟨g0, g1, g2, g3⟩ := hr.cells
  have hn := hr.sizes.1
  rw [← hn]
  clear hr hn g1 g2 g3
  go_enter Tryz.func35, Tryz.ntmps35
  go_wp2_with fail
  go_ret
  exact ⟨rfl, rfl⟩
/-- The closure that due hands to Search. -/
def Ask (b1 b2 k : Nat) (f : Bool) (w : World) : Prop := Calls Tryz.prog 91 #[.int .i64 (k : Int), .pointer (some ⟨b1, 0, none⟩), .pointer (some ⟨b2, 0, none⟩)] w fun e w' => e = .returned (.bool f) ∧ ∃ m, w' = w.drewN m
set_option maxHeartbeats 2000000 in
theorem ask_any (w : World) (b1 b2 g : Nat) (q : Option Addr) (m d k : Nat) (x t : Int) (h1 : w.cell? ⟨b1, 0, none⟩ = some (.pointer (some ⟨g, 0, none⟩))) (h2 : w.cell? ⟨b2, 0, none⟩ = some (.int .i64 x)) (h3 : w.cell? ⟨g, 1, none⟩ = some (.slice q m d)) (hk : k < m)
    (b o : Nat) (hq : q = some ⟨b, o, none⟩) (h4 : w.cell? ⟨b, o + k * 2, none⟩ = some (.int .i64 t)) : Ask b1 b2 k (decide (x < t)) w := by
  subst hq
  unfold Ask
  go_enter Tryz.func91, Tryz.ntmps91
  go_wp2_with fail
  go_quiet (fail)
  go_wp2_with fail
  go_ret
  exact ⟨rfl, _, rfl⟩
set_option maxHeartbeats 2000000 in
theorem search_any (n N : Nat) (hN : N ≤ n) (hn : n ≤ 1000000) (b1 b2 : Nat) (w : World) (hf : ∀ m i, i < n → Ask b1 b2 i (decide (N ≤ i)) (w.drewN m)) :
    Calls Tryz.prog 90 #[.int .i64 (n : Int), .func (.func 91) #[] #[.pointer (some ⟨b1, 0, none⟩), .pointer (some ⟨b2, 0, none⟩)]] w fun e w' => e = .returned (.int .i64 (N : Int)) ∧ ∃ m, w' = w.drewN m := by
  have HF := Lib.hid hf
  clear hf
  go_enter Tryz.func90, Tryz.ntmps90
  go_wp2_with fail
  go_loopw [5, 6] (fun s5 s6 wr => ∃ (lo hi k : Nat), s5 = .int .i64 lo ∧ s6 = .int .i64 hi ∧ lo ≤ N ∧ N ≤ hi ∧ hi ≤ n ∧ wr = w.drewN k) (fun s5 s6 _ => (intOf s6).toNat - (intOf s5).toNat)
  case atStart => exact ⟨0, n, 0, rfl, rfl, by omega, hN, Nat.le_refl _, rfl⟩
  case round =>
    obtain ⟨lo, hi, k, rfl, rfl, h1, h2, h3, rfl⟩ := hrel
    by_cases hlt : lo < hi
    · have hc := HF.out k ((lo + hi) / 2) (by omega)
      unfold Ask at hc
      rw [show (((lo + hi) / 2 : Nat) : Int) = ((lo : Int) + (hi : Int)) / 2 by omega] at hc
      by_cases hm : N ≤ (lo + hi) / 2
      · rw [decide_eq_true hm] at hc
        have HC := Lib.hid hc
        have HM := Lib.hid hm
        clear hc hm
        go_wp2_with (go_at_call 91; refine HC.out.mono ?_; rintro e w' ⟨rfl, j, rfl⟩)
        go_roundw
        case rel => exact ⟨lo, (lo + hi) / 2, k + j, rfl, by rw [show ((lo : Int) + (hi : Int)) / 2 = (((lo + hi) / 2 : Nat) : Int) by omega], h1, HM.out, by omega, rfl⟩
        case measure => simp [intOf]; omega
      · rw [decide_eq_false hm] at hc
        have HC := Lib.hid hc
        have HM := Lib.hid hm
        clear hc hm
        go_wp2_with (go_at_call 91; refine HC.out.mono ?_; rintro e w' ⟨rfl, j, rfl⟩)
        go_roundw
        case rel => exact ⟨(lo + hi) / 2 + 1, hi, k + j, by rw [show ((lo : Int) + (hi : Int)) / 2 + 1 = (((lo + hi) / 2 + 1 : Nat) : Int) by omega], rfl, by have := HM.out; omega, h2, h3, rfl⟩
        case measure => simp [intOf]; omega
    · obtain rfl : lo = N := by omega
      go_wp2_with fail
      go_ret
      exact ⟨rfl, k, rfl⟩
end Go.Proofs.YtlbihcpglcdmmaaGreat.gc
namespace Go.Proofs.YtlbihcpglcdmmaaGreat.gc
open Go.RowKit

variable {w : World} {base g : Nat} {u : U} {S : ByteArray} {A : List Int} {last : Int} {M G : Nat} {ms : List Mk}
set_option maxHeartbeats 2000000 in
theorem due_raw (h : R w base g u S ms G last) (hr : Rise ms) (hm : ms.length ≤ 1000000) (x : Int) {N : Nat} (hN : readyN (ms.map Prod.fst) x = N) :
    Calls Tryz.prog 69 #[.pointer (some ⟨g, 0, none⟩), .int .i64 x] w fun e w' => e = .returned (.int .i64 (N : Int)) ∧ Below w.heap.size w w' := by
  obtain ⟨p, n, c, q, m, d, hw, rfl⟩ := h
  have hNm : N ≤ m := by
    have := ready_le (ms.map Prod.fst) x
    rw [List.length_map, ← hw.sizes.2.1, hN] at this
    exact this
  have hml : m ≤ 1000000 := by rw [hw.sizes.2.1]; exact hm
  have hb := below2 w (.cells #[.pointer (some ⟨g, 0, none⟩)] 54 (0, 0)) (.cells #[.int .i64 x] 3 (0, 0))
  have h2 := two_blocks (Below.refl _ ((w.alloc (.cells #[.pointer (some ⟨g, 0, none⟩)] 54 (0, 0))).alloc (.cells #[.int .i64 x] 3 (0, 0))))
  have hw2 := hw.on hb
  obtain ⟨_, k1, _, _⟩ := hw2.cells
  have k2 := cell_of_row _ w.heap.size 0 _ _ _ h2.1
  have k3 := cell_of_row _ (w.heap.size + 1) 0 _ _ _ h2.2.1
  have HS := Lib.hid (search_any m N hNm hml w.heap.size (w.heap.size + 1) ((w.alloc (.cells #[.pointer (some ⟨g, 0, none⟩)] 54 (0, 0))).alloc (.cells #[.int .i64 x] 3 (0, 0))) (fun j i hi => by
    obtain ⟨b, o, e, c0, _⟩ := (hw2.on (below_drewN _ j)).mark hi
    rw [← hN, ← rise_ready hr x i (by rw [← hw.sizes.2.1]; exact hi)]
    exact ask_any _ _ _ g q m d i x _ k2 k3 k1 hi b o e c0))
  have HB := Lib.hid hb
  have K1 : ((w.alloc (.cells #[.pointer (some ⟨g, 0, none⟩)] 54 (0, 0))).alloc (.cells #[.int .i64 x] 3 (0, 0))).cell? ⟨g, 1, none⟩ = some (.slice q m d) := k1
  have K2 : ((w.alloc (.cells #[.pointer (some ⟨g, 0, none⟩)] 54 (0, 0))).alloc (.cells #[.int .i64 x] 3 (0, 0))).cell? ⟨w.heap.size, 0, none⟩ = some (.pointer (some ⟨g, 0, none⟩)) := k2
  clear h2 hw2 k1 k2 k3 hw hr hm hN hNm hml hb
  go_enter Tryz.func69, Tryz.ntmps69
  go_wp2_with fail
  refine HS.out.mono ?_
  rintro e w' ⟨rfl, j, hj⟩
  have HE := Lib.hid (show Below w.heap.size w w' by rw [hj]; exact seqB HB.out (below_drewN _ j))
  clear hj HS
  go_wp2_with fail
  go_ret
  exact ⟨rfl, HE.out⟩
set_option maxHeartbeats 2000000 in
theorem ready_raw (h : R w base g u S ms G last) (hr : Rise ms) (hm : ms.length ≤ 1000000) {e0 : Nat} (he : EndsM G ms e0) (hb : e0 ≤ 2000000) (x : Int) {N K : Nat} (hN : readyN (ms.map Prod.fst) x = N) (hK : endAt G ms N - G = K) :
    Calls Tryz.prog 46 #[.pointer (some ⟨g, 0, none⟩), .int .i64 x] w fun e w' => e = .returned (.int .i64 (K : Int)) ∧ Below w.heap.size w w' := by
  have HD := Lib.hid (due_raw h hr hm x hN)
  have hNm : N ≤ ms.length := by
    have := ready_le (ms.map Prod.fst) x
    rw [List.length_map, hN] at this
    exact this
  have hbd := end_bounds he N hNm
  have HH := Lib.hid h
  clear h hr hN
  cases N with
  | zero =>
    have hK0 : K = 0 := by
      have : endAt G ms 0 = G := rfl
      omega
    subst hK0
    clear hbd hK
    go_enter Tryz.func46, Tryz.ntmps46
    go_wp2_with fail
    refine HD.out.mono ?_
    rintro e w1 ⟨rfl, hb1⟩
    have HB := Lib.hid hb1
    clear hb1 HD
    go_wp2_with fail
    go_ret
    exact ⟨rfl, HB.out⟩
  | succ j =>
    have hE : (endAt G ms (j + 1) : Nat) = (ms.getD j noMk).2 := rfl
    rw [hE] at hK hbd
    have HM := Lib.hid hm
    obtain ⟨y, hy⟩ : ∃ y, (ms.getD j noMk).2 = y := ⟨_, rfl⟩
    rw [hy] at hK hbd
    have HY := Lib.hid hy
    have hyK : (y : Int) - (G : Int) = (K : Int) := by omega
    have HKK := Lib.hid hyK
    rw [Int.natCast_add, Int.natCast_one] at HD
    clear hE hy hK hm
    go_enter Tryz.func46, Tryz.ntmps46
    go_wp2_with fail
    refine HD.out.mono ?_
    rintro e w1 ⟨rfl, hb1⟩
    have HB := Lib.hid hb1
    obtain ⟨p, n, c, q, m, d, hw, _⟩ := HH.out.on hb1
    obtain ⟨_, g1, g2, _⟩ := hw.cells
    obtain ⟨_, hml, _, hmd, _, hd⟩ := hw.sizes
    have hjm : j < m := by omega
    obtain ⟨b, o, rfl, _, c1⟩ := hw.mark hjm
    rw [HY.out] at c1
    have hmM : m ≤ 1000000 := by rw [hml]; exact HM.out
    clear hb1 hw hml HD HH HY
    go_wp2_with fail
    go_quiet (fail)
    go_wp2_with fail
    go_ret
    exact ⟨ret_int (by first | exact HKK.out | rfl), seqB HB.out (below_drewN _ _)⟩
end Go.Proofs.YtlbihcpglcdmmaaGreat.gc
namespace Go.Proofs.YtlbihcpglcdmmaaGreat.gc
open Go.RowKit

theorem add_zero' (a : Addr) : a.add 0 = a := by cases a; simp [Addr.add]
theorem map_zero (p : Option Addr) : p.map (·.add 0) = p := by cases p <;> simp [add_zero']
theorem elemM : Tryz.prog.underlying 83 = some (.slice (Tryz.prog.elem 83)) := by kernel_rfl
theorem sizeM (w : World) : (sizeOf (Tryz.prog.elem 83)).run Tryz.prog w = .ok 2 w := by kernel_rfl
theorem elemB : Tryz.prog.underlying 67 = some (.slice (Tryz.prog.elem 67)) := by kernel_rfl
theorem sizeB (w : World) : (sizeOf (Tryz.prog.elem 67)).run Tryz.prog w = .ok 1 w := by kernel_rfl
theorem mks_to (p : Option Addr) (n c N : Nat) (h : N ≤ c) (w : World) : (Instr.slice 83 (.slice p n c) none (some (.int .i64 (N : Int))) none).run Tryz.prog w = .ok (.slice p N c) w := by
  rw [run_slice_h (P := Tryz.prog) w 83 p n c elemM .i64 (N : Int) (by omega) (by omega), sizeM]
  simp [Result.andThen, sliced, map_zero]
theorem mks_from (p : Option Addr) (n c N : Nat) (h : N ≤ n) (w : World) : (Instr.slice 83 (.slice p n c) (some (.int .i64 (N : Int))) none none).run Tryz.prog w = .ok (.slice (if c = N then p else p.map (·.add (N * 2))) (n - N) (c - N)) w := by
  rw [run_slice_l (P := Tryz.prog) w 83 p n c elemM .i64 (N : Int) (by omega) (by omega), sizeM]
  simp [Result.andThen, sliced]
theorem row_to (p : Option Addr) (n c N : Nat) (h : N ≤ c) (w : World) : (Instr.slice 67 (.slice p n c) none (some (.int .i64 (N : Int))) none).run Tryz.prog w = .ok (.slice p N c) w := by
  rw [run_slice_h (P := Tryz.prog) w 67 p n c elemB .i64 (N : Int) (by omega) (by omega), sizeB]
  simp [Result.andThen, sliced, map_zero]
theorem row_from (p : Option Addr) (n c N : Nat) (h : N ≤ n) (w : World) : (Instr.slice 67 (.slice p n c) (some (.int .i64 (N : Int))) none none).run Tryz.prog w = .ok (.slice (if c = N then p else p.map (·.add (N * 1))) (n - N) (c - N)) w := by
  rw [run_slice_l (P := Tryz.prog) w 67 p n c elemB .i64 (N : Int) (by omega) (by omega), sizeB]
  simp [Result.andThen, sliced]
theorem row_part (p : Option Addr) (n c L N : Nat) (hL : L ≤ N) (h : N ≤ c) (w : World) : (Instr.slice 67 (.slice p n c) (some (.int .i64 (L : Int))) (some (.int .i64 (N : Int))) none).run Tryz.prog w = .ok (.slice (if c = L then p else p.map (·.add (L * 1))) (N - L) (c - L)) w := by
  rw [run_slice_lh (P := Tryz.prog) w 67 p n c elemB .i64 .i64 (L : Int) (N : Int) (by omega) (by omega) (by omega), sizeB]
  simp [Result.andThen, sliced]
theorem infoM : (Tryz.prog.info? 104).map (fun i => (i.zero, i.size, i.bytes)) = some (some (.agg #[.int .i64 0, .int .i64 0]), 2, 16) := by kernel_rfl
/-- A mark was laid. -/
def Laid (w : World) (base g : Nat) (u : U) (S : ByteArray) (ms : List Mk) (G : Nat) (last : Int) (e : Ending) (w' : World) : Prop := e = .returned (.tuple #[]) ∧ ∃ u', Chg w base g u u' S ms G last w'
variable {w : World} {base g : Nat} {u : U} {S : ByteArray} {A : List Int} {last : Int} {M G : Nat} {ms : List Mk}
/-- One mark more behind the first K of them: what it comes to, at any world since. -/
theorem lay_app {p q : Option Addr} {n c m d : Nat} (h : Raw w base g p n c q m d S ms G last) (K K1 : Nat) (hK1 : K + 1 = K1) (hK : K ≤ m) (hm : m ≤ 1000000) (t : Int) (e : Nat) (W : World) (hb : Below w.heap.size w W) :
    ∃ q' d' w', (∀ ty, (Builtin.append_ #[83, 83] ty #[.slice q K d, .slice (some ⟨W.heap.size, 0, none⟩) 1 1]).run Tryz.prog (W.alloc (.cells #[.int .i64 t, .int .i64 (e : Int)] 104)) = .ok (.slice q' K1 d') w') ∧ w'.frozen? ⟨g, 1, none⟩ = false ∧ g < w'.heap.size ∧ (∃ v, w'.cell? ⟨g, 1, none⟩ = some v) ∧
      Chg w base g (Go.Proofs.YtlbihcpglcdmmaaGreat.gc.blk p, Go.Proofs.YtlbihcpglcdmmaaGreat.gc.blk q) (Go.Proofs.YtlbihcpglcdmmaaGreat.gc.blk p, Go.Proofs.YtlbihcpglcdmmaaGreat.gc.blk q') S (ms.take K ++ [(t, e)]) G last (w'.setCell ⟨g, 1, none⟩ (.slice q' K1 d')) := by
  subst hK1
  obtain ⟨i0, hi0, hz0, hz1, hz2⟩ := info_parts infoM
  have hW := h.on hb
  have hal : Below W.heap.size W (W.alloc (.cells #[.int .i64 t, .int .i64 (e : Int)] 104)) := (Below.refl _ _).alloc (Nat.le_refl _) _
  have hV := hW.on hal
  have hnew := heap_alloc_new W (.cells #[.int .i64 t, .int .i64 (e : Int)] 104)
  have hcut := hV.mks.take K hK
  rw [← flatM_take] at hcut
  obtain ⟨q', d', w', r1, r2, r3, r4⟩ := app_row hcut (Nat.le_trans hV.base (Nat.le_of_lt (blk_lt hV.blk))) (t := 83) Tryz.underlying83 hi0 hz0 hz1 hz2 rfl (by decide) (a := ⟨W.heap.size, 0, none⟩) (m := 1) (d := 1) (news := flatM [(t, e)]) rfl (by
    intro j v hj
    rw [WideShapes.add_plain]
    have hj1 : j < 2 := by have := (List.getElem?_eq_some_iff.mp hj).1; simpa [flatM] using this
    rcases (show j = 0 ∨ j = 1 by omega) with rfl | rfl
    · rw [← hj]; exact cell_of_row _ _ 0 _ _ _ hnew
    · rw [← hj]; exact cell_of_row _ _ 1 _ _ _ hnew) (flatM_one _) (by unfold maxLen; omega) (by omega)
  rw [← flatM_append] at r2
  have hblk : w'.heap[g]? = some (.cells #[.slice p n c, .slice q m d, .int .i64 (G : Int), .int .i64 last] 85 (0, 0)) := by
    refine (r3.block g (blk_lt hV.blk) fun e => ?_).trans hV.blk
    obtain ⟨a, ha, hab⟩ := blk_some e.symm
    obtain ⟨cs, h3⟩ := hV.mks.typed a ha
    rw [hab] at h3
    have := two_types hV.blk h3
    simp at this
  have hrow : ORow w' base 5 1 p n c ((nums S).map (Value.int .u8)) := hV.row.keep fun a ha => r3.block _ (hV.row.lt a ha).2 fun e => by
    obtain ⟨a', ha', hab⟩ := blk_some e.symm
    obtain ⟨cs, h3⟩ := hV.mks.typed a' ha'
    obtain ⟨cs', h4⟩ := hV.row.typed a ha
    rw [hab] at h3
    have := two_types h4 h3
    simp at this
  have hs := Nat.le_trans hb.size hal.size
  refine ⟨q', d', w', r1, frozen_at hblk, blk_lt hblk, ⟨_, cell_of_row _ _ 1 _ _ _ hblk⟩, (Raw.set1 hblk hrow h.base r2).r, ⟨fun i hi => Or.inl hi, fun i hi => ?_⟩, kept_set (kept_mks (kept_below (seqB hb hal) g _) r3) 1 _⟩
  obtain ⟨x, hx, rfl⟩ := blk_some hi
  rcases r4 x hx with h5 | h5
  · exact Or.inl h5
  · right; omega
set_option maxHeartbeats 2000000 in
theorem lay_some {p q : Option Addr} {n c m d : Nat} (h : Raw w base g p n c q m d S ms G last) (hb : G + S.size ≤ 2000000) (hm : m ≤ 1000000) (t : Int) (y : Nat) (h0 : 0 < m) (he : ms.getD (m - 1) noMk = (t, y)) :
    Calls Tryz.prog 89 #[.pointer (some ⟨g, 0, none⟩), .int .i64 t, .int .i64 (y : Int)] w (Laid w base g (Go.Proofs.YtlbihcpglcdmmaaGreat.gc.blk p, Go.Proofs.YtlbihcpglcdmmaaGreat.gc.blk q) S (ms.take (m - 1) ++ [(t, G + S.size)]) G last) := by
  have hmd := h.sizes.2.2.2.1
  have hd := h.sizes.2.2.2.2.2
  obtain ⟨E, hE⟩ : ∃ E, G + S.size = E := ⟨_, rfl⟩
  have HA := Lib.hid (fun W hW => lay_app h (m - 1) m (by omega) (by omega) hm t E W hW)
  have HE := Lib.hid (fun W (hW : Below w.heap.size w W) => end_raw (h.on hW).r hb)
  rw [hE] at HE ⊢
  have hsl := mks_to q m d (m - 1) (by omega)
  rw [show ((m - 1 : Nat) : Int) = (m : Int) - 1 by omega] at hsl
  obtain ⟨_, g1, _, _⟩ := h.cells
  obtain ⟨b, o, rfl, c0, c1⟩ := h.mark (k := m - 1) (by omega)
  rw [he] at c0 c1
  have HC := Lib.hid (fun W (hW : Below w.heap.size w W) => (⟨(h.on hW).cells.2.1, hW⟩ : W.cell? ⟨g, 1, none⟩ = some (.slice (some ⟨b, o, none⟩) m d) ∧ Below w.heap.size w W))
  clear h hb he hE
  go_enter Tryz.func89, Tryz.ntmps89
  go_wp2_with fail
  go_region_law
    (first
      | (go_simp; go_at_call 88; refine Calls.mono (HE.out _ (Below.refl _ _).drew) ?_; rintro e w2 ⟨rfl, j, hj⟩; (have hb2 := seqB (Below.refl _ w).drew (show Below _ _ w2 by rw [hj]; exact below_drewN _ j)); clear hj; (obtain ⟨q', d', w3, hrun, hf, hlt, ⟨vv, hcell⟩, hch⟩ := HA.out w2 hb2); (have HR := Lib.hid hrun); (have HCH := Lib.hid hch); (have k1 := (HC.out w2 hb2).1); (have hbl2 := World.block_lt_of_cell? w2 _ k1); clear hrun hch hb2)
      | (refine step_append_eq rfl (.tmp 36) (.tmp 41) 83 83 rfl (.slice (some ⟨b, o, none⟩) (m - 1) d) (.slice (some ⟨w2.heap.size, 0, none⟩) 1 1) rfl rfl HR.out ?_))
  all_goals go_wp2_with fail
  all_goals go_end0
  all_goals exact ⟨rfl, _, HCH.out⟩
set_option maxHeartbeats 2000000 in
theorem lay_more1 {p q : Option Addr} {n c m d : Nat} (h : Raw w base g p n c q m d S ms G last) (hb : G + S.size ≤ 2000000) (hm : m ≤ 1000000) (t : Int) (y : Nat) (h0 : 0 < m) {t' : Int} {y' : Nat} (he : ms.getD (m - 1) noMk = (t', y')) (hne : ¬ t' = t) :
    Calls Tryz.prog 89 #[.pointer (some ⟨g, 0, none⟩), .int .i64 t, .int .i64 (y : Int)] w (Laid w base g (Go.Proofs.YtlbihcpglcdmmaaGreat.gc.blk p, Go.Proofs.YtlbihcpglcdmmaaGreat.gc.blk q) S (ms.take m ++ [(t, G + S.size)]) G last) := by
  have hmd := h.sizes.2.2.2.1
  have hd := h.sizes.2.2.2.2.2
  obtain ⟨E, hE⟩ : ∃ E, G + S.size = E := ⟨_, rfl⟩
  obtain ⟨m1, hm1⟩ : ∃ m1, m + 1 = m1 := ⟨_, rfl⟩
  have HA := Lib.hid (fun W hW => lay_app h m m1 hm1 (by omega) hm t E W hW)
  have HE := Lib.hid (fun W (hW : Below w.heap.size w W) => end_raw (h.on hW).r hb)
  rw [hE] at HE ⊢
  have hsl := mks_to q m d m (by omega)
  obtain ⟨_, g1, _, _⟩ := h.cells
  obtain ⟨b, o, rfl, c0, c1⟩ := h.mark (k := m - 1) (by omega)
  rw [he] at c0 c1
  have dn : (t' == t) = false := by simpa using hne
  have HC := Lib.hid (fun W (hW : Below w.heap.size w W) => (⟨(h.on hW).cells.2.1, hW⟩ : W.cell? ⟨g, 1, none⟩ = some (.slice (some ⟨b, o, none⟩) m d) ∧ Below w.heap.size w W))
  clear h hb he hE hm1
  go_enter Tryz.func89, Tryz.ntmps89
  go_wp2_with fail
  go_region_law
    (first
      | (go_simp; go_at_call 88; refine Calls.mono (HE.out _ (Below.refl _ _).drew) ?_; rintro e w2 ⟨rfl, j, hj⟩; (have hb2 := seqB (Below.refl _ w).drew (show Below _ _ w2 by rw [hj]; exact below_drewN _ j)); clear hj; (obtain ⟨q', d', w3, hrun, hf, hlt, ⟨vv, hcell⟩, hch⟩ := HA.out w2 hb2); (have HR := Lib.hid hrun); (have HCH := Lib.hid hch); (have k1 := (HC.out w2 hb2).1); (have hbl2 := World.block_lt_of_cell? w2 _ k1); clear hrun hch hb2)
      | (refine step_append_eq rfl (.tmp 36) (.tmp 41) 83 83 rfl (.slice (some ⟨b, o, none⟩) m d) (.slice (some ⟨w2.heap.size, 0, none⟩) 1 1) rfl rfl HR.out ?_))
  all_goals go_wp2_with fail
  all_goals go_end0
  all_goals exact ⟨rfl, _, HCH.out⟩
set_option maxHeartbeats 2000000 in
theorem lay_more2 {p q : Option Addr} {n c m d : Nat} (h : Raw w base g p n c q m d S ms G last) (hb : G + S.size ≤ 2000000) (hm : m ≤ 1000000) (t : Int) (y : Nat) (h0 : 0 < m) {y' : Nat} (he : ms.getD (m - 1) noMk = (t, y')) (hne : ¬ y' = y) :
    Calls Tryz.prog 89 #[.pointer (some ⟨g, 0, none⟩), .int .i64 t, .int .i64 (y : Int)] w (Laid w base g (Go.Proofs.YtlbihcpglcdmmaaGreat.gc.blk p, Go.Proofs.YtlbihcpglcdmmaaGreat.gc.blk q) S (ms.take m ++ [(t, G + S.size)]) G last) := by
  have hmd := h.sizes.2.2.2.1
  have hd := h.sizes.2.2.2.2.2
  obtain ⟨E, hE⟩ : ∃ E, G + S.size = E := ⟨_, rfl⟩
  obtain ⟨m1, hm1⟩ : ∃ m1, m + 1 = m1 := ⟨_, rfl⟩
  have HA := Lib.hid (fun W hW => lay_app h m m1 hm1 (by omega) hm t E W hW)
  have HE := Lib.hid (fun W (hW : Below w.heap.size w W) => end_raw (h.on hW).r hb)
  rw [hE] at HE ⊢
  have hsl := mks_to q m d m (by omega)
  obtain ⟨_, g1, _, _⟩ := h.cells
  obtain ⟨b, o, rfl, c0, c1⟩ := h.mark (k := m - 1) (by omega)
  rw [he] at c0 c1
  have hn2 : ¬ (y' : Int) = (y : Int) := by omega
  have dn : ((y' : Int) == (y : Int)) = false := by simpa using hn2
  have HC := Lib.hid (fun W (hW : Below w.heap.size w W) => (⟨(h.on hW).cells.2.1, hW⟩ : W.cell? ⟨g, 1, none⟩ = some (.slice (some ⟨b, o, none⟩) m d) ∧ Below w.heap.size w W))
  clear h hb he hE hm1 hne
  go_enter Tryz.func89, Tryz.ntmps89
  go_wp2_with fail
  go_region_law
    (first
      | (go_simp; go_at_call 88; refine Calls.mono (HE.out _ (Below.refl _ _).drew) ?_; rintro e w2 ⟨rfl, j, hj⟩; (have hb2 := seqB (Below.refl _ w).drew (show Below _ _ w2 by rw [hj]; exact below_drewN _ j)); clear hj; (obtain ⟨q', d', w3, hrun, hf, hlt, ⟨vv, hcell⟩, hch⟩ := HA.out w2 hb2); (have HR := Lib.hid hrun); (have HCH := Lib.hid hch); (have k1 := (HC.out w2 hb2).1); (have hbl2 := World.block_lt_of_cell? w2 _ k1); clear hrun hch hb2)
      | (refine step_append_eq rfl (.tmp 36) (.tmp 41) 83 83 rfl (.slice (some ⟨b, o, none⟩) m d) (.slice (some ⟨w2.heap.size, 0, none⟩) 1 1) rfl rfl HR.out ?_))
  all_goals go_wp2_with fail
  all_goals go_end0
  all_goals exact ⟨rfl, _, HCH.out⟩
set_option maxHeartbeats 2000000 in
theorem lay_zero {p q : Option Addr} {n c d : Nat} (h : Raw w base g p n c q 0 d S ms G last) (hb : G + S.size ≤ 2000000) (t : Int) (y : Nat) :
    Calls Tryz.prog 89 #[.pointer (some ⟨g, 0, none⟩), .int .i64 t, .int .i64 (y : Int)] w (Laid w base g (Go.Proofs.YtlbihcpglcdmmaaGreat.gc.blk p, Go.Proofs.YtlbihcpglcdmmaaGreat.gc.blk q) S (ms.take 0 ++ [(t, G + S.size)]) G last) := by
  have hd := h.sizes.2.2.2.2.2
  obtain ⟨E, hE⟩ : ∃ E, G + S.size = E := ⟨_, rfl⟩
  have HA := Lib.hid (fun W hW => lay_app h 0 1 rfl (by omega) (by omega) t E W hW)
  have HE := Lib.hid (fun W (hW : Below w.heap.size w W) => end_raw (h.on hW).r hb)
  rw [hE] at HE ⊢
  have hsl := mks_to q 0 d 0 (by omega)
  rw [show ((0 : Nat) : Int) = 0 from rfl] at hsl
  obtain ⟨_, g1, _, _⟩ := h.cells
  have HC := Lib.hid (fun W (hW : Below w.heap.size w W) => (⟨(h.on hW).cells.2.1, hW⟩ : W.cell? ⟨g, 1, none⟩ = some (.slice q 0 d) ∧ Below w.heap.size w W))
  clear h hb hE
  go_enter Tryz.func89, Tryz.ntmps89
  go_wp2_with fail
  go_region_law
    (first
      | (go_simp; go_at_call 88; refine Calls.mono (HE.out _ (Below.refl _ _).drew) ?_; rintro e w2 ⟨rfl, j, hj⟩; (have hb2 := seqB (Below.refl _ w).drew (show Below _ _ w2 by rw [hj]; exact below_drewN _ j)); clear hj; (obtain ⟨q', d', w3, hrun, hf, hlt, ⟨vv, hcell⟩, hch⟩ := HA.out w2 hb2); (have HR := Lib.hid hrun); (have HCH := Lib.hid hch); (have k1 := (HC.out w2 hb2).1); (have hbl2 := World.block_lt_of_cell? w2 _ k1); clear hrun hch hb2)
      | (refine step_append_eq rfl (.tmp 36) (.tmp 41) 83 83 rfl (.slice q 0 d) (.slice (some ⟨w2.heap.size, 0, none⟩) 1 1) rfl rfl HR.out ?_))
  all_goals go_wp2_with fail
  all_goals go_end0
  all_goals exact ⟨rfl, _, HCH.out⟩
/-- A mark is laid for the bytes from y on. -/
theorem lay_raw (h : R w base g u S ms G last) (hb : G + S.size ≤ 2000000) (hm : ms.length ≤ 1000000) (t : Int) (y : Nat) :
    Calls Tryz.prog 89 #[.pointer (some ⟨g, 0, none⟩), .int .i64 t, .int .i64 (y : Int)] w (Laid w base g u S (layM ms t y (G + S.size)) G last) := by
  obtain ⟨p, n, c, q, m, d, hr, rfl⟩ := h
  have hml := hr.sizes.2.1
  have hmm : m ≤ 1000000 := by omega
  unfold layM layK
  by_cases h0 : 0 < m
  · obtain ⟨l, dd, hl⟩ : ∃ l dd, ms = l ++ [dd] := by
      rcases List.eq_nil_or_concat ms with h1 | ⟨l, dd, h1⟩
      · rw [h1] at hml; simp at hml; omega
      · exact ⟨l, dd, by simpa using h1⟩
    have hg : ms.getD (m - 1) noMk = dd := by
      rw [hl, List.length_append, List.length_singleton] at hml
      rw [hl, hml, List.getD_eq_getElem?_getD, Nat.add_sub_cancel, List.getElem?_append_right (Nat.le_refl _)]
      simp
    have hlast : ms.getLast? = some dd := by rw [hl, List.getLast?_concat]
    rw [hlast, ← hml]
    obtain ⟨t', y'⟩ := dd
    by_cases hh : (t', y') = (t, y)
    · rw [if_pos (by rw [hh])]
      exact lay_some hr hb hmm t y h0 (hg.trans hh)
    · rw [if_neg (by intro e; injection e with e; exact hh e)]
      by_cases ht : t' = t
      · subst ht
        exact lay_more2 hr hb hmm t' y h0 hg (fun e => hh (by rw [e]))
      · exact lay_more1 hr hb hmm t y h0 hg ht
  · obtain rfl : m = 0 := by omega
    have hms : ms = [] := List.eq_nil_of_length_eq_zero hml.symm
    rw [hms] at hr ⊢
    exact lay_zero hr hb t y
end Go.Proofs.YtlbihcpglcdmmaaGreat.gc
namespace Go.Proofs.YtlbihcpglcdmmaaGreat.gc
open Go.RowKit

theorem quiet_left {P : Program} {f : FuncId} {args : Array Value} {w : World} {n : Nat} {v : Value} (h : Calls P f args (w.drewN n) fun e w' => e = .returned v ∧ w.drewN n = w') :
    Calls P f args (w.drewN n) fun e w'' => e = .returned v ∧ ∃ m, w'' = w.drewN m := h.mono fun _ _ ⟨he, hm⟩ => ⟨he, n, hm.symm⟩
theorem max_putT (last a : Int) : max (near a) last = putT last a := by unfold putT; split <;> omega
variable {w : World} {base g : Nat} {u : U} {S : ByteArray} {A : List Int} {last : Int} {M G : Nat} {ms : List Mk}
/-- Bytes put behind the row: what it comes to, at any world since. -/
theorem row_app {p q : Option Addr} {n c m d : Nat} (h : Raw w base g p n c q m d S ms G last) {pa : Option Addr} {na ca N1 : Nat} {s : ByteArray} (hs : s.size = na) (h0 : 0 < na) (hi : Lib.BytesIn w pa na (nums s)) (hN1 : n + na = N1) (hbig : N1 ≤ 2000000) (W : World) (hb : Below w.heap.size w W) :
    ∃ p' c' w', (∀ ty, (Builtin.append_ #[67, 67] ty #[.slice p n c, .slice pa na ca]).run Tryz.prog W = .ok (.slice p' N1 c') w') ∧ w'.frozen? ⟨g, 0, none⟩ = false ∧ g < w'.heap.size ∧ (∃ v, w'.cell? ⟨g, 0, none⟩ = some v) ∧
      Chg w base g (Go.Proofs.YtlbihcpglcdmmaaGreat.gc.blk p, Go.Proofs.YtlbihcpglcdmmaaGreat.gc.blk q) (Go.Proofs.YtlbihcpglcdmmaaGreat.gc.blk p', Go.Proofs.YtlbihcpglcdmmaaGreat.gc.blk q) (S ++ s) ms G last (w'.setCell ⟨g, 0, none⟩ (.slice p' N1 c')) := by
  subst hN1
  obtain ⟨i0, hi0, hz0, hz1, hz2⟩ := info_parts info5
  have hW := h.on hb
  have hiW := bytes_on hi hb
  obtain ⟨b, o, rfl, hc⟩ := hiW.at h0
  obtain ⟨p', c', w', r1, r2, r3, r4⟩ := app_row hW.row (Nat.le_trans hW.base (Nat.le_of_lt (blk_lt hW.blk))) (t := 67) Tryz.underlying67 hi0 hz0 hz1 hz2 rfl (by decide) (a := ⟨b, o, none⟩) (m := na) (d := ca) (news := (nums s).map (Value.int .u8)) (by rw [List.length_map, nums_length, hs, Nat.mul_one]) (by
    intro j v hj
    have hj1 : j < (nums s).length := by have := (List.getElem?_eq_some_iff.mp hj).1; simpa using this
    rw [nums_length] at hj1
    rw [WideShapes.add_plain, hc j (by omega)]
    rw [List.getElem?_map, List.getElem?_eq_getElem (by rw [nums_length]; exact hj1)] at hj
    rw [List.getD_eq_getElem?_getD, List.getElem?_eq_getElem (by rw [nums_length]; exact hj1)]
    exact hj) (by simp [Value.oneCell']) (by unfold maxLen; omega) (by omega)
  rw [← List.map_append, ← append_nums'] at r2
  have hblk : w'.heap[g]? = some (.cells #[.slice p n c, .slice q m d, .int .i64 (G : Int), .int .i64 last] 85 (0, 0)) := by
    refine (r3.block g (blk_lt hW.blk) fun e => ?_).trans hW.blk
    obtain ⟨a, ha, hab⟩ := blk_some e.symm
    obtain ⟨cs, h3⟩ := hW.row.typed a ha
    rw [hab] at h3
    have := two_types hW.blk h3
    simp at this
  have hmks : ORow w' base 104 2 q m d (flatM ms) := hW.mks.keep fun a ha => r3.block _ (hW.mks.lt a ha).2 fun e => by
    obtain ⟨a', ha', hab⟩ := blk_some e.symm
    obtain ⟨cs, h3⟩ := hW.row.typed a' ha'
    obtain ⟨cs', h4⟩ := hW.mks.typed a ha
    rw [hab] at h3
    have := two_types h4 h3
    simp at this
  have hsz := hb.size
  refine ⟨p', c', w', r1, frozen_at hblk, blk_lt hblk, ⟨_, cell_of_row _ _ 0 _ _ _ hblk⟩, (Raw.set0 hblk hmks h.base r2).r, ⟨fun i hi => ?_, fun i hi => Or.inl hi⟩, kept_set (kept_row (kept_below hb g _) r3) 0 _⟩
  obtain ⟨x, hx, rfl⟩ := blk_some hi
  rcases r4 x hx with h5 | h5
  · exact Or.inl h5
  · right; omega
/-- What Put hands back: the tick, and bytes s more. -/
def Puts (w : World) (base g : Nat) (u : U) (S : ByteArray) (ms : List Mk) (G : Nat) (last t : Int) (e : Ending) (w' : World) : Prop := e = .returned (.int .i64 t) ∧ ∃ u', Chg w base g u u' S ms G last w'
theorem chg_last {u1 : U} {w' : World} (hc : Chg w base g u u1 S ms G last w') (t : Int) : Chg w base g u u1 S ms G t (w'.setCell ⟨g, 3, none⟩ (.int .i64 t)) := by
  obtain ⟨p, n, c, q, m, d, hr, rfl⟩ := hc.r
  exact ⟨(hr.set3 t).r, hc.n, kept_set hc.k 3 _⟩
theorem R.field (h : R w base g u S ms G last) : (∀ i, w.frozen? ⟨g, i, none⟩ = false) ∧ (∃ v, w.cell? ⟨g, 0, none⟩ = some v) ∧ (∃ v, w.cell? ⟨g, 1, none⟩ = some v) ∧ w.cell? ⟨g, 2, none⟩ = some (.int .i64 (G : Int)) ∧ w.cell? ⟨g, 3, none⟩ = some (.int .i64 last) := by
  obtain ⟨p, n, c, q, m, d, hr, rfl⟩ := h
  obtain ⟨g0, g1, g2, g3⟩ := hr.cells
  exact ⟨fun i => frozen_at hr.blk, ⟨_, g0⟩, ⟨_, g1⟩, g2, g3⟩
set_option maxHeartbeats 4000000 in
theorem put_none (h : R w base g u S ms G last) (a : Int) (pa : Option Addr) (ca : Nat) :
    Calls Tryz.prog 68 #[.pointer (some ⟨g, 0, none⟩), .int .i64 a, .slice pa 0 ca] w (Puts w base g u S ms G last (putT last a)) := by
  have g3 := h.field.2.2.2.2
  have HX := max_putT last a
  generalize putT last a = X at *
  have HC := Lib.hid (fun j => (chg_same h).post (below_drewN w j))
  clear h
  go_enter Tryz.func68, Tryz.ntmps68
  go_wp2_with fail
  go_quiet ((go_at_call 87; exact quiet_left (cnear_any _ _)))
  go_wp2_with fail
  go_ret
  exact ⟨rfl, _, HC.out nq⟩
set_option maxHeartbeats 4000000 in
theorem put_some (h : R w base g u S ms G last) (hm : ms.length ≤ 1000000) (a : Int) {pa : Option Addr} {na ca : Nat} {s : ByteArray} (hs : s.size = na) (h0 : 0 < na) (hi : Lib.BytesIn w pa na (nums s)) (hbig : G + S.size + na ≤ 1000000) {X : Int} (hX : putT last a = X) :
    Calls Tryz.prog 68 #[.pointer (some ⟨g, 0, none⟩), .int .i64 a, .slice pa na ca] w (Puts w base g u (S ++ s) (layM ms X (G + S.size) (G + (S ++ s).size)) G X X) := by
  have g3 := h.field.2.2.2.2
  have HX := max_putT last a
  rw [hX] at HX
  have HE := Lib.hid (fun W (hW : Below w.heap.size w W) => end_raw (h.on hW) (by omega))
  have hT : (S ++ s).size = S.size + na := by rw [append_size', hs]
  obtain ⟨p, n, c, q, m, d, hr, rfl⟩ := h
  have hn := hr.sizes.1
  have hnc0 := hr.sizes.2.2.1
  have hc0 := hr.sizes.2.2.2.2.1
  have HA := Lib.hid (fun W hW => row_app (ca := ca) hr hs h0 hi (N1 := n + na) rfl (by omega) W hW)
  have HG := Lib.hid (fun W (hW : Below w.heap.size w W) => (⟨(hr.on hW).cells.1, frozen_at (hr.on hW).blk, blk_lt (hr.on hW).blk⟩ : W.cell? ⟨g, 0, none⟩ = some (.slice p n c) ∧ W.frozen? ⟨g, 0, none⟩ = false ∧ g < W.heap.size))
  have HL := Lib.hid (fun (W : World) (u1 : U) (hR : R W base g u1 (S ++ s) ms G last) => lay_raw hR (by omega) hm X (G + S.size))
  generalize G + (S ++ s).size = E1 at *
  obtain ⟨E, hE⟩ : ∃ E, G + S.size = E := ⟨_, rfl⟩
  rw [hE] at HE HL ⊢
  generalize n + na = N1 at HA
  clear hr hi hX hT hs hn hE
  go_enter Tryz.func68, Tryz.ntmps68
  go_wp2_with fail
  go_quiet ((go_at_call 87; exact quiet_left (cnear_any _ _)))
  have HB1 := Lib.hid (below_drewN w nq)
  clear g3
  generalize w.drewN nq = w1 at *
  go_wp2_with fail
  refine (HE.out _ HB1.out).mono ?_
  rintro e w2 ⟨rfl, j, hj⟩
  have hb2 : Below w.heap.size w w2 := seqB HB1.out (by rw [hj]; exact below_drewN _ j)
  obtain ⟨g0, gf0, hgl⟩ := HG.out w2 hb2
  obtain ⟨p', c', w3, hrun, hf, hlt, ⟨vv, hcell⟩, hch⟩ := HA.out w2 hb2
  have HR := Lib.hid hrun
  have HCH := Lib.hid hch
  clear hj hb2 hrun hch HA HG HE HB1
  go_wp2_with (at_builtin; refine Lib.wpList_append_run _ rfl _ _ _ _ rfl (.slice p n c) (.slice pa na ca) rfl rfl _ _ (HR.out _) ?_)
  clear hf hlt hcell g0 gf0 hgl
  generalize w3.setCell ⟨g, 0, none⟩ (.slice p' N1 c') = w4 at *
  refine (HL.out _ _ HCH.out.r).mono ?_
  rintro e w5 ⟨rfl, u', hc5⟩
  obtain ⟨f5, _, _, _, g5⟩ := hc5.r.field
  have f53 := f5 3
  have HC5 := Lib.hid (chg_last (HCH.out.seq hc5) X)
  clear hc5 f5 HCH HL
  go_wp2_with fail
  go_ret
  exact ⟨rfl, _, HC5.out⟩
end Go.Proofs.YtlbihcpglcdmmaaGreat.gc
