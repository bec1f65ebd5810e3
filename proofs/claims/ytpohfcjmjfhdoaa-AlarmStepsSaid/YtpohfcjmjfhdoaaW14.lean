/-
  Contracts: Check, Copy. Conditions: as each states.
-/
import Derived.Test.YtpohfcjmjfhdoaaW13
namespace Go.Proofs.Ytpohfcjmjfhdoaa
open Go.RowKit Go.Sort Go.Maps

set_option maxHeartbeats 8000000 in
set_option maxRecDepth 10000 in
theorem check_al {w : World} {base g : Nat} {u : Option Nat} {m : Nat} {L : List Due} {last : Int} (h : Al w base g u m L last) :
    Calls Try.prog 19 #[.pointer (some ⟨g, 0, none⟩)] w fun e w' => e = .returned (.bool true) ∧ Below w.heap.size w w' := by
  obtain ⟨s, hM, hL⟩ := h.ex
  have hcnt := len_int h.cnt h.top
  have hlen := hL.len
  have mixed := mixedT
  obtain ⟨p, c, HA⟩ : ∃ p c, Hid (∀ W, Below w.heap.size w W → W.cell? ⟨g, 0, none⟩ = some (.slice p s.h.length c) ∧ W.cell? ⟨g, 1, none⟩ = some (.map (some m)) ∧ (∀ ty, (Builtin.len_ #[60] ty #[.map (some m)]).run Try.prog W = .ok (.int .i64 (s.h.length : Int)) W)) := by
    obtain ⟨v, h1, h2, _⟩ := hM.ex
    obtain ⟨p, c, rfl, _⟩ := own_dues h2
    refine ⟨p, c, Lib.hid fun W hW => ?_⟩
    have hM' := hM.on hW
    have hh := (hW.block g (blk_lt h1)).trans h1
    exact ⟨cell_of_row _ g 0 _ _ _ hh, cell_of_row _ g 1 _ _ _ hh, fun ty => by rw [← hL.placed.sz]; exact map_len hM'.map ty⟩
  have HB := Lib.hid (show 0 < s.h.length → ∃ b c', p = some ⟨b, 0, none⟩ ∧ c = c' ∧ s.h.length ≤ c' ∧ ∀ W, Below w.heap.size w W → ∀ k, k < s.h.length → (W.cell? ⟨b, k * 2, none⟩ = some (.int .i64 (s.at k).1) ∧ W.cell? ⟨b, k * 2 + 1, none⟩ = some (.int .i64 (s.at k).2)) ∧ (Instr.lookup 60 (.map (some m)) (.int .i64 (s.at k).2) true).run Try.prog W = .ok (.tuple #[.int .i64 (k : Int), .bool true]) W from fun h0 => by
    obtain ⟨b, c', h1, h2, h3⟩ := mem_reads hM h0
    have e := (h3 w (Below.refl _ _)).1
    rw [(HA.out w (Below.refl _ _)).1] at e
    injection e with e
    injection e with e1 _ e2
    refine ⟨b, c', e1, e2, h1, fun W hW k hk => ⟨(h3 W hW).2.2 k hk, ?_⟩⟩
    have hr := map_look (hM.on hW).map (hL.wf (by have := h.top; omega) hk)
    rw [hL.placed.at_ k hk] at hr
    exact hr)
  have HP := Lib.hid (show ∀ k, k < s.h.length → up k < s.h.length ∧ aheadB (s.at k) (s.at (up k)) = false from fun k hk => by
    rcases Nat.eq_zero_or_pos k with rfl | h0
    · exact ⟨hk, ahead_irrefl _⟩
    · have := up_lt h0
      exact ⟨by omega, hL.heap k h0 hk⟩)
  obtain ⟨n, hn⟩ : ∃ n, s.h.length = n := ⟨_, rfl⟩
  rw [hn] at HA HB HP hlen
  obtain ⟨g0, _⟩ := HA.out w (Below.refl _ _)
  have hn1 : n ≤ 100000 := by omega
  clear h hM hL hcnt hlen hn
  go_enter Try.func19, Try.ntmps19
  go_wp2_with fail
  clear g0
  go_loopw [12] (fun i wr => ∃ (k : Nat), k ≤ n ∧ i = .int .i64 k ∧ Hid (Below w.heap.size w wr)) (fun i _ => n - (intOf i).toNat)
  case atStart => exact ⟨0, by omega, rfl, Lib.hid (Below.refl _ _)⟩
  case round =>
    obtain ⟨k, hk, rfl, HW⟩ := hrel
    by_cases hlt : k < n
    · obtain ⟨b, c', rfl, rfl, hc', hcell⟩ := HB.out (by omega)
      obtain ⟨hv, hah⟩ := HP.out k hlt
      have HUp := Lib.hid (above_grown k (by omega))
      obtain ⟨v, hvv⟩ : ∃ v, up k = v := ⟨_, rfl⟩
      rw [hvv] at hv hah HUp
      obtain ⟨x, hx⟩ : ∃ x, s.at k = x := ⟨_, rfl⟩
      obtain ⟨y, hy⟩ : ∃ y, s.at v = y := ⟨_, rfl⟩
      rw [hx, hy] at hah
      obtain ⟨x0, x1⟩ := x
      obtain ⟨y0, y1⟩ := y
      have HAh := Lib.hid (show ∀ W, Calls Try.prog 33 #[.agg #[.int .i64 x0, .int .i64 x1], .agg #[.int .i64 y0, .int .i64 y1]] W fun e' w' => e' = .returned (.bool false) ∧ ∃ q os', w' = grow (W.drewN q) os' from fun W => by
        have := ahead_any (x0, x1) (y0, y1) W
        rw [hah] at this
        exact this)
      have HC := Lib.hid (show ∀ W, Below w.heap.size w W → (W.cell? ⟨b, k * 2, none⟩ = some (.int .i64 x0) ∧ W.cell? ⟨b, k * 2 + 1, none⟩ = some (.int .i64 x1)) ∧ (W.cell? ⟨b, v * 2, none⟩ = some (.int .i64 y0) ∧ W.cell? ⟨b, v * 2 + 1, none⟩ = some (.int .i64 y1)) ∧ (Instr.lookup 60 (.map (some m)) (.int .i64 x1) true).run Try.prog W = .ok (.tuple #[.int .i64 (k : Int), .bool true]) W ∧ W.cell? ⟨g, 0, none⟩ = some (.slice (some ⟨b, 0, none⟩) n c) ∧ W.cell? ⟨g, 1, none⟩ = some (.map (some m)) from fun W hW => by
        obtain ⟨a1, a2⟩ := hcell W hW k hlt
        obtain ⟨b1, _⟩ := hcell W hW v hv
        rw [hx] at a1 a2
        rw [hy] at b1
        exact ⟨a1, b1, a2, (HA.out W hW).1, (HA.out W hW).2.1⟩)
      obtain ⟨⟨r0, r1⟩, _⟩ := HC.out wr HW.out
      have hbl := World.block_lt_of_cell? wr _ r0
      have hb1 : Below w.heap.size w (wr.alloc (.cells #[.int .i64 x0, .int .i64 x1] 38)) := HW.out.alloc HW.out.size _
      have hn0 := heap_alloc_new wr (.cells #[.int .i64 x0, .int .i64 x1] 38)
      have HB1 := Lib.hid (And.intro hb1 hn0)
      clear hcell hah hx hy hvv hb1 hn0
      go_wp2_with fail
      clear r0 r1
      generalize wr.alloc (.cells #[.int .i64 x0, .int .i64 x1] 38) = W at *
      generalize wr.heap.size = nb at *
      have z1 : W.cell? ⟨nb, 1, none⟩ = some (.int .i64 x1) := cell_of_row _ _ 1 _ _ _ HB1.out.2
      have z0 : W.cell? ⟨nb, 0, none⟩ = some (.int .i64 x0) := cell_of_row _ _ 0 _ _ _ HB1.out.2
      have l1 := fun n' => (HC.out _ (seqB HB1.out.1 (below_drewN W n'))).2.2.1
      have l2 := (HC.out _ HB1.out.1).2.2.2.2
      go_quiet (fail)
      rename_i nq
      clear z0 z1 l1 l2
      have HB2 := Lib.hid (show Below w.heap.size w (W.drewN nq) ∧ (W.drewN nq).heap[nb]? = some (.cells #[.int .i64 x0, .int .i64 x1] 38 (0, 0)) from ⟨seqB HB1.out.1 (below_drewN W nq), HB1.out.2⟩)
      clear HB1
      generalize W.drewN nq = W2 at *
      have HX := Lib.hid (show ∀ W3, Below W2.heap.size W2 W3 → (W3.cell? ⟨nb, 0, none⟩ = some (.int .i64 x0) ∧ W3.cell? ⟨nb, 1, none⟩ = some (.int .i64 x1)) ∧ (W3.cell? ⟨b, v * 2, none⟩ = some (.int .i64 y0) ∧ W3.cell? ⟨b, v * 2 + 1, none⟩ = some (.int .i64 y1)) ∧ W3.cell? ⟨g, 0, none⟩ = some (.slice (some ⟨b, 0, none⟩) n c) from fun W3 h3 => by
        have hh := (h3.block _ (blk_lt HB2.out.2)).trans HB2.out.2
        obtain ⟨_, q2, _, q4, _⟩ := HC.out _ (seqB HB2.out.1 h3)
        exact ⟨⟨cell_of_row _ _ 0 _ _ _ hh, cell_of_row _ _ 1 _ _ _ hh⟩, q2, q4⟩)
      go_wp2_with fail
      have f0 := fun n' os' => (HX.out _ (below_grow W2 n' os')).1.1
      have f1 := fun n' os' => (HX.out _ (below_grow W2 n' os')).1.2
      have f2 := fun n' os' => (HX.out _ (below_grow W2 n' os')).2.1.1
      have f3 := fun n' os' => (HX.out _ (below_grow W2 n' os')).2.1.2
      have f4 := fun n' os' => (HX.out _ (below_grow W2 n' os')).2.2
      go_quiet_grown ((first | (go_at_call 34; refine Calls.grown_of (HUp.out _)) | (go_at_call 33; refine Calls.grown_of (HAh.out _))))
      clear f0 f1 f2 f3 f4 HX
      have HE := Lib.hid (seqB HB2.out.1 (below_grow W2 nq osq))
      generalize grow (W2.drewN nq) osq = W4 at *
      go_wp2_with fail
      go_roundw
      case rel => exact ⟨k + 1, by omega, by go_num, HE⟩
      case measure => simp [intOf]; omega
    · have l1 := fun n' => (HA.out _ (seqB HW.out (below_drewN wr n'))).2.2
      have l2 := (HA.out _ HW.out).1
      have l3 := (HA.out _ HW.out).2.1
      go_wp2_with fail
      go_quiet (fail)
      rename_i nq
      have HE := Lib.hid (seqB HW.out (below_drewN wr nq))
      clear l1 l2 l3
      go_wp2_with fail
      go_ret
      exact ⟨ret_bool (by simp), HE.out⟩
theorem mclone_any {w : World} {m : Nat} {pl : Int → Option Nat} {sz : Nat} (h : MapIn w m pl sz) :
    Calls Try.prog 38 #[.map (some m)] w fun e w' => e = .returned (.map (some w.heap.size)) ∧ MapIn w' w.heap.size pl sz ∧ Below w.heap.size w w' := by
  obtain ⟨D, h1, h2⟩ := h
  have hcon := AnyW.maps_Clone_owns Try.cloneM 3 (plainElem Try.prog 3) m sz D w h1
  change Calls Try.prog 38 _ _ _ at hcon
  exact hcon.mono fun e w' ⟨he, ho, _, hb⟩ => ⟨he, ⟨D, ho, h2⟩, hb⟩
set_option maxHeartbeats 8000000 in
set_option maxRecDepth 10000 in
theorem copy_al {w : World} {base g : Nat} {u : Option Nat} {m : Nat} {L : List Due} {last : Int} (h : Al w base g u m L last) :
    Calls Try.prog 22 #[.pointer (some ⟨g, 0, none⟩)] w fun e w' => ∃ g' u' m', e = .returned (.pointer (some ⟨g', 0, none⟩)) ∧ Al w' w.heap.size g' u' m' L last ∧ Below w.heap.size w w' := by
  obtain ⟨s, hM, hL⟩ := h.ex
  have hcnt := len_int h.cnt h.top
  have hlen := hL.len
  have mixed := mixedT
  obtain ⟨v, h1, h2, _⟩ := id hM.ex
  obtain ⟨p, c, rfl, _, hi, hpc, _⟩ := own_dues h2
  have HC := Lib.hid (show ∀ W, Below w.heap.size w W → (W.cell? ⟨g, 0, none⟩ = some (.slice p s.h.length c) ∧ W.cell? ⟨g, 1, none⟩ = some (.map (some m)) ∧ W.cell? ⟨g, 2, none⟩ = some (.int .i64 last)) ∧ Below w.heap.size w W from fun W hW => by
    have hh := (hW.block g (blk_lt h1)).trans h1
    exact ⟨⟨cell_of_row _ g 0 _ _ _ hh, cell_of_row _ g 1 _ _ _ hh, cell_of_row _ g 2 _ _ _ hh⟩, hW⟩)
  have HCl := Lib.hid (show ∀ W, Below w.heap.size w W → Calls Try.prog 30 #[.slice p s.h.length c] W (OutA s.h W) from fun W hW => clone_any p c s.h W (fun e => ⟨hpc e, by have := hpc e; have := h2.1; rcases h2.2 with ⟨_, h0⟩ | ⟨b, cap, cur, e', _⟩; exact h0; rw [e] at e'; cases e'⟩) (dues_on hi hW) (by omega))
  have HMc := Lib.hid (show ∀ W, Below w.heap.size w W → Calls Try.prog 38 #[.map (some m)] W fun e w' => e = .returned (.map (some W.heap.size)) ∧ MapIn w' W.heap.size s.pl s.sz ∧ Below W.heap.size W w' from fun W hW => mclone_any (hM.on hW).map)
  have HL := Lib.hid hL
  have HH := Lib.hid h
  obtain ⟨n, hn⟩ : ∃ n, s.h.length = n := ⟨_, rfl⟩
  have HN := Lib.hid hn
  rw [hn] at HC HCl
  clear h hM hL h1 h2 hi hpc hcnt hlen hn
  go_enter Try.func22, Try.ntmps22
  go_wp2_with fail
  go_region_held (fun w' => (w'.cell? ⟨g, 0, none⟩ = some (.slice p n c) ∧ w'.cell? ⟨g, 1, none⟩ = some (.map (some m)) ∧ w'.cell? ⟨g, 2, none⟩ = some (.int .i64 last)) ∧ Below w.heap.size w w')
    ((refine HC.out _ ?_
      go_split_ands
      first
        | with_reducible exact (Below.refl _ _).drew
        | with_reducible assumption
        | with_reducible exact Below.alloc (by assumption) (Below.size (by assumption)) _))
    (first
      | (go_at_call 30; go_split_ands; (with_reducible refine Calls.mono (HCl.out _ (by assumption)) ?_); rintro e w1 ⟨q, d, rfl, ho, hb⟩; (have HO := Lib.hid (own_low ho (Below.size (by assumption)))); (have hb1 := seqB (by assumption) hb); (rw [HN.out] at HO ⊢); clear ho hb)
      | (go_at_call 38; go_split_ands; (with_reducible refine Calls.mono (HMc.out _ (by assumption)) ?_); rintro e w2 ⟨rfl, hm, hb⟩; (have HM2 := Lib.hid (And.intro hm (And.intro hb (Below.size (by assumption))))); (have hb2 := seqB (by assumption) hb); clear hm hb))
  have HE := Lib.hid (show Al (w2.alloc (.cells #[.slice q n d, .map (some w1.heap.size), .int .i64 last] 62)) w.heap.size w2.heap.size (Value.slice q n d).ownBlock w1.heap.size L last ∧ Below w.heap.size w (w2.alloc (.cells #[.slice q n d, .map (some w1.heap.size), .int .i64 last] 62)) from by
    refine ⟨⟨⟨s, ⟨⟨_, heap_alloc_new w2 _, ?_, rfl⟩, ?_, hb2.size, hb1.size⟩, HL.out⟩, HH.out.low, HH.out.top, HH.out.cnt⟩, hb2.alloc hb2.size _⟩
    · rw [HN.out]
      exact (own_on HO.out HM2.out.2.1).alloc _
    · exact map_kept HM2.out.1 (World.grownBy_alloc w2 _ none) (by simp))
  clear hb1 hb2 HO HM2
  go_wp2_with fail
  go_ret
  exact ⟨_, _, _, rfl, HE.out⟩
end Go.Proofs.Ytpohfcjmjfhdoaa
