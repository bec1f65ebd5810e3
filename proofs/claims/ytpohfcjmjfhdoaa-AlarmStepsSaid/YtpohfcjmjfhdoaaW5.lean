/-
  Contracts: what settle and remove do. Conditions: as each states.
-/
import Derived.Test.YtpohfcjmjfhdoaaW4
namespace Go.Proofs.Ytpohfcjmjfhdoaa
open Go.RowKit Go.Sort Go.Maps

theorem above_grown (k : Nat) (hk : k ≤ 1000000) (w : World) : Calls Try.prog 34 #[.int .i64 k] w fun e w' => e = .returned (.int .i64 (up k : Int)) ∧ ∃ q os', w' = grow (w.drewN q) os' :=
  (above_any k hk w).mono fun e w' ⟨he, hw⟩ => ⟨he, 0, #[], by rw [grow_empty, ← hw]; rfl⟩
set_option maxHeartbeats 8000000 in
theorem settle_any {w : World} {base g : Nat} {u : Option Nat} {m : Nat} {s : St} {last : Int} (h : Mem w base g u m s last) {k : Nat} {d : Due} (hh : Hole s k d) (hl : s.h.length ≤ 100000) (hi : IdsWf s) (hd : wfId d) :
    Calls Try.prog 39 #[.pointer (some ⟨g, 0, none⟩), .int .i64 k, .agg #[.int .i64 d.1, .int .i64 d.2]] w fun e w' => e = .returned (.tuple #[]) ∧ Mem w' base g u m (settleS d s k) last ∧ Kept w w' g u m := by
  have hkL := hh.lt
  obtain ⟨b, c, hc1, hc2, hA⟩ := mem_reads h (by omega)
  have mixed := mixedT
  obtain ⟨d0, d1⟩ := d
  show Calls _ _ #[.pointer (some ⟨g, 0, none⟩), .int .i64 k, .agg #[.int .i64 d0, .int .i64 d1]] w _
  have hgl := h.lt
  have HUp := Lib.hid (above_grown k (by omega))
  have HRi := Lib.hid (show ∀ W, Below w.heap.size w W → Calls Try.prog 36 #[.pointer (some ⟨g, 0, none⟩), .int .i64 k, .agg #[.int .i64 d0, .int .i64 d1]] W fun e w' => e = .returned (.tuple #[]) ∧ Mem w' base g u m (riseS (d0, d1) s k) last ∧ Kept w w' g u m from fun W hW => (rise_any (h.on hW) hh hl hi hd).mono fun e w' ⟨he, hM, hK, _⟩ => ⟨he, hM, kept_trans (kept_below hW g u m) hK⟩)
  have HSi := Lib.hid (show ∀ W, Below w.heap.size w W → Calls Try.prog 46 #[.pointer (some ⟨g, 0, none⟩), .int .i64 k, .agg #[.int .i64 d0, .int .i64 d1]] W fun e w' => e = .returned (.tuple #[]) ∧ Mem w' base g u m (sinkS (d0, d1) s k) last ∧ Kept w w' g u m from fun W hW => (sink_any (h.on hW) hh hl hi hd).mono fun e w' ⟨he, hM, hK⟩ => ⟨he, hM, kept_trans (kept_below hW g u m) hK⟩)
  obtain ⟨v, hv⟩ : ∃ v, up k = v := ⟨_, rfl⟩
  rw [hv] at HUp
  have hvL : v < s.h.length := by unfold up at hv; omega
  obtain ⟨R, HR⟩ : ∃ R, Hid (settleS (d0, d1) s k = R) := ⟨_, Lib.hid rfl⟩
  rw [HR.out]
  have HX := Lib.hid (show ∀ W, Below (w.alloc (.cells #[.int .i64 d0, .int .i64 d1] 38)).heap.size (w.alloc (.cells #[.int .i64 d0, .int .i64 d1] 38)) W → Below w.heap.size w W ∧ W.cell? ⟨g, 0, none⟩ = some (.slice (some ⟨b, 0, none⟩) s.h.length c) ∧ W.cell? ⟨b, v * 2, none⟩ = some (.int .i64 (s.at v).1) ∧ W.cell? ⟨b, v * 2 + 1, none⟩ = some (.int .i64 (s.at v).2) ∧ W.cell? ⟨w.heap.size, 0, none⟩ = some (.int .i64 d0) ∧ W.cell? ⟨w.heap.size, 1, none⟩ = some (.int .i64 d1) from fun W hW => by
    have hb : Below w.heap.size w W := seqB ((Below.refl _ _).alloc (Nat.le_refl _) _) hW
    obtain ⟨x1, _, x3⟩ := hA W hb
    have hn := heap_alloc_new w (.cells #[.int .i64 d0, .int .i64 d1] 38)
    have x4 := box_cells (w := w) (box_on (w := w) hn hW)
    exact ⟨hb, x1, (x3 v hvL).1, (x3 v hvL).2, x4⟩)
  obtain ⟨x, hx⟩ : ∃ x, s.at v = x := ⟨_, rfl⟩
  rw [hx] at HX
  obtain ⟨x0, x1⟩ := x
  dsimp only at HX
  have HAh := Lib.hid (show ∀ W, Calls Try.prog 33 #[.agg #[.int .i64 d0, .int .i64 d1], .agg #[.int .i64 x0, .int .i64 x1]] W fun e' w' => e' = .returned (.bool (aheadB (d0, d1) (x0, x1))) ∧ ∃ q os', w' = grow (W.drewN q) os' from fun W => ahead_any (d0, d1) (x0, x1) W)
  obtain ⟨F, hF⟩ : ∃ F, aheadB (d0, d1) (x0, x1) = F := ⟨_, rfl⟩
  have HRF := Lib.hid (show R = if F = true then riseS (d0, d1) s k else sinkS (d0, d1) s k by rw [← HR.out, ← hF, ← hx, ← hv]; rfl)
  rw [hF] at HAh
  obtain ⟨L, hL⟩ : ∃ L, s.h.length = L := ⟨_, rfl⟩
  rw [hL] at HX hvL hc1 hkL
  clear hA hx hv hF HR h hh hi hd hL hl
  go_enter Try.func39, Try.ntmps39
  go_wp2_with fail
  generalize w.alloc (.cells #[.int .i64 d0, .int .i64 d1] 38) = W at *
  have f0 := fun n' os' => (HX.out _ (below_grow W n' os')).2.1
  have f1 := fun n' os' => (HX.out _ (below_grow W n' os')).2.2.1
  have f2 := fun n' os' => (HX.out _ (below_grow W n' os')).2.2.2.1
  have f3 := fun n' os' => (HX.out _ (below_grow W n' os')).2.2.2.2.1
  have f4 := fun n' os' => (HX.out _ (below_grow W n' os')).2.2.2.2.2
  go_quiet_grown ((first | (go_at_call 34; refine Calls.grown_of (HUp.out _)) | (go_at_call 33; refine Calls.grown_of (HAh.out _))))
  clear f0 f1 f2 f3 f4 HAh HUp
  obtain ⟨hb, _, _, _, y0, y1⟩ := HX.out _ (below_grow W nq osq)
  generalize grow (W.drewN nq) osq = W2 at *
  have HB := Lib.hid hb
  clear hb
  cases F with
  | true =>
    go_wp2_with fail
    refine (HRi.out _ HB.out).mono ?_
    rintro e w3 ⟨rfl, hM, hK⟩
    have HE := Lib.hid (show Mem w3 base g u m R last ∧ Kept w w3 g u m from ⟨by rw [HRF.out]; exact hM, hK⟩)
    clear hM hK
    go_wp2_with fail
    refine bodyPost_ret (results_none rfl _ _ _) rfl ?_
    exact ⟨rfl, HE.out⟩
  | false =>
    go_wp2_with fail
    refine (HSi.out _ HB.out).mono ?_
    rintro e w3 ⟨rfl, hM, hK⟩
    have HE := Lib.hid (show Mem w3 base g u m R last ∧ Kept w w3 g u m from ⟨by rw [HRF.out]; exact hM, hK⟩)
    clear hM hK
    go_wp2_with fail
    go_end0
    exact ⟨rfl, HE.out⟩
end Go.Proofs.Ytpohfcjmjfhdoaa
