/-
  Contract: what cargo's Hurry does. Conditions: as each states.
-/
import Derived.Test.YtmblgpejgdlakaaW4
namespace Go.Proofs.Ytmblgpejgdlakaa
open Go.RowKit

theorem min_low (last t : Int) : min last t = low t last := by unfold low; split <;> omega
variable {w : World} {base g : Nat} {u : U} {S : ByteArray} {A : List Int} {last : Int} {M G : Nat} {ms : List Mk}
set_option maxHeartbeats 4000000 in
theorem hurry_no (h : R w base g u S ms G last) (hr : Rise ms) (hm : ms.length ≤ 1000000) (a : Int) (hN : readyN (ms.map Prod.fst) (near a) = ms.length) :
    Calls Try.prog 25 #[.pointer (some ⟨g, 0, none⟩), .int .i64 a] w (Laid w base g u S ms G (low (near a) last)) := by
  have HX := min_low last (near a)
  obtain ⟨X, hX⟩ : ∃ X, low (near a) last = X := ⟨_, rfl⟩
  rw [hX] at HX ⊢
  have f3 := h.field.1 3
  have g3 := h.field.2.2.2.2
  have HC1 := Lib.hid (chg_last (chg_same h) X)
  have HD := Lib.hid (due_raw HC1.out.r hr hm (near a) hN)
  obtain ⟨p, n, c, q, m, d, hw, rfl⟩ := h
  have hml := hw.sizes.2.1
  rw [← hml] at HD hm
  have HG := Lib.hid (fun (W : World) (hW : Below (w.setCell ⟨g, 3, none⟩ (.int .i64 X)).heap.size (w.setCell ⟨g, 3, none⟩ (.int .i64 X)) W) => (((hw.set3 X).on hW).cells.2.1 : W.cell? ⟨g, 1, none⟩ = some (.slice q m d)))
  have HN := Lib.hid (cnear_any a w)
  generalize near a = T at *
  clear hw hr hml hX hN
  go_enter Try.func25, Try.ntmps25
  go_wp2_with fail
  refine HN.out.mono ?_
  rintro e w' ⟨rfl, rfl⟩
  clear HN
  go_wp2_with fail
  clear f3 g3
  generalize w.setCell ⟨g, 3, none⟩ (.int .i64 X) = w1 at *
  refine HD.out.mono ?_
  rintro e w2 ⟨rfl, hb2⟩
  have g1 := HG.out w2 hb2
  have HE := Lib.hid (HC1.out.post hb2)
  clear hb2 HD HG HC1
  go_wp2_with fail
  go_end0
  exact ⟨rfl, _, HE.out⟩
set_option maxHeartbeats 4000000 in
theorem hurry_yes (h : R w base g u S ms G last) (he : EndsM G ms (G + S.size)) (hr : Rise ms) (hb : G + S.size ≤ 1000000) (hm : ms.length ≤ 1000000) (a : Int) {T : Int} (hT : near a = T) {N y : Nat} (hN : readyN (ms.map Prod.fst) T = N) (hlt : N < ms.length) (hy : endAt G ms N = y) :
    Calls Try.prog 25 #[.pointer (some ⟨g, 0, none⟩), .int .i64 a] w (Laid w base g u S (layM (ms.take N) T y (G + S.size)) G (low T last)) := by
  have HX := min_low last T
  obtain ⟨X, hX⟩ : ∃ X, low T last = X := ⟨_, rfl⟩
  rw [hX] at HX ⊢
  have f3 := h.field.1 3
  have g3 := h.field.2.2.2.2
  have HC1 := Lib.hid (chg_last (chg_same h) X)
  have HD := Lib.hid (due_raw HC1.out.r hr hm T hN)
  obtain ⟨K, hK⟩ : ∃ K, endAt G ms N - G = K := ⟨_, rfl⟩
  have HRD := Lib.hid (fun (W : World) (hW : Below (w.setCell ⟨g, 3, none⟩ (.int .i64 X)).heap.size (w.setCell ⟨g, 3, none⟩ (.int .i64 X)) W) => ready_raw (HC1.out.r.on hW) hr hm he (by omega) T hN hK)
  have hGy := end_bounds he N (Nat.le_of_lt hlt)
  rw [hy] at hGy hK
  have hyK : y = G + K := by omega
  have hyy : (y : Int) = (G : Int) + (K : Int) := by omega
  have HL := Lib.hid (fun (W : World) (u1 : U) (hR : R W base g u1 S (ms.take N) G X) => lay_raw hR (by omega) (by rw [List.length_take]; omega) T y)
  rw [hyy] at HL
  obtain ⟨p, n, c, q, m, d, hw, rfl⟩ := h
  have hml := hw.sizes.2.1
  have hmd := hw.sizes.2.2.2.1
  have hd := hw.sizes.2.2.2.2.2
  rw [← hml] at hlt hm
  have hw1 := hw.set3 X
  have HG := Lib.hid (fun (W : World) (hW : Below (w.setCell ⟨g, 3, none⟩ (.int .i64 X)).heap.size (w.setCell ⟨g, 3, none⟩ (.int .i64 X)) W) => (⟨(hw1.on hW).cells.2.2.1, hW⟩ : W.cell? ⟨g, 2, none⟩ = some (.int .i64 (G : Int)) ∧ Below (w.setCell ⟨g, 3, none⟩ (.int .i64 X)).heap.size (w.setCell ⟨g, 3, none⟩ (.int .i64 X)) W))
  have HF := Lib.hid (fun (W : World) (hW : Below (w.setCell ⟨g, 3, none⟩ (.int .i64 X)).heap.size (w.setCell ⟨g, 3, none⟩ (.int .i64 X)) W) => (⟨(hw1.on hW).cells.2.1, frozen_at (hw1.on hW).blk⟩ : W.cell? ⟨g, 1, none⟩ = some (.slice q m d) ∧ W.frozen? ⟨g, 1, none⟩ = false))
  have HS := Lib.hid (fun (W : World) (hW : Below (w.setCell ⟨g, 3, none⟩ (.int .i64 X)).heap.size (w.setCell ⟨g, 3, none⟩ (.int .i64 X)) W) => by
    have h2 := hw1.on (w' := W) hW
    have ho := h2.mks.take N (by omega)
    rw [← flatM_take] at ho
    exact (Chg.post HC1.out hW).seq (u2 := (Go.Proofs.Ytmblgpejgdlakaa.blk p, Go.Proofs.Ytmblgpejgdlakaa.blk q)) ⟨(Raw.set1 h2.blk h2.row h2.base ho).r, newer_refl _ _, kept_set (kept_refl _ _ _) 1 _⟩)
  have hsl := mks_to q m d N (by omega)
  have HN := Lib.hid (show Calls Try.prog 36 #[.int .i64 a] w fun e w' => e = .returned (.int .i64 T) ∧ w = w' from by rw [← hT]; exact cnear_any a w)
  clear hw hw1 he hr hml hX hN hT hy
  go_enter Try.func25, Try.ntmps25
  go_wp2_with fail
  refine HN.out.mono ?_
  rintro e w' ⟨rfl, rfl⟩
  clear HN
  go_wp2_with fail
  clear f3 g3
  generalize w.setCell ⟨g, 3, none⟩ (.int .i64 X) = w1 at *
  refine HD.out.mono ?_
  rintro e w2 ⟨rfl, hb2⟩
  have HB2 := Lib.hid hb2
  obtain ⟨g1, _⟩ := HF.out w2 hb2
  clear hb2 HD
  go_wp2_with fail
  go_region_held (fun W => W.cell? ⟨g, 2, none⟩ = some (.int .i64 (G : Int)) ∧ Below w1.heap.size w1 W)
    ((refine HG.out _ ?_
      go_split_ands
      first
        | with_reducible exact HB2.out.drew
        | with_reducible assumption))
    (first
      | (go_at_call 16; go_split_ands; (with_reducible refine Calls.mono (HRD.out _ (by assumption)) ?_); rintro e w3 ⟨rfl, hb⟩; (have hb3 := seqB (by assumption) hb); (have HB3 := Lib.hid hb3); clear hb))
  clear hb3 g1
  obtain ⟨g1, f1⟩ := HF.out w3 HB3.out
  have HC4 := Lib.hid (HS.out w3 HB3.out)
  clear HS HF HG HRD HC1
  go_wp2_with fail
  generalize w3.setCell ⟨g, 1, none⟩ (.slice q N d) = w4 at *
  refine (HL.out _ _ HC4.out.r).mono ?_
  rintro e w5 ⟨rfl, u', hc5⟩
  have HE := Lib.hid (HC4.out.seq hc5)
  clear hc5 HC4 HL
  go_wp2_with fail
  go_end0
  exact ⟨rfl, _, HE.out⟩
end Go.Proofs.Ytmblgpejgdlakaa
