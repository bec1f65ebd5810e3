/-
  Contract: what the statements' own stands answers. Conditions: as each states.
-/
import Derived.Test.YtmblgpejgdlakaaK
import Derived.BigRegion
namespace Go.Proofs.Ytmblgpejgdlakaa
open Go.RowKit

theorem own_pcsIn {w : World} {B T n d : Nat} {q : Option Addr} {ps : List Pc} (h : w.ownsRow B T 2 (.slice q n d) n (flatP ps)) : PcsIn w q n ps ∧ ps.length = n := by
  obtain ⟨p, c, e, hl, hi, _⟩ := own_pcs h
  cases e
  exact ⟨hi, hl⟩
/-- A row of pieces is handed back, by its length. -/
def GotP (B0 : Nat) (T : TypeId) (ps : List Pc) (m : Nat) (e : Ending) (w' : World) : Prop := ∃ q d, e = .returned (.slice q m d) ∧ w'.ownsRow B0 T 2 (.slice q m d) m (flatP ps)
theorem got_of_out {T : TypeId} {ps : List Pc} {m : Nat} (hm : ps.length = m) {w : World} {e : Ending} {w' : World} (h : OutP T ps w e w') : GotP w.heap.size T ps m e w' ∧ Below w.heap.size w w' := by
  obtain ⟨q, d, rfl, ho, hb⟩ := h
  rw [hm] at ho ⊢
  exact ⟨⟨q, d, rfl, ho⟩, hb⟩
theorem runs_tk {S : ByteArray} {A : List Int} {last : Int} (h : Inv S A last) : bytesOf' (runsK S A S.size) = nums S ∧ tkOf (runsK S A S.size) = A ∧ (runsK S A S.size).length ≤ S.size ∧ Good (runsK S A S.size) := by
  have hr := runs_all S A S.size rfl h.len S.size (Nat.le_refl _)
  refine ⟨by rw [hr.1, ← nums_length, List.take_length], by rw [hr.2.1, ← h.len, List.take_length], hr.2.2.1, hr.2.2.2.2 h.up⟩
theorem runs_first {S : ByteArray} {A : List Int} {last : Int} (h : Inv S A last) {ps : List Pc} (hp : runsK S A S.size = ps) : (0 < ps.length ↔ 0 < A.length) ∧ (0 < A.length → (ps.getD 0 noPc).1 = A.getD 0 0) := by
  obtain ⟨_, h2, _, h4⟩ := runs_tk h
  rw [hp] at h2 h4
  cases ps with
  | nil =>
    rw [← h2]
    exact ⟨Iff.rfl, fun h => absurd h (Nat.lt_irrefl _)⟩
  | cons p r =>
    have hf := (tk_first h4).2
    rw [h2] at hf
    cases A with
    | nil => cases hf
    | cons a t =>
      refine ⟨by simp, fun _ => ?_⟩
      simp at hf
      exact hf.symm
set_option maxRecDepth 100000 in
set_option maxHeartbeats 8000000 in
theorem stands_any {w0 w : World} {B g : Nat} {S : ByteArray} {A : List Int} {last : Int} {M : Nat} (h : At w0 B g S A last M w) (hS : S.size ≤ 50000) {p : Option Addr} {n c : Nat} (hr : RowA w p n c A) :
    Calls Try.prog 15 #[.pointer (some ⟨g, 0, none⟩), .agg #[.string S, .slice p n c, .int .i64 last]] w fun e w' => e = .returned (.bool true) ∧ Below w.heap.size w w' := by
  have hinv := h.inv
  have hSn : S.size = n := by rw [← hinv.len, hr.1]
  obtain ⟨ps, hps⟩ : ∃ ps, runsK S A S.size = ps := ⟨_, rfl⟩
  obtain ⟨m, hm⟩ : ∃ m, ps.length = m := ⟨_, rfl⟩
  have hf := runs_first hinv hps
  have hml : m ≤ 50000 := by
    have := (runs_tk hinv).2.2.1
    rw [hps, hm] at this
    omega
  have hb : Below w.heap.size w (w.alloc (.cells #[.string S, .slice p n c, .int .i64 last] 29)) := (Below.refl _ _).alloc (Nat.le_refl _) _
  have hblk := heap_alloc_new w (.cells #[.string S, .slice p n c, .int .i64 last] 29)
  have HH := Lib.hid (h.on hb)
  have HR := Lib.hid (rowA_on hr hb)
  have HB := Lib.hid hb
  have HK := Lib.hid hblk
  have HF := Lib.hid hf
  have HM := Lib.hid hm
  have HP := Lib.hid hps
  have HI := Lib.hid hinv
  clear h hr hb hblk hf hinv hps hm
  go_enter Try.func15, Try.ntmps15
  go_wp2_with fail
  generalize w.alloc (.cells #[.string S, .slice p n c, .int .i64 last] 29) = w1 at *
  have HCK := Lib.hid (show ∀ w', Below w1.heap.size w1 w' → (w'.cell? ⟨w.heap.size, 0, none⟩ = some (.string S) ∧ w'.cell? ⟨w.heap.size, 1, none⟩ = some (.slice p n c) ∧ w'.cell? ⟨w.heap.size, 2, none⟩ = some (.int .i64 last)) ∧ Below w1.heap.size w1 w' from
    fun w' hb => ⟨box_cells HK.out hb, hb⟩)
  have HL1 := Lib.hid (show ∀ W, Below w1.heap.size w1 W → Calls Try.prog 20 #[.pointer (some ⟨g, 0, none⟩)] W fun e w' => GotP W.heap.size 45 ps m e w' ∧ Below W.heap.size W w' from fun W hW => (list_at (HH.out.on hW) HP.out).mono fun e w' h => got_of_out HM.out h)
  have HL2 := Lib.hid (show ∀ W, Below w1.heap.size w1 W → Calls Try.prog 30 #[.agg #[.string S, .slice p n c, .int .i64 last]] W fun e w' => GotP W.heap.size 66 ps m e w' ∧ Below W.heap.size W w' from fun W hW => (rlist_any S p n c A last W (rowA_on HR.out hW) hSn (by omega)).mono fun e w' h => by rw [← hSn, HP.out] at h; exact got_of_out HM.out h)
  go_region_held (fun w' => (w'.cell? ⟨w.heap.size, 0, none⟩ = some (.string S) ∧ w'.cell? ⟨w.heap.size, 1, none⟩ = some (.slice p n c) ∧ w'.cell? ⟨w.heap.size, 2, none⟩ = some (.int .i64 last)) ∧ Below w1.heap.size w1 w')
    ((refine HCK.out _ ?_
      go_split_ands
      first
        | with_reducible exact (Below.refl _ _).drew
        | with_reducible assumption))
    (first
      | (go_at_call 20; go_split_ands; (with_reducible refine Calls.mono (HL1.out _ (by assumption)) ?_); rintro e w2 ⟨⟨q1, d1, rfl, ho⟩, hb⟩; (have HO1 := Lib.hid ho); (have hb2 := seqB (by assumption) hb); clear hb ho)
      | (go_at_call 30; go_split_ands; (with_reducible refine Calls.mono (HL2.out _ (by assumption)) ?_); rintro e w3 ⟨⟨q2, d2, rfl, ho⟩, hb⟩; (have HO2 := Lib.hid ho); (have HB2 := Lib.hid hb); (have hb3 := seqB (by assumption) hb); clear hb ho))
  have HB3 := Lib.hid hb3
  have HI1 := Lib.hid (own_pcsIn (own_on HO1.out HB2.out)).1
  have HI2 := Lib.hid (own_pcsIn HO2.out).1
  have HN := Lib.hid (show ∀ W, Below w1.heap.size w1 W → Calls Try.prog 19 #[.pointer (some ⟨g, 0, none⟩)] W fun e w' => e = .returned (.int .i64 (n : Int)) ∧ Below W.heap.size W w' from fun W hW => len_at (HH.out.on hW) hSn)
  have HLA := Lib.hid (show ∀ W, Below w1.heap.size w1 W → Calls Try.prog 23 #[.pointer (some ⟨g, 0, none⟩)] W fun e w' => e = .returned (.int .i64 last) ∧ Below W.heap.size W w' from fun W hW => last_at (HH.out.on hW))
  go_split_ands
  clear hb2 hb3 HO1 HO2 HB2 HL1 HL2
  go_wp2_with fail
  go_region_held (fun w' => (w'.cell? ⟨w.heap.size, 0, none⟩ = some (.string S) ∧ w'.cell? ⟨w.heap.size, 1, none⟩ = some (.slice p n c) ∧ w'.cell? ⟨w.heap.size, 2, none⟩ = some (.int .i64 last)) ∧ Below w3.heap.size w3 w')
    ((refine ⟨(HCK.out _ (seqB HB3.out ?_)).1, ?_⟩ <;>
      (go_split_ands
       first
        | with_reducible exact (Below.refl _ _).drew
        | with_reducible assumption)))
    (first
      | (go_at_call 19; go_split_ands; (with_reducible refine Calls.mono (HN.out _ (seqB HB3.out (by assumption))) ?_); rintro e w4 ⟨rfl, hb⟩; (have hb4 := seqB (by assumption) hb); clear hb)
      | (go_at_call 23; go_split_ands; (with_reducible refine Calls.mono (HLA.out _ (seqB HB3.out (by assumption))) ?_); rintro e w5 ⟨rfl, hb⟩; (have hb5 := seqB (by assumption) hb); clear hb))
  have HB5 := Lib.hid (seqB HB3.out hb5)
  have HI1' := Lib.hid (pcs_on HI1.out hb5)
  have HI2' := Lib.hid (pcs_on HI2.out hb5)
  clear HI1 HI2 HN HLA hb4 hb5
  go_split_ands
  clear HCK
  have HNX : ∀ t f, A.getD 0 0 = t → decide (0 < A.length) = f → ∀ W, Below w1.heap.size w1 W → Calls Try.prog 22 #[.pointer (some ⟨g, 0, none⟩)] W fun e w' => e = .returned (.tuple #[.int .i64 t, .bool f]) ∧ Below W.heap.size W w' := fun t f ht hf W hW => next_at (HH.out.on hW) ht hf
  have HX := Lib.hid HNX
  clear HNX
  go_wp2_with fail
  go_loopw [37] (fun i wr => ∃ (k : Nat), k ≤ m ∧ i = .int .i64 k ∧ Hid (Below w5.heap.size w5 wr)) (fun i _ => m - (intOf i).toNat)
  case atStart => exact ⟨0, by omega, rfl, Lib.hid (Below.refl _ _)⟩
  case round =>
    obtain ⟨k, hk, rfl, HW⟩ := hrel
    by_cases hlt : k < m
    · obtain ⟨b1, o1, rfl, hc1⟩ := pcs_on HI1'.out HW.out (by omega)
      obtain ⟨b2, o2, rfl, hc2⟩ := pcs_on HI2'.out HW.out (by omega)
      obtain ⟨g0, g1⟩ := hc1 k hlt
      obtain ⟨h0, h1⟩ := hc2 k hlt
      generalize ps.getD k noPc = x at g0 g1 h0 h1
      obtain ⟨x0, x1⟩ := x
      simp only at g0 g1 h0 h1
      rw [← Nat.add_assoc] at g1 h1
      have hbl1 : b1 < wr.heap.size := World.block_lt_of_cell? wr _ g0
      have hbl2 : b2 < wr.heap.size := World.block_lt_of_cell? wr _ h0
      clear hc1 hc2
      go_wp2_with fail
      go_region
      go_wp2_with fail
      go_roundw
      case rel => exact ⟨k + 1, by omega, by go_num, Lib.hid ((HW.out.alloc HW.out.size _).drew)⟩
      case measure => simp [intOf]; omega
    · obtain rfl : k = m := by omega
      have HB6 := Lib.hid (seqB HB5.out HW.out)
      by_cases hk0 : 0 < k
      · have hA0 : 0 < A.length := HF.out.1.1 (by rw [HM.out]; exact hk0)
        obtain ⟨b2, o2, rfl, hc2⟩ := pcs_on HI2'.out HW.out hk0
        obtain ⟨h0, _⟩ := hc2 0 hk0
        rw [HF.out.2 hA0] at h0
        obtain ⟨t, ht⟩ : ∃ t, A.getD 0 0 = t := ⟨_, rfl⟩
        rw [ht] at h0
        have hC := HX.out t true ht (by simpa using hA0) wr HB6.out
        have HC := Lib.hid hC
        have HG := Lib.hid h0
        have dk : decide ((0 : Int) < (k : Int)) = true := by simp; omega
        clear hc2 ht hC hlt h0
        go_wp2_with fail
        refine HC.out.mono ?_
        rintro e w7 ⟨rfl, hb⟩
        have h0 := (hb.cell (World.block_lt_of_cell? wr _ HG.out)).trans HG.out
        simp only [Nat.zero_mul, Nat.add_zero] at h0
        have HE := Lib.hid (seqB HB.out (seqB HB6.out hb))
        clear hb
        go_wp2_with fail
        go_ret
        exact ⟨rfl, HE.out⟩
      · obtain rfl : k = 0 := by omega
        have hA0 : ¬ 0 < A.length := fun h => by
          have := HF.out.1.2 h
          rw [HM.out] at this
          omega
        have hA1 : A.getD 0 0 = 0 := by rw [List.eq_nil_of_length_eq_zero (show A.length = 0 by omega)]; rfl
        have HC := Lib.hid (HX.out 0 false hA1 (by simpa using hA0) wr HB6.out)
        clear hlt
        go_wp2_with fail
        refine HC.out.mono ?_
        rintro e w7 ⟨rfl, hb⟩
        have HE := Lib.hid (seqB HB.out (seqB HB6.out hb))
        clear hb
        go_wp2_with fail
        go_ret
        exact ⟨rfl, HE.out⟩
end Go.Proofs.Ytmblgpejgdlakaa
