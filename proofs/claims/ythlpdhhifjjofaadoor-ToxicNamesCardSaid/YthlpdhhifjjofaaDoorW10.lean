/-
  Contract: what the program's own Parse of a toxic answers. Conditions: the text's length.
-/
import Derived.Test.YthlpdhhifjjofaaDoorW7
import Derived.Test.YthlpdhhifjjofaaDoorW9
namespace Go.Proofs.YthlpdhhifjjofaaDoor
open Go.RowKit

theorem clone_any (s : ByteArray) (hs : s.size ≤ 1000000) (w : World) : Calls Tryd.prog 34 #[.string s] w fun e w' => e = .returned (.string s) ∧ Below w.heap.size w w' := by
  have HC := Lib.hid (Tryd.stringslite_Clone s w (by omega))
  go_enter Tryd.func34, Tryd.ntmps34
  go_wp2_with fail
  refine HC.out.mono ?_
  rintro e w' ⟨rfl, hb⟩
  go_wp2_with fail
  go_ret
  exact ⟨rfl, hb⟩
theorem empty_in {ps : List ByteArray} : Lib.containsS ps ⟨#[]⟩ = true ↔ ∃ t ∈ ps, t = ⟨#[]⟩ := by
  rw [Lib.containsS_iff]
  exact ⟨fun h => ⟨_, h, rfl⟩, fun ⟨t, h, e⟩ => e ▸ h⟩
theorem contains_any {w : World} {b d : Nat} {ps : List ByteArray} (h : StrIn w b 0 ps) (hp : ps.length ≤ 7) : Calls Tryd.prog 32 #[.slice (some ⟨b, 0, none⟩) ps.length d, .string ⟨#[]⟩] w fun e w' => e = .returned (.bool (Lib.containsS ps ⟨#[]⟩)) ∧ w = w' := by
  refine (Tryd.slices_Contains_string b 0 ps.length d ps ⟨#[]⟩ w (Nat.le_refl _) (by omega) h).mono ?_
  rintro e w' ⟨rfl, rfl⟩
  exact ⟨by rw [List.take_length], rfl⟩
theorem rel_five {s : ByteArray} {ps : List ByteArray} (h : Rel s ps) (h6 : ps.length ≤ 6) : splK s s.size = ps := by
  rcases h with h | ⟨h, _⟩
  · exact h.symm
  · omega
theorem rel_form {s : ByteArray} {ps : List ByteArray} (h : Rel s ps) (h5 : ps.length < 5 ∨ 6 < ps.length) : parseP (splK s s.size) = (noTox, 90) := by
  rcases h with rfl | ⟨_, h⟩
  · exact prs_form (Or.inr (Or.inl (by omega)))
  · exact parseP_seven h
theorem prs_none {ps : List ByteArray} (h : numsP (ps.drop 3) = none) : parseP ps = (noTox, 90) := by
  unfold parseP
  split
  · rfl
  · rw [h]
theorem set_other {w : World} {g j : Nat} (h : j ≠ g) {i : Nat} (u : Value) : (w.setCell ⟨g, i, none⟩ u).heap[j]? = w.heap[j]? := by
  simp [World.setCell, Array.getElem?_modify, Ne.symm h]
theorem form_ok {ps : List ByteArray} (h : ¬ ∃ t ∈ ps, t = ⟨#[]⟩) (hl : ps.length = 5 ∨ ps.length = 6) (hw : ps.getD 2 ⟨#[]⟩ = upB ∨ ps.getD 2 ⟨#[]⟩ = downB) :
    ¬ ((∃ t ∈ ps, t = ⟨#[]⟩) ∨ (ps.length ≠ 5 ∧ ps.length ≠ 6) ∨ (ps.getD 2 ⟨#[]⟩ ≠ upB ∧ ps.getD 2 ⟨#[]⟩ ≠ downB)) := fun hf => by
  rcases hf with hf | hf | hf
  · exact h hf
  · omega
  · rcases hw with e | e
    · exact hf.1 e
    · exact hf.2 e
theorem down_of {t : ByteArray} (h : (t.toList == [100, 111, 119, 110]) = true) : t = downB := by
  rw [beq_iff_eq, Lib.toList_data] at h
  exact ByteArray.ext (Array.ext' h)
theorem down_ne {t : ByteArray} (h : (t.toList == [100, 111, 119, 110]) = false) : t ≠ downB := fun e => by
  rw [e, Lib.toList_data] at h
  exact absurd h (by decide)
theorem parse_kind {ps : List ByteArray} {ns : List Int} (hf : ¬ ((∃ t ∈ ps, t = ⟨#[]⟩) ∨ (ps.length ≠ 5 ∧ ps.length ≠ 6) ∨ (ps.getD 2 ⟨#[]⟩ ≠ upB ∧ ps.getD 2 ⟨#[]⟩ ≠ downB)))
    (hn : numsP (ps.drop 3) = some ns) (h : numsB (kindB (ps.getD 1 ⟨#[]⟩)) ≠ (ns.length : Int) - 1) : parseP ps = (noTox, 91) := by
  unfold parseP
  rw [if_neg hf, hn]
  dsimp only
  rw [if_pos (Or.inr (by omega))]
theorem parse_chk {ps : List ByteArray} {ns : List Int} {U : Bool} (hf : ¬ ((∃ t ∈ ps, t = ⟨#[]⟩) ∨ (ps.length ≠ 5 ∧ ps.length ≠ 6) ∨ (ps.getD 2 ⟨#[]⟩ ≠ upB ∧ ps.getD 2 ⟨#[]⟩ ≠ downB)))
    (hn : numsP (ps.drop 3) = some ns) (hU : decide (ps.getD 2 ⟨#[]⟩ = upB) = U) (h2 : 2 ≤ ns.length) (h : numsB (kindB (ps.getD 1 ⟨#[]⟩)) = (ns.length : Int) - 1) :
    parseP ps = if checkB (ps.getD 0 ⟨#[]⟩) (kindB (ps.getD 1 ⟨#[]⟩)) (ns.getD 0 0) (ns.getD 1 0) (ns.getD 2 0) = 0 then (⟨ps.getD 0 ⟨#[]⟩, kindB (ps.getD 1 ⟨#[]⟩), U, ns.getD 0 0, ns.getD 1 0, ns.getD 2 0⟩, 0)
      else (noTox, checkB (ps.getD 0 ⟨#[]⟩) (kindB (ps.getD 1 ⟨#[]⟩)) (ns.getD 0 0) (ns.getD 1 0) (ns.getD 2 0)) := by
  unfold parseP
  rw [if_neg hf, hn]
  dsimp only
  rw [if_neg (fun hx => by
    rcases hx with hx | hx
    · rw [hx] at h
      have : numsB 0 = 0 := rfl
      omega
    · omega)]
  unfold toxP
  rw [hU]
set_option maxRecDepth 100000 in
set_option maxHeartbeats 16000000 in
theorem parsex_any (s : ByteArray) (hs : s.size ≤ 1000000) (w : World) (hg : Big w) : Calls Tryd.prog 17 #[.string s] w (Prs s w) := by
  unfold Prs parseB
  have HSP := Lib.hid (fun W (hW : Below w.heap.size w W) => splitn_any s hs W (big_on hg hW))
  have HR1 := Lib.hid (show Rb w (w.alloc (.cells #[.string ⟨#[]⟩, .int .i64 0, .bool false, .int .i64 0, .int .i64 0, .int .i64 0] 23)) w.heap.size from ⟨Nat.le_refl _, heap_alloc_new w _, (Below.refl _ _).alloc (Nat.le_refl _) _⟩)
  clear hg
  go_enter Tryd.func17, Tryd.ntmps17
  go_wp2_with fail
  have HB1 := Lib.hid HR1.out.2.2
  obtain ⟨rb, hrb⟩ : ∃ rb, w.heap.size = rb := ⟨_, rfl⟩
  rw [hrb] at HR1
  generalize w.alloc (.cells #[.string ⟨#[]⟩, .int .i64 0, .bool false, .int .i64 0, .int .i64 0, .int .i64 0] 23) = w1 at *
  refine (HSP.out _ HB1.out).mono ?_
  rintro e w2 ⟨b, d, ps, rfl, hp0, hp7, hpd, hd7, hin, hb, hrel, hsz⟩
  have HR2 := Lib.hid (HR1.out.on hb)
  have HIN := Lib.hid hin
  have HRL := Lib.hid hrel
  have HSZ := Lib.hid hsz
  have HCN := Lib.hid (contains_any (d := d) hin hp7)
  clear hb hin hrel hsz HSP HR1 HB1
  by_cases h5 : ps.length < 5 ∨ 6 < ps.length
  · have HV := Lib.hid (rel_form HRL.out h5)
    generalize ps.length = m at *
    by_cases hm : m < 5
    · have d5 : decide ((m : Int) < 5) = true := decide_eq_true (by omega)
      clear h5
      have hrb := HR2.out
      obtain ⟨x0, x1, x2, x3, x4, x5⟩ := box6 hrb.2.1 (Below.refl _ _)
      have f0 : w2.frozen? ⟨rb, 0, none⟩ = false := frozen_at hrb.2.1
      have f1 : w2.frozen? ⟨rb, 1, none⟩ = false := frozen_at hrb.2.1
      have f2 : w2.frozen? ⟨rb, 2, none⟩ = false := frozen_at hrb.2.1
      have f3 : w2.frozen? ⟨rb, 3, none⟩ = false := frozen_at hrb.2.1
      have f4 : w2.frozen? ⟨rb, 4, none⟩ = false := frozen_at hrb.2.1
      have f5 : w2.frozen? ⟨rb, 5, none⟩ = false := frozen_at hrb.2.1
      have hz := set6_heap hrb.2.1 (.string ⟨#[]⟩) (.int .i64 0) (.bool false) (.int .i64 0) (.int .i64 0) (.int .i64 0)
      have HD := Lib.hid (set6_below hrb.2.2 hrb.1 (.string ⟨#[]⟩) (.int .i64 0) (.bool false) (.int .i64 0) (.int .i64 0) (.int .i64 0))
      clear hrb
      go_wp2_with fail
      generalize hW : set6 w2 rb (.string ⟨#[]⟩) (.int .i64 0) (.bool false) (.int .i64 0) (.int .i64 0) (.int .i64 0) = W at *
      unfold set6 at hW
      rw [hW]
      clear hW x0 x1 x2 x3 x4 x5 f0 f1 f2 f3 f4 f5
      have z0 : W.cell? ⟨rb, 0, none⟩ = some (.string ⟨#[]⟩) := cell_of_row W _ 0 _ _ _ hz
      have z1 : W.cell? ⟨rb, 1, none⟩ = some (.int .i64 0) := cell_of_row W _ 1 _ _ _ hz
      have z2 : W.cell? ⟨rb, 2, none⟩ = some (.bool false) := cell_of_row W _ 2 _ _ _ hz
      have z3 : W.cell? ⟨rb, 3, none⟩ = some (.int .i64 0) := cell_of_row W _ 3 _ _ _ hz
      have z4 : W.cell? ⟨rb, 4, none⟩ = some (.int .i64 0) := cell_of_row W _ 4 _ _ _ hz
      have z5 : W.cell? ⟨rb, 5, none⟩ = some (.int .i64 0) := cell_of_row W _ 5 _ _ _ hz
      exact bodyPost_ret (v := .tuple #[.agg #[.string ⟨#[]⟩, .int .i64 0, .bool false, .int .i64 0, .int .i64 0, .int .i64 0], .int .i64 90]) (by simp [results, Tryd.results17, go_sem, z0, z1, z2, z3, z4, z5]) rfl ⟨by rw [HV.out]; rfl, by first | exact HD.out | exact hrb ▸ HD.out⟩
    · have d5 : decide ((m : Int) < 5) = false := decide_eq_false (by omega)
      have d6 : decide ((6 : Int) < (m : Int)) = true := decide_eq_true (by omega)
      clear h5 hm
      have hrb := HR2.out
      obtain ⟨x0, x1, x2, x3, x4, x5⟩ := box6 hrb.2.1 (Below.refl _ _)
      have f0 : w2.frozen? ⟨rb, 0, none⟩ = false := frozen_at hrb.2.1
      have f1 : w2.frozen? ⟨rb, 1, none⟩ = false := frozen_at hrb.2.1
      have f2 : w2.frozen? ⟨rb, 2, none⟩ = false := frozen_at hrb.2.1
      have f3 : w2.frozen? ⟨rb, 3, none⟩ = false := frozen_at hrb.2.1
      have f4 : w2.frozen? ⟨rb, 4, none⟩ = false := frozen_at hrb.2.1
      have f5 : w2.frozen? ⟨rb, 5, none⟩ = false := frozen_at hrb.2.1
      have hz := set6_heap hrb.2.1 (.string ⟨#[]⟩) (.int .i64 0) (.bool false) (.int .i64 0) (.int .i64 0) (.int .i64 0)
      have HD := Lib.hid (set6_below hrb.2.2 hrb.1 (.string ⟨#[]⟩) (.int .i64 0) (.bool false) (.int .i64 0) (.int .i64 0) (.int .i64 0))
      clear hrb
      go_wp2_with fail
      generalize hW : set6 w2 rb (.string ⟨#[]⟩) (.int .i64 0) (.bool false) (.int .i64 0) (.int .i64 0) (.int .i64 0) = W at *
      unfold set6 at hW
      rw [hW]
      clear hW x0 x1 x2 x3 x4 x5 f0 f1 f2 f3 f4 f5
      have z0 : W.cell? ⟨rb, 0, none⟩ = some (.string ⟨#[]⟩) := cell_of_row W _ 0 _ _ _ hz
      have z1 : W.cell? ⟨rb, 1, none⟩ = some (.int .i64 0) := cell_of_row W _ 1 _ _ _ hz
      have z2 : W.cell? ⟨rb, 2, none⟩ = some (.bool false) := cell_of_row W _ 2 _ _ _ hz
      have z3 : W.cell? ⟨rb, 3, none⟩ = some (.int .i64 0) := cell_of_row W _ 3 _ _ _ hz
      have z4 : W.cell? ⟨rb, 4, none⟩ = some (.int .i64 0) := cell_of_row W _ 4 _ _ _ hz
      have z5 : W.cell? ⟨rb, 5, none⟩ = some (.int .i64 0) := cell_of_row W _ 5 _ _ _ hz
      exact bodyPost_ret (v := .tuple #[.agg #[.string ⟨#[]⟩, .int .i64 0, .bool false, .int .i64 0, .int .i64 0, .int .i64 0], .int .i64 90]) (by simp [results, Tryd.results17, go_sem, z0, z1, z2, z3, z4, z5]) rfl ⟨by rw [HV.out]; rfl, by first | exact HD.out | exact hrb ▸ HD.out⟩
  · have HEQ := Lib.hid (rel_five HRL.out (by omega))
    rcases (show ps.length = 5 ∨ ps.length = 6 by omega) with hm | hm
    · have HM := Lib.hid hm
      rw [hm] at HCN hp0 hp7 hpd ⊢
      clear hm h5 hp0 hp7
      cases hC : Lib.containsS ps ⟨#[]⟩ with
      | true =>
        have HV := Lib.hid ((congrArg parseP HEQ.out).trans (prs_form (Or.inl (empty_in.1 hC))))
        rw [hC] at HCN
        clear hC
        go_wp2_with fail
        refine HCN.out.mono ?_
        rintro e w' ⟨rfl, rfl⟩
        have hrb := HR2.out
        obtain ⟨x0, x1, x2, x3, x4, x5⟩ := box6 hrb.2.1 (Below.refl _ _)
        have f0 : w2.frozen? ⟨rb, 0, none⟩ = false := frozen_at hrb.2.1
        have f1 : w2.frozen? ⟨rb, 1, none⟩ = false := frozen_at hrb.2.1
        have f2 : w2.frozen? ⟨rb, 2, none⟩ = false := frozen_at hrb.2.1
        have f3 : w2.frozen? ⟨rb, 3, none⟩ = false := frozen_at hrb.2.1
        have f4 : w2.frozen? ⟨rb, 4, none⟩ = false := frozen_at hrb.2.1
        have f5 : w2.frozen? ⟨rb, 5, none⟩ = false := frozen_at hrb.2.1
        have hz := set6_heap hrb.2.1 (.string ⟨#[]⟩) (.int .i64 0) (.bool false) (.int .i64 0) (.int .i64 0) (.int .i64 0)
        have HD := Lib.hid (set6_below hrb.2.2 hrb.1 (.string ⟨#[]⟩) (.int .i64 0) (.bool false) (.int .i64 0) (.int .i64 0) (.int .i64 0))
        clear hrb
        go_wp2_with fail
        generalize hW : set6 w2 rb (.string ⟨#[]⟩) (.int .i64 0) (.bool false) (.int .i64 0) (.int .i64 0) (.int .i64 0) = W at *
        unfold set6 at hW
        rw [hW]
        clear hW x0 x1 x2 x3 x4 x5 f0 f1 f2 f3 f4 f5
        have z0 : W.cell? ⟨rb, 0, none⟩ = some (.string ⟨#[]⟩) := cell_of_row W _ 0 _ _ _ hz
        have z1 : W.cell? ⟨rb, 1, none⟩ = some (.int .i64 0) := cell_of_row W _ 1 _ _ _ hz
        have z2 : W.cell? ⟨rb, 2, none⟩ = some (.bool false) := cell_of_row W _ 2 _ _ _ hz
        have z3 : W.cell? ⟨rb, 3, none⟩ = some (.int .i64 0) := cell_of_row W _ 3 _ _ _ hz
        have z4 : W.cell? ⟨rb, 4, none⟩ = some (.int .i64 0) := cell_of_row W _ 4 _ _ _ hz
        have z5 : W.cell? ⟨rb, 5, none⟩ = some (.int .i64 0) := cell_of_row W _ 5 _ _ _ hz
        exact bodyPost_ret (v := .tuple #[.agg #[.string ⟨#[]⟩, .int .i64 0, .bool false, .int .i64 0, .int .i64 0, .int .i64 0], .int .i64 90]) (by simp [results, Tryd.results17, go_sem, z0, z1, z2, z3, z4, z5]) rfl ⟨by rw [HV.out]; rfl, by first | exact HD.out | exact hrb ▸ HD.out⟩
      | false =>
        have HALL := Lib.hid (show ¬ ∃ t ∈ ps, t = ⟨#[]⟩ from fun h => by rw [empty_in.2 h] at hC; cases hC)
        rw [hC] at HCN
        clear hC
        have c2 := HIN.out 2 (by rw [HM.out]; omega)
        obtain ⟨T2, hT2⟩ : ∃ T, ps.getD 2 ⟨#[]⟩ = T := ⟨_, rfl⟩
        rw [hT2] at c2
        have HT2 := Lib.hid hT2
        have HTK := Lib.hid (fun c => ticks_any b 3 c (ps.drop 3) (by rw [List.length_drop, HM.out]; omega) (fun t ht => HSZ.out t (List.mem_of_mem_drop ht)) w2 (by have := HIN.out.drop 3; rwa [Nat.zero_add] at this))
        have hL3 : (ps.drop 3).length = 2 := by rw [List.length_drop, HM.out]
        unfold TicksOut at HTK
        obtain ⟨U, hU⟩ : ∃ U, (T2.toList == [117, 112]) = U := ⟨_, rfl⟩
        have hU2 : decide (ps.getD 2 ⟨#[]⟩ = upB) = U := by rw [hT2]; exact (up_beq T2).symm.trans hU
        have HU2 := Lib.hid hU2
        clear hT2 hU2
        cases hN : numsP (ps.drop 3) with
        | none =>
          have HV := Lib.hid ((congrArg parseP HEQ.out).trans (prs_none hN))
          rw [hN] at HTK
          unfold TickEnd at HTK
          rw [hL3] at HTK
          clear hN hL3
          go_wp2_with fail
          refine HCN.out.mono ?_
          rintro e w' ⟨rfl, rfl⟩
          go_wp2_with fail
          refine (HTK.out _).mono ?_
          rintro e w3 ⟨rfl, hb⟩
          have HR3 := Lib.hid (HR2.out.on hb)
          clear hb c2
          have hrb := HR3.out
          obtain ⟨x0, x1, x2, x3, x4, x5⟩ := box6 hrb.2.1 (Below.refl _ _)
          have f0 : w3.frozen? ⟨rb, 0, none⟩ = false := frozen_at hrb.2.1
          have f1 : w3.frozen? ⟨rb, 1, none⟩ = false := frozen_at hrb.2.1
          have f2 : w3.frozen? ⟨rb, 2, none⟩ = false := frozen_at hrb.2.1
          have f3 : w3.frozen? ⟨rb, 3, none⟩ = false := frozen_at hrb.2.1
          have f4 : w3.frozen? ⟨rb, 4, none⟩ = false := frozen_at hrb.2.1
          have f5 : w3.frozen? ⟨rb, 5, none⟩ = false := frozen_at hrb.2.1
          have hz := set6_heap hrb.2.1 (.string ⟨#[]⟩) (.int .i64 0) (.bool false) (.int .i64 0) (.int .i64 0) (.int .i64 0)
          have HD := Lib.hid (set6_below hrb.2.2 hrb.1 (.string ⟨#[]⟩) (.int .i64 0) (.bool false) (.int .i64 0) (.int .i64 0) (.int .i64 0))
          clear hrb
          go_wp2_with fail
          generalize hW : set6 w3 rb (.string ⟨#[]⟩) (.int .i64 0) (.bool false) (.int .i64 0) (.int .i64 0) (.int .i64 0) = W at *
          unfold set6 at hW
          rw [hW]
          clear hW x0 x1 x2 x3 x4 x5 f0 f1 f2 f3 f4 f5
          have z0 : W.cell? ⟨rb, 0, none⟩ = some (.string ⟨#[]⟩) := cell_of_row W _ 0 _ _ _ hz
          have z1 : W.cell? ⟨rb, 1, none⟩ = some (.int .i64 0) := cell_of_row W _ 1 _ _ _ hz
          have z2 : W.cell? ⟨rb, 2, none⟩ = some (.bool false) := cell_of_row W _ 2 _ _ _ hz
          have z3 : W.cell? ⟨rb, 3, none⟩ = some (.int .i64 0) := cell_of_row W _ 3 _ _ _ hz
          have z4 : W.cell? ⟨rb, 4, none⟩ = some (.int .i64 0) := cell_of_row W _ 4 _ _ _ hz
          have z5 : W.cell? ⟨rb, 5, none⟩ = some (.int .i64 0) := cell_of_row W _ 5 _ _ _ hz
          exact bodyPost_ret (v := .tuple #[.agg #[.string ⟨#[]⟩, .int .i64 0, .bool false, .int .i64 0, .int .i64 0, .int .i64 0], .int .i64 90]) (by simp [results, Tryd.results17, go_sem, z0, z1, z2, z3, z4, z5]) rfl ⟨by rw [HV.out]; rfl, by first | exact HD.out | exact hrb ▸ HD.out⟩
        | some ns =>
          rw [hN] at HTK
          unfold TickEnd at HTK
          rw [hL3] at HTK
          have HN := Lib.hid hN
          clear hN hL3
          go_wp2_with fail
          refine HCN.out.mono ?_
          rintro e w' ⟨rfl, rfl⟩
          go_wp2_with fail
          refine (HTK.out _).mono ?_
          rintro e w3 ⟨q, dn, rfl, ho, hb⟩
          have HR3 := Lib.hid (HR2.out.on hb)
          have HIN3 := Lib.hid (HIN.out.on hb)
          obtain ⟨bn, rfl, hjd, hdn, hnl, hnc⟩ := ints_form ho (by omega)
          clear hb c2 ho HCN HTK HIN HR2
          have x0 := HIN3.out 0 (by rw [HM.out]; omega)
          have x1 := HIN3.out 1 (by rw [HM.out]; omega)
          have x2 := HIN3.out 2 (by rw [HM.out]; omega)
          rw [Nat.zero_add] at x0 x1 x2
          rw [HT2.out] at x2
          obtain ⟨T0, hT0⟩ : ∃ T, ps.getD 0 ⟨#[]⟩ = T := ⟨_, rfl⟩
          obtain ⟨T1, hT1⟩ : ∃ T, ps.getD 1 ⟨#[]⟩ = T := ⟨_, rfl⟩
          rw [hT0] at x0
          rw [hT1] at x1
          have n0 := hnc 0 (by omega)
          have n1 := hnc 1 (by omega)
          have hB0 : ns.getD 2 0 = 0 := by rw [List.getD_eq_getElem?_getD, List.getElem?_eq_none (by omega)]; rfl
          obtain ⟨O, hO⟩ : ∃ O, ns.getD 0 0 = O := ⟨_, rfl⟩
          obtain ⟨A, hA⟩ : ∃ A, ns.getD 1 0 = A := ⟨_, rfl⟩
          have hB := hB0
          obtain ⟨K, hK⟩ : ∃ K, kindB T1 = K := ⟨_, rfl⟩
          obtain ⟨N, hNN⟩ : ∃ N, numsB K = N := ⟨_, rfl⟩
          have HKI := Lib.hid (fun W => kind_any T1 W)
          have HNU := Lib.hid (fun W => numbers_any K W)
          rw [hK] at HKI
          rw [hNN] at HNU
          rw [hO] at n0
          rw [hA] at n1

          have HNL := Lib.hid hnl
          have HEE := Lib.hid (show ps.getD 0 ⟨#[]⟩ = T0 ∧ kindB (ps.getD 1 ⟨#[]⟩) = K ∧ numsB K = N ∧ ns.getD 0 0 = O ∧ ns.getD 1 0 = A ∧ ns.getD 2 0 = 0 from ⟨hT0, by rw [hT1, hK], hNN, hO, hA, hB⟩)
          have HS0 := Lib.hid (show T0.size ≤ 1000000 by
            rw [← hT0]
            refine Nat.le_trans (splK_size s s.size _ ?_) hs
            rw [HEQ.out, List.getD_eq_getElem?_getD, List.getElem?_eq_getElem (by rw [HM.out]; omega)]
            exact List.getElem_mem _)
          clear hT0 hT1 hO hA hB hK hNN hnc hnl
          cases U with
          | true =>
            have HFM := Lib.hid (form_ok HALL.out (by rw [HM.out]; omega) (Or.inl (of_decide_eq_true HU2.out)))
            obtain ⟨D, hD⟩ : ∃ D, (T2.toList == [100, 111, 119, 110]) = D := ⟨_, rfl⟩
            have HPK := Lib.hid (show N ≠ 1 → parseP (splK s s.size) = (noTox, 91) from fun h => (congrArg parseP HEQ.out).trans (parse_kind HFM.out HN.out (by rw [HEE.out.2.1, HEE.out.2.2.1, HNL.out]; exact h)))
            have HPC := Lib.hid (show N = 1 → parseP (splK s s.size) = if checkB T0 K O A 0 = 0 then (⟨T0, K, true, O, A, 0⟩, 0) else (noTox, checkB T0 K O A 0) from fun h => (congrArg parseP HEQ.out).trans ((parse_chk HFM.out HN.out HU2.out (by rw [HNL.out]; omega) (by rw [HEE.out.2.1, HEE.out.2.2.1, HNL.out]; exact h)).trans (by rw [HEE.out.1, HEE.out.2.1, HEE.out.2.2.2.1, HEE.out.2.2.2.2.1, HEE.out.2.2.2.2.2])))
            have HCK := Lib.hid (fun W => check_any T0 (by have := HS0.out; unfold maxLen; omega) K true O A 0 W)
            unfold Chk at HCK
            generalize checkB T0 K O A 0 = C at *
            clear HFM HN HU2 HEE HNL HEQ HALL HT2 HM HSZ HRL hU hs hD
            go_wp2_with fail
            refine (HKI.out _).mono ?_
            rintro e w' ⟨rfl, rfl⟩
            go_wp2_with fail
            refine (HNU.out _).mono ?_
            rintro e w' ⟨rfl, rfl⟩
            by_cases hNJ : N = 1
            · have HP2 := Lib.hid (HPC.out hNJ)
              have cN : (N != 1) = false := by simpa using hNJ
              clear hNJ HPK HPC
              have HQ := Lib.hid (show ∀ W, Below w3.heap.size w3 W → W.cell? ⟨b, 0, none⟩ = some (.string T0) ∧ W.cell? ⟨bn, 0, none⟩ = some (.int .i64 O) ∧ W.cell? ⟨bn, 1, none⟩ = some (.int .i64 A) ∧ Hid (Below w3.heap.size w3 W) from fun W hW =>
                ⟨(hW.cell (World.block_lt_of_cell? _ _ x0)).trans x0, (hW.cell (World.block_lt_of_cell? _ _ n0)).trans n0, (hW.cell (World.block_lt_of_cell? _ _ n1)).trans n1, Lib.hid hW⟩)
              have HQ2 := Lib.hid (show ∀ W W', Hid (Below w3.heap.size w3 W) → Below W.heap.size W W' → W'.cell? ⟨b, 0, none⟩ = some (.string T0) ∧ W'.cell? ⟨bn, 0, none⟩ = some (.int .i64 O) ∧ W'.cell? ⟨bn, 1, none⟩ = some (.int .i64 A) ∧ Hid (Below w3.heap.size w3 W') from fun W W' h1 h2 => HQ.out W' (seqB h1.out h2))
              have HCL := Lib.hid (fun W => clone_any T0 HS0.out W)
              have HZ := Lib.hid (show ∀ W, Below (w3.alloc (.cells #[.string ⟨#[]⟩, .int .i64 0, .bool false, .int .i64 0, .int .i64 0, .int .i64 0] 23)).drew.heap.size (w3.alloc (.cells #[.string ⟨#[]⟩, .int .i64 0, .bool false, .int .i64 0, .int .i64 0, .int .i64 0] 23)).drew W → W.heap[w3.heap.size]? = some (.cells #[.string ⟨#[]⟩, .int .i64 0, .bool false, .int .i64 0, .int .i64 0, .int .i64 0] 23 (0, 0)) from fun W hW => (hW.block _ (blk_lt (heap_alloc_new w3 (.cells #[.string ⟨#[]⟩, .int .i64 0, .bool false, .int .i64 0, .int .i64 0, .int .i64 0] 23)))).trans (heap_alloc_new w3 (.cells #[.string ⟨#[]⟩, .int .i64 0, .bool false, .int .i64 0, .int .i64 0, .int .i64 0] 23)))
              have HZ2 := Lib.hid (show ∀ W, Below (w3.alloc (.cells #[.string ⟨#[]⟩, .int .i64 0, .bool false, .int .i64 0, .int .i64 0, .int .i64 0] 23)).drew.heap.size (w3.alloc (.cells #[.string ⟨#[]⟩, .int .i64 0, .bool false, .int .i64 0, .int .i64 0, .int .i64 0] 23)).drew W → W.cell? ⟨w3.heap.size, 0, none⟩ = some (.string ⟨#[]⟩) ∧ W.cell? ⟨w3.heap.size, 1, none⟩ = some (.int .i64 0) ∧ W.cell? ⟨w3.heap.size, 2, none⟩ = some (.bool false) ∧ W.cell? ⟨w3.heap.size, 3, none⟩ = some (.int .i64 0) ∧ W.cell? ⟨w3.heap.size, 4, none⟩ = some (.int .i64 0) ∧ W.cell? ⟨w3.heap.size, 5, none⟩ = some (.int .i64 0) from fun W hW => box6 (HZ.out W hW) (Below.refl _ _))
              have HZ3 := Lib.hid (show ∀ W i, Below (w3.alloc (.cells #[.string ⟨#[]⟩, .int .i64 0, .bool false, .int .i64 0, .int .i64 0, .int .i64 0] 23)).drew.heap.size (w3.alloc (.cells #[.string ⟨#[]⟩, .int .i64 0, .bool false, .int .i64 0, .int .i64 0, .int .i64 0] 23)).drew W → W.frozen? ⟨w3.heap.size, i, none⟩ = false from fun W i hW => frozen_at (HZ.out W hW))
              obtain ⟨tb, htb⟩ : ∃ tb, w3.heap.size = tb := ⟨_, rfl⟩
              rw [htb] at HZ HZ2 HZ3
              have HQ6 := Lib.hid (show ∀ W y0 y1 y2 y3 y4 y5, Hid (Below w3.heap.size w3 W) → ((((((W.setCell ⟨tb, 0, none⟩ y0).setCell ⟨tb, 1, none⟩ y1).setCell ⟨tb, 2, none⟩ y2).setCell ⟨tb, 3, none⟩ y3).setCell ⟨tb, 4, none⟩ y4).setCell ⟨tb, 5, none⟩ y5).cell? ⟨b, 0, none⟩ = some (.string T0) ∧ ((((((W.setCell ⟨tb, 0, none⟩ y0).setCell ⟨tb, 1, none⟩ y1).setCell ⟨tb, 2, none⟩ y2).setCell ⟨tb, 3, none⟩ y3).setCell ⟨tb, 4, none⟩ y4).setCell ⟨tb, 5, none⟩ y5).cell? ⟨bn, 0, none⟩ = some (.int .i64 O) ∧ ((((((W.setCell ⟨tb, 0, none⟩ y0).setCell ⟨tb, 1, none⟩ y1).setCell ⟨tb, 2, none⟩ y2).setCell ⟨tb, 3, none⟩ y3).setCell ⟨tb, 4, none⟩ y4).setCell ⟨tb, 5, none⟩ y5).cell? ⟨bn, 1, none⟩ = some (.int .i64 A) ∧ Hid (Below w3.heap.size w3 (((((((W.setCell ⟨tb, 0, none⟩ y0).setCell ⟨tb, 1, none⟩ y1).setCell ⟨tb, 2, none⟩ y2).setCell ⟨tb, 3, none⟩ y3).setCell ⟨tb, 4, none⟩ y4).setCell ⟨tb, 5, none⟩ y5))) from fun W y0 y1 y2 y3 y4 y5 hW => HQ.out _ (set6_below hW.out (Nat.le_of_eq htb) y0 y1 y2 y3 y4 y5))
              have HQ7 := Lib.hid (show ∀ W o, Hid (Below w3.heap.size w3 W) → (W.alloc o).cell? ⟨b, 0, none⟩ = some (.string T0) ∧ (W.alloc o).cell? ⟨bn, 0, none⟩ = some (.int .i64 O) ∧ (W.alloc o).cell? ⟨bn, 1, none⟩ = some (.int .i64 A) ∧ Hid (Below w3.heap.size w3 ((W.alloc o))) from fun W o hW => HQ2.out _ _ hW ((Below.refl _ _).alloc (Nat.le_refl _) _))
              have HPA := Lib.hid (show ∀ W, Hid (Below w3.heap.size w3 W) → ∃ g, Value.pointer (some ⟨W.heap.size, 0, none⟩) = Value.pointer (some ⟨g, 0, none⟩) ∧ w3.heap.size ≤ g ∧ (W.alloc (.cells #[.string T0, .int .i64 K, .bool true, .int .i64 O, .int .i64 A, .int .i64 0] 23)).heap[g]? = some (.cells #[.string T0, .int .i64 K, .bool true, .int .i64 O, .int .i64 A, .int .i64 0] 23 (0, 0)) ∧ Below w3.heap.size w3 (W.alloc (.cells #[.string T0, .int .i64 K, .bool true, .int .i64 O, .int .i64 A, .int .i64 0] 23)) from
                fun W hW => ⟨W.heap.size, rfl, hW.out.size, heap_alloc_new W _, seqB hW.out ((Below.refl _ _).alloc (Nat.le_refl _) _)⟩)
              have HPB := Lib.hid (show ∀ W, Hid (Below w3.heap.size w3 W) → W.heap[tb]? = some (.cells #[.string ⟨#[]⟩, .int .i64 0, .bool false, .int .i64 0, .int .i64 0, .int .i64 0] 23 (0, 0)) → ∃ g, Value.pointer (some ⟨tb, 0, none⟩) = Value.pointer (some ⟨g, 0, none⟩) ∧ w3.heap.size ≤ g ∧ ((((((W.setCell ⟨tb, 0, none⟩ (.string T0)).setCell ⟨tb, 1, none⟩ (.int .i64 K)).setCell ⟨tb, 2, none⟩ (.bool true)).setCell ⟨tb, 3, none⟩ (.int .i64 O)).setCell ⟨tb, 4, none⟩ (.int .i64 A)).setCell ⟨tb, 5, none⟩ (.int .i64 0)).heap[g]? = some (.cells #[.string T0, .int .i64 K, .bool true, .int .i64 O, .int .i64 A, .int .i64 0] 23 (0, 0)) ∧ Below w3.heap.size w3 ((((((W.setCell ⟨tb, 0, none⟩ (.string T0)).setCell ⟨tb, 1, none⟩ (.int .i64 K)).setCell ⟨tb, 2, none⟩ (.bool true)).setCell ⟨tb, 3, none⟩ (.int .i64 O)).setCell ⟨tb, 4, none⟩ (.int .i64 A)).setCell ⟨tb, 5, none⟩ (.int .i64 0)) from
                fun W hW hz => ⟨tb, rfl, Nat.le_of_eq htb, set6_heap hz _ _ _ _ _ _, set6_below hW.out (Nat.le_of_eq htb) _ _ _ _ _ _⟩)
              have HI := Lib.hid (HQ.out w3.drew (Below.refl _ _).drew)
              have HI2 := Lib.hid (show ∀ o, (w3.alloc o).drew.cell? ⟨b, 0, none⟩ = some (.string T0) ∧ (w3.alloc o).drew.cell? ⟨bn, 0, none⟩ = some (.int .i64 O) ∧ (w3.alloc o).drew.cell? ⟨bn, 1, none⟩ = some (.int .i64 A) ∧ Hid (Below w3.heap.size w3 ((w3.alloc o).drew)) from fun o => HQ.out _ ((Below.refl _ _).alloc (Nat.le_refl _) _).drew)
              go_upto_region 11 with fail
              go_cut [9] from 60 to 72 (fun c wc => ∃ g, c = .pointer (some ⟨g, 0, none⟩) ∧ w3.heap.size ≤ g ∧ wc.heap[g]? = some (.cells #[.string T0, .int .i64 K, .bool true, .int .i64 O, .int .i64 A, .int .i64 0] 23 (0, 0)) ∧ Below w3.heap.size w3 wc)
              case first =>
                go_region_held (fun W => W.cell? ⟨b, 0, none⟩ = some (.string T0) ∧ W.cell? ⟨bn, 0, none⟩ = some (.int .i64 O) ∧ W.cell? ⟨bn, 1, none⟩ = some (.int .i64 A) ∧ Hid (Below w3.heap.size w3 W))
                  (first
                    | with_reducible assumption
                    | with_reducible exact HI.out
                    | with_reducible exact HI2.out _
                    | (go_split_ands; with_reducible exact HQ6.out _ _ _ _ _ _ _ (by assumption))
                    | (go_split_ands; with_reducible exact HQ7.out _ _ (by assumption)))
                  (first
                    | (go_at_call 34; go_split_ands; (with_reducible refine Calls.mono (HCL.out _) ?_); rintro e w4 ⟨rfl, hb⟩; (have hS := HQ2.out _ _ (by assumption) hb); first | ((with_reducible have HZ4 := Lib.hid (HZ.out _ hb)); (have hz2 := HZ2.out _ hb); (have g0 := HZ3.out _ 0 hb); (have g1 := HZ3.out _ 1 hb); (have g2 := HZ3.out _ 2 hb); (have g3 := HZ3.out _ 3 hb); (have g4 := HZ3.out _ 4 hb); (have g5 := HZ3.out _ 5 hb); obtain ⟨v0, v1, v2, v3, v4, v5⟩ := hz2; clear hb) | clear hb))
                all_goals (go_wp2_with fail; go_meet; go_split_ands; first | with_reducible exact HPA.out _ (by assumption) | with_reducible exact HPB.out _ (by assumption) HZ4.out)
              case rest =>
              obtain ⟨g, rfl, hg1, hg2, hg3⟩ := hcut
              have HR4 := Lib.hid (HR3.out.on hg3)
              have HGE := Lib.hid (show rb ≠ g from fun e => by have := blk_lt HR3.out.2.1; omega)
              have HWG := Lib.hid (show w.heap.size ≤ g from Nat.le_trans HR3.out.2.2.size hg1)
              have HG4 := Lib.hid hg2
              obtain ⟨y0, y1, y2, y3, y4, y5⟩ := box6 hg2 (Below.refl _ _)
              clear HQ HQ2 HQ6 HQ7 HPA HPB HI HI2 HZ HZ2 HZ3 HCL htb HS0
              have HG5 := HG4
              have HR5 := HR4
              clear hg1 hg2 hg3 x0 x1 x2 n0 n1 HG4 HR4
              go_upto_region 14 with fail
              go_wp2_with fail
              refine (HCK.out _).mono ?_
              rintro e w7 ⟨rfl, hb⟩
              have HR7 := Lib.hid (HR5.out.on hb)
              have HG7 := Lib.hid ((hb.block _ (blk_lt HG5.out)).trans HG5.out)
              clear hb HG5 HR5 HCK HKI HNU
              by_cases hC : C = 0
              · have cC : (C != 0) = false := by simpa using hC
                have HV := Lib.hid (HP2.out.trans (if_pos hC))
                clear hC HP2
                obtain ⟨v0, v1, v2, v3, v4, v5⟩ := box6 HG7.out (Below.refl _ _)
                have hrb := HR7.out
                obtain ⟨x0, x1, x2, x3, x4, x5⟩ := box6 hrb.2.1 (Below.refl _ _)
                have f0 : w7.frozen? ⟨rb, 0, none⟩ = false := frozen_at hrb.2.1
                have f1 : w7.frozen? ⟨rb, 1, none⟩ = false := frozen_at hrb.2.1
                have f2 : w7.frozen? ⟨rb, 2, none⟩ = false := frozen_at hrb.2.1
                have f3 : w7.frozen? ⟨rb, 3, none⟩ = false := frozen_at hrb.2.1
                have f4 : w7.frozen? ⟨rb, 4, none⟩ = false := frozen_at hrb.2.1
                have f5 : w7.frozen? ⟨rb, 5, none⟩ = false := frozen_at hrb.2.1
                have hz := set6_heap hrb.2.1 (.string T0) (.int .i64 K) (.bool true) (.int .i64 O) (.int .i64 A) (.int .i64 0)
                have HD := Lib.hid (set6_below hrb.2.2 hrb.1 (.string T0) (.int .i64 K) (.bool true) (.int .i64 O) (.int .i64 A) (.int .i64 0))
                clear hrb
                go_wp2_with fail
                generalize hW : set6 w7 rb (.string T0) (.int .i64 K) (.bool true) (.int .i64 O) (.int .i64 A) (.int .i64 0) = W at *
                unfold set6 at hW
                rw [hW]
                clear hW x0 x1 x2 x3 x4 x5 f0 f1 f2 f3 f4 f5
                have z0 : W.cell? ⟨rb, 0, none⟩ = some (.string T0) := cell_of_row W _ 0 _ _ _ hz
                have z1 : W.cell? ⟨rb, 1, none⟩ = some (.int .i64 K) := cell_of_row W _ 1 _ _ _ hz
                have z2 : W.cell? ⟨rb, 2, none⟩ = some (.bool true) := cell_of_row W _ 2 _ _ _ hz
                have z3 : W.cell? ⟨rb, 3, none⟩ = some (.int .i64 O) := cell_of_row W _ 3 _ _ _ hz
                have z4 : W.cell? ⟨rb, 4, none⟩ = some (.int .i64 A) := cell_of_row W _ 4 _ _ _ hz
                have z5 : W.cell? ⟨rb, 5, none⟩ = some (.int .i64 0) := cell_of_row W _ 5 _ _ _ hz
                exact bodyPost_ret (v := .tuple #[.agg #[.string T0, .int .i64 K, .bool true, .int .i64 O, .int .i64 A, .int .i64 0], .int .i64 0]) (by simp [results, Tryd.results17, go_sem, z0, z1, z2, z3, z4, z5]) rfl ⟨by rw [HV.out]; rfl, by first | exact HD.out | exact hrb ▸ HD.out⟩

              · have cC : (C != 0) = true := by simpa using hC
                have HV := Lib.hid (HP2.out.trans (if_neg hC))
                clear hC HP2
                have hrb := HR7.out
                obtain ⟨x0, x1, x2, x3, x4, x5⟩ := box6 hrb.2.1 (Below.refl _ _)
                have f0 : w7.frozen? ⟨rb, 0, none⟩ = false := frozen_at hrb.2.1
                have f1 : w7.frozen? ⟨rb, 1, none⟩ = false := frozen_at hrb.2.1
                have f2 : w7.frozen? ⟨rb, 2, none⟩ = false := frozen_at hrb.2.1
                have f3 : w7.frozen? ⟨rb, 3, none⟩ = false := frozen_at hrb.2.1
                have f4 : w7.frozen? ⟨rb, 4, none⟩ = false := frozen_at hrb.2.1
                have f5 : w7.frozen? ⟨rb, 5, none⟩ = false := frozen_at hrb.2.1
                have hz := set6_heap hrb.2.1 (.string ⟨#[]⟩) (.int .i64 0) (.bool false) (.int .i64 0) (.int .i64 0) (.int .i64 0)
                have HD := Lib.hid (set6_below hrb.2.2 hrb.1 (.string ⟨#[]⟩) (.int .i64 0) (.bool false) (.int .i64 0) (.int .i64 0) (.int .i64 0))
                clear hrb
                go_wp2_with fail
                generalize hW : set6 w7 rb (.string ⟨#[]⟩) (.int .i64 0) (.bool false) (.int .i64 0) (.int .i64 0) (.int .i64 0) = W at *
                unfold set6 at hW
                rw [hW]
                clear hW x0 x1 x2 x3 x4 x5 f0 f1 f2 f3 f4 f5
                have z0 : W.cell? ⟨rb, 0, none⟩ = some (.string ⟨#[]⟩) := cell_of_row W _ 0 _ _ _ hz
                have z1 : W.cell? ⟨rb, 1, none⟩ = some (.int .i64 0) := cell_of_row W _ 1 _ _ _ hz
                have z2 : W.cell? ⟨rb, 2, none⟩ = some (.bool false) := cell_of_row W _ 2 _ _ _ hz
                have z3 : W.cell? ⟨rb, 3, none⟩ = some (.int .i64 0) := cell_of_row W _ 3 _ _ _ hz
                have z4 : W.cell? ⟨rb, 4, none⟩ = some (.int .i64 0) := cell_of_row W _ 4 _ _ _ hz
                have z5 : W.cell? ⟨rb, 5, none⟩ = some (.int .i64 0) := cell_of_row W _ 5 _ _ _ hz
                exact bodyPost_ret (v := .tuple #[.agg #[.string ⟨#[]⟩, .int .i64 0, .bool false, .int .i64 0, .int .i64 0, .int .i64 0], .int .i64 C]) (by simp [results, Tryd.results17, go_sem, z0, z1, z2, z3, z4, z5]) rfl ⟨by rw [HV.out]; rfl, by first | exact HD.out | exact hrb ▸ HD.out⟩

            · have HV := Lib.hid (HPK.out hNJ)
              have cN : (N != 1) = true := by simpa using hNJ
              clear hNJ HPK HPC
              have hrb := HR3.out
              obtain ⟨x0, x1, x2, x3, x4, x5⟩ := box6 hrb.2.1 (Below.refl _ _)
              have f0 : w3.frozen? ⟨rb, 0, none⟩ = false := frozen_at hrb.2.1
              have f1 : w3.frozen? ⟨rb, 1, none⟩ = false := frozen_at hrb.2.1
              have f2 : w3.frozen? ⟨rb, 2, none⟩ = false := frozen_at hrb.2.1
              have f3 : w3.frozen? ⟨rb, 3, none⟩ = false := frozen_at hrb.2.1
              have f4 : w3.frozen? ⟨rb, 4, none⟩ = false := frozen_at hrb.2.1
              have f5 : w3.frozen? ⟨rb, 5, none⟩ = false := frozen_at hrb.2.1
              have hz := set6_heap hrb.2.1 (.string ⟨#[]⟩) (.int .i64 0) (.bool false) (.int .i64 0) (.int .i64 0) (.int .i64 0)
              have HD := Lib.hid (set6_below hrb.2.2 hrb.1 (.string ⟨#[]⟩) (.int .i64 0) (.bool false) (.int .i64 0) (.int .i64 0) (.int .i64 0))
              clear hrb
              go_wp2_with fail
              generalize hW : set6 w3 rb (.string ⟨#[]⟩) (.int .i64 0) (.bool false) (.int .i64 0) (.int .i64 0) (.int .i64 0) = W at *
              unfold set6 at hW
              rw [hW]
              clear hW x0 x1 x2 x3 x4 x5 f0 f1 f2 f3 f4 f5
              have z0 : W.cell? ⟨rb, 0, none⟩ = some (.string ⟨#[]⟩) := cell_of_row W _ 0 _ _ _ hz
              have z1 : W.cell? ⟨rb, 1, none⟩ = some (.int .i64 0) := cell_of_row W _ 1 _ _ _ hz
              have z2 : W.cell? ⟨rb, 2, none⟩ = some (.bool false) := cell_of_row W _ 2 _ _ _ hz
              have z3 : W.cell? ⟨rb, 3, none⟩ = some (.int .i64 0) := cell_of_row W _ 3 _ _ _ hz
              have z4 : W.cell? ⟨rb, 4, none⟩ = some (.int .i64 0) := cell_of_row W _ 4 _ _ _ hz
              have z5 : W.cell? ⟨rb, 5, none⟩ = some (.int .i64 0) := cell_of_row W _ 5 _ _ _ hz
              exact bodyPost_ret (v := .tuple #[.agg #[.string ⟨#[]⟩, .int .i64 0, .bool false, .int .i64 0, .int .i64 0, .int .i64 0], .int .i64 91]) (by simp [results, Tryd.results17, go_sem, z0, z1, z2, z3, z4, z5]) rfl ⟨by rw [HV.out]; rfl, by first | exact HD.out | exact hrb ▸ HD.out⟩
          | false =>
            cases hD : (T2.toList == [100, 111, 119, 110]) with
            | true =>
              have HFM := Lib.hid (form_ok HALL.out (by rw [HM.out]; omega) (Or.inr (HT2.out.trans (down_of hD))))
              have HPK := Lib.hid (show N ≠ 1 → parseP (splK s s.size) = (noTox, 91) from fun h => (congrArg parseP HEQ.out).trans (parse_kind HFM.out HN.out (by rw [HEE.out.2.1, HEE.out.2.2.1, HNL.out]; exact h)))
              have HPC := Lib.hid (show N = 1 → parseP (splK s s.size) = if checkB T0 K O A 0 = 0 then (⟨T0, K, false, O, A, 0⟩, 0) else (noTox, checkB T0 K O A 0) from fun h => (congrArg parseP HEQ.out).trans ((parse_chk HFM.out HN.out HU2.out (by rw [HNL.out]; omega) (by rw [HEE.out.2.1, HEE.out.2.2.1, HNL.out]; exact h)).trans (by rw [HEE.out.1, HEE.out.2.1, HEE.out.2.2.2.1, HEE.out.2.2.2.2.1, HEE.out.2.2.2.2.2])))
              have HCK := Lib.hid (fun W => check_any T0 (by have := HS0.out; unfold maxLen; omega) K false O A 0 W)
              unfold Chk at HCK
              generalize checkB T0 K O A 0 = C at *
              clear HFM HN HU2 HEE HNL HEQ HALL HT2 HM HSZ HRL hU hs
              go_wp2_with fail
              refine (HKI.out _).mono ?_
              rintro e w' ⟨rfl, rfl⟩
              go_wp2_with fail
              refine (HNU.out _).mono ?_
              rintro e w' ⟨rfl, rfl⟩
              by_cases hNJ : N = 1
              · have HP2 := Lib.hid (HPC.out hNJ)
                have cN : (N != 1) = false := by simpa using hNJ
                clear hNJ HPK HPC
                have HQ := Lib.hid (show ∀ W, Below w3.heap.size w3 W → W.cell? ⟨b, 0, none⟩ = some (.string T0) ∧ W.cell? ⟨bn, 0, none⟩ = some (.int .i64 O) ∧ W.cell? ⟨bn, 1, none⟩ = some (.int .i64 A) ∧ Hid (Below w3.heap.size w3 W) from fun W hW =>
                  ⟨(hW.cell (World.block_lt_of_cell? _ _ x0)).trans x0, (hW.cell (World.block_lt_of_cell? _ _ n0)).trans n0, (hW.cell (World.block_lt_of_cell? _ _ n1)).trans n1, Lib.hid hW⟩)
                have HQ2 := Lib.hid (show ∀ W W', Hid (Below w3.heap.size w3 W) → Below W.heap.size W W' → W'.cell? ⟨b, 0, none⟩ = some (.string T0) ∧ W'.cell? ⟨bn, 0, none⟩ = some (.int .i64 O) ∧ W'.cell? ⟨bn, 1, none⟩ = some (.int .i64 A) ∧ Hid (Below w3.heap.size w3 W') from fun W W' h1 h2 => HQ.out W' (seqB h1.out h2))
                have HCL := Lib.hid (fun W => clone_any T0 HS0.out W)
                have HZ := Lib.hid (show ∀ W, Below (w3.alloc (.cells #[.string ⟨#[]⟩, .int .i64 0, .bool false, .int .i64 0, .int .i64 0, .int .i64 0] 23)).drew.heap.size (w3.alloc (.cells #[.string ⟨#[]⟩, .int .i64 0, .bool false, .int .i64 0, .int .i64 0, .int .i64 0] 23)).drew W → W.heap[w3.heap.size]? = some (.cells #[.string ⟨#[]⟩, .int .i64 0, .bool false, .int .i64 0, .int .i64 0, .int .i64 0] 23 (0, 0)) from fun W hW => (hW.block _ (blk_lt (heap_alloc_new w3 (.cells #[.string ⟨#[]⟩, .int .i64 0, .bool false, .int .i64 0, .int .i64 0, .int .i64 0] 23)))).trans (heap_alloc_new w3 (.cells #[.string ⟨#[]⟩, .int .i64 0, .bool false, .int .i64 0, .int .i64 0, .int .i64 0] 23)))
                have HZ2 := Lib.hid (show ∀ W, Below (w3.alloc (.cells #[.string ⟨#[]⟩, .int .i64 0, .bool false, .int .i64 0, .int .i64 0, .int .i64 0] 23)).drew.heap.size (w3.alloc (.cells #[.string ⟨#[]⟩, .int .i64 0, .bool false, .int .i64 0, .int .i64 0, .int .i64 0] 23)).drew W → W.cell? ⟨w3.heap.size, 0, none⟩ = some (.string ⟨#[]⟩) ∧ W.cell? ⟨w3.heap.size, 1, none⟩ = some (.int .i64 0) ∧ W.cell? ⟨w3.heap.size, 2, none⟩ = some (.bool false) ∧ W.cell? ⟨w3.heap.size, 3, none⟩ = some (.int .i64 0) ∧ W.cell? ⟨w3.heap.size, 4, none⟩ = some (.int .i64 0) ∧ W.cell? ⟨w3.heap.size, 5, none⟩ = some (.int .i64 0) from fun W hW => box6 (HZ.out W hW) (Below.refl _ _))
                have HZ3 := Lib.hid (show ∀ W i, Below (w3.alloc (.cells #[.string ⟨#[]⟩, .int .i64 0, .bool false, .int .i64 0, .int .i64 0, .int .i64 0] 23)).drew.heap.size (w3.alloc (.cells #[.string ⟨#[]⟩, .int .i64 0, .bool false, .int .i64 0, .int .i64 0, .int .i64 0] 23)).drew W → W.frozen? ⟨w3.heap.size, i, none⟩ = false from fun W i hW => frozen_at (HZ.out W hW))
                obtain ⟨tb, htb⟩ : ∃ tb, w3.heap.size = tb := ⟨_, rfl⟩
                rw [htb] at HZ HZ2 HZ3
                have HQ6 := Lib.hid (show ∀ W y0 y1 y2 y3 y4 y5, Hid (Below w3.heap.size w3 W) → ((((((W.setCell ⟨tb, 0, none⟩ y0).setCell ⟨tb, 1, none⟩ y1).setCell ⟨tb, 2, none⟩ y2).setCell ⟨tb, 3, none⟩ y3).setCell ⟨tb, 4, none⟩ y4).setCell ⟨tb, 5, none⟩ y5).cell? ⟨b, 0, none⟩ = some (.string T0) ∧ ((((((W.setCell ⟨tb, 0, none⟩ y0).setCell ⟨tb, 1, none⟩ y1).setCell ⟨tb, 2, none⟩ y2).setCell ⟨tb, 3, none⟩ y3).setCell ⟨tb, 4, none⟩ y4).setCell ⟨tb, 5, none⟩ y5).cell? ⟨bn, 0, none⟩ = some (.int .i64 O) ∧ ((((((W.setCell ⟨tb, 0, none⟩ y0).setCell ⟨tb, 1, none⟩ y1).setCell ⟨tb, 2, none⟩ y2).setCell ⟨tb, 3, none⟩ y3).setCell ⟨tb, 4, none⟩ y4).setCell ⟨tb, 5, none⟩ y5).cell? ⟨bn, 1, none⟩ = some (.int .i64 A) ∧ Hid (Below w3.heap.size w3 (((((((W.setCell ⟨tb, 0, none⟩ y0).setCell ⟨tb, 1, none⟩ y1).setCell ⟨tb, 2, none⟩ y2).setCell ⟨tb, 3, none⟩ y3).setCell ⟨tb, 4, none⟩ y4).setCell ⟨tb, 5, none⟩ y5))) from fun W y0 y1 y2 y3 y4 y5 hW => HQ.out _ (set6_below hW.out (Nat.le_of_eq htb) y0 y1 y2 y3 y4 y5))
                have HQ7 := Lib.hid (show ∀ W o, Hid (Below w3.heap.size w3 W) → (W.alloc o).cell? ⟨b, 0, none⟩ = some (.string T0) ∧ (W.alloc o).cell? ⟨bn, 0, none⟩ = some (.int .i64 O) ∧ (W.alloc o).cell? ⟨bn, 1, none⟩ = some (.int .i64 A) ∧ Hid (Below w3.heap.size w3 ((W.alloc o))) from fun W o hW => HQ2.out _ _ hW ((Below.refl _ _).alloc (Nat.le_refl _) _))
                have HPA := Lib.hid (show ∀ W, Hid (Below w3.heap.size w3 W) → ∃ g, Value.pointer (some ⟨W.heap.size, 0, none⟩) = Value.pointer (some ⟨g, 0, none⟩) ∧ w3.heap.size ≤ g ∧ (W.alloc (.cells #[.string T0, .int .i64 K, .bool false, .int .i64 O, .int .i64 A, .int .i64 0] 23)).heap[g]? = some (.cells #[.string T0, .int .i64 K, .bool false, .int .i64 O, .int .i64 A, .int .i64 0] 23 (0, 0)) ∧ Below w3.heap.size w3 (W.alloc (.cells #[.string T0, .int .i64 K, .bool false, .int .i64 O, .int .i64 A, .int .i64 0] 23)) from
                  fun W hW => ⟨W.heap.size, rfl, hW.out.size, heap_alloc_new W _, seqB hW.out ((Below.refl _ _).alloc (Nat.le_refl _) _)⟩)
                have HPB := Lib.hid (show ∀ W, Hid (Below w3.heap.size w3 W) → W.heap[tb]? = some (.cells #[.string ⟨#[]⟩, .int .i64 0, .bool false, .int .i64 0, .int .i64 0, .int .i64 0] 23 (0, 0)) → ∃ g, Value.pointer (some ⟨tb, 0, none⟩) = Value.pointer (some ⟨g, 0, none⟩) ∧ w3.heap.size ≤ g ∧ ((((((W.setCell ⟨tb, 0, none⟩ (.string T0)).setCell ⟨tb, 1, none⟩ (.int .i64 K)).setCell ⟨tb, 2, none⟩ (.bool false)).setCell ⟨tb, 3, none⟩ (.int .i64 O)).setCell ⟨tb, 4, none⟩ (.int .i64 A)).setCell ⟨tb, 5, none⟩ (.int .i64 0)).heap[g]? = some (.cells #[.string T0, .int .i64 K, .bool false, .int .i64 O, .int .i64 A, .int .i64 0] 23 (0, 0)) ∧ Below w3.heap.size w3 ((((((W.setCell ⟨tb, 0, none⟩ (.string T0)).setCell ⟨tb, 1, none⟩ (.int .i64 K)).setCell ⟨tb, 2, none⟩ (.bool false)).setCell ⟨tb, 3, none⟩ (.int .i64 O)).setCell ⟨tb, 4, none⟩ (.int .i64 A)).setCell ⟨tb, 5, none⟩ (.int .i64 0)) from
                  fun W hW hz => ⟨tb, rfl, Nat.le_of_eq htb, set6_heap hz _ _ _ _ _ _, set6_below hW.out (Nat.le_of_eq htb) _ _ _ _ _ _⟩)
                have HI := Lib.hid (HQ.out w3.drew (Below.refl _ _).drew)
                have HI2 := Lib.hid (show ∀ o, (w3.alloc o).drew.cell? ⟨b, 0, none⟩ = some (.string T0) ∧ (w3.alloc o).drew.cell? ⟨bn, 0, none⟩ = some (.int .i64 O) ∧ (w3.alloc o).drew.cell? ⟨bn, 1, none⟩ = some (.int .i64 A) ∧ Hid (Below w3.heap.size w3 ((w3.alloc o).drew)) from fun o => HQ.out _ ((Below.refl _ _).alloc (Nat.le_refl _) _).drew)
                go_upto_region 11 with fail
                go_cut [9] from 60 to 72 (fun c wc => ∃ g, c = .pointer (some ⟨g, 0, none⟩) ∧ w3.heap.size ≤ g ∧ wc.heap[g]? = some (.cells #[.string T0, .int .i64 K, .bool false, .int .i64 O, .int .i64 A, .int .i64 0] 23 (0, 0)) ∧ Below w3.heap.size w3 wc)
                case first =>
                  go_region_held (fun W => W.cell? ⟨b, 0, none⟩ = some (.string T0) ∧ W.cell? ⟨bn, 0, none⟩ = some (.int .i64 O) ∧ W.cell? ⟨bn, 1, none⟩ = some (.int .i64 A) ∧ Hid (Below w3.heap.size w3 W))
                    (first
                      | with_reducible assumption
                      | with_reducible exact HI.out
                      | with_reducible exact HI2.out _
                      | (go_split_ands; with_reducible exact HQ6.out _ _ _ _ _ _ _ (by assumption))
                      | (go_split_ands; with_reducible exact HQ7.out _ _ (by assumption)))
                    (first
                      | (go_at_call 34; go_split_ands; (with_reducible refine Calls.mono (HCL.out _) ?_); rintro e w4 ⟨rfl, hb⟩; (have hS := HQ2.out _ _ (by assumption) hb); first | ((with_reducible have HZ4 := Lib.hid (HZ.out _ hb)); (have hz2 := HZ2.out _ hb); (have g0 := HZ3.out _ 0 hb); (have g1 := HZ3.out _ 1 hb); (have g2 := HZ3.out _ 2 hb); (have g3 := HZ3.out _ 3 hb); (have g4 := HZ3.out _ 4 hb); (have g5 := HZ3.out _ 5 hb); obtain ⟨v0, v1, v2, v3, v4, v5⟩ := hz2; clear hb) | clear hb))
                  all_goals (go_wp2_with fail; go_meet; go_split_ands; first | with_reducible exact HPA.out _ (by assumption) | with_reducible exact HPB.out _ (by assumption) HZ4.out)
                case rest =>
                obtain ⟨g, rfl, hg1, hg2, hg3⟩ := hcut
                have HR4 := Lib.hid (HR3.out.on hg3)
                have HGE := Lib.hid (show rb ≠ g from fun e => by have := blk_lt HR3.out.2.1; omega)
                have HWG := Lib.hid (show w.heap.size ≤ g from Nat.le_trans HR3.out.2.2.size hg1)
                have HG4 := Lib.hid hg2
                obtain ⟨y0, y1, y2, y3, y4, y5⟩ := box6 hg2 (Below.refl _ _)
                clear HQ HQ2 HQ6 HQ7 HPA HPB HI HI2 HZ HZ2 HZ3 HCL htb HS0
                have HG5 := HG4
                have HR5 := HR4
                clear hg1 hg2 hg3 x0 x1 x2 n0 n1 HG4 HR4
                go_upto_region 14 with fail
                go_wp2_with fail
                refine (HCK.out _).mono ?_
                rintro e w7 ⟨rfl, hb⟩
                have HR7 := Lib.hid (HR5.out.on hb)
                have HG7 := Lib.hid ((hb.block _ (blk_lt HG5.out)).trans HG5.out)
                clear hb HG5 HR5 HCK HKI HNU
                by_cases hC : C = 0
                · have cC : (C != 0) = false := by simpa using hC
                  have HV := Lib.hid (HP2.out.trans (if_pos hC))
                  clear hC HP2
                  obtain ⟨v0, v1, v2, v3, v4, v5⟩ := box6 HG7.out (Below.refl _ _)
                  have hrb := HR7.out
                  obtain ⟨x0, x1, x2, x3, x4, x5⟩ := box6 hrb.2.1 (Below.refl _ _)
                  have f0 : w7.frozen? ⟨rb, 0, none⟩ = false := frozen_at hrb.2.1
                  have f1 : w7.frozen? ⟨rb, 1, none⟩ = false := frozen_at hrb.2.1
                  have f2 : w7.frozen? ⟨rb, 2, none⟩ = false := frozen_at hrb.2.1
                  have f3 : w7.frozen? ⟨rb, 3, none⟩ = false := frozen_at hrb.2.1
                  have f4 : w7.frozen? ⟨rb, 4, none⟩ = false := frozen_at hrb.2.1
                  have f5 : w7.frozen? ⟨rb, 5, none⟩ = false := frozen_at hrb.2.1
                  have hz := set6_heap hrb.2.1 (.string T0) (.int .i64 K) (.bool false) (.int .i64 O) (.int .i64 A) (.int .i64 0)
                  have HD := Lib.hid (set6_below hrb.2.2 hrb.1 (.string T0) (.int .i64 K) (.bool false) (.int .i64 O) (.int .i64 A) (.int .i64 0))
                  clear hrb
                  go_wp2_with fail
                  generalize hW : set6 w7 rb (.string T0) (.int .i64 K) (.bool false) (.int .i64 O) (.int .i64 A) (.int .i64 0) = W at *
                  unfold set6 at hW
                  rw [hW]
                  clear hW x0 x1 x2 x3 x4 x5 f0 f1 f2 f3 f4 f5
                  have z0 : W.cell? ⟨rb, 0, none⟩ = some (.string T0) := cell_of_row W _ 0 _ _ _ hz
                  have z1 : W.cell? ⟨rb, 1, none⟩ = some (.int .i64 K) := cell_of_row W _ 1 _ _ _ hz
                  have z2 : W.cell? ⟨rb, 2, none⟩ = some (.bool false) := cell_of_row W _ 2 _ _ _ hz
                  have z3 : W.cell? ⟨rb, 3, none⟩ = some (.int .i64 O) := cell_of_row W _ 3 _ _ _ hz
                  have z4 : W.cell? ⟨rb, 4, none⟩ = some (.int .i64 A) := cell_of_row W _ 4 _ _ _ hz
                  have z5 : W.cell? ⟨rb, 5, none⟩ = some (.int .i64 0) := cell_of_row W _ 5 _ _ _ hz
                  exact bodyPost_ret (v := .tuple #[.agg #[.string T0, .int .i64 K, .bool false, .int .i64 O, .int .i64 A, .int .i64 0], .int .i64 0]) (by simp [results, Tryd.results17, go_sem, z0, z1, z2, z3, z4, z5]) rfl ⟨by rw [HV.out]; rfl, by first | exact HD.out | exact hrb ▸ HD.out⟩

                · have cC : (C != 0) = true := by simpa using hC
                  have HV := Lib.hid (HP2.out.trans (if_neg hC))
                  clear hC HP2
                  have hrb := HR7.out
                  obtain ⟨x0, x1, x2, x3, x4, x5⟩ := box6 hrb.2.1 (Below.refl _ _)
                  have f0 : w7.frozen? ⟨rb, 0, none⟩ = false := frozen_at hrb.2.1
                  have f1 : w7.frozen? ⟨rb, 1, none⟩ = false := frozen_at hrb.2.1
                  have f2 : w7.frozen? ⟨rb, 2, none⟩ = false := frozen_at hrb.2.1
                  have f3 : w7.frozen? ⟨rb, 3, none⟩ = false := frozen_at hrb.2.1
                  have f4 : w7.frozen? ⟨rb, 4, none⟩ = false := frozen_at hrb.2.1
                  have f5 : w7.frozen? ⟨rb, 5, none⟩ = false := frozen_at hrb.2.1
                  have hz := set6_heap hrb.2.1 (.string ⟨#[]⟩) (.int .i64 0) (.bool false) (.int .i64 0) (.int .i64 0) (.int .i64 0)
                  have HD := Lib.hid (set6_below hrb.2.2 hrb.1 (.string ⟨#[]⟩) (.int .i64 0) (.bool false) (.int .i64 0) (.int .i64 0) (.int .i64 0))
                  clear hrb
                  go_wp2_with fail
                  generalize hW : set6 w7 rb (.string ⟨#[]⟩) (.int .i64 0) (.bool false) (.int .i64 0) (.int .i64 0) (.int .i64 0) = W at *
                  unfold set6 at hW
                  rw [hW]
                  clear hW x0 x1 x2 x3 x4 x5 f0 f1 f2 f3 f4 f5
                  have z0 : W.cell? ⟨rb, 0, none⟩ = some (.string ⟨#[]⟩) := cell_of_row W _ 0 _ _ _ hz
                  have z1 : W.cell? ⟨rb, 1, none⟩ = some (.int .i64 0) := cell_of_row W _ 1 _ _ _ hz
                  have z2 : W.cell? ⟨rb, 2, none⟩ = some (.bool false) := cell_of_row W _ 2 _ _ _ hz
                  have z3 : W.cell? ⟨rb, 3, none⟩ = some (.int .i64 0) := cell_of_row W _ 3 _ _ _ hz
                  have z4 : W.cell? ⟨rb, 4, none⟩ = some (.int .i64 0) := cell_of_row W _ 4 _ _ _ hz
                  have z5 : W.cell? ⟨rb, 5, none⟩ = some (.int .i64 0) := cell_of_row W _ 5 _ _ _ hz
                  exact bodyPost_ret (v := .tuple #[.agg #[.string ⟨#[]⟩, .int .i64 0, .bool false, .int .i64 0, .int .i64 0, .int .i64 0], .int .i64 C]) (by simp [results, Tryd.results17, go_sem, z0, z1, z2, z3, z4, z5]) rfl ⟨by rw [HV.out]; rfl, by first | exact HD.out | exact hrb ▸ HD.out⟩

              · have HV := Lib.hid (HPK.out hNJ)
                have cN : (N != 1) = true := by simpa using hNJ
                clear hNJ HPK HPC
                have hrb := HR3.out
                obtain ⟨x0, x1, x2, x3, x4, x5⟩ := box6 hrb.2.1 (Below.refl _ _)
                have f0 : w3.frozen? ⟨rb, 0, none⟩ = false := frozen_at hrb.2.1
                have f1 : w3.frozen? ⟨rb, 1, none⟩ = false := frozen_at hrb.2.1
                have f2 : w3.frozen? ⟨rb, 2, none⟩ = false := frozen_at hrb.2.1
                have f3 : w3.frozen? ⟨rb, 3, none⟩ = false := frozen_at hrb.2.1
                have f4 : w3.frozen? ⟨rb, 4, none⟩ = false := frozen_at hrb.2.1
                have f5 : w3.frozen? ⟨rb, 5, none⟩ = false := frozen_at hrb.2.1
                have hz := set6_heap hrb.2.1 (.string ⟨#[]⟩) (.int .i64 0) (.bool false) (.int .i64 0) (.int .i64 0) (.int .i64 0)
                have HD := Lib.hid (set6_below hrb.2.2 hrb.1 (.string ⟨#[]⟩) (.int .i64 0) (.bool false) (.int .i64 0) (.int .i64 0) (.int .i64 0))
                clear hrb
                go_wp2_with fail
                generalize hW : set6 w3 rb (.string ⟨#[]⟩) (.int .i64 0) (.bool false) (.int .i64 0) (.int .i64 0) (.int .i64 0) = W at *
                unfold set6 at hW
                rw [hW]
                clear hW x0 x1 x2 x3 x4 x5 f0 f1 f2 f3 f4 f5
                have z0 : W.cell? ⟨rb, 0, none⟩ = some (.string ⟨#[]⟩) := cell_of_row W _ 0 _ _ _ hz
                have z1 : W.cell? ⟨rb, 1, none⟩ = some (.int .i64 0) := cell_of_row W _ 1 _ _ _ hz
                have z2 : W.cell? ⟨rb, 2, none⟩ = some (.bool false) := cell_of_row W _ 2 _ _ _ hz
                have z3 : W.cell? ⟨rb, 3, none⟩ = some (.int .i64 0) := cell_of_row W _ 3 _ _ _ hz
                have z4 : W.cell? ⟨rb, 4, none⟩ = some (.int .i64 0) := cell_of_row W _ 4 _ _ _ hz
                have z5 : W.cell? ⟨rb, 5, none⟩ = some (.int .i64 0) := cell_of_row W _ 5 _ _ _ hz
                exact bodyPost_ret (v := .tuple #[.agg #[.string ⟨#[]⟩, .int .i64 0, .bool false, .int .i64 0, .int .i64 0, .int .i64 0], .int .i64 91]) (by simp [results, Tryd.results17, go_sem, z0, z1, z2, z3, z4, z5]) rfl ⟨by rw [HV.out]; rfl, by first | exact HD.out | exact hrb ▸ HD.out⟩
            | false =>
              have HV := Lib.hid ((congrArg parseP HEQ.out).trans (prs_form (Or.inr (Or.inr ⟨of_decide_eq_false HU2.out, fun e => down_ne hD (HT2.out.symm.trans e)⟩))))
              clear HIN3 x0 x1
              have hrb := HR3.out
              obtain ⟨x0, x1, x2, x3, x4, x5⟩ := box6 hrb.2.1 (Below.refl _ _)
              have f0 : w3.frozen? ⟨rb, 0, none⟩ = false := frozen_at hrb.2.1
              have f1 : w3.frozen? ⟨rb, 1, none⟩ = false := frozen_at hrb.2.1
              have f2 : w3.frozen? ⟨rb, 2, none⟩ = false := frozen_at hrb.2.1
              have f3 : w3.frozen? ⟨rb, 3, none⟩ = false := frozen_at hrb.2.1
              have f4 : w3.frozen? ⟨rb, 4, none⟩ = false := frozen_at hrb.2.1
              have f5 : w3.frozen? ⟨rb, 5, none⟩ = false := frozen_at hrb.2.1
              have hz := set6_heap hrb.2.1 (.string ⟨#[]⟩) (.int .i64 0) (.bool false) (.int .i64 0) (.int .i64 0) (.int .i64 0)
              have HD := Lib.hid (set6_below hrb.2.2 hrb.1 (.string ⟨#[]⟩) (.int .i64 0) (.bool false) (.int .i64 0) (.int .i64 0) (.int .i64 0))
              clear hrb
              go_wp2_with fail
              generalize hW : set6 w3 rb (.string ⟨#[]⟩) (.int .i64 0) (.bool false) (.int .i64 0) (.int .i64 0) (.int .i64 0) = W at *
              unfold set6 at hW
              rw [hW]
              clear hW x0 x1 x2 x3 x4 x5 f0 f1 f2 f3 f4 f5
              have z0 : W.cell? ⟨rb, 0, none⟩ = some (.string ⟨#[]⟩) := cell_of_row W _ 0 _ _ _ hz
              have z1 : W.cell? ⟨rb, 1, none⟩ = some (.int .i64 0) := cell_of_row W _ 1 _ _ _ hz
              have z2 : W.cell? ⟨rb, 2, none⟩ = some (.bool false) := cell_of_row W _ 2 _ _ _ hz
              have z3 : W.cell? ⟨rb, 3, none⟩ = some (.int .i64 0) := cell_of_row W _ 3 _ _ _ hz
              have z4 : W.cell? ⟨rb, 4, none⟩ = some (.int .i64 0) := cell_of_row W _ 4 _ _ _ hz
              have z5 : W.cell? ⟨rb, 5, none⟩ = some (.int .i64 0) := cell_of_row W _ 5 _ _ _ hz
              exact bodyPost_ret (v := .tuple #[.agg #[.string ⟨#[]⟩, .int .i64 0, .bool false, .int .i64 0, .int .i64 0, .int .i64 0], .int .i64 90]) (by simp [results, Tryd.results17, go_sem, z0, z1, z2, z3, z4, z5]) rfl ⟨by rw [HV.out]; rfl, by first | exact HD.out | exact hrb ▸ HD.out⟩
    · have HM := Lib.hid hm
      rw [hm] at HCN hp0 hp7 hpd ⊢
      clear hm h5 hp0 hp7
      cases hC : Lib.containsS ps ⟨#[]⟩ with
      | true =>
        have HV := Lib.hid ((congrArg parseP HEQ.out).trans (prs_form (Or.inl (empty_in.1 hC))))
        rw [hC] at HCN
        clear hC
        go_wp2_with fail
        refine HCN.out.mono ?_
        rintro e w' ⟨rfl, rfl⟩
        have hrb := HR2.out
        obtain ⟨x0, x1, x2, x3, x4, x5⟩ := box6 hrb.2.1 (Below.refl _ _)
        have f0 : w2.frozen? ⟨rb, 0, none⟩ = false := frozen_at hrb.2.1
        have f1 : w2.frozen? ⟨rb, 1, none⟩ = false := frozen_at hrb.2.1
        have f2 : w2.frozen? ⟨rb, 2, none⟩ = false := frozen_at hrb.2.1
        have f3 : w2.frozen? ⟨rb, 3, none⟩ = false := frozen_at hrb.2.1
        have f4 : w2.frozen? ⟨rb, 4, none⟩ = false := frozen_at hrb.2.1
        have f5 : w2.frozen? ⟨rb, 5, none⟩ = false := frozen_at hrb.2.1
        have hz := set6_heap hrb.2.1 (.string ⟨#[]⟩) (.int .i64 0) (.bool false) (.int .i64 0) (.int .i64 0) (.int .i64 0)
        have HD := Lib.hid (set6_below hrb.2.2 hrb.1 (.string ⟨#[]⟩) (.int .i64 0) (.bool false) (.int .i64 0) (.int .i64 0) (.int .i64 0))
        clear hrb
        go_wp2_with fail
        generalize hW : set6 w2 rb (.string ⟨#[]⟩) (.int .i64 0) (.bool false) (.int .i64 0) (.int .i64 0) (.int .i64 0) = W at *
        unfold set6 at hW
        rw [hW]
        clear hW x0 x1 x2 x3 x4 x5 f0 f1 f2 f3 f4 f5
        have z0 : W.cell? ⟨rb, 0, none⟩ = some (.string ⟨#[]⟩) := cell_of_row W _ 0 _ _ _ hz
        have z1 : W.cell? ⟨rb, 1, none⟩ = some (.int .i64 0) := cell_of_row W _ 1 _ _ _ hz
        have z2 : W.cell? ⟨rb, 2, none⟩ = some (.bool false) := cell_of_row W _ 2 _ _ _ hz
        have z3 : W.cell? ⟨rb, 3, none⟩ = some (.int .i64 0) := cell_of_row W _ 3 _ _ _ hz
        have z4 : W.cell? ⟨rb, 4, none⟩ = some (.int .i64 0) := cell_of_row W _ 4 _ _ _ hz
        have z5 : W.cell? ⟨rb, 5, none⟩ = some (.int .i64 0) := cell_of_row W _ 5 _ _ _ hz
        exact bodyPost_ret (v := .tuple #[.agg #[.string ⟨#[]⟩, .int .i64 0, .bool false, .int .i64 0, .int .i64 0, .int .i64 0], .int .i64 90]) (by simp [results, Tryd.results17, go_sem, z0, z1, z2, z3, z4, z5]) rfl ⟨by rw [HV.out]; rfl, by first | exact HD.out | exact hrb ▸ HD.out⟩
      | false =>
        have HALL := Lib.hid (show ¬ ∃ t ∈ ps, t = ⟨#[]⟩ from fun h => by rw [empty_in.2 h] at hC; cases hC)
        rw [hC] at HCN
        clear hC
        have c2 := HIN.out 2 (by rw [HM.out]; omega)
        obtain ⟨T2, hT2⟩ : ∃ T, ps.getD 2 ⟨#[]⟩ = T := ⟨_, rfl⟩
        rw [hT2] at c2
        have HT2 := Lib.hid hT2
        have HTK := Lib.hid (fun c => ticks_any b 3 c (ps.drop 3) (by rw [List.length_drop, HM.out]; omega) (fun t ht => HSZ.out t (List.mem_of_mem_drop ht)) w2 (by have := HIN.out.drop 3; rwa [Nat.zero_add] at this))
        have hL3 : (ps.drop 3).length = 3 := by rw [List.length_drop, HM.out]
        unfold TicksOut at HTK
        obtain ⟨U, hU⟩ : ∃ U, (T2.toList == [117, 112]) = U := ⟨_, rfl⟩
        have hU2 : decide (ps.getD 2 ⟨#[]⟩ = upB) = U := by rw [hT2]; exact (up_beq T2).symm.trans hU
        have HU2 := Lib.hid hU2
        clear hT2 hU2
        cases hN : numsP (ps.drop 3) with
        | none =>
          have HV := Lib.hid ((congrArg parseP HEQ.out).trans (prs_none hN))
          rw [hN] at HTK
          unfold TickEnd at HTK
          rw [hL3] at HTK
          clear hN hL3
          go_wp2_with fail
          refine HCN.out.mono ?_
          rintro e w' ⟨rfl, rfl⟩
          go_wp2_with fail
          refine (HTK.out _).mono ?_
          rintro e w3 ⟨rfl, hb⟩
          have HR3 := Lib.hid (HR2.out.on hb)
          clear hb c2
          have hrb := HR3.out
          obtain ⟨x0, x1, x2, x3, x4, x5⟩ := box6 hrb.2.1 (Below.refl _ _)
          have f0 : w3.frozen? ⟨rb, 0, none⟩ = false := frozen_at hrb.2.1
          have f1 : w3.frozen? ⟨rb, 1, none⟩ = false := frozen_at hrb.2.1
          have f2 : w3.frozen? ⟨rb, 2, none⟩ = false := frozen_at hrb.2.1
          have f3 : w3.frozen? ⟨rb, 3, none⟩ = false := frozen_at hrb.2.1
          have f4 : w3.frozen? ⟨rb, 4, none⟩ = false := frozen_at hrb.2.1
          have f5 : w3.frozen? ⟨rb, 5, none⟩ = false := frozen_at hrb.2.1
          have hz := set6_heap hrb.2.1 (.string ⟨#[]⟩) (.int .i64 0) (.bool false) (.int .i64 0) (.int .i64 0) (.int .i64 0)
          have HD := Lib.hid (set6_below hrb.2.2 hrb.1 (.string ⟨#[]⟩) (.int .i64 0) (.bool false) (.int .i64 0) (.int .i64 0) (.int .i64 0))
          clear hrb
          go_wp2_with fail
          generalize hW : set6 w3 rb (.string ⟨#[]⟩) (.int .i64 0) (.bool false) (.int .i64 0) (.int .i64 0) (.int .i64 0) = W at *
          unfold set6 at hW
          rw [hW]
          clear hW x0 x1 x2 x3 x4 x5 f0 f1 f2 f3 f4 f5
          have z0 : W.cell? ⟨rb, 0, none⟩ = some (.string ⟨#[]⟩) := cell_of_row W _ 0 _ _ _ hz
          have z1 : W.cell? ⟨rb, 1, none⟩ = some (.int .i64 0) := cell_of_row W _ 1 _ _ _ hz
          have z2 : W.cell? ⟨rb, 2, none⟩ = some (.bool false) := cell_of_row W _ 2 _ _ _ hz
          have z3 : W.cell? ⟨rb, 3, none⟩ = some (.int .i64 0) := cell_of_row W _ 3 _ _ _ hz
          have z4 : W.cell? ⟨rb, 4, none⟩ = some (.int .i64 0) := cell_of_row W _ 4 _ _ _ hz
          have z5 : W.cell? ⟨rb, 5, none⟩ = some (.int .i64 0) := cell_of_row W _ 5 _ _ _ hz
          exact bodyPost_ret (v := .tuple #[.agg #[.string ⟨#[]⟩, .int .i64 0, .bool false, .int .i64 0, .int .i64 0, .int .i64 0], .int .i64 90]) (by simp [results, Tryd.results17, go_sem, z0, z1, z2, z3, z4, z5]) rfl ⟨by rw [HV.out]; rfl, by first | exact HD.out | exact hrb ▸ HD.out⟩
        | some ns =>
          rw [hN] at HTK
          unfold TickEnd at HTK
          rw [hL3] at HTK
          have HN := Lib.hid hN
          clear hN hL3
          go_wp2_with fail
          refine HCN.out.mono ?_
          rintro e w' ⟨rfl, rfl⟩
          go_wp2_with fail
          refine (HTK.out _).mono ?_
          rintro e w3 ⟨q, dn, rfl, ho, hb⟩
          have HR3 := Lib.hid (HR2.out.on hb)
          have HIN3 := Lib.hid (HIN.out.on hb)
          obtain ⟨bn, rfl, hjd, hdn, hnl, hnc⟩ := ints_form ho (by omega)
          clear hb c2 ho HCN HTK HIN HR2
          have x0 := HIN3.out 0 (by rw [HM.out]; omega)
          have x1 := HIN3.out 1 (by rw [HM.out]; omega)
          have x2 := HIN3.out 2 (by rw [HM.out]; omega)
          rw [Nat.zero_add] at x0 x1 x2
          rw [HT2.out] at x2
          obtain ⟨T0, hT0⟩ : ∃ T, ps.getD 0 ⟨#[]⟩ = T := ⟨_, rfl⟩
          obtain ⟨T1, hT1⟩ : ∃ T, ps.getD 1 ⟨#[]⟩ = T := ⟨_, rfl⟩
          rw [hT0] at x0
          rw [hT1] at x1
          have n0 := hnc 0 (by omega)
          have n1 := hnc 1 (by omega)
          have n2 := hnc 2 (by omega)
          obtain ⟨O, hO⟩ : ∃ O, ns.getD 0 0 = O := ⟨_, rfl⟩
          obtain ⟨A, hA⟩ : ∃ A, ns.getD 1 0 = A := ⟨_, rfl⟩
          obtain ⟨B, hB⟩ : ∃ B, ns.getD 2 0 = B := ⟨_, rfl⟩
          obtain ⟨K, hK⟩ : ∃ K, kindB T1 = K := ⟨_, rfl⟩
          obtain ⟨N, hNN⟩ : ∃ N, numsB K = N := ⟨_, rfl⟩
          have HKI := Lib.hid (fun W => kind_any T1 W)
          have HNU := Lib.hid (fun W => numbers_any K W)
          rw [hK] at HKI
          rw [hNN] at HNU
          rw [hO] at n0
          rw [hA] at n1
          rw [hB] at n2
          have HNL := Lib.hid hnl
          have HEE := Lib.hid (show ps.getD 0 ⟨#[]⟩ = T0 ∧ kindB (ps.getD 1 ⟨#[]⟩) = K ∧ numsB K = N ∧ ns.getD 0 0 = O ∧ ns.getD 1 0 = A ∧ ns.getD 2 0 = B from ⟨hT0, by rw [hT1, hK], hNN, hO, hA, hB⟩)
          have HS0 := Lib.hid (show T0.size ≤ 1000000 by
            rw [← hT0]
            refine Nat.le_trans (splK_size s s.size _ ?_) hs
            rw [HEQ.out, List.getD_eq_getElem?_getD, List.getElem?_eq_getElem (by rw [HM.out]; omega)]
            exact List.getElem_mem _)
          clear hT0 hT1 hO hA hB hK hNN hnc hnl
          cases U with
          | true =>
            have HFM := Lib.hid (form_ok HALL.out (by rw [HM.out]; omega) (Or.inl (of_decide_eq_true HU2.out)))
            obtain ⟨D, hD⟩ : ∃ D, (T2.toList == [100, 111, 119, 110]) = D := ⟨_, rfl⟩
            have HPK := Lib.hid (show N ≠ 2 → parseP (splK s s.size) = (noTox, 91) from fun h => (congrArg parseP HEQ.out).trans (parse_kind HFM.out HN.out (by rw [HEE.out.2.1, HEE.out.2.2.1, HNL.out]; exact h)))
            have HPC := Lib.hid (show N = 2 → parseP (splK s s.size) = if checkB T0 K O A B = 0 then (⟨T0, K, true, O, A, B⟩, 0) else (noTox, checkB T0 K O A B) from fun h => (congrArg parseP HEQ.out).trans ((parse_chk HFM.out HN.out HU2.out (by rw [HNL.out]; omega) (by rw [HEE.out.2.1, HEE.out.2.2.1, HNL.out]; exact h)).trans (by rw [HEE.out.1, HEE.out.2.1, HEE.out.2.2.2.1, HEE.out.2.2.2.2.1, HEE.out.2.2.2.2.2])))
            have HCK := Lib.hid (fun W => check_any T0 (by have := HS0.out; unfold maxLen; omega) K true O A B W)
            unfold Chk at HCK
            generalize checkB T0 K O A B = C at *
            clear HFM HN HU2 HEE HNL HEQ HALL HT2 HM HSZ HRL hU hs hD
            go_wp2_with fail
            refine (HKI.out _).mono ?_
            rintro e w' ⟨rfl, rfl⟩
            go_wp2_with fail
            refine (HNU.out _).mono ?_
            rintro e w' ⟨rfl, rfl⟩
            by_cases hNJ : N = 2
            · have HP2 := Lib.hid (HPC.out hNJ)
              have cN : (N != 2) = false := by simpa using hNJ
              clear hNJ HPK HPC
              have HQ := Lib.hid (show ∀ W, Below w3.heap.size w3 W → W.cell? ⟨b, 0, none⟩ = some (.string T0) ∧ W.cell? ⟨bn, 0, none⟩ = some (.int .i64 O) ∧ W.cell? ⟨bn, 1, none⟩ = some (.int .i64 A) ∧ Hid (Below w3.heap.size w3 W) from fun W hW =>
                ⟨(hW.cell (World.block_lt_of_cell? _ _ x0)).trans x0, (hW.cell (World.block_lt_of_cell? _ _ n0)).trans n0, (hW.cell (World.block_lt_of_cell? _ _ n1)).trans n1, Lib.hid hW⟩)
              have HQ2 := Lib.hid (show ∀ W W', Hid (Below w3.heap.size w3 W) → Below W.heap.size W W' → W'.cell? ⟨b, 0, none⟩ = some (.string T0) ∧ W'.cell? ⟨bn, 0, none⟩ = some (.int .i64 O) ∧ W'.cell? ⟨bn, 1, none⟩ = some (.int .i64 A) ∧ Hid (Below w3.heap.size w3 W') from fun W W' h1 h2 => HQ.out W' (seqB h1.out h2))
              have HCL := Lib.hid (fun W => clone_any T0 HS0.out W)
              have HZ := Lib.hid (show ∀ W, Below (w3.alloc (.cells #[.string ⟨#[]⟩, .int .i64 0, .bool false, .int .i64 0, .int .i64 0, .int .i64 0] 23)).drew.heap.size (w3.alloc (.cells #[.string ⟨#[]⟩, .int .i64 0, .bool false, .int .i64 0, .int .i64 0, .int .i64 0] 23)).drew W → W.heap[w3.heap.size]? = some (.cells #[.string ⟨#[]⟩, .int .i64 0, .bool false, .int .i64 0, .int .i64 0, .int .i64 0] 23 (0, 0)) from fun W hW => (hW.block _ (blk_lt (heap_alloc_new w3 (.cells #[.string ⟨#[]⟩, .int .i64 0, .bool false, .int .i64 0, .int .i64 0, .int .i64 0] 23)))).trans (heap_alloc_new w3 (.cells #[.string ⟨#[]⟩, .int .i64 0, .bool false, .int .i64 0, .int .i64 0, .int .i64 0] 23)))
              have HZ2 := Lib.hid (show ∀ W, Below (w3.alloc (.cells #[.string ⟨#[]⟩, .int .i64 0, .bool false, .int .i64 0, .int .i64 0, .int .i64 0] 23)).drew.heap.size (w3.alloc (.cells #[.string ⟨#[]⟩, .int .i64 0, .bool false, .int .i64 0, .int .i64 0, .int .i64 0] 23)).drew W → W.cell? ⟨w3.heap.size, 0, none⟩ = some (.string ⟨#[]⟩) ∧ W.cell? ⟨w3.heap.size, 1, none⟩ = some (.int .i64 0) ∧ W.cell? ⟨w3.heap.size, 2, none⟩ = some (.bool false) ∧ W.cell? ⟨w3.heap.size, 3, none⟩ = some (.int .i64 0) ∧ W.cell? ⟨w3.heap.size, 4, none⟩ = some (.int .i64 0) ∧ W.cell? ⟨w3.heap.size, 5, none⟩ = some (.int .i64 0) from fun W hW => box6 (HZ.out W hW) (Below.refl _ _))
              have HZ3 := Lib.hid (show ∀ W i, Below (w3.alloc (.cells #[.string ⟨#[]⟩, .int .i64 0, .bool false, .int .i64 0, .int .i64 0, .int .i64 0] 23)).drew.heap.size (w3.alloc (.cells #[.string ⟨#[]⟩, .int .i64 0, .bool false, .int .i64 0, .int .i64 0, .int .i64 0] 23)).drew W → W.frozen? ⟨w3.heap.size, i, none⟩ = false from fun W i hW => frozen_at (HZ.out W hW))
              obtain ⟨tb, htb⟩ : ∃ tb, w3.heap.size = tb := ⟨_, rfl⟩
              rw [htb] at HZ HZ2 HZ3
              have HQ6 := Lib.hid (show ∀ W y0 y1 y2 y3 y4 y5, Hid (Below w3.heap.size w3 W) → ((((((W.setCell ⟨tb, 0, none⟩ y0).setCell ⟨tb, 1, none⟩ y1).setCell ⟨tb, 2, none⟩ y2).setCell ⟨tb, 3, none⟩ y3).setCell ⟨tb, 4, none⟩ y4).setCell ⟨tb, 5, none⟩ y5).cell? ⟨b, 0, none⟩ = some (.string T0) ∧ ((((((W.setCell ⟨tb, 0, none⟩ y0).setCell ⟨tb, 1, none⟩ y1).setCell ⟨tb, 2, none⟩ y2).setCell ⟨tb, 3, none⟩ y3).setCell ⟨tb, 4, none⟩ y4).setCell ⟨tb, 5, none⟩ y5).cell? ⟨bn, 0, none⟩ = some (.int .i64 O) ∧ ((((((W.setCell ⟨tb, 0, none⟩ y0).setCell ⟨tb, 1, none⟩ y1).setCell ⟨tb, 2, none⟩ y2).setCell ⟨tb, 3, none⟩ y3).setCell ⟨tb, 4, none⟩ y4).setCell ⟨tb, 5, none⟩ y5).cell? ⟨bn, 1, none⟩ = some (.int .i64 A) ∧ Hid (Below w3.heap.size w3 (((((((W.setCell ⟨tb, 0, none⟩ y0).setCell ⟨tb, 1, none⟩ y1).setCell ⟨tb, 2, none⟩ y2).setCell ⟨tb, 3, none⟩ y3).setCell ⟨tb, 4, none⟩ y4).setCell ⟨tb, 5, none⟩ y5))) from fun W y0 y1 y2 y3 y4 y5 hW => HQ.out _ (set6_below hW.out (Nat.le_of_eq htb) y0 y1 y2 y3 y4 y5))
              have HQ7 := Lib.hid (show ∀ W o, Hid (Below w3.heap.size w3 W) → (W.alloc o).cell? ⟨b, 0, none⟩ = some (.string T0) ∧ (W.alloc o).cell? ⟨bn, 0, none⟩ = some (.int .i64 O) ∧ (W.alloc o).cell? ⟨bn, 1, none⟩ = some (.int .i64 A) ∧ Hid (Below w3.heap.size w3 ((W.alloc o))) from fun W o hW => HQ2.out _ _ hW ((Below.refl _ _).alloc (Nat.le_refl _) _))
              have HPA := Lib.hid (show ∀ W, Hid (Below w3.heap.size w3 W) → ∃ g, Value.pointer (some ⟨W.heap.size, 0, none⟩) = Value.pointer (some ⟨g, 0, none⟩) ∧ w3.heap.size ≤ g ∧ (W.alloc (.cells #[.string T0, .int .i64 K, .bool true, .int .i64 O, .int .i64 A, .int .i64 0] 23)).heap[g]? = some (.cells #[.string T0, .int .i64 K, .bool true, .int .i64 O, .int .i64 A, .int .i64 0] 23 (0, 0)) ∧ Below w3.heap.size w3 (W.alloc (.cells #[.string T0, .int .i64 K, .bool true, .int .i64 O, .int .i64 A, .int .i64 0] 23)) from
                fun W hW => ⟨W.heap.size, rfl, hW.out.size, heap_alloc_new W _, seqB hW.out ((Below.refl _ _).alloc (Nat.le_refl _) _)⟩)
              have HPB := Lib.hid (show ∀ W, Hid (Below w3.heap.size w3 W) → W.heap[tb]? = some (.cells #[.string ⟨#[]⟩, .int .i64 0, .bool false, .int .i64 0, .int .i64 0, .int .i64 0] 23 (0, 0)) → ∃ g, Value.pointer (some ⟨tb, 0, none⟩) = Value.pointer (some ⟨g, 0, none⟩) ∧ w3.heap.size ≤ g ∧ ((((((W.setCell ⟨tb, 0, none⟩ (.string T0)).setCell ⟨tb, 1, none⟩ (.int .i64 K)).setCell ⟨tb, 2, none⟩ (.bool true)).setCell ⟨tb, 3, none⟩ (.int .i64 O)).setCell ⟨tb, 4, none⟩ (.int .i64 A)).setCell ⟨tb, 5, none⟩ (.int .i64 0)).heap[g]? = some (.cells #[.string T0, .int .i64 K, .bool true, .int .i64 O, .int .i64 A, .int .i64 0] 23 (0, 0)) ∧ Below w3.heap.size w3 ((((((W.setCell ⟨tb, 0, none⟩ (.string T0)).setCell ⟨tb, 1, none⟩ (.int .i64 K)).setCell ⟨tb, 2, none⟩ (.bool true)).setCell ⟨tb, 3, none⟩ (.int .i64 O)).setCell ⟨tb, 4, none⟩ (.int .i64 A)).setCell ⟨tb, 5, none⟩ (.int .i64 0)) from
                fun W hW hz => ⟨tb, rfl, Nat.le_of_eq htb, set6_heap hz _ _ _ _ _ _, set6_below hW.out (Nat.le_of_eq htb) _ _ _ _ _ _⟩)
              have HI := Lib.hid (HQ.out w3.drew (Below.refl _ _).drew)
              have HI2 := Lib.hid (show ∀ o, (w3.alloc o).drew.cell? ⟨b, 0, none⟩ = some (.string T0) ∧ (w3.alloc o).drew.cell? ⟨bn, 0, none⟩ = some (.int .i64 O) ∧ (w3.alloc o).drew.cell? ⟨bn, 1, none⟩ = some (.int .i64 A) ∧ Hid (Below w3.heap.size w3 ((w3.alloc o).drew)) from fun o => HQ.out _ ((Below.refl _ _).alloc (Nat.le_refl _) _).drew)
              go_upto_region 11 with fail
              go_cut [9] from 60 to 72 (fun c wc => ∃ g, c = .pointer (some ⟨g, 0, none⟩) ∧ w3.heap.size ≤ g ∧ wc.heap[g]? = some (.cells #[.string T0, .int .i64 K, .bool true, .int .i64 O, .int .i64 A, .int .i64 0] 23 (0, 0)) ∧ Below w3.heap.size w3 wc)
              case first =>
                go_region_held (fun W => W.cell? ⟨b, 0, none⟩ = some (.string T0) ∧ W.cell? ⟨bn, 0, none⟩ = some (.int .i64 O) ∧ W.cell? ⟨bn, 1, none⟩ = some (.int .i64 A) ∧ Hid (Below w3.heap.size w3 W))
                  (first
                    | with_reducible assumption
                    | with_reducible exact HI.out
                    | with_reducible exact HI2.out _
                    | (go_split_ands; with_reducible exact HQ6.out _ _ _ _ _ _ _ (by assumption))
                    | (go_split_ands; with_reducible exact HQ7.out _ _ (by assumption)))
                  (first
                    | (go_at_call 34; go_split_ands; (with_reducible refine Calls.mono (HCL.out _) ?_); rintro e w4 ⟨rfl, hb⟩; (have hS := HQ2.out _ _ (by assumption) hb); first | ((with_reducible have HZ4 := Lib.hid (HZ.out _ hb)); (have hz2 := HZ2.out _ hb); (have g0 := HZ3.out _ 0 hb); (have g1 := HZ3.out _ 1 hb); (have g2 := HZ3.out _ 2 hb); (have g3 := HZ3.out _ 3 hb); (have g4 := HZ3.out _ 4 hb); (have g5 := HZ3.out _ 5 hb); obtain ⟨v0, v1, v2, v3, v4, v5⟩ := hz2; clear hb) | clear hb))
                all_goals (go_wp2_with fail; go_meet; go_split_ands; first | with_reducible exact HPA.out _ (by assumption) | with_reducible exact HPB.out _ (by assumption) HZ4.out)
              case rest =>
              obtain ⟨g, rfl, hg1, hg2, hg3⟩ := hcut
              have HR4 := Lib.hid (HR3.out.on hg3)
              have HGE := Lib.hid (show rb ≠ g from fun e => by have := blk_lt HR3.out.2.1; omega)
              have HWG := Lib.hid (show w.heap.size ≤ g from Nat.le_trans HR3.out.2.2.size hg1)
              have HG4 := Lib.hid hg2
              obtain ⟨y0, y1, y2, y3, y4, y5⟩ := box6 hg2 (Below.refl _ _)
              clear HQ HQ2 HQ6 HQ7 HPA HPB HI HI2 HZ HZ2 HZ3 HCL htb HS0
              have m2 := (hg3.cell (World.block_lt_of_cell? _ _ n2)).trans n2
              have g5 : wc.frozen? ⟨g, 5, none⟩ = false := frozen_at hg2
              have HG5 := Lib.hid (show (wc.setCell ⟨g, 5, none⟩ (.int .i64 B)).heap[g]? = some (.cells #[.string T0, .int .i64 K, .bool true, .int .i64 O, .int .i64 A, .int .i64 B] 23 (0, 0)) from set_heap hg2 _)
              have HR5 := Lib.hid (show Rb w (wc.setCell ⟨g, 5, none⟩ (.int .i64 B)) rb from ⟨HR4.out.1, (set_other HGE.out _).trans HR4.out.2.1, HR4.out.2.2.setCell (p := ⟨g, 5, none⟩) HWG.out _⟩)
              clear hg1 hg2 hg3 x0 x1 x2 n0 n1 n2 HG4 HR4
              go_upto_region 14 with fail
              generalize wc.setCell ⟨g, 5, none⟩ (.int .i64 B) = wd at *
              obtain ⟨u0, u1, u2, u3, u4, u5⟩ := box6 HG5.out (Below.refl _ _)
              clear y0 y1 y2 y3 y4 y5 m2 g5
              go_wp2_with fail
              refine (HCK.out _).mono ?_
              rintro e w7 ⟨rfl, hb⟩
              have HR7 := Lib.hid (HR5.out.on hb)
              have HG7 := Lib.hid ((hb.block _ (blk_lt HG5.out)).trans HG5.out)
              clear hb HG5 HR5 HCK HKI HNU
              by_cases hC : C = 0
              · have cC : (C != 0) = false := by simpa using hC
                have HV := Lib.hid (HP2.out.trans (if_pos hC))
                clear hC HP2
                obtain ⟨v0, v1, v2, v3, v4, v5⟩ := box6 HG7.out (Below.refl _ _)
                have hrb := HR7.out
                obtain ⟨x0, x1, x2, x3, x4, x5⟩ := box6 hrb.2.1 (Below.refl _ _)
                have f0 : w7.frozen? ⟨rb, 0, none⟩ = false := frozen_at hrb.2.1
                have f1 : w7.frozen? ⟨rb, 1, none⟩ = false := frozen_at hrb.2.1
                have f2 : w7.frozen? ⟨rb, 2, none⟩ = false := frozen_at hrb.2.1
                have f3 : w7.frozen? ⟨rb, 3, none⟩ = false := frozen_at hrb.2.1
                have f4 : w7.frozen? ⟨rb, 4, none⟩ = false := frozen_at hrb.2.1
                have f5 : w7.frozen? ⟨rb, 5, none⟩ = false := frozen_at hrb.2.1
                have hz := set6_heap hrb.2.1 (.string T0) (.int .i64 K) (.bool true) (.int .i64 O) (.int .i64 A) (.int .i64 B)
                have HD := Lib.hid (set6_below hrb.2.2 hrb.1 (.string T0) (.int .i64 K) (.bool true) (.int .i64 O) (.int .i64 A) (.int .i64 B))
                clear hrb
                go_wp2_with fail
                generalize hW : set6 w7 rb (.string T0) (.int .i64 K) (.bool true) (.int .i64 O) (.int .i64 A) (.int .i64 B) = W at *
                unfold set6 at hW
                rw [hW]
                clear hW x0 x1 x2 x3 x4 x5 f0 f1 f2 f3 f4 f5
                have z0 : W.cell? ⟨rb, 0, none⟩ = some (.string T0) := cell_of_row W _ 0 _ _ _ hz
                have z1 : W.cell? ⟨rb, 1, none⟩ = some (.int .i64 K) := cell_of_row W _ 1 _ _ _ hz
                have z2 : W.cell? ⟨rb, 2, none⟩ = some (.bool true) := cell_of_row W _ 2 _ _ _ hz
                have z3 : W.cell? ⟨rb, 3, none⟩ = some (.int .i64 O) := cell_of_row W _ 3 _ _ _ hz
                have z4 : W.cell? ⟨rb, 4, none⟩ = some (.int .i64 A) := cell_of_row W _ 4 _ _ _ hz
                have z5 : W.cell? ⟨rb, 5, none⟩ = some (.int .i64 B) := cell_of_row W _ 5 _ _ _ hz
                exact bodyPost_ret (v := .tuple #[.agg #[.string T0, .int .i64 K, .bool true, .int .i64 O, .int .i64 A, .int .i64 B], .int .i64 0]) (by simp [results, Tryd.results17, go_sem, z0, z1, z2, z3, z4, z5]) rfl ⟨by rw [HV.out]; rfl, by first | exact HD.out | exact hrb ▸ HD.out⟩

              · have cC : (C != 0) = true := by simpa using hC
                have HV := Lib.hid (HP2.out.trans (if_neg hC))
                clear hC HP2
                have hrb := HR7.out
                obtain ⟨x0, x1, x2, x3, x4, x5⟩ := box6 hrb.2.1 (Below.refl _ _)
                have f0 : w7.frozen? ⟨rb, 0, none⟩ = false := frozen_at hrb.2.1
                have f1 : w7.frozen? ⟨rb, 1, none⟩ = false := frozen_at hrb.2.1
                have f2 : w7.frozen? ⟨rb, 2, none⟩ = false := frozen_at hrb.2.1
                have f3 : w7.frozen? ⟨rb, 3, none⟩ = false := frozen_at hrb.2.1
                have f4 : w7.frozen? ⟨rb, 4, none⟩ = false := frozen_at hrb.2.1
                have f5 : w7.frozen? ⟨rb, 5, none⟩ = false := frozen_at hrb.2.1
                have hz := set6_heap hrb.2.1 (.string ⟨#[]⟩) (.int .i64 0) (.bool false) (.int .i64 0) (.int .i64 0) (.int .i64 0)
                have HD := Lib.hid (set6_below hrb.2.2 hrb.1 (.string ⟨#[]⟩) (.int .i64 0) (.bool false) (.int .i64 0) (.int .i64 0) (.int .i64 0))
                clear hrb
                go_wp2_with fail
                generalize hW : set6 w7 rb (.string ⟨#[]⟩) (.int .i64 0) (.bool false) (.int .i64 0) (.int .i64 0) (.int .i64 0) = W at *
                unfold set6 at hW
                rw [hW]
                clear hW x0 x1 x2 x3 x4 x5 f0 f1 f2 f3 f4 f5
                have z0 : W.cell? ⟨rb, 0, none⟩ = some (.string ⟨#[]⟩) := cell_of_row W _ 0 _ _ _ hz
                have z1 : W.cell? ⟨rb, 1, none⟩ = some (.int .i64 0) := cell_of_row W _ 1 _ _ _ hz
                have z2 : W.cell? ⟨rb, 2, none⟩ = some (.bool false) := cell_of_row W _ 2 _ _ _ hz
                have z3 : W.cell? ⟨rb, 3, none⟩ = some (.int .i64 0) := cell_of_row W _ 3 _ _ _ hz
                have z4 : W.cell? ⟨rb, 4, none⟩ = some (.int .i64 0) := cell_of_row W _ 4 _ _ _ hz
                have z5 : W.cell? ⟨rb, 5, none⟩ = some (.int .i64 0) := cell_of_row W _ 5 _ _ _ hz
                exact bodyPost_ret (v := .tuple #[.agg #[.string ⟨#[]⟩, .int .i64 0, .bool false, .int .i64 0, .int .i64 0, .int .i64 0], .int .i64 C]) (by simp [results, Tryd.results17, go_sem, z0, z1, z2, z3, z4, z5]) rfl ⟨by rw [HV.out]; rfl, by first | exact HD.out | exact hrb ▸ HD.out⟩

            · have HV := Lib.hid (HPK.out hNJ)
              have cN : (N != 2) = true := by simpa using hNJ
              clear hNJ HPK HPC
              have hrb := HR3.out
              obtain ⟨x0, x1, x2, x3, x4, x5⟩ := box6 hrb.2.1 (Below.refl _ _)
              have f0 : w3.frozen? ⟨rb, 0, none⟩ = false := frozen_at hrb.2.1
              have f1 : w3.frozen? ⟨rb, 1, none⟩ = false := frozen_at hrb.2.1
              have f2 : w3.frozen? ⟨rb, 2, none⟩ = false := frozen_at hrb.2.1
              have f3 : w3.frozen? ⟨rb, 3, none⟩ = false := frozen_at hrb.2.1
              have f4 : w3.frozen? ⟨rb, 4, none⟩ = false := frozen_at hrb.2.1
              have f5 : w3.frozen? ⟨rb, 5, none⟩ = false := frozen_at hrb.2.1
              have hz := set6_heap hrb.2.1 (.string ⟨#[]⟩) (.int .i64 0) (.bool false) (.int .i64 0) (.int .i64 0) (.int .i64 0)
              have HD := Lib.hid (set6_below hrb.2.2 hrb.1 (.string ⟨#[]⟩) (.int .i64 0) (.bool false) (.int .i64 0) (.int .i64 0) (.int .i64 0))
              clear hrb
              go_wp2_with fail
              generalize hW : set6 w3 rb (.string ⟨#[]⟩) (.int .i64 0) (.bool false) (.int .i64 0) (.int .i64 0) (.int .i64 0) = W at *
              unfold set6 at hW
              rw [hW]
              clear hW x0 x1 x2 x3 x4 x5 f0 f1 f2 f3 f4 f5
              have z0 : W.cell? ⟨rb, 0, none⟩ = some (.string ⟨#[]⟩) := cell_of_row W _ 0 _ _ _ hz
              have z1 : W.cell? ⟨rb, 1, none⟩ = some (.int .i64 0) := cell_of_row W _ 1 _ _ _ hz
              have z2 : W.cell? ⟨rb, 2, none⟩ = some (.bool false) := cell_of_row W _ 2 _ _ _ hz
              have z3 : W.cell? ⟨rb, 3, none⟩ = some (.int .i64 0) := cell_of_row W _ 3 _ _ _ hz
              have z4 : W.cell? ⟨rb, 4, none⟩ = some (.int .i64 0) := cell_of_row W _ 4 _ _ _ hz
              have z5 : W.cell? ⟨rb, 5, none⟩ = some (.int .i64 0) := cell_of_row W _ 5 _ _ _ hz
              exact bodyPost_ret (v := .tuple #[.agg #[.string ⟨#[]⟩, .int .i64 0, .bool false, .int .i64 0, .int .i64 0, .int .i64 0], .int .i64 91]) (by simp [results, Tryd.results17, go_sem, z0, z1, z2, z3, z4, z5]) rfl ⟨by rw [HV.out]; rfl, by first | exact HD.out | exact hrb ▸ HD.out⟩
          | false =>
            cases hD : (T2.toList == [100, 111, 119, 110]) with
            | true =>
              have HFM := Lib.hid (form_ok HALL.out (by rw [HM.out]; omega) (Or.inr (HT2.out.trans (down_of hD))))
              have HPK := Lib.hid (show N ≠ 2 → parseP (splK s s.size) = (noTox, 91) from fun h => (congrArg parseP HEQ.out).trans (parse_kind HFM.out HN.out (by rw [HEE.out.2.1, HEE.out.2.2.1, HNL.out]; exact h)))
              have HPC := Lib.hid (show N = 2 → parseP (splK s s.size) = if checkB T0 K O A B = 0 then (⟨T0, K, false, O, A, B⟩, 0) else (noTox, checkB T0 K O A B) from fun h => (congrArg parseP HEQ.out).trans ((parse_chk HFM.out HN.out HU2.out (by rw [HNL.out]; omega) (by rw [HEE.out.2.1, HEE.out.2.2.1, HNL.out]; exact h)).trans (by rw [HEE.out.1, HEE.out.2.1, HEE.out.2.2.2.1, HEE.out.2.2.2.2.1, HEE.out.2.2.2.2.2])))
              have HCK := Lib.hid (fun W => check_any T0 (by have := HS0.out; unfold maxLen; omega) K false O A B W)
              unfold Chk at HCK
              generalize checkB T0 K O A B = C at *
              clear HFM HN HU2 HEE HNL HEQ HALL HT2 HM HSZ HRL hU hs
              go_wp2_with fail
              refine (HKI.out _).mono ?_
              rintro e w' ⟨rfl, rfl⟩
              go_wp2_with fail
              refine (HNU.out _).mono ?_
              rintro e w' ⟨rfl, rfl⟩
              by_cases hNJ : N = 2
              · have HP2 := Lib.hid (HPC.out hNJ)
                have cN : (N != 2) = false := by simpa using hNJ
                clear hNJ HPK HPC
                have HQ := Lib.hid (show ∀ W, Below w3.heap.size w3 W → W.cell? ⟨b, 0, none⟩ = some (.string T0) ∧ W.cell? ⟨bn, 0, none⟩ = some (.int .i64 O) ∧ W.cell? ⟨bn, 1, none⟩ = some (.int .i64 A) ∧ Hid (Below w3.heap.size w3 W) from fun W hW =>
                  ⟨(hW.cell (World.block_lt_of_cell? _ _ x0)).trans x0, (hW.cell (World.block_lt_of_cell? _ _ n0)).trans n0, (hW.cell (World.block_lt_of_cell? _ _ n1)).trans n1, Lib.hid hW⟩)
                have HQ2 := Lib.hid (show ∀ W W', Hid (Below w3.heap.size w3 W) → Below W.heap.size W W' → W'.cell? ⟨b, 0, none⟩ = some (.string T0) ∧ W'.cell? ⟨bn, 0, none⟩ = some (.int .i64 O) ∧ W'.cell? ⟨bn, 1, none⟩ = some (.int .i64 A) ∧ Hid (Below w3.heap.size w3 W') from fun W W' h1 h2 => HQ.out W' (seqB h1.out h2))
                have HCL := Lib.hid (fun W => clone_any T0 HS0.out W)
                have HZ := Lib.hid (show ∀ W, Below (w3.alloc (.cells #[.string ⟨#[]⟩, .int .i64 0, .bool false, .int .i64 0, .int .i64 0, .int .i64 0] 23)).drew.heap.size (w3.alloc (.cells #[.string ⟨#[]⟩, .int .i64 0, .bool false, .int .i64 0, .int .i64 0, .int .i64 0] 23)).drew W → W.heap[w3.heap.size]? = some (.cells #[.string ⟨#[]⟩, .int .i64 0, .bool false, .int .i64 0, .int .i64 0, .int .i64 0] 23 (0, 0)) from fun W hW => (hW.block _ (blk_lt (heap_alloc_new w3 (.cells #[.string ⟨#[]⟩, .int .i64 0, .bool false, .int .i64 0, .int .i64 0, .int .i64 0] 23)))).trans (heap_alloc_new w3 (.cells #[.string ⟨#[]⟩, .int .i64 0, .bool false, .int .i64 0, .int .i64 0, .int .i64 0] 23)))
                have HZ2 := Lib.hid (show ∀ W, Below (w3.alloc (.cells #[.string ⟨#[]⟩, .int .i64 0, .bool false, .int .i64 0, .int .i64 0, .int .i64 0] 23)).drew.heap.size (w3.alloc (.cells #[.string ⟨#[]⟩, .int .i64 0, .bool false, .int .i64 0, .int .i64 0, .int .i64 0] 23)).drew W → W.cell? ⟨w3.heap.size, 0, none⟩ = some (.string ⟨#[]⟩) ∧ W.cell? ⟨w3.heap.size, 1, none⟩ = some (.int .i64 0) ∧ W.cell? ⟨w3.heap.size, 2, none⟩ = some (.bool false) ∧ W.cell? ⟨w3.heap.size, 3, none⟩ = some (.int .i64 0) ∧ W.cell? ⟨w3.heap.size, 4, none⟩ = some (.int .i64 0) ∧ W.cell? ⟨w3.heap.size, 5, none⟩ = some (.int .i64 0) from fun W hW => box6 (HZ.out W hW) (Below.refl _ _))
                have HZ3 := Lib.hid (show ∀ W i, Below (w3.alloc (.cells #[.string ⟨#[]⟩, .int .i64 0, .bool false, .int .i64 0, .int .i64 0, .int .i64 0] 23)).drew.heap.size (w3.alloc (.cells #[.string ⟨#[]⟩, .int .i64 0, .bool false, .int .i64 0, .int .i64 0, .int .i64 0] 23)).drew W → W.frozen? ⟨w3.heap.size, i, none⟩ = false from fun W i hW => frozen_at (HZ.out W hW))
                obtain ⟨tb, htb⟩ : ∃ tb, w3.heap.size = tb := ⟨_, rfl⟩
                rw [htb] at HZ HZ2 HZ3
                have HQ6 := Lib.hid (show ∀ W y0 y1 y2 y3 y4 y5, Hid (Below w3.heap.size w3 W) → ((((((W.setCell ⟨tb, 0, none⟩ y0).setCell ⟨tb, 1, none⟩ y1).setCell ⟨tb, 2, none⟩ y2).setCell ⟨tb, 3, none⟩ y3).setCell ⟨tb, 4, none⟩ y4).setCell ⟨tb, 5, none⟩ y5).cell? ⟨b, 0, none⟩ = some (.string T0) ∧ ((((((W.setCell ⟨tb, 0, none⟩ y0).setCell ⟨tb, 1, none⟩ y1).setCell ⟨tb, 2, none⟩ y2).setCell ⟨tb, 3, none⟩ y3).setCell ⟨tb, 4, none⟩ y4).setCell ⟨tb, 5, none⟩ y5).cell? ⟨bn, 0, none⟩ = some (.int .i64 O) ∧ ((((((W.setCell ⟨tb, 0, none⟩ y0).setCell ⟨tb, 1, none⟩ y1).setCell ⟨tb, 2, none⟩ y2).setCell ⟨tb, 3, none⟩ y3).setCell ⟨tb, 4, none⟩ y4).setCell ⟨tb, 5, none⟩ y5).cell? ⟨bn, 1, none⟩ = some (.int .i64 A) ∧ Hid (Below w3.heap.size w3 (((((((W.setCell ⟨tb, 0, none⟩ y0).setCell ⟨tb, 1, none⟩ y1).setCell ⟨tb, 2, none⟩ y2).setCell ⟨tb, 3, none⟩ y3).setCell ⟨tb, 4, none⟩ y4).setCell ⟨tb, 5, none⟩ y5))) from fun W y0 y1 y2 y3 y4 y5 hW => HQ.out _ (set6_below hW.out (Nat.le_of_eq htb) y0 y1 y2 y3 y4 y5))
                have HQ7 := Lib.hid (show ∀ W o, Hid (Below w3.heap.size w3 W) → (W.alloc o).cell? ⟨b, 0, none⟩ = some (.string T0) ∧ (W.alloc o).cell? ⟨bn, 0, none⟩ = some (.int .i64 O) ∧ (W.alloc o).cell? ⟨bn, 1, none⟩ = some (.int .i64 A) ∧ Hid (Below w3.heap.size w3 ((W.alloc o))) from fun W o hW => HQ2.out _ _ hW ((Below.refl _ _).alloc (Nat.le_refl _) _))
                have HPA := Lib.hid (show ∀ W, Hid (Below w3.heap.size w3 W) → ∃ g, Value.pointer (some ⟨W.heap.size, 0, none⟩) = Value.pointer (some ⟨g, 0, none⟩) ∧ w3.heap.size ≤ g ∧ (W.alloc (.cells #[.string T0, .int .i64 K, .bool false, .int .i64 O, .int .i64 A, .int .i64 0] 23)).heap[g]? = some (.cells #[.string T0, .int .i64 K, .bool false, .int .i64 O, .int .i64 A, .int .i64 0] 23 (0, 0)) ∧ Below w3.heap.size w3 (W.alloc (.cells #[.string T0, .int .i64 K, .bool false, .int .i64 O, .int .i64 A, .int .i64 0] 23)) from
                  fun W hW => ⟨W.heap.size, rfl, hW.out.size, heap_alloc_new W _, seqB hW.out ((Below.refl _ _).alloc (Nat.le_refl _) _)⟩)
                have HPB := Lib.hid (show ∀ W, Hid (Below w3.heap.size w3 W) → W.heap[tb]? = some (.cells #[.string ⟨#[]⟩, .int .i64 0, .bool false, .int .i64 0, .int .i64 0, .int .i64 0] 23 (0, 0)) → ∃ g, Value.pointer (some ⟨tb, 0, none⟩) = Value.pointer (some ⟨g, 0, none⟩) ∧ w3.heap.size ≤ g ∧ ((((((W.setCell ⟨tb, 0, none⟩ (.string T0)).setCell ⟨tb, 1, none⟩ (.int .i64 K)).setCell ⟨tb, 2, none⟩ (.bool false)).setCell ⟨tb, 3, none⟩ (.int .i64 O)).setCell ⟨tb, 4, none⟩ (.int .i64 A)).setCell ⟨tb, 5, none⟩ (.int .i64 0)).heap[g]? = some (.cells #[.string T0, .int .i64 K, .bool false, .int .i64 O, .int .i64 A, .int .i64 0] 23 (0, 0)) ∧ Below w3.heap.size w3 ((((((W.setCell ⟨tb, 0, none⟩ (.string T0)).setCell ⟨tb, 1, none⟩ (.int .i64 K)).setCell ⟨tb, 2, none⟩ (.bool false)).setCell ⟨tb, 3, none⟩ (.int .i64 O)).setCell ⟨tb, 4, none⟩ (.int .i64 A)).setCell ⟨tb, 5, none⟩ (.int .i64 0)) from
                  fun W hW hz => ⟨tb, rfl, Nat.le_of_eq htb, set6_heap hz _ _ _ _ _ _, set6_below hW.out (Nat.le_of_eq htb) _ _ _ _ _ _⟩)
                have HI := Lib.hid (HQ.out w3.drew (Below.refl _ _).drew)
                have HI2 := Lib.hid (show ∀ o, (w3.alloc o).drew.cell? ⟨b, 0, none⟩ = some (.string T0) ∧ (w3.alloc o).drew.cell? ⟨bn, 0, none⟩ = some (.int .i64 O) ∧ (w3.alloc o).drew.cell? ⟨bn, 1, none⟩ = some (.int .i64 A) ∧ Hid (Below w3.heap.size w3 ((w3.alloc o).drew)) from fun o => HQ.out _ ((Below.refl _ _).alloc (Nat.le_refl _) _).drew)
                go_upto_region 11 with fail
                go_cut [9] from 60 to 72 (fun c wc => ∃ g, c = .pointer (some ⟨g, 0, none⟩) ∧ w3.heap.size ≤ g ∧ wc.heap[g]? = some (.cells #[.string T0, .int .i64 K, .bool false, .int .i64 O, .int .i64 A, .int .i64 0] 23 (0, 0)) ∧ Below w3.heap.size w3 wc)
                case first =>
                  go_region_held (fun W => W.cell? ⟨b, 0, none⟩ = some (.string T0) ∧ W.cell? ⟨bn, 0, none⟩ = some (.int .i64 O) ∧ W.cell? ⟨bn, 1, none⟩ = some (.int .i64 A) ∧ Hid (Below w3.heap.size w3 W))
                    (first
                      | with_reducible assumption
                      | with_reducible exact HI.out
                      | with_reducible exact HI2.out _
                      | (go_split_ands; with_reducible exact HQ6.out _ _ _ _ _ _ _ (by assumption))
                      | (go_split_ands; with_reducible exact HQ7.out _ _ (by assumption)))
                    (first
                      | (go_at_call 34; go_split_ands; (with_reducible refine Calls.mono (HCL.out _) ?_); rintro e w4 ⟨rfl, hb⟩; (have hS := HQ2.out _ _ (by assumption) hb); first | ((with_reducible have HZ4 := Lib.hid (HZ.out _ hb)); (have hz2 := HZ2.out _ hb); (have g0 := HZ3.out _ 0 hb); (have g1 := HZ3.out _ 1 hb); (have g2 := HZ3.out _ 2 hb); (have g3 := HZ3.out _ 3 hb); (have g4 := HZ3.out _ 4 hb); (have g5 := HZ3.out _ 5 hb); obtain ⟨v0, v1, v2, v3, v4, v5⟩ := hz2; clear hb) | clear hb))
                  all_goals (go_wp2_with fail; go_meet; go_split_ands; first | with_reducible exact HPA.out _ (by assumption) | with_reducible exact HPB.out _ (by assumption) HZ4.out)
                case rest =>
                obtain ⟨g, rfl, hg1, hg2, hg3⟩ := hcut
                have HR4 := Lib.hid (HR3.out.on hg3)
                have HGE := Lib.hid (show rb ≠ g from fun e => by have := blk_lt HR3.out.2.1; omega)
                have HWG := Lib.hid (show w.heap.size ≤ g from Nat.le_trans HR3.out.2.2.size hg1)
                have HG4 := Lib.hid hg2
                obtain ⟨y0, y1, y2, y3, y4, y5⟩ := box6 hg2 (Below.refl _ _)
                clear HQ HQ2 HQ6 HQ7 HPA HPB HI HI2 HZ HZ2 HZ3 HCL htb HS0
                have m2 := (hg3.cell (World.block_lt_of_cell? _ _ n2)).trans n2
                have g5 : wc.frozen? ⟨g, 5, none⟩ = false := frozen_at hg2
                have HG5 := Lib.hid (show (wc.setCell ⟨g, 5, none⟩ (.int .i64 B)).heap[g]? = some (.cells #[.string T0, .int .i64 K, .bool false, .int .i64 O, .int .i64 A, .int .i64 B] 23 (0, 0)) from set_heap hg2 _)
                have HR5 := Lib.hid (show Rb w (wc.setCell ⟨g, 5, none⟩ (.int .i64 B)) rb from ⟨HR4.out.1, (set_other HGE.out _).trans HR4.out.2.1, HR4.out.2.2.setCell (p := ⟨g, 5, none⟩) HWG.out _⟩)
                clear hg1 hg2 hg3 x0 x1 x2 n0 n1 n2 HG4 HR4
                go_upto_region 14 with fail
                generalize wc.setCell ⟨g, 5, none⟩ (.int .i64 B) = wd at *
                obtain ⟨u0, u1, u2, u3, u4, u5⟩ := box6 HG5.out (Below.refl _ _)
                clear y0 y1 y2 y3 y4 y5 m2 g5
                go_wp2_with fail
                refine (HCK.out _).mono ?_
                rintro e w7 ⟨rfl, hb⟩
                have HR7 := Lib.hid (HR5.out.on hb)
                have HG7 := Lib.hid ((hb.block _ (blk_lt HG5.out)).trans HG5.out)
                clear hb HG5 HR5 HCK HKI HNU
                by_cases hC : C = 0
                · have cC : (C != 0) = false := by simpa using hC
                  have HV := Lib.hid (HP2.out.trans (if_pos hC))
                  clear hC HP2
                  obtain ⟨v0, v1, v2, v3, v4, v5⟩ := box6 HG7.out (Below.refl _ _)
                  have hrb := HR7.out
                  obtain ⟨x0, x1, x2, x3, x4, x5⟩ := box6 hrb.2.1 (Below.refl _ _)
                  have f0 : w7.frozen? ⟨rb, 0, none⟩ = false := frozen_at hrb.2.1
                  have f1 : w7.frozen? ⟨rb, 1, none⟩ = false := frozen_at hrb.2.1
                  have f2 : w7.frozen? ⟨rb, 2, none⟩ = false := frozen_at hrb.2.1
                  have f3 : w7.frozen? ⟨rb, 3, none⟩ = false := frozen_at hrb.2.1
                  have f4 : w7.frozen? ⟨rb, 4, none⟩ = false := frozen_at hrb.2.1
                  have f5 : w7.frozen? ⟨rb, 5, none⟩ = false := frozen_at hrb.2.1
                  have hz := set6_heap hrb.2.1 (.string T0) (.int .i64 K) (.bool false) (.int .i64 O) (.int .i64 A) (.int .i64 B)
                  have HD := Lib.hid (set6_below hrb.2.2 hrb.1 (.string T0) (.int .i64 K) (.bool false) (.int .i64 O) (.int .i64 A) (.int .i64 B))
                  clear hrb
                  go_wp2_with fail
                  generalize hW : set6 w7 rb (.string T0) (.int .i64 K) (.bool false) (.int .i64 O) (.int .i64 A) (.int .i64 B) = W at *
                  unfold set6 at hW
                  rw [hW]
                  clear hW x0 x1 x2 x3 x4 x5 f0 f1 f2 f3 f4 f5
                  have z0 : W.cell? ⟨rb, 0, none⟩ = some (.string T0) := cell_of_row W _ 0 _ _ _ hz
                  have z1 : W.cell? ⟨rb, 1, none⟩ = some (.int .i64 K) := cell_of_row W _ 1 _ _ _ hz
                  have z2 : W.cell? ⟨rb, 2, none⟩ = some (.bool false) := cell_of_row W _ 2 _ _ _ hz
                  have z3 : W.cell? ⟨rb, 3, none⟩ = some (.int .i64 O) := cell_of_row W _ 3 _ _ _ hz
                  have z4 : W.cell? ⟨rb, 4, none⟩ = some (.int .i64 A) := cell_of_row W _ 4 _ _ _ hz
                  have z5 : W.cell? ⟨rb, 5, none⟩ = some (.int .i64 B) := cell_of_row W _ 5 _ _ _ hz
                  exact bodyPost_ret (v := .tuple #[.agg #[.string T0, .int .i64 K, .bool false, .int .i64 O, .int .i64 A, .int .i64 B], .int .i64 0]) (by simp [results, Tryd.results17, go_sem, z0, z1, z2, z3, z4, z5]) rfl ⟨by rw [HV.out]; rfl, by first | exact HD.out | exact hrb ▸ HD.out⟩

                · have cC : (C != 0) = true := by simpa using hC
                  have HV := Lib.hid (HP2.out.trans (if_neg hC))
                  clear hC HP2
                  have hrb := HR7.out
                  obtain ⟨x0, x1, x2, x3, x4, x5⟩ := box6 hrb.2.1 (Below.refl _ _)
                  have f0 : w7.frozen? ⟨rb, 0, none⟩ = false := frozen_at hrb.2.1
                  have f1 : w7.frozen? ⟨rb, 1, none⟩ = false := frozen_at hrb.2.1
                  have f2 : w7.frozen? ⟨rb, 2, none⟩ = false := frozen_at hrb.2.1
                  have f3 : w7.frozen? ⟨rb, 3, none⟩ = false := frozen_at hrb.2.1
                  have f4 : w7.frozen? ⟨rb, 4, none⟩ = false := frozen_at hrb.2.1
                  have f5 : w7.frozen? ⟨rb, 5, none⟩ = false := frozen_at hrb.2.1
                  have hz := set6_heap hrb.2.1 (.string ⟨#[]⟩) (.int .i64 0) (.bool false) (.int .i64 0) (.int .i64 0) (.int .i64 0)
                  have HD := Lib.hid (set6_below hrb.2.2 hrb.1 (.string ⟨#[]⟩) (.int .i64 0) (.bool false) (.int .i64 0) (.int .i64 0) (.int .i64 0))
                  clear hrb
                  go_wp2_with fail
                  generalize hW : set6 w7 rb (.string ⟨#[]⟩) (.int .i64 0) (.bool false) (.int .i64 0) (.int .i64 0) (.int .i64 0) = W at *
                  unfold set6 at hW
                  rw [hW]
                  clear hW x0 x1 x2 x3 x4 x5 f0 f1 f2 f3 f4 f5
                  have z0 : W.cell? ⟨rb, 0, none⟩ = some (.string ⟨#[]⟩) := cell_of_row W _ 0 _ _ _ hz
                  have z1 : W.cell? ⟨rb, 1, none⟩ = some (.int .i64 0) := cell_of_row W _ 1 _ _ _ hz
                  have z2 : W.cell? ⟨rb, 2, none⟩ = some (.bool false) := cell_of_row W _ 2 _ _ _ hz
                  have z3 : W.cell? ⟨rb, 3, none⟩ = some (.int .i64 0) := cell_of_row W _ 3 _ _ _ hz
                  have z4 : W.cell? ⟨rb, 4, none⟩ = some (.int .i64 0) := cell_of_row W _ 4 _ _ _ hz
                  have z5 : W.cell? ⟨rb, 5, none⟩ = some (.int .i64 0) := cell_of_row W _ 5 _ _ _ hz
                  exact bodyPost_ret (v := .tuple #[.agg #[.string ⟨#[]⟩, .int .i64 0, .bool false, .int .i64 0, .int .i64 0, .int .i64 0], .int .i64 C]) (by simp [results, Tryd.results17, go_sem, z0, z1, z2, z3, z4, z5]) rfl ⟨by rw [HV.out]; rfl, by first | exact HD.out | exact hrb ▸ HD.out⟩

              · have HV := Lib.hid (HPK.out hNJ)
                have cN : (N != 2) = true := by simpa using hNJ
                clear hNJ HPK HPC
                have hrb := HR3.out
                obtain ⟨x0, x1, x2, x3, x4, x5⟩ := box6 hrb.2.1 (Below.refl _ _)
                have f0 : w3.frozen? ⟨rb, 0, none⟩ = false := frozen_at hrb.2.1
                have f1 : w3.frozen? ⟨rb, 1, none⟩ = false := frozen_at hrb.2.1
                have f2 : w3.frozen? ⟨rb, 2, none⟩ = false := frozen_at hrb.2.1
                have f3 : w3.frozen? ⟨rb, 3, none⟩ = false := frozen_at hrb.2.1
                have f4 : w3.frozen? ⟨rb, 4, none⟩ = false := frozen_at hrb.2.1
                have f5 : w3.frozen? ⟨rb, 5, none⟩ = false := frozen_at hrb.2.1
                have hz := set6_heap hrb.2.1 (.string ⟨#[]⟩) (.int .i64 0) (.bool false) (.int .i64 0) (.int .i64 0) (.int .i64 0)
                have HD := Lib.hid (set6_below hrb.2.2 hrb.1 (.string ⟨#[]⟩) (.int .i64 0) (.bool false) (.int .i64 0) (.int .i64 0) (.int .i64 0))
                clear hrb
                go_wp2_with fail
                generalize hW : set6 w3 rb (.string ⟨#[]⟩) (.int .i64 0) (.bool false) (.int .i64 0) (.int .i64 0) (.int .i64 0) = W at *
                unfold set6 at hW
                rw [hW]
                clear hW x0 x1 x2 x3 x4 x5 f0 f1 f2 f3 f4 f5
                have z0 : W.cell? ⟨rb, 0, none⟩ = some (.string ⟨#[]⟩) := cell_of_row W _ 0 _ _ _ hz
                have z1 : W.cell? ⟨rb, 1, none⟩ = some (.int .i64 0) := cell_of_row W _ 1 _ _ _ hz
                have z2 : W.cell? ⟨rb, 2, none⟩ = some (.bool false) := cell_of_row W _ 2 _ _ _ hz
                have z3 : W.cell? ⟨rb, 3, none⟩ = some (.int .i64 0) := cell_of_row W _ 3 _ _ _ hz
                have z4 : W.cell? ⟨rb, 4, none⟩ = some (.int .i64 0) := cell_of_row W _ 4 _ _ _ hz
                have z5 : W.cell? ⟨rb, 5, none⟩ = some (.int .i64 0) := cell_of_row W _ 5 _ _ _ hz
                exact bodyPost_ret (v := .tuple #[.agg #[.string ⟨#[]⟩, .int .i64 0, .bool false, .int .i64 0, .int .i64 0, .int .i64 0], .int .i64 91]) (by simp [results, Tryd.results17, go_sem, z0, z1, z2, z3, z4, z5]) rfl ⟨by rw [HV.out]; rfl, by first | exact HD.out | exact hrb ▸ HD.out⟩
            | false =>
              have HV := Lib.hid ((congrArg parseP HEQ.out).trans (prs_form (Or.inr (Or.inr ⟨of_decide_eq_false HU2.out, fun e => down_ne hD (HT2.out.symm.trans e)⟩))))
              clear HIN3 x0 x1
              have hrb := HR3.out
              obtain ⟨x0, x1, x2, x3, x4, x5⟩ := box6 hrb.2.1 (Below.refl _ _)
              have f0 : w3.frozen? ⟨rb, 0, none⟩ = false := frozen_at hrb.2.1
              have f1 : w3.frozen? ⟨rb, 1, none⟩ = false := frozen_at hrb.2.1
              have f2 : w3.frozen? ⟨rb, 2, none⟩ = false := frozen_at hrb.2.1
              have f3 : w3.frozen? ⟨rb, 3, none⟩ = false := frozen_at hrb.2.1
              have f4 : w3.frozen? ⟨rb, 4, none⟩ = false := frozen_at hrb.2.1
              have f5 : w3.frozen? ⟨rb, 5, none⟩ = false := frozen_at hrb.2.1
              have hz := set6_heap hrb.2.1 (.string ⟨#[]⟩) (.int .i64 0) (.bool false) (.int .i64 0) (.int .i64 0) (.int .i64 0)
              have HD := Lib.hid (set6_below hrb.2.2 hrb.1 (.string ⟨#[]⟩) (.int .i64 0) (.bool false) (.int .i64 0) (.int .i64 0) (.int .i64 0))
              clear hrb
              go_wp2_with fail
              generalize hW : set6 w3 rb (.string ⟨#[]⟩) (.int .i64 0) (.bool false) (.int .i64 0) (.int .i64 0) (.int .i64 0) = W at *
              unfold set6 at hW
              rw [hW]
              clear hW x0 x1 x2 x3 x4 x5 f0 f1 f2 f3 f4 f5
              have z0 : W.cell? ⟨rb, 0, none⟩ = some (.string ⟨#[]⟩) := cell_of_row W _ 0 _ _ _ hz
              have z1 : W.cell? ⟨rb, 1, none⟩ = some (.int .i64 0) := cell_of_row W _ 1 _ _ _ hz
              have z2 : W.cell? ⟨rb, 2, none⟩ = some (.bool false) := cell_of_row W _ 2 _ _ _ hz
              have z3 : W.cell? ⟨rb, 3, none⟩ = some (.int .i64 0) := cell_of_row W _ 3 _ _ _ hz
              have z4 : W.cell? ⟨rb, 4, none⟩ = some (.int .i64 0) := cell_of_row W _ 4 _ _ _ hz
              have z5 : W.cell? ⟨rb, 5, none⟩ = some (.int .i64 0) := cell_of_row W _ 5 _ _ _ hz
              exact bodyPost_ret (v := .tuple #[.agg #[.string ⟨#[]⟩, .int .i64 0, .bool false, .int .i64 0, .int .i64 0, .int .i64 0], .int .i64 90]) (by simp [results, Tryd.results17, go_sem, z0, z1, z2, z3, z4, z5]) rfl ⟨by rw [HV.out]; rfl, by first | exact HD.out | exact hrb ▸ HD.out⟩
end Go.Proofs.YthlpdhhifjjofaaDoor
