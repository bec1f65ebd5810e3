/-
  'chicanelaw14.NamesFinds' returns true. Conditions: the names' lengths, the table of digits.
-/
import Derived.Test.YtmghkcjljnlocaaDoorQA
import Derived.Deep.RegionHeld3
namespace Go.Proofs.YtmghkcjljnlocaaDoor
open Go.RowKit
/-- One proxy, in a slice. -/
theorem one_prx {w : World} {g : Nat} {x : Prx} {pl : Option Addr} {nl dl : Nat} (h : w.heap[g]? = some (.cells #[.string x.s, .bool x.on, .int .i64 x.most, .slice pl nl dl] TP (0, 0))) (hl : x.ts.length = nl) (hnd : nl ≤ dl) (hi : ToxIn w pl nl x.ts) : PrxIn w (some ⟨g, 0, none⟩) 1 [x] := fun _ => ⟨g, 0, rfl, fun i hi1 => by
  obtain rfl : i = 0 := by omega
  exact ⟨cell_of_row _ _ 0 _ _ _ h, cell_of_row _ _ 1 _ _ _ h, cell_of_row _ _ 2 _ _ _ h, pl, nl, dl, cell_of_row _ _ 3 _ _ _ h, hnd, hl, hi⟩⟩
/-- One of a slice's. -/
theorem part_prx {w : World} {b o n K : Nat} {l : List Prx} (h : PrxIn w (some ⟨b, o, none⟩) n l) (hK : K < n) : PrxIn w (some ⟨b, o + K * 4, none⟩) 1 [l.getD K noPrx] := fun _ => ⟨b, o + K * 4, rfl, fun i hi1 => by
  obtain rfl : i = 0 := by omega
  obtain ⟨b', o', e, hc⟩ := h (by omega)
  cases e
  obtain ⟨h0, h1, h2, q, m, d, h3, h4⟩ := hc K hK
  rw [← Nat.add_assoc] at h1 h2 h3
  exact ⟨h0, h1, h2, q, m, d, h3, h4⟩⟩
theorem few_one {x : Prx} (h : x.ts.length ≤ 1000000) : Few14 [x] := fun y hy => by rw [List.mem_singleton.1 hy]; exact h
set_option maxRecDepth 100000 in
set_option maxHeartbeats 16000000 in
theorem namesFinds.walk (p : Option Addr) (n d : Nat) (l : List Prx) (q : Option Addr) (m d2 : Nat) (l2 : List Prx) (s : ByteArray) (w : World) (hl : l.length = n) (hnd : n ≤ d) (hdx : d ≤ maxLen) (hm : ∀ x ∈ l, x.ts.length ≤ maxLen ∧ x.s.size ≤ maxLen) (hz : ∀ x ∈ l, ∀ u ∈ x.ts, u.s.size ≤ maxLen) (hi : PrxIn w p n l)
    (hl2 : l2.length = m) (hmx : m ≤ maxLen) (hm2 : ∀ x ∈ l2, x.ts.length ≤ maxLen ∧ x.s.size ≤ maxLen) (hz2 : ∀ x ∈ l2, ∀ u ∈ x.ts, u.s.size ≤ maxLen) (hi2 : PrxIn w q m l2) (htab : gx.Tab w) :
    Calls Tryd.prog 3 #[.slice p n d, .slice q m d2, .string s] w fun e w' => e = .returned (.bool true) ∧ Below w.heap.size w w' := by
  have HI := Lib.hid hi
  have HI2 := Lib.hid hi2
  have HAL := Lib.hid (fun W (hW : Below w.heap.size w W) => alive_any W (gx.tab_on htab hW))
  have HF := Lib.hid (few_any p n d l w hl (Nat.le_trans hnd hdx) hm hi)
  have HF2 := Lib.hid (fun W (hW : Below w.heap.size w W) => few_any q m d2 l2 W hl2 hmx hm2 (prxs_on hi2 hW))
  have HZ := Lib.hid hz
  have HZ2 := Lib.hid hz2
  have HL := Lib.hid hl
  have HL2 := Lib.hid hl2
  have hd63 : d ≤ 9223372036854775807 := by unfold maxLen at hdx; omega
  clear hi hi2 htab hm hz hdx hl hl2 hmx hm2 hz2
  go_enter Tryd.func3, Tryd.ntmps3
  go_wp2_with fail
  refine HF.out.mono ?_
  rintro e w1 ⟨rfl, hb⟩
  have HD1 := Lib.hid hb
  clear hb HF
  cases hf : fewB l with
  | false =>
    clear hf
    go_wp2_with fail
    refine (HAL.out _ HD1.out).mono ?_
    rintro e wz ⟨rfl, hb⟩
    have HZZ := Lib.hid (seqB HD1.out hb)
    clear hb
    go_wp2_with fail
    go_ret
    exact ⟨rfl, HZZ.out⟩
  | true =>
    obtain ⟨hlean, h12⟩ := few_lean hf HZ.out
    rw [HL.out] at h12
    have HLN := Lib.hid hlean
    clear hf hlean HZ
    go_wp2_with fail
    refine (HF2.out _ HD1.out).mono ?_
    rintro e w2 ⟨rfl, hb⟩
    have HD2 := Lib.hid (seqB HD1.out hb)
    clear hb HF2 HD1
    cases hf : fewB l2 with
    | false =>
      clear hf
      go_wp2_with fail
      refine (HAL.out _ HD2.out).mono ?_
      rintro e wz ⟨rfl, hb⟩
      have HZZ := Lib.hid (seqB HD2.out hb)
      clear hb
      go_wp2_with fail
      go_ret
      exact ⟨rfl, HZZ.out⟩
    | true =>
      obtain ⟨hlean, h12b⟩ := few_lean hf HZ2.out
      rw [HL2.out] at h12b
      have hfw := lean_of HLN.out
      have hfw2 := lean_of hlean
      have HSA := Lib.hid (fun W (hW : Below w.heap.size w W) => same_any p q n m d d2 l l2 W HL.out HL2.out (by omega) (by omega) hfw hfw2 (prxs_on HI.out hW) (prxs_on HI2.out hW))
      have HSR := Lib.hid (fun W (hW : Below w.heap.size w W) => rsame_any p q n m d d2 l l2 W HL.out HL2.out (by omega) (by omega) hfw hfw2 (prxs_on HI.out hW) (prxs_on HI2.out hW))
      have HSS := Lib.hid (show ∀ W, Below w.heap.size w W → Calls Tryd.prog 8 #[.slice p n d, .slice p n d] W fun e w' => e = .returned (.bool true) ∧ Below W.heap.size W w' from fun W hW => by
        have h := same_any p p n n d d l l W HL.out HL.out (by omega) (by omega) hfw hfw (prxs_on HI.out hW) (prxs_on HI.out hW)
        rwa [decide_eq_true rfl] at h)
      obtain ⟨B, hB⟩ : ∃ B, decide (l = l2) = B := ⟨_, rfl⟩
      rw [hB] at HSA HSR
      clear hf hlean HZ2 hfw hfw2 hB
      by_cases hfd : Nm.fP l s < n
      · have HFI := Lib.hid (find_yes p n d l s w2 HL.out (by omega) HLN.out (prxs_on HI.out HD2.out) hfd)
        have HRF := Lib.hid (fun W (hW : Below w.heap.size w W) => rFind_any p n d l s W HL.out (by omega) (prxs_on HI.out hW))
        have e1 : orNone (Nm.fP l s) n = (Nm.fP l s : Int) := if_pos hfd
        rw [e1] at HRF
        unfold OutF at HFI
        generalize Nm.fP l s = K at *
        have hmem : (l.getD K noPrx).ts.length ≤ 1000000 := few_at (lean_of HLN.out) (by rw [HL.out]; exact hfd)
        have HPP := Lib.hid (fun (W : World) (b o : Nat) (h : PrxIn W (some ⟨b, o, none⟩) n l) => part_prx (K := K) h hfd)
        generalize l.getD K noPrx = x at *
        have HMM := Lib.hid hmem
        clear e1 hmem
        go_wp2_with fail
        refine HFI.out.mono ?_
        rintro e w3 ⟨qF, dF, rfl, ht, hb⟩
        have hal : Below w3.heap.size w3 (w3.alloc (.cells #[.string x.s, .bool x.on, .int .i64 x.most, .slice qF x.ts.length dF] TP)) := (Below.refl _ _).alloc (Nat.le_refl _) _
        have hnew := heap_alloc_new w3 (.cells #[.string x.s, .bool x.on, .int .i64 x.most, .slice qF x.ts.length dF] TP)
        obtain ⟨w4, hw4⟩ : ∃ w4, w3.alloc (.cells #[.string x.s, .bool x.on, .int .i64 x.most, .slice qF x.ts.length dF] TP) = w4 := ⟨_, rfl⟩
        rw [hw4] at hal hnew
        have HD4 := Lib.hid (seqB (seqB HD2.out hb) hal)
        have HBX := Lib.hid (fun W (hW : Below w4.heap.size w4 W) => (hW.block _ (gc.blk_lt hnew)).trans hnew)
        have HTX := Lib.hid (show TRow w4 w2.heap.size qF x.ts.length dF x.ts from gc.ORow.on ht hal)
        have HW4 := Lib.hid hw4
        clear hb hal hnew ht hw4 HFI HD2
        go_wp2_with fail
        rw [HW4.out]
        refine (HRF.out _ HD4.out).mono ?_
        rintro e w5 ⟨rfl, rfl⟩
        have d1 : decide ((0 : Int) ≤ (K : Int)) = true := decide_eq_true (by omega)
        go_wp2_with fail
        refine (HSA.out _ HD4.out).mono ?_
        rintro e w5 ⟨rfl, hb⟩
        have HE5 := Lib.hid hb
        have HD5 := Lib.hid (seqB HD4.out hb)
        clear hb
        go_wp2_with fail
        refine (HSR.out _ HD5.out).mono ?_
        rintro e w6 ⟨rfl, hb⟩
        have HE6 := Lib.hid (seqB HE5.out hb)
        have HD6 := Lib.hid (seqB HD5.out hb)
        clear hb HE5 HD5
        go_wp2_with fail
        refine (HSS.out _ HD6.out).mono ?_
        rintro e w7 ⟨rfl, hb⟩
        have HE7 := Lib.hid (seqB HE6.out hb)
        have HD7 := Lib.hid (seqB HD6.out hb)
        clear hb HE6 HD6 HSA HSR HSS HRF
        go_wp2_with fail
        obtain ⟨b, o, rfl, _⟩ := HI.out (by omega)
        have hk0 : (0 : Int) ≤ (K : Int) := by omega
        have hk1 : (K : Int) ≤ (K : Int) + 1 := by omega
        have hk2 : (K : Int) + 1 ≤ (d : Int) := by omega
        have hkw : IntKind.i64.wrap ((K : Int) + 1) = (K : Int) + 1 := wrapN_id (by omega) (by omega)
        have hkt : ((K : Int) + 1).toNat = K + 1 := by omega
        have hkd : ¬ (d = K) := by omega
        have HQ := Lib.hid (show ∀ W, Below w4.heap.size w4 W → W.cell? ⟨w3.heap.size, 0, none⟩ = some (.string x.s) ∧ W.cell? ⟨w3.heap.size, 1, none⟩ = some (.bool x.on) ∧ W.cell? ⟨w3.heap.size, 2, none⟩ = some (.int .i64 x.most) ∧ W.cell? ⟨w3.heap.size, 3, none⟩ = some (.slice qF x.ts.length dF) ∧ Hid (Below w4.heap.size w4 W) from fun W hW => by
          have h := HBX.out W hW
          exact ⟨cell_of_row _ _ 0 _ _ _ h, cell_of_row _ _ 1 _ _ _ h, cell_of_row _ _ 2 _ _ _ h, cell_of_row _ _ 3 _ _ _ h, Lib.hid hW⟩)
        have HQ2 := Lib.hid (show ∀ W W', Hid (Below w4.heap.size w4 W) → Below W.heap.size W W' → W'.cell? ⟨w3.heap.size, 0, none⟩ = some (.string x.s) ∧ W'.cell? ⟨w3.heap.size, 1, none⟩ = some (.bool x.on) ∧ W'.cell? ⟨w3.heap.size, 2, none⟩ = some (.int .i64 x.most) ∧ W'.cell? ⟨w3.heap.size, 3, none⟩ = some (.slice qF x.ts.length dF) ∧ Hid (Below w4.heap.size w4 W') from fun W W' h1 h2 => HQ.out W' (seqB h1.out h2))
        have HSO := Lib.hid (show ∀ W, Below w4.heap.size w4 W → Calls Tryd.prog 9 #[.slice (some ⟨W.heap.size, 0, none⟩) 1 1, .slice (some ⟨b, o + K * 4, none⟩) 1 (d - K)] (W.alloc (.cells #[.string x.s, .bool x.on, .int .i64 x.most, .slice qF x.ts.length dF] TP)) fun e w' => e = .returned (.bool true) ∧ Below (W.alloc (.cells #[.string x.s, .bool x.on, .int .i64 x.most, .slice qF x.ts.length dF] TP)).heap.size (W.alloc (.cells #[.string x.s, .bool x.on, .int .i64 x.most, .slice qF x.ts.length dF] TP)) w' from fun W hW => by
          have hal : Below W.heap.size W (W.alloc (.cells #[.string x.s, .bool x.on, .int .i64 x.most, .slice qF x.ts.length dF] TP)) := (Below.refl _ _).alloc (Nat.le_refl _) _
          have h := rsame_any (some ⟨W.heap.size, 0, none⟩) (some ⟨b, o + K * 4, none⟩) 1 1 1 (d - K) [x] [x] (W.alloc (.cells #[.string x.s, .bool x.on, .int .i64 x.most, .slice qF x.ts.length dF] TP)) rfl rfl (by decide) (by decide) (few_one HMM.out) (few_one HMM.out) (one_prx (heap_alloc_new _ _) rfl (gc.ORow.cap HTX.out) (toxs_on (toxs_on HTX.out.tox hW) hal)) (HPP.out _ b o (prxs_on HI.out (seqB HD4.out (seqB hW hal))))
          rwa [decide_eq_true rfl] at h)
        have HALW := Lib.hid (fun W (hW : Hid (Below w4.heap.size w4 W)) => HAL.out W (seqB HD4.out hW.out))
        have hk11 : K + 1 - K = 1 := by omega
        clear HD7 HPP HTX HMM HBX HW4 HI
        go_region_held (fun W => W.cell? ⟨w3.heap.size, 0, none⟩ = some (.string x.s) ∧ W.cell? ⟨w3.heap.size, 1, none⟩ = some (.bool x.on) ∧ W.cell? ⟨w3.heap.size, 2, none⟩ = some (.int .i64 x.most) ∧ W.cell? ⟨w3.heap.size, 3, none⟩ = some (.slice qF x.ts.length dF) ∧ Hid (Below w4.heap.size w4 W))
          (first
            | exact HQ.out _ (seqB HE7.out (Below.refl _ _).drew)
            | with_reducible assumption
            | exact HQ.out _ (seqB HW8.out ((Below.refl _ _).alloc (Nat.le_refl _) _)))
          (first
            | (go_at_call 5; go_split_ands; (with_reducible refine Calls.mono (HALW.out _ (by assumption)) ?_); rintro e w8 ⟨rfl, hb⟩; (have hS := HQ2.out _ _ (by assumption) hb); (have HW8 := Lib.hid (show Below w4.heap.size w4 w8 from hS.2.2.2.2.out)); clear hb)
            | (go_at_call 9; (with_reducible refine Calls.mono (HSO.out _ HW8.out) ?_); rintro e w9 ⟨rfl, hb⟩; (have hS := HQ.out _ (seqB (seqB HW8.out ((Below.refl _ _).alloc (Nat.le_refl _) _)) hb)); clear hb))
        all_goals
          have HZZ := Lib.hid (seqB HD4.out hS.2.2.2.2.out)
          clear hS
          go_wp2_with fail
          go_ret
          exact ⟨rfl, HZZ.out⟩
      · have HFI := Lib.hid (find_no p n d l s w2 HL.out (by omega) (prxs_on HI.out HD2.out) hfd)
        have HRF := Lib.hid (fun W (hW : Below w.heap.size w W) => rFind_any p n d l s W HL.out (by omega) (prxs_on HI.out hW))
        have e1 : orNone (Nm.fP l s) n = -1 := if_neg hfd
        rw [e1] at HRF
        clear e1
        go_wp2_with fail
        refine HFI.out.mono ?_
        rintro e w3 ⟨rfl, hb⟩
        have hal : Below w3.heap.size w3 (w3.alloc (.cells #[.string ⟨#[]⟩, .bool false, .int .i64 0, .slice none 0 0] TP)) := zero_box w3
        have hnew := heap_alloc_new w3 (.cells #[.string ⟨#[]⟩, .bool false, .int .i64 0, .slice none 0 0] TP)
        obtain ⟨w4, hw4⟩ : ∃ w4, w3.alloc (.cells #[.string ⟨#[]⟩, .bool false, .int .i64 0, .slice none 0 0] TP) = w4 := ⟨_, rfl⟩
        rw [hw4] at hal hnew
        have HD4 := Lib.hid (seqB (seqB HD2.out hb) hal)
        have HBX := Lib.hid (fun W (hW : Below w4.heap.size w4 W) => (hW.block _ (gc.blk_lt hnew)).trans hnew)
        have HW4 := Lib.hid hw4
        clear hb hal hnew hw4 HFI HD2
        go_wp2_with fail
        rw [HW4.out]
        refine (HRF.out _ HD4.out).mono ?_
        rintro e w5 ⟨rfl, rfl⟩
        go_wp2_with fail
        refine (HSA.out _ HD4.out).mono ?_
        rintro e w5 ⟨rfl, hb⟩
        have HE5 := Lib.hid hb
        have HD5 := Lib.hid (seqB HD4.out hb)
        clear hb
        go_wp2_with fail
        refine (HSR.out _ HD5.out).mono ?_
        rintro e w6 ⟨rfl, hb⟩
        have HE6 := Lib.hid (seqB HE5.out hb)
        have HD6 := Lib.hid (seqB HD5.out hb)
        clear hb HE5 HD5
        go_wp2_with fail
        refine (HSS.out _ HD6.out).mono ?_
        rintro e w7 ⟨rfl, hb⟩
        have HE7 := Lib.hid (seqB HE6.out hb)
        have HD7 := Lib.hid (seqB HD6.out hb)
        clear hb HE6 HD6 HSA HSR HSS HRF
        go_wp2_with fail
        refine (HAL.out _ HD7.out).mono ?_
        rintro e w8 ⟨rfl, hb⟩
        have HE8 := Lib.hid (seqB HE7.out hb)
        have HD8 := Lib.hid (seqB HD7.out hb)
        clear hb HE7 HD7
        have hb8 := HBX.out _ HE8.out
        have y0 := cell_of_row _ _ 0 _ _ _ hb8
        have y1 := cell_of_row _ _ 1 _ _ _ hb8
        have y2 := cell_of_row _ _ 2 _ _ _ hb8
        have y3 := cell_of_row _ _ 3 _ _ _ hb8
        have hs8 : (w8.alloc (.cells #[.string ⟨#[]⟩, .bool false, .int .i64 0, .slice none 0 0] TP)).heap.size = w8.heap.size + 1 := World.size_alloc _ _
        have hg1 := heap_alloc_new w8 (.cells #[.string ⟨#[]⟩, .bool false, .int .i64 0, .slice none 0 0] TP)
        have hg2 := heap_alloc_new (w8.alloc (.cells #[.string ⟨#[]⟩, .bool false, .int .i64 0, .slice none 0 0] TP)) (.cells #[.string ⟨#[]⟩, .bool false, .int .i64 0, .slice none 0 0] TP)
        rw [hs8] at hg2
        obtain ⟨w9, hw9⟩ : ∃ w9, (w8.alloc (.cells #[.string ⟨#[]⟩, .bool false, .int .i64 0, .slice none 0 0] TP)).alloc (.cells #[.string ⟨#[]⟩, .bool false, .int .i64 0, .slice none 0 0] TP) = w9 := ⟨_, rfl⟩
        have hal9 : Below w8.heap.size w8 w9 := by rw [← hw9]; exact seqB (zero_box _) (zero_box _)
        have hg1' : w9.heap[w8.heap.size]? = some (.cells #[.string ⟨#[]⟩, .bool false, .int .i64 0, .slice none 0 0] TP (0, 0)) := by rw [← hw9]; exact ((zero_box _).block _ (gc.blk_lt hg1)).trans hg1
        rw [hw9] at hg2
        have hz1 : PrxIn w9 (some ⟨w8.heap.size, 0, none⟩) 1 [noPrx] := one_prx hg1' rfl (Nat.le_refl _) (fun h => absurd h (Nat.lt_irrefl _))
        have hz2 : PrxIn w9 (some ⟨w8.heap.size + 1, 0, none⟩) 1 [noPrx] := one_prx hg2 rfl (Nat.le_refl _) (fun h => absurd h (Nat.lt_irrefl _))
        have hso := rsame_any (some ⟨w8.heap.size, 0, none⟩) (some ⟨w8.heap.size + 1, 0, none⟩) 1 1 1 1 [noPrx] [noPrx] w9 rfl rfl (by decide) (by decide) (few_one (Nat.zero_le _)) (few_one (Nat.zero_le _)) hz1 hz2
        rw [decide_eq_true rfl] at hso
        have HSO := Lib.hid hso
        have HW9 := Lib.hid hw9
        have HD9 := Lib.hid (seqB HD8.out hal9)
        clear hb8 hs8 hg1 hg2 hw9 hal9 hg1' hz1 hz2 hso
        go_wp2_with fail
        rw [HW9.out]
        refine HSO.out.mono ?_
        rintro e wz ⟨rfl, hb⟩
        have HZZ := Lib.hid (seqB HD9.out hb)
        clear hb
        go_wp2_with fail
        go_ret
        exact ⟨rfl, HZZ.out⟩
end Go.Proofs.YtmghkcjljnlocaaDoor
