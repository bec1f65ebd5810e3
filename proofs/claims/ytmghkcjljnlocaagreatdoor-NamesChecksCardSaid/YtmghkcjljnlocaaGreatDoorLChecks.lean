/-
  'chicanelaw14.NamesChecks' returns true. Conditions: the names' lengths, the table of digits.
-/
import Derived.Test.YtmghkcjljnlocaaGreatDoorQA
import Derived.Test.YtmghkcjljnlocaaGreatDoorR2
namespace Go.Proofs.YtmghkcjljnlocaaGreatDoor
open Go.RowKit
def onB (on : Bool) : ByteArray := if on then ⟨#[32, 111, 110, 32]⟩ else ⟨#[32, 111, 102, 102, 32]⟩
theorem on_sign (on : Bool) : (⟨#[32]⟩ : ByteArray) ++ signP on ++ ⟨#[32]⟩ = onB on := by cases on <;> rfl
theorem head_eq (p : Prx) : headP p = p.s ++ onB p.on ++ gx.itB p.most ++ ⟨#[32]⟩ ++ gx.itB (p.ts.length : Int) := by
  unfold headP
  rw [← on_sign]
  simp only [ByteArray.append_assoc]
theorem strs_low {w : World} {B B' : Nat} {q : Option Addr} {m d : Nat} {ps : List ByteArray} (h : gx.Strs w B q m d ps) (hb : B' ≤ B) : gx.Strs w B' q m d ps := gc.own_low h hb
set_option maxRecDepth 100000 in
set_option maxHeartbeats 8000000 in
theorem rlines_any (s : ByteArray) (on : Bool) (most : Int) (q : Option Addr) (m d : Nat) (ts : List Tox) (w : World) (hs : s.size ≤ maxLen) (hl : ts.length = m) (hmd : m ≤ d) (hz : ∀ t ∈ ts, t.s.size ≤ maxLen) (hi : ToxIn w q m ts) :
    Calls Tryz.prog 18 #[.agg #[.string s, .bool on, .int .i64 most, .slice q m d]] w (OutX (linesP ⟨s, on, most, ts⟩) w) := by
  obtain ⟨w1, hw1⟩ : ∃ w1, w.alloc (.cells #[.string s, .bool on, .int .i64 most, .slice q m d] TP) = w1 := ⟨_, rfl⟩
  have hb1 : Below w.heap.size w w1 := by rw [← hw1]; exact (Below.refl _ _).alloc (Nat.le_refl _) _
  have h1 : w1.heap[w.heap.size]? = some (.cells #[.string s, .bool on, .int .i64 most, .slice q m d] TP (0, 0)) := by rw [← hw1]; exact heap_alloc_new _ _
  have HC := Lib.hid (rchk_any s on most q m d ts w1 hs hl hmd hz (toxs_on hi hb1))
  have HX := Lib.hid (show linesP ⟨s, on, most, ts⟩ = if Nm.chkP ⟨s, on, most, ts⟩ ≠ 0 then [] else headP ⟨s, on, most, ts⟩ :: ts.map textT from rfl)
  have HOK := Lib.hid (fun (h : Nm.chkP ⟨s, on, most, ts⟩ = 0) => (Nm.chkP_iff _).1 h)
  generalize Nm.chkP ⟨s, on, most, ts⟩ = C at *
  have H1 := Lib.hid h1
  have HW := Lib.hid hw1
  have HB := Lib.hid hb1
  have HI := Lib.hid (toxs_on hi hb1)
  have HL := Lib.hid hl
  have c0 := cell_of_row _ _ 0 _ _ _ h1
  have c1 := cell_of_row _ _ 1 _ _ _ h1
  have c2 := cell_of_row _ _ 2 _ _ _ h1
  have c3 := cell_of_row _ _ 3 _ _ _ h1
  rw [← hw1] at c0 c1 c2 c3
  clear hi hl hz hb1 h1 hw1
  go_enter Tryz.func18, Tryz.ntmps18
  go_wp2_with fail
  rw [HW.out]
  refine HC.out.mono ?_
  rintro e w2 ⟨rfl, hb⟩
  have HD2 := Lib.hid hb
  have H2 := Lib.hid ((hb.block _ (gc.blk_lt H1.out)).trans H1.out)
  clear hb HC c0 c1 c2 c3
  by_cases hC0 : C = 0
  · have hx := HX.out
    subst hC0
    rw [if_neg (by simp)] at hx
    have HXX := Lib.hid hx
    obtain ⟨hnm, hm0, hm16, hts8, htc, _⟩ := HOK.out (by first | rfl | trivial)
    have hss := name_small hnm
    have HTC := Lib.hid htc
    have hts8 : ts.length ≤ 8 := hts8
    have hm8 : m ≤ 8 := by rw [← HL.out]; exact hts8
    clear hx HX HOK hnm htc hts8 hm0 hm16
    have HT1 := Lib.hid (fun W => gx.rtext_any most W)
    have HT3 := Lib.hid (fun W => gx.rtext_any (m : Int) W)
    have e1 : (⟨(Lib.itoa (gx.near most)).toArray⟩ : ByteArray) = gx.itB most := rfl
    have e2 : (⟨(Lib.itoa (gx.near (m : Int))).toArray⟩ : ByteArray) = gx.itB (m : Int) := rfl
    rw [e1] at HT1
    rw [e2] at HT3
    have i1 := gx.it_size most
    have i2 := gx.it_size (m : Int)
    have HHD := Lib.hid (head_eq ⟨s, on, most, ts⟩)
    dsimp only at HHD
    rw [HL.out] at HHD
    generalize gx.itB most = ta at *
    generalize gx.itB (m : Int) = tb at *
    obtain ⟨c0, c1, c2, c3⟩ : w2.cell? ⟨w.heap.size, 0, none⟩ = some (.string s) ∧ w2.cell? ⟨w.heap.size, 1, none⟩ = some (.bool on) ∧ w2.cell? ⟨w.heap.size, 2, none⟩ = some (.int .i64 most) ∧ w2.cell? ⟨w.heap.size, 3, none⟩ = some (.slice q m d) :=
      ⟨cell_of_row _ _ 0 _ _ _ H2.out, cell_of_row _ _ 1 _ _ _ H2.out, cell_of_row _ _ 2 _ _ _ H2.out, cell_of_row _ _ 3 _ _ _ H2.out⟩
    clear e1 e2
    have hon : (onB on).size ≤ 5 := by cases on <;> decide
    obtain ⟨C1, hC1⟩ : ∃ c, s ++ onB on = c := ⟨_, rfl⟩
    have z1 : C1.size = s.size + (onB on).size := by rw [← hC1]; exact gx.cat_size _ _
    obtain ⟨C2, hC2⟩ : ∃ c, C1 ++ ta = c := ⟨_, rfl⟩
    have z2 : C2.size = C1.size + ta.size := by rw [← hC2]; exact gx.cat_size _ _
    obtain ⟨C3, hC3⟩ : ∃ c, C2 ++ (⟨#[32]⟩ : ByteArray) = c := ⟨_, rfl⟩
    have z3 : C3.size = C2.size + 1 := by rw [← hC3]; exact gx.cat_size _ _
    obtain ⟨H, hC4⟩ : ∃ c, C3 ++ tb = c := ⟨_, rfl⟩
    rw [hC1, hC2, hC3, hC4] at HHD
    have r1 := fun W => gx.cat_run hC1 (by omega) (by omega) W
    have r2 := fun W => gx.cat_run hC2 (by omega) (by omega) W
    have r3 := fun W => gx.cat_run hC3 (by omega) (by decide) W
    have r4 := fun W => gx.cat_run hC4 (by omega) (by omega) W
    clear hC1 hC2 hC3 hC4 z1 z2 z3 hon i1 i2
    have HQ := Lib.hid (show w2.drew.cell? ⟨w.heap.size, 0, none⟩ = some (.string s) ∧ w2.drew.cell? ⟨w.heap.size, 2, none⟩ = some (.int .i64 most) ∧ w2.drew.cell? ⟨w.heap.size, 3, none⟩ = some (.slice q m d) from ⟨c0, c2, c3⟩)
    cases on with
    | true =>
      simp only [onB, if_true] at r1
      go_wp2_with fail
      go_region_held (fun W => W.cell? ⟨w.heap.size, 0, none⟩ = some (.string s) ∧ W.cell? ⟨w.heap.size, 2, none⟩ = some (.int .i64 most) ∧ W.cell? ⟨w.heap.size, 3, none⟩ = some (.slice q m d))
        (first
          | exact HQ.out
          | with_reducible assumption
          | exact ⟨(((Below.refl _ _).alloc (Nat.le_refl _) _).cell (World.block_lt_of_cell? w2.drew _ HQ.out.1)).trans HQ.out.1, (((Below.refl _ _).alloc (Nat.le_refl _) _).cell (World.block_lt_of_cell? w2.drew _ HQ.out.2.1)).trans HQ.out.2.1, (((Below.refl _ _).alloc (Nat.le_refl _) _).cell (World.block_lt_of_cell? w2.drew _ HQ.out.2.2)).trans HQ.out.2.2⟩)
        (first
          | (go_at_call 36; (with_reducible refine Calls.mono (HT1.out _) ?_); rintro e w' ⟨rfl, rfl⟩)
          | (go_at_call 36; (with_reducible refine Calls.mono (HT3.out _) ?_); rintro e w' ⟨rfl, rfl⟩))
      have hal : Below w2.drew.heap.size w2.drew (w2.drew.alloc (.cells #[.string H] 9)) := (Below.refl _ _).alloc (Nat.le_refl _) _
      have HD7 := Lib.hid (seqB (seqB HD2.out (Below.refl _ w2).drew) hal)
      have HO7 := Lib.hid (row1 w2.drew w1.heap.size HD2.out.size H)
      clear hal HT1 HT3 HQ c0 c1 c2 c3 r1 r2 r3 r4
      go_wp2_with fail
      go_loopw [4, 5] (fun x i wr => ∃ k : Nat, k ≤ m ∧ i = .int .i64 k ∧ ∃ q c, x = .slice q (k + 1) c ∧ Hid (gx.Strs wr w1.heap.size q (k + 1) c (H :: (ts.take k).map textT)) ∧ Hid (Below w1.heap.size w1 wr)) (fun _ i _ => m - (intOf i).toNat)
      case atStart => exact ⟨0, by omega, rfl, _, _, rfl, HO7, HD7⟩
      case round =>
        clear HO7 HD7
        obtain ⟨k, hk, rfl, qs, cs, rfl, HO, HDk⟩ := hrel
        have c3 := cell_of_row _ _ 3 _ _ _ ((HDk.out.block _ (gc.blk_lt H1.out)).trans H1.out)
        by_cases hlt : k < m
        · obtain ⟨b, o, rfl, hc⟩ := toxs_on HI.out HDk.out (by omega)
          obtain ⟨e0, e1, e2, e3, e4, e5⟩ := hc k hlt
          rw [← Nat.add_assoc] at e1 e2 e3 e4 e5
          have hkl : k < ts.length := by rw [HL.out]; exact hlt
          have hg : ts.getD k noTox = ts[k] := getD_at _ _ hkl
          have htk := HTC.out (ts.getD k noTox) (by rw [hg]; exact List.getElem_mem _)
          have HTT := Lib.hid (show (ts.take (k + 1)).map textT = (ts.take k).map textT ++ [textT (ts.getD k noTox)] from by rw [hg, List.take_succ_eq_append_getElem hkl, List.map_append]; rfl)
          have htz := tox_small htk
          generalize ts.getD k noTox = tx at *
          obtain ⟨us, uk, uu, uo, ua, ub⟩ := tx
          simp only at e0 e1 e2 e3 e4 e5 htz
          have HTX := Lib.hid (gx.rtoxic_any us (by omega) uk uu uo ua ub wr)
          unfold gx.Txt at HTX
          have ett : textT ⟨us, uk, uu, uo, ua, ub⟩ = gx.textB us uk uu uo ua ub := rfl
          rw [ett] at HTT
          generalize gx.textB us uk uu uo ua ub = tt at *
          have hki : (k : Int) < (m : Int) := by omega
          clear hc hkl hg htk htz ett
          go_wp2_with fail
          refine HTX.out.mono ?_
          rintro e w9 ⟨rfl, hb⟩
          obtain ⟨q2, d2, wA, r1, r2, r3⟩ := gx.app_str (gx.own_on HO.out hb) (seqB HDk.out hb).size (seqB HDk.out hb) (by omega) tt
          have hlen : (H :: (ts.take k).map textT) ++ [tt] = H :: (ts.take (k + 1)).map textT := by rw [HTT.out]; rfl
          rw [hlen] at r2
          have HR := Lib.hid r1
          have HOA := Lib.hid r2
          have HDA := Lib.hid r3
          clear hb r1 r2 r3 hlen e0 e1 e2 e3 e4 e5 HTX HTT HO HDk c3
          go_wp2_with (at_builtin; refine Lib.wpList_append_run _ rfl _ _ _ _ rfl (.slice qs (k + 1) cs) (.slice (some ⟨w9.heap.size, 0, none⟩) 1 1) rfl rfl _ _ (HR.out _) ?_)
          go_roundw
          case rel => exact ⟨k + 1, by omega, by go_num, q2, d2, rfl, HOA, HDA⟩
          case measure => simp [intOf]; omega
        · obtain rfl : k = m := by omega
          have HE := Lib.hid (show ts.take k = ts from List.take_of_length_le (by rw [HL.out]; exact Nat.le_refl _))
          go_wp2_with fail
          go_ret
          exact ⟨qs, k + 1, cs, rfl, by have h := HO.out; rw [HE.out] at h; rw [HXX.out, HHD.out]; exact strs_low h HB.out.size, seqB HB.out HDk.out⟩
    | false =>
      simp only [onB, if_false, Bool.false_eq_true] at r1
      go_wp2_with fail
      go_region_held (fun W => W.cell? ⟨w.heap.size, 0, none⟩ = some (.string s) ∧ W.cell? ⟨w.heap.size, 2, none⟩ = some (.int .i64 most) ∧ W.cell? ⟨w.heap.size, 3, none⟩ = some (.slice q m d))
        (first
          | exact HQ.out
          | with_reducible assumption
          | exact ⟨(((Below.refl _ _).alloc (Nat.le_refl _) _).cell (World.block_lt_of_cell? w2.drew _ HQ.out.1)).trans HQ.out.1, (((Below.refl _ _).alloc (Nat.le_refl _) _).cell (World.block_lt_of_cell? w2.drew _ HQ.out.2.1)).trans HQ.out.2.1, (((Below.refl _ _).alloc (Nat.le_refl _) _).cell (World.block_lt_of_cell? w2.drew _ HQ.out.2.2)).trans HQ.out.2.2⟩)
        (first
          | (go_at_call 36; (with_reducible refine Calls.mono (HT1.out _) ?_); rintro e w' ⟨rfl, rfl⟩)
          | (go_at_call 36; (with_reducible refine Calls.mono (HT3.out _) ?_); rintro e w' ⟨rfl, rfl⟩))
      have hal : Below w2.drew.heap.size w2.drew (w2.drew.alloc (.cells #[.string H] 9)) := (Below.refl _ _).alloc (Nat.le_refl _) _
      have HD7 := Lib.hid (seqB (seqB HD2.out (Below.refl _ w2).drew) hal)
      have HO7 := Lib.hid (row1 w2.drew w1.heap.size HD2.out.size H)
      clear hal HT1 HT3 HQ c0 c1 c2 c3 r1 r2 r3 r4
      go_wp2_with fail
      go_loopw [4, 5] (fun x i wr => ∃ k : Nat, k ≤ m ∧ i = .int .i64 k ∧ ∃ q c, x = .slice q (k + 1) c ∧ Hid (gx.Strs wr w1.heap.size q (k + 1) c (H :: (ts.take k).map textT)) ∧ Hid (Below w1.heap.size w1 wr)) (fun _ i _ => m - (intOf i).toNat)
      case atStart => exact ⟨0, by omega, rfl, _, _, rfl, HO7, HD7⟩
      case round =>
        clear HO7 HD7
        obtain ⟨k, hk, rfl, qs, cs, rfl, HO, HDk⟩ := hrel
        have c3 := cell_of_row _ _ 3 _ _ _ ((HDk.out.block _ (gc.blk_lt H1.out)).trans H1.out)
        by_cases hlt : k < m
        · obtain ⟨b, o, rfl, hc⟩ := toxs_on HI.out HDk.out (by omega)
          obtain ⟨e0, e1, e2, e3, e4, e5⟩ := hc k hlt
          rw [← Nat.add_assoc] at e1 e2 e3 e4 e5
          have hkl : k < ts.length := by rw [HL.out]; exact hlt
          have hg : ts.getD k noTox = ts[k] := getD_at _ _ hkl
          have htk := HTC.out (ts.getD k noTox) (by rw [hg]; exact List.getElem_mem _)
          have HTT := Lib.hid (show (ts.take (k + 1)).map textT = (ts.take k).map textT ++ [textT (ts.getD k noTox)] from by rw [hg, List.take_succ_eq_append_getElem hkl, List.map_append]; rfl)
          have htz := tox_small htk
          generalize ts.getD k noTox = tx at *
          obtain ⟨us, uk, uu, uo, ua, ub⟩ := tx
          simp only at e0 e1 e2 e3 e4 e5 htz
          have HTX := Lib.hid (gx.rtoxic_any us (by omega) uk uu uo ua ub wr)
          unfold gx.Txt at HTX
          have ett : textT ⟨us, uk, uu, uo, ua, ub⟩ = gx.textB us uk uu uo ua ub := rfl
          rw [ett] at HTT
          generalize gx.textB us uk uu uo ua ub = tt at *
          have hki : (k : Int) < (m : Int) := by omega
          clear hc hkl hg htk htz ett
          go_wp2_with fail
          refine HTX.out.mono ?_
          rintro e w9 ⟨rfl, hb⟩
          obtain ⟨q2, d2, wA, r1, r2, r3⟩ := gx.app_str (gx.own_on HO.out hb) (seqB HDk.out hb).size (seqB HDk.out hb) (by omega) tt
          have hlen : (H :: (ts.take k).map textT) ++ [tt] = H :: (ts.take (k + 1)).map textT := by rw [HTT.out]; rfl
          rw [hlen] at r2
          have HR := Lib.hid r1
          have HOA := Lib.hid r2
          have HDA := Lib.hid r3
          clear hb r1 r2 r3 hlen e0 e1 e2 e3 e4 e5 HTX HTT HO HDk c3
          go_wp2_with (at_builtin; refine Lib.wpList_append_run _ rfl _ _ _ _ rfl (.slice qs (k + 1) cs) (.slice (some ⟨w9.heap.size, 0, none⟩) 1 1) rfl rfl _ _ (HR.out _) ?_)
          go_roundw
          case rel => exact ⟨k + 1, by omega, by go_num, q2, d2, rfl, HOA, HDA⟩
          case measure => simp [intOf]; omega
        · obtain rfl : k = m := by omega
          have HE := Lib.hid (show ts.take k = ts from List.take_of_length_le (by rw [HL.out]; exact Nat.le_refl _))
          go_wp2_with fail
          go_ret
          exact ⟨qs, k + 1, cs, rfl, by have h := HO.out; rw [HE.out] at h; rw [HXX.out, HHD.out]; exact strs_low h HB.out.size, seqB HB.out HDk.out⟩
  · have hx := HX.out
    rw [if_pos hC0] at hx
    have HXX := Lib.hid hx
    have d4 : (C != 0) = true := by simpa using hC0
    have d5 : decide (C = 0) = false := by simpa using hC0
    clear hx HX HOK hC0
    go_wp2_with fail
    go_ret
    exact ⟨none, 0, 0, rfl, by rw [HXX.out]; exact ⟨rfl, Or.inl ⟨rfl, rfl⟩⟩, seqB HB.out HD2.out⟩
/-- One proxy, in a slice. -/
theorem one_prx {w : World} {g : Nat} {x : Prx} {pl : Option Addr} {nl dl : Nat} (h : w.heap[g]? = some (.cells #[.string x.s, .bool x.on, .int .i64 x.most, .slice pl nl dl] TP (0, 0))) (hl : x.ts.length = nl) (hnd : nl ≤ dl) (hi : ToxIn w pl nl x.ts) : PrxIn w (some ⟨g, 0, none⟩) 1 [x] := fun _ => ⟨g, 0, rfl, fun i hi1 => by
  obtain rfl : i = 0 := by omega
  exact ⟨cell_of_row _ _ 0 _ _ _ h, cell_of_row _ _ 1 _ _ _ h, cell_of_row _ _ 2 _ _ _ h, pl, nl, dl, cell_of_row _ _ 3 _ _ _ h, hnd, hl, hi⟩⟩
set_option maxRecDepth 100000 in
set_option maxHeartbeats 16000000 in
theorem namesChecks.walk (x : Prx) (pl : Option Addr) (nl dl : Nat) (w : World) (hl : x.ts.length = nl) (hnd : nl ≤ dl) (hd : dl ≤ maxLen) (hi : ToxIn w pl nl x.ts) (hg : Long14 x) (htab : gx.Tab w) :
    Calls Tryz.prog 4 #[.agg #[.string x.s, .bool x.on, .int .i64 x.most, .slice pl nl dl]] w fun e w' => e = .returned (.bool true) ∧ Below w.heap.size w w' := by
  obtain ⟨w1, hw1⟩ : ∃ w1, w.alloc (.cells #[.string x.s, .bool x.on, .int .i64 x.most, .slice pl nl dl] TP) = w1 := ⟨_, rfl⟩
  obtain ⟨w2, hw2⟩ : ∃ w2, w1.alloc (.cells #[.string x.s, .bool x.on, .int .i64 x.most, .slice pl nl dl] TP) = w2 := ⟨_, rfl⟩
  have hb1 : Below w.heap.size w w1 := by rw [← hw1]; exact (Below.refl _ _).alloc (Nat.le_refl _) _
  have hb2 : Below w1.heap.size w1 w2 := by rw [← hw2]; exact (Below.refl _ _).alloc (Nat.le_refl _) _
  have h1 : w1.heap[w.heap.size]? = some (.cells #[.string x.s, .bool x.on, .int .i64 x.most, .slice pl nl dl] TP (0, 0)) := by rw [← hw1]; exact heap_alloc_new _ _
  have h2 : w2.heap[w1.heap.size]? = some (.cells #[.string x.s, .bool x.on, .int .i64 x.most, .slice pl nl dl] TP (0, 0)) := by rw [← hw2]; exact heap_alloc_new _ _
  have hs1 : w1.heap.size = w.heap.size + 1 := by rw [← hw1]; exact World.size_alloc _ _
  have HB2 := Lib.hid (seqB hb1 hb2)
  have hi2 := toxs_on hi HB2.out
  have HF := Lib.hid (few_any (some ⟨w1.heap.size, 0, none⟩) 1 1 [x] w2 rfl (by unfold maxLen; omega) (fun y hy => by rw [List.mem_singleton.1 hy]; exact ⟨hg.2.1, hg.1⟩) (one_prx h2 hl hnd hi2))
  rw [hs1] at HF
  have HAL := Lib.hid (fun W (hW : Below w2.heap.size w2 W) => alive_any W (gx.tab_on htab (seqB HB2.out hW)))
  have h1' := (hb2.block _ (gc.blk_lt h1)).trans h1
  have HQ := Lib.hid (show ∀ W, Below w2.heap.size w2 W → W.cell? ⟨w.heap.size, 0, none⟩ = some (.string x.s) ∧ W.cell? ⟨w.heap.size, 1, none⟩ = some (.bool x.on) ∧ W.cell? ⟨w.heap.size, 2, none⟩ = some (.int .i64 x.most) ∧ W.cell? ⟨w.heap.size, 3, none⟩ = some (.slice pl nl dl) ∧ Hid (Below w2.heap.size w2 W) from fun W hW => by
    have h := (hW.block _ (gc.blk_lt h1')).trans h1'
    exact ⟨cell_of_row _ _ 0 _ _ _ h, cell_of_row _ _ 1 _ _ _ h, cell_of_row _ _ 2 _ _ _ h, cell_of_row _ _ 3 _ _ _ h, Lib.hid hW⟩)
  have HQ2 := Lib.hid (show ∀ W W', Hid (Below w2.heap.size w2 W) → Below W.heap.size W W' → W'.cell? ⟨w.heap.size, 0, none⟩ = some (.string x.s) ∧ W'.cell? ⟨w.heap.size, 1, none⟩ = some (.bool x.on) ∧ W'.cell? ⟨w.heap.size, 2, none⟩ = some (.int .i64 x.most) ∧ W'.cell? ⟨w.heap.size, 3, none⟩ = some (.slice pl nl dl) ∧ Hid (Below w2.heap.size w2 W') from fun W W' h1 h2 => HQ.out W' (seqB h1.out h2))
  have HLN := Lib.hid (fun (hlen : Lean14 [x]) W (hW : Hid (Below w2.heap.size w2 W)) => lines_any x.s x.on x.most pl nl dl x.ts W (hlen x (List.mem_singleton.2 rfl)).1 hl hnd (by rw [← hl]; exact (hlen x (List.mem_singleton.2 rfl)).2.1) (hlen x (List.mem_singleton.2 rfl)).2.2 (toxs_on hi2 hW.out) (gx.tab_on htab (seqB HB2.out hW.out)))
  have HRL := Lib.hid (fun (hlen : Lean14 [x]) W (hW : Hid (Below w2.heap.size w2 W)) => rlines_any x.s x.on x.most pl nl dl x.ts W (hlen x (List.mem_singleton.2 rfl)).1 hl hnd (hlen x (List.mem_singleton.2 rfl)).2.2 (toxs_on hi2 hW.out))
  have HCK := Lib.hid (fun (hlen : Lean14 [x]) W (hW : Hid (Below w2.heap.size w2 W)) => chkp_any x.s x.on x.most pl nl dl x.ts W (hlen x (List.mem_singleton.2 rfl)).1 hl hnd (by rw [← hl]; exact (hlen x (List.mem_singleton.2 rfl)).2.1) (hlen x (List.mem_singleton.2 rfl)).2.2 (toxs_on hi2 hW.out))
  have HRC := Lib.hid (fun (hlen : Lean14 [x]) W (hW : Hid (Below w2.heap.size w2 W)) => rchk_any x.s x.on x.most pl nl dl x.ts W (hlen x (List.mem_singleton.2 rfl)).1 hl hnd (hlen x (List.mem_singleton.2 rfl)).2.2 (toxs_on hi2 hW.out))
  have HGZ := Lib.hid hg.2.2
  have c0 := cell_of_row _ _ 0 _ _ _ h1
  have c1 := cell_of_row _ _ 1 _ _ _ h1
  have c2 := cell_of_row _ _ 2 _ _ _ h1
  have c3 := cell_of_row _ _ 3 _ _ _ h1
  have HW := Lib.hid (⟨hw1, hw2⟩ : w.alloc (.cells #[.string x.s, .bool x.on, .int .i64 x.most, .slice pl nl dl] TP) = w1 ∧ w1.alloc (.cells #[.string x.s, .bool x.on, .int .i64 x.most, .slice pl nl dl] TP) = w2)
  rw [← hw1] at c0 c1 c2 c3
  generalize hlp : linesP ⟨x.s, x.on, x.most, x.ts⟩ = LP at *
  generalize hcp : Nm.chkP ⟨x.s, x.on, x.most, x.ts⟩ = CP at *
  clear hb1 hb2 h1 h2 h1' hs1 hi hi2 hl hnd hd hg htab hw1 hw2 hlp hcp
  go_enter Tryz.func4, Tryz.ntmps4
  go_wp2_with fail
  rw [HW.out.1, HW.out.2]
  refine HF.out.mono ?_
  rintro e w3 ⟨rfl, hb⟩
  have HD3 := Lib.hid hb
  clear hb HF HW c0 c1 c2 c3
  cases hf : fewB [x] with
  | false =>
    clear hf HLN HRL HCK HRC
    go_wp2_with fail
    refine (HAL.out _ HD3.out).mono ?_
    rintro e wz ⟨rfl, hb⟩
    have HZZ := Lib.hid (seqB HB2.out (seqB HD3.out hb))
    clear hb
    go_wp2_with fail
    go_ret
    exact ⟨rfl, HZZ.out⟩
  | true =>
    have hlen := (few_lean hf (fun y hy => by rw [List.mem_singleton.1 hy]; exact HGZ.out)).1
    have HL1 := Lib.hid (HLN.out hlen)
    have HL2 := Lib.hid (HRL.out hlen)
    have HC1 := Lib.hid (HCK.out hlen)
    have HC2 := Lib.hid (HRC.out hlen)
    obtain ⟨L, hL⟩ : ∃ L, LP.length = L := ⟨_, rfl⟩
    have HLL := Lib.hid hL
    clear hf hlen HLN HRL HCK HRC HGZ hL
    go_wp2_with fail
    go_region_held (fun W => W.cell? ⟨w.heap.size, 0, none⟩ = some (.string x.s) ∧ W.cell? ⟨w.heap.size, 1, none⟩ = some (.bool x.on) ∧ W.cell? ⟨w.heap.size, 2, none⟩ = some (.int .i64 x.most) ∧ W.cell? ⟨w.heap.size, 3, none⟩ = some (.slice pl nl dl) ∧ Hid (Below w2.heap.size w2 W))
      (first
        | exact HQ.out _ (seqB HD3.out (Below.refl _ _).drew)
        | with_reducible assumption)
      (first
        | (go_at_call 17; go_split_ands; (with_reducible refine Calls.mono (HL1.out _ (by assumption)) ?_); rintro e w' ⟨q1, m1, d1, rfl, hs1, hb⟩; (obtain rfl : L = m1 := HLL.out.symm.trans (gx.Strs.len hs1)); (have hS := HQ2.out _ _ (by assumption) hb); (try (have HS2 := Lib.hid (gx.own_on HS2.out hb))); (have HS1 := Lib.hid hs1); clear hb hs1)
        | (go_at_call 18; go_split_ands; (with_reducible refine Calls.mono (HL2.out _ (by assumption)) ?_); rintro e w' ⟨q2, m2, d2, rfl, hs2, hb⟩; (obtain rfl : L = m2 := HLL.out.symm.trans (gx.Strs.len hs2)); (have hS := HQ2.out _ _ (by assumption) hb); (try (have HS1 := Lib.hid (gx.own_on HS1.out hb))); (have HS2 := Lib.hid hs2); clear hb hs2))
    all_goals
      have HD4 := Lib.hid (show Below w2.heap.size w2 w' from hS.2.2.2.2.out)
      clear hS HL1 HL2 HD3
      go_wp2_with fail
      have HQ4 := Lib.hid (show ∀ W, Below w'.heap.size w' W → W.cell? ⟨w.heap.size, 0, none⟩ = some (.string x.s) ∧ W.cell? ⟨w.heap.size, 1, none⟩ = some (.bool x.on) ∧ W.cell? ⟨w.heap.size, 2, none⟩ = some (.int .i64 x.most) ∧ W.cell? ⟨w.heap.size, 3, none⟩ = some (.slice pl nl dl) ∧ Hid (Below w2.heap.size w2 W) ∧ Hid (Below w'.heap.size w' W) from fun W hW => by
        obtain ⟨u0, u1, u2, u3, u4⟩ := HQ.out W (seqB HD4.out hW)
        exact ⟨u0, u1, u2, u3, u4, Lib.hid hW⟩)
      have HQ5 := Lib.hid (show ∀ W W', Hid (Below w'.heap.size w' W) → Below W.heap.size W W' → W'.cell? ⟨w.heap.size, 0, none⟩ = some (.string x.s) ∧ W'.cell? ⟨w.heap.size, 1, none⟩ = some (.bool x.on) ∧ W'.cell? ⟨w.heap.size, 2, none⟩ = some (.int .i64 x.most) ∧ W'.cell? ⟨w.heap.size, 3, none⟩ = some (.slice pl nl dl) ∧ Hid (Below w2.heap.size w2 W') ∧ Hid (Below w'.heap.size w' W') from fun W W' h1 h2 => HQ4.out W' (seqB h1.out h2))
      go_region_held (fun W => W.cell? ⟨w.heap.size, 0, none⟩ = some (.string x.s) ∧ W.cell? ⟨w.heap.size, 1, none⟩ = some (.bool x.on) ∧ W.cell? ⟨w.heap.size, 2, none⟩ = some (.int .i64 x.most) ∧ W.cell? ⟨w.heap.size, 3, none⟩ = some (.slice pl nl dl) ∧ Hid (Below w2.heap.size w2 W) ∧ Hid (Below w'.heap.size w' W))
        (first
          | exact HQ4.out _ (Below.refl _ _).drew
          | with_reducible assumption)
        (first
          | (go_at_call 19; go_split_ands; (with_reducible refine Calls.mono (HC1.out _ (by assumption)) ?_); rintro e w6 ⟨rfl, hb⟩; (have hS := HQ5.out _ _ (by assumption) hb); clear hb)
          | (go_at_call 20; go_split_ands; (with_reducible refine Calls.mono (HC2.out _ (by assumption)) ?_); rintro e w6 ⟨rfl, hb⟩; (have hS := HQ5.out _ _ (by assumption) hb); clear hb))
    all_goals
      have HD6 := Lib.hid (seqB HD4.out (show Below w'.heap.size w' w6 from hS.2.2.2.2.2.out))
      have HS1 := Lib.hid (gx.own_on HS1.out (show Below w'.heap.size w' w6 from hS.2.2.2.2.2.out))
      have HS2 := Lib.hid (gx.own_on HS2.out (show Below w'.heap.size w' w6 from hS.2.2.2.2.2.out))
      clear hS HQ HQ2 HQ4 HQ5 HC1 HC2 HD4
      go_wp2_with fail
      go_loopw [5, 29] (fun _ i wr => ∃ k : Nat, k ≤ L ∧ i = .int .i64 k ∧ ∃ N, wr = w6.drewN N) (fun _ i _ => L - (intOf i).toNat)
      case atStart => exact ⟨0, by omega, rfl, 0, rfl⟩
      case round =>
        obtain ⟨k, hk, rfl, N, rfl⟩ := hrel
        by_cases hlt : k < L
        · obtain ⟨b1, rfl, _, _, hc1, hc63⟩ := gx.Strs.form HS1.out (by omega)
          obtain ⟨b2, rfl, _, _, hc2, hd63⟩ := gx.Strs.form HS2.out (by omega)
          have s1 := gx.Strs.at HS1.out k hlt
          have s2 := gx.Strs.at HS2.out k hlt
          generalize LP.getD k ⟨#[]⟩ = z at *
          have hki : (k : Int) < (L : Int) := by omega
          go_wp2_with fail
          go_quiet (fail)
          clear s1 s2
          go_wp2_with fail
          go_roundw
          case rel => exact ⟨k + 1, by omega, by go_num, N + nq, by first | rfl | rw [World.drewN_drewN]⟩
          case measure => simp [intOf]; omega
        · have HD7 := Lib.hid (seqB HD6.out (nbelow_drewN w6 N))
          obtain rfl : k = L := by omega
          go_wp2_with fail
          refine (HAL.out _ HD7.out).mono ?_
          rintro e wz ⟨rfl, hb⟩
          have HZZ := Lib.hid (seqB HB2.out (seqB HD7.out hb))
          clear hb
          go_wp2_with fail
          go_ret
          exact ⟨rfl, HZZ.out⟩
set_option maxRecDepth 100000 in
/-- A proxy that came in. -/
theorem openPrx {H : Type} {enc : TypeId × Value → H} {W : World} {base : Nat} {v : Value} {d : DataW H} {p : List MemPlace}
    (ho : Value.okWide Tryz.prog W .any base 37 v) (h : DataW.Trod enc Tryz.prog W 0 (fun _ => true) true 37 v d p) :
    ∃ (x : Prx) (pl : Option Addr) (nl dl : Nat), v = .agg #[.string x.s, .bool x.on, .int .i64 x.most, .slice pl nl dl] ∧ x.ts.length = nl ∧ nl ≤ dl ∧ dl ≤ maxLen ∧ ToxIn W pl nl x.ts ∧ Long14 x := by
  simp only [Value.okWide, Tryz.underlying37] at ho
  obtain ⟨cs, rfl, hs, _⟩ := ho
  rw [cellsPrx] at hs
  obtain ⟨l⟩ := cs
  obtain ⟨c0, c1, c2, c3, rfl⟩ : ∃ c0 c1 c2 c3, l = [c0, c1, c2, c3] := by
    match l, hs with
    | [c0, c1, c2, c3], _ => exact ⟨c0, c1, c2, c3, rfl⟩
  obtain ⟨fuel, hf⟩ := h
  obtain ⟨x, q, m, dd, t0, t1, t2, t3, t4, t5, t6, t7, t8⟩ := prx_in hf
  subst t0 t1 t2 t3
  exact ⟨x, q, m, dd, rfl, t4, t5, t6, t7, t8⟩
end Go.Proofs.YtmghkcjljnlocaaGreatDoor
