/-
  Contract: Lines. Conditions: the names' lengths, the table of digits.
-/
import Derived.Test.YtmghkcjljnlocaaGreatDoorPF
import Derived.Test.YtmghkcjljnlocaaGreatDoorXW7
namespace Go.Proofs.YtmghkcjljnlocaaGreatDoor
open Go.RowKit
def signP (on : Bool) : ByteArray := if on then ⟨#[111, 110]⟩ else ⟨#[111, 102, 102]⟩
def headP (p : Prx) : ByteArray := p.s ++ ⟨#[32]⟩ ++ signP p.on ++ ⟨#[32]⟩ ++ gx.itB p.most ++ ⟨#[32]⟩ ++ gx.itB (p.ts.length : Int)
def textT (t : Tox) : ByteArray := gx.textB t.s t.k t.up t.o t.a t.b
def linesP (p : Prx) : List ByteArray := if Nm.chkP p ≠ 0 then [] else headP p :: p.ts.map textT
theorem join4 (a b c e : ByteArray) : (⟨(Lib.join ([a, b, c, e].map (·.data.toList)) (⟨#[32]⟩ : ByteArray).data.toList).toArray⟩ : ByteArray) = a ++ ⟨#[32]⟩ ++ b ++ ⟨#[32]⟩ ++ c ++ ⟨#[32]⟩ ++ e := by
  apply ByteArray.ext
  apply Array.ext'
  simp [Lib.join_cons, Lib.joinTail]
theorem row4 (w : World) (B : Nat) (hB : B ≤ w.heap.size) (a b c e : ByteArray) : gx.Strs (w.alloc (.cells #[.string a, .string b, .string c, .string e] 9)) B (some ⟨w.heap.size, 0, none⟩) 4 4 [a, b, c, e] :=
  ⟨rfl, Or.inr ⟨w.heap.size, 4, _, rfl, hB, heap_alloc_new w _, Nat.le_refl _, by unfold maxLen; omega, rfl, rfl⟩⟩
theorem row1 (w : World) (B : Nat) (hB : B ≤ w.heap.size) (a : ByteArray) : gx.Strs (w.alloc (.cells #[.string a] 9)) B (some ⟨w.heap.size, 0, none⟩) 1 1 [a] :=
  ⟨rfl, Or.inr ⟨w.heap.size, 1, _, rfl, hB, heap_alloc_new w _, Nat.le_refl _, by unfold maxLen; omega, rfl, rfl⟩⟩
theorem name_small {s : ByteArray} (h : gx.nameB s = true) : s.size ≤ 16 := by
  unfold gx.nameB at h
  rw [Bool.and_eq_true, decide_eq_true_eq] at h
  exact h.2.2
theorem tox_small {t : Tox} (h : t.chk = 0) : t.s.size ≤ 16 := by
  cases hn : gx.nameB t.s with
  | true => exact name_small hn
  | false =>
    unfold Tox.chk gx.checkB at h
    rw [if_pos hn] at h
    exact absurd h (by decide)
/-- Texts of the call's own are handed back. -/
def OutX (l : List ByteArray) (w : World) (e : Ending) (w' : World) : Prop := ∃ q m d, e = .returned (.slice q m d) ∧ gx.Strs w' w.heap.size q m d l ∧ Below w.heap.size w w'
theorem sign_size (on : Bool) : (signP on).size ≤ 3 := by cases on <;> decide
set_option maxRecDepth 100000 in
set_option maxHeartbeats 8000000 in
theorem lines_any (s : ByteArray) (on : Bool) (most : Int) (q : Option Addr) (m d : Nat) (ts : List Tox) (w : World) (hs : s.size ≤ maxLen) (hl : ts.length = m) (hmd : m ≤ d) (hm1 : m ≤ 1000000) (hz : ∀ t ∈ ts, t.s.size ≤ maxLen) (hi : ToxIn w q m ts) (htab : gx.Tab w) :
    Calls Tryz.prog 17 #[.agg #[.string s, .bool on, .int .i64 most, .slice q m d]] w (OutX (linesP ⟨s, on, most, ts⟩) w) := by
  obtain ⟨w1, hw1⟩ : ∃ w1, w.alloc (.cells #[.string s, .bool on, .int .i64 most, .slice q m d] TP) = w1 := ⟨_, rfl⟩
  have hb1 : Below w.heap.size w w1 := by rw [← hw1]; exact (Below.refl _ _).alloc (Nat.le_refl _) _
  have h1 : w1.heap[w.heap.size]? = some (.cells #[.string s, .bool on, .int .i64 most, .slice q m d] TP (0, 0)) := by rw [← hw1]; exact heap_alloc_new _ _
  have HC := Lib.hid (chkp_any s on most q m d ts w1 hs hl hmd hm1 hz (toxs_on hi hb1))
  have HX := Lib.hid (show linesP ⟨s, on, most, ts⟩ = if Nm.chkP ⟨s, on, most, ts⟩ ≠ 0 then [] else headP ⟨s, on, most, ts⟩ :: ts.map textT from rfl)
  have HOK := Lib.hid (fun (h : Nm.chkP ⟨s, on, most, ts⟩ = 0) => (Nm.chkP_iff _).1 h)
  generalize Nm.chkP ⟨s, on, most, ts⟩ = C at *
  have H1 := Lib.hid h1
  have HW := Lib.hid hw1
  have HB := Lib.hid hb1
  have HI := Lib.hid (toxs_on hi hb1)
  have HL := Lib.hid hl
  have HT := Lib.hid (gx.tab_on htab hb1)
  have HI0 := Lib.hid hi
  have HT0 := Lib.hid htab
  have c0 := cell_of_row _ _ 0 _ _ _ h1
  have c1 := cell_of_row _ _ 1 _ _ _ h1
  have c2 := cell_of_row _ _ 2 _ _ _ h1
  have c3 := cell_of_row _ _ 3 _ _ _ h1
  rw [← hw1] at c0 c1 c2 c3
  clear hi hl hz hb1 h1 htab hw1
  go_enter Tryz.func17, Tryz.ntmps17
  go_wp2_with fail
  rw [HW.out]
  refine HC.out.mono ?_
  rintro e w2 ⟨rfl, hb⟩
  have HB2 := Lib.hid (seqB HB.out hb)
  have H2 := Lib.hid ((hb.block _ (gc.blk_lt H1.out)).trans H1.out)
  have HI2 := Lib.hid (toxs_on HI.out hb)
  have HT2 := Lib.hid (gx.tab_on HT.out hb)
  clear hb HC HI HT c0 c1 c2 c3
  by_cases hC0 : C = 0
  · have hx := HX.out
    subst hC0
    rw [if_neg (by simp)] at hx
    have HXX := Lib.hid hx
    obtain ⟨hnm, hm0, hm16, hts8, htc, _⟩ := HOK.out (by first | rfl | trivial)
    have hss := name_small hnm
    have HTC := Lib.hid htc
    have hts8 : ts.length ≤ 8 := hts8
    have hm8 : m ≤ 8 := by rw [← HL.out]; exact hts8
    clear hx HX HOK hnm htc hts8 hm0 hm16
    have HT1 := Lib.hid (fun W (hW : Hid (Below w2.heap.size w2 W)) => gx.text_any most W (gx.tab_on HT2.out hW.out))
    have HT3 := Lib.hid (fun W (hW : Hid (Below w2.heap.size w2 W)) => gx.text_any (m : Int) W (gx.tab_on HT2.out hW.out))
    have e1 : (⟨(Lib.itoa (gx.near most)).toArray⟩ : ByteArray) = gx.itB most := rfl
    have e2 : (⟨(Lib.itoa (gx.near (m : Int))).toArray⟩ : ByteArray) = gx.itB (m : Int) := rfl
    rw [e1] at HT1
    rw [e2] at HT3
    have i1 := gx.it_size most
    have i2 := gx.it_size (m : Int)
    obtain ⟨ta, hta⟩ : ∃ ta, gx.itB most = ta := ⟨_, rfl⟩
    obtain ⟨tb, htb⟩ : ∃ tb, gx.itB (m : Int) = tb := ⟨_, rfl⟩
    rw [hta] at HT1 i1
    rw [htb] at HT3 i2
    have HHD := Lib.hid (show headP ⟨s, on, most, ts⟩ = s ++ ⟨#[32]⟩ ++ signP on ++ ⟨#[32]⟩ ++ ta ++ ⟨#[32]⟩ ++ tb from by unfold headP; rw [← hta, ← htb, ← HL.out])
    have HQ := Lib.hid (show ∀ W, Below w2.heap.size w2 W → W.cell? ⟨w.heap.size, 0, none⟩ = some (.string s) ∧ W.cell? ⟨w.heap.size, 2, none⟩ = some (.int .i64 most) ∧ W.cell? ⟨w.heap.size, 3, none⟩ = some (.slice q m d) ∧ Hid (Below w2.heap.size w2 W) from fun W hW => by
      have h := (hW.block _ (gc.blk_lt H2.out)).trans H2.out
      exact ⟨cell_of_row _ _ 0 _ _ _ h, cell_of_row _ _ 2 _ _ _ h, cell_of_row _ _ 3 _ _ _ h, Lib.hid hW⟩)
    have HQ2 := Lib.hid (show ∀ W W', Hid (Below w2.heap.size w2 W) → Below W.heap.size W W' → W'.cell? ⟨w.heap.size, 0, none⟩ = some (.string s) ∧ W'.cell? ⟨w.heap.size, 2, none⟩ = some (.int .i64 most) ∧ W'.cell? ⟨w.heap.size, 3, none⟩ = some (.slice q m d) ∧ Hid (Below w2.heap.size w2 W') from fun W W' h1 h2 => HQ.out W' (seqB h1.out h2))
    have c1 := cell_of_row _ _ 1 _ _ _ H2.out
    clear hta htb e1 e2
    cases on with
    | true =>
      have HSG := Lib.hid (show signP true = (⟨#[111, 110]⟩ : ByteArray) from rfl)
      go_wp2_with fail
      clear c1
      go_region_held (fun W => W.cell? ⟨w.heap.size, 0, none⟩ = some (.string s) ∧ W.cell? ⟨w.heap.size, 2, none⟩ = some (.int .i64 most) ∧ W.cell? ⟨w.heap.size, 3, none⟩ = some (.slice q m d) ∧ Hid (Below w2.heap.size w2 W))
        (first
          | exact HQ.out _ (Below.refl _ _).drew
          | with_reducible assumption
          | (go_split_ands; refine HQ2.out _ _ ?_ ((Below.refl _ _).alloc (Nat.le_refl _) _); assumption))
        (first
          | (go_at_call 33; go_split_ands; (with_reducible refine Calls.mono (HT1.out _ (by assumption)) ?_); rintro e w' ⟨rfl, hb⟩; (have hS := HQ2.out _ _ (by assumption) hb); clear hb)
          | (go_at_call 33; go_split_ands; (with_reducible refine Calls.mono (HT3.out _ (by assumption)) ?_); rintro e w' ⟨rfl, hb⟩; (have hS := HQ2.out _ _ (by assumption) hb); clear hb))
      have HD := Lib.hid (show Below w2.heap.size w2 w' from hS.2.2.2.out)
      clear hS HT1 HT3 HQ HQ2
      have HBW := Lib.hid (seqB HB2.out HD.out)
      have hal : Below w'.heap.size w' (w'.alloc (.cells #[.string s, .string (⟨#[111, 110]⟩ : ByteArray), .string ta, .string tb] 9)) := (Below.refl _ _).alloc (Nat.le_refl _) _
      have HB5 := Lib.hid (seqB HBW.out hal)
      have HD5 := Lib.hid (seqB HD.out hal)
      have HO5 := Lib.hid (row4 w' w.heap.size HBW.out.size s (⟨#[111, 110]⟩ : ByteArray) ta tb)
      clear hal HD
      generalize w'.alloc (.cells #[.string s, .string (⟨#[111, 110]⟩ : ByteArray), .string ta, .string tb] 9) = w5 at *
      generalize w'.heap.size = r5 at *
      have HJ := Lib.hid (gx.join_strs (n := 1000) HO5.out (by decide) (fun x hx => by
        simp only [List.mem_cons, List.not_mem_nil, or_false] at hx
        rcases hx with rfl | rfl | rfl | rfl
        · omega
        · decide
        · omega
        · omega) (by decide))
      go_wp2_with fail
      refine HJ.out.mono ?_
      rintro e w6 ⟨rfl, hb⟩
      rw [join4]
      have HB6 := Lib.hid (seqB HB5.out hb)
      have HD6 := Lib.hid (seqB HD5.out hb)
      have HEH := Lib.hid (HHD.out.trans (by rw [HSG.out]))
      generalize s ++ ⟨#[32]⟩ ++ (⟨#[111, 110]⟩ : ByteArray) ++ ⟨#[32]⟩ ++ ta ++ ⟨#[32]⟩ ++ tb = H at *
      clear hb HJ HO5 HB5 HD5
      have hal : Below w6.heap.size w6 (w6.alloc (.cells #[.string H] 9)) := (Below.refl _ _).alloc (Nat.le_refl _) _
      have HB7 := Lib.hid (seqB HB6.out hal)
      have HO7 := Lib.hid (row1 w6 w.heap.size HB6.out.size H)
      have h7 := (hal.block _ (gc.blk_lt ((HD6.out.block _ (gc.blk_lt H2.out)).trans H2.out))).trans ((HD6.out.block _ (gc.blk_lt H2.out)).trans H2.out)
      have c3 := cell_of_row _ _ 3 _ _ _ h7
      clear hal h7 HI2 HT2 HD6 H2
      go_wp2_with fail
      generalize w6.alloc (.cells #[.string H] 9) = w7 at *
      generalize w6.heap.size = g7 at *
      clear c3
      go_loopw [5, 7, 30] (fun x _ i wr => ∃ k : Nat, k ≤ m ∧ i = .int .i64 k ∧ ∃ q c, x = .slice q (k + 1) c ∧ Hid (gx.Strs wr w.heap.size q (k + 1) c (H :: (ts.take k).map textT)) ∧ Hid (Below w.heap.size w wr)) (fun _ _ i _ => m - (intOf i).toNat)
      case atStart => exact ⟨0, by omega, rfl, _, _, rfl, HO7, HB7⟩
      case round =>
        clear HO7 HB7
        obtain ⟨k, hk, rfl, qs, cs, rfl, HO, HBk⟩ := hrel
        by_cases hlt : k < m
        · obtain ⟨b, o, rfl, hc⟩ := toxs_on HI0.out HBk.out (by omega)
          obtain ⟨e0, e1, e2, e3, e4, e5⟩ := hc k hlt
          rw [← Nat.add_assoc] at e1 e2 e3 e4 e5
          have hkl : k < ts.length := by rw [HL.out]; exact hlt
          have hg : ts.getD k noTox = ts[k] := getD_at _ _ hkl
          have htk := HTC.out (ts.getD k noTox) (by rw [hg]; exact List.getElem_mem _)
          have HTT := Lib.hid (show (ts.take (k + 1)).map textT = (ts.take k).map textT ++ [textT (ts.getD k noTox)] from by rw [hg, List.take_succ_eq_append_getElem hkl, List.map_append]; rfl)
          have htz := tox_small htk
          generalize ts.getD k noTox = tx at *
          obtain ⟨us, uk, uu, uo, ua, ub⟩ := tx
          simp only at e0 e1 e2 e3 e4 e5 htz
          obtain ⟨w8, hw8⟩ : ∃ w8, wr.alloc (.cells #[.string us, .int .i64 uk, .bool uu, .int .i64 uo, .int .i64 ua, .int .i64 ub] TT) = w8 := ⟨_, rfl⟩
          have b8 : Below wr.heap.size wr w8 := by rw [← hw8]; exact (Below.refl _ _).alloc (Nat.le_refl _) _
          have HTX := Lib.hid (gx.toxic_any us (by omega) uk uu uo ua ub w8 (gx.tab_on HT0.out (seqB HBk.out b8)))
          unfold gx.Txt at HTX
          have ett : textT ⟨us, uk, uu, uo, ua, ub⟩ = gx.textB us uk uu uo ua ub := rfl
          rw [ett] at HTT
          generalize gx.textB us uk uu uo ua ub = tt at *
          have HH8 := Lib.hid hw8
          have HB8 := Lib.hid (seqB HBk.out b8)
          have HO8 := Lib.hid (gx.own_on HO.out b8)
          clear hc hkl hg htk htz b8 hw8 ett HO HBk
          go_wp2_with fail
          rw [HH8.out]
          refine HTX.out.mono ?_
          rintro e w9 ⟨rfl, hb⟩
          obtain ⟨q2, d2, wA, r1, r2, r3⟩ := gx.app_str (gx.own_on HO8.out hb) (seqB HB8.out hb).size (seqB HB8.out hb) (by omega) tt
          have hlen : (H :: (ts.take k).map textT) ++ [tt] = H :: (ts.take (k + 1)).map textT := by rw [HTT.out]; rfl
          rw [hlen] at r2
          have HR := Lib.hid r1
          have HOA := Lib.hid r2
          have HBA := Lib.hid r3
          clear hb r1 r2 r3 hlen e0 e1 e2 e3 e4 e5 HTX HH8 HO8 HTT
          go_wp2_with (at_builtin; refine Lib.wpList_append_run _ rfl _ _ _ _ rfl (.slice qs (k + 1) cs) (.slice (some ⟨w9.heap.size, 0, none⟩) 1 1) rfl rfl _ _ (HR.out _) ?_)
          go_roundw
          case rel => exact ⟨k + 1, by omega, by go_num, q2, d2, rfl, HOA, HBA⟩
          case measure => simp [intOf]; omega
        · obtain rfl : k = m := by omega
          have HE := Lib.hid (show ts.take k = ts from List.take_of_length_le (by rw [HL.out]; exact Nat.le_refl _))
          go_wp2_with fail
          go_ret
          exact ⟨qs, k + 1, cs, rfl, by have h := HO.out; rw [HE.out] at h; rw [HXX.out, HEH.out]; exact h, HBk.out⟩
    | false =>
      have HSG := Lib.hid (show signP false = (⟨#[111, 102, 102]⟩ : ByteArray) from rfl)
      go_wp2_with fail
      clear c1
      go_region_held (fun W => W.cell? ⟨w.heap.size, 0, none⟩ = some (.string s) ∧ W.cell? ⟨w.heap.size, 2, none⟩ = some (.int .i64 most) ∧ W.cell? ⟨w.heap.size, 3, none⟩ = some (.slice q m d) ∧ Hid (Below w2.heap.size w2 W))
        (first
          | exact HQ.out _ (Below.refl _ _).drew
          | with_reducible assumption
          | (go_split_ands; refine HQ2.out _ _ ?_ ((Below.refl _ _).alloc (Nat.le_refl _) _); assumption))
        (first
          | (go_at_call 33; go_split_ands; (with_reducible refine Calls.mono (HT1.out _ (by assumption)) ?_); rintro e w' ⟨rfl, hb⟩; (have hS := HQ2.out _ _ (by assumption) hb); clear hb)
          | (go_at_call 33; go_split_ands; (with_reducible refine Calls.mono (HT3.out _ (by assumption)) ?_); rintro e w' ⟨rfl, hb⟩; (have hS := HQ2.out _ _ (by assumption) hb); clear hb))
      have HD := Lib.hid (show Below w2.heap.size w2 w' from hS.2.2.2.out)
      clear hS HT1 HT3 HQ HQ2
      have HBW := Lib.hid (seqB HB2.out HD.out)
      have hal : Below w'.heap.size w' (w'.alloc (.cells #[.string s, .string (⟨#[111, 102, 102]⟩ : ByteArray), .string ta, .string tb] 9)) := (Below.refl _ _).alloc (Nat.le_refl _) _
      have HB5 := Lib.hid (seqB HBW.out hal)
      have HD5 := Lib.hid (seqB HD.out hal)
      have HO5 := Lib.hid (row4 w' w.heap.size HBW.out.size s (⟨#[111, 102, 102]⟩ : ByteArray) ta tb)
      clear hal HD
      generalize w'.alloc (.cells #[.string s, .string (⟨#[111, 102, 102]⟩ : ByteArray), .string ta, .string tb] 9) = w5 at *
      generalize w'.heap.size = r5 at *
      have HJ := Lib.hid (gx.join_strs (n := 1000) HO5.out (by decide) (fun x hx => by
        simp only [List.mem_cons, List.not_mem_nil, or_false] at hx
        rcases hx with rfl | rfl | rfl | rfl
        · omega
        · decide
        · omega
        · omega) (by decide))
      go_wp2_with fail
      refine HJ.out.mono ?_
      rintro e w6 ⟨rfl, hb⟩
      rw [join4]
      have HB6 := Lib.hid (seqB HB5.out hb)
      have HD6 := Lib.hid (seqB HD5.out hb)
      have HEH := Lib.hid (HHD.out.trans (by rw [HSG.out]))
      generalize s ++ ⟨#[32]⟩ ++ (⟨#[111, 102, 102]⟩ : ByteArray) ++ ⟨#[32]⟩ ++ ta ++ ⟨#[32]⟩ ++ tb = H at *
      clear hb HJ HO5 HB5 HD5
      have hal : Below w6.heap.size w6 (w6.alloc (.cells #[.string H] 9)) := (Below.refl _ _).alloc (Nat.le_refl _) _
      have HB7 := Lib.hid (seqB HB6.out hal)
      have HO7 := Lib.hid (row1 w6 w.heap.size HB6.out.size H)
      have h7 := (hal.block _ (gc.blk_lt ((HD6.out.block _ (gc.blk_lt H2.out)).trans H2.out))).trans ((HD6.out.block _ (gc.blk_lt H2.out)).trans H2.out)
      have c3 := cell_of_row _ _ 3 _ _ _ h7
      clear hal h7 HI2 HT2 HD6 H2
      go_wp2_with fail
      generalize w6.alloc (.cells #[.string H] 9) = w7 at *
      generalize w6.heap.size = g7 at *
      clear c3
      go_loopw [5, 7, 30] (fun x _ i wr => ∃ k : Nat, k ≤ m ∧ i = .int .i64 k ∧ ∃ q c, x = .slice q (k + 1) c ∧ Hid (gx.Strs wr w.heap.size q (k + 1) c (H :: (ts.take k).map textT)) ∧ Hid (Below w.heap.size w wr)) (fun _ _ i _ => m - (intOf i).toNat)
      case atStart => exact ⟨0, by omega, rfl, _, _, rfl, HO7, HB7⟩
      case round =>
        clear HO7 HB7
        obtain ⟨k, hk, rfl, qs, cs, rfl, HO, HBk⟩ := hrel
        by_cases hlt : k < m
        · obtain ⟨b, o, rfl, hc⟩ := toxs_on HI0.out HBk.out (by omega)
          obtain ⟨e0, e1, e2, e3, e4, e5⟩ := hc k hlt
          rw [← Nat.add_assoc] at e1 e2 e3 e4 e5
          have hkl : k < ts.length := by rw [HL.out]; exact hlt
          have hg : ts.getD k noTox = ts[k] := getD_at _ _ hkl
          have htk := HTC.out (ts.getD k noTox) (by rw [hg]; exact List.getElem_mem _)
          have HTT := Lib.hid (show (ts.take (k + 1)).map textT = (ts.take k).map textT ++ [textT (ts.getD k noTox)] from by rw [hg, List.take_succ_eq_append_getElem hkl, List.map_append]; rfl)
          have htz := tox_small htk
          generalize ts.getD k noTox = tx at *
          obtain ⟨us, uk, uu, uo, ua, ub⟩ := tx
          simp only at e0 e1 e2 e3 e4 e5 htz
          obtain ⟨w8, hw8⟩ : ∃ w8, wr.alloc (.cells #[.string us, .int .i64 uk, .bool uu, .int .i64 uo, .int .i64 ua, .int .i64 ub] TT) = w8 := ⟨_, rfl⟩
          have b8 : Below wr.heap.size wr w8 := by rw [← hw8]; exact (Below.refl _ _).alloc (Nat.le_refl _) _
          have HTX := Lib.hid (gx.toxic_any us (by omega) uk uu uo ua ub w8 (gx.tab_on HT0.out (seqB HBk.out b8)))
          unfold gx.Txt at HTX
          have ett : textT ⟨us, uk, uu, uo, ua, ub⟩ = gx.textB us uk uu uo ua ub := rfl
          rw [ett] at HTT
          generalize gx.textB us uk uu uo ua ub = tt at *
          have HH8 := Lib.hid hw8
          have HB8 := Lib.hid (seqB HBk.out b8)
          have HO8 := Lib.hid (gx.own_on HO.out b8)
          clear hc hkl hg htk htz b8 hw8 ett HO HBk
          go_wp2_with fail
          rw [HH8.out]
          refine HTX.out.mono ?_
          rintro e w9 ⟨rfl, hb⟩
          obtain ⟨q2, d2, wA, r1, r2, r3⟩ := gx.app_str (gx.own_on HO8.out hb) (seqB HB8.out hb).size (seqB HB8.out hb) (by omega) tt
          have hlen : (H :: (ts.take k).map textT) ++ [tt] = H :: (ts.take (k + 1)).map textT := by rw [HTT.out]; rfl
          rw [hlen] at r2
          have HR := Lib.hid r1
          have HOA := Lib.hid r2
          have HBA := Lib.hid r3
          clear hb r1 r2 r3 hlen e0 e1 e2 e3 e4 e5 HTX HH8 HO8 HTT
          go_wp2_with (at_builtin; refine Lib.wpList_append_run _ rfl _ _ _ _ rfl (.slice qs (k + 1) cs) (.slice (some ⟨w9.heap.size, 0, none⟩) 1 1) rfl rfl _ _ (HR.out _) ?_)
          go_roundw
          case rel => exact ⟨k + 1, by omega, by go_num, q2, d2, rfl, HOA, HBA⟩
          case measure => simp [intOf]; omega
        · obtain rfl : k = m := by omega
          have HE := Lib.hid (show ts.take k = ts from List.take_of_length_le (by rw [HL.out]; exact Nat.le_refl _))
          go_wp2_with fail
          go_ret
          exact ⟨qs, k + 1, cs, rfl, by have h := HO.out; rw [HE.out] at h; rw [HXX.out, HEH.out]; exact h, HBk.out⟩
  · have hx := HX.out
    rw [if_pos hC0] at hx
    have HXX := Lib.hid hx
    have d4 : (C != 0) = true := by simpa using hC0
    have d5 : decide (C = 0) = false := by simpa using hC0
    clear hx HX HOK hC0
    go_wp2_with fail
    go_ret
    exact ⟨none, 0, 0, rfl, by rw [HXX.out]; exact ⟨rfl, Or.inl ⟨rfl, rfl⟩⟩, HB2.out⟩
end Go.Proofs.YtmghkcjljnlocaaGreatDoor
