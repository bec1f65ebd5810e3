/-
  Contract: what the document's own Text of a toxic answers. Conditions: the name's length.
-/
import Derived.Test.YtmghkcjljnlocaaGreatDoorXP
import Derived.Deep.RegionHeld
namespace Go.Proofs.YtmghkcjljnlocaaGreatDoor.gx
open Go.RowKit

theorem quiet_left {P : Program} {f : FuncId} {args : Array Value} {w : World} {n : Nat} {v : Value} (h : Calls P f args (w.drewN n) fun e w' => e = .returned v ∧ w.drewN n = w') :
    Calls P f args (w.drewN n) fun e w'' => e = .returned v ∧ ∃ m, w'' = w.drewN m := h.mono fun _ _ ⟨he, hm⟩ => ⟨he, n, hm.symm⟩
theorem belowN (w : World) (m : Nat) : Below w.heap.size w (w.drewN m) := ⟨rfl, rfl, rfl, Nat.le_refl _, fun _ _ => rfl⟩
def wayB (up : Bool) : ByteArray := if up then ⟨#[32, 117, 112, 32]⟩ else ⟨#[32, 100, 111, 119, 110, 32]⟩
/-- A number's text. -/
def itB (n : Int) : ByteArray := ⟨(Lib.itoa (near n)).toArray⟩
theorem it_size (n : Int) : (itB n).size ≤ 13 := by
  have h := near_range n
  have := itoa_length (near n) h.1 h.2
  simpa [itB, ByteArray.size] using this
theorem word_size (k : Int) : (wordB k).size ≤ 10 := by
  unfold wordB wordL
  (repeat' split) <;> decide
theorem way_size (up : Bool) : (wayB up).size ≤ 6 := by cases up <;> decide
theorem cat_size (a b : ByteArray) : (a ++ b).size = a.size + b.size := ByteArray.size_append
/-- A sum of two texts. -/
theorem cat_run {a b c : ByteArray} (h : a ++ b = c) (ha : a.size ≤ 1100000) (hb : b.size ≤ 1100000) (w : World) : (Op.stringOp .add a b).run Tryz.prog w = .ok (.string c) w := by
  rw [← h]
  exact run_string_add w a b (by omega) (by omega)
def txt5 (s : ByteArray) (k : Int) (up : Bool) (o a : Int) : ByteArray := s ++ ⟨#[32]⟩ ++ wordB k ++ wayB up ++ itB o ++ ⟨#[32]⟩ ++ itB a
/-- A toxic's text. -/
def textB (s : ByteArray) (k : Int) (up : Bool) (o a b : Int) : ByteArray :=
  if checkB s k o a b = 0 then (if k ≤ 3 then txt5 s k up o a ++ ⟨#[32]⟩ ++ itB b else txt5 s k up o a) else ⟨#[]⟩
def Txt (s : ByteArray) (k : Int) (up : Bool) (o a b : Int) (w : World) (e : Ending) (w' : World) : Prop := e = .returned (.string (textB s k up o a b)) ∧ Below w.heap.size w w'
theorem box6 {w w1 : World} {g : Nat} {c0 c1 c2 c3 c4 c5 : Value} {T : TypeId} {fr : Nat × Nat} (h : w.heap[g]? = some (.cells #[c0, c1, c2, c3, c4, c5] T fr)) (hb : Below w.heap.size w w1) :
    w1.cell? ⟨g, 0, none⟩ = some c0 ∧ w1.cell? ⟨g, 1, none⟩ = some c1 ∧ w1.cell? ⟨g, 2, none⟩ = some c2 ∧ w1.cell? ⟨g, 3, none⟩ = some c3 ∧ w1.cell? ⟨g, 4, none⟩ = some c4 ∧ w1.cell? ⟨g, 5, none⟩ = some c5 := by
  have h1 := (hb.block _ (blk_lt h)).trans h
  exact ⟨cell_of_row _ _ 0 _ _ _ h1, cell_of_row _ _ 1 _ _ _ h1, cell_of_row _ _ 2 _ _ _ h1, cell_of_row _ _ 3 _ _ _ h1, cell_of_row _ _ 4 _ _ _ h1, cell_of_row _ _ 5 _ _ _ h1⟩
set_option maxRecDepth 100000 in
set_option maxHeartbeats 8000000 in
theorem rtoxic_any (s : ByteArray) (hs : s.size ≤ 1000000) (k : Int) (up : Bool) (o a b : Int) (w : World) : Calls Tryz.prog 37 #[.agg #[.string s, .int .i64 k, .bool up, .int .i64 o, .int .i64 a, .int .i64 b]] w (Txt s k up o a b w) := by
  unfold Txt
  have hal : Below w.heap.size w (w.alloc (.cells #[.string s, .int .i64 k, .bool up, .int .i64 o, .int .i64 a, .int .i64 b] 24)) := (Below.refl _ _).alloc (Nat.le_refl _) _
  have hblk := heap_alloc_new w (.cells #[.string s, .int .i64 k, .bool up, .int .i64 o, .int .i64 a, .int .i64 b] 24)
  have HB := Lib.hid hal
  have HK := Lib.hid hblk
  have HC := Lib.hid (fun W => rcheck_any s (by unfold maxLen; omega) k up o a b W)
  unfold Chk at HC
  obtain ⟨C, hC⟩ : ∃ C, checkB s k o a b = C := ⟨_, rfl⟩
  have HV := Lib.hid (show textB s k up o a b = if C = 0 then (if k ≤ 3 then txt5 s k up o a ++ ⟨#[32]⟩ ++ itB b else txt5 s k up o a) else ⟨#[]⟩ by unfold textB; rw [hC])
  rw [hC] at HC
  clear hal hblk hC
  by_cases hc0 : C = 0
  · have c0 : (C == 0) = true := by simpa using hc0
    have HV1 := Lib.hid (HV.out.trans (if_pos hc0))
    have HW := Lib.hid (fun W => rword_any k W)
    have HT := Lib.hid (fun n W => (show Calls Tryz.prog 36 #[.int .i64 n] W fun e w' => e = .returned (.string (itB n)) ∧ W = w' from rtext_any n W))
    have HX := Lib.hid (show txt5 s k up o a = s ++ ⟨#[32]⟩ ++ wordB k ++ wayB up ++ itB o ++ ⟨#[32]⟩ ++ itB a from rfl)
    have hw10 := word_size k
    have hy6 := way_size up
    have ho13 := it_size o
    have ha13 := it_size a
    have hb13 := it_size b
    have HTO := Lib.hid (fun W => HT.out o W)
    have HTA := Lib.hid (fun W => HT.out a W)
    have HTB := Lib.hid (fun W => HT.out b W)
    have h1 : (⟨#[32]⟩ : ByteArray).size = 1 := rfl
    obtain ⟨S1, e1⟩ : ∃ S1, s ++ ⟨#[32]⟩ = S1 := ⟨_, rfl⟩
    have z1 : S1.size = s.size + 1 := by rw [← e1, cat_size, h1]
    rw [e1] at HX
    obtain ⟨S2, e2⟩ : ∃ S2, S1 ++ wordB k = S2 := ⟨_, rfl⟩
    have z2 : S2.size = S1.size + (wordB k).size := by rw [← e2, cat_size]
    rw [e2] at HX
    obtain ⟨S3, e3⟩ : ∃ S3, S2 ++ wayB up = S3 := ⟨_, rfl⟩
    have z3 : S3.size = S2.size + (wayB up).size := by rw [← e3, cat_size]
    rw [e3] at HX
    obtain ⟨S4, e4⟩ : ∃ S4, S3 ++ itB o = S4 := ⟨_, rfl⟩
    have z4 : S4.size = S3.size + (itB o).size := by rw [← e4, cat_size]
    rw [e4] at HX
    obtain ⟨S5, e5⟩ : ∃ S5, S4 ++ ⟨#[32]⟩ = S5 := ⟨_, rfl⟩
    have z5 : S5.size = S4.size + 1 := by rw [← e5, cat_size, h1]
    rw [e5] at HX
    obtain ⟨S6, e6⟩ : ∃ S6, S5 ++ itB a = S6 := ⟨_, rfl⟩
    have z6 : S6.size = S5.size + (itB a).size := by rw [← e6, cat_size]
    rw [e6] at HX
    obtain ⟨S7, e7⟩ : ∃ S7, S6 ++ ⟨#[32]⟩ = S7 := ⟨_, rfl⟩
    have z7 : S7.size = S6.size + 1 := by rw [← e7, cat_size, h1]
    obtain ⟨S8, e8⟩ : ∃ S8, S7 ++ itB b = S8 := ⟨_, rfl⟩
    have r1 := fun W => cat_run e1 (by omega) (by omega) W
    have r2 := fun W => cat_run e2 (by omega) (by omega) W
    have r3 := fun W => cat_run e3 (by omega) (by omega) W
    have r4 := fun W => cat_run e4 (by omega) (by omega) W
    have r5 := fun W => cat_run e5 (by omega) (by omega) W
    have r6 := fun W => cat_run e6 (by omega) (by omega) W
    have r7 := fun W => cat_run e7 (by omega) (by omega) W
    have r8 := fun W => cat_run e8 (by omega) (by omega) W
    have HX7 := Lib.hid (show txt5 s k up o a ++ ⟨#[32]⟩ ++ itB b = S8 by rw [HX.out, e7, e8])
    clear e1 e2 e3 e4 e5 e6 e7 e8 z1 z2 z3 z4 z5 z6 z7 hw10 hy6 ho13 ha13 hb13 h1
    have HWY := Lib.hid (show (wayB true = ⟨#[32, 117, 112, 32]⟩) ∧ wayB false = ⟨#[32, 100, 111, 119, 110, 32]⟩ from ⟨rfl, rfl⟩)
    generalize wordB k = wk at HW r2
    generalize itB o = to at HTO r4
    generalize itB a = ta at HTA r6
    generalize itB b = tb at HTB r8 HX7 HV1
    clear hc0 HV HT
    cases up with
    | true =>
      rw [HWY.out.1] at r3
      go_enter Tryz.func37, Tryz.ntmps37
      go_wp2_with fail
      generalize w.alloc (.cells #[.string s, .int .i64 k, .bool true, .int .i64 o, .int .i64 a, .int .i64 b] 24) = w1 at *
      refine (HC.out _).mono ?_
      rintro e w2 ⟨rfl, hb⟩
      have HB2 := Lib.hid (seqB HB.out hb)
      obtain ⟨x0, x1, x2, x3, x4, x5⟩ := box6 HK.out hb
      clear hb
      go_wp2_with fail
      have HCL := Lib.hid (show w2.drew.cell? ⟨w.heap.size, 0, none⟩ = some (.string s) ∧ w2.drew.cell? ⟨w.heap.size, 1, none⟩ = some (.int .i64 k) ∧ w2.drew.cell? ⟨w.heap.size, 3, none⟩ = some (.int .i64 o) ∧ w2.drew.cell? ⟨w.heap.size, 4, none⟩ = some (.int .i64 a) from ⟨x0, x1, x3, x4⟩)
      have y1 : w2.drew.cell? ⟨w.heap.size, 1, none⟩ = some (.int .i64 k) := x1
      have y5 : w2.drew.cell? ⟨w.heap.size, 5, none⟩ = some (.int .i64 b) := x5
      have HE := Lib.hid (seqB HB2.out (Below.refl _ w2).drew)
      go_region_held (fun W => W.cell? ⟨w.heap.size, 0, none⟩ = some (.string s) ∧ W.cell? ⟨w.heap.size, 1, none⟩ = some (.int .i64 k) ∧ W.cell? ⟨w.heap.size, 3, none⟩ = some (.int .i64 o) ∧ W.cell? ⟨w.heap.size, 4, none⟩ = some (.int .i64 a))
        (first
          | exact HCL.out
          | with_reducible assumption)
        (first
          | (go_at_call 74; (with_reducible refine Calls.mono (HW.out _) ?_); rintro e w' ⟨rfl, rfl⟩)
          | (go_at_call 36; (with_reducible refine Calls.mono (HTO.out _) ?_); rintro e w' ⟨rfl, rfl⟩)
          | (go_at_call 36; (with_reducible refine Calls.mono (HTA.out _) ?_); rintro e w' ⟨rfl, rfl⟩))
      by_cases hk : k ≤ 3
      · have k3 : decide (k ≤ 3) = true := by simpa using hk
        have HV2 := Lib.hid (HV1.out.trans (if_pos hk))
        go_wp2_with fail
        refine (HTB.out _).mono ?_
        rintro e w' ⟨rfl, rfl⟩
        go_wp2_with fail
        go_ret
        exact ⟨ret_strB (by rw [HV2.out, HX7.out]), HE.out⟩
      · have k3 : decide (k ≤ 3) = false := by simpa using hk
        have HV2 := Lib.hid (HV1.out.trans (if_neg hk))
        go_wp2_with fail
        go_ret
        exact ⟨ret_strB (by rw [HV2.out, HX.out]), HE.out⟩
    | false =>
      rw [HWY.out.2] at r3
      go_enter Tryz.func37, Tryz.ntmps37
      go_wp2_with fail
      generalize w.alloc (.cells #[.string s, .int .i64 k, .bool false, .int .i64 o, .int .i64 a, .int .i64 b] 24) = w1 at *
      refine (HC.out _).mono ?_
      rintro e w2 ⟨rfl, hb⟩
      have HB2 := Lib.hid (seqB HB.out hb)
      obtain ⟨x0, x1, x2, x3, x4, x5⟩ := box6 HK.out hb
      clear hb
      go_wp2_with fail
      have HCL := Lib.hid (show w2.drew.cell? ⟨w.heap.size, 0, none⟩ = some (.string s) ∧ w2.drew.cell? ⟨w.heap.size, 1, none⟩ = some (.int .i64 k) ∧ w2.drew.cell? ⟨w.heap.size, 3, none⟩ = some (.int .i64 o) ∧ w2.drew.cell? ⟨w.heap.size, 4, none⟩ = some (.int .i64 a) from ⟨x0, x1, x3, x4⟩)
      have y1 : w2.drew.cell? ⟨w.heap.size, 1, none⟩ = some (.int .i64 k) := x1
      have y5 : w2.drew.cell? ⟨w.heap.size, 5, none⟩ = some (.int .i64 b) := x5
      have HE := Lib.hid (seqB HB2.out (Below.refl _ w2).drew)
      go_region_held (fun W => W.cell? ⟨w.heap.size, 0, none⟩ = some (.string s) ∧ W.cell? ⟨w.heap.size, 1, none⟩ = some (.int .i64 k) ∧ W.cell? ⟨w.heap.size, 3, none⟩ = some (.int .i64 o) ∧ W.cell? ⟨w.heap.size, 4, none⟩ = some (.int .i64 a))
        (first
          | exact HCL.out
          | with_reducible assumption)
        (first
          | (go_at_call 74; (with_reducible refine Calls.mono (HW.out _) ?_); rintro e w' ⟨rfl, rfl⟩)
          | (go_at_call 36; (with_reducible refine Calls.mono (HTO.out _) ?_); rintro e w' ⟨rfl, rfl⟩)
          | (go_at_call 36; (with_reducible refine Calls.mono (HTA.out _) ?_); rintro e w' ⟨rfl, rfl⟩))
      by_cases hk : k ≤ 3
      · have k3 : decide (k ≤ 3) = true := by simpa using hk
        have HV2 := Lib.hid (HV1.out.trans (if_pos hk))
        go_wp2_with fail
        refine (HTB.out _).mono ?_
        rintro e w' ⟨rfl, rfl⟩
        go_wp2_with fail
        go_ret
        exact ⟨ret_strB (by rw [HV2.out, HX7.out]), HE.out⟩
      · have k3 : decide (k ≤ 3) = false := by simpa using hk
        have HV2 := Lib.hid (HV1.out.trans (if_neg hk))
        go_wp2_with fail
        go_ret
        exact ⟨ret_strB (by rw [HV2.out, HX.out]), HE.out⟩
  · have c0 : (C == 0) = false := by simpa using hc0
    have HV1 := Lib.hid (HV.out.trans (if_neg hc0))
    clear hc0 HV
    go_enter Tryz.func37, Tryz.ntmps37
    go_wp2_with fail
    refine (HC.out _).mono ?_
    rintro e w2 ⟨rfl, hb⟩
    have HE := Lib.hid (seqB HB.out hb)
    clear hb
    go_wp2_with fail
    go_ret
    exact ⟨ret_strB HV1.out.symm, HE.out⟩
end Go.Proofs.YtmghkcjljnlocaaGreatDoor.gx
