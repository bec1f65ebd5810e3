/-
  Contracts: alarms beside their row in order: Move, When, Next, Len. Conditions: as each states.
-/
import Derived.Test.YtpohfcjmjfhdoaaW7
namespace Go.Proofs.Ytpohfcjmjfhdoaa
open Go.RowKit Go.Sort Go.Maps

def moveL (L : List Due) (id a : Int) : List Due := if isIn L id = true ∧ rightB a = true then putD (L.eraseIdx (findN L id)) (a, id) else L
theorem move_len (L : List Due) (id a : Int) : (moveL L id a).length = L.length := by
  unfold moveL
  split
  · rename_i h
    have h1 : findN L id < L.length := by simpa [isIn] using h.1
    rw [put_length, List.length_eraseIdx, if_pos h1]
    omega
  · rfl
set_option maxHeartbeats 4000000 in
set_option maxRecDepth 10000 in
theorem move_al {w : World} {base g : Nat} {u : Option Nat} {m : Nat} {L : List Due} {last : Int} (h : Al w base g u m L last) {id a : Int} (hi : -9223372036854775808 ≤ id ∧ id ≤ 9223372036854775807) :
    Calls Try.prog 24 #[.pointer (some ⟨g, 0, none⟩), .int .i64 id, .int .i64 a] w fun e w' => e = .returned (.bool (isIn L id && rightB a)) ∧ Put w base g u m (moveL L id a) last w' := by
  obtain ⟨s, hM, hL⟩ := h.ex
  obtain ⟨c1, hrun⟩ := al_look hM hL hi
  have hlen := len_int h.cnt h.top
  have HRi := Lib.hid (fun W => right_code a W)
  cases hp : s.pl id with
  | none =>
    have hno : isIn L id = false := by simpa [isIn] using hL.gone hp
    rw [hp, hno] at hrun
    have e1 : moveL L id a = L := by unfold moveL; rw [if_neg (by simp [hno])]
    rw [hno, e1, Bool.false_and]
    rw [show (((none : Option Nat).getD 0 : Nat) : Int) = 0 from rfl] at hrun
    have HP := Lib.hid (put_here (w := w) h (kept_refl w g u m))
    clear h hM hL hp hno hi hlen e1
    go_enter Try.func24, Try.ntmps24
    go_wp2_with fail
    go_ret
    exact ⟨rfl, HP.out⟩
  | some k =>
    obtain ⟨t1, t2, t3, t4⟩ := hL.there hp
    have hyes : isIn L id = true := by simpa [isIn] using t1
    rw [hp, hyes] at hrun
    rw [hyes, Bool.true_and]
    simp only [Option.getD_some] at hrun
    cases hr : rightB a with
    | false =>
      rw [hr] at HRi
      have e1 : moveL L id a = L := by unfold moveL; rw [if_neg (by simp [hr])]
      rw [e1]
      have HP := Lib.hid (put_here (w := w) h (kept_refl w g u m))
      clear h hM hL hp hyes t1 t2 t3 t4 hi hlen e1 hr
      go_enter Try.func24, Try.ntmps24
      go_wp2_with fail
      refine (HRi.out _).mono ?_
      rintro e w1 ⟨rfl, rfl⟩
      go_wp2_with fail
      go_ret
      exact ⟨rfl, HP.out⟩
    | true =>
      rw [hr] at HRi
      have e1 : moveL L id a = putD (L.eraseIdx (findN L id)) (a, id) := by unfold moveL; rw [if_pos ⟨hyes, hr⟩]
      have hln := move_len L id a
      rw [e1] at hln ⊢
      have HLn := Lib.hid hln
      have HS := Lib.hid (show Calls Try.prog 39 #[.pointer (some ⟨g, 0, none⟩), .int .i64 k, .agg #[.int .i64 a, .int .i64 id]] w _ from settle_any hM (d := (a, id)) (hL.hole hp a) (by rw [hL.len]; exact hlen) (fun j hj => hL.wf (by have := h.top; omega) hj) hi)
      have HL := Lib.hid (hL.move hp hr)
      have HH := Lib.hid h
      clear h hM hL hp hyes t1 t2 t3 t4 hi hlen e1 hr hln
      go_enter Try.func24, Try.ntmps24
      go_wp2_with fail
      refine (HRi.out _).mono ?_
      rintro e w1 ⟨rfl, rfl⟩
      go_wp2_with fail
      refine HS.out.mono ?_
      rintro e w1 ⟨rfl, hM1, hK1⟩
      have HP := Lib.hid (put_here (w := w) (w' := w1) ⟨⟨_, hM1, HL.out⟩, HH.out.low, HH.out.top, by have := HH.out.cnt; have := HLn.out; omega⟩ hK1)
      clear hM1 hK1
      go_wp2_with fail
      go_ret
      exact ⟨rfl, HP.out⟩
def whenI (L : List Due) (id : Int) : Int := if isIn L id = true then (L.getD (findN L id) (0, 0)).1 else 0
set_option maxHeartbeats 4000000 in
set_option maxRecDepth 10000 in
theorem when_al {w : World} {base g : Nat} {u : Option Nat} {m : Nat} {L : List Due} {last : Int} (h : Al w base g u m L last) {id : Int} (hi : -9223372036854775808 ≤ id ∧ id ≤ 9223372036854775807) :
    Calls Try.prog 23 #[.pointer (some ⟨g, 0, none⟩), .int .i64 id] w fun e w' => e = .returned (.tuple #[.int .i64 (whenI L id), .bool (isIn L id)]) ∧ w = w' := by
  obtain ⟨s, hM, hL⟩ := h.ex
  obtain ⟨c1, hrun⟩ := al_look hM hL hi
  have hlen := len_int h.cnt h.top
  cases hp : s.pl id with
  | none =>
    have hno : isIn L id = false := by simpa [isIn] using hL.gone hp
    have hw : whenI L id = 0 := by unfold whenI; rw [if_neg (by simp [hno])]
    rw [hp, hno] at hrun
    rw [hno, hw]
    rw [show (((none : Option Nat).getD 0 : Nat) : Int) = 0 from rfl] at hrun
    clear h hM hL hp hno hi hlen hw
    go_enter Try.func23, Try.ntmps23
    go_wp2_with fail
    go_ret2
    exact ⟨rfl, rfl⟩
  | some k =>
    obtain ⟨t1, t2, t3, t4⟩ := hL.there hp
    have hyes : isIn L id = true := by simpa [isIn] using t1
    obtain ⟨b, c, hc1, hc2, hA⟩ := mem_reads hM (by omega)
    obtain ⟨x1, _, x3⟩ := hA w (Below.refl _ _)
    have x4 := (x3 k t3).1
    have hw : whenI L id = (s.at k).1 := by unfold whenI; rw [if_pos hyes, t2]
    rw [hp, hyes] at hrun
    rw [hyes, hw]
    simp only [Option.getD_some] at hrun
    generalize (s.at k).1 = N at *
    obtain ⟨n, hn⟩ : ∃ n, s.h.length = n := ⟨_, rfl⟩
    rw [hn] at x1 t3 hc1
    have hn1 : n ≤ 100000 := by rw [← hn, hL.len]; exact hlen
    clear h hM hL hp hyes t1 t2 t4 hi hlen hw hA x3 hn
    go_enter Try.func23, Try.ntmps23
    go_wp2_with fail
    go_ret2
    exact ⟨rfl, rfl⟩
set_option maxHeartbeats 4000000 in
set_option maxRecDepth 10000 in
theorem len_al {w : World} {base g : Nat} {u : Option Nat} {m : Nat} {L : List Due} {last : Int} (h : Al w base g u m L last) :
    Calls Try.prog 18 #[.pointer (some ⟨g, 0, none⟩)] w fun e w' => e = .returned (.int .i64 (L.length : Int)) ∧ w = w' := by
  obtain ⟨s, hM, hL⟩ := h.ex
  obtain ⟨v, h1, h2, _⟩ := hM.ex
  rw [← hL.len]
  obtain ⟨p, c, rfl, _⟩ := own_dues h2
  have g0 := cell_of_row _ g 0 _ _ _ h1
  generalize s.h.length = n at g0 ⊢
  clear h hM hL h1 h2
  go_enter Try.func18, Try.ntmps18
  go_wp2_with fail
  go_ret
  exact ⟨rfl, rfl⟩
def headD (L : List Due) : Due := L.headD (0, 0)
set_option maxHeartbeats 4000000 in
set_option maxRecDepth 10000 in
theorem next_al {w : World} {base g : Nat} {u : Option Nat} {m : Nat} {L : List Due} {last : Int} (h : Al w base g u m L last) :
    Calls Try.prog 14 #[.pointer (some ⟨g, 0, none⟩)] w fun e w' => e = .returned (.tuple #[.agg #[.int .i64 (headD L).1, .int .i64 (headD L).2], .bool (decide (0 < L.length))]) ∧ Below w.heap.size w w' := by
  obtain ⟨s, hM, hL⟩ := h.ex
  have hlen := len_int h.cnt h.top
  have hB : Below w.heap.size w (w.alloc (.cells #[.int .i64 0, .int .i64 0] 38)) := (Below.refl _ _).alloc (Nat.le_refl _) _
  by_cases h0 : 0 < L.length
  · obtain ⟨r, hr⟩ := hL.head (by rw [hL.len]; exact h0)
    obtain ⟨b, c, hc1, hc2, hA⟩ := mem_reads hM (by rw [hL.len]; exact h0)
    obtain ⟨x1, _, x3⟩ := hA w (Below.refl _ _)
    obtain ⟨y0, y1⟩ := x3 0 (by rw [hL.len]; exact h0)
    rw [show headD L = s.at 0 by rw [hr]; rfl, show decide (0 < L.length) = true by simpa using h0]
    generalize s.at 0 = x at *
    obtain ⟨p, q⟩ := x
    obtain ⟨n, hn⟩ : ∃ n, s.h.length = n := ⟨_, rfl⟩
    have hn0 : 0 < n := by rw [← hn, hL.len]; exact h0
    have hn1 : n ≤ 100000 := by rw [← hn, hL.len]; exact hlen
    rw [hn] at x1 hc1
    dsimp only at y0 y1 ⊢
    rw [Nat.zero_mul] at y0
    rw [Nat.zero_mul, Nat.zero_add] at y1
    have hgl := World.block_lt_of_cell? w _ x1
    have hbl := World.block_lt_of_cell? w _ y0
    have dn : ((n : Int) == 0) = false := by simp; omega
    have HB := Lib.hid (show ∀ o, Below w.heap.size w (w.alloc o) from fun o => (Below.refl _ _).alloc (Nat.le_refl _) _)
    clear h hM hL hA x3 hr hn hlen h0 hB
    go_enter Try.func14, Try.ntmps14
    go_wp2_with fail
    exact bodyPost_ret (v := .tuple #[.agg #[.int .i64 p, .int .i64 q], .bool true]) (by simp [results, Try.results14, go_sem]) rfl ⟨rfl, HB.out _⟩
  · obtain ⟨v, h1, h2, _⟩ := hM.ex
    obtain rfl : L = [] := List.eq_nil_of_length_eq_zero (by omega)
    have hn := hL.len
    rw [List.length_nil] at hn
    rw [hn] at h2
    obtain ⟨p, c, rfl, _⟩ := own_dues h2
    have g0 := cell_of_row _ g 0 _ _ _ h1
    have hgl := World.block_lt_of_cell? w _ g0
    have HB := Lib.hid (show ∀ o, Below w.heap.size w (w.alloc o) from fun o => (Below.refl _ _).alloc (Nat.le_refl _) _)
    rw [show headD [] = ((0 : Int), (0 : Int)) from rfl, show decide (0 < ([] : List Due).length) = false from rfl]
    clear h hM hL h1 h2 hn hlen h0 hB
    go_enter Try.func14, Try.ntmps14
    go_wp2_with fail
    exact bodyPost_ret (v := .tuple #[.agg #[.int .i64 0, .int .i64 0], .bool false]) (by simp [results, Try.results14, go_sem]) rfl ⟨rfl, HB.out _⟩
end Go.Proofs.Ytpohfcjmjfhdoaa
