/-
  Contracts: what crc.Open answers. Conditions: as each states.
-/
import Derived.Test.YtbfbbfcfijgakaaW2
namespace Go.Proofs.Ytbfbbfcfijgakaa
open Go.RowKit

theorem open_short (p : Option Addr) (n c : Nat) (w : World) (h : n < 4) :
    Calls Try.prog 16 #[.slice p n c] w fun e w' => e = .returned (.tuple #[.slice none 0 0, .bool false]) ∧ Below w.heap.size w w' := by
  have c0 : decide ((n : Int) - 4 < 0) = true := by simp; omega
  go_enter Try.func16, Try.ntmps16
  go_wp2_with fail
  go_ret2
  exact ⟨rfl, Below.refl _ _⟩

theorem bytesOf_inj {xs ys : List Int} (hx : AllB xs) (hy : AllB ys) (h : Lib.bytesOf xs = Lib.bytesOf ys) : xs = ys := by
  induction xs generalizing ys with
  | nil => cases ys with
    | nil => rfl
    | cons => simp [Lib.bytesOf] at h
  | cons a r ih => cases ys with
    | nil => simp [Lib.bytesOf] at h
    | cons b s =>
      simp only [Lib.bytesOf, List.map_cons, List.cons.injEq] at h
      have ha := hx a (by simp)
      have hb := hy b (by simp)
      have e := congrArg UInt8.toNat h.1
      simp only [UInt8.toNat_ofNat'] at e
      have : a = b := by omega
      rw [this, ih (fun x hx' => hx x (by simp [hx'])) (fun x hx' => hy x (by simp [hx'])) h.2]
theorem bytesOf_eq {xs ys : List Int} (hx : AllB xs) (hy : AllB ys) : (Lib.bytesOf xs == Lib.bytesOf ys) = decide (xs = ys) := by
  by_cases h : xs = ys
  · subst h; simp
  · simp only [h, decide_false, beq_eq_false_iff_ne, ne_eq]
    exact fun e => h (bytesOf_inj hx hy e)
theorem bytes_take {w : World} {p : Option Addr} {n : Nat} {xs : List Int} (h : Lib.BytesIn w p n xs) (m : Nat) (hm : m ≤ n) : Lib.BytesIn w p m (xs.take m) := fun hn => by
  obtain ⟨b, o, e, hc⟩ := h.at (by omega)
  refine ⟨b, o, e, fun i hi => ?_⟩
  rw [hc i (by omega), List.getD_eq_getElem?_getD, List.getD_eq_getElem?_getD, List.getElem?_take, if_pos hi]
theorem bytes_drop {w : World} {b o : Nat} {n : Nat} {xs : List Int} (h : Lib.BytesIn w (some ⟨b, o, none⟩) n xs) (m k : Nat) (hm : m + k = n) : Lib.BytesIn w (some ⟨b, o + m, none⟩) k (xs.drop m) := fun hn => by
  obtain ⟨b', o', e, hc⟩ := h.at (by omega)
  cases e
  refine ⟨b, o + m, rfl, fun i hi => ?_⟩
  rw [Nat.add_assoc, hc (m + i) (by omega), List.getD_eq_getElem?_getD, List.getD_eq_getElem?_getD, List.getElem?_drop]

set_option maxHeartbeats 2000000 in
theorem open_yes (b o m c : Nat) (xs : List Int) (w : World) (hx : xs.length = m + 4) (hnc : m + 4 ≤ c) (hbig : m + 4 ≤ 140737488355328) (hb : AllB xs) (hi : Lib.BytesIn w (some ⟨b, o, none⟩) (m + 4) xs) (hok : okB xs = true) :
    Calls Try.prog 16 #[.slice (some ⟨b, o, none⟩) (m + 4 : Nat) c] w fun e w' => ∃ v, e = .returned (.tuple #[v, .bool true]) ∧ w'.ownsRow w.heap.size 5 1 v m ((xs.take m).map (Value.int .u8)) ∧ Below w.heap.size w w' := by
  have HX := Lib.hid hx
  have HA := Lib.hid hb
  have HI := Lib.hid hi
  have HE := Lib.hid (show (Lib.bytesOf (xs.drop m) == Lib.bytesOf (tailL (sumB (xs.take m)))) = true by
    rw [bytesOf_eq (fun x hx => hb x (List.mem_of_mem_drop hx)) (allB_tail _)]
    have := hok
    unfold okB at this
    rw [hx, Nat.add_sub_cancel] at this
    exact this)
  clear hx hb hi hok
  go_enter Try.func16, Try.ntmps16
  go_wp2_with fail
  go_quiet (fail)
  rename_i nq
  go_wp2_with fail
  generalize hw0 : w.drewN nq = w0
  have HB0 := Lib.hid (show Below w.heap.size w w0 by rw [← hw0]; exact ⟨rfl, rfl, rfl, Nat.le_refl _, fun _ _ => rfl⟩)
  have HSZ := Lib.hid (show w0.heap.size = w.heap.size by rw [← hw0]; rfl)
  clear hw0
  have HI0 := Lib.hid (bytes_on HI.out HB0.out)
  refine (sum_any _ _ _ (xs.take m) _ (by rw [List.length_take, HX.out]; omega) (by omega) (fun x hx => HA.out x (List.mem_of_mem_take hx)) (bytes_take HI0.out m (by omega))).mono ?_
  rintro e w1 ⟨rfl, rfl⟩
  generalize hS : sumB (xs.take m) = S at *
  have HS := Lib.hid hS
  clear hS
  go_wp2_with fail
  refine (low_any S _).mono ?_
  rintro e w1 ⟨rfl, hw1⟩
  have HT := Lib.hid (show Lib.BytesIn w1 (some ⟨w0.heap.size, 0, none⟩) 4 (tailL S) from fun _ => ⟨_, _, rfl, fun i hi => by
    rw [hw1, World.cell?_alloc_at _ _ _ _ rfl]
    simp only [Nat.zero_add, List.getElem?_toArray, List.getElem?_map]
    rw [List.getD_eq_getElem?_getD, List.getElem?_eq_getElem (by simpa [tailL] using hi)]
    rfl⟩)
  have HB := Lib.hid (show Below w0.heap.size w0 w1 by rw [hw1]; exact (Below.refl _ _).alloc (Nat.le_refl _) _)
  clear hw1
  have HI1 := Lib.hid (bytes_on HI0.out HB.out)
  go_wp2_with fail
  refine (Try.bytes_Equal_all _ _ _ _ _ _ (xs.drop m) (tailL S) _ (by rw [List.length_drop, HX.out]; omega) rfl (bytes_drop HI1.out m 4 rfl) HT.out).mono ?_
  rintro e w2 ⟨rfl, hw2⟩
  subst hw2
  rw [HE.out]
  go_wp2_with fail
  refine (Try.bytes_Clone_at _ _ _ (xs.take m) _ (by rw [List.length_take, HX.out]; omega) (by omega) ?_).mono ?_
  · intro i hi
    obtain ⟨b', o', e, hc⟩ := (bytes_take HI1.out m (by omega)).at (by omega)
    cases e
    rw [WideShapes.add_plain]
    exact hc i hi
  rintro e w3 ⟨v, rfl, hown, _, hb3⟩
  have HO := Lib.hid hown
  have HB3 := Lib.hid hb3
  clear hown hb3
  go_wp2_with fail
  go_ret2
  refine ⟨v, rfl, ?_, seqB HB0.out (seqB HB.out HB3.out)⟩
  have h := HO.out
  have h1 := HB.out.size
  have h2 := HSZ.out
  obtain ⟨hl, h0 | ⟨g, cap, cur, e1, e2, e3⟩⟩ := h
  · exact ⟨hl, Or.inl h0⟩
  · exact ⟨hl, Or.inr ⟨g, cap, cur, e1, by omega, e3⟩⟩

set_option maxHeartbeats 2000000 in
theorem open_no (b o m c : Nat) (xs : List Int) (w : World) (hx : xs.length = m + 4) (hnc : m + 4 ≤ c) (hbig : m + 4 ≤ 140737488355328) (hb : AllB xs) (hi : Lib.BytesIn w (some ⟨b, o, none⟩) (m + 4) xs) (hok : okB xs = false) :
    Calls Try.prog 16 #[.slice (some ⟨b, o, none⟩) (m + 4 : Nat) c] w fun e w' => e = .returned (.tuple #[.slice none 0 0, .bool false]) ∧ Below w.heap.size w w' := by
  have HX := Lib.hid hx
  have HA := Lib.hid hb
  have HI := Lib.hid hi
  have HE := Lib.hid (show (Lib.bytesOf (xs.drop m) == Lib.bytesOf (tailL (sumB (xs.take m)))) = false by
    rw [bytesOf_eq (fun x hx => hb x (List.mem_of_mem_drop hx)) (allB_tail _)]
    have := hok
    unfold okB at this
    rw [hx, Nat.add_sub_cancel] at this
    exact this)
  clear hx hb hi hok
  go_enter Try.func16, Try.ntmps16
  go_wp2_with fail
  go_quiet (fail)
  rename_i nq
  go_wp2_with fail
  generalize hw0 : w.drewN nq = w0
  have HB0 := Lib.hid (show Below w.heap.size w w0 by rw [← hw0]; exact ⟨rfl, rfl, rfl, Nat.le_refl _, fun _ _ => rfl⟩)
  have HSZ := Lib.hid (show w0.heap.size = w.heap.size by rw [← hw0]; rfl)
  clear hw0
  have HI0 := Lib.hid (bytes_on HI.out HB0.out)
  refine (sum_any _ _ _ (xs.take m) _ (by rw [List.length_take, HX.out]; omega) (by omega) (fun x hx => HA.out x (List.mem_of_mem_take hx)) (bytes_take HI0.out m (by omega))).mono ?_
  rintro e w1 ⟨rfl, rfl⟩
  generalize hS : sumB (xs.take m) = S at *
  have HS := Lib.hid hS
  clear hS
  go_wp2_with fail
  refine (low_any S _).mono ?_
  rintro e w1 ⟨rfl, hw1⟩
  have HT := Lib.hid (show Lib.BytesIn w1 (some ⟨w0.heap.size, 0, none⟩) 4 (tailL S) from fun _ => ⟨_, _, rfl, fun i hi => by
    rw [hw1, World.cell?_alloc_at _ _ _ _ rfl]
    simp only [Nat.zero_add, List.getElem?_toArray, List.getElem?_map]
    rw [List.getD_eq_getElem?_getD, List.getElem?_eq_getElem (by simpa [tailL] using hi)]
    rfl⟩)
  have HB := Lib.hid (show Below w0.heap.size w0 w1 by rw [hw1]; exact (Below.refl _ _).alloc (Nat.le_refl _) _)
  clear hw1
  have HI1 := Lib.hid (bytes_on HI0.out HB.out)
  go_wp2_with fail
  refine (Try.bytes_Equal_all _ _ _ _ _ _ (xs.drop m) (tailL S) _ (by rw [List.length_drop, HX.out]; omega) rfl (bytes_drop HI1.out m 4 rfl) HT.out).mono ?_
  rintro e w2 ⟨rfl, hw2⟩
  subst hw2
  rw [HE.out]
  go_wp2_with fail
  go_ret2
  exact ⟨rfl, seqB HB0.out HB.out⟩

end Go.Proofs.Ytbfbbfcfijgakaa
