/-
  Contract: the statements' own 'alive' returns true. Conditions: none.
-/
import Derived.Test.YtkjljnfhnkaocaaW6
namespace Go.Proofs.Ytkjljnfhnkaocaa
open Go.RowKit

theorem allB_of {xs : List Int} (h : xs.all (fun x => decide (0 ≤ x ∧ x < 256)) = true) : AllB xs := fun x hx => by
  have := List.all_eq_true.mp h x hx
  simpa using this
theorem below_drawn {B : Nat} {a w : World} (h : Below B a w) (n : Nat) : Below B a (w.drewN n) := ⟨h.os, h.tape, h.output, h.size, h.block⟩
/-- A ring of the call's own, and what was there ahead. -/
def At (w0 : World) (B g : Nat) (room : Int) (xs : List Int) (w : World) : Prop := ∃ u, Rg w B g u room xs ∧ Below w0.heap.size w0 w ∧ w0.heap.size ≤ B
theorem At.put {w0 w : World} {B g : Nat} {room : Int} {xs ys : List Int} {u : Option Nat} {w' : World} (h : Rg w B g u room xs) (hb : Below w0.heap.size w0 w) (hB : w0.heap.size ≤ B) (hp : Put w B g u room ys w') : At w0 B g room ys w' := by
  have hb' := put_below hb h hp hB
  obtain ⟨u', hr, _⟩ := hp
  exact ⟨u', hr, hb', hB⟩
theorem At.below {w0 w : World} {B g : Nat} {room : Int} {xs : List Int} (h : At w0 B g room xs w) : Below w0.heap.size w0 w := by
  obtain ⟨_, _, hb, _⟩ := h
  exact hb
theorem At.on {w0 w w' : World} {B g : Nat} {room : Int} {xs : List Int} (h : At w0 B g room xs w) (hb : Below w.heap.size w w') : At w0 B g room xs w' := by
  obtain ⟨u, hr, h1, h2⟩ := h
  exact ⟨u, hr.on hb, seqB h1 hb, h2⟩

theorem bytes_kept {w w' : World} {p : Option Addr} {n : Nat} {xs : List Int} {g : Nat} {u : Option Nat} (h : Lib.BytesIn w p n xs) (hk : Kept w w' g u) (ha : ∀ a, p = some a → a.block ≠ g ∧ u ≠ some a.block) : Lib.BytesIn w' p n xs := fun hn => by
  obtain ⟨b, o, e, hc⟩ := h.at hn
  refine ⟨b, o, e, fun i hi => ?_⟩
  rw [← hc i hi]
  exact World.cell?_of_block (w := w) (hk.block b (World.block_lt_of_cell? w _ (hc i hi)) (ha _ e).1 (ha _ e).2)

theorem len_at {w0 w : World} {B g : Nat} {room : Int} {xs : List Int} (h : At w0 B g room xs w) (n : Nat) (hn : xs.length = n) :
    Calls Try.prog 16 #[.pointer (some ⟨g, 0, none⟩)] w fun e w' => e = .returned (.int .i64 (n : Int)) ∧ At w0 B g room xs w' := by
  obtain ⟨u, hr, hb, hB⟩ := h
  refine (len_any hr).mono ?_
  rintro e w' ⟨rfl, m, rfl⟩
  exact ⟨by rw [hn], u, hr.drewN m, below_drawn hb m, hB⟩
theorem free_at {w0 w : World} {B g : Nat} {room : Int} {xs : List Int} (h : At w0 B g room xs w) (n : Nat) (hn : room.toNat - xs.length = n) :
    Calls Try.prog 18 #[.pointer (some ⟨g, 0, none⟩)] w fun e w' => e = .returned (.int .i64 (n : Int)) ∧ At w0 B g room xs w' := by
  obtain ⟨u, hr, hb, hB⟩ := h
  refine (free_any hr).mono ?_
  rintro e w' ⟨rfl, hb'⟩
  exact ⟨by rw [hn], u, hr.on hb', seqB hb hb', hB⟩
theorem room_at {w0 w : World} {B g : Nat} {room : Int} {xs : List Int} (h : At w0 B g room xs w) :
    Calls Try.prog 17 #[.pointer (some ⟨g, 0, none⟩)] w fun e w' => e = .returned (.int .i64 room) ∧ w = w' := by
  obtain ⟨u, hr, hb, hB⟩ := h
  exact room_any hr
/-- What Peek and Read hand back, as a text. -/
def Text (T : ByteArray) (w0 : World) (B g : Nat) (room : Int) (xs : List Int) (e : Ending) (w' : World) : Prop := ∃ q n c, e = .returned (.slice q n c) ∧ (convert 40 9 (.slice q n c)).run Try.prog w' = .ok (.string T) w' ∧ At w0 B g room xs w'
theorem peek_at {w0 w : World} {B g : Nat} {room : Int} {xs : List Int} (h : At w0 B g room xs w) (hbig : xs.length ≤ 100000) (N : Int) (T : ByteArray) (hT : T = strOfNums (xs.take (cut N xs.length))) :
    Calls Try.prog 20 #[.pointer (some ⟨g, 0, none⟩), .int .i64 N] w (Text T w0 B g room xs) := by
  obtain ⟨u, hr, hb, hB⟩ := h
  refine (peek_any hr (by omega) N).mono ?_
  rintro e w' ⟨v, rfl, ho, hb'⟩
  obtain ⟨q, c, rfl, hl, hi, _⟩ := own_bytes ho
  exact ⟨q, _, c, rfl, by rw [hT]; exact conv_bytes hi hl c, u, hr.on hb', seqB hb hb', hB⟩
theorem read_at {w0 w : World} {B g : Nat} {room : Int} {xs : List Int} (h : At w0 B g room xs w) (hbig : xs.length ≤ 100000) (N : Int) (k : Nat) (hk : cut N xs.length = k) (T : ByteArray) (hT : T = strOfNums (xs.take k)) :
    Calls Try.prog 23 #[.pointer (some ⟨g, 0, none⟩), .int .i64 N] w (Text T w0 B g room (xs.drop k)) := by
  obtain ⟨u, hr, hb, hB⟩ := h
  have hkl : k ≤ xs.length := by rw [← hk]; exact cut_le _ _
  refine (read_any hr (by omega) N k hk).mono ?_
  rintro e w' ⟨q, c, rfl, hi, _, _, _, hc, _⟩
  exact ⟨q, _, c, rfl, by rw [hT]; exact conv_bytes hi (by rw [List.length_take]; omega) c, At.put hr hb hB hc.put⟩
theorem drop_at {w0 w : World} {B g : Nat} {room : Int} {xs : List Int} (h : At w0 B g room xs w) (N : Int) (k : Nat) (hk : cut N xs.length = k) :
    Calls Try.prog 25 #[.pointer (some ⟨g, 0, none⟩), .int .i64 N] w fun e w' => e = .returned (.int .i64 (k : Int)) ∧ At w0 B g room (xs.drop k) w' := by
  obtain ⟨u, hr, hb, hB⟩ := h
  refine (drop_any hr N).mono ?_
  rintro e w' ⟨rfl, hc⟩
  rw [hk] at hc ⊢
  exact ⟨rfl, At.put hr hb hB hc.put⟩
theorem clear_at {w0 w : World} {B g : Nat} {room : Int} {xs : List Int} (h : At w0 B g room xs w) (n : Nat) (hn : xs.length = n) :
    Calls Try.prog 26 #[.pointer (some ⟨g, 0, none⟩)] w fun e w' => e = .returned (.int .i64 (n : Int)) ∧ At w0 B g room [] w' := by
  obtain ⟨u, hr, hb, hB⟩ := h
  refine (clear_any hr).mono ?_
  rintro e w' ⟨rfl, hc⟩
  exact ⟨by rw [hn], At.put hr hb hB hc⟩
theorem force_at {w0 w : World} {B g : Nat} {room : Int} {xs : List Int} (h : At w0 B g room xs w) {p : Option Addr} {n c : Nat} {ys : List Int} (hy : ys.length = n) (hb : AllB ys) (hpc : p = none → c = 0) (hi : Lib.BytesIn w p n ys) (hbig : xs.length ≤ 100000) (hbn : n ≤ 100000) :
    Calls Try.prog 22 #[.pointer (some ⟨g, 0, none⟩), .slice p n c] w fun e w' => e = .returned (.tuple #[]) ∧ At w0 B g room (xs ++ ys) w' := by
  obtain ⟨u, hr, hb', hB⟩ := h
  refine (force_any hr hy hb hpc hi (by omega)).mono ?_
  rintro e w' ⟨rfl, hc⟩
  exact ⟨rfl, At.put hr hb' hB hc⟩
theorem write_at {w0 w : World} {B g : Nat} {room : Int} {xs : List Int} (h : At w0 B g room xs w) {p : Option Addr} {n c : Nat} {ys : List Int} (hy : ys.length = n) (hb : AllB ys) (hpc : p = none → c = 0) (hi : Lib.BytesIn w p n ys) (hnc : n ≤ c) (hc : c ≤ 9223372036854775807) (hbig : xs.length ≤ 100000) (K : Nat) (hK : min n (room.toNat - xs.length) = K) :
    Calls Try.prog 21 #[.pointer (some ⟨g, 0, none⟩), .slice p n c] w fun e w' => e = .returned (.int .i64 (K : Int)) ∧ At w0 B g room (xs ++ ys.take K) w' := by
  obtain ⟨u, hr, hb', hB⟩ := h
  refine (write_any hr hy hb hpc hi hnc hc (by omega) K hK).mono ?_
  rintro e w' ⟨rfl, hc⟩
  exact ⟨rfl, At.put hr hb' hB hc⟩

set_option maxHeartbeats 4000000 in
theorem alive_any (w : World) : Calls Try.prog 11 #[] w fun e w' => e = .returned (.bool true) ∧ Below w.heap.size w w' := by
  have kc := fun (w : World) (C : Array Value) (n c : Nat) => Lib.run_convert_bytes_const (P := Try.prog) w 40 5 C n c Try.underlying40 Try.underlying5
  go_enter Try.func11, Try.ntmps11
  go_wp2_with fail
  refine (new_any 3 (by omega) (by omega) _).mono ?_
  rintro e w1 ⟨rfl, hr, hb1, _⟩
  have HA := Lib.hid (show At w w.heap.size w.heap.size 3 [] w1 from ⟨none, hr, hb1, Nat.le_refl _⟩)
  clear hr hb1
  generalize w.heap.size = g at *
  go_wp2_with fail
  have HI := Lib.hid (made_bytes w1 [97, 98, 99, 100] 4 (4, 5) rfl)
  simp only [List.map_cons, List.map_nil] at HI
  have HA2 := Lib.hid (HA.out.on (show Below w1.heap.size w1 (w1.alloc (.cells #[.int .u8 97, .int .u8 98, .int .u8 99, .int .u8 100] 5 (4, 5))) from (Below.refl _ _).alloc (Nat.le_refl _) _))
  clear HA
  generalize w1.alloc (.cells #[.int .u8 97, .int .u8 98, .int .u8 99, .int .u8 100] 5 (4, 5)) = w2 at *
  refine (write_at HA2.out (n := 4) (ys := [97, 98, 99, 100]) rfl (allB_of (by decide)) (fun h => by cases h) HI.out (by omega) (by omega) (by simp) 3 (by decide)).mono ?_
  rintro e w3 ⟨rfl, u3, hr3, hb3, hB⟩
  simp only [List.nil_append, List.take_succ_cons, List.take_zero] at hr3
  have HR3 := Lib.hid hr3
  have HB3 := Lib.hid hb3
  have HBG := Lib.hid hB
  clear hr3 hb3 hB HI HA2
  go_wp2_with fail
  refine (read_any HR3.out (by simp) 2 2 (by decide)).mono ?_
  rintro e w4 ⟨q, c, rfl, hi, _, _, _, hc, hap⟩
  have hb4 := put_below HB3.out HR3.out hc.put HBG.out
  simp only [List.take_succ_cons, List.take_zero, List.drop_succ_cons, List.drop_zero] at hi hc
  have HI := Lib.hid hi
  have HAP := Lib.hid hap
  have HR4 := Lib.hid hc.1
  have HB4 := Lib.hid hb4
  clear hi hc hap hb4 HR3 HB3
  go_wp2_with fail
  have HI2 := Lib.hid (made_bytes w4 [101, 102] 2 (2, 3) rfl)
  simp only [List.map_cons, List.map_nil] at HI2
  have hal : Below w4.heap.size w4 (w4.alloc (.cells #[.int .u8 101, .int .u8 102] 5 (2, 3))) := (Below.refl _ _).alloc (Nat.le_refl _) _
  have HI5 := Lib.hid (bytes_on HI.out hal)
  have HR5 := Lib.hid (HR4.out.on hal)
  have HB5 := Lib.hid (seqB HB4.out hal)
  clear hal HI HR4 HB4
  generalize w4.alloc (.cells #[.int .u8 101, .int .u8 102] 5 (2, 3)) = w5 at *
  refine (write_any HR5.out (n := 2) (ys := [101, 102]) rfl (allB_of (by decide)) (fun h => by cases h) HI2.out (by omega) (by omega) (by simp) 2 (by decide)).mono ?_
  rintro e w6 ⟨rfl, hp⟩
  simp only [List.cons_append, List.nil_append, List.take_succ_cons, List.take_zero] at hp
  have HA6 := Lib.hid (At.put HR5.out HB5.out HBG.out hp)
  obtain ⟨_, _, _, hk⟩ := hp
  have hi6 := bytes_kept HI5.out hk HAP.out
  have cv : (convert 40 9 (.slice q 2 c)).run Try.prog w6 = .ok (.string (strOfNums [97, 98])) w6 := conv_bytes hi6 rfl c
  have se : ((strOfNums [97, 98]).toList == [97, 98]) = true := by rw [Lib.strOfNums_toList]; decide
  clear hk hi6 HI5 HR5 HB5 HI2 HAP
  go_wp2_with fail
  clear cv se
  refine (peek_at HA6.out (by simp) 9 (strOfNums [99, 101, 102]) (congrArg strOfNums (by decide))).mono ?_
  rintro e w7 ⟨q7, n7, c7, rfl, cv, ha7⟩
  have se : ((strOfNums [99, 101, 102]).toList == [99, 101, 102]) = true := by rw [Lib.strOfNums_toList]; decide
  have HA7 := Lib.hid ha7
  clear ha7 HA6
  go_wp2_with fail
  clear cv se
  refine (len_at HA7.out 3 rfl).mono ?_
  rintro e w8 ⟨rfl, ha8⟩
  have HA8 := Lib.hid ha8
  clear ha8 HA7
  go_wp2_with fail
  refine (free_at HA8.out 0 (by decide)).mono ?_
  rintro e w9 ⟨rfl, ha9⟩
  have HA9 := Lib.hid ha9
  clear ha9 HA8
  go_wp2_with fail
  refine (clear_at HA9.out 3 rfl).mono ?_
  rintro e w10 ⟨rfl, _, _, hb10, _⟩
  have HB10 := Lib.hid hb10
  clear hb10 HA9
  go_wp2_with fail
  go_ret
  exact ⟨rfl, HB10.out⟩
end Go.Proofs.Ytkjljnfhnkaocaa
