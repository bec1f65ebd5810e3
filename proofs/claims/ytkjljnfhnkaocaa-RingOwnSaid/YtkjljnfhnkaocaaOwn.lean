/-
  The walk of chicanelaw05.RingOwn: it returns true, whatever text and byte. Conditions: as each states.
-/
import Derived.Test.YtkjljnfhnkaocaaW13
namespace Go.Proofs.Ytkjljnfhnkaocaa.ringOwn
open Go.RowKit

/-- A row of bytes whose first n may be written. -/
def Open (w : World) (b n : Nat) : Prop := ∃ cs fr, w.heap[b]? = some (.cells cs 5 fr) ∧ n ≤ cs.size ∧ ∀ i, i < n → w.frozen? ⟨b, i, none⟩ = false
theorem Open.set {w : World} {b n : Nat} (h : Open w b n) (g j : Nat) (v : Value) : Open (w.setCell ⟨g, j, none⟩ v) b n := by
  obtain ⟨cs, fr, hb, hn, hf⟩ := h
  by_cases e : g = b
  · subst e
    have h1 := set_heap (i := j) hb v
    refine ⟨_, fr, h1, by simpa using hn, fun i hi => ?_⟩
    have := hf i hi
    simp only [World.frozen?, h1, hb] at this ⊢
    exact this
  · have h1 := Below.heap_setCell w ⟨g, j, none⟩ v b (fun e' => e e'.symm)
    refine ⟨cs, fr, h1.trans hb, hn, fun i hi => ?_⟩
    rw [World.frozen?_of_block (w := w) (a := ⟨b, i, none⟩) h1]
    exact hf i hi
theorem Open.on {w w' : World} {b n : Nat} (h : Open w b n) (hb : w'.heap[b]? = w.heap[b]?) : Open w' b n := by
  obtain ⟨cs, fr, h1, hn, hf⟩ := h
  exact ⟨cs, fr, hb.trans h1, hn, fun i hi => (World.frozen?_of_block (w := w) (a := ⟨b, i, none⟩) hb).trans (hf i hi)⟩
theorem Open.lt {w : World} {b n : Nat} (h : Open w b n) : b < w.heap.size := by
  obtain ⟨cs, fr, h1, _⟩ := h
  exact blk_lt h1
theorem Open.cell {w : World} {b n i : Nat} (h : Open w b n) (hi : i < n) : ∃ v, w.cell? ⟨b, i, none⟩ = some v := by
  obtain ⟨cs, fr, h1, hn, _⟩ := h
  refine ⟨cs[i]'(by omega), ?_⟩
  rw [cell_of_row w b i _ _ _ h1, Array.getElem?_eq_getElem (by omega)]
theorem Open.free {w : World} {b n i : Nat} (h : Open w b n) (hi : i < n) : w.frozen? ⟨b, i, none⟩ = false := by
  obtain ⟨cs, fr, h1, hn, hf⟩ := h
  exact hf i hi
/-- The ring, where a block is written that is not one of its own. -/
theorem rg_set {w : World} {B g : Nat} {u : Option Nat} {room : Int} {xs : List Int} (h : Rg w B g u room xs) {i : Nat} (h1 : i ≠ g) (h2 : u ≠ some i) (j : Nat) (v : Value) : Rg (w.setCell ⟨i, j, none⟩ v) B g u room xs := by
  obtain ⟨v', full, G, hr, hd, hu, hG⟩ := h.ex
  exact ⟨⟨v', full, G, ⟨(Below.heap_setCell w ⟨i, j, none⟩ v g (fun e => h1 e.symm)).trans hr.blk, ownsRow_setCell_other hr.own (by rw [hu]; exact h2) _, hr.le, hr.base, hr.room0, hr.room1⟩, hd, hu, hG⟩, h.all⟩
/-- The ring, and what was there, and two rows of bytes that are the caller's own. -/
structure All (w0 : World) (g : Nat) (u : Option Nat) (s : ByteArray) (b : Nat) (q : Option Addr) (w : World) : Prop where
  ring : Rg w w0.heap.size g u 100 (nums s)
  below : Below w0.heap.size w0 w
  row : Open w b s.size
  apart : b ≠ g ∧ u ≠ some b ∧ w0.heap.size ≤ b
  peeked : 0 < s.size → ∃ pb, q = some ⟨pb, 0, none⟩ ∧ Open w pb s.size ∧ pb ≠ g ∧ u ≠ some pb ∧ w0.heap.size ≤ pb
theorem All.set_row {w0 w : World} {g : Nat} {u : Option Nat} {s : ByteArray} {b : Nat} {q : Option Addr} (h : All w0 g u s b q w) (j : Nat) (v : Value) : All w0 g u s b q (w.setCell ⟨b, j, none⟩ v) :=
  ⟨rg_set h.ring h.apart.1 h.apart.2.1 j v, h.below.setCell (p := ⟨b, j, none⟩) h.apart.2.2 v, h.row.set b j v, h.apart, fun hs => by
    obtain ⟨pb, e, ho, ha⟩ := h.peeked hs
    exact ⟨pb, e, ho.set b j v, ha⟩⟩
theorem All.set_peeked {w0 w : World} {g : Nat} {u : Option Nat} {s : ByteArray} {b pb : Nat} (h : All w0 g u s b (some ⟨pb, 0, none⟩) w) (hs : 0 < s.size) (j : Nat) (v : Value) : All w0 g u s b (some ⟨pb, 0, none⟩) (w.setCell ⟨pb, j, none⟩ v) := by
  obtain ⟨pb', e, ho, h1, h2, h3⟩ := h.peeked hs
  cases e
  exact ⟨rg_set h.ring h1 h2 j v, h.below.setCell (p := ⟨pb, j, none⟩) h3 v, h.row.set pb j v, h.apart, fun _ => ⟨pb, rfl, ho.set pb j v, h1, h2, h3⟩⟩

set_option maxHeartbeats 2000000 in
theorem walk_long (s : ByteArray) (c : Int) (hs : s.size ≤ 140737488351232) (hl : 100 < s.size) (w : World) :
    Calls Try.prog 7 #[.string s, .int .u8 c] w fun e w' => e = .returned (.bool true) ∧ Below w.heap.size w w' := by
  go_enter Try.func7, Try.ntmps7
  go_wp2_with fail
  refine (new_any 100 (by omega) (by omega) _).mono ?_
  rintro e w1 ⟨rfl, _, hb1, _⟩
  have HB1 := Lib.hid hb1
  clear hb1
  go_wp2_with fail
  refine (alive_any _).mono ?_
  rintro e w5 ⟨rfl, hb5⟩
  have HB5 := Lib.hid (seqB HB1.out hb5)
  clear hb5
  go_wp2_with fail
  go_ret
  exact ⟨rfl, HB5.out⟩
set_option maxHeartbeats 8000000 in
theorem walk_main (s : ByteArray) (c : Int) (hl : s.size ≤ 100) (w : World) :
    Calls Try.prog 7 #[.string s, .int .u8 c] w fun e w' => e = .returned (.bool true) ∧ Below w.heap.size w w' := by
  go_enter Try.func7, Try.ntmps7
  go_wp2_with fail
  refine (new_any 100 (by omega) (by omega) _).mono ?_
  rintro e w1 ⟨rfl, hr, hb1, hlt1⟩
  obtain ⟨c2, w2, hcv, hi, hb2, hc0, hc1, hlt2, cs, fr, hblk, hfz⟩ := conv_text s (by omega) w1
  have HR2 := Lib.hid (hr.on hb2)
  have HB2 := Lib.hid (seqB hb1 hb2)
  have HI := Lib.hid hi
  have hcs : s.size ≤ cs.size := by
    rcases Nat.eq_zero_or_pos s.size with h | h
    · omega
    · obtain ⟨b, o, e, hcc⟩ := hi.at h
      cases e
      have h1 := hcc (s.size - 1) (by omega)
      rw [cell_of_row _ _ _ _ _ _ hblk] at h1
      have := (Array.getElem?_eq_some_iff.1 h1).1
      omega
  have HO2 := Lib.hid (show Open w2 w1.heap.size s.size from ⟨cs, fr, hblk, hcs, hfz⟩)
  have HC := Lib.hid (And.intro hc0 hc1)
  have HL := Lib.hid (And.intro hlt1 hlt2)
  have HBG := Lib.hid hb1.size
  clear hr hb1 hb2 hi hc0 hc1 hblk hfz hcs hlt1 hlt2
  go_wp2_with fail
  clear hcv
  refine (write_any HR2.out (nums_length s) (nums_all s) (fun h => by cases h) HI.out HC.out.1 HC.out.2 (by simp) s.size (by simp; omega)).mono ?_
  rintro e w3 ⟨rfl, u3, hr3, hu3, hk3⟩
  rw [List.nil_append, ← nums_length, List.take_length] at hr3
  have hb3 := put_below HB2.out HR2.out ⟨u3, hr3, hu3, hk3⟩ (Nat.le_refl _)
  have HR3 := Lib.hid hr3
  have HU3 := Lib.hid hu3
  have HB3 := Lib.hid hb3
  have HO3 := Lib.hid (HO2.out.on (hk3.block _ HL.out.2 (by have := HL.out.1; omega) (by simp)))
  clear hr3 hu3 hk3 hb3 HI HR2 HB2 HO2
  go_wp2_with fail
  refine (peek_any HR3.out (by rw [nums_length]; omega) (s.size : Int)).mono ?_
  rintro e w4 ⟨v, rfl, ho, hb4⟩
  rw [nums_length, cut_nat _ _ (Nat.le_refl _), ← nums_length, List.take_length, nums_length] at ho
  have hps : 0 < s.size → ∃ pb cap, v = .slice (some ⟨pb, 0, none⟩) s.size cap ∧ Open w4 pb s.size ∧ w3.heap.size ≤ pb := fun hs => by
    rcases ho.2 with ⟨_, h0⟩ | ⟨pb, cap, cur, rfl, h1, h2, h3, h4, h5, h6⟩
    · omega
    · exact ⟨pb, cap, rfl, ⟨cur, (0, 0), h2, by omega, fun i _ => frozen_at h2⟩, h1⟩
  obtain ⟨q, cq, rfl, _, _, _, hqc, hqm, _⟩ := own_bytes ho
  have hall : All w w.heap.size u3 s w1.heap.size q w4 := by
    have hg := HR3.out.g_base
    have hl1 := HL.out.1
    have hl2 := HL.out.2
    have hs3 := HO3.out.lt
    refine ⟨HR3.out.on hb4, seqB HB3.out hb4, HO3.out.on (hb4.block _ hs3), ⟨by omega, fun e => ?_, HBG.out⟩, fun hs => ?_⟩
    · rcases HU3.out _ e with h | h
      · cases h
      · omega
    · obtain ⟨pb, cap, e, hop, hp⟩ := hps hs
      cases e
      refine ⟨pb, rfl, hop, by omega, fun e => ?_, by omega⟩
      have := (HR3.out.u_base e).2
      omega
  have HALL := Lib.hid hall
  clear hps ho hb4 hall HR3 HU3 HB3 HO3 HC HL HBG hqc hqm
  generalize w.heap.size = g at *
  generalize w1.heap.size = b at *
  go_wp2_with fail
  go_loopw [46] (fun i wr => ∃ (k : Nat), k ≤ s.size ∧ i = .int .i64 k ∧ Hid (All w g u3 s b q wr)) (fun i _ => s.size - (intOf i).toNat)
  case atStart => exact ⟨0, by omega, rfl, HALL⟩
  case round =>
    clear HALL
    obtain ⟨k, hk, rfl, HA⟩ := hrel
    by_cases hlt : k < s.size
    · obtain ⟨v, hv⟩ := HA.out.row.cell hlt
      have hf := HA.out.row.free hlt
      go_wp2_with fail
      go_roundw
      case rel => exact ⟨k + 1, by omega, by go_num, Lib.hid (HA.out.set_row k _)⟩
      case measure => simp [intOf]; omega
    · go_wp2_with fail
      go_loopw [56] (fun i wr => ∃ (k : Nat), k ≤ s.size ∧ i = .int .i64 k ∧ Hid (All w g u3 s b q wr)) (fun i _ => s.size - (intOf i).toNat)
      case atStart => exact ⟨0, by omega, rfl, HA⟩
      case round =>
        clear HA
        obtain ⟨k, hk, rfl, HA⟩ := hrel
        by_cases hlt : k < s.size
        · obtain ⟨pb, rfl, ho, _⟩ := HA.out.peeked (by omega)
          obtain ⟨v, hv⟩ := ho.cell hlt
          have hf := ho.free hlt
          clear ho
          go_wp2_with fail
          go_roundw
          case rel => exact ⟨k + 1, by omega, by go_num, Lib.hid (HA.out.set_peeked (by omega) k _)⟩
          case measure => simp [intOf]; omega
        · go_wp2_with fail
          refine (alive_any _).mono ?_
          rintro e w7 ⟨rfl, hb7⟩
          have HR7 := Lib.hid (HA.out.ring.on hb7)
          have HB7 := Lib.hid (seqB HA.out.below hb7)
          clear hb7 HA
          go_wp2_with fail
          refine (read_any HR7.out (by rw [nums_length]; omega) (s.size : Int) s.size (by rw [nums_length]; exact cut_nat _ _ (Nat.le_refl _))).mono ?_
          rintro e w8 ⟨q8, c8, rfl, hi8, _, _, _, hc8, _⟩
          rw [← nums_length, List.take_length, nums_length] at hi8
          have cv : (convert 40 9 (.slice q8 s.size c8)).run Try.prog w8 = .ok (.string s) w8 := by
            have h := conv_bytes hi8 (nums_length s) c8
            rw [str_nums] at h
            exact h
          have HB8 := Lib.hid (put_below HB7.out HR7.out hc8.put (Nat.le_refl _))
          clear hi8 hc8 HB7 HR7
          go_wp2_with fail
          go_ret
          exact ⟨rfl, HB8.out⟩
theorem walk (s : ByteArray) (c : Int) (hs : s.size ≤ 140737488351232) (w : World) :
    Calls Try.prog 7 #[.string s, .int .u8 c] w fun e w' => e = .returned (.bool true) ∧ Below w.heap.size w w' := by
  by_cases h : s.size ≤ 100
  · exact walk_main s c h w
  · exact walk_long s c hs (by omega) w
end Go.Proofs.Ytkjljnfhnkaocaa.ringOwn
