/-
  Contract: what the statements' own alive answers. Conditions: as each states.
  What a chain's call answers is a count, or a state. Conditions: none.
  A new chain keeps, and is safe; what was kept is a beginning. Conditions: none.
-/
import Derived.Test.YtfdfgnmgpgkknaaMY29
namespace Go.Proofs.Ytfdfgnmgpgkknaa
open Go.RowKit gc

def vt0 : Tox := ⟨⟨#[97]⟩, 6, false, 100, 2, 0⟩
def vo (k n : Int) (b : ByteArray) (t : Tox) : COp := ⟨k, 0, n, b, t, 0⟩
def ac0 : Ch := Ch.newC 9 0
def ac1 : Ch := ac0.doN (vo 0 0 ⟨#[97, 98, 99]⟩ noTox)
def ac2 : Ch := ac1.doN (vo 5 0 ⟨#[]⟩ vt0)
def ac3 : Ch := ac2.doN (vo 3 0 ⟨#[]⟩ noTox)
def ac4 : Ch := ac3.doN (vo 4 9 ⟨#[]⟩ noTox)
def ac5 : Ch := ac4.doN (vo 3 0 ⟨#[]⟩ noTox)
theorem ac_new : newE noTox 9 = 0 := by decide +kernel
theorem ac_a1 : (ac0.doA (vo 0 0 ⟨#[97, 98, 99]⟩ noTox)).n = 3 := by decide +kernel
theorem ac_a2 : (ac1.doA (vo 5 0 ⟨#[]⟩ vt0)).e = 0 := by decide +kernel
theorem ac_a3 : (ac2.doA (vo 3 0 ⟨#[]⟩ noTox)).n = 0 := by decide +kernel
theorem ac_a4 : (ac3.doA (vo 4 9 ⟨#[]⟩ noTox)).s = ⟨#[97, 98]⟩ := by decide +kernel
theorem ac_a5 : (ac4.doA (vo 3 0 ⟨#[]⟩ noTox)).n = 1 := by decide +kernel
theorem ac_l5 : ac5.lost = 1 := by decide +kernel
theorem ac_h5 : ac5.held = 0 := by decide +kernel
theorem ac_t5 : ac5.L.length - 2 = 1 := by decide +kernel
theorem vmade_bytes (w : World) (xs : List Int) (n : Nat) (fr : Nat × Nat) (hn : xs.length = n) : Lib.BytesIn (w.alloc (.cells (xs.map (Value.int .u8)).toArray 5 fr)) (some ⟨w.heap.size, 0, none⟩) n xs := fun _ => ⟨_, _, rfl, fun i hi => by
    rw [World.cell?_alloc_fr]
    simp only [Nat.zero_add, List.getElem?_toArray, List.getElem?_map]
    rw [List.getD_eq_getElem?_getD, List.getElem?_eq_getElem (by omega)]
    rfl⟩
set_option maxRecDepth 100000 in
set_option maxHeartbeats 8000000 in
theorem valive_any (w : World) : Calls Try.prog 10 #[] w fun e w' => e = .returned (.bool true) ∧ Below w.heap.size w w' := by
  have kc := fun (w : World) (C : Array Value) (n c : Nat) => Lib.run_convert_bytes_const (P := Try.prog) w 41 5 C n c Try.underlying41 Try.underlying5
  have HN := Lib.hid (new_v (room := 9) (now := 0) ac_new w)
  go_enter Try.func10, Try.ntmps10
  go_wp2_with fail
  refine HN.out.mono ?_
  rintro e w1 ⟨g, U, rfl, h1⟩
  have H1 := Lib.hid (show CHd w w1 U g ac0 0 from h1)
  clear h1 HN
  go_wp2_with fail
  clear kc
  have hb2 : Below w1.heap.size w1 (w1.alloc (.cells #[.int .u8 97, .int .u8 98, .int .u8 99] 5 (3, 4))) := (Below.refl _ _).alloc (Nat.le_refl _) _
  have HP := Lib.hid (put_v (H1.out.on hb2).1 0 0 (pb := some ⟨w1.heap.size, 0, none⟩) (nb := 3) (cb := 3) (b := ⟨#[97, 98, 99]⟩) noTox 0 rfl (vmade_bytes w1 [97, 98, 99] 3 (3, 4) rfl) (Nat.le_refl _) (M' := 3) (by decide) (by decide))
  have H2 := Lib.hid (H1.out.on hb2)
  clear hb2 H1
  rw [show (ac0.doA ⟨0, 0, 0, ⟨#[97, 98, 99]⟩, noTox, 0⟩).n = 3 from ac_a1] at HP
  refine HP.out.mono ?_
  rintro e w2 ⟨rfl, hs⟩
  obtain ⟨U2, h3, _⟩ := H2.out.step hs
  have H3 := Lib.hid (show CHd w w2 U2 g ac1 3 from h3)
  clear hs h3 H2 HP
  go_wp2_with fail
  have HI := Lib.hid (insert_v H3.out.1 0 0 ⟨#[]⟩ vt0 (by decide) 0)
  rw [show (ac1.doA ⟨5, 0, 0, ⟨#[]⟩, vt0, 0⟩).e = 0 from ac_a2] at HI
  unfold Tox.v vt0 at HI
  simp only at HI
  refine HI.out.mono ?_
  rintro e w3 ⟨rfl, hs⟩
  obtain ⟨U3, h4, _⟩ := H3.out.step hs
  have H4 := Lib.hid (show CHd w w3 U3 g ac2 3 from h4)
  clear hs h4 H3 HI
  go_wp2_with fail
  have HS := Lib.hid (step_v H4.out.1 0 0 ⟨#[]⟩ noTox 0)
  rw [show (ac2.doA ⟨3, 0, 0, ⟨#[]⟩, noTox, 0⟩).n = 0 from ac_a3] at HS
  refine HS.out.mono ?_
  rintro e w4 ⟨rfl, hs⟩
  obtain ⟨U4, h5, _⟩ := H4.out.step hs
  have H5 := Lib.hid (show CHd w w4 U4 g ac3 3 from h5)
  clear hs h5 H4 HS
  go_wp2_with fail
  have HT := Lib.hid (take_v H5.out.1 0 9 ⟨#[]⟩ noTox 0)
  rw [show (ac3.doA ⟨4, 0, 9, ⟨#[]⟩, noTox, 0⟩).s = ⟨#[97, 98]⟩ from ac_a4] at HT
  refine HT.out.mono ?_
  rintro e w5 ⟨q5, d5, rfl, hi5, hd5, hd5', hs⟩
  obtain ⟨U5, h6, _⟩ := H5.out.step hs
  have H6 := Lib.hid (show CHd w w5 U5 g ac4 3 from h6)
  have cv1 : (convert 41 9 (.slice q5 2 d5)).run Try.prog w5 = .ok (.string ⟨#[97, 98]⟩) w5 := gc.got_text (d := d5) hi5 rfl
  have hd5 : 2 ≤ d5 := hd5
  clear hs h6 H5 HT hi5
  rw [show (⟨#[97, 98]⟩ : ByteArray).size = 2 from rfl]
  go_wp2_with fail
  clear cv1
  have HS := Lib.hid (step_v H6.out.1 0 0 ⟨#[]⟩ noTox 0)
  rw [show (ac4.doA ⟨3, 0, 0, ⟨#[]⟩, noTox, 0⟩).n = 1 from ac_a5] at HS
  refine HS.out.mono ?_
  rintro e w6 ⟨rfl, hs⟩
  obtain ⟨U6, h7, _⟩ := H6.out.step hs
  have H7 := Lib.hid (show CHd w w6 U6 g ac5 3 from h7)
  clear hs h7 H6 HS
  go_wp2_with fail
  have hl := lost_v H7.out.1
  rw [ac_l5] at hl
  refine hl.mono ?_
  rintro e w' ⟨rfl, rfl⟩
  clear hl
  go_wp2_with fail
  have hh := held_v H7.out.1
  rw [ac_h5] at hh
  refine hh.mono ?_
  rintro e w' ⟨rfl, rfl⟩
  clear hh
  go_wp2_with fail
  have ht := toxics_v H7.out.1
  unfold ToxOut at ht
  rw [ac_t5] at ht
  refine ht.mono ?_
  rintro e w8 ⟨a, d, rfl, _, hb⟩
  have HB8 := Lib.hid (H7.out.on hb).2.2
  clear ht hb H7
  go_wp2_with fail
  go_ret
  exact ⟨rfl, HB8.out⟩
end Go.Proofs.Ytfdfgnmgpgkknaa
namespace Go.Proofs.Ytfdfgnmgpgkknaa
open Go.RowKit
namespace Ch
/-- Its state is one of three. -/
structure St3 (c : Ch) : Prop where
  ends : Ends c
  st : 0 ≤ c.state ∧ c.state ≤ 2
theorem loseN_state (c : Ch) (n : Nat) : (c.loseN n).state = c.state := by
  induction n with
  | zero => rfl
  | succ n ih => exact ih
theorem break_state (c : Ch) (h : 0 ≤ c.state ∧ c.state ≤ 2) : 0 ≤ c.breakC.state ∧ c.breakC.state ≤ 2 := by
  unfold breakC
  split
  · exact h
  · exact ⟨by show (0 : Int) ≤ 2; decide, by show (2 : Int) ≤ 2; decide⟩
theorem step_state (c : Ch) (now : Int) (he : Ends c) (h : 0 ≤ c.state ∧ c.state ≤ 2) (h2 : 2 ≤ c.L.length) : 0 ≤ (c.stepC now).state ∧ (c.stepC now).state ≤ 2 := by
  unfold stepC
  split
  · exact h
  · split
    · exact break_state _ (by rw [(looks_rest c now _).2.2]; exact h)
    · show 0 ≤ ((c.step3 now).ansC (c.L.length - 1) (oLook now)).n ∧ ((c.step3 now).ansC (c.L.length - 1) (oLook now)).n ≤ 2
      have h3 := (he.step3 now h2).outlet now (by rw [len_step3]; exact h2)
      rw [len_step3] at h3
      rcases h3 with e | e <;> rw [e] <;> decide
theorem ins_state (c : Ch) (k : Nat) (t : Tox) (seed now : Int) : (c.insN k t seed now).state = c.state := by
  unfold insN
  dsimp only
  split <;> rfl
theorem rem_state (c : Ch) (k : Nat) (now : Int) : (c.remC k now).state = c.state := by
  have h3 : (c.rem3 k now).state = c.state := by
    unfold rem3
    split
    · show (Ch.loseN _ _).state = _
      rw [loseN_state]
      rfl
    · rfl
  unfold remC
  split
  · exact h3
  · exact h3
theorem St3.do {c : Ch} (h : St3 c) (o : COp) (h2 : 2 ≤ c.L.length) : St3 (c.doN o) := by
  refine ⟨h.ends.doN o h2, ?_⟩
  have hs := h.st
  unfold doN
  split
  · split <;> exact hs
  split
  · split <;> exact hs
  split
  · exact break_state c hs
  split
  · exact step_state c _ h.ends hs h2
  split
  · split <;> exact hs
  split
  · split
    · exact hs
    · rw [ins_state]; exact hs
  split
  · split
    · rw [rem_state]; exact hs
    · exact hs
  split
  · split <;> exact hs
  exact hs
theorem St3.new (room now : Int) : St3 (newC room now) := ⟨Ends.new room now, by show (0 : Int) ≤ 0; decide, by show (0 : Int) ≤ 2; decide⟩
theorem St3.ans {c : Ch} (h : St3 c) (o : COp) (h2 : 2 ≤ c.L.length) : 0 ≤ (c.doA o).n ∧ (o.kind = 0 → (c.doA o).n ≤ o.s.size) := by
  have hd := (h.do o h2).st
  by_cases h0 : o.kind = 0
  · unfold doA
    rw [if_pos h0]
    split
    · exact ⟨Int.le_refl _, fun _ => Int.natCast_nonneg _⟩
    · have hb := bring_n (c.at' 0).s o.now o.s
      refine ⟨?_, fun _ => ?_⟩
      · show 0 ≤ (bringS (c.at' 0).s o.now o.s).2
        omega
      · show (bringS (c.at' 0).s o.now o.s).2 ≤ o.s.size
        omega
  refine ⟨?_, fun e => absurd e h0⟩
  unfold doA
  rw [if_neg h0]
  split
  · exact Int.le_refl _
  split
  · exact Int.le_refl _
  split
  · rename_i h3
    unfold doN at hd
    rw [if_neg h0, if_neg (by omega), if_neg (by omega), if_pos h3] at hd
    exact hd.1
  split
  · split <;> exact Int.le_refl _
  split
  · exact Int.le_refl _
  split
  · split <;> exact Int.le_refl _
  split
  · split <;> exact Int.le_refl _
  exact Int.le_refl _
end Ch
end Go.Proofs.Ytfdfgnmgpgkknaa
namespace Go.Proofs.Ytfdfgnmgpgkknaa
open Go.RowKit
namespace Ch
theorem kept_new (room now : Int) : Kept (newC room now) ⟨#[]⟩ ⟨#[]⟩ := ⟨⟨⟨#[]⟩, rfl⟩, fun _ => rfl⟩
theorem kept_pf {c : Ch} {i o : ByteArray} (h : Kept c i o) : o.size ≤ i.size ∧ i.extract 0 o.size = o := by
  obtain ⟨r, hr⟩ := h.1
  rw [ByteArray.append_assoc] at hr
  rw [hr]
  refine ⟨by rw [ByteArray.size_append]; omega, ?_⟩
  exact ByteArray.extract_append_eq_left rfl
theorem safe_new (room now : Int) : Safe (newC room now) := by
  refine ⟨fun k hk => ?_, fun k hk => ?_, fun k hk hc => ?_⟩
  · have hk : k < 2 := hk
    rcases (show k = 0 ∨ k = 1 by omega) with rfl | rfl <;> exact stok_new noTox 0 room now (by decide)
  · have hk : k < 2 := hk
    rcases (show k = 0 ∨ k = 1 by omega) with rfl | rfl <;> rfl
  · have hk : k < 2 := hk
    rcases (show k = 0 ∨ k = 1 by omega) with rfl | rfl <;> exact absurd hc (by show ¬ (false = true); decide)
theorem St3.held2 {c : Ch} (h : St3 c) (o : COp) (hl : 2 ≤ c.L.length ∧ c.L.length ≤ 10) (h0 : c.state = 2 → c.held = 0) : (c.doN o).state = 2 → (c.doN o).held = 0 := by
  by_cases hs : c.state = 2
  · exact fun _ => none_held c o hl hs (h0 hs)
  unfold doN
  split
  · split
    · exact fun e => absurd e hs
    · exact fun e => absurd e hs
  split
  · split
    · exact fun e => absurd e hs
    · exact fun e => absurd e hs
  split
  · intro e
    by_cases h1 : c.state = 1
    · unfold breakC at e
      rw [if_pos h1] at e
      exact absurd e hs
    · exact (held_break c h1).1
  split
  · unfold stepC
    split
    · exact fun e => absurd e hs
    · split
      · exact fun _ => (held_break _ (by rw [(looks_rest c o.now _).2.2]; omega)).1
      · intro e
        have h3 := (h.ends.step3 o.now hl.1).outlet o.now (by rw [len_step3]; exact hl.1)
        rw [len_step3] at h3
        have e : ((c.step3 o.now).ansC (c.L.length - 1) (oLook o.now)).n = 2 := e
        omega
  split
  · exact fun e => absurd e hs
  split
  · split
    · exact fun e => absurd e hs
    · intro e
      rw [ins_state] at e
      exact absurd e hs
  split
  · split
    · intro e
      rw [rem_state] at e
      exact absurd e hs
    · exact fun e => absurd e hs
  split
  · split
    · exact fun e => absurd e hs
    · exact fun e => absurd e hs
  exact fun e => absurd e hs
end Ch
end Go.Proofs.Ytfdfgnmgpgkknaa
