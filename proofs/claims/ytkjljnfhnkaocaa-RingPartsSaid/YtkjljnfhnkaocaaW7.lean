/-
  What a ring's Copy is. Conditions: as each states.
-/
import Derived.Test.YtkjljnfhnkaocaaW6
namespace Go.Proofs.Ytkjljnfhnkaocaa
open Go.RowKit

/-- A ring of the call's own, in a new block. -/
def Own (room : Int) (xs : List Int) (w : World) (e : Ending) (w' : World) : Prop := ∃ g u, e = .returned (.pointer (some ⟨g, 0, none⟩)) ∧ Rg w' w.heap.size g u room xs ∧ Below w.heap.size w w'

set_option maxHeartbeats 2000000 in
theorem copy_any {base g : Nat} {u : Option Nat} {room : Int} {xs : List Int} {w : World} (h : Rg w base g u room xs) (hbig : xs.length ≤ 140737488355328) :
    Calls Try.prog 24 #[.pointer (some ⟨g, 0, none⟩)] w (Own room xs w) := by
  obtain ⟨v, full, G, hr, _⟩ := id h.ex
  have h0 := hr.room0
  have h1 := hr.room1
  have HA := Lib.hid h.all
  have HC := Lib.hid (show ∀ w', Below w.heap.size w w' → w'.cell? ⟨g, 0, none⟩ = some (.int .i64 room) ∧ Below w.heap.size w w' from fun w' hb => ⟨cell_of_row w' g 0 _ _ _ (hr.on hb).blk, hb⟩)
  have HL := Lib.hid (fun (w' : World) (hb : Below w.heap.size w w') => len_any (h.on hb))
  have HP := Lib.hid (show ∀ w', Below w.heap.size w w' → Calls Try.prog 20 #[.pointer (some ⟨g, 0, none⟩), .int .i64 (xs.length : Int)] w' fun e w2 => ∃ q c, e = .returned (.slice q xs.length c) ∧ w2.ownsRow w'.heap.size 5 1 (.slice q xs.length c) xs.length (xs.map (Value.int .u8)) ∧ Below w'.heap.size w' w2 from fun w' hb => by
    have hp := peek_any (h.on hb) hbig (xs.length : Int)
    rw [cut_nat _ _ (Nat.le_refl _), List.take_length] at hp
    refine hp.mono ?_
    rintro e w2 ⟨v, rfl, ho, hb2⟩
    obtain ⟨q, c, rfl, _⟩ := own_bytes ho
    exact ⟨q, c, rfl, ho, hb2⟩)
  clear h hr
  go_enter Try.func24, Try.ntmps24
  go_wp2_with fail
  go_region_held (fun w' => w'.cell? ⟨g, 0, none⟩ = some (.int .i64 room) ∧ Below w.heap.size w w')
    ((refine HC.out _ ?_
      go_split_ands
      first
        | with_reducible exact (Below.refl _ _).drew
        | with_reducible assumption
        | with_reducible exact Below.alloc (by assumption) (Below.size (by assumption)) _))
    (first
      | (go_at_call 16; go_split_ands; (with_reducible refine Calls.mono (HL.out _ (by assumption)) ?_); rintro e w' ⟨rfl, m, hm⟩; (have hb' := seqB (by assumption) (show Below _ _ w' by rw [hm]; exact below_drewN _ m)); clear hm)
      | (go_at_call 20; go_split_ands; (with_reducible refine Calls.mono (HP.out _ (by assumption)) ?_); rintro e w' ⟨q, c, rfl, hown, hb2⟩; (have HO := Lib.hid (own_low hown (Below.size (by assumption)))); clear hown; (have hb' := seqB (by assumption) hb2); (have HB' := Lib.hid hb'); clear hb2))
  go_split_ands
  go_wp2_with fail
  go_ret
  have ho3 := HO.out.alloc (.cells #[.int .i64 room, .slice q xs.length c, .int .i64 0] 53 (0, 0))
  exact ⟨_, (Value.slice q xs.length c).ownBlock, rfl, ⟨⟨.slice q xs.length c, xs, 0, ⟨heap_alloc_new _ _, ho3, Nat.zero_le _, HB'.out.size, h0, h1⟩, rfl, rfl, Nat.zero_le _⟩, HA.out⟩, by assumption⟩
end Go.Proofs.Ytkjljnfhnkaocaa
