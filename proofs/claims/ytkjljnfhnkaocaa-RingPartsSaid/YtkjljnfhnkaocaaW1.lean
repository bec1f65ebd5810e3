/-
  A ring of bytes behind a pointer: what it is, and what Len, Room, Free, most and Peek answer. Conditions: as each states.
-/
import Derived.Test.YtkjljnfhnkaocaaB
import Derived.Deep.RegionHeld
namespace Go.Proofs.Ytkjljnfhnkaocaa
open Go.RowKit

/-- A ring with that room, whose row's bytes from the place G on are its own, in the block g. -/
structure Raw (w : World) (base g : Nat) (room : Int) (v : Value) (full : List Int) (G : Nat) : Prop where
  blk : w.heap[g]? = some (.cells #[.int .i64 room, v, .int .i64 (G : Int)] 53 (0, 0))
  own : w.ownsRow base 5 1 v full.length (full.map (Value.int .u8))
  le : G ≤ full.length
  base : base ≤ g
  room0 : 0 ≤ room
  room1 : room ≤ 4096
/-- A ring of xs; u: its row's block, if there is one. -/
structure Rg (w : World) (base g : Nat) (u : Option Nat) (room : Int) (xs : List Int) : Prop where
  ex : ∃ (v : Value) (full : List Int) (G : Nat), Raw w base g room v full G ∧ full.drop G = xs ∧ v.ownBlock = u ∧ G ≤ xs.length
  all : AllB xs
theorem Raw.lt {w : World} {base g : Nat} {room : Int} {v : Value} {full : List Int} {G : Nat} (h : Raw w base g room v full G) : g < w.heap.size := (Array.getElem?_eq_some_iff.1 h.blk).1
theorem own_on {w w' : World} {base n : Nat} {v : Value} {zs : List Value} (h : w.ownsRow base 5 1 v n zs) (hb : Below w.heap.size w w') : w'.ownsRow base 5 1 v n zs :=
  h.kept (row := none) ⟨hb.os, hb.tape, hb.output, hb.size, fun i hi _ => hb.block i hi⟩ (by cases e : v.ownBlock <;> simp)
theorem Raw.on {w w' : World} {base g : Nat} {room : Int} {v : Value} {full : List Int} {G : Nat} (h : Raw w base g room v full G) (hb : Below w.heap.size w w') : Raw w' base g room v full G :=
  ⟨(hb.block g h.lt).trans h.blk, own_on h.own hb, h.le, h.base, h.room0, h.room1⟩
theorem Rg.on {w w' : World} {base g : Nat} {u : Option Nat} {room : Int} {xs : List Int} (h : Rg w base g u room xs) (hb : Below w.heap.size w w') : Rg w' base g u room xs := by
  obtain ⟨v, full, G, hr, rest⟩ := h.ex
  exact ⟨⟨v, full, G, hr.on hb, rest⟩, h.all⟩
theorem below_drewN (w : World) (m : Nat) : Below w.heap.size w (w.drewN m) := ⟨rfl, rfl, rfl, Nat.le_refl _, fun _ _ => rfl⟩
theorem Rg.drewN {w : World} {base g : Nat} {u : Option Nat} {room : Int} {xs : List Int} (h : Rg w base g u room xs) (m : Nat) : Rg (w.drewN m) base g u room xs := h.on (below_drewN w m)

/-- What is there is as it was, but for the ring in g, whose row is in u. -/
structure Kept (w w' : World) (g : Nat) (u : Option Nat) : Prop where
  os : w'.os = w.os
  tape : w'.tape = w.tape
  output : w'.output = w.output
  size : w.heap.size ≤ w'.heap.size
  block : ∀ i, i < w.heap.size → i ≠ g → u ≠ some i → w'.heap[i]? = w.heap[i]?
/-- The ring in g has become one of xs, and nothing else has turned. -/
def Put (w : World) (base g : Nat) (u : Option Nat) (room : Int) (xs : List Int) (w' : World) : Prop :=
  ∃ u', Rg w' base g u' room xs ∧ (∀ i, u' = some i → u = some i ∨ w.heap.size ≤ i) ∧ Kept w w' g u
theorem Put.trans {w w1 w2 : World} {base g : Nat} {u : Option Nat} {room : Int} {xs : List Int} {u1 : Option Nat} (hk : Kept w w1 g u) (hu : ∀ i, u1 = some i → u = some i ∨ w.heap.size ≤ i) (h : Put w1 base g u1 room xs w2) : Put w base g u room xs w2 := by
  obtain ⟨u2, hr, hu2, k2⟩ := h
  have hs := hk.size
  refine ⟨u2, hr, fun i hi => ?_, ⟨k2.os.trans hk.os, k2.tape.trans hk.tape, k2.output.trans hk.output, Nat.le_trans hk.size k2.size, fun i hi hg hn => ?_⟩⟩
  · rcases hu2 i hi with h | h
    · exact hu i h
    · right; omega
  · refine (k2.block i (by omega) hg fun e => ?_).trans (hk.block i hi hg hn)
    rcases hu i e with h | h
    · exact hn h
    · omega
theorem kept_below {w w' : World} (h : Below w.heap.size w w') (g : Nat) (u : Option Nat) : Kept w w' g u := ⟨h.os, h.tape, h.output, h.size, fun i hi _ _ => h.block i hi⟩
theorem put_on {w w' : World} {base g : Nat} {u : Option Nat} {room : Int} {xs : List Int} (h : Rg w base g u room xs) (hb : Below w.heap.size w w') : Put w base g u room xs w' := ⟨u, h.on hb, fun _ hi => Or.inl hi, kept_below hb g u⟩
theorem Put.then_below {w w1 w2 : World} {base g : Nat} {u : Option Nat} {room : Int} {xs : List Int} (h : Put w base g u room xs w1) (hb : Below w1.heap.size w1 w2) : Put w base g u room xs w2 := by
  obtain ⟨u1, hr, hu, hk⟩ := h
  exact Put.trans hk hu (put_on hr hb)
theorem Rg.u_base {w : World} {base g : Nat} {u : Option Nat} {room : Int} {xs : List Int} (h : Rg w base g u room xs) {i : Nat} (hi : u = some i) : base ≤ i ∧ i < w.heap.size := by
  obtain ⟨v, full, G, hr, _, rfl, _⟩ := h.ex
  exact hr.own.lt i hi
theorem Rg.g_base {w : World} {base g : Nat} {u : Option Nat} {room : Int} {xs : List Int} (h : Rg w base g u room xs) : base ≤ g ∧ g < w.heap.size := by
  obtain ⟨v, full, G, hr, _⟩ := h.ex
  exact ⟨hr.base, hr.lt⟩
/-- Below the ring's base nothing has turned. -/
theorem put_below {w0 w w' : World} {B base g : Nat} {u : Option Nat} {room : Int} {xs ys : List Int} (hb : Below B w0 w) (h : Rg w base g u room xs) (hp : Put w base g u room ys w') (hB : B ≤ base) : Below B w0 w' := by
  obtain ⟨u', _, _, hk⟩ := hp
  obtain ⟨h1, h2⟩ := h.g_base
  refine hb.trans ⟨hk.os, hk.tape, hk.output, hk.size, fun i hi => hk.block i (by omega) (by omega) fun e => ?_⟩
  have := (h.u_base e).1
  omega
theorem Rg.length {w : World} {base g : Nat} {u : Option Nat} {room : Int} {xs : List Int} (h : Rg w base g u room xs) : xs.length ≤ 9223372036854775807 := by
  obtain ⟨v, full, G, hr, rfl, _⟩ := h.ex
  obtain ⟨p, c, rfl, _, _, _, hnc, hc, _⟩ := own_bytes hr.own
  have := hr.le
  rw [List.length_drop]
  omega

/-- So many bytes of L: n, if there are so many; never less than 0. -/
def cut (n : Int) (L : Nat) : Nat := (max 0 (min n L)).toNat
theorem cut_le (n : Int) (L : Nat) : cut n L ≤ L := by unfold cut; omega
theorem cut_eq (n : Int) (L : Nat) : max 0 (min n (L : Int)) = (cut n L : Int) := by unfold cut; omega
theorem cut_nat (n L : Nat) (h : n ≤ L) : cut (n : Int) L = n := by unfold cut; omega
theorem cut_over (n : Int) (L : Nat) (h : (L : Int) ≤ n) : cut n L = L := by unfold cut; omega
theorem cut_neg (n : Int) (L : Nat) (h : n < 0) : cut n L = 0 := by unfold cut; omega

set_option maxHeartbeats 2000000 in
theorem len_raw (base g : Nat) (room : Int) (v : Value) (full : List Int) (G : Nat) (w : World) (h : Raw w base g room v full G) :
    Calls Try.prog 16 #[.pointer (some ⟨g, 0, none⟩)] w fun e w' => e = .returned (.int .i64 ((full.length : Int) - G)) ∧ ∃ m, w' = w.drewN m := by
  obtain ⟨q, d, rfl, _, _, _, hnd, hd, _⟩ := own_bytes h.own
  have hle := h.le
  have g1 : w.cell? ⟨g, 1, none⟩ = some (.slice q full.length d) := cell_of_row w g 1 _ _ _ h.blk
  have g2 : w.cell? ⟨g, 2, none⟩ = some (.int .i64 G) := cell_of_row w g 2 _ _ _ h.blk
  clear h
  go_enter Try.func16, Try.ntmps16
  go_wp2_with fail
  go_quiet (fail)
  go_wp2_with fail
  go_ret
  exact ⟨rfl, _, rfl⟩
theorem len_any {base g : Nat} {u : Option Nat} {room : Int} {xs : List Int} {w : World} (h : Rg w base g u room xs) :
    Calls Try.prog 16 #[.pointer (some ⟨g, 0, none⟩)] w fun e w' => e = .returned (.int .i64 (xs.length : Int)) ∧ ∃ m, w' = w.drewN m := by
  obtain ⟨v, full, G, hr, rfl, _⟩ := h.ex
  have hle := hr.le
  refine (len_raw base g room v full G w hr).mono ?_
  rintro e w' ⟨rfl, hm⟩
  exact ⟨ret_int (by rw [List.length_drop]; omega), hm⟩
set_option maxHeartbeats 2000000 in
theorem room_any {base g : Nat} {u : Option Nat} {room : Int} {xs : List Int} {w : World} (h : Rg w base g u room xs) :
    Calls Try.prog 17 #[.pointer (some ⟨g, 0, none⟩)] w fun e w' => e = .returned (.int .i64 room) ∧ w = w' := by
  obtain ⟨v, full, G, hr, _⟩ := h.ex
  have g0 : w.cell? ⟨g, 0, none⟩ = some (.int .i64 room) := cell_of_row w g 0 _ _ _ hr.blk
  clear h hr
  go_enter Try.func17, Try.ntmps17
  go_wp2_with fail
  go_ret
  exact ⟨rfl, rfl⟩
set_option maxHeartbeats 2000000 in
theorem most_any {base g : Nat} {room : Int} {v : Value} {full : List Int} {G : Nat} {w : World} (h : Raw w base g room v full G) (n : Int) :
    Calls Try.prog 29 #[.pointer (some ⟨g, 0, none⟩), .int .i64 n] w fun e w' => e = .returned (.int .i64 (cut n (full.length - G) : Int)) ∧ ∃ m, w' = w.drewN m := by
  have HL := Lib.hid (len_raw base g room v full G w h)
  have hle := h.le
  clear h
  go_enter Try.func29, Try.ntmps29
  go_wp2_with fail
  refine HL.out.mono ?_
  rintro e w1 ⟨rfl, m, hm⟩
  have HM := Lib.hid hm
  clear hm
  go_wp2_with fail
  go_ret
  exact ⟨ret_int (by rw [← cut_eq]; omega), m, HM.out⟩
set_option maxHeartbeats 2000000 in
theorem free_any {base g : Nat} {u : Option Nat} {room : Int} {xs : List Int} {w : World} (h : Rg w base g u room xs) :
    Calls Try.prog 18 #[.pointer (some ⟨g, 0, none⟩)] w fun e w' => e = .returned (.int .i64 ((room.toNat - xs.length : Nat) : Int)) ∧ Below w.heap.size w w' := by
  obtain ⟨v, full, G, hr, _⟩ := id h.ex
  have h0 := hr.room0
  have h1 := hr.room1
  have hl := h.length
  have HC := Lib.hid (show ∀ w', Below w.heap.size w w' → w'.cell? ⟨g, 0, none⟩ = some (.int .i64 room) ∧ Below w.heap.size w w' from fun w' hb => ⟨cell_of_row w' g 0 _ _ _ (hr.on hb).blk, hb⟩)
  have HL := Lib.hid (fun (w' : World) (hb : Below w.heap.size w w') => len_any (h.on hb))
  clear h hr
  go_enter Try.func18, Try.ntmps18
  go_wp2_with fail
  go_region_held (fun w' => w'.cell? ⟨g, 0, none⟩ = some (.int .i64 room) ∧ Below w.heap.size w w')
    ((refine HC.out _ ?_
      go_split_ands
      first
        | with_reducible exact (Below.refl _ _).drew
        | with_reducible assumption))
    (first
      | (go_at_call 16; go_split_ands; (with_reducible refine Calls.mono (HL.out _ (by assumption)) ?_); rintro e w' ⟨rfl, m, hm⟩; (have hb' := seqB (by assumption) (show Below _ _ w' by rw [hm]; exact below_drewN _ m)); clear hm))
  go_split_ands
  go_wp2_with fail
  go_ret
  exact ⟨ret_int (by rw [IntWalk.i64_in _ (by omega)]; omega), by assumption⟩
end Go.Proofs.Ytkjljnfhnkaocaa
