/-
  What a ring's New, Force and Write do. Conditions: as each states.
-/
import Derived.Test.YtkjljnfhnkaocaaW1
import Derived.Lib.SmallJoins
namespace Go.Proofs.Ytkjljnfhnkaocaa
open Go.RowKit

/-- Bytes appended to a row of the call's own: it stays where it is, or is a new one. -/
theorem app_ring {w : World} {base m : Nat} {v : Value} {zs : List Int} (hown : w.ownsRow base 5 1 v m (zs.map (Value.int .u8))) (hbase : base ≤ w.heap.size) {p : Option Addr} {n c : Nat} {xs : List Int}
    (hx : xs.length = n) (hpc : p = none → c = 0) (hi : Lib.BytesIn w p n xs) (hbig : m + n ≤ 140737488355328) (ty : TypeId) :
    ∃ v' w', (Builtin.append_ #[40, 40] ty #[v, .slice p n c]).run Try.prog w = .ok v' w' ∧ w'.ownsRow base 5 1 v' (m + n) ((zs ++ xs).map (Value.int .u8)) ∧ w.grownBy w' v.ownBlock ∧ ∀ i, v'.ownBlock = some i → v.ownBlock = some i ∨ w.heap.size ≤ i := by
  obtain ⟨i0, hi0, hz0, hz1, hz2⟩ := info_parts info5
  rcases hown.2 with ⟨rfl, rfl⟩ | ⟨g, cap, cur, rfl, hbg, hg, hnc, hcm, hcs, htake⟩
  · have hz : zs = [] := List.eq_nil_of_length_eq_zero (by simpa using hown.1)
    subst hz
    obtain ⟨v', w', h1, h2, h3, _⟩ := app_bytes (w := w) (base := w.heap.size) (v := .slice none 0 0) (zs := []) (World.ownsRow_nil _ _ _ _) (Nat.le_refl _) hx hpc hi hbig ty
    refine ⟨v', w', h1, own_low (by simpa using h2) hbase, h3, fun i hi => Or.inr (h2.lt i hi).1⟩
  · obtain ⟨v', w', h1, h2, h3, _⟩ := app_bytes hown hbase hx hpc hi hbig ty
    refine ⟨v', w', h1, by simpa using h2, h3, fun i hi' => ?_⟩
    cases p with
    | none =>
      obtain rfl : c = 0 := hpc rfl
      obtain rfl : n = 0 := by
        rcases Nat.eq_zero_or_pos n with h | h
        · exact h
        · obtain ⟨_, _, h, _⟩ := hi.at h
          cases h
      have h := h1.symm.trans (run_append_owned_none (w := w) base 40 ty 5 i0 1 Try.underlying40 hi0 _ m _ hown)
      injection h with e _
      left
      rw [← e]
      exact hi'
    | some a =>
      have hnews : ∀ (j : Nat) u, (xs.map (Value.int .u8))[j]? = some u → w.cell? (a.add j) = some u := by
        intro j u hj
        have hj1 : j < xs.length := by have := (List.getElem?_eq_some_iff.mp hj).1; simpa using this
        obtain ⟨b, o, e, hc⟩ := hi.at (by omega)
        cases e
        rw [WideShapes.add_plain, hc j (by omega)]
        rw [List.getElem?_map, List.getElem?_eq_getElem hj1] at hj
        rw [List.getD_eq_getElem?_getD, List.getElem?_eq_getElem hj1]
        exact hj
      by_cases hroom : m + n ≤ cap
      · have h := h1.symm.trans (run_append_room (P := Try.prog) w 40 ty 5 i0 Try.underlying40 hi0 g m cap cur hg a n c (xs.map (Value.int .u8)) (by simp [hx, hz1]) hnews (by simp [Value.oneCell']) hroom (by rw [hz1]; simp; omega))
        injection h with e _
        left
        rw [e] at hi'
        exact hi'
      · have holds : ∀ (j : Nat) u, (zs.map (Value.int .u8))[j]? = some u → w.cell? ((⟨g, 0, none⟩ : Addr).add j) = some u := hown.cells (g := g) rfl
        have h := h1.symm.trans (run_append_grow (P := Try.prog) w 40 ty 5 i0 (.int .u8 0) Try.underlying40 hi0 hz0 ⟨g, 0, none⟩ m cap _ (by rw [hz1]; exact hown.1) holds a n c (xs.map (Value.int .u8)) (by simp [hx, hz1]) hnews (by omega) (by omega) (growslice_fits (by omega) (by rw [hz2]; omega)))
        injection h with e _
        right
        rw [e] at hi'
        have : w.heap.size = i := by simpa [Value.ownBlock] using hi'
        omega

theorem own_other {w : World} {base g : Nat} {v : Value} {n : Nat} {zs : List Value} {cs : Array Value} (ho : w.ownsRow base 5 1 v n zs) (hg : w.heap[g]? = some (.cells cs 53 (0, 0))) : v.ownBlock ≠ some g := by
  rcases ho.2 with ⟨rfl, _⟩ | ⟨b, cap, cur, rfl, _, hh, _⟩
  · simp [Value.ownBlock]
  · intro he
    have : b = g := by simpa [Value.ownBlock] using he
    subst this
    rw [hh] at hg
    simp at hg
theorem set_heap {w : World} {g i : Nat} {cs : Array Value} {T : TypeId} {fr : Nat × Nat} (hg : w.heap[g]? = some (.cells cs T fr)) (u : Value) : (w.setCell ⟨g, i, none⟩ u).heap[g]? = some (.cells (cs.setIfInBounds i u) T fr) := by
  simp [World.setCell, Array.getElem?_modify, hg]
/-- The row's field set anew, and the row itself. -/
theorem Raw.set1 {w : World} {base g : Nat} {room : Int} {v v' : Value} {full' : List Int} {G : Nat} (h : w.heap[g]? = some (.cells #[.int .i64 room, v, .int .i64 (G : Int)] 53 (0, 0))) (hb : base ≤ g) (h0 : 0 ≤ room) (h1 : room ≤ 4096)
    (ho : w.ownsRow base 5 1 v' full'.length (full'.map (Value.int .u8))) (hle : G ≤ full'.length) : Raw (w.setCell ⟨g, 1, none⟩ v') base g room v' full' G := by
  refine ⟨?_, ownsRow_setCell_other ho (own_other ho h) _, hle, hb, h0, h1⟩
  rw [set_heap h]
  rfl
theorem Raw.set2 {w : World} {base g : Nat} {room : Int} {v : Value} {full : List Int} {G : Nat} (h : Raw w base g room v full G) (G' : Nat) (hle : G' ≤ full.length) : Raw (w.setCell ⟨g, 2, none⟩ (.int .i64 (G' : Int))) base g room v full G' := by
  refine ⟨?_, ownsRow_setCell_other h.own (own_other h.own h.blk) _, hle, h.base, h.room0, h.room1⟩
  rw [set_heap h.blk]
  rfl
theorem kept_set {a w : World} {g : Nat} {u : Option Nat} (h : Kept a w g u) (i : Nat) (x : Value) : Kept a (w.setCell ⟨g, i, none⟩ x) g u :=
  ⟨h.os, h.tape, h.output, by simpa [World.setCell] using h.size, fun j hj hg hu => (Below.heap_setCell w ⟨g, i, none⟩ x j hg).trans (h.block j hj hg hu)⟩
theorem kept_grown {a w w' : World} {g : Nat} {u : Option Nat} (h : Kept a w g u) (hg : w.grownBy w' u) : Kept a w' g u := by
  have hs := h.size
  exact ⟨hg.os.trans h.os, hg.tape.trans h.tape, hg.output.trans h.output, Nat.le_trans h.size hg.size, fun j hj hgj hu => (hg.block j (by omega) (fun e => hu e.symm)).trans (h.block j hj hgj hu)⟩
theorem kept_refl (w : World) (g : Nat) (u : Option Nat) : Kept w w g u := ⟨rfl, rfl, rfl, Nat.le_refl _, fun _ _ _ _ => rfl⟩

set_option maxHeartbeats 2000000 in
theorem new_any (room : Int) (h0 : 0 ≤ room) (h1 : room ≤ 4096) (w : World) :
    Calls Try.prog 12 #[.int .i64 room] w fun e w' => e = .returned (.tuple #[.pointer (some ⟨w.heap.size, 0, none⟩), .int .i64 0]) ∧ Rg w' w.heap.size w.heap.size none room [] ∧ Below w.heap.size w w' ∧ w.heap.size < w'.heap.size := by
  go_enter Try.func12, Try.ntmps12
  go_wp2_with fail
  go_ret2
  exact ⟨rfl, ⟨⟨.slice none 0 0, [], 0, ⟨heap_alloc_new _ _, World.ownsRow_nil _ _ _ _, Nat.le_refl _, Nat.le_refl _, h0, h1⟩, rfl, rfl, Nat.le_refl _⟩, allB_nil⟩, (Below.refl _ _).alloc (Nat.le_refl _) _, by simp⟩
set_option maxHeartbeats 2000000 in
theorem new_no (room : Int) (h : ¬ (0 ≤ room ∧ room ≤ 4096)) (w : World) :
    Calls Try.prog 12 #[.int .i64 room] w fun e w' => e = .returned (.tuple #[.pointer none, .int .i64 1]) ∧ w = w' := by
  by_cases h0 : room < 0
  · go_enter Try.func12, Try.ntmps12
    go_wp2_with fail
    go_ret2
    exact ⟨rfl, rfl⟩
  · have h1 : 4096 < room := by omega
    go_enter Try.func12, Try.ntmps12
    go_wp2_with fail
    go_ret2
    exact ⟨rfl, rfl⟩

set_option maxHeartbeats 2000000 in
theorem force_any {base g : Nat} {u : Option Nat} {room : Int} {xs : List Int} {w : World} (h : Rg w base g u room xs) {p : Option Addr} {n c : Nat} {ys : List Int} (hy : ys.length = n) (hb : AllB ys) (hpc : p = none → c = 0) (hi : Lib.BytesIn w p n ys) (hbig : 2 * xs.length + n ≤ 140737488355328) :
    Calls Try.prog 22 #[.pointer (some ⟨g, 0, none⟩), .slice p n c] w fun e w' => e = .returned (.tuple #[]) ∧ Put w base g u room (xs ++ ys) w' := by
  obtain ⟨v, full, G, hr, rfl, rfl, hG⟩ := h.ex
  rw [List.length_drop] at hG hbig
  have hle := hr.le
  obtain ⟨v', w1, hrun, ho, hgr, hnew⟩ := app_ring hr.own (Nat.le_trans hr.base (Nat.le_of_lt hr.lt)) hy hpc hi (by omega) 40
  have g1 : w.cell? ⟨g, 1, none⟩ = some v := cell_of_row w g 1 _ _ _ hr.blk
  have hblk : w1.heap[g]? = some (.cells #[.int .i64 room, v, .int .i64 (G : Int)] 53 (0, 0)) := (hgr.block g hr.lt (fun e => own_other hr.own hr.blk e.symm)).trans hr.blk
  have g1' : w1.cell? ⟨g, 1, none⟩ = some v := cell_of_row w1 g 1 _ _ _ hblk
  have gf1 : w1.frozen? ⟨g, 1, none⟩ = false := by simp [World.frozen?, hblk]
  obtain ⟨vq, vc, rfl, _⟩ := own_bytes hr.own
  have ho' : w1.ownsRow base 5 1 v' (full ++ ys).length ((full ++ ys).map (Value.int .u8)) := by rw [List.length_append, hy]; exact ho
  obtain ⟨q', c', rfl, _⟩ := own_bytes ho'
  have HP := Lib.hid (show Put w base g (Value.slice vq full.length vc).ownBlock room (full.drop G ++ ys) (w1.setCell ⟨g, 1, none⟩ (.slice q' (full ++ ys).length c')) from by
    refine ⟨_, ⟨⟨_, full ++ ys, G, Raw.set1 hblk hr.base hr.room0 hr.room1 ho' (by rw [List.length_append]; omega), ?_, rfl, ?_⟩, h.all.append hb⟩, hnew, kept_set (kept_grown (kept_refl w g _) hgr) 1 _⟩
    · rw [List.drop_append_of_le_length hle]
    · rw [List.length_append, List.length_drop]; omega)
  have HR := Lib.hid hrun
  obtain ⟨N, hN⟩ : ∃ N, (full ++ ys).length = N := ⟨_, rfl⟩
  rw [hN] at HP HR
  clear hN
  clear h hr hi ho hgr hnew hblk ho' hrun hy
  go_enter Try.func22, Try.ntmps22
  go_wp2_with (at_builtin; refine Lib.wpList_append_run _ rfl _ _ _ _ rfl _ _ rfl rfl _ _ HR.out ?_)
  go_end0
  exact ⟨rfl, HP.out⟩
set_option maxHeartbeats 2000000 in
theorem write_any {base g : Nat} {u : Option Nat} {room : Int} {xs : List Int} {w : World} (h : Rg w base g u room xs) {p : Option Addr} {n c : Nat} {ys : List Int} (hy : ys.length = n) (hb : AllB ys) (hpc : p = none → c = 0) (hi : Lib.BytesIn w p n ys) (hnc : n ≤ c) (hc : c ≤ 9223372036854775807) (hbig : xs.length ≤ 4096000) (K : Nat) (hK : min n (room.toNat - xs.length) = K) :
    Calls Try.prog 21 #[.pointer (some ⟨g, 0, none⟩), .slice p n c] w fun e w' => e = .returned (.int .i64 (K : Int)) ∧ Put w base g u room (xs ++ ys.take K) w' := by
  obtain ⟨v, full, G, hr, _⟩ := id h.ex
  have h0 := hr.room0
  have h1 := hr.room1
  have hKn : K ≤ n := by omega
  have hF := fun (w' : World) (hb' : Below w.heap.size w w') => force_any (h.on hb') (p := p) (n := K) (c := c) (ys := ys.take K) (by rw [List.length_take]; omega) (hb.take K) hpc (bytes_on (bytes_take hi K hKn) hb') (by omega)
  have HF := Lib.hid hF
  have HL := Lib.hid (free_any h)
  have HPP := Lib.hid (fun (w1 w2 : World) (hb1 : Below w.heap.size w w1) (hp : Put w1 base g u room (xs ++ ys.take K) w2) => Put.trans (kept_below hb1 g u) (fun _ hi => Or.inl hi) hp)
  have hmin : min (n : Int) ((room.toNat - xs.length : Nat) : Int) = (K : Int) := by omega
  obtain ⟨F, hFr⟩ : ∃ F, room.toNat - xs.length = F := ⟨_, rfl⟩
  rw [hFr] at HL hmin
  clear h hr hF hi hb hK hy hFr
  go_enter Try.func21, Try.ntmps21
  go_wp2_with fail
  refine HL.out.mono ?_
  rintro e w1 ⟨rfl, hb1⟩
  have HB1 := Lib.hid hb1
  clear hb1
  go_wp2_with fail
  refine (HF.out _ HB1.out).mono ?_
  rintro e w2 ⟨rfl, hp⟩
  have HP := Lib.hid hp
  clear hp HF
  go_wp2_with fail
  go_ret
  exact ⟨rfl, HPP.out _ _ HB1.out HP.out⟩
end Go.Proofs.Ytkjljnfhnkaocaa
