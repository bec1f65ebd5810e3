/-
  Contracts: newPart, Insert of a chain. Conditions: as each states.
  Contract: New of a chain. Conditions: as each states.
-/
import Derived.Test.YtfdfgnmgpgkknaaMY24
namespace Go.Proofs.Ytfdfgnmgpgkknaa
open Go.RowKit

section
variable {w w' : World}
set_option maxRecDepth 100000 in
set_option maxHeartbeats 8000000 in
theorem part_yes {t : Tox} {seed room now : Int} (ht : t.s.size ≤ maxLen) (hE : newE t room = 0) (w : World) : Calls Try.prog 19 #[t.v, .int .u64 seed, .int .i64 room, .int .i64 now] w fun e w' =>
    ∃ pp gg U, e = .returned (.tuple #[ptr pp, .int .i64 0]) ∧ PAt w' pp gg U (newS t seed room now) false 0 ∧ Fr w w' (oneU pp U) := by
  have hal : Below w.heap.size w (w.alloc (toxObj t)) := (Below.refl _ _).alloc (Nat.le_refl _) _
  have hnew := heap_alloc_new w (toxObj t)
  have HN := Lib.hid (new_ok (seed := seed) (now := now) ht hE (w.alloc (toxObj t)))
  have HA := Lib.hid hal
  have HF := Lib.hid (fun (W : World) gg U (hr : Rep W U gg (newS t seed room now) 0) (hu : ∀ i, U i → (w.alloc (toxObj t)).heap.size ≤ i) (hb : Below (w.alloc (toxObj t)).heap.size (w.alloc (toxObj t)) W) => (show PAt (W.alloc (.cells #[ptr gg, .bool false] 59)) W.heap.size gg U (newS t seed room now) false 0 ∧ Fr w (W.alloc (.cells #[ptr gg, .bool false] 59)) (oneU W.heap.size U) from by
    have hb2 : Below W.heap.size W (W.alloc (.cells #[ptr gg, .bool false] 59)) := (Below.refl _ _).alloc (Nat.le_refl _) _
    have hs : w.heap.size ≤ W.heap.size := Nat.le_trans hal.size hb.size
    refine ⟨⟨heap_alloc_new W _, rep_on2 hr fun i hi => hb2.block i ((rep_lt hr).2 i hi)⟩, (hal.trans (hb.mono hal.size)).trans (hb2.mono hs), fun i hi => ?_⟩
    rcases hi with rfl | hi
    · exact hs
    · exact Nat.le_trans hal.size (hu i hi)))
  unfold toxObj at hnew HN HF
  unfold Tox.v at *
  have u0 := cell_of_row _ w.heap.size 0 _ _ _ hnew
  have u1 := cell_of_row _ w.heap.size 1 _ _ _ hnew
  have u2 := cell_of_row _ w.heap.size 2 _ _ _ hnew
  have u3 := cell_of_row _ w.heap.size 3 _ _ _ hnew
  have u4 := cell_of_row _ w.heap.size 4 _ _ _ hnew
  have u5 := cell_of_row _ w.heap.size 5 _ _ _ hnew
  clear hnew hal
  go_enter Try.func19, Try.ntmps19
  go_wp2_with fail
  refine HN.out.mono ?_
  rintro e w1 ⟨gg, U, rfl, hr, hu, hb⟩
  have HR := Lib.hid (HF.out w1 gg U hr hu hb)
  clear hr hu hb HF HN u0 u1 u2 u3 u4 u5
  go_wp2_with fail
  go_ret2
  exact ⟨w1.heap.size, gg, U, rfl, HR.out.1, HR.out.2⟩
set_option maxRecDepth 100000 in
set_option maxHeartbeats 8000000 in
theorem part_no {t : Tox} {seed room now : Int} (ht : t.s.size ≤ maxLen) (hE : newE t room ≠ 0) (w : World) : Calls Try.prog 19 #[t.v, .int .u64 seed, .int .i64 room, .int .i64 now] w fun e w' =>
    e = .returned (.tuple #[.pointer none, .int .i64 (newE t room)]) ∧ Below w.heap.size w w' := by
  have hal : Below w.heap.size w (w.alloc (toxObj t)) := (Below.refl _ _).alloc (Nat.le_refl _) _
  have hnew := heap_alloc_new w (toxObj t)
  have HN := Lib.hid (new_no (seed := seed) (now := now) ht hE (w.alloc (toxObj t)))
  have HA := Lib.hid hal
  have d1 : decide (newE t room = 0) = false := by simpa using hE
  have d2 : (newE t room == 0) = false := by simpa using hE
  have d3 : (newE t room != 0) = true := by simpa using hE
  generalize newE t room = E at *
  unfold toxObj at hnew HN HA
  unfold Tox.v at *
  have u0 := cell_of_row _ w.heap.size 0 _ _ _ hnew
  have u1 := cell_of_row _ w.heap.size 1 _ _ _ hnew
  have u2 := cell_of_row _ w.heap.size 2 _ _ _ hnew
  have u3 := cell_of_row _ w.heap.size 3 _ _ _ hnew
  have u4 := cell_of_row _ w.heap.size 4 _ _ _ hnew
  have u5 := cell_of_row _ w.heap.size 5 _ _ _ hnew
  clear hnew hal
  go_enter Try.func19, Try.ntmps19
  go_wp2_with fail
  refine HN.out.mono ?_
  rintro e w1 ⟨rfl, hb⟩
  have HR := Lib.hid (HA.out.trans (hb.mono HA.out.size))
  clear hb HN u0 u1 u2 u3 u4 u5
  go_wp2_with fail
  go_ret2
  exact ⟨rfl, HR.out⟩
end
section
variable {w w' : World} {g : Nat} {p : Option Addr} {cap : Nat} {q : List Nd} {c c' : Ch} {M M' : Nat}
/-- A chain that a call left, whose row may be another one. -/
def CNew (w : World) (g : Nat) (p : Option Addr) (q : List Nd) (c : Ch) (M : Nat) (w' : World) : Prop := ∃ p' cap' q', CAt w' g p' cap' q' c M ∧ Mvd w (blkC g p q) w' (blkC g p' q')
theorem CPut.new (h : CPut w g p cap q c M w') : CNew w g p q c M w' := by
  obtain ⟨q', h1, h2, _⟩ := h
  exact ⟨p, cap, q', h1, h2⟩
set_option maxRecDepth 100000 in
set_option maxHeartbeats 8000000 in
theorem ins_place (h : CAt w g p cap q c M) (h2 : 2 ≤ c.L.length) (at' : Int) (t : Tox) (seed now : Int) (hn : at' < 0 ∨ (c.L.length : Int) - 2 < at' ∨ (c.L.length : Int) - 2 = 8) :
    Calls Try.prog 20 #[ptr g, .int .i64 at', t.v, .int .u64 seed, .int .i64 now] w fun e w' => e = .returned (.int .i64 110) ∧ Below w.heap.size w w' := by
  have hal : Below w.heap.size w (w.alloc (toxObj t)) := (Below.refl _ _).alloc (Nat.le_refl _) _
  have HM := Lib.hid (many_c (h.on hal) h2)
  have HA := Lib.hid hal
  unfold toxObj at HM HA
  unfold Tox.v
  generalize (c.L.length : Int) - 2 = n at *
  clear h hal
  by_cases h1 : at' < 0
  · go_enter Try.func20, Try.ntmps20
    go_wp2_with fail
    try rw [Exit.noGoto_ret]
    go_ret
    exact ⟨rfl, HA.out⟩
  · by_cases h3 : n < at'
    · go_enter Try.func20, Try.ntmps20
      go_wp2_with (go_at_call 36; refine HM.out.mono ?_; rintro e w' ⟨rfl, rfl⟩)
      try rw [Exit.noGoto_ret]
      go_ret
      exact ⟨rfl, HA.out⟩
    · obtain rfl : n = 8 := by omega
      go_enter Try.func20, Try.ntmps20
      go_wp2_with (go_at_call 36; refine HM.out.mono ?_; rintro e w' ⟨rfl, rfl⟩)
      try rw [Exit.noGoto_ret]
      go_ret
      exact ⟨rfl, HA.out⟩
set_option maxRecDepth 100000 in
set_option maxHeartbeats 8000000 in
theorem ins_no (h : CAt w g p cap q c M) (h2 : 2 ≤ c.L.length) (k : Nat) (t : Tox) (ht : t.s.size ≤ maxLen) (seed now : Int) (hk : k + 2 ≤ c.L.length) (h9 : c.L.length < 10) (hE : newE t c.room ≠ 0) :
    Calls Try.prog 20 #[ptr g, .int .i64 (k : Int), t.v, .int .u64 seed, .int .i64 now] w fun e w' => e = .returned (.int .i64 (newE t c.room)) ∧ Below w.heap.size w w' := by
  have hal : Below w.heap.size w (w.alloc (toxObj t)) := (Below.refl _ _).alloc (Nat.le_refl _) _
  have hnew := heap_alloc_new w (toxObj t)
  have h1 := h.on hal
  have HM := Lib.hid (many_c h1 h2)
  have x1 : (w.alloc (toxObj t)).cell? ⟨g, 1, none⟩ = some (.int .i64 c.room) := h1.cell 1
  have HN := Lib.hid (part_no (seed := seed) (now := now) ht hE (w.alloc (toxObj t)).drew)
  have HA := Lib.hid hal
  have d1 : decide (newE t c.room = 0) = false := by simpa using hE
  have d2 : (newE t c.room == 0) = false := by simpa using hE
  have d3 : (newE t c.room != 0) = true := by simpa using hE
  have hkn : ¬ ((c.L.length : Int) - 2 < (k : Int)) := by omega
  have hn8 : ¬ ((c.L.length : Int) - 2 = 8) := by omega
  generalize newE t c.room = E at *
  generalize c.room = room at *
  generalize (c.L.length : Int) - 2 = n at *
  have e1 : decide ((k : Int) < 0) = false := by simp
  have e2 : decide (n < (k : Int)) = false := by simpa using hkn
  have e3 : (n == 8) = false := by simpa using hn8
  unfold toxObj at hnew HN HA HM x1
  unfold Tox.v at *
  have u0 := cell_of_row _ w.heap.size 0 _ _ _ hnew
  have u1 := cell_of_row _ w.heap.size 1 _ _ _ hnew
  have u2 := cell_of_row _ w.heap.size 2 _ _ _ hnew
  have u3 := cell_of_row _ w.heap.size 3 _ _ _ hnew
  have u4 := cell_of_row _ w.heap.size 4 _ _ _ hnew
  have u5 := cell_of_row _ w.heap.size 5 _ _ _ hnew
  clear hnew hal h h1
  go_enter Try.func20, Try.ntmps20
  go_wp2_with (go_at_call 36; refine HM.out.mono ?_; rintro e w' ⟨rfl, rfl⟩)
  go_region_law
    (go_simp; go_at_call 19; refine Calls.mono HN.out ?_; rintro e w7 ⟨rfl, hb⟩; (have HB7 := Lib.hid hb); clear hb)
  all_goals go_wp2_with fail
  all_goals try rw [Exit.noGoto_ret]
  all_goals go_ret
  all_goals exact ⟨rfl, HA.out.drew.trans (HB7.out.mono HA.out.size)⟩
/-- A new part beside a chain. -/
def Beside (w : World) (g : Nat) (p : Option Addr) (cap : Nat) (q : List Nd) (c : Ch) (M : Nat) (pp gg : Nat) (s : St) (bb : Bool) (w' : World) : Prop :=
  ∃ U, CAt w' g p cap q c M ∧ PAt w' pp gg U s bb 0 ∧ (∀ i, oneU pp U i → ¬ blkC g p q i) ∧ Mvd w (blkC g p q) w' (orU (blkC g p q) (oneU pp U)) ∧ s.S.size = 0
theorem beside_on {w'' : World} {pp gg : Nat} {s : St} {bb : Bool} (h : Beside w g p cap q c M pp gg s bb w') (hb : Below w'.heap.size w' w'') : Beside w g p cap q c M pp gg s bb w'' := by
  obtain ⟨U, h1, h2, h3, h4, h5⟩ := h
  exact ⟨U, h1.on hb, h2.on hb, h3, h4.on hb, h5⟩
theorem beside_new {W : World} {pp gg : Nat} {U : Own} {s : St} {bb : Bool} (h : CAt w g p cap q c M) (hb : Below w.heap.size w W) (hp : PAt w' pp gg U s bb 0) (hf : Fr W w' (oneU pp U)) (hs : s.S.size = 0) : Beside w g p cap q c M pp gg s bb w' := by
  obtain ⟨f1, f2⟩ := hf
  have hbb : Below w.heap.size w w' := hb.trans (f1.mono hb.size)
  refine ⟨U, h.on hbb, hp, fun i hi hc => ?_, ⟨⟨hbb.mono (Nat.zero_le _), fun i hi _ => hbb.block i hi⟩, fun i hi => ?_⟩, hs⟩
  · have := f2 i hi
    have := h.lt hc
    have := hb.size
    omega
  · rcases hi with e | e
    · exact Or.inl e
    · exact Or.inr (Nat.le_trans hb.size (f2 i e))
theorem beside_shut {pp gg : Nat} {s : St} {bb : Bool} (now : Int) (h : Beside w g p cap q c M pp gg s bb w') : Calls Try.prog 34 #[ptr pp, .int .i64 now] w' fun e w2 => e = .returned (.tuple #[]) ∧ Beside w g p cap q c M pp gg (closeS s now) true w2 := by
  obtain ⟨U, h1, h2, h3, h4, h5⟩ := h
  refine (shut_p h2 now).mono ?_
  intro e w2 hs
  obtain ⟨U', a1, a2⟩ := hs.alone h2
  refine ⟨hs.1, U', h1.keep fun i hi => a2.1.2 i (h1.lt hi) (fun e => h3 i e hi), a1, fun i hi hc => ?_, h4.trans (a2.mono (fun i hi => Or.inr hi) fun i hi => ?_), by rw [close_S]; exact h5⟩
  · rcases a2.2 i hi with e | e
    · exact h3 i e hc
    · have := h1.lt hc
      omega
  · rcases hi with e | e
    · exact Or.inr (Or.inl e)
    · exact Or.inl e
theorem insL_set (l : List Prt) (k : Nat) (x y : Prt) (h : k + 1 ≤ l.length) : (Ch.insL l k x).set (k + 1) y = Ch.insL l k y := by
  unfold Ch.insL
  rw [List.set_append_right _ _ (by rw [List.length_take]; omega), List.length_take, show k + 1 - min (k + 1) l.length = 0 by omega]
  rfl
/-- What an Insert makes of a chain. -/
theorem insN_is (c : Ch) (k : Nat) (t : Tox) (seed now : Int) (hk : k + 2 ≤ c.L.length) : c.insN k t seed now = { c with L := Ch.insL c.L k (if (c.at' (k + 1)).closed = true then ⟨closeS (newS t seed c.room now) now, true⟩ else ⟨newS t seed c.room now, false⟩) } := by
  have e0 : c.insN k t seed now = if (({ c with L := Ch.insL c.L k ⟨newS t seed c.room now, false⟩ } : Ch).at' (k + 2)).closed = true then ({ c with L := Ch.insL c.L k ⟨newS t seed c.room now, false⟩ } : Ch).onC (k + 1) (Ch.oClose now) else { c with L := Ch.insL c.L k ⟨newS t seed c.room now, false⟩ } := rfl
  have e1 : ({ c with L := Ch.insL c.L k ⟨newS t seed c.room now, false⟩ } : Ch).at' (k + 2) = c.at' (k + 1) := Ch.insL_gt _ _ _ _ (by omega) (Nat.le_refl _)
  have e2 : ({ c with L := Ch.insL c.L k ⟨newS t seed c.room now, false⟩ } : Ch).at' (k + 1) = ⟨newS t seed c.room now, false⟩ := Ch.insL_eq _ _ _ (by omega)
  rw [e0, e1]
  split
  · unfold Ch.onC
    rw [e2]
    show ({ c with L := (Ch.insL c.L k _).set (k + 1) _ } : Ch) = _
    rw [insL_set _ _ _ _ (by omega)]
    rfl
  · rfl
theorem ins_store {b o k pp gg : Nat} {s : St} {bb : Bool} {w2 : World} (h2 : Beside w g (some ⟨b, o, none⟩) cap q c M pp gg s bb w2) (hk : k + 2 ≤ c.L.length) (h9 : c.L.length < 10) :
    Calls Try.prog 37 #[.slice (some ⟨b, o, none⟩) c.L.length cap, .int .i64 ((k : Int) + 1), .slice (some ⟨w2.heap.size, 0, none⟩) 1 1] (w2.alloc (.cells #[ptr pp] PT)) fun e w' =>
      ∃ a cap', e = .returned (.slice (some a) (c.L.length + 1) cap') ∧ (w'.cell? ⟨g, 0, none⟩ = some (.slice (some ⟨b, o, none⟩) c.L.length cap) ∧ w'.frozen? ⟨g, 0, none⟩ = false) ∧ CNew w g (some ⟨b, o, none⟩) q { c with L := Ch.insL c.L k ⟨s, bb⟩ } M (w'.setCell ⟨g, 0, none⟩ (.slice (some a) (c.L.length + 1) cap')) := by
  have hal : Below w2.heap.size w2 (w2.alloc (.cells #[ptr pp] PT)) := (Below.refl _ _).alloc (Nat.le_refl _) _
  have hnew := heap_alloc_new w2 (.cells #[ptr pp] PT)
  obtain ⟨U, a1, a2, a3, a4, a5⟩ := beside_on h2 hal
  have hne : w2.heap.size ≠ b := by
    obtain ⟨U', b1, _⟩ := h2
    have : b < w2.heap.size := (b1.row.lt _ rfl).2
    intro e
    omega
  have hl := a1.len
  generalize w2.alloc (.cells #[ptr pp] PT) = w3 at *
  have hi : ((k : Int) + 1) = ((k + 1 : Nat) : Int) := by omega
  rw [hi]
  refine (ins_row a1.row (i := k + 1) (by omega) (by omega) hnew hne (fun v hv => ?_) rfl).mono ?_
  · obtain ⟨x, _, rfl⟩ := List.mem_map.1 hv
    rfl
  · rintro e w' ⟨a, cap', rfl, hr, hg, ha⟩
    obtain ⟨b1, b2⟩ := a1.ins hk h9 a2 a3 a5 hr hg ha
    have hgb : g ≠ b := fun e => a1.r_ne_g rfl e.symm
    have hblk : w'.heap[g]? = some (.cells (chC (some ⟨b, o, none⟩) c.L.length cap c) 48 (0, 0)) := (hg.block g (gb.blk_lt a1.blk) (fun e => by cases e; exact hgb rfl)).trans a1.blk
    exact ⟨a, cap', rfl, ⟨cell_of_row _ _ 0 _ _ _ hblk, gb.frozen_at hblk⟩, _, _, _, b1, a4.trans b2⟩
set_option maxRecDepth 100000 in
set_option maxHeartbeats 16000000 in
theorem ins_yes (h : CAt w g p cap q c M) (h2 : 2 ≤ c.L.length) (k : Nat) (t : Tox) (ht : t.s.size ≤ maxLen) (seed now : Int) (hk : k + 2 ≤ c.L.length) (h9 : c.L.length < 10) (hE : newE t c.room = 0) :
    Calls Try.prog 20 #[ptr g, .int .i64 (k : Int), t.v, .int .u64 seed, .int .i64 now] w fun e w' => e = .returned (.int .i64 0) ∧ CNew w g p q (c.insN k t seed now) M w' := by
  have hal : Below w.heap.size w (w.alloc (toxObj t)) := (Below.refl _ _).alloc (Nat.le_refl _) _
  have hnew := heap_alloc_new w (toxObj t)
  have h1 := h.on hal
  obtain ⟨b, o, rfl, hr, hnc, hmx⟩ := h1.rows (by omega)
  have HM := Lib.hid (many_c h1 h2)
  have x1 : (w.alloc (toxObj t)).cell? ⟨g, 1, none⟩ = some (.int .i64 c.room) := h1.cell 1
  have HN := Lib.hid (part_yes (seed := seed) (now := now) ht hE (w.alloc (toxObj t)).drew)
  have hk1 : k + 1 < c.L.length := by omega
  have HB := Lib.hid (fun W pp gg U (hp : PAt W pp gg U (newS t seed c.room now) false 0) (hf : Fr (w.alloc (toxObj t)).drew W (oneU pp U)) => (show Beside w g (some ⟨b, o, none⟩) cap q c M pp gg (newS t seed c.room now) false W from beside_new h hal.drew hp hf rfl))
  have HCL := Lib.hid (fun W pp gg s bb (hx : Beside w g (some ⟨b, o, none⟩) cap q c M pp gg s bb W) => (show (W.cell? ⟨g, 0, none⟩ = some (.slice (some ⟨b, o, none⟩) c.L.length cap) ∧ W.cell? ⟨b, o + (k + 1), none⟩ = some (ptr (nd q (k + 1)).p)) ∧ W.cell? ⟨(nd q (k + 1)).p, 1, none⟩ = some (.bool (c.at' (k + 1)).closed) from by
    obtain ⟨U, a1, _⟩ := hx
    exact ⟨⟨a1.cell 0, a1.rowk hk1⟩, (a1.pcell hk1).2.1⟩))
  have HSH := Lib.hid (fun W pp gg (hx : Beside w g (some ⟨b, o, none⟩) cap q c M pp gg (newS t seed c.room now) false W) => beside_shut now hx)
  have HST := Lib.hid (fun W pp gg s bb (hx : Beside w g (some ⟨b, o, none⟩) cap q c M pp gg s bb W) => ins_store (k := k) hx hk h9)
  have hlt := gb.blk_lt h.blk
  have HLT := Lib.hid (fun W pp gg s bb (hx : Beside w g (some ⟨b, o, none⟩) cap q c M pp gg s bb W) => (show g < W.heap.size from by
    obtain ⟨U, a1, _⟩ := hx
    exact gb.blk_lt a1.blk))
  have HIS := Lib.hid (insN_is c k t seed now hk)
  have e1 : decide ((k : Int) < 0) = false := by simp
  have e2 : decide ((c.L.length : Int) - 2 < (k : Int)) = false := by simp; omega
  have e3 : ((c.L.length : Int) - 2 == 8) = false := by simp; omega
  have hti : ((k : Int) + 1).toNat = k + 1 := by omega
  have hi0 : (0 : Int) ≤ (k : Int) + 1 := by omega
  have hi1 : (k : Int) + 1 < (c.L.length : Int) := by omega
  have hiw : IntKind.i64.wrap ((k : Int) + 1) = (k : Int) + 1 := wrap_id (by omega) (by omega)
  have hk10 : k ≤ 10 := by omega
  obtain ⟨cl, hcl⟩ : ∃ cl, (c.at' (k + 1)).closed = cl := ⟨_, rfl⟩
  rw [hcl] at HCL HIS
  have HIS2 := HIS
  generalize hci : c.insN k t seed now = ci at *
  have HCI := Lib.hid hci
  generalize hcr : c.room = room at x1 HN
  generalize (c.L.length : Int) - 2 = n2 at HM e2 e3
  have HCR := Lib.hid hcr
  generalize hn : c.L.length = n at hnc h2 hk hk1 HCL hi1 h9
  unfold toxObj at hnew HN HB HM x1
  unfold Tox.v at *
  have u0 := cell_of_row _ w.heap.size 0 _ _ _ hnew
  have u1 := cell_of_row _ w.heap.size 1 _ _ _ hnew
  have u2 := cell_of_row _ w.heap.size 2 _ _ _ hnew
  have u3 := cell_of_row _ w.heap.size 3 _ _ _ hnew
  have u4 := cell_of_row _ w.heap.size 4 _ _ _ hnew
  have u5 := cell_of_row _ w.heap.size 5 _ _ _ hnew
  have HNL := Lib.hid hn
  rw [hn] at HST
  rw [hcr] at HB HSH HIS
  clear hnew hal h h1 hr hcl hci hcr hn hlt HIS2
  generalize nd q (k + 1) = ndk at *
  go_enter Try.func20, Try.ntmps20
  go_wp2_with (go_at_call 36; refine HM.out.mono ?_; rintro e w' ⟨rfl, rfl⟩)
  go_region_law
    (go_simp; go_at_call 19; refine Calls.mono HN.out ?_; rintro e w7 ⟨pp, gg, U, rfl, hp, hf⟩; (have HB7 := Lib.hid (HB.out w7 pp gg U hp hf)); clear hp hf)
  all_goals
    clear u0 u1 u2 u3 u4 u5 x1 HM HN HB
    have y0 := (HCL.out w7 pp gg _ _ HB7.out).1.1
    have y1 := (HCL.out w7 pp gg _ _ HB7.out).1.2
    have y2 := (HCL.out w7 pp gg _ _ HB7.out).2
    generalize ndk.p = pk at *
    cases cl with
    | true =>
      have HIS3 := Lib.hid (HIS.out.trans (by rw [if_pos rfl]))
      go_wp2_with (first
        | (go_at_call 34; refine (HSH.out w7 pp gg HB7.out).mono ?_; rintro e w8 ⟨rfl, hb8⟩; (have HB8 := Lib.hid hb8); (have y8 := (HCL.out w8 pp gg _ _ HB8.out).1.1); clear hb8 y0 y1 y2)
        | (go_at_call 37; refine (HST.out w8 pp gg _ _ HB8.out).mono ?_; rintro e w9 ⟨a, cap', rfl, ⟨z0, f0⟩, hc⟩; (have HC9 := Lib.hid hc); clear hc y8))
      try rw [Exit.noGoto_ret]
      go_ret
      refine ⟨rfl, ?_⟩
      rw [HIS3.out]
      have hz := HC9.out
      rw [HCR.out] at hz
      exact hz
    | false =>
      have HIS3 := Lib.hid (HIS.out.trans (by rw [if_neg (by decide)]))
      go_wp2_with (go_at_call 37; refine (HST.out w7 pp gg _ _ HB7.out).mono ?_; rintro e w9 ⟨a, cap', rfl, ⟨z0, f0⟩, hc⟩; (have HC9 := Lib.hid hc); clear hc y0 y1 y2)
      try rw [Exit.noGoto_ret]
      go_ret
      refine ⟨rfl, ?_⟩
      rw [HIS3.out]
      have hz := HC9.out
      rw [HCR.out] at hz
      exact hz
end
end Go.Proofs.Ytfdfgnmgpgkknaa
namespace Go.Proofs.Ytfdfgnmgpgkknaa
open Go.RowKit

section
variable {w w' : World}
/-- A chain without stages. -/
def emptyC (room : Int) : Ch := ⟨[], room, 0, false, 0⟩
/-- A chain that is being made: so many stages, all of its own. -/
def Made (w0 : World) (g : Nat) (c : Ch) (W : World) : Prop := ∃ p cap q, CAt W g p cap q c 0 ∧ Fr w0 W (blkC g p q)
theorem made_start (w : World) (room : Int) : Made w w.heap.size (emptyC room) (w.alloc (.cells #[.slice none 0 0, .int .i64 room, .int .i64 0, .bool false, .int .i64 0] 48)) := by
  have hal : Below w.heap.size w (w.alloc (.cells #[.slice none 0 0, .int .i64 room, .int .i64 0, .bool false, .int .i64 0] 48)) := (Below.refl _ _).alloc (Nat.le_refl _) _
  refine ⟨none, 0, [], ⟨rfl, Nat.zero_le _, heap_alloc_new w _, gc.orow_nil _ _ _ _, fun k hk => absurd hk (Nat.not_lt_zero k), fun k hk => absurd hk (Nat.not_lt_zero k), fun i j hi => absurd hi (Nat.not_lt_zero i), fun k hk => absurd hk (Nat.not_lt_zero k), ⟨Int.le_refl _, Int.le_refl _⟩, by decide⟩, hal, fun i hi => ?_⟩
  rcases hi with rfl | ⟨a, ha, _⟩ | ⟨x, hx, _⟩
  · exact Nat.le_refl _
  · cases ha
  · cases hx
theorem made_on {w0 W W' : World} {g : Nat} {c : Ch} (h : Made w0 g c W) (hb : Below W.heap.size W W') : Made w0 g c W' := by
  obtain ⟨p, cap, q, h1, h2⟩ := h
  exact ⟨p, cap, q, h1.on hb, ⟨h2.1.trans (hb.mono h2.1.size), h2.2⟩⟩
theorem sum_map_zero (l : List Prt) (h : ∀ x ∈ l, x.s.S.size = 0) : (l.map fun p => p.s.S.size).sum = 0 := by
  induction l with
  | nil => rfl
  | cons a r ih =>
    have h1 := h a (by simp)
    have h2 := ih (fun x hx => h x (by simp [hx]))
    simp only [List.map_cons, List.sum_cons]
    omega
/-- One stage more, behind the others. -/
theorem made_more {w0 W : World} {g : Nat} {c : Ch} {pp gg : Nat} {U : Own} {s : St} {bb : Bool} {p : Option Addr} {cap : Nat} {q : List Nd} (h1 : CAt W g p cap q c 0) (h2 : Fr w0 W (blkC g p q)) (h9 : c.L.length < 10) (hp : PAt W pp gg U s bb 0) (hd : ∀ i, oneU pp U i → w0.heap.size ≤ i) (hdj : ∀ i, oneU pp U i → ¬ blkC g p q i) (hs : s.S.size = 0) :
    ∃ p' cap' W', W.cell? ⟨g, 0, none⟩ = some (.slice p c.L.length cap) ∧ (∀ ty, (Builtin.append_ #[PS, PS] ty #[.slice p c.L.length cap, .slice (some ⟨W.heap.size, 0, none⟩) 1 1]).run Try.prog (W.alloc (.cells #[ptr pp] PT)) = .ok (.slice p' (c.L.length + 1) cap') W') ∧
      (W'.cell? ⟨g, 0, none⟩ = some (.slice p c.L.length cap) ∧ W'.frozen? ⟨g, 0, none⟩ = false) ∧ Made w0 g { c with L := c.L ++ [(⟨s, bb⟩ : Prt)] } (W'.setCell ⟨g, 0, none⟩ (.slice p' (c.L.length + 1) cap')) := by
  have hal : Below W.heap.size W (W.alloc (.cells #[ptr pp] PT)) := (Below.refl _ _).alloc (Nat.le_refl _) _
  have hnew := heap_alloc_new W (.cells #[ptr pp] PT)
  obtain ⟨i0, hi0, hz0, hz1, hz2⟩ := info_parts pinfo
  have hrow := (h1.row.on hal)
  obtain ⟨p', cap', W', hr1, hr2, hr3, hr4⟩ := gc.app_row (t := PS) hrow (Nat.zero_le _) Try.underlying46 hi0 hz0 hz1 hz2 rfl (by decide) (a := ⟨W.heap.size, 0, none⟩) (m := 1) (d := 1) (news := [ptr pp]) rfl (fun j u hj => by
    cases j with
    | zero => cases hj; rw [WideShapes.add_plain]; exact cell_of_row _ _ 0 _ _ _ hnew
    | succ j => cases hj) (fun u hu => by simp at hu; rw [hu]; rfl) (by unfold maxLen; omega) (by omega)
  have hlt : ∀ i, i < W.heap.size → (∀ a, p = some a → a.block ≠ i) → W'.heap[i]? = W.heap[i]? := fun i hi hne => (hr3.block i (Nat.lt_of_lt_of_le hi hal.size) (fun e => by
    cases p with
    | none => cases e
    | some a =>
      have e : some i = some a.block := e
      cases e
      exact hne a rfl rfl)).trans (hal.block i hi)
  have hgl := gb.blk_lt h1.blk
  have hg1 : W'.heap[g]? = W.heap[g]? := hlt g hgl (fun a ha e => h1.r_ne_g ha e)
  have hq := h1.len
  have hob : ∀ (v : Value) i, i < W.heap.size → (∀ a, p = some a → a.block ≠ i) → i ≠ g → (W'.setCell ⟨g, 0, none⟩ v).heap[i]? = W.heap[i]? := fun v i hi h1 h2 => (Below.heap_setCell _ _ _ _ h2).trans (hlt i hi h1)
  obtain ⟨v, hv⟩ : ∃ v, Value.slice p' (c.L.length + 1) cap' = v := ⟨_, rfl⟩
  have hst : ∀ j, j < c.L.length → Rep (W'.setCell ⟨g, 0, none⟩ v) (nd q j).U (nd q j).g (c.at' j).s (nd q j).m := fun j hj => rep_on2 (h1.stg j hj) fun i hi => hob v i ((rep_lt (h1.stg j hj)).2 i hi) (fun a ha e => h1.not_r hj ha (by rw [e]; exact hi)) (fun e => h1.not_g hj (by rw [← e]; exact hi))
  have hpt : ∀ j, j < c.L.length → (W'.setCell ⟨g, 0, none⟩ v).heap[(nd q j).p]? = some (.cells (prtC (nd q j).g (c.at' j).closed) 59 (0, 0)) := fun j hj => (hob v _ (gb.blk_lt (h1.prt j hj)) (fun a ha e => h1.r_ne_p hj ha e) (h1.p_ne_g hj)).trans (h1.prt j hj)
  have hnw : PAt (W'.setCell ⟨g, 0, none⟩ v) pp gg U s bb 0 := hp.keep fun i hi => hob v i (hp.lt hi) (fun a ha e => hdj i hi (Or.inr (Or.inl ⟨a, ha, e⟩))) (fun e => hdj i hi (Or.inl e))
  have hlq : nd (q ++ [(⟨pp, gg, U, 0⟩ : Nd)]) c.L.length = ⟨pp, gg, U, 0⟩ := by
    unfold nd
    rw [List.getD_eq_getElem?_getD, List.getElem?_append_right (by omega), hq, Nat.sub_self]
    rfl
  have hoq : ∀ j, j < c.L.length → nd (q ++ [(⟨pp, gg, U, 0⟩ : Nd)]) j = nd q j := fun j hj => by
    unfold nd
    rw [List.getD_eq_getElem?_getD, List.getD_eq_getElem?_getD, List.getElem?_append_left (by omega)]
  have hlc : ({ c with L := c.L ++ [(⟨s, bb⟩ : Prt)] } : Ch).at' c.L.length = ⟨s, bb⟩ := by
    unfold Ch.at'
    rw [List.getD_eq_getElem?_getD, List.getElem?_append_right (Nat.le_refl _), Nat.sub_self]
    rfl
  have hoc : ∀ j, j < c.L.length → ({ c with L := c.L ++ [(⟨s, bb⟩ : Prt)] } : Ch).at' j = c.at' j := fun j hj => by
    unfold Ch.at'
    rw [List.getD_eq_getElem?_getD, List.getD_eq_getElem?_getD, List.getElem?_append_left hj]
  have hsz : ∀ j, j < c.L.length → (c.at' j).s.S.size = 0 := fun j hj => by
    have h3 := h1.sum j hj
    have h4 := (rep_ok (h1.stg j hj)).1
    omega
  have hsum : ∀ j, sumA (c.L ++ [(⟨s, bb⟩ : Prt)]) j = 0 := fun j => by
    unfold sumA
    refine sum_map_zero _ fun y hy => ?_
    have hy := List.mem_of_mem_take hy
    rcases List.mem_append.1 hy with hy | hy
    · obtain ⟨k, hk, rfl⟩ := List.getElem_of_mem hy
      have := hsz k hk
      unfold Ch.at' at this
      rw [List.getD_eq_getElem?_getD, List.getElem?_eq_getElem hk] at this
      exact this
    · simp at hy
      rw [hy]
      exact hs
  have hl1 : (c.L ++ [(⟨s, bb⟩ : Prt)]).length = c.L.length + 1 := by simp
  refine ⟨p', cap', W', h1.cell 0, fun ty => hr1 ty, ⟨cell_of_row _ _ 0 _ _ _ (hg1.trans h1.blk), gb.frozen_at (hg1.trans h1.blk)⟩, p', cap', q ++ [⟨pp, gg, U, 0⟩], ⟨?_, ?_, ?_, ?_, fun j hj => ?_, fun j hj => ?_, fun i j hi hj hne => ?_, fun j hj => ?_, ?_, by decide⟩, ⟨⟨?_, ?_, ?_, ?_, fun i hi => ?_⟩, fun i hi => ?_⟩⟩
  · rw [List.length_append]
    show q.length + 1 = (c.L ++ [(⟨s, bb⟩ : Prt)]).length
    rw [hl1, hq]
  · show (c.L ++ [(⟨s, bb⟩ : Prt)]).length ≤ 10
    rw [hl1]
    omega
  · show _ = some (Obj.cells (chC p' (c.L ++ [(⟨s, bb⟩ : Prt)]).length cap' _) _ _)
    rw [hl1]
    have := hg1.trans h1.blk
    rw [gb.set_heap this]
    rfl
  · show gc.ORow _ 0 _ 1 p' (c.L ++ [(⟨s, bb⟩ : Prt)]).length cap' _
    rw [hl1, List.map_append]
    exact hr2.set (hg1.trans h1.blk) (by decide) 0 _
  · have hj : j < c.L.length + 1 := by rw [← hl1]; exact hj
    rw [hv]
    rcases Nat.lt_or_ge j c.L.length with e | e
    · rw [hoq j e, hoc j e]
      exact hpt j e
    · obtain rfl : j = c.L.length := by omega
      rw [hlq, hlc]
      exact hnw.prt
  · have hj : j < c.L.length + 1 := by rw [← hl1]; exact hj
    rw [hv]
    rcases Nat.lt_or_ge j c.L.length with e | e
    · rw [hoq j e, hoc j e]
      exact hst j e
    · obtain rfl : j = c.L.length := by omega
      rw [hlq, hlc]
      exact hnw.stg
  · have hi : i < c.L.length + 1 := by rw [← hl1]; exact hi
    have hj : j < c.L.length + 1 := by rw [← hl1]; exact hj
    rcases Nat.lt_or_ge i c.L.length with e | e <;> rcases Nat.lt_or_ge j c.L.length with f | f
    · rw [hoq i e, hoq j f]
      exact h1.apart i j e f hne
    · obtain rfl : j = c.L.length := by omega
      rw [hoq i e, hlq]
      exact ⟨fun ee => hdj pp (Or.inl rfl) (by have ee : (nd q i).p = pp := ee; rw [← ee]; exact own_p (by omega)), fun x hx hx' => hdj x (Or.inr hx') (own_U (by omega) hx)⟩
    · obtain rfl : i = c.L.length := by omega
      rw [hoq j f, hlq]
      exact ⟨fun ee => hdj pp (Or.inl rfl) (by have ee : pp = (nd q j).p := ee; rw [ee]; exact own_p (by omega)), fun x hx hx' => hdj x (Or.inr hx) (own_U (by omega) hx')⟩
    · omega
  · have hj : j < c.L.length + 1 := by rw [← hl1]; exact hj
    show (nd (q ++ [(⟨pp, gg, U, 0⟩ : Nd)]) j).m + sumA (c.L ++ [(⟨s, bb⟩ : Prt)]) j ≤ 0
    rw [hsum]
    rcases Nat.lt_or_ge j c.L.length with e | e
    · rw [hoq j e]
      have := h1.sum j e
      omega
    · obtain rfl : j = c.L.length := by omega
      rw [hlq]
      exact Nat.le_refl _
  · show 0 ≤ c.lost ∧ c.lost + (sumA (c.L ++ [(⟨s, bb⟩ : Prt)]) _ : Nat) ≤ 0
    rw [hsum]
    have := h1.los
    omega
  · exact hr3.os.trans (hal.os.trans h2.1.os)
  · exact hr3.tape.trans (hal.tape.trans h2.1.tape)
  · exact hr3.output.trans (hal.output.trans h2.1.output)
  · have := Nat.le_trans h2.1.size (Nat.le_trans hal.size hr3.size)
    simpa [World.setCell] using this
  · rw [hob _ i (Nat.lt_of_lt_of_le hi h2.1.size) (fun a ha e => by have := h2.2 a.block (Or.inr (Or.inl ⟨a, ha, rfl⟩)); omega) (fun e => by have := h2.2 g (Or.inl rfl); omega)]
    exact h2.1.block i hi
  · rcases hi with e | ⟨a, ha, e⟩ | ⟨x, hx, e⟩
    · exact h2.2 i (Or.inl e)
    · rcases hr4 a ha with h5 | h5
      · cases p with
        | none => cases h5
        | some a0 =>
          have h5 : a0.block = a.block := Option.some.inj h5
          exact h2.2 i (Or.inr (Or.inl ⟨a0, rfl, h5.trans e⟩))
      · have := h2.1.size
        have := hal.size
        omega
    · rcases List.mem_append.1 hx with hx | hx
      · exact h2.2 i (Or.inr (Or.inr ⟨x, hx, e⟩))
      · simp at hx
        rw [hx] at e
        exact hd i e
end
end Go.Proofs.Ytfdfgnmgpgkknaa
