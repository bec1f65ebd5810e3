/-
  Contracts: alarms beside their row in order: New, Cancel, Move, When, Next, Len. Conditions: as each states.
-/
import Derived.Test.YtpohfcjmjfhdoaaW6
import Derived.Test.YtpohfcjmjfhdoaaH3
namespace Go.Proofs.Ytpohfcjmjfhdoaa
open Go.RowKit Go.Sort Go.Maps

/-- Alarms behind a pointer: the struct in g, its row in u, its map in m; L is the row in order. -/
structure Al (w : World) (base g : Nat) (u : Option Nat) (m : Nat) (L : List Due) (last : Int) : Prop where
  ex : ∃ s, Mem w base g u m s last ∧ Lk s L last
  low : 0 ≤ last
  top : last ≤ 100000
  cnt : (L.length : Int) ≤ last
theorem Al.on {w w' : World} {base g : Nat} {u : Option Nat} {m : Nat} {L : List Due} {last : Int} (h : Al w base g u m L last) (hb : Below w.heap.size w w') : Al w' base g u m L last := by
  obtain ⟨s, h1, h2⟩ := h.ex
  exact ⟨⟨s, h1.on hb, h2⟩, h.low, h.top, h.cnt⟩
theorem Al.bounds {w : World} {base g : Nat} {u : Option Nat} {m : Nat} {L : List Due} {last : Int} (h : Al w base g u m L last) : (base ≤ g ∧ g < w.heap.size) ∧ (base ≤ m ∧ m < w.heap.size) ∧ ∀ i, u = some i → base ≤ i ∧ i < w.heap.size := by
  obtain ⟨s, h1, _⟩ := h.ex
  exact ⟨⟨h1.base_g, h1.lt⟩, ⟨h1.base_m, h1.m_lt⟩, fun i hi => h1.u_lt hi⟩
/-- The alarms in g have become those of L, and nothing else has turned. -/
def Put (w : World) (base g : Nat) (u : Option Nat) (m : Nat) (L : List Due) (last : Int) (w' : World) : Prop :=
  ∃ u', Al w' base g u' m L last ∧ (∀ i, u' = some i → u = some i ∨ w.heap.size ≤ i) ∧ Kept w w' g u m
theorem Put.trans {w w1 w2 : World} {base g : Nat} {u : Option Nat} {m : Nat} {L : List Due} {last : Int} {u1 : Option Nat} (hk : Kept w w1 g u m) (hu : ∀ i, u1 = some i → u = some i ∨ w.heap.size ≤ i) (h : Put w1 base g u1 m L last w2) : Put w base g u m L last w2 := by
  obtain ⟨u2, ha, hu2, k2⟩ := h
  have hs := hk.size
  refine ⟨u2, ha, fun i hi => ?_, kept_new hk hu k2⟩
  rcases hu2 i hi with h | h
  · exact hu i h
  · right; omega
theorem put_on {w w' : World} {base g : Nat} {u : Option Nat} {m : Nat} {L : List Due} {last : Int} (h : Al w base g u m L last) (hb : Below w.heap.size w w') : Put w base g u m L last w' := ⟨u, h.on hb, fun _ hi => Or.inl hi, kept_below hb g u m⟩
theorem put_here {w w' : World} {base g : Nat} {u : Option Nat} {m : Nat} {L : List Due} {last : Int} (h : Al w' base g u m L last) (hk : Kept w w' g u m) : Put w base g u m L last w' := ⟨u, h, fun _ hi => Or.inl hi, hk⟩
theorem Put.then_below {w w1 w2 : World} {base g : Nat} {u : Option Nat} {m : Nat} {L : List Due} {last : Int} (h : Put w base g u m L last w1) (hb : Below w1.heap.size w1 w2) : Put w base g u m L last w2 := by
  obtain ⟨u1, hr, hu, hk⟩ := h
  exact Put.trans hk hu (put_on hr hb)
/-- Below the alarms' base nothing has turned. -/
theorem put_below {w0 w w' : World} {B base g : Nat} {u : Option Nat} {m : Nat} {L L' : List Due} {last last' : Int} (hb : Below B w0 w) (h : Al w base g u m L last) (hp : Put w base g u m L' last' w') (hB : B ≤ base) : Below B w0 w' := by
  obtain ⟨u', _, _, hk⟩ := hp
  obtain ⟨⟨h1, h2⟩, ⟨h3, h4⟩, h5⟩ := h.bounds
  refine hb.trans ⟨hk.os, hk.tape, hk.output, hk.size, fun i hi => hk.block i (by omega) (by omega) (fun e => ?_) (by omega)⟩
  have := (h5 i e).1
  omega
theorem len_int {L : List Due} {last : Int} (h : (L.length : Int) ≤ last) (ht : last ≤ 100000) : L.length ≤ 100000 := by omega
def isIn (L : List Due) (id : Int) : Bool := decide (findN L id < L.length)

set_option maxHeartbeats 2000000 in
theorem new_al (w : World) : Calls Try.prog 10 #[] w fun e w' => e = .returned (.pointer (some ⟨w.heap.size + 1, 0, none⟩)) ∧ Al w' w.heap.size (w.heap.size + 1) none w.heap.size [] 0 ∧ Below w.heap.size w w' := by
  have hmm := @run_makeMap Try.prog
  have HB := Lib.hid (show Below w.heap.size w ((w.alloc (.map #[] 0)).alloc (.cells #[.slice none 0 0, .map (some w.heap.size), .int .i64 0] 62)) from ((Below.refl _ _).alloc (Nat.le_refl _) _).alloc (by simp) _)
  have HA := Lib.hid (show Al ((w.alloc (.map #[] 0)).alloc (.cells #[.slice none 0 0, .map (some w.heap.size), .int .i64 0] 62)) w.heap.size (w.heap.size + 1) none w.heap.size [] 0 from by
    refine ⟨⟨emptyS, ⟨⟨_, ?_, World.ownsRow_nil _ _ _ _, rfl⟩, ?_, by omega, Nat.le_refl _⟩, lk_new⟩, Int.le_refl _, by omega, Int.le_refl _⟩
    · have := heap_alloc_new (w.alloc (.map #[] 0)) (.cells #[.slice none 0 0, .map (some w.heap.size), .int .i64 0] 62)
      rw [show (w.alloc (.map #[] 0)).heap.size = w.heap.size + 1 by simp] at this
      exact this
    · exact ⟨.map [], (World.ownsMap_made w _ _ _).alloc _, rfl, fun i => rfl, fun i k h => by cases h⟩)
  go_enter Try.func10, Try.ntmps10
  go_wp2_with fail
  go_ret
  exact ⟨rfl, HA.out, HB.out⟩

/-- What a walk reads of the alarms' map. -/
theorem al_look {w : World} {base g : Nat} {u : Option Nat} {m : Nat} {s : St} {last : Int} {L : List Due} (h : Mem w base g u m s last) (hl : Lk s L last) {id : Int} (hi : -9223372036854775808 ≤ id ∧ id ≤ 9223372036854775807) :
    w.cell? ⟨g, 1, none⟩ = some (.map (some m)) ∧ (Instr.lookup 60 (.map (some m)) (.int .i64 id) true).run Try.prog w = .ok (.tuple #[.int .i64 (((s.pl id).getD 0 : Nat) : Int), .bool (isIn L id)]) w := by
  obtain ⟨v, h1, _⟩ := h.ex
  exact ⟨cell_of_row _ g 1 _ _ _ h1, by rw [← show (s.pl id).isSome = isIn L id from hl.isSome id]; exact map_look h.map hi⟩
set_option maxHeartbeats 4000000 in
set_option maxRecDepth 10000 in
theorem cancel_al {w : World} {base g : Nat} {u : Option Nat} {m : Nat} {L : List Due} {last : Int} (h : Al w base g u m L last) {id : Int} (hi : -9223372036854775808 ≤ id ∧ id ≤ 9223372036854775807) :
    Calls Try.prog 25 #[.pointer (some ⟨g, 0, none⟩), .int .i64 id] w fun e w' => e = .returned (.bool (isIn L id)) ∧ Put w base g u m (if isIn L id = true then L.eraseIdx (findN L id) else L) last w' := by
  obtain ⟨s, hM, hL⟩ := h.ex
  obtain ⟨c1, hrun⟩ := al_look hM hL hi
  have hlen := len_int h.cnt h.top
  cases hp : s.pl id with
  | none =>
    have hno : isIn L id = false := by simpa [isIn] using hL.gone hp
    rw [hp, hno] at hrun
    rw [hno]
    have HP := Lib.hid (put_here (w := w) h (kept_refl w g u m))
    rw [show (((none : Option Nat).getD 0 : Nat) : Int) = 0 from rfl] at hrun
    clear h hM hL hp hno hi hlen
    go_enter Try.func25, Try.ntmps25
    go_wp2_with fail
    go_ret
    exact ⟨rfl, HP.out⟩
  | some k =>
    obtain ⟨t1, t2, t3, t4⟩ := hL.there hp
    have hyes : isIn L id = true := by simpa [isIn] using t1
    have HR := Lib.hid (remove_any hM hL.placed t3 (by rw [hL.len]; exact hlen) (fun j hj => hL.wf (by have := h.top; omega) hj))
    have HL := Lib.hid (hL.remove hp)
    rw [hp, hyes] at hrun
    rw [hyes]
    have HA := Lib.hid (show (L.eraseIdx (findN L id)).length ≤ L.length from (List.eraseIdx_sublist _ _).length_le)
    have HH := Lib.hid h
    simp only [Option.getD_some] at hrun
    clear h hM hL hp hyes t1 t2 t3 t4 hi hlen
    go_enter Try.func25, Try.ntmps25
    go_wp2_with fail
    refine HR.out.mono ?_
    rintro e w1 ⟨rfl, hM1, hK1⟩
    have HP := Lib.hid (put_here (w := w) (w' := w1) ⟨⟨_, hM1, HL.out⟩, HH.out.low, HH.out.top, by have := HH.out.cnt; have := HA.out; omega⟩ hK1)
    clear hM1 hK1
    go_wp2_with fail
    go_ret
    exact ⟨rfl, HP.out⟩
end Go.Proofs.Ytpohfcjmjfhdoaa
