/-
  Contract: a replacer is built once, under its lock. Conditions: as each states.
-/
import Derived.Test.YtngnkkigjlenoaaGreatDoorJ
import Derived.Test.YtngnkkigjlenoaaGreatDoorH
namespace Go.Proofs.YtngnkkigjlenoaaGreatDoor
open Go.RowKit

abbrev TP : Nat := 67
/-- A replacer, wherever it came from. -/
def RC (H : Nat) (w : World) (ts : List ByteArray) (g : Nat → List Int) : Prop := ∃ b d cs cur fr, BAt TB w H cs ∧ cs.size = 257 ∧ (∀ i, i < 256 → ∃ v, cs[i]? = some v ∧ SG w v (g i)) ∧ cs[256]? = some (.slice (some ⟨b, 0, none⟩) ts.length d) ∧ w.heap[b]? = some (.cells cur 9 fr) ∧ ∀ j, j < ts.length → cur[j]? = some (.string (ts.getD j ⟨#[]⟩))
theorem RB.rc {w0 : World} {H : Nat} {w : World} {ts : List ByteArray} {g : Nat → List Int} (h : RB w0 H w ts g) (hp : 0 < ts.length) : RC H w ts g := by
  obtain ⟨q, d, cs, h1, h2, h3, h4, h5⟩ := h.cs
  obtain ⟨b, rfl, _, hb, _⟩ := h5.form hp
  obtain ⟨hl, ⟨e, _⟩ | ⟨b', cap, cur, e, _, hh, _⟩⟩ := id h5
  · cases e
  · cases e
    refine ⟨b, _, cs, cur, _, h1, h2, h3, h4, hh, fun j hj => ?_⟩
    have := h5.at j hj
    simpa [World.cell?, hh] using this
theorem RC.kept {H : Nat} {w w' : World} {ts : List ByteArray} {g : Nat → List Int} (h : RC H w ts g) (hk : ∀ (b : Nat) (cs : Array Value) (T : Nat) (fr : Nat × Nat), w.heap[b]? = some (.cells cs T fr) → T ≠ TP → w'.heap[b]? = w.heap[b]?) : RC H w' ts g := by
  obtain ⟨b, d, cs, cur, fr, h1, h2, h3, h4, h5, h6⟩ := h
  refine ⟨b, d, cs, cur, fr, (hk H cs TB _ h1 (by decide)).trans h1, h2, fun i hi => ?_, h4, (hk b cur _ fr h5 (by decide)).trans h5, h6⟩
  obtain ⟨v, e, hv⟩ := h3 i hi
  exact ⟨v, e, hv.kept fun b cs fr hb => hk b cs _ fr hb (by decide)⟩
theorem RC.on {H : Nat} {w w' : World} {ts : List ByteArray} {g : Nat → List Int} (h : RC H w ts g) (hb : Below w.heap.size w w') : RC H w' ts g := h.kept fun b _ _ _ hh _ => hb.block b (blk_lt hh)
theorem RC.set {H G : Nat} {w : World} {ts : List ByteArray} {g : Nat → List Int} {cs : Array Value} (h : RC H w ts g) (hg : BAt TP w G cs) (i : Nat) (v : Value) : RC H (w.setCell ⟨G, i, none⟩ v) ts g := h.kept fun _ _ _ _ hh ht => set_keeps hg hh ht v
/-- The replacer's own struct. -/
def repC (a b c : Int) (r o : Value) : Array Value := #[.int .u32 a, .int .i32 b, .int .u32 c, r, o]
set_option maxRecDepth 100000 in
set_option maxHeartbeats 4000000 in
theorem once_build {G Q cc B : Nat} {a b c : Int} {w w0 : World} {r : Value} (hG : BAt TP w G (repC a b c r (.slice (some ⟨Q, 0, none⟩) 4 cc))) (hQ : OldNew w Q) (hB : B ≤ G) (hb : Below B w0 w) :
    Calls Tryz.prog 40 #[.pointer (some ⟨G, 0, none⟩)] w fun e w' => e = .returned (.tuple #[]) ∧ ∃ H, BAt TP w' G (repC a b c (.iface 91 (.pointer (some ⟨H, 0, none⟩))) (.slice none 0 0)) ∧ RC H w' (tJ 0) g0 ∧ Below B w0 w' := by
  have HW := Lib.hid (build_any G Q cc w (hG.cell 4) hQ)
  have HG := Lib.hid hG
  have HB := Lib.hid hb
  clear hG hQ hb
  go_enter Tryz.func40, Tryz.ntmps40
  go_wp2_with fail
  refine HW.out.mono ?_
  rintro e w1 ⟨rfl, hr⟩
  have hG1 := HG.out.on hr.low
  obtain ⟨H, hH⟩ : ∃ H, w.heap.size + 1 = H := ⟨_, rfl⟩
  rw [hH] at hr ⊢
  have c3 := hG1.cell 3
  have f3 := hG1.frz 3
  have hG2 := hG1.set 3 (.iface 91 (.pointer (some ⟨H, 0, none⟩)))
  have c4 := hG2.cell 4
  have f4 := hG2.frz 4
  have hG3 := hG2.set 4 (.slice none 0 0)
  have HX := Lib.hid (show ∃ H', BAt TP ((w1.setCell ⟨G, 3, none⟩ (.iface 91 (.pointer (some ⟨H, 0, none⟩)))).setCell ⟨G, 4, none⟩ (.slice none 0 0)) G (repC a b c (.iface 91 (.pointer (some ⟨H', 0, none⟩))) (.slice none 0 0)) ∧ RC H' ((w1.setCell ⟨G, 3, none⟩ (.iface 91 (.pointer (some ⟨H, 0, none⟩)))).setCell ⟨G, 4, none⟩ (.slice none 0 0)) (tJ 0) g0 ∧ Below B w0 ((w1.setCell ⟨G, 3, none⟩ (.iface 91 (.pointer (some ⟨H, 0, none⟩)))).setCell ⟨G, 4, none⟩ (.slice none 0 0)) from ⟨H, hG3, ((hr.rc (by decide)).set hG1 3 _).set hG2 4 _, ((HB.out.trans (hr.low.mono (Nat.le_trans hB (Nat.le_of_lt HG.out.lt)))).setCell (p := ⟨G, 3, none⟩) hB _).setCell (p := ⟨G, 4, none⟩) hB _⟩)
  replace c3 : w1.cell? ⟨G, 3, none⟩ = some r := c3
  replace c4 : (w1.setCell ⟨G, 3, none⟩ (.iface 91 (.pointer (some ⟨H, 0, none⟩)))).cell? ⟨G, 4, none⟩ = some (.slice (some ⟨Q, 0, none⟩) 4 cc) := c4
  clear hr hG1 hG2 hG3 HG HB HW
  go_wp2_with fail
  go_end0
  exact ⟨rfl, HX.out⟩
/-- What a replacer is, once it was built. -/
def Built (B G : Nat) (w0 : World) (c : Int) (w' : World) : Prop := ∃ H, BAt TP w' G (repC 1 0 c (.iface 91 (.pointer (some ⟨H, 0, none⟩))) (.slice none 0 0)) ∧ RC H w' (tJ 0) g0 ∧ Below B w0 w'
set_option maxRecDepth 100000 in
set_option maxHeartbeats 4000000 in
theorem slow_any {G Q cc B : Nat} {c : Int} {w w0 : World} {r : Value} (hG : BAt TP w G (repC 0 0 c r (.slice (some ⟨Q, 0, none⟩) 4 cc))) (hQ : OldNew w Q) (hB : B ≤ G) (hb : Below B w0 w) (hQG : Q ≠ G) :
    Calls Tryz.prog 46 #[.pointer (some ⟨G, 0, none⟩), .func (.func 40) #[.pointer (some ⟨G, 0, none⟩)] #[]] w fun e w' => e = .returned (.tuple #[]) ∧ Built B G w0 c w' := by
  have c1 : w.cell? ⟨G, 1, none⟩ = some (.int .i32 0) := hG.cell 1
  have f1 := hG.frz 1
  have hG1 : BAt TP (w.setCell ⟨G, 1, none⟩ (.int .i32 1)) G (repC 0 1 c r (.slice (some ⟨Q, 0, none⟩) 4 cc)) := hG.set 1 _
  have hQ1 : OldNew (w.setCell ⟨G, 1, none⟩ (.int .i32 1)) Q := by
    obtain ⟨q0, q1, q2, q3⟩ := hQ
    have hne : ∀ j : Nat, (⟨G, 1, none⟩ : Addr) ≠ ⟨Q, j, none⟩ := fun j e => by injection e with e1; exact hQG e1.symm
    exact ⟨(World.cell?_setCell_other _ _ _ _ (hne 0)).trans q0, (World.cell?_setCell_other _ _ _ _ (hne 1)).trans q1, (World.cell?_setCell_other _ _ _ _ (hne 2)).trans q2, (World.cell?_setCell_other _ _ _ _ (hne 3)).trans q3⟩
  have HO := Lib.hid (once_build hG1 hQ1 hB (hb.setCell (p := ⟨G, 1, none⟩) hB (.int .i32 1)))
  have hl := run_call_load (P := Tryz.prog) Tryz.func52 (by kernel_rfl) (by kernel_rfl) (by kernel_rfl) .u32 (by kernel_rfl) (w := w.setCell ⟨G, 1, none⟩ (.int .i32 1)) (a := ⟨G, 0, none⟩) (x := 0) (hG1.cell 0)
  have hnot : ∀ (x : Bool) (w : World), (Op.unary .not (.bool x)).run Tryz.prog w = .ok (.bool (!x)) w := fun _ _ => rfl
  have hmf : ∀ (fn : Fn) (first cap : Array Value) (w : World), (Instr.makeFunc fn first cap).run Tryz.prog w = .ok (.func fn first cap) w := fun _ _ _ _ => rfl
  have HL := Lib.hid (lock_free ⟨G, 1, none⟩ w c1 f1)
  clear hG hQ hb hG1 hQ1 c1 f1
  go_enter_defers Tryz.func46, Tryz.ntmps46
  go_wp2_with (first | (go_at_call 53; refine HL.out.mono ?_; rintro e w' ⟨rfl, rfl⟩) | (go_at_call 45; go_in) | (go_at_call 40; refine HO.out.mono ?_; rintro e w2 ⟨rfl, H, g1, g2, g3⟩))
  have HX := Lib.hid (show Built B G w0 c ((w2.drew.setCell ⟨G, 0, none⟩ (.int .u32 1)).setCell ⟨G, 1, none⟩ (.int .i32 0)) from by
    have k1 : BAt TP w2.drew G _ := g1
    have k2 := k1.set 0 (.int .u32 1)
    have k3 := k2.set 1 (.int .i32 0)
    exact ⟨H, k3, ((g2.on (Below.refl _ _).drew).set k1 0 _).set k2 1 _, (g3.drew.setCell (p := ⟨G, 0, none⟩) hB _).setCell (p := ⟨G, 1, none⟩) hB _⟩)
  refine leaves_cons (f := 55) (args := #[.pointer (some ⟨G, 0, none⟩), .bool true]) (by simp) (by simp [go_sem]) ?_
  refine (store_deferred ⟨G, 0, none⟩ (.int .u32 0) .returning _ (g1.cell 0) (g1.frz 0)).mono ?_
  rintro e u' w'' ⟨rfl, rfl, rfl⟩
  have k2 := (show BAt TP w2.drew G _ from g1).set 0 (.int .u32 1)
  refine leaves_cons (f := 54) (args := #[.pointer (some ⟨G, 1, none⟩)]) (by simp [settle]) (by simp [go_sem]) ?_
  refine (unlock_deferred ⟨G, 1, none⟩ _ _ (k2.cell 1) (k2.frz 1)).mono ?_
  rintro e u' w'' ⟨rfl, rfl, rfl⟩
  simp [Leaves, settle, results, Tryz.results46]
  exact HX.out
set_option maxRecDepth 100000 in
set_option maxHeartbeats 4000000 in
theorem do_any {G Q cc B : Nat} {c : Int} {w w0 : World} {r : Value} (hG : BAt TP w G (repC 0 0 c r (.slice (some ⟨Q, 0, none⟩) 4 cc))) (hQ : OldNew w Q) (hB : B ≤ G) (hb : Below B w0 w) (hQG : Q ≠ G) :
    Calls Tryz.prog 39 #[.pointer (some ⟨G, 0, none⟩), .func (.func 40) #[.pointer (some ⟨G, 0, none⟩)] #[]] w fun e w' => e = .returned (.tuple #[]) ∧ Built B G w0 c w' := by
  have HS := Lib.hid (slow_any hG hQ hB hb hQG)
  have hl := run_call_load (P := Tryz.prog) Tryz.func52 (by kernel_rfl) (by kernel_rfl) (by kernel_rfl) .u32 (by kernel_rfl) (w := w) (a := ⟨G, 0, none⟩) (x := 0) (hG.cell 0)
  have hnot : ∀ (x : Bool) (w : World), (Op.unary .not (.bool x)).run Tryz.prog w = .ok (.bool (!x)) w := fun _ _ => rfl
  clear hG hQ hb
  go_enter Tryz.func39, Tryz.ntmps39
  go_wp2_with (first | (go_at_call 46; refine HS.out.mono ?_; rintro e w' ⟨rfl, HX⟩) | (go_at_call 45; go_in))
  go_end0
  exact ⟨rfl, HX⟩
end Go.Proofs.YtngnkkigjlenoaaGreatDoor
