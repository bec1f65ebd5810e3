/-
  Ends that are told of both ways. Conditions: none.
-/
import Derived.Test.YtdighjgcnaajgaaGreatMT5
namespace Go.Proofs.YtdighjgcnaajgaaGreat
open Go.RowKit

namespace Lk
variable {k : Lk}
/-- What a Step tells of bytes, and of the end. -/
def Tol (k k' : Lk) (b : ByteArray) (e : Int) : Prop := (k.fin ≠ 0 → b = ⟨#[]⟩ ∧ e = 0 ∧ k'.fin ≠ 0) ∧ (k.fin = 0 → (k'.fin ≠ 0 ↔ e ≠ 0))
theorem tol_step (h : Lok k) (hb : k.Bal) (ho : Over k) (now n : Int) : Over (k.stepK now n) ∧ Tol k (k.stepK now n) (k.stepT now n) (k.stepE now n) := by
  obtain ⟨h1, h2, h3⟩ := over_do h hb ho ⟨3, now, n, none0, noTox⟩
  exact ⟨h1, fun hf => ⟨(h2 hf).1, (h2 hf).2.1 (Or.inr rfl), (h2 hf).2.2⟩, fun hf => (h3 hf).trans ⟨fun e => e.2, fun e => ⟨rfl, e⟩⟩⟩
theorem cut_over (h : Lok k) (hb : k.Bal) (ho : Over k) (now : Int) : Over (k.cutK now) := (over_do h hb ho ⟨2, now, 0, none0, noTox⟩).1
theorem cut_state (k : Lk) (now : Int) : (k.cutK now).c.state ≠ 0 := by
  show k.c.breakC.state ≠ 0
  unfold Ch.breakC
  split
  · rename_i e
    omega
  · show (2 : Int) ≠ 0
    decide
theorem tol_rst (h : Lok k) (hb : k.Bal) (ho : Over k) (hf : k.fin = 0) (now : Int) : Over ((k.cutK now).stepK now 0) ∧ (k.cutK now).stepE now 0 ≠ 0 ∧ ((k.cutK now).stepK now 0).fin ≠ 0 := by
  obtain ⟨c1, c2⟩ := cut_ok h hb now
  have c3 := cut_over h hb ho now
  obtain ⟨s1, s2⟩ := tol_step c1 c2 c3 now 0
  have hs := cut_state k now
  have hf2 : (k.cutK now).fin = 0 := hf
  obtain ⟨d1, e1⟩ := st1_ok c1 c2 now
  obtain ⟨d2, e2⟩ := st2_ok c1 c2 now 0
  have t1 : ((k.cutK now).c.doN (oStep now)).state ≠ 0 := by rw [state_stays c1 _ hs]; exact hs
  have t2 : (((k.cutK now).c.doN (oStep now)).doN (oTake now 0)).state ≠ 0 := by
    have := state_stays d1 (oTake now 0) t1
    have e : (((k.cutK now).st1 now).c.doN (oTake now 0)).state = (((k.cutK now).c.doN (oStep now)).doN (oTake now 0)).state := rfl
    rw [← e, this]
    exact t1
  have t3 : ((k.cutK now).stepC now 0).state ≠ 0 := by
    have := state_stays d2 (oStep now) t2
    have e : (((k.cutK now).st2 now 0).c.doN (oStep now)).state = ((k.cutK now).stepC now 0).state := rfl
    rw [← e, this]
    exact t2
  have hE : (k.cutK now).stepE now 0 ≠ 0 := by
    unfold stepE
    rw [if_neg (by omega)]
    exact t3
  exact ⟨s1, hE, (s2.2 hf2).2 hE⟩
/-- Any other call tells no end. -/
theorem over_call (h : Lok k) (hb : k.Bal) (ho : Over k) (o : LOp) (h3 : o.kind ≠ 3) : Over (k.doK o) ∧ ((k.doK o).fin ≠ 0 ↔ k.fin ≠ 0) := by
  obtain ⟨h1, h2, h4⟩ := over_do h hb ho o
  refine ⟨h1, fun e => ?_, fun e => (h2 e).2.2⟩
  by_cases hf : k.fin = 0
  · exact absurd ((h4 hf).1 e).1 h3
  · exact hf
end Lk
namespace Cn
variable {k : Cn}
/-- What holds of both links. -/
def Oks (k : Cn) : Prop := (Lok k.A ∧ k.A.Bal) ∧ (Lok k.B ∧ k.B.Bal)
def Ovs (k : Cn) : Prop := k.A.Over ∧ k.B.Over
/-- A Step, and what both ways tell. -/
theorem ends_step (h : k.Oks) (ho : k.Ovs) (now n0 n1 : Int) : (k.stepS now n0 n1).k.Ovs ∧ k.A.Tol (k.stepS now n0 n1).k.A (k.stepS now n0 n1).x.b (k.stepS now n0 n1).x.e ∧ k.B.Tol (k.stepS now n0 n1).k.B (k.stepS now n0 n1).y.b (k.stepS now n0 n1).y.e ∧
    ((k.stepS now n0 n1).x.e = 2 ∨ (k.stepS now n0 n1).y.e = 2 → (k.stepS now n0 n1).k.A.fin ≠ 0 ∧ (k.stepS now n0 n1).k.B.fin ≠ 0) := by
  obtain ⟨a1, a2⟩ := Lk.tol_step h.1.1 h.1.2 ho.1 now n0
  obtain ⟨b1, b2⟩ := Lk.tol_step h.2.1 h.2.2 ho.2 now n1
  obtain ⟨a3, a4, _⟩ := Lk.step_ok h.1.1 h.1.2 now n0
  obtain ⟨b3, b4, _⟩ := Lk.step_ok h.2.1 h.2.2 now n1
  have e1 : k.step1 now n0 n1 = ⟨⟨k.A.stepK now n0, k.B.stepK now n1, k.names⟩, ⟨k.A.stepT now n0, k.A.stepE now n0⟩, ⟨k.B.stepT now n1, k.B.stepE now n1⟩⟩ := rfl
  -- a link that may be cut yet
  have key : ∀ {l l' : Lk} {b : ByteArray} {e : Int}, Lok l' → l'.Bal → l'.Over → l.Tol l' b e → ∃ l2 e2, (if l'.fin ≠ 0 then (l', e) else ((l'.cutK now).stepK now 0, (l'.cutK now).stepE now 0)) = (l2, e2) ∧ l2.Over ∧ l.Tol l2 b e2 ∧ l2.fin ≠ 0 := fun {l l' b e} o1 o2 o3 t => by
    by_cases hf : l'.fin = 0
    · rw [if_neg (by omega)]
      obtain ⟨r1, r2, r3⟩ := Lk.tol_rst o1 o2 o3 hf now
      refine ⟨_, _, rfl, r1, ⟨fun hl => absurd hf (t.1 hl).2.2, fun _ => ⟨fun _ => r2, fun _ => r3⟩⟩, r3⟩
    · rw [if_pos hf]
      exact ⟨_, _, rfl, o3, t, hf⟩
  unfold stepS
  rw [e1]
  dsimp only
  split
  · obtain ⟨l2, e2, q1, q2, q3, q4⟩ := key a3 a4 a1 a2
    obtain ⟨m2, f2, r1, r2, r3, r4⟩ := key b3 b4 b1 b2
    have e2' : rstL now (⟨⟨k.A.stepK now n0, k.B.stepK now n1, k.names⟩, ⟨k.A.stepT now n0, k.A.stepE now n0⟩, ⟨k.B.stepT now n1, k.B.stepE now n1⟩⟩ : Told) [0, 1] = ⟨⟨l2, m2, k.names⟩, ⟨k.A.stepT now n0, e2⟩, ⟨k.B.stepT now n1, f2⟩⟩ := by
      show rst now (rst now _ 0) 1 = _
      have s1 : rst now (⟨⟨k.A.stepK now n0, k.B.stepK now n1, k.names⟩, ⟨k.A.stepT now n0, k.A.stepE now n0⟩, ⟨k.B.stepT now n1, k.B.stepE now n1⟩⟩ : Told) 0 = ⟨⟨l2, k.B.stepK now n1, k.names⟩, ⟨k.A.stepT now n0, e2⟩, ⟨k.B.stepT now n1, k.B.stepE now n1⟩⟩ := by
        unfold rst
        show (if (k.A.stepK now n0).fin ≠ 0 then _ else _) = _
        by_cases hf : (k.A.stepK now n0).fin ≠ 0
        · rw [if_pos hf] at q1 ⊢
          injection q1 with q q'
          rw [← q, ← q']
        · rw [if_neg hf] at q1 ⊢
          injection q1 with q q'
          rw [← q, ← q']
          rfl
      rw [s1]
      unfold rst
      show (if (k.B.stepK now n1).fin ≠ 0 then _ else _) = _
      by_cases hf : (k.B.stepK now n1).fin ≠ 0
      · rw [if_pos hf] at r1 ⊢
        injection r1 with q q'
        rw [← q, ← q']
      · rw [if_neg hf] at r1 ⊢
        injection r1 with q q'
        rw [← q, ← q']
        rfl
    rw [e2']
    exact ⟨⟨q2, r2⟩, q3, r3, fun _ => ⟨q4, r4⟩⟩
  · rename_i hn
    exact ⟨⟨a1, b1⟩, a2, b2, fun e => absurd e hn⟩
/-- A call on a way that tells no end. -/
theorem ends_on (h : k.Oks) (ho : k.Ovs) (i : Nat) (o : LOp) (h3 : o.kind ≠ 3) : (k.on i fun l => l.doK o).Ovs ∧ ((k.on i fun l => l.doK o).A.fin ≠ 0 ↔ k.A.fin ≠ 0) ∧ ((k.on i fun l => l.doK o).B.fin ≠ 0 ↔ k.B.fin ≠ 0) := by
  unfold on
  split
  · obtain ⟨a, b⟩ := Lk.over_call h.1.1 h.1.2 ho.1 o h3
    exact ⟨⟨a, ho.2⟩, b, Iff.rfl⟩
  · obtain ⟨a, b⟩ := Lk.over_call h.2.1 h.2.2 ho.2 o h3
    exact ⟨⟨ho.1, a⟩, Iff.rfl, b⟩
/-- What every call but Step does, way by way: calls of the links that tell no end. -/
theorem ends_call (h : k.Oks) (ho : k.Ovs) (o : YOp) (h3 : o.kind ≠ 3) : (k.doK o).Ovs ∧ ((k.doK o).A.fin ≠ 0 ↔ k.A.fin ≠ 0) ∧ ((k.doK o).B.fin ≠ 0 ↔ k.B.fin ≠ 0) := by
  have same : k.Ovs ∧ (k.A.fin ≠ 0 ↔ k.A.fin ≠ 0) ∧ (k.B.fin ≠ 0 ↔ k.B.fin ≠ 0) := ⟨ho, Iff.rfl, Iff.rfl⟩
  unfold doK
  split
  · unfold sendK
    split
    · exact ends_on h ho _ ⟨0, o.now, 0, o.s, noTox⟩ (show (0 : Int) ≠ 3 by decide)
    · exact same
  split
  · unfold finK
    split
    · exact ends_on h ho _ ⟨1, o.now, 0, none0, noTox⟩ (show (1 : Int) ≠ 3 by decide)
    · exact same
  split
  · obtain ⟨a, b⟩ := Lk.over_call h.1.1 h.1.2 ho.1 ⟨2, o.now, 0, none0, noTox⟩ (show (2 : Int) ≠ 3 by decide)
    obtain ⟨c, d⟩ := Lk.over_call h.2.1 h.2.2 ho.2 ⟨2, o.now, 0, none0, noTox⟩ (show (2 : Int) ≠ 3 by decide)
    exact ⟨⟨a, c⟩, b, d⟩
  split
  · have ha := ends_on h ho (wayT o.t) ⟨4, o.now, 0, none0, o.t⟩ (show (4 : Int) ≠ 3 by decide)
    unfold addK
    split
    · exact same
    split
    · exact same
    split
    · exact ha
    · exact ha
  split
  · unfold dropK
    split
    · exact ends_on h ho 0 ⟨5, o.now, 0, o.s, noTox⟩ (show (5 : Int) ≠ 3 by decide)
    split
    · exact ends_on h ho 1 ⟨5, o.now, 0, o.s, noTox⟩ (show (5 : Int) ≠ 3 by decide)
    · exact same
  split
  · exact ends_on h ho (wayT o.t) ⟨6, o.now, 0, none0, o.t⟩ (show (6 : Int) ≠ 3 by decide)
  · exact same
end Cn
/-- A way, in one of three. -/
theorem brk_way {k k' : Lk} {b : ByteArray} {e xe ye : Int} {B : Bool} (h : k.Tol k' b e) (h2 : xe = 2 ∨ ye = 2 → k'.fin ≠ 0) (hB : decide (xe = 2 ∨ ye = 2) = B) :
    (decide (k.fin ≠ 0) = true ∧ decide (k'.fin ≠ 0) = true ∧ e = 0 ∧ b = ⟨#[]⟩) ∨ (decide (k.fin ≠ 0) = false ∧ decide (k'.fin ≠ 0) = false ∧ e = 0 ∧ B = false) ∨ (decide (k.fin ≠ 0) = false ∧ decide (k'.fin ≠ 0) = true ∧ e ≠ 0) := by
  by_cases hf : k.fin = 0
  · right
    have h3 := h.2 hf
    by_cases he : e = 0
    · left
      have hk : k'.fin = 0 := Decidable.not_not.1 fun hk => h3.1 hk he
      refine ⟨by simpa using hf, by simpa using hk, he, ?_⟩
      rw [← hB]
      exact decide_eq_false fun hh => h2 hh hk
    · right
      exact ⟨by simpa using hf, by simpa using h3.2 he, he⟩
  · left
    obtain ⟨a, b, c⟩ := h.1 hf
    exact ⟨by simpa using hf, by simpa using c, b, a⟩
/-- What ended was of so many ways, and of one more. -/
theorem brk_set {w wx : World} {U : Own} {g ge ga M j : Nat} {K : Cn} {eA eB eA2 eB2 : Bool} {ao : Obj} (h : KHd w wx U g K M ∧ wx.heap[ge]? = some (.cells #[.bool (if j = 0 then eA else eA2), .bool (if j ≤ 1 then eB else eB2)] 57 (0, 0)) ∧ wx.heap[ga]? = some ao) (hn : ¬ U ge) (hb : w.heap.size ≤ ge) (hne : ga ≠ ge) (hj : j < 2) :
    KHd w (wx.setCell ⟨ge, j, none⟩ (.bool (if j = 0 then eA2 else eB2))) U g K M ∧ (wx.setCell ⟨ge, j, none⟩ (.bool (if j = 0 then eA2 else eB2))).heap[ge]? = some (.cells #[.bool (if j + 1 = 0 then eA else eA2), .bool (if j + 1 ≤ 1 then eB else eB2)] 57 (0, 0)) ∧ (wx.setCell ⟨ge, j, none⟩ (.bool (if j = 0 then eA2 else eB2))).heap[ga]? = some ao := by
  refine ⟨h.1.set hn hb _, ?_, (Below.heap_setCell _ _ _ _ hne).trans h.2.2⟩
  rw [gb.set_heap h.2.1]
  rcases (show j = 0 ∨ j = 1 by omega) with rfl | rfl <;> rfl
theorem newL_over {k : Lk} {l : List Tox} {up : Bool} {room now : Int} (h : MkL k l up room now) : k.Over := by
  obtain ⟨ts, hm⟩ := h.made
  refine ⟨fun e => ?_, fun e => absurd hm.zero.2.2 e⟩
  rw [hm.c] at e
  have e : (0 : Int) = 1 := e
  omega
theorem newL_fin {k : Lk} {l : List Tox} {up : Bool} {room now : Int} (h : MkL k l up room now) : k.fin = 0 := by
  obtain ⟨ts, hm⟩ := h.made
  exact hm.zero.2.2
end Go.Proofs.YtdighjgcnaajgaaGreat
