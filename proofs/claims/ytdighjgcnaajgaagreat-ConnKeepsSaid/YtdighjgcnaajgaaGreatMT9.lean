/-
  What came in of each way, and what came out, byte by byte. Conditions: none.
-/
import Derived.Test.YtdighjgcnaajgaaGreatMT5
namespace Go.Proofs.YtdighjgcnaajgaaGreat
open Go.RowKit

theorem kat_size (a b : ByteArray) : (a ++ b).size = a.size + b.size := ByteArray.size_append
theorem kat_runs {a b c : ByteArray} (h : a ++ b = c) (ha : a.size ≤ 1100000) (hb : b.size ≤ 1100000) (w : World) : (Op.stringOp .add a b).run Tryz.prog w = .ok (.string c) w := by
  rw [← h]
  exact run_string_add w a b (by omega) (by omega)
theorem kat_fresh (ts : List (Tox × Int)) (room now : Int) : Ch.cat (frL ts room now) = ⟨#[]⟩ := by
  have h : ∀ l : List Prt, (∀ p ∈ l, p.s.S = ⟨#[]⟩) → Ch.cat l = ⟨#[]⟩ := fun l => by
    induction l with
    | nil => intro _; rfl
    | cons a r ih =>
      intro h
      show Ch.cat r ++ a.s.S = _
      rw [ih fun p hp => h p (List.mem_cons_of_mem _ hp), h a (List.mem_cons_self ..), cat_none]
  refine h _ fun p hp => ?_
  unfold frL at hp
  rcases List.mem_cons.1 hp with rfl | hp
  · rfl
  rcases List.mem_append.1 hp with hp | hp
  · obtain ⟨x, _, rfl⟩ := List.mem_map.1 hp
    rfl
  · obtain rfl := List.mem_singleton.1 hp
    rfl
theorem newL_kept {k : Lk} {l : List Tox} {up : Bool} {room now : Int} (h : MkL k l up room now) : k.Kept ⟨#[]⟩ ⟨#[]⟩ := by
  obtain ⟨ts, hm⟩ := h.made
  refine ⟨?_, hm.zero.1, hm.zero.2.1⟩
  rw [hm.c]
  have hc := kat_fresh ts room now
  exact ⟨⟨⟨#[]⟩, by show _ = (_ ++ Ch.cat (frL ts room now)) ++ _; rw [hc]; rfl⟩, fun _ => by show _ = _ ++ Ch.cat (frL ts room now); rw [hc]; rfl⟩
namespace Lk
variable {k : Lk} {i u : ByteArray}
theorem stepT_zero (k : Lk) (now : Int) : k.stepT now 0 = ⟨#[]⟩ := by
  unfold stepT
  show (if (k.c.doN (oStep now)).state = 2 then noAns else (⟨0, ((k.c.doN (oStep now)).ansC ((k.c.doN (oStep now)).L.length - 1) (Ch.oTake now 0)).s, 0⟩ : Ans)).s = _
  split
  · rfl
  · show (takeS _ now 0).2 = _
    unfold takeS
    dsimp only
    rw [if_pos (Or.inr (by decide))]
/-- A call that is not Send, nor Step. -/
theorem kept_call (h : Lok k) (hb : k.Bal) (hk : k.Kept i u) (o : LOp) (h0 : o.kind ≠ 0) (h3 : o.kind ≠ 3) : (k.doK o).Kept i u := by
  have h1 := keeps_do h hb hk o
  have h2 : (k.ansK o).s = ⟨#[]⟩ := by
    unfold ansK
    rw [if_neg h3]
    repeat' split
    all_goals rfl
  rw [if_neg h0, h2, none_r, cat_none] at h1
  exact h1
theorem kept_rst (h : Lok k) (hb : k.Bal) (hk : k.Kept i u) (now : Int) : ((k.cutK now).stepK now 0).Kept i u := by
  obtain ⟨c1, c2⟩ := cut_ok h hb now
  have h1 : (k.cutK now).Kept i u := kept_call h hb hk ⟨2, now, 0, none0, noTox⟩ (show (2 : Int) ≠ 0 by decide) (show (2 : Int) ≠ 3 by decide)
  have h2 : Kept ((k.cutK now).stepK now 0) (i ++ none0) (u ++ (k.cutK now).stepT now 0) := keeps_do c1 c2 h1 ⟨3, now, 0, none0, noTox⟩
  rw [stepT_zero, none_r, cat_none] at h2
  exact h2
theorem kept_step (h : Lok k) (hb : k.Bal) (hk : k.Kept i u) (now n : Int) : (k.stepK now n).Kept i (u ++ k.stepT now n) := by
  have h2 : Kept (k.stepK now n) (i ++ none0) (u ++ k.stepT now n) := keeps_do h hb hk ⟨3, now, n, none0, noTox⟩
  rw [none_r] at h2
  exact h2
theorem kept_send (h : Lok k) (hb : k.Bal) (hk : k.Kept i u) (now : Int) (b : ByteArray) : (k.sendK now b).Kept (i ++ b.extract 0 (k.c.doA (oPut now b)).n.toNat) u := by
  have h2 : Kept (k.sendK now b) (i ++ b.extract 0 (k.c.doA (oPut now b)).n.toNat) (u ++ none0) := keeps_do h hb hk ⟨0, now, 0, b, noTox⟩
  rw [none_r] at h2
  exact h2
end Lk
namespace Cn
variable {k : Cn} {i u j v : ByteArray}
def Okk (k : Cn) : Prop := (Lok k.A ∧ k.A.Bal) ∧ (Lok k.B ∧ k.B.Bal)
/-- Of both ways: what came in, what came out. -/
def Kp (k : Cn) (i u j v : ByteArray) : Prop := k.A.Kept i u ∧ k.B.Kept j v
theorem kp_on (h : k.Okk) (hk : k.Kp i u j v) (n : Nat) (o : LOp) (h0 : o.kind ≠ 0) (h3 : o.kind ≠ 3) : (k.on n fun l => l.doK o).Kp i u j v := by
  unfold on
  split
  · exact ⟨Lk.kept_call h.1.1 h.1.2 hk.1 o h0 h3, hk.2⟩
  · exact ⟨hk.1, Lk.kept_call h.2.1 h.2.2 hk.2 o h0 h3⟩
theorem kp_step (h : k.Okk) (hk : k.Kp i u j v) (now n0 n1 : Int) : (k.stepS now n0 n1).k.Kp i (u ++ (k.stepS now n0 n1).x.b) j (v ++ (k.stepS now n0 n1).y.b) := by
  have a1 := Lk.kept_step h.1.1 h.1.2 hk.1 now n0
  have b1 := Lk.kept_step h.2.1 h.2.2 hk.2 now n1
  obtain ⟨a3, a4, _⟩ := Lk.step_ok h.1.1 h.1.2 now n0
  obtain ⟨b3, b4, _⟩ := Lk.step_ok h.2.1 h.2.2 now n1
  have e1 : k.step1 now n0 n1 = ⟨⟨k.A.stepK now n0, k.B.stepK now n1, k.names⟩, ⟨k.A.stepT now n0, k.A.stepE now n0⟩, ⟨k.B.stepT now n1, k.B.stepE now n1⟩⟩ := rfl
  have key : ∀ (s : Told) (n : Nat), s.k.Okk → s.k.Kp i (u ++ s.x.b) j (v ++ s.y.b) → (n = 0 ∨ n = 1) → (rst now s n).k.Kp i (u ++ (rst now s n).x.b) j (v ++ (rst now s n).y.b) ∧ (n = 0 → (rst now s n).k.Okk) := fun s n ho hs hn => by
    unfold rst
    split
    · exact ⟨hs, fun _ => ho⟩
    split
    · refine ⟨⟨Lk.kept_rst ho.1.1 ho.1.2 hs.1 now, hs.2⟩, fun _ => ?_⟩
      obtain ⟨c1, c2⟩ := Lk.cut_ok ho.1.1 ho.1.2 now
      obtain ⟨d1, d2, _⟩ := Lk.step_ok c1 c2 now 0
      exact ⟨⟨d1, d2⟩, ho.2⟩
    · rename_i h0
      exact ⟨⟨hs.1, Lk.kept_rst ho.2.1 ho.2.2 hs.2 now⟩, fun e => absurd e h0⟩
  have hs : (k.step1 now n0 n1).k.Kp i (u ++ (k.step1 now n0 n1).x.b) j (v ++ (k.step1 now n0 n1).y.b) := by
    rw [e1]
    exact ⟨a1, b1⟩
  have ho : (k.step1 now n0 n1).k.Okk := by
    rw [e1]
    exact ⟨⟨a3, a4⟩, ⟨b3, b4⟩⟩
  unfold stepS
  split
  · have k1 := key _ 0 ho hs (Or.inl rfl)
    exact (key _ 1 (k1.2 rfl) k1.1 (Or.inr rfl)).1
  · exact hs
/-- All that is told of each way is what was sent there, in order. -/
theorem kp_do (h : k.Okk) (hk : k.Kp i u j v) (o : YOp) : (k.doK o).Kp (i ++ (if o.kind = 0 ∧ o.way = 0 then o.s.extract 0 (k.ansK o).n.toNat else none0)) (u ++ (k.ansK o).x.b) (j ++ (if o.kind = 0 ∧ o.way = 1 then o.s.extract 0 (k.ansK o).n.toNat else none0)) (v ++ (k.ansK o).y.b) := by
  have same : ∀ (a b : YOut), a.b = ⟨#[]⟩ → b.b = ⟨#[]⟩ → k.Kp i (u ++ a.b) j (v ++ b.b) := fun a b ha hb => by
    rw [ha, hb, cat_none, cat_none]
    exact hk
  by_cases k0 : o.kind = 0
  · have e1 : k.ansK o = ⟨k.sendN o.way o.now o.s, noOut, noOut, 0⟩ := by unfold ansK; rw [if_pos k0]
    have e2 : k.doK o = k.sendK o.way o.now o.s := by unfold doK; rw [if_pos k0]
    rw [e1, e2, show (u ++ (⟨k.sendN o.way o.now o.s, noOut, noOut, 0⟩ : YAns).x.b) = u from cat_none u, show (v ++ (⟨k.sendN o.way o.now o.s, noOut, noOut, 0⟩ : YAns).y.b) = v from cat_none v]
    unfold sendK sendN
    by_cases w0 : o.way = 0
    · rw [if_pos (show o.kind = 0 ∧ o.way = 0 from ⟨k0, w0⟩), if_neg (show ¬ (o.kind = 0 ∧ o.way = 1) by omega), Lk.none_r, w0]
      exact ⟨Lk.kept_send h.1.1 h.1.2 hk.1 _ _, hk.2⟩
    · by_cases w1 : o.way = 1
      · rw [if_neg (show ¬ (o.kind = 0 ∧ o.way = 0) by omega), if_pos (show o.kind = 0 ∧ o.way = 1 from ⟨k0, w1⟩), Lk.none_r, w1]
        exact ⟨hk.1, Lk.kept_send h.2.1 h.2.2 hk.2 _ _⟩
      · rw [if_neg (show ¬ (o.kind = 0 ∧ o.way = 0) by omega), if_neg (show ¬ (o.kind = 0 ∧ o.way = 1) by omega), Lk.none_r, Lk.none_r, if_neg (show ¬ (o.way = 0 ∨ o.way = 1) by omega)]
        exact hk
  rw [if_neg (fun e => k0 e.1), if_neg (fun e => k0 e.1), Lk.none_r, Lk.none_r]
  by_cases k3 : o.kind = 3
  · have e1 : k.ansK o = ⟨0, (k.stepS o.now o.n0 o.n1).x, (k.stepS o.now o.n0 o.n1).y, 0⟩ := by unfold ansK; rw [if_neg k0, if_pos k3]
    have e2 : k.doK o = (k.stepS o.now o.n0 o.n1).k := by unfold doK; rw [if_neg (by omega), if_neg (by omega), if_neg (by omega), if_pos k3]
    rw [e1, e2]
    exact kp_step h hk _ _ _
  have ea : (k.ansK o).x.b = ⟨#[]⟩ ∧ (k.ansK o).y.b = ⟨#[]⟩ := by
    unfold ansK
    rw [if_neg k0, if_neg k3]
    repeat' split
    all_goals exact ⟨rfl, rfl⟩
  rw [ea.1, ea.2, cat_none, cat_none]
  unfold doK
  rw [if_neg k0]
  split
  · unfold finK
    split
    · exact kp_on h hk _ ⟨1, o.now, 0, none0, noTox⟩ (show (1 : Int) ≠ 0 by decide) (show (1 : Int) ≠ 3 by decide)
    · exact hk
  split
  · exact ⟨Lk.kept_call h.1.1 h.1.2 hk.1 ⟨2, o.now, 0, none0, noTox⟩ (show (2 : Int) ≠ 0 by decide) (show (2 : Int) ≠ 3 by decide), Lk.kept_call h.2.1 h.2.2 hk.2 ⟨2, o.now, 0, none0, noTox⟩ (show (2 : Int) ≠ 0 by decide) (show (2 : Int) ≠ 3 by decide)⟩
  split
  · have ha := kp_on h hk (wayT o.t) ⟨4, o.now, 0, none0, o.t⟩ (show (4 : Int) ≠ 0 by decide) (show (4 : Int) ≠ 3 by decide)
    unfold addK
    split
    · exact hk
    split
    · exact hk
    split
    · exact ha
    · exact ha
  split
  · have d0 := kp_on h hk 0 ⟨5, o.now, 0, o.s, noTox⟩ (show (5 : Int) ≠ 0 by decide) (show (5 : Int) ≠ 3 by decide)
    have d1 := kp_on h hk 1 ⟨5, o.now, 0, o.s, noTox⟩ (show (5 : Int) ≠ 0 by decide) (show (5 : Int) ≠ 3 by decide)
    unfold dropK
    split
    · exact d0
    split
    · exact d1
    · exact hk
  split
  · exact kp_on h hk (wayT o.t) ⟨6, o.now, 0, none0, o.t⟩ (show (6 : Int) ≠ 0 by decide) (show (6 : Int) ≠ 3 by decide)
  · exact hk
theorem kp_n (h : k.Okk) {o : YOp} (h0 : o.kind = 0) (hw : o.way = 0 ∨ o.way = 1) : 0 ≤ (k.ansK o).n ∧ (k.ansK o).n ≤ o.s.size := by
  have e1 : k.ansK o = ⟨k.sendN o.way o.now o.s, noOut, noOut, 0⟩ := by unfold ansK; rw [if_pos h0]
  rw [e1]
  unfold sendN
  rw [if_pos hw]
  rcases hw with e | e
  · rw [e]
    exact (Lk.send_ok h.1.1 h.1.2 o.now o.s).2.2
  · rw [e]
    exact (Lk.send_ok h.2.1 h.2.2 o.now o.s).2.2
end Cn
/-- What a way counts, as the law compares it. -/
theorem kp_cnt {k : Lk} {i u : ByteArray} (hk : k.Kept i u) (hb : k.Bal) : cntV k = .agg #[.int .i64 (i.size : Int), .int .i64 (u.size : Int), .int .i64 (k.c.held : Int), .int .i64 k.c.lost] ∧ (i.size : Int) = u.size + k.c.held + k.c.lost ∧ u.size ≤ i.size ∧ i.extract 0 u.size = u := by
  have hp := Ch.kept_pf hk.c
  refine ⟨?_, ?_, hp.1, hp.2⟩
  · unfold cntV
    rw [hk.sent, hk.got]
  · have h1 : k.sent = k.got + (k.c.held + k.c.lost) := hb
    rw [hk.sent, hk.got] at h1
    omega
def strs2 (a b : ByteArray) : Obj := .cells #[.string a, .string b] 58
/-- Inside of the law: the connection, two rows of two texts. -/
structure KpM (w W : World) (U : Own) (g : Nat) (K : Cn) (M gi gu : Nat) (I0 I1 O0 O1 : ByteArray) : Prop where
  hd : KHd w W U g K M
  bi : W.heap[gi]? = some (strs2 I0 I1)
  bu : W.heap[gu]? = some (strs2 O0 O1)
  ni : ¬ U gi
  nu : ¬ U gu
  ne : gi ≠ gu
  li : w.heap.size ≤ gi
  lu : w.heap.size ≤ gu
section
variable {w W W' : World} {U U' : Own} {g : Nat} {K K' : Cn} {M M' gi gu : Nat} {I0 I1 O0 O1 : ByteArray}
theorem KpM.on (h : KpM w W U g K M gi gu I0 I1 O0 O1) (hb : Below W.heap.size W W') : KpM w W' U g K M gi gu I0 I1 O0 O1 :=
  ⟨h.hd.on hb, (hb.block _ (gb.blk_lt h.bi)).trans h.bi, (hb.block _ (gb.blk_lt h.bu)).trans h.bu, h.ni, h.nu, h.ne, h.li, h.lu⟩
theorem KpM.does (h : KpM w W U g K M gi gu I0 I1 O0 O1) (hd : KHd w W' U' g K' M') (hr : Rest W U W' U') : KpM w W' U' g K' M' gi gu I0 I1 O0 O1 :=
  ⟨hd, (hr _ (gb.blk_lt h.bi) h.ni).1.trans h.bi, (hr _ (gb.blk_lt h.bu) h.nu).1.trans h.bu, (hr _ (gb.blk_lt h.bi) h.ni).2, (hr _ (gb.blk_lt h.bu) h.nu).2, h.ne, h.li, h.lu⟩
theorem KpM.setI0 (h : KpM w W U g K M gi gu I0 I1 O0 O1) (x : ByteArray) : KpM w (W.setCell ⟨gi, 0, none⟩ (.string x)) U g K M gi gu x I1 O0 O1 :=
  ⟨h.hd.set h.ni h.li _, by rw [gb.set_heap h.bi]; rfl, (Below.heap_setCell _ _ _ _ (Ne.symm h.ne)).trans h.bu, h.ni, h.nu, h.ne, h.li, h.lu⟩
theorem KpM.setI1 (h : KpM w W U g K M gi gu I0 I1 O0 O1) (x : ByteArray) : KpM w (W.setCell ⟨gi, 1, none⟩ (.string x)) U g K M gi gu I0 x O0 O1 :=
  ⟨h.hd.set h.ni h.li _, by rw [gb.set_heap h.bi]; rfl, (Below.heap_setCell _ _ _ _ (Ne.symm h.ne)).trans h.bu, h.ni, h.nu, h.ne, h.li, h.lu⟩
theorem KpM.setO0 (h : KpM w W U g K M gi gu I0 I1 O0 O1) (x : ByteArray) : KpM w (W.setCell ⟨gu, 0, none⟩ (.string x)) U g K M gi gu I0 I1 x O1 :=
  ⟨h.hd.set h.nu h.lu _, (Below.heap_setCell _ _ _ _ h.ne).trans h.bi, by rw [gb.set_heap h.bu]; rfl, h.ni, h.nu, h.ne, h.li, h.lu⟩
theorem KpM.setO1 (h : KpM w W U g K M gi gu I0 I1 O0 O1) (x : ByteArray) : KpM w (W.setCell ⟨gu, 1, none⟩ (.string x)) U g K M gi gu I0 I1 O0 x :=
  ⟨h.hd.set h.nu h.lu _, (Below.heap_setCell _ _ _ _ h.ne).trans h.bi, by rw [gb.set_heap h.bu]; rfl, h.ni, h.nu, h.ne, h.li, h.lu⟩
theorem strs_at {B : Nat} {a b : ByteArray} (h : W.heap[B]? = some (strs2 a b)) : (W.cell? ⟨B, 0, none⟩ = some (.string a) ∧ W.cell? ⟨B, 1, none⟩ = some (.string b)) ∧ (W.frozen? ⟨B, 0, none⟩ = false ∧ W.frozen? ⟨B, 1, none⟩ = false) ∧ B < W.heap.size :=
  ⟨⟨cell_of_row _ _ 0 _ _ _ h, cell_of_row _ _ 1 _ _ _ h⟩, ⟨gb.frozen_at h, gb.frozen_at h⟩, gb.blk_lt h⟩
theorem lrep_lost {w : World} {V : Own} {g : Nat} {k : Lk} {M : Nat} (h : LRep w V g k M) : 0 ≤ k.c.lost := by
  obtain ⟨U, ch, p, cap, h1, rfl⟩ := h
  exact h1.chn.lost.1
theorem krep_lost {w : World} {V : Own} {g : Nat} {k : Cn} {M : Nat} (h : KRep w V g k M) : 0 ≤ k.A.c.lost ∧ 0 ≤ k.B.c.lost := by
  obtain ⟨V1, V2, a, b, p, cap, h1, hp, rfl⟩ := h
  exact ⟨lrep_lost h1.la, lrep_lost h1.lb⟩
end
end Go.Proofs.YtdighjgcnaajgaaGreat
