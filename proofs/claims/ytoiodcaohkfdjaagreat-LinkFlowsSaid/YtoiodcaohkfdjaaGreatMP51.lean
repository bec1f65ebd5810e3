/-
  LinkFlows as mathematics: a stage whose toxic ends nothing; how many ticks it takes once its source is closed. Conditions: none.
  LinkFlows as mathematics: the ticks that are left to a stage whose source is closed. Conditions: none.
  LinkFlows as mathematics: a chain of such stages, from tick to tick. Conditions: none.
  LinkFlows as mathematics: a step of such a chain. Conditions: none.
  LinkFlows as mathematics: the ticks that are left to a chain, and to a link. Conditions: none.
  LinkFlows as mathematics: a new link's ticks, and the law's own bound. Conditions: none.
  The walk of chicanelaw12.bound. Conditions: as each states.
-/
import Derived.Test.YtoiodcaohkfdjaaGreatMP49
namespace Go.Proofs.YtoiodcaohkfdjaaGreat
open Go.RowKit
/-- A toxic that ends nothing, and lets some through. -/
structure KV (t : Tox) : Prop where
  k : t.k = 0 ∨ t.k = 1 ∨ t.k = 2 ∨ t.k = 3 ∨ t.k = 7
  a : 0 ≤ t.a ∧ t.a ≤ 40
  b : 0 ≤ t.b ∧ t.b ≤ 40
  lat : t.k = 1 → t.b ≤ t.a
  bw : t.k = 2 → 1 ≤ t.a ∧ 1 ≤ t.b
  sl : t.k = 3 → 1 ≤ t.a
def LT (t : Tox) : Int := if t.k = 1 then t.a + t.b else 0
theorem LT.pos {t : Tox} (h : KV t) : 0 ≤ LT t ∧ LT t ≤ 80 := by
  have := h.a
  have := h.b
  unfold LT
  split <;> omega
/-- A stage, at a tick. -/
structure BS (t : Tox) (now : Int) (s : St) : Prop where
  tx : s.tx = t
  c : s.clock ≤ now
  len : s.A.length = s.S.size
  room : 30 ≤ s.room
  last : s.last ≤ now + LT t
  A : ∀ i, i < s.A.length → s.A.getD i 0 ≤ now + LT t
  bk : t.k = 2 → gb.rightB s.bk.r s.bk.u s.bk.l s.bk.t = true ∧ s.bk.t ≤ now ∧ 1 ≤ s.bk.r
  pz : t.k = 3 → s.pause ≤ now + t.b
  at' : s.closed = true → s.at' ≤ now
theorem tickT {c now : Int} (h : c ≤ now) (h0 : 0 ≤ now) (h1 : now ≤ 100000) : tickS c now = now := by
  have e : gb.near now = now := gb.near_of now h0 (by omega)
  unfold tickS
  rw [e]
  split <;> omega
theorem addT_in {a b : Int} (ha : 0 ≤ a) (hb : 0 ≤ b) (h : a + b ≤ 1099511627776) : addT a b = a + b := by
  unfold addT
  rw [gb.near_of a ha (by omega), gb.near_of b hb (by omega), gb.near_of _ (by omega) h]
namespace BS
variable {t : Tox} {now : Int} {s : St}
theorem mono {now' : Int} (h : BS t now s) (hn : now ≤ now') : BS t now' s :=
  ⟨h.tx, by have := h.c; omega, h.len, h.room, by have := h.last; omega, fun i hi => by have := h.A i hi; omega, fun hk => by have := h.bk hk; exact ⟨this.1, by omega, this.2.2⟩, fun hk => by have := h.pz hk; omega, fun hc => by have := h.at' hc; omega⟩
theorem look (h : BS t now s) (h0 : 0 ≤ now) (h1 : now ≤ 100000) : BS t now (lookS s now) :=
  ⟨h.tx, by show tickS s.clock now ≤ now; rw [tickT h.c h0 h1]; exact Int.le_refl _, h.len, h.room, h.last, h.A, h.bk, h.pz, h.at'⟩
theorem close (h : BS t now s) (h0 : 0 ≤ now) (h1 : now ≤ 100000) : BS t now (closeS s now) := by
  have e := tickT h.c h0 h1
  unfold closeS
  rw [e]
  split
  · exact ⟨h.tx, Int.le_refl _, h.len, h.room, h.last, h.A, h.bk, h.pz, h.at'⟩
  · exact ⟨h.tx, Int.le_refl _, h.len, h.room, h.last, h.A, h.bk, h.pz, fun _ => Int.le_refl _⟩
theorem drain (h : BS t now s) : BS t now (drainS s).1 := ⟨h.tx, h.c, rfl, h.room, h.last, fun i hi => absurd hi (Nat.not_lt_zero i), h.bk, h.pz, h.at'⟩
theorem putT_le {l a n : Int} (hl : l ≤ n) (ha : a ≤ n) (h0 : 0 ≤ n) : gc.putT l a ≤ n := by
  unfold gc.putT gc.near
  (repeat' split) <;> omega
theorem put (h : BS t now s) (x : Int) (hx : x ≤ now + LT t) (h0 : 0 ≤ now + LT t) (b : ByteArray) : BS t now (putS s x b) := by
  have hp := putT_le h.last hx h0
  refine ⟨h.tx, h.c, ?_, h.room, hp, fun i hi => ?_, h.bk, h.pz, h.at'⟩
  · show (s.A ++ List.replicate b.size _).length = (s.S ++ b).size
    rw [List.length_append, List.length_replicate, ByteArray.size_append, h.len]
  · show (s.A ++ List.replicate b.size (gc.putT s.last x)).getD i 0 ≤ _
    have hi : i < (s.A ++ List.replicate b.size (gc.putT s.last x)).length := hi
    rw [List.length_append, List.length_replicate] at hi
    rw [List.getD_eq_getElem?_getD]
    rcases Nat.lt_or_ge i s.A.length with hlt | hge
    · rw [List.getElem?_append_left hlt, ← List.getD_eq_getElem?_getD]
      exact h.A i hlt
    · rw [List.getElem?_append_right hge, List.getElem?_replicate, if_pos (by omega)]
      exact hp
theorem force (h : BS t now s) (hv : KV t) (h0 : 0 ≤ now) (h1 : now ≤ 100000) (b : ByteArray) : BS t now (forceS s b) := by
  have hL := LT.pos hv
  unfold forceS
  split
  · exact h
  split
  · rename_i hk
    have hk1 : t.k = 1 := by rw [← h.tx]; exact hk
    have hab : LT t = t.a + t.b := if_pos hk1
    have ha := hv.a
    have hb := hv.b
    have hr : gd.rangeV s.d (s.tx.a - s.tx.b) (s.tx.a + s.tx.b) ≤ t.a + t.b := by
      rw [h.tx]
      unfold gd.rangeV
      split
      · have := (gd.takeZ_range s.d (t.a + t.b - (t.a - t.b) + 1) (by omega)).2
        omega
      · omega
    have hx : addT s.clock (gd.rangeV s.d (s.tx.a - s.tx.b) (s.tx.a + s.tx.b)) ≤ now + LT t := by
      have hc := h.c
      rw [hab]
      generalize gd.rangeV s.d (s.tx.a - s.tx.b) (s.tx.a + s.tx.b) = v at *
      unfold addT gb.near
      (repeat' split) <;> omega
    exact (show BS t now { s with d := gd.rangeS s.d (s.tx.a - s.tx.b) (s.tx.a + s.tx.b) } from ⟨h.tx, h.c, h.len, h.room, h.last, h.A, h.bk, h.pz, h.at'⟩).put _ hx (by omega) b
  · exact h.put _ (by have := h.c; omega) (by omega) b
theorem push (h : BS t now s) (hv : KV t) (h0 : 0 ≤ now) (h1 : now ≤ 100000) (b : ByteArray) : BS t now (pushS s now b) := by
  have hl := h.look h0 h1
  unfold pushS
  generalize lookS s now = l at *
  show BS t now (if l.st ≠ 0 then l else forceS l b)
  split
  · exact hl
  · exact hl.force hv h0 h1 b
theorem bring (h : BS t now s) (hv : KV t) (h0 : 0 ≤ now) (h1 : now ≤ 100000) (b : ByteArray) : BS t now (bringS s now b).1 := by
  have hl := h.look h0 h1
  unfold bringS
  generalize lookS s now = l at *
  show BS t now (if l.st ≠ 0 ∨ l.closed = true then (l, (0 : Int)) else (forceS l (b.extract 0 (if freeS l < b.size then freeS l else b.size : Int).toNat), (if freeS l < b.size then freeS l else b.size : Int))).1
  split
  · exact hl
  · exact hl.force hv h0 h1 _
theorem give (h : BS t now s) (hv : KV t) (h0 : 0 ≤ now) (h1 : now ≤ 100000) (hc : s.clock = now) (n : Int) : BS t now (giveS s n).1 ∧ (giveS s n).1.at' = s.at' := by
  unfold giveS
  split
  · rename_i hk
    have hk2 : t.k = 2 := by rw [← h.tx]; exact hk
    obtain ⟨b1, b2, b3⟩ := h.bk hk2
    have hn : gb.near now = now := gb.near_of now h0 (by omega)
    have hf := gb.fill_right b1 now
    have hr0 := (gb.rightB_iff _ _ _ _).1 hf
    refine ⟨⟨h.tx, h.c, h.len, h.room, h.last, h.A, fun _ => ⟨?_, ?_, b3⟩, h.pz, h.at'⟩, rfl⟩
    · rw [hc]
      have ht := gb.take_range (n := n) hr0.2.2.1.1
      show gb.rightB s.bk.r s.bk.u (gb.fillL s.bk.r s.bk.u s.bk.l s.bk.t now - gb.takeB (gb.fillL s.bk.r s.bk.u s.bk.l s.bk.t now) n) (gb.fillT s.bk.r s.bk.u s.bk.l s.bk.t now) = true
      rw [gb.rightB_iff]
      omega
    · rw [hc]
      show gb.fillT s.bk.r s.bk.u s.bk.l s.bk.t now ≤ now
      unfold gb.fillT
      rw [hn]
      split <;> omega
  split
  · rename_i hk
    have hk3 : t.k = 3 := by rw [← h.tx]; exact hk
    have hb := hv.b
    split
    · exact ⟨h, rfl⟩
    · refine ⟨⟨h.tx, h.c, h.len, h.room, h.last, h.A, h.bk, fun _ => ?_, h.at'⟩, rfl⟩
      show addT s.clock s.tx.b ≤ now + t.b
      rw [hc, h.tx, addT_in h0 hb.1 (by omega)]
      exact Int.le_refl _
  split
  · exact ⟨h, rfl⟩
  split <;> exact ⟨h, rfl⟩
theorem cut (h : BS t now s) {K : Nat} (hK : K ≤ s.S.size) : BS t now (cutS s K) := by
  have hl := h.len
  refine ⟨h.tx, h.c, ?_, h.room, h.last, fun i hi => ?_, h.bk, h.pz, h.at'⟩
  · show (s.A.drop K).length = (s.S.extract K s.S.size).size
    rw [List.length_drop, ByteArray.size_extract]
    omega
  · have hi : i < (s.A.drop K).length := hi
    rw [List.length_drop] at hi
    show (s.A.drop K).getD i 0 ≤ _
    rw [List.getD_eq_getElem?_getD, List.getElem?_drop, ← List.getD_eq_getElem?_getD]
    exact h.A _ (by omega)
/-- What Take makes of a stage: nothing but a look, or so many bytes less. -/
theorem take_is (h : BS t now s) (h0 : 0 ≤ now) (h1 : now ≤ 100000) (n : Int) : (((lookS s now).st ≠ 0 ∨ n < 1) ∧ (takeS s now n).1 = lookS s now) ∨
    ((lookS s now).st = 0 ∧ 1 ≤ n ∧ ∃ K, K = gc.takeK s.A now (giveS (lookS s now) (if n < gc.readyN s.A now then n else gc.readyN s.A now)).2 ∧ K ≤ s.S.size ∧ (takeS s now n).1 = cutS (giveS (lookS s now) (if n < gc.readyN s.A now then n else gc.readyN s.A now)).1 K) := by
  have hcl : (lookS s now).clock = now := tickT h.c h0 h1
  have hA : (lookS s now).A = s.A := rfl
  have hl := h.len
  by_cases hs : (lookS s now).st ≠ 0 ∨ n < 1
  · refine Or.inl ⟨hs, ?_⟩
    unfold takeS
    generalize lookS s now = l at *
    show (if l.st ≠ 0 ∨ n < 1 then (l, (⟨#[]⟩ : ByteArray)) else _).1 = l
    rw [if_pos hs]
  · refine Or.inr ⟨by omega, by omega, _, rfl, ?_, ?_⟩
    · have := gc.takeK_le s.A now (giveS (lookS s now) (if n < gc.readyN s.A now then n else gc.readyN s.A now)).2
      omega
    · unfold takeS
      rw [← hA]
      generalize lookS s now = l at *
      subst hcl
      show (if l.st ≠ 0 ∨ n < 1 then (l, (⟨#[]⟩ : ByteArray)) else _).1 = _
      rw [if_neg hs]
theorem take (h : BS t now s) (hv : KV t) (h0 : 0 ≤ now) (h1 : now ≤ 100000) (n : Int) : BS t now (takeS s now n).1 := by
  have hl := h.look h0 h1
  have hcl : (lookS s now).clock = now := tickT h.c h0 h1
  rcases h.take_is h0 h1 n with ⟨_, e⟩ | ⟨_, _, K, _, hK, e⟩
  · rw [e]
    exact hl
  · rw [e]
    refine (hl.give hv h0 h1 hcl _).1.cut ?_
    rw [(give_keeps _ _).1]
    exact hK
end BS
end Go.Proofs.YtoiodcaohkfdjaaGreat
namespace Go.Proofs.YtoiodcaohkfdjaaGreat
open Go.RowKit
/-- It is empty, and will be Closed. -/
def ZS (t : Tox) (now : Int) (s : St) : Prop := s.S.size = 0 ∧ (t.k = 7 → addT s.at' t.a ≤ now)
/-- Behind that tick, so many more, and its bytes are gone. -/
structure PR (t : Tox) (now r : Int) (s : St) : Prop where
  pos : 0 ≤ r
  slow : t.k = 7 → addT s.at' t.a ≤ now + 1 + r
  lat : t.k = 1 → ∀ i, i < s.A.length → s.A.getD i 0 ≤ now + 1 + r
  bw : t.k = 2 → (s.S.size : Int) ≤ r + 1 ∧ s.bk.t ≤ now
  sl : t.k = 3 → s.S.size = 0 ∨ ∃ x, 0 ≤ x ∧ s.pause ≤ now + 1 + x ∧ x + ((s.S.size : Int) - 1) * (t.b + 1) ≤ r
theorem mul_less {a b c : Int} (h : a ≤ b) (hc : 0 ≤ c) : a * c ≤ b * c := Int.mul_le_mul_of_nonneg_right h hc
theorem fill_one {r u l x now : Int} (h : gb.rightB r u l x = true) (hx : x ≤ now) (hr : 1 ≤ r) (h0 : 0 ≤ now) (h1 : now + 1 ≤ 100000) : 1 ≤ gb.fillL r u l x (now + 1) := by
  obtain ⟨a1, a2, a3, a4, a5, a6⟩ := (gb.rightB_iff _ _ _ _).1 h
  have hn : gb.near (now + 1) = now + 1 := gb.near_of _ (by omega) (by omega)
  have hp : 1 ≤ r * (now + 1 - x) := by
    have := Int.mul_pos (a := r) (b := now + 1 - x) (by omega) (by omega)
    omega
  unfold gb.fillL
  rw [hn, if_pos ⟨h, by omega⟩]
  unfold gb.lvl
  generalize r * (now + 1 - x) = P at *
  split <;> omega
namespace PR
variable {t : Tox} {now r : Int} {s s' : St}
/-- Bytes less, at the same tick. -/
theorem less (h : PR t now r s) (hv : KV t) (hb : BS t now s') (ha : s'.at' = s.at') {K : Nat} (hA : s'.A = s.A.drop K) (hS : s'.S.size + K = s.S.size) (hp : t.k = 3 → s'.pause = s.pause ∨ (s'.pause ≤ now + t.b ∧ 1 ≤ K)) : PR t now r s' := by
  have hb0 := hv.b
  refine ⟨h.pos, fun hk => by rw [ha]; exact h.slow hk, fun hk i hi => ?_, fun hk => ⟨by have := (h.bw hk).1; omega, (hb.bk hk).2.1⟩, fun hk => ?_⟩
  · rw [hA, List.length_drop] at hi
    rw [hA, List.getD_eq_getElem?_getD, List.getElem?_drop, ← List.getD_eq_getElem?_getD]
    exact h.lat hk _ (by omega)
  · rcases Nat.eq_zero_or_pos s'.S.size with hz | hz
    · exact Or.inl hz
    rcases h.sl hk with e | ⟨x, x0, x1, x2⟩
    · omega
    rcases hp hk with e | ⟨e, k1⟩
    · refine Or.inr ⟨x, x0, by rw [e]; exact x1, ?_⟩
      have := mul_less (show (s'.S.size : Int) - 1 ≤ (s.S.size : Int) - 1 by omega) (show 0 ≤ t.b + 1 by omega)
      omega
    · refine Or.inr ⟨t.b, hb0.1, by omega, ?_⟩
      have := mul_less (show (s'.S.size : Int) - 1 ≤ ((s.S.size : Int) - 1) - 1 by omega) (show 0 ≤ t.b + 1 by omega)
      rw [Int.sub_mul ((s.S.size : Int) - 1)] at this
      omega
theorem same (h : PR t now r s) (hv : KV t) (hb : BS t now s') (ha : s'.at' = s.at') (hA : s'.A = s.A) (hS : s'.S.size = s.S.size) (hp : s'.pause = s.pause) : PR t now r s' :=
  h.less hv hb ha (K := 0) (by rw [hA]; rfl) (by omega) fun _ => Or.inl hp
theorem drain (h : PR t now r s) : PR t now r (drainS s).1 :=
  ⟨h.pos, h.slow, fun _ i hi => absurd hi (Nat.not_lt_zero i), fun hk => ⟨by have := h.pos; show ((0 : Nat) : Int) ≤ r + 1; omega, (h.bw hk).2⟩, fun _ => Or.inl rfl⟩
end PR
theorem give_pause {t : Tox} {now : Int} {s : St} (h : BS t now s) (hv : KV t) (h0 : 0 ≤ now) (h1 : now ≤ 100000) (hc : s.clock = now) (hk : t.k = 3) (n : Int) (hn : 0 ≤ n) :
    ((giveS s n).1.pause = s.pause ∧ (giveS s n).2 = 0 ∧ (n = 0 ∨ now < s.pause)) ∨ ((giveS s n).1.pause = now + t.b ∧ 1 ≤ (giveS s n).2 ∧ (giveS s n).2 ≤ n ∧ s.pause ≤ now) := by
  have hs : s.tx.k = 3 := by rw [h.tx]; exact hk
  have hb := hv.b
  unfold giveS
  rw [if_neg (by omega), if_pos hs]
  by_cases hq : n = 0 ∨ s.clock < s.pause
  · rw [if_pos hq]
    exact Or.inl ⟨rfl, rfl, by omega⟩
  · rw [if_neg hq]
    have htk := (gd.takeZ_range s.d s.tx.a (by rw [h.tx]; exact hv.sl hk)).1
    refine Or.inr ⟨?_, ?_, ?_, by omega⟩
    · show addT s.clock s.tx.b = _
      rw [hc, h.tx, addT_in h0 hb.1 (by omega)]
    · show 1 ≤ (if gd.takeZ s.d s.tx.a + 1 < n then gd.takeZ s.d s.tx.a + 1 else n)
      split <;> omega
    · show (if gd.takeZ s.d s.tx.a + 1 < n then gd.takeZ s.d s.tx.a + 1 else n) ≤ n
      split <;> omega
theorem takeK_pos {A : List Int} {x n : Int} (h : 1 ≤ n) (hn : n ≤ gc.readyN A x) : gc.takeK A x n = n.toNat := by
  unfold gc.takeK
  omega
section
variable {t : Tox} {now r : Int} {s : St}
theorem PR.look (h : PR t now r s) (hb : BS t now s) (hv : KV t) (h0 : 0 ≤ now) (h1 : now ≤ 100000) : PR t now r (lookS s now) := h.same hv (hb.look h0 h1) rfl rfl rfl rfl
theorem PR.take (h : PR t now r s) (hb : BS t now s) (hv : KV t) (h0 : 0 ≤ now) (h1 : now ≤ 100000) (n : Int) : PR t now r (takeS s now n).1 := by
  have hl := hb.look h0 h1
  have hcl : (lookS s now).clock = now := tickT hb.c h0 h1
  have hbt := hb.take hv h0 h1 n
  rcases hb.take_is h0 h1 n with ⟨_, e⟩ | ⟨_, hn1, K, hK, hKs, e⟩
  · rw [e]
    exact h.look hb hv h0 h1
  · rw [e] at hbt ⊢
    have gk := give_keeps (lookS s now) (if n < gc.readyN s.A now then n else gc.readyN s.A now)
    have gg := hl.give hv h0 h1 hcl (if n < gc.readyN s.A now then n else gc.readyN s.A now)
    refine h.less hv hbt gg.2 (K := K) (by show (giveS _ _).1.A.drop K = _; rw [gk.2.1]; rfl) ?_ fun hk => ?_
    · show ((giveS (lookS s now) _).1.S.extract K (giveS (lookS s now) _).1.S.size).size + K = s.S.size
      rw [gk.1, ByteArray.size_extract]
      show min s.S.size s.S.size - K + K = s.S.size
      omega
    · have gp := give_pause hl hv h0 h1 hcl hk (if n < gc.readyN s.A now then n else gc.readyN s.A now) (by split <;> omega)
      rcases gp with ⟨e1, _⟩ | ⟨e1, e2, e3, _⟩
      · exact Or.inl e1
      · refine Or.inr ⟨by show (giveS _ _).1.pause ≤ _; omega, ?_⟩
        rw [hK, takeK_pos e2 (by revert e3; split <;> omega)]
        omega
theorem PR.close (h : PR t now r s) (hb : BS t now s) (hv : KV t) (h0 : 0 ≤ now) (h1 : now ≤ 100000) (hc : s.closed = true) : PR t now r (closeS s now) := by
  have hbc := hb.close h0 h1
  have e : closeS s now = { s with clock := tickS s.clock now } := by unfold closeS; rw [if_pos hc]
  rw [e] at hbc ⊢
  exact h.same hv hbc rfl rfl rfl rfl
theorem PR.push (h : PR t now r s) (hb : BS t now s) (hv : KV t) (h0 : 0 ≤ now) (h1 : now ≤ 100000) (b : ByteArray) (hz : b.size = 0) : PR t now r (pushS s now b) ∧ pushS s now b = lookS s now := by
  have e : pushS s now b = lookS s now := by
    unfold pushS
    generalize lookS s now = l
    show (if l.st ≠ 0 then l else forceS l b) = l
    split
    · rfl
    · unfold forceS
      rw [if_pos hz]
  rw [e]
  exact ⟨h.look hb hv h0 h1, rfl⟩
/-- So many ticks at the most. -/
def KN (t : Tox) (n : Int) : Int := if t.k = 1 then t.a + t.b else if t.k = 2 then n else if t.k = 3 then n * (t.b + 1) else if t.k = 7 then t.a else 0
theorem PR.fresh (hb : BS t now s) (hv : KV t) (h0 : 0 ≤ now) (hc : s.closed = true) {n : Int} (hn : (s.S.size : Int) ≤ n) : PR t now (KN t n) s := by
  have ha := hv.a
  have hb0 := hv.b
  have hr : 0 ≤ KN t n := by
    unfold KN
    split
    · omega
    split
    · omega
    split
    · exact Int.mul_nonneg (by omega) (by omega)
    split <;> omega
  refine ⟨hr, fun hk => ?_, fun hk i hi => ?_, fun hk => ⟨?_, (hb.bk hk).2.1⟩, fun hk => ?_⟩
  · have e : KN t n = t.a := by unfold KN; rw [if_neg (by omega), if_neg (by omega), if_neg (by omega), if_pos hk]
    have := hb.at' hc
    rw [e]
    unfold addT gb.near
    (repeat' split) <;> omega
  · have e : KN t n = t.a + t.b := if_pos hk
    have e2 : LT t = t.a + t.b := if_pos hk
    have := hb.A i hi
    omega
  · have e : KN t n = n := by unfold KN; rw [if_neg (by omega), if_pos hk]
    omega
  · have e : KN t n = n * (t.b + 1) := by unfold KN; rw [if_neg (by omega), if_neg (by omega), if_pos hk]
    refine Or.inr ⟨t.b, hb0.1, by have := hb.pz hk; omega, ?_⟩
    have := mul_less (show (s.S.size : Int) - 1 ≤ n - 1 by omega) (show 0 ≤ t.b + 1 by omega)
    rw [Int.sub_mul n] at this
    omega
/-- A stage that has no byte left. -/
theorem PR.done (h : PR t now r s) {s' : St} (hb : BS t (now + 1) s') (hz : s'.S.size = 0) (ha : s'.at' = s.at') : ZS t (now + 1) s' ∨ (1 ≤ r ∧ PR t (now + 1) (r - 1) s') := by
  by_cases hk : t.k = 7
  · have hs := h.slow hk
    have hr := h.pos
    have hl := hb.len
    by_cases hd : addT s'.at' t.a ≤ now + 1
    · exact Or.inl ⟨hz, fun _ => hd⟩
    · rw [ha] at hd
      exact Or.inr ⟨by omega, ⟨by omega, fun _ => by rw [ha]; omega, fun _ i hi => absurd hi (by omega), fun hk => by omega, fun _ => Or.inl hz⟩⟩
  · exact Or.inl ⟨hz, fun e => absurd e hk⟩
/-- A tick more. -/
theorem PR.tick (h : PR t now r s) (hb : BS t (now + 1) s) (hv : KV t) (h0 : 0 ≤ now + 1) (h1 : now + 1 ≤ 100000) (hst : (lookS s (now + 1)).st ≠ 0 → s.S.size = 0) (hnw : t.k = 2 → 0 ≤ now) {n : Int} (hn : (s.S.size : Int) ≤ n) :
    ZS t (now + 1) (takeS s (now + 1) n).1 ∨ (1 ≤ r ∧ PR t (now + 1) (r - 1) (takeS s (now + 1) n).1) := by
  have hl := hb.look h0 h1
  have hcl : (lookS s (now + 1)).clock = now + 1 := tickT hb.c h0 h1
  have hbt := hb.take hv h0 h1 n
  have hlen := hb.len
  have hr := h.pos
  have hb0 := hv.b
  rcases hb.take_is h0 h1 n with ⟨hx, e⟩ | ⟨_, hn1, K, hK, hKs, e⟩
  · rw [e] at hbt ⊢
    exact h.done hbt (by
      show s.S.size = 0
      rcases hx with hx | hx
      · exact hst hx
      · omega) rfl
  rw [e] at hbt ⊢
  have hrd := gc.ready_le s.A (now + 1)
  have eN : (if n < gc.readyN s.A (now + 1) then n else (gc.readyN s.A (now + 1) : Int)) = gc.readyN s.A (now + 1) := if_neg (by omega)
  rw [eN] at hK hbt ⊢
  have gk := give_keeps (lookS s (now + 1)) (gc.readyN s.A (now + 1))
  have gg := hl.give hv h0 h1 hcl (gc.readyN s.A (now + 1))
  have hS : (cutS (giveS (lookS s (now + 1)) (gc.readyN s.A (now + 1))).1 K).S.size + K = s.S.size := by
    show ((giveS (lookS s (now + 1)) _).1.S.extract K (giveS (lookS s (now + 1)) _).1.S.size).size + K = s.S.size
    rw [gk.1, ByteArray.size_extract]
    show min s.S.size s.S.size - K + K = s.S.size
    omega
  by_cases hKz : K = s.S.size
  · exact h.done hbt (by omega) gg.2
  have hall : t.k ≠ 1 → gc.readyN s.A (now + 1) = s.A.length := fun hk => gc.ready_is (Nat.le_refl _) (fun j hj => by
    have := hb.A j hj
    unfold LT at this
    rw [if_neg hk] at this
    omega) (fun hh => absurd hh (Nat.lt_irrefl _))
  have hside : ∀ hk : t.k = 0 ∨ t.k = 1 ∨ t.k = 7, (giveS (lookS s (now + 1)) (gc.readyN s.A (now + 1))).2 = gc.readyN s.A (now + 1) := fun hk => by
    have hs : (lookS s (now + 1)).tx.k = t.k := by rw [hl.tx]
    generalize lookS s (now + 1) = l at *
    unfold giveS
    rw [if_neg (by omega), if_neg (by omega), if_neg (by omega), if_neg (by omega)]
  have hfull : ∀ hk : t.k = 0 ∨ t.k = 1 ∨ t.k = 7, K = gc.readyN s.A (now + 1) := fun hk => by
    rw [hK, hside hk]
    unfold gc.takeK
    omega
  refine Or.inr ?_
  rcases hv.k with hk | hk | hk | hk | hk
  · have h2 := hfull (Or.inl hk)
    have h3 := hall (by omega)
    omega
  · have h2 := hfull (Or.inr (Or.inl hk))
    have hr1 : 1 ≤ r := by
      rcases Int.lt_or_le 0 r with e | e
      · omega
      · have : gc.readyN s.A (now + 1) = s.A.length := gc.ready_is (Nat.le_refl _) (fun j hj => by have := h.lat hk j hj; omega) (fun hh => absurd hh (Nat.lt_irrefl _))
        omega
    refine ⟨hr1, ⟨by omega, fun e => by omega, fun _ i hi => ?_, fun e => by omega, fun e => by omega⟩⟩
    have eA : (cutS (giveS (lookS s (now + 1)) (gc.readyN s.A (now + 1))).1 K).A = s.A.drop K := by show (giveS _ _).1.A.drop K = _; rw [gk.2.1]; rfl
    rw [eA, List.length_drop] at hi
    rw [eA, List.getD_eq_getElem?_getD, List.getElem?_drop, ← List.getD_eq_getElem?_getD]
    have := h.lat hk (K + i) (by omega)
    omega
  · have hs : (lookS s (now + 1)).tx.k = 2 := by rw [hl.tx]; exact hk
    have h3 := hall (by omega)
    obtain ⟨b1, b2⟩ := h.bw hk
    obtain ⟨c1, _, c3⟩ := hb.bk hk
    have hf := fill_one c1 b2 c3 (hnw hk) h1
    have hg : (giveS (lookS s (now + 1)) (gc.readyN s.A (now + 1))).2 = gb.takeB (gb.fillL s.bk.r s.bk.u s.bk.l s.bk.t (now + 1)) (gc.readyN s.A (now + 1)) := by
      unfold giveS
      rw [if_pos hs, hcl]
      rfl
    have hK1 : 1 ≤ K := by
      rw [hK, hg]
      generalize gb.fillL s.bk.r s.bk.u s.bk.l s.bk.t (now + 1) = L at *
      unfold gb.takeB gc.takeK
      (repeat' split) <;> omega
    exact ⟨by omega, ⟨by omega, fun e => by omega, fun e => by omega, fun _ => ⟨by omega, (hbt.bk hk).2.1⟩, fun e => by omega⟩⟩
  · have h3 := hall (by omega)
    rcases h.sl hk with e0 | ⟨x, x0, x1, x2⟩
    · omega
    have hpos : 0 ≤ ((s.S.size : Int) - 1) * (t.b + 1) := Int.mul_nonneg (by omega) (by omega)
    rcases give_pause hl hv h0 h1 hcl hk (gc.readyN s.A (now + 1)) (by omega) with ⟨e1, e2, e3⟩ | ⟨e1, e2, e3, _⟩
    · have hK0 : K = 0 := by rw [hK, e2]; unfold gc.takeK; omega
      have hp : now + 1 < s.pause := by
        rcases e3 with e3 | e3
        · omega
        · exact e3
      refine ⟨by omega, ⟨by omega, fun e => by omega, fun e => by omega, fun e => by omega, fun _ => Or.inr ⟨x - 1, by omega, ?_, ?_⟩⟩⟩
      · show (giveS _ _).1.pause ≤ _
        rw [e1]
        show s.pause ≤ _
        omega
      · rw [show (cutS (giveS (lookS s (now + 1)) (gc.readyN s.A (now + 1))).1 K).S.size = s.S.size by omega]
        omega
    · have hK1 : 1 ≤ K := by
        rw [hK, takeK_pos e2 e3]
        omega
      have hm := mul_less (show (1 : Int) ≤ (s.S.size : Int) - 1 by omega) (show 0 ≤ t.b + 1 by omega)
      have hm2 := mul_less (show ((cutS (giveS (lookS s (now + 1)) (gc.readyN s.A (now + 1))).1 K).S.size : Int) - 1 ≤ ((s.S.size : Int) - 1) - 1 by omega) (show 0 ≤ t.b + 1 by omega)
      rw [Int.sub_mul ((s.S.size : Int) - 1)] at hm2
      refine ⟨by omega, ⟨by omega, fun e => by omega, fun e => by omega, fun e => by omega, fun _ => Or.inr ⟨t.b, hb0.1, ?_, by omega⟩⟩⟩
      show (giveS _ _).1.pause ≤ _
      rw [e1]
      omega
  · have h2 := hfull (Or.inr (Or.inr hk))
    have h3 := hall (by omega)
    omega
/-- What is empty, and behind its source, is Closed. -/
theorem closed_st (hb : BS t now s) (hv : KV t) (h0 : 0 ≤ now) (h1 : now ≤ 100000) (hc : s.closed = true) (hs : s.st = 0 ∨ s.st = 1) (hz : ZS t now s) : (lookS s now).st = 1 := by
  have hcl : tickS s.clock now = now := tickT hb.c h0 h1
  have hk := hv.k
  show stateS s (tickS s.clock now) = 1
  rw [hcl]
  have h7 : t.k ≠ 7 ∨ addT s.at' t.a ≤ now := by
    by_cases h7 : t.k = 7
    · exact Or.inr (hz.2 h7)
    · exact Or.inl h7
  unfold stateS
  rw [hb.tx]
  rcases hs with hs | hs
  · rw [if_neg (by omega), if_neg (by omega), if_neg (by omega), if_neg (by omega), if_pos ⟨hc, hz.1, h7⟩]
  · exact (if_pos (by omega)).trans hs
end
end Go.Proofs.YtoiodcaohkfdjaaGreat
namespace Go.Proofs.YtoiodcaohkfdjaaGreat
open Go.RowKit
namespace Ch
theorem held_two (l : List Prt) (k : Nat) (h : k + 1 < l.length) : (l.getD k noPrt).s.S.size + (l.getD (k + 1) noPrt).s.S.size ≤ (l.map fun p => p.s.S.size).sum := by
  induction l generalizing k with
  | nil => exact absurd h (Nat.not_lt_zero _)
  | cons a r ih =>
    rw [List.map_cons, List.sum_cons]
    cases k with
    | zero =>
      cases r with
      | nil => exact absurd h (by simp)
      | cons b q =>
        rw [List.map_cons, List.sum_cons]
        show a.s.S.size + b.s.S.size ≤ _
        omega
    | succ k =>
      have := ih k (by simpa using h)
      show (r.getD k noPrt).s.S.size + (r.getD (k + 1) noPrt).s.S.size ≤ _
      omega
theorem held_one (l : List Prt) (k : Nat) (h : k < l.length) : (l.getD k noPrt).s.S.size ≤ (l.map fun p => p.s.S.size).sum := by
  induction l generalizing k with
  | nil => exact absurd h (Nat.not_lt_zero _)
  | cons a r ih =>
    rw [List.map_cons, List.sum_cons]
    cases k with
    | zero => show a.s.S.size ≤ _; omega
    | succ k =>
      have := ih k (by simpa using h)
      show (r.getD k noPrt).s.S.size ≤ _
      omega
theorem closed_on {c : Ch} {j : Nat} (h : (c.at' j).s.closed = true) (hj : j < c.L.length) (k : Nat) (o : Op) : ((c.onC k o).at' j).s.closed = true := by
  by_cases e : k = j
  · subst e
    rw [at_on _ _ _ hj]
    show (doS (c.at' k).s o).1.closed = true
    rw [closed_do, h]
    rfl
  · rw [at_other _ _ _ _ e]
    exact h
theorem closed_loseN {c : Ch} {j : Nat} (h : (c.at' j).s.closed = true) (hj : j < c.L.length) (n : Nat) : ((c.loseN n).at' j).s.closed = true := by
  induction n with
  | zero => exact h
  | succ n ih => exact closed_on ih (by rw [len_loseN]; exact hj) n oDrain
theorem closed_flow1 {c : Ch} {j : Nat} (h : (c.at' j).s.closed = true) (hj : j < c.L.length) (now : Int) (i : Nat) : ((c.flow1 now i).at' j).s.closed = true := by
  have h1 := closed_on h hj (i + 1) (oLook now)
  unfold flow1
  dsimp only
  split
  · exact closed_on (closed_on h1 (by rw [len_on]; exact hj) _ _) (by rw [len_on, len_on]; exact hj) _ _
  · exact h1
theorem closed_ends1 {c : Ch} {j : Nat} (h : (c.at' j).s.closed = true) (hj : j < c.L.length) (now : Int) (i : Nat) : ((c.ends1 now i).at' j).s.closed = true := by
  have h1 := closed_on h hj i (oLook now)
  unfold ends1
  dsimp only
  split
  · exact closed_on (c := (c.onC i (oLook now)).lose (i + 1)) (closed_loseN h1 (by rw [len_on]; exact hj) _) (by rw [len_lose, len_on]; exact hj) _ _
  · exact h1
end Ch
/-- A chain whose stages end nothing, and hold few bytes. -/
structure EB (T : Nat → Tox) (N n : Nat) (now : Int) (c : Ch) : Prop where
  len : c.L.length = N
  bs : ∀ j, j < N → BS (T j) now (c.at' j).s
  safe : c.Safe
  held : c.held ≤ n
  lost : c.lost = 0
structure EV (T : Nat → Tox) (N n : Nat) : Prop where
  kv : ∀ j, KV (T j)
  two : 2 ≤ N
  few : n ≤ 30
  out : (T (N - 1)).k = 0
namespace EB
open Ch
variable {T : Nat → Tox} {N n : Nat} {now : Int} {c : Ch}
theorem held_of {d : Ch} (h : EB T N n now c) (hb : d.bal = c.bal) (hl : d.lost = c.lost) : d.held ≤ n ∧ d.lost = 0 := by
  have h1 := h.held
  have h2 := h.lost
  unfold bal at hb
  omega
theorem mono {now' : Int} (h : EB T N n now c) (hn : now ≤ now') : EB T N n now' c := ⟨h.len, fun j hj => (h.bs j hj).mono hn, h.safe, h.held, h.lost⟩
theorem bs_on (h : EB T N n now c) {k : Nat} (hk : k < N) (o : Op) (hs : BS (T k) now (doS (c.at' k).s o).1) : ∀ j, j < N → BS (T j) now ((c.onC k o).at' j).s := fun j hj => by
  by_cases e : k = j
  · subst e
    rw [at_on _ _ _ (by rw [h.len]; exact hk)]
    exact hs
  · rw [at_other _ _ _ _ e]
    exact h.bs j hj
theorem look (h : EB T N n now c) (h0 : 0 ≤ now) (h1 : now ≤ 100000) {k : Nat} (hk : k < N) : EB T N n now (c.onC k (oLook now)) := by
  have hl := h.len
  have := h.held_of (bal_look c k now (by omega)) rfl
  exact ⟨by rw [len_on]; exact hl, h.bs_on hk _ ((h.bs k hk).look h0 h1), h.safe.look k (by omega) now, this.1, this.2⟩
theorem looks (h : EB T N n now c) (h0 : 0 ≤ now) (h1 : now ≤ 100000) (m : Nat) (hm : m ≤ N) : EB T N n now (c.looks now m) := by
  induction m with
  | zero => exact h
  | succ m ih => exact (ih (by omega)).look h0 h1 (by omega)
theorem flow1 (h : EB T N n now c) (hv : EV T N n) (h0 : 0 ≤ now) (h1 : now ≤ 100000) {i : Nat} (hi : i + 1 < N) : EB T N n now (c.flow1 now i) := by
  have hl := h.len
  have hb := h.held_of (bal_flow1 c now i (by omega)) (lost_flow1 c now i)
  refine ⟨by rw [len_flow1]; exact hl, ?_, h.safe.flow1 now i (by omega), hb.1, hb.2⟩
  have a1 := h.look h0 h1 hi
  unfold Ch.flow1
  dsimp only
  split
  · generalize c.onC (i + 1) (oLook now) = d at *
    generalize freeS (d.at' (i + 1)).s = m at *
    have a2 := a1.bs_on (k := i) (by omega) (Ch.oTake now m) ((a1.bs i (by omega)).take (hv.kv i) h0 h1 m)
    have e1 : ((d.onC i (Ch.oTake now m)).at' (i + 1)) = d.at' (i + 1) := at_other _ _ _ _ (by omega)
    intro j hj
    by_cases e : i + 1 = j
    · subst e
      rw [at_on _ _ _ (by rw [len_on, a1.len]; exact hi), e1]
      exact (a1.bs (i + 1) hi).push (hv.kv _) h0 h1 _
    · rw [at_other _ _ _ _ e]
      exact a2 j hj
  · exact a1.bs
theorem flow (h : EB T N n now c) (hv : EV T N n) (h0 : 0 ≤ now) (h1 : now ≤ 100000) (m : Nat) (hm : m < N) : EB T N n now (c.flow now m) := by
  induction m with
  | zero => exact h
  | succ m ih => exact (ih (by omega)).flow1 hv h0 h1 hm
theorem bs_loseN (h : EB T N n now c) (m : Nat) (hm : m ≤ N) : ∀ j, j < N → BS (T j) now ((c.loseN m).at' j).s := by
  induction m with
  | zero => exact h.bs
  | succ m ih =>
    intro j hj
    show BS (T j) now (((c.loseN m).onC m oDrain).at' j).s
    by_cases e : m = j
    · subst e
      rw [at_on _ _ _ (by rw [len_loseN, h.len]; exact hj)]
      exact (ih (by omega) m hj).drain
    · rw [at_other _ _ _ _ e]
      exact ih (by omega) j hj
theorem ends1 (h : EB T N n now c) (h0 : 0 ≤ now) (h1 : now ≤ 100000) {i : Nat} (hi : i + 1 < N) : EB T N n now (c.ends1 now i) := by
  have hl := h.len
  have hs := h.safe.ends1 now i (by omega)
  have hb := h.held_of (bal_ends1 c now i (by omega)) hs.2
  refine ⟨by rw [len_ends1]; exact hl, ?_, hs.1, hb.1, hb.2⟩
  have a1 := h.look h0 h1 (k := i) (by omega)
  unfold Ch.ends1
  dsimp only
  split
  · have a2 := a1.bs_loseN (i + 1) (by omega)
    have hl2 := a1.len
    generalize c.onC i (oLook now) = d at *
    intro j hj
    by_cases e : i + 1 = j
    · subst e
      rw [at_on _ _ _ (by rw [len_lose, hl2]; exact hj)]
      exact (a2 (i + 1) hj).close h0 h1
    · rw [at_other _ _ _ _ e]
      exact a2 j hj
  · exact a1.bs
theorem ends (h : EB T N n now c) (h0 : 0 ≤ now) (h1 : now ≤ 100000) (m : Nat) (hm : m < N) : EB T N n now (c.ends now m) := by
  induction m with
  | zero => exact h
  | succ m ih => exact (ih (by omega)).ends1 h0 h1 hm
theorem step3 (h : EB T N n now c) (hv : EV T N n) (h0 : 0 ≤ now) (h1 : now ≤ 100000) : EB T N n now (c.step3 now) := by
  have hl := h.len
  have h2 := hv.two
  unfold Ch.step3
  rw [hl]
  exact (((h.looks h0 h1 N (Nat.le_refl _)).flow hv h0 h1 (N - 1) (by omega)).ends h0 h1 (N - 1) (by omega))
theorem out (h : EB T N n now c) (hv : EV T N n) (h0 : 0 ≤ now) (h1 : now ≤ 100000) (w : Int) : EB T N n now (c.onC (N - 1) (Ch.oTake now w)) := by
  have hl := h.len
  have h2 := hv.two
  have hb := h.bs (N - 1) (by omega)
  have hh := held_on c (N - 1) (Ch.oTake now w) (by omega)
  have hz := sz_take (c.at' (N - 1)).s now w
  exact ⟨by rw [len_on]; exact hl, h.bs_on (k := N - 1) (by omega) _ (hb.take (hv.kv _) h0 h1 w), h.safe.take (N - 1) (by omega) now w, by have := h.held; omega, h.lost⟩
/-- A stage whose source is closed, ahead of it nothing. -/
theorem lo (h : EB T N n now c) (hv : EV T N n) (h0 : 0 ≤ now) (h1 : now ≤ 100000) {p : Nat} (hp : p < N) (hc : (c.at' p).s.closed = true) (Φ : St → Prop) (hL : ∀ s, Φ s → Φ (lookS s now)) (hΦ : Φ (c.at' p).s) (m : Nat) (hm : m ≤ p) :
    ((c.flow now m).at' p).s.closed = true ∧ Φ ((c.flow now m).at' p).s := by
  induction m with
  | zero => exact ⟨hc, hΦ⟩
  | succ m ih =>
    obtain ⟨b1, b2⟩ := ih (by omega)
    have a := h.flow hv h0 h1 m (by omega)
    show (((c.flow now m).flow1 now m).at' p).s.closed = true ∧ Φ (((c.flow now m).flow1 now m).at' p).s
    generalize c.flow now m = e at *
    have hl := a.len
    refine ⟨closed_flow1 b1 (by omega) now m, ?_⟩
    have hz := (a.safe.src p (by omega) b1).2 m (by omega)
    unfold Ch.flow1
    dsimp only
    by_cases hmp : m + 1 = p
    · subst hmp
      have hk : Φ ((e.onC (m + 1) (oLook now)).at' (m + 1)).s := by rw [at_on _ _ _ (by omega)]; exact hL _ b2
      split
      · have e0 : ((e.onC (m + 1) (oLook now)).at' m) = e.at' m := at_other _ _ _ _ (by omega)
        have hl2 : (e.onC (m + 1) (oLook now)).L.length = N := by rw [len_on]; exact hl
        generalize e.onC (m + 1) (oLook now) = d at *
        generalize freeS (d.at' (m + 1)).s = w at *
        have e1 : ((d.onC m (Ch.oTake now w)).at' (m + 1)) = d.at' (m + 1) := at_other _ _ _ _ (by omega)
        rw [at_on _ _ _ (by rw [len_on]; omega), e1]
        show Φ (pushS (d.at' (m + 1)).s now (d.ansC m (Ch.oTake now w)).s)
        have hz2 := sz_take (d.at' m).s now w
        rw [e0] at hz2
        have hz3 : (d.ansC m (Ch.oTake now w)).s.size = 0 := by
          unfold ansC
          rw [e0]
          omega
        have e3 : pushS (d.at' (m + 1)).s now (d.ansC m (Ch.oTake now w)).s = lookS (d.at' (m + 1)).s now := by
          unfold pushS
          generalize lookS (d.at' (m + 1)).s now = l
          show (if l.st ≠ 0 then l else forceS l _) = l
          split
          · rfl
          · unfold forceS
            rw [if_pos hz3]
        rw [e3]
        exact hL _ hk
      · exact hk
    · have hk : ((e.onC (m + 1) (oLook now)).at' p) = e.at' p := at_other _ _ _ _ hmp
      split
      · rw [at_other _ _ _ _ hmp, at_other _ _ _ _ (by omega), hk]
        exact b2
      · rw [hk]
        exact b2
/-- The stages ahead of it end. -/
theorem lo2 (h : EB T N n now c) (h0 : 0 ≤ now) (h1 : now ≤ 100000) {p : Nat} (hp : p < N) (hc : (c.at' p).s.closed = true) (Φ : St → Prop) (hC : ∀ s, BS (T p) now s → s.closed = true → Φ s → Φ (closeS s now)) (hΦ : Φ (c.at' p).s) (m : Nat) (hm : m ≤ p) :
    ((c.ends now m).at' p).s.closed = true ∧ Φ ((c.ends now m).at' p).s := by
  induction m with
  | zero => exact ⟨hc, hΦ⟩
  | succ m ih =>
    obtain ⟨b1, b2⟩ := ih (by omega)
    have a := h.ends h0 h1 m (by omega)
    show (((c.ends now m).ends1 now m).at' p).s.closed = true ∧ Φ (((c.ends now m).ends1 now m).at' p).s
    generalize c.ends now m = e at *
    have hl := a.len
    refine ⟨closed_ends1 b1 (by omega) now m, ?_⟩
    have e0 : ((e.onC m (oLook now)).at' p) = e.at' p := at_other _ _ _ _ (by omega)
    have hl2 : (e.onC m (oLook now)).L.length = N := by rw [len_on]; exact hl
    unfold Ch.ends1
    dsimp only
    split
    · generalize e.onC m (oLook now) = d at *
      have e1 : ((d.lose (m + 1)).at' p) = d.at' p := at_loseN d (m + 1) p (by omega)
      by_cases hmp : m + 1 = p
      · subst hmp
        rw [at_on _ _ _ (by rw [len_lose]; omega), e1, e0]
        exact hC _ (a.bs _ hp) b1 b2
      · rw [at_other _ _ _ _ hmp, e1, e0]
        exact b2
    · rw [e0]
      exact b2
end EB
end Go.Proofs.YtoiodcaohkfdjaaGreat
namespace Go.Proofs.YtoiodcaohkfdjaaGreat
open Go.RowKit
namespace Ch
theorem at_lose_lt {c : Ch} {p m : Nat} (h : p < m) (hl : p < c.L.length) : ((c.loseN m).at' p).s = (drainS (c.at' p).s).1 := by
  induction m with
  | zero => omega
  | succ m ih =>
    show (((c.loseN m).onC m oDrain).at' p).s = _
    by_cases e : m = p
    · subst e
      rw [at_on _ _ _ (by rw [len_loseN]; exact hl), at_loseN _ _ _ (Nat.le_refl _)]
      rfl
    · rw [at_other _ _ _ _ e]
      exact ih (by omega)
theorem closed_ends {c : Ch} {j : Nat} (h : (c.at' j).s.closed = true) (hj : j < c.L.length) (now : Int) (m : Nat) : ((c.ends now m).at' j).s.closed = true := by
  induction m with
  | zero => exact h
  | succ m ih => exact closed_ends1 ih (by rw [len_ends]; exact hj) now m
end Ch
namespace EB
open Ch
variable {T : Nat → Tox} {N n : Nat} {now : Int} {c : Ch}
theorem looks_lo (h : EB T N n now c) {p : Nat} (hp : p < N) (hc : (c.at' p).s.closed = true) (Φ : St → Prop) (hL : ∀ s, Φ s → Φ (lookS s now)) (hΦ : Φ (c.at' p).s) (m : Nat) : ((c.looks now m).at' p).s.closed = true ∧ Φ ((c.looks now m).at' p).s := by
  have hl := h.len
  induction m with
  | zero => exact ⟨hc, hΦ⟩
  | succ m ih =>
    show (((c.looks now m).onC m (oLook now)).at' p).s.closed = true ∧ Φ (((c.looks now m).onC m (oLook now)).at' p).s
    refine ⟨closed_on ih.1 (by rw [len_looks]; omega) _ _, ?_⟩
    by_cases e : m = p
    · subst e
      rw [at_on _ _ _ (by rw [len_looks]; omega)]
      exact hL _ ih.2
    · rw [at_other _ _ _ _ e]
      exact ih.2
theorem step_is (h : EB T N n now c) (hs : c.state = 0) : c.stepC now = { (c.step3 now).onC (N - 1) (oLook now) with state := ((c.step3 now).ansC (N - 1) (oLook now)).n } ∧ c.step3 now = ((c.looks now N).flow now (N - 1)).ends now (N - 1) := by
  have hl := h.len
  have hb := h.safe.none_broken now c.L.length (Nat.le_refl _)
  unfold stepC Ch.step3
  rw [if_neg (by omega), hb, hl]
  exact ⟨if_neg (by decide), rfl⟩
theorem step (h : EB T N n now c) (hv : EV T N n) (h0 : 0 ≤ now) (h1 : now ≤ 100000) (hs : c.state = 0) : EB T N n now (c.stepC now) := by
  rw [(h.step_is hs).1]
  have a := (h.step3 hv h0 h1).look h0 h1 (k := N - 1) (by have := hv.two; omega)
  exact ⟨a.len, a.bs, a.safe.same rfl id, a.held, a.lost⟩
theorem st_sz (h : EB T N n now c) {p : Nat} (hp : p < N) : ((lookS (c.at' p).s now).st ≠ 0 → (c.at' p).s.closed = true ∧ (c.at' p).s.S.size = 0) ∧ ((c.at' p).s.st = 0 ∨ (c.at' p).s.st = 1) := by
  have hl := h.len
  have a := h.safe.ok p (by omega)
  refine ⟨fun hst => ?_, ?_⟩
  · rcases (stok_look a now).2 with e | ⟨_, e2, e3⟩
    · exact absurd e hst
    · exact ⟨e2, e3⟩
  · rcases a.2 with e | e
    · exact Or.inl e
    · exact Or.inr e.1
theorem step_mid (h : EB T N n now c) (hv : EV T N n) (h0 : 0 ≤ now) (h1 : now ≤ 100000) (hs : c.state = 0) {p : Nat} (hp : p + 1 < N) (hc : (c.at' p).s.closed = true) (Φ Ψ Θ : St → Prop) (hL : ∀ s, Φ s → Φ (lookS s now))
    (hT : ∀ s m, BS (T p) now s → ((lookS s now).st ≠ 0 → s.S.size = 0) → (s.S.size : Int) ≤ m → Φ s → Ψ (takeS s now m).1) (hC : ∀ s, BS (T p) now s → s.closed = true → Ψ s → Ψ (closeS s now))
    (hE : ∀ s, BS (T p) now s → s.closed = true → (s.st = 0 ∨ s.st = 1) → Ψ s → (lookS s now).st ≠ 1 → Θ (lookS s now)) (hD : ∀ s, Θ s → Θ (drainS s).1) (hΦ : Φ (c.at' p).s) :
    ((c.stepC now).at' p).s.closed = true ∧ (((c.stepC now).at' (p + 1)).s.closed = true ∨ Θ ((c.stepC now).at' p).s) := by
  have e1 := h.looks h0 h1 N (Nat.le_refl _)
  obtain ⟨x1, y1⟩ := h.looks_lo (by omega) hc Φ hL hΦ N
  rw [(h.step_is hs).1, (h.step_is hs).2]
  generalize c.looks now N = c1 at *
  have flowed : ∀ m, p + 1 ≤ m → m < N → ((c1.flow now m).at' p).s.closed = true ∧ (((c1.flow now m).at' (p + 1)).s.closed = true ∨ Ψ ((c1.flow now m).at' p).s) := by
    intro m hm hmN
    induction m with
    | zero => omega
    | succ m ih =>
      have a := e1.flow hv h0 h1 m (by omega)
      have hl := a.len
      by_cases hmp : m = p
      · subst hmp
        obtain ⟨b1, b2⟩ := e1.lo hv h0 h1 (show m < N by omega) x1 Φ hL y1 m (Nat.le_refl _)
        show (((c1.flow now m).flow1 now m).at' m).s.closed = true ∧ ((((c1.flow now m).flow1 now m).at' (m + 1)).s.closed = true ∨ Ψ (((c1.flow now m).flow1 now m).at' m).s)
        generalize c1.flow now m = e at *
        refine ⟨closed_flow1 b1 (by omega) now m, ?_⟩
        have e0 : ((e.onC (m + 1) (oLook now)).at' m) = e.at' m := at_other _ _ _ _ (by omega)
        have a2 := a.look h0 h1 (k := m + 1) hp
        have ea : ((e.onC (m + 1) (oLook now)).at' (m + 1)).s = lookS (e.at' (m + 1)).s now := by rw [at_on _ _ _ (by omega)]; rfl
        have hq := a.st_sz (p := m + 1) hp
        unfold Ch.flow1
        dsimp only
        split
        · have hw : ((e.at' m).s.S.size : Int) ≤ freeS ((e.onC (m + 1) (oLook now)).at' (m + 1)).s := by
            have r1 := (a2.bs (m + 1) hp).room
            have r2 := held_two (e.onC (m + 1) (oLook now)).L m (by rw [a2.len]; exact hp)
            have r3 : ((e.onC (m + 1) (oLook now)).at' m).s.S.size + ((e.onC (m + 1) (oLook now)).at' (m + 1)).s.S.size ≤ (e.onC (m + 1) (oLook now)).held := r2
            rw [e0] at r3
            have r4 := a2.held
            have r5 := hv.few
            generalize ((e.onC (m + 1) (oLook now)).at' (m + 1)).s = q at *
            unfold freeS
            split <;> omega
          refine Or.inr ?_
          have hl2 := a2.len
          generalize freeS ((e.onC (m + 1) (oLook now)).at' (m + 1)).s = w at *
          generalize e.onC (m + 1) (oLook now) = d at *
          rw [at_other _ _ _ _ (show m + 1 ≠ m by omega), at_on _ _ _ (by omega), e0]
          exact hT _ _ (a.bs m (by omega)) (fun hst => ((a.st_sz (p := m) (by omega)).1 hst).2) hw b2
        · rename_i hn
          have hn : ¬ (lookS (e.at' (m + 1)).s now).st = 0 := hn
          exact Or.inl (by rw [ea]; exact (hq.1 hn).1)
      · obtain ⟨b1, b2⟩ := ih (by omega) (by omega)
        have ek : ((c1.flow now m).flow1 now m).at' p = (c1.flow now m).at' p := by
          generalize c1.flow now m = e at *
          have e0 : ((e.onC (m + 1) (oLook now)).at' p) = e.at' p := at_other _ _ _ _ (by omega)
          unfold Ch.flow1
          dsimp only
          split
          · rw [at_other _ _ _ _ (by omega), at_other _ _ _ _ hmp]
            exact e0
          · exact e0
        show (((c1.flow now m).flow1 now m).at' p).s.closed = true ∧ ((((c1.flow now m).flow1 now m).at' (p + 1)).s.closed = true ∨ Ψ (((c1.flow now m).flow1 now m).at' p).s)
        rw [ek]
        exact ⟨b1, b2.imp_left fun hcl => closed_flow1 hcl (by omega) now m⟩
  have e2 := e1.flow hv h0 h1 (N - 1) (by omega)
  obtain ⟨x2, y2⟩ := flowed (N - 1) (by omega) (by omega)
  generalize c1.flow now (N - 1) = c2 at *
  have ended : ∀ m, p + 1 ≤ m → m < N → ((c2.ends now m).at' p).s.closed = true ∧ (((c2.ends now m).at' (p + 1)).s.closed = true ∨ Θ ((c2.ends now m).at' p).s) := by
    intro m hm hmN
    induction m with
    | zero => omega
    | succ m ih =>
      have a := e2.ends h0 h1 m (by omega)
      have hl := a.len
      have a2 := a.look h0 h1 (k := m) (by omega)
      by_cases hmp : m = p
      · subst hmp
        have hcp := closed_ends x2 (by have := e2.len; omega) now m
        refine ⟨closed_ends1 hcp (by omega) now m, ?_⟩
        rcases y2 with y2 | y2
        · exact Or.inl (closed_ends1 (closed_ends y2 (by have := e2.len; omega) now m) (by omega) now m)
        obtain ⟨b1, b2⟩ := e2.lo2 h0 h1 (show m < N by omega) x2 Ψ hC y2 m (Nat.le_refl _)
        show (((c2.ends now m).ends1 now m).at' (m + 1)).s.closed = true ∨ Θ (((c2.ends now m).ends1 now m).at' m).s
        generalize c2.ends now m = e at *
        have ea : ((e.onC m (oLook now)).at' m).s = lookS (e.at' m).s now := by rw [at_on _ _ _ (by omega)]; rfl
        unfold Ch.ends1
        dsimp only
        split
        · refine Or.inl ?_
          rw [at_on _ _ _ (by rw [len_lose, a2.len]; exact hp)]
          show (closeS _ now).closed = true
          unfold closeS
          split
          · rename_i hcl
            exact hcl
          · rfl
        · rename_i hn
          have hn : ¬ (lookS (e.at' m).s now).st = 1 := hn
          rw [ea]
          exact Or.inr (hE _ (a.bs m (by omega)) b1 (a.st_sz (p := m) (by omega)).2 b2 hn)
      · obtain ⟨b1, b2⟩ := ih (by omega) (by omega)
        show (((c2.ends now m).ends1 now m).at' p).s.closed = true ∧ ((((c2.ends now m).ends1 now m).at' (p + 1)).s.closed = true ∨ Θ (((c2.ends now m).ends1 now m).at' p).s)
        generalize c2.ends now m = e at *
        refine ⟨closed_ends1 b1 (by omega) now m, ?_⟩
        rcases b2 with b2 | b2
        · exact Or.inl (closed_ends1 b2 (by omega) now m)
        refine Or.inr ?_
        have e0 : ((e.onC m (oLook now)).at' p) = e.at' p := at_other _ _ _ _ hmp
        have hl2 := a2.len
        unfold Ch.ends1
        dsimp only
        split
        · generalize e.onC m (oLook now) = d at *
          have e4 : ((d.lose (m + 1)).at' p).s = (drainS (d.at' p).s).1 := at_lose_lt (show p < m + 1 by omega) (by omega)
          rw [at_other _ _ _ _ (by omega), e4, e0]
          exact hD _ b2
        · rw [e0]
          exact b2
  have e3 := e2.ends h0 h1 (N - 1) (by omega)
  obtain ⟨x3, y3⟩ := ended (N - 1) (by omega) (by omega)
  generalize c2.ends now (N - 1) = c3 at *
  have hl := e3.len
  have ek : ((c3.onC (N - 1) (oLook now)).at' p) = c3.at' p := at_other _ _ _ _ (by omega)
  show ((c3.onC (N - 1) (oLook now)).at' p).s.closed = true ∧ (((c3.onC (N - 1) (oLook now)).at' (p + 1)).s.closed = true ∨ Θ ((c3.onC (N - 1) (oLook now)).at' p).s)
  rw [ek]
  exact ⟨x3, y3.imp_left fun hcl => closed_on hcl (by omega) _ _⟩
theorem step_out (h : EB T N n now c) (hv : EV T N n) (h0 : 0 ≤ now) (h1 : now ≤ 100000) (hs : c.state = 0) (hc : (c.at' (N - 1)).s.closed = true) {r : Nat} (hr : (c.at' (N - 1)).s.S.size ≤ r) :
    ((c.stepC now).at' (N - 1)).s.closed = true ∧ ((c.stepC now).at' (N - 1)).s.S.size ≤ r ∧ (((c.stepC now).at' (N - 1)).s.S.size = 0 → (c.stepC now).state = 1) := by
  have h2 := hv.two
  have e1 := h.looks h0 h1 N (Nat.le_refl _)
  obtain ⟨x1, y1⟩ := h.looks_lo (show N - 1 < N by omega) hc (fun s => s.S.size ≤ r) (fun s hq => hq) hr N
  rw [(h.step_is hs).1, (h.step_is hs).2]
  generalize c.looks now N = c1 at *
  have e2 := e1.flow hv h0 h1 (N - 1) (by omega)
  obtain ⟨x2, y2⟩ := e1.lo hv h0 h1 (show N - 1 < N by omega) x1 (fun s => s.S.size ≤ r) (fun s hq => hq) y1 (N - 1) (Nat.le_refl _)
  generalize c1.flow now (N - 1) = c2 at *
  have e3 := e2.ends h0 h1 (N - 1) (by omega)
  obtain ⟨x3, y3⟩ := e2.lo2 h0 h1 (show N - 1 < N by omega) x2 (fun s => s.S.size ≤ r) (fun s _ _ hq => by
    have := close_S s now
    show (closeS s now).S.size ≤ r
    rw [this]
    exact hq) y2 (N - 1) (Nat.le_refl _)
  generalize c2.ends now (N - 1) = c3 at *
  have hl := e3.len
  have ea : ((c3.onC (N - 1) (oLook now)).at' (N - 1)).s = lookS (c3.at' (N - 1)).s now := by rw [at_on _ _ _ (by omega)]; rfl
  show ((c3.onC (N - 1) (oLook now)).at' (N - 1)).s.closed = true ∧ ((c3.onC (N - 1) (oLook now)).at' (N - 1)).s.S.size ≤ r ∧ (((c3.onC (N - 1) (oLook now)).at' (N - 1)).s.S.size = 0 → (lookS (c3.at' (N - 1)).s now).st = 1)
  rw [ea]
  exact ⟨x3, y3, fun hz => closed_st (e3.bs (N - 1) (by omega)) (hv.kv _) h0 h1 x3 (e3.st_sz (p := N - 1) (by omega)).2 ⟨hz, fun h7 => by have := hv.out; omega⟩⟩
end EB
end Go.Proofs.YtoiodcaohkfdjaaGreat
namespace Go.Proofs.YtoiodcaohkfdjaaGreat
open Go.RowKit
/-- A chain that is told ticks, in its p-th stage. -/
structure XS (T : Nat → Tox) (N n : Nat) (e now : Int) (c : Ch) (p : Nat) (r : Int) : Prop where
  eb : EB T N n e c
  op : c.state = 0
  lt : p < N
  cl : (c.at' p).s.closed = true
  pr : p + 1 < N → PR (T p) now r (c.at' p).s
  pz : p + 1 = N → ((c.at' p).s.S.size : Int) ≤ r
  pos : 0 ≤ r
  nw : (T p).k = 2 → 0 ≤ now
def restK (T : Nat → Tox) (N : Nat) (n : Int) : Nat → Int
  | 0 => 0
  | d + 1 => restK T N n d + KN (T (N - 2 - d)) n + 1
def totK (T : Nat → Tox) (N : Nat) (n : Int) (p : Nat) (r : Int) : Int := if p + 1 < N then r + 1 + restK T N n (N - 2 - p) + n else r
section
variable {T : Nat → Tox} {N n : Nat} {e now : Int} {c : Ch} {p : Nat} {r : Int}
theorem KN_pos {t : Tox} (h : KV t) {n : Int} (hn : 0 ≤ n) : 0 ≤ KN t n := by
  have := h.a
  have := h.b
  unfold KN
  split
  · omega
  split
  · exact hn
  split
  · exact Int.mul_nonneg hn (by omega)
  split <;> omega
theorem restK_pos (hv : EV T N n) (d : Nat) : 0 ≤ restK T N n d := by
  induction d with
  | zero => exact Int.le_refl _
  | succ d ih =>
    have := KN_pos (hv.kv (N - 2 - d)) (n := (n : Int)) (by omega)
    show 0 ≤ restK T N n d + _ + 1
    omega
theorem totK_pos (hv : EV T N n) (hr : 0 ≤ r) : 0 ≤ totK T N n p r ∧ (p + 1 < N → 1 ≤ totK T N n p r) := by
  have := restK_pos hv (N - 2 - p)
  unfold totK
  split
  · omega
  · exact ⟨hr, fun h => by omega⟩
/-- The next stage's turn. -/
theorem next_x (hv : EV T N n) (h : EB T N n now c) (hs : c.state = 0) (h0 : 0 ≤ now) (hp : p + 1 < N) (hr : 0 ≤ r) (hc : (c.at' (p + 1)).s.closed = true) : ∃ r', XS T N n now now c (p + 1) r' ∧ totK T N n (p + 1) r' ≤ totK T N n p r - 1 := by
  have hh := h.held
  have hsz := Ch.held_one c.L (p + 1) (by rw [h.len]; exact hp)
  have hsz : (c.at' (p + 1)).s.S.size ≤ c.held := hsz
  have e0 : totK T N n p r = r + 1 + restK T N n (N - 2 - p) + n := if_pos hp
  by_cases hl : p + 1 + 1 < N
  · refine ⟨KN (T (p + 1)) n, ⟨h, hs, hp, hc, fun _ => PR.fresh (h.bs _ hp) (hv.kv _) h0 hc (by omega), fun e => by omega, KN_pos (hv.kv _) (by omega), fun _ => h0⟩, ?_⟩
    have e1 : totK T N n (p + 1) (KN (T (p + 1)) n) = KN (T (p + 1)) n + 1 + restK T N n (N - 2 - (p + 1)) + n := if_pos hl
    have e2 : restK T N n (N - 2 - p) = restK T N n (N - 2 - (p + 1)) + KN (T (N - 2 - (N - 2 - (p + 1)))) n + 1 := by rw [show N - 2 - p = (N - 2 - (p + 1)) + 1 by omega]; rfl
    rw [show N - 2 - (N - 2 - (p + 1)) = p + 1 by omega] at e2
    omega
  · refine ⟨n, ⟨h, hs, hp, hc, fun e => by omega, fun _ => by omega, by omega, fun _ => h0⟩, ?_⟩
    have e1 : totK T N n (p + 1) n = n := if_neg hl
    have := restK_pos hv (N - 2 - p)
    omega
theorem step_state (h : EB T N n now c) (hv : EV T N n) (h0 : 0 ≤ now) (h1 : now ≤ 100000) (hs : c.state = 0) : (c.stepC now).state = 0 ∨ (c.stepC now).state = 1 := by
  have a := h.step3 hv h0 h1
  have hl := a.len
  have h2 := hv.two
  rw [(h.step_is hs).1]
  show (lookS ((c.step3 now).at' (N - 1)).s now).st = 0 ∨ (lookS ((c.step3 now).at' (N - 1)).s now).st = 1
  rcases (Ch.stok_look (a.safe.ok (N - 1) (by omega)) now).2 with e | e
  · exact Or.inl e
  · exact Or.inr e.1
/-- The first step of a tick. -/
theorem XS.first (h : XS T N n (now + 1) now c p r) (hv : EV T N n) (h0 : 0 ≤ now + 1) (h1 : now + 1 ≤ 100000) :
    EB T N n (now + 1) (c.stepC (now + 1)) ∧ ((c.stepC (now + 1)).state = 1 ∨ ∃ p' r', XS T N n (now + 1) (now + 1) (c.stepC (now + 1)) p' r' ∧ (totK T N n p' r' ≤ totK T N n p r - 1 ∨ (p' + 1 = N ∧ totK T N n p' r' ≤ totK T N n p r ∧ 1 ≤ ((c.stepC (now + 1)).at' p').s.S.size))) := by
  have he := h.eb.step hv h0 h1 h.op
  refine ⟨he, ?_⟩
  rcases (step_state h.eb hv h0 h1 h.op).symm with hs | hs
  · exact Or.inl hs
  by_cases hp : p + 1 < N
  · refine Or.inr ?_
    obtain ⟨x1, x2⟩ := h.eb.step_mid hv h0 h1 h.op hp h.cl (PR (T p) now r) (fun s => ZS (T p) (now + 1) s ∨ (1 ≤ r ∧ PR (T p) (now + 1) (r - 1) s)) (fun s => 1 ≤ r ∧ PR (T p) (now + 1) (r - 1) s)
      (fun s hq => ⟨hq.pos, hq.slow, hq.lat, hq.bw, hq.sl⟩) (fun s m hb hz hm hq => hq.tick hb (hv.kv p) h0 h1 hz h.nw hm)
      (fun s hb hc hq => by
        rcases hq with hq | hq
        · left
          have e : closeS s (now + 1) = { s with clock := tickS s.clock (now + 1) } := by unfold closeS; rw [if_pos hc]
          rw [e]
          exact hq
        · exact Or.inr ⟨hq.1, hq.2.close hb (hv.kv p) h0 h1 hc⟩)
      (fun s hb hc hst hq hn => by
        rcases hq with hq | hq
        · exact absurd (closed_st hb (hv.kv p) h0 h1 hc hst hq) hn
        · exact ⟨hq.1, hq.2.look hb (hv.kv p) h0 h1⟩)
      (fun s hq => ⟨hq.1, hq.2.drain⟩) (h.pr hp)
    rcases x2 with x2 | x2
    · obtain ⟨r', hx, ht⟩ := next_x hv he hs h0 hp h.pos x2
      exact ⟨p + 1, r', hx, Or.inl ht⟩
    · refine ⟨p, r - 1, ⟨he, hs, h.lt, x1, fun _ => x2.2, fun e => by omega, by omega, fun _ => h0⟩, Or.inl ?_⟩
      unfold totK
      rw [if_pos hp, if_pos hp]
      omega
  · obtain rfl : p = N - 1 := by have := h.lt; omega
    have hN := hv.two
    have hz := h.pz (by omega)
    have hr := h.pos
    obtain ⟨x1, x2, x3⟩ := h.eb.step_out hv h0 h1 h.op h.cl (r := r.toNat) (by omega)
    by_cases hz0 : ((c.stepC (now + 1)).at' (N - 1)).s.S.size = 0
    · exact Or.inl (x3 hz0)
    · exact Or.inr ⟨N - 1, r, ⟨he, hs, h.lt, x1, fun e => by omega, fun _ => by omega, hr, fun _ => h0⟩, Or.inr ⟨by omega, Int.le_refl _, by omega⟩⟩
theorem take_one {t : Tox} {s : St} (h : BS t now s) (hk : t.k = 0) (h0 : 0 ≤ now) (h1 : now ≤ 100000) (hst : (lookS s now).st = 0) (hz : 1 ≤ s.S.size) : (takeS s now 1).1.S.size + 1 = s.S.size := by
  have hl := h.len
  have hall : gc.readyN s.A now = s.A.length := gc.ready_is (Nat.le_refl _) (fun j hj => by
    have := h.A j hj
    unfold LT at this
    rw [if_neg (by omega)] at this
    omega) (fun hh => absurd hh (Nat.lt_irrefl _))
  rcases h.take_is h0 h1 1 with ⟨hx, _⟩ | ⟨_, _, K, hK, hKs, e⟩
  · omega
  · have eN : (if (1 : Int) < gc.readyN s.A now then 1 else (gc.readyN s.A now : Int)) = 1 := by split <;> omega
    rw [eN] at hK e
    have hs : (lookS s now).tx.k = 0 := by show s.tx.k = 0; rw [h.tx]; exact hk
    have hg : (giveS (lookS s now) 1).2 = 1 := by
      generalize lookS s now = l at *
      unfold giveS
      rw [if_neg (by omega), if_neg (by omega), if_neg (by omega), if_neg (by omega)]
    have gk := give_keeps (lookS s now) 1
    have hK1 : K = 1 := by
      rw [hK, hg]
      unfold gc.takeK
      omega
    rw [e]
    show ((giveS (lookS s now) 1).1.S.extract K (giveS (lookS s now) 1).1.S.size).size + 1 = s.S.size
    rw [gk.1, ByteArray.size_extract, hK1]
    show min s.S.size s.S.size - 1 + 1 = s.S.size
    omega
/-- A byte is taken. -/
theorem XS.take (h : XS T N n now now c p r) (hv : EV T N n) (h0 : 0 ≤ now) (h1 : now ≤ 100000) : ∃ r', XS T N n now now (c.onC (N - 1) (Ch.oTake now 1)) p r' ∧ totK T N n p r' ≤ totK T N n p r ∧ (p + 1 = N → 1 ≤ (c.at' p).s.S.size → totK T N n p r' ≤ totK T N n p r - 1) := by
  have he := h.eb.out hv h0 h1 1
  have hN := hv.two
  have hl := h.eb.len
  by_cases hp : p + 1 < N
  · have ea : (c.onC (N - 1) (Ch.oTake now 1)).at' p = c.at' p := Ch.at_other _ _ _ _ (by omega)
    exact ⟨r, ⟨he, h.op, h.lt, by rw [ea]; exact h.cl, fun hq => by rw [ea]; exact h.pr hq, fun e => by omega, h.pos, h.nw⟩, Int.le_refl _, fun e => by omega⟩
  · obtain rfl : p = N - 1 := by have := h.lt; omega
    have ea : ((c.onC (N - 1) (Ch.oTake now 1)).at' (N - 1)).s = (takeS (c.at' (N - 1)).s now 1).1 := by rw [Ch.at_on _ _ _ (by omega)]; rfl
    have hcl := Ch.closed_on h.cl (by omega) (N - 1) (Ch.oTake now 1)
    have hz := h.pz (by omega)
    have hr := h.pos
    have t0 : ∀ x, totK T N n (N - 1) x = x := fun x => if_neg (by omega)
    by_cases h1z : 1 ≤ (c.at' (N - 1)).s.S.size
    · have hst : (lookS (c.at' (N - 1)).s now).st = 0 := by
        by_cases hq : (lookS (c.at' (N - 1)).s now).st = 0
        · exact hq
        · have := ((h.eb.st_sz (p := N - 1) (by omega)).1 hq).2
          omega
      have h3 := take_one (h.eb.bs (N - 1) (by omega)) hv.out h0 h1 hst h1z
      refine ⟨r - 1, ⟨he, h.op, h.lt, hcl, fun e => by omega, fun _ => by rw [ea]; omega, by omega, h.nw⟩, ?_, fun _ _ => ?_⟩
      · rw [t0, t0]; omega
      · rw [t0, t0]; omega
    · have hsz := Ch.sz_take (c.at' (N - 1)).s now 1
      have hsz : (takeS (c.at' (N - 1)).s now 1).1.S.size + _ = _ := hsz
      exact ⟨r, ⟨he, h.op, h.lt, hcl, fun e => by omega, fun _ => by rw [ea]; omega, hr, h.nw⟩, Int.le_refl _, fun _ e => absurd e h1z⟩
/-- The second step of a tick. -/
theorem XS.again (h : XS T N n now now c p r) (hv : EV T N n) (h0 : 0 ≤ now) (h1 : now ≤ 100000) :
    EB T N n now (c.stepC now) ∧ ((c.stepC now).state = 1 ∨ ∃ p' r', XS T N n now now (c.stepC now) p' r' ∧ totK T N n p' r' ≤ totK T N n p r) := by
  have he := h.eb.step hv h0 h1 h.op
  refine ⟨he, ?_⟩
  rcases (step_state h.eb hv h0 h1 h.op).symm with hs | hs
  · exact Or.inl hs
  by_cases hp : p + 1 < N
  · refine Or.inr ?_
    obtain ⟨x1, x2⟩ := h.eb.step_mid hv h0 h1 h.op hp h.cl (PR (T p) now r) (PR (T p) now r) (PR (T p) now r)
      (fun s hq => ⟨hq.pos, hq.slow, hq.lat, hq.bw, hq.sl⟩) (fun s m hb _ _ hq => hq.take hb (hv.kv p) h0 h1 m)
      (fun s hb hc hq => hq.close hb (hv.kv p) h0 h1 hc) (fun s hb _ _ hq _ => hq.look hb (hv.kv p) h0 h1) (fun s hq => hq.drain) (h.pr hp)
    rcases x2 with x2 | x2
    · obtain ⟨r', hx, ht⟩ := next_x hv he hs h0 hp h.pos x2
      exact ⟨p + 1, r', hx, by omega⟩
    · exact ⟨p, r, ⟨he, hs, h.lt, x1, fun _ => x2, fun e => by omega, h.pos, h.nw⟩, Int.le_refl _⟩
  · obtain rfl : p = N - 1 := by have := h.lt; omega
    have hN := hv.two
    have hz := h.pz (by omega)
    have hr := h.pos
    obtain ⟨x1, x2, x3⟩ := h.eb.step_out hv h0 h1 h.op h.cl (r := r.toNat) (by omega)
    exact Or.inr ⟨N - 1, r, ⟨he, hs, h.lt, x1, fun e => by omega, fun _ => by omega, hr, h.nw⟩, Int.le_refl _⟩
end
/-- A link that is told ticks: so many are left. -/
def FK (T : Nat → Tox) (N n : Nat) (now : Int) (c : Ch) (R : Int) : Prop := ∃ p r, XS T N n (now + 1) now c p r ∧ totK T N n p r ≤ R
theorem fk_tick {T : Nat → Tox} {N n : Nat} {now R : Int} {k : Lk} (h : FK T N n now k.c R) (hv : EV T N n) (h0 : 0 ≤ now + 1) (h1 : now + 1 ≤ 100000) :
    EB T N n (now + 1) (k.stepC (now + 1) 1) ∧ ((k.stepC (now + 1) 1).state = 1 ∨ (1 ≤ R ∧ FK T N n (now + 1) (k.stepC (now + 1) 1) (R - 1))) := by
  obtain ⟨p, r, hx, ht⟩ := h
  have hN := hv.two
  show EB T N n (now + 1) (((k.c.stepC (now + 1)).doN (Lk.oTake (now + 1) 1)).stepC (now + 1)) ∧ _
  obtain ⟨e1, x1⟩ := hx.first hv h0 h1
  have hl := e1.len
  have eT : ∀ d : Ch, d.L.length = N → d.state = 0 ∨ d.state = 1 → d.doN (Lk.oTake (now + 1) 1) = d.onC (N - 1) (Ch.oTake (now + 1) 1) := fun d hd hs => by
    show (if d.state = 2 then d else d.onC (d.L.length - 1) (Ch.oTake (now + 1) 1)) = _
    rw [if_neg (by omega), hd]
  show EB T N n (now + 1) (((k.c.stepC (now + 1)).doN (Lk.oTake (now + 1) 1)).stepC (now + 1)) ∧ ((((k.c.stepC (now + 1)).doN (Lk.oTake (now + 1) 1)).stepC (now + 1)).state = 1 ∨ (1 ≤ R ∧ FK T N n (now + 1) (((k.c.stepC (now + 1)).doN (Lk.oTake (now + 1) 1)).stepC (now + 1)) (R - 1)))
  generalize k.c.stepC (now + 1) = c1 at *
  rcases x1 with x1 | ⟨p1, r1, x1, y1⟩
  · rw [eT c1 hl (Or.inr x1)]
    have e2 := e1.out hv h0 h1 1
    have hs : (c1.onC (N - 1) (Ch.oTake (now + 1) 1)).state = 1 := x1
    have e3 : (c1.onC (N - 1) (Ch.oTake (now + 1) 1)).stepC (now + 1) = c1.onC (N - 1) (Ch.oTake (now + 1) 1) := by
      unfold Ch.stepC
      rw [if_pos (by omega)]
    rw [e3]
    exact ⟨e2, Or.inl hs⟩
  · rw [eT c1 hl (Or.inl x1.op)]
    obtain ⟨r2, x2, y2, y3⟩ := x1.take hv h0 h1
    obtain ⟨e3, x3⟩ := x2.again hv h0 h1
    refine ⟨e3, ?_⟩
    rcases x3 with x3 | ⟨p3, r3, x3, y4⟩
    · exact Or.inl x3
    · refine Or.inr ?_
      have hp := (totK_pos (p := p3) hv x3.pos).1
      have : totK T N n p3 r3 ≤ totK T N n p r - 1 := by
        rcases y1 with y1 | ⟨y1, y5, y6⟩
        · omega
        · have := y3 y1 y6
          omega
      exact ⟨by omega, p3, r3, ⟨x3.eb.mono (by omega), x3.op, x3.lt, x3.cl, x3.pr, x3.pz, x3.pos, x3.nw⟩, by omega⟩
/-- A link whose end is Closed has told all. -/
theorem all_told {T : Nat → Tox} {N n : Nat} {now : Int} {k : Lk} (h : EB T N n now k.c) (hv : EV T N n) (hs : k.c.state = 1) (ho : k.Over) {i u : ByteArray} (hk : k.Kept i u) (hb : k.sent = k.got + k.c.held + k.c.lost) : i = u := by
  have hN := hv.two
  have hl := h.len
  have hst := ho.sh hs
  rw [hl] at hst
  have hok := (h.safe.ok (N - 1) (by omega)).2
  have hcz : (k.c.at' (N - 1)).s.closed = true ∧ (k.c.at' (N - 1)).s.S.size = 0 := by
    rcases hok with e | e
    · exact absurd e hst
    · exact e.2
  have hsrc := (h.safe.src (N - 1) (by omega) hcz.1).2
  have hheld : k.c.held = 0 := Ch.sum_zero k.c.L fun j hj => by
    rcases Nat.lt_or_ge j (N - 1) with hlt | hge
    · exact hsrc j hlt
    · obtain rfl : j = N - 1 := by omega
      exact hcz.2
  have hlost := h.lost
  have h1 := hk.sent
  have h2 := hk.got
  obtain ⟨⟨x, hx⟩, _⟩ := hk.c
  have hsz := congrArg ByteArray.size hx
  rw [ByteArray.size_append, ByteArray.size_append] at hsz
  have hc0 : (Ch.cat k.c.L).size = 0 := by omega
  have hx0 : x.size = 0 := by omega
  rw [hx, Ch.size_none _ hc0, Ch.size_none _ hx0, cat_none, cat_none]
end Go.Proofs.YtoiodcaohkfdjaaGreat
namespace Go.Proofs.YtoiodcaohkfdjaaGreat
open Go.RowKit
theorem KV.none : KV noTox := ⟨Or.inl rfl, ⟨Int.le_refl _, by decide⟩, ⟨Int.le_refl _, by decide⟩, fun h => absurd h (by decide), fun h => absurd h (by decide), fun h => absurd h (by decide)⟩
theorem kv_of {t : Tox} (h : t.chk = 0) (h4 : t.k ≠ 4 ∧ t.k ≠ 5 ∧ t.k ≠ 6) (ha : t.a ≤ 40) (hb : t.b ≤ 40) (h2 : t.k = 2 → t.a ≠ 0) : KV t ∧ 1 ≤ t.k := by
  unfold Tox.chk gx.checkB at h
  split at h
  · omega
  split at h
  · omega
  split at h
  · omega
  rename_i hk h3
  have hp : gx.partsB t.k t.a t.b = true := by
    cases e : gx.partsB t.k t.a t.b with
    | true => rfl
    | false => exact absurd (Or.inr (Or.inr e)) h3
  unfold gx.partsB at hp
  simp only [Bool.and_eq_true, beq_iff_eq] at hp
  obtain ⟨⟨e1, e2⟩, e3⟩ := hp
  have na : 0 ≤ t.a := by unfold gx.near at e1; split at e1 <;> (try split at e1) <;> omega
  have nb : 0 ≤ t.b := by unfold gx.near at e2; split at e2 <;> (try split at e2) <;> omega
  refine ⟨⟨by omega, ⟨na, ha⟩, ⟨nb, hb⟩, fun e => ?_, fun e => ?_, fun e => ?_⟩, by omega⟩
  · rw [if_pos e] at e3
    exact of_decide_eq_true e3
  · rw [if_neg (by omega), if_pos e] at e3
    have := of_decide_eq_true e3
    have := h2 e
    omega
  · rw [if_neg (by omega), if_neg (by omega), if_pos e] at e3
    exact (of_decide_eq_true e3).1
/-- The law's own cost of a toxic. -/
def costT (t : Tox) : Int := if t.k = 2 then 1 else if t.k = 3 then t.b + 1 else t.a + t.b + 1
def costL : List Tox → Int
  | [] => 0
  | t :: r => costT t + costL r
theorem costT_pos {t : Tox} (h : KV t) : 1 ≤ costT t := by
  have := h.a
  have := h.b
  unfold costT
  split
  · omega
  split <;> omega
theorem costL_append (a b : List Tox) : costL (a ++ b) = costL a + costL b := by
  induction a with
  | nil => show costL b = 0 + costL b; omega
  | cons t r ih => show _ + costL (r ++ b) = (_ + costL r) + costL b; rw [ih]; omega
theorem costL_up (up : Bool) (l : List Tox) (h : ∀ t ∈ l, KV t) : 0 ≤ costL (upL up l) ∧ costL (upL up l) ≤ costL l := by
  induction l with
  | nil => exact ⟨Int.le_refl _, Int.le_refl _⟩
  | cons t r ih =>
    have hr := ih fun x hx => h x (List.mem_cons_of_mem _ hx)
    have ht := costT_pos (h t (List.mem_cons_self ..))
    by_cases hu : t.up = up
    · have e : upL up (t :: r) = t :: upL up r := by simp [upL, hu]
      rw [e]
      show 0 ≤ costT t + costL (upL up r) ∧ costT t + costL (upL up r) ≤ costT t + costL r
      omega
    · have e : upL up (t :: r) = upL up r := by simp [upL, hu]
      rw [e]
      show 0 ≤ costL (upL up r) ∧ costL (upL up r) ≤ costT t + costL r
      omega
theorem kn_cost {t : Tox} (h : KV t) {n : Int} (hn : 0 ≤ n) : KN t n + 1 ≤ (n + 2) * costT t := by
  have hc := costT_pos h
  have ha := h.a
  have hb := h.b
  have h1 := mul_less (show 1 ≤ n + 2 by omega) (show 0 ≤ costT t by omega)
  rw [Int.one_mul] at h1
  have c1 : t.k ≠ 2 → t.k ≠ 3 → costT t = t.a + t.b + 1 := fun e1 e2 => by unfold costT; rw [if_neg e1, if_neg e2]
  have c2 : t.k = 2 → costT t = 1 := fun e => if_pos e
  have c3 : t.k = 3 → costT t = t.b + 1 := fun e => by unfold costT; rw [if_neg (by omega), if_pos e]
  rcases h.k with hk | hk | hk | hk | hk
  · have e : KN t n = 0 := by unfold KN; rw [if_neg (by omega), if_neg (by omega), if_neg (by omega), if_neg (by omega)]
    omega
  · have e : KN t n = t.a + t.b := if_pos hk
    have := c1 (by omega) (by omega)
    omega
  · have e : KN t n = n := by unfold KN; rw [if_neg (by omega), if_pos hk]
    rw [c2 hk] at h1 ⊢
    omega
  · have e : KN t n = n * (t.b + 1) := by unfold KN; rw [if_neg (by omega), if_neg (by omega), if_pos hk]
    rw [c3 hk, Int.add_mul n]
    omega
  · have e : KN t n = t.a := by unfold KN; rw [if_neg (by omega), if_neg (by omega), if_neg (by omega), if_pos hk]
    have := c1 (by omega) (by omega)
    omega
def toxF (ts : List (Tox × Int)) (j : Nat) : Tox := if j = 0 then noTox else (ts.getD (j - 1) (noTox, 0)).1
theorem toxF_next (ts : List (Tox × Int)) (j : Nat) : toxF ts (j + 1) = (ts.getD j (noTox, 0)).1 := if_neg (Nat.succ_ne_zero j)
theorem toxF_end {ts : List (Tox × Int)} {j : Nat} (h : ts.length ≤ j) : (ts.getD j (noTox, 0)).1 = noTox := by
  rw [List.getD_eq_getElem?_getD, List.getElem?_eq_none h]
  rfl
theorem fr_all {ts : List (Tox × Int)} {room : Int} {j : Nat} (h : j < ts.length + 2) : ∃ sd, (frC ts room 0).at' j = ⟨newS (toxF ts j) sd room 0, false⟩ := by
  cases j with
  | zero => exact ⟨0, (fr_ends ts room 0).1⟩
  | succ j =>
    rcases Nat.lt_or_ge j ts.length with hlt | hge
    · exact ⟨_, by rw [fr_at hlt, toxF_next]⟩
    · obtain rfl : j = ts.length := by omega
      exact ⟨0, by rw [(fr_ends ts room 0).2, toxF_next, toxF_end (Nat.le_refl _)]⟩
theorem bs_new {t : Tox} (h : KV t) (sd : Int) {room : Int} (hr : 30 ≤ room) : BS t 0 (newS t sd room 0) := by
  have ha := h.a
  have hb := h.b
  refine ⟨rfl, by show gb.near 0 ≤ 0; unfold gb.near; decide, rfl, hr, by have := (LT.pos h).1; show (0 : Int) ≤ 0 + LT t; omega, fun i hi => absurd hi (Nat.not_lt_zero i), fun hk => ?_, fun _ => by show (0 : Int) ≤ 0 + t.b; omega, fun hc => by cases hc⟩
  have e : (newS t sd room 0).bk = ⟨t.a, t.b, t.b, gb.near 0⟩ := if_pos hk
  have hw := h.bw hk
  have hn : gb.near 0 = 0 := by unfold gb.near; decide
  rw [e, hn]
  show gb.rightB t.a t.b t.b 0 = true ∧ (0 : Int) ≤ 0 ∧ 1 ≤ t.a
  exact ⟨(gb.rightB_iff _ _ _ _).2 ⟨by omega, by omega, by omega, by omega, by omega, by omega⟩, Int.le_refl _, hw.1⟩
section
variable {k : Lk} {l : List Tox} {ts : List (Tox × Int)} {up : Bool} {room : Int} {s : ByteArray}
theorem kvs (hm : MadeL k l ts up room 0) (hl : ∀ t ∈ l, KV t) (j : Nat) : KV (toxF ts j) := by
  cases j with
  | zero => exact KV.none
  | succ j =>
    rw [toxF_next]
    rcases Nat.lt_or_ge j ts.length with h | h
    · have hle := hm.len
      rcases (hm.each j (by omega)).1 with e | e
      · rw [e]
        exact hl _ (getD_mem (by omega))
      · rw [e]
        exact KV.none
    · rw [toxF_end h]
      exact KV.none
theorem ev_new (hm : MadeL k l ts up room 0) (hl : ∀ t ∈ l, KV t) (hs : s.size ≤ 30) : EV (toxF ts) (ts.length + 2) s.size :=
  ⟨kvs hm hl, by omega, hs, by show (toxF ts (ts.length + 1)).k = 0; rw [toxF_next, toxF_end (Nat.le_refl _)]; rfl⟩
theorem rest_cost (hm : MadeL k l ts up room 0) (hl : ∀ t ∈ l, KV t) {n : Int} (hn : 0 ≤ n) (d : Nat) (hd : d ≤ ts.length) : restK (toxF ts) (ts.length + 2) n d ≤ (n + 2) * costL (l.drop (l.length - d)) := by
  have hle := hm.len
  induction d with
  | zero => rw [Nat.sub_zero, List.drop_length]; show (0 : Int) ≤ (n + 2) * 0; omega
  | succ d ih =>
    have hi := ih (by omega)
    have e : l.drop (l.length - (d + 1)) = l.getD (l.length - (d + 1)) noTox :: l.drop (l.length - d) := by
      rw [List.drop_eq_getElem_cons (by omega), show l.length - (d + 1) + 1 = l.length - d by omega, List.getD_eq_getElem?_getD, List.getElem?_eq_getElem (by omega)]
      rfl
    rw [e]
    show restK (toxF ts) (ts.length + 2) n d + KN (toxF ts (ts.length + 2 - 2 - d)) n + 1 ≤ (n + 2) * (costT (l.getD (l.length - (d + 1)) noTox) + costL (l.drop (l.length - d)))
    rw [show ts.length + 2 - 2 - d = (l.length - (d + 1)) + 1 by omega, toxF_next, Int.mul_add]
    have hk := hl _ (getD_mem (show l.length - (d + 1) < l.length by omega))
    have hc := kn_cost hk hn
    rcases (hm.each (l.length - (d + 1)) (by omega)).1 with e2 | e2
    · rw [e2]
      omega
    · rw [e2]
      have h1 := mul_less (show 1 ≤ n + 2 by omega) (show 0 ≤ costT (l.getD (l.length - (d + 1)) noTox) by have := costT_pos hk; omega)
      have h2 := costT_pos hk
      have h3 : KN noTox n = 0 := by unfold KN; rfl
      omega
theorem bring_full (sd : Int) (hr : 30 ≤ room) (hs : s.size ≤ 30) : (bringS (newS noTox sd room 0) 0 s).2 = s.size := by
  have hst : (lookS (newS noTox sd room 0) 0).st = 0 := by
    show stateS (newS noTox sd room 0) (tickS (newS noTox sd room 0).clock 0) = 0
    generalize tickS (newS noTox sd room 0).clock 0 = x
    have e0 : (newS noTox sd room 0).st = 0 := rfl
    have e1 : (newS noTox sd room 0).tx.k = 0 := rfl
    have e2 : (newS noTox sd room 0).closed = false := rfl
    unfold stateS
    rw [e1, e2, if_neg (by rw [e0]; omega), if_neg (by omega), if_neg (by omega), if_neg (by omega)]
    split
    · rename_i h
      exact absurd h.1 (by decide)
    · rfl
  have hf : freeS (lookS (newS noTox sd room 0) 0) = room := by
    show (if room < ((0 : Nat) : Int) then 0 else room - ((0 : Nat) : Int)) = room
    rw [if_neg (by omega)]
    omega
  have hc : (lookS (newS noTox sd room 0) 0).closed = false := rfl
  unfold bringS
  generalize lookS (newS noTox sd room 0) 0 = q at *
  show (if q.st ≠ 0 ∨ q.closed = true then (q, (0 : Int)) else (forceS q (s.extract 0 (if freeS q < s.size then freeS q else s.size : Int).toNat), (if freeS q < s.size then freeS q else s.size : Int))).2 = s.size
  rw [if_neg (by rw [hc]; intro h; rcases h with h | h; exact h hst; cases h)]
  show (if freeS q < s.size then freeS q else (s.size : Int)) = s.size
  rw [hf, if_neg (by omega)]
/-- All bytes are sent, and the source is finished. -/
theorem fk_start (hm : MadeL k l ts up room 0) (hl : ∀ t ∈ l, KV t) (hr : 30 ≤ room) (hs : s.size ≤ 30) : (k.c.doA (Lk.oPut 0 s)).n = s.size ∧ FK (toxF ts) (ts.length + 2) s.size (-1) ((k.sendK 0 s).finK 0).c (totK (toxF ts) (ts.length + 2) s.size 0 0) := by
  have hv := ev_new hm hl hs
  have hL : (frC ts room 0).L.length = ts.length + 2 := frL_len ts room 0
  have h0 : EB (toxF ts) (ts.length + 2) 0 0 (frC ts room 0) := by
    refine ⟨hL, fun j hj => ?_, ⟨fun j hj => ?_, fun j hj => ?_, fun j hj hc => ?_⟩, ?_, rfl⟩
    · obtain ⟨sd, e⟩ := fr_all (room := room) hj
      rw [e]
      exact bs_new (hv.kv j) sd hr
    · obtain ⟨sd, e⟩ := fr_all (ts := ts) (room := room) (j := j) (by omega)
      rw [e]
      have := (hv.kv j).k
      exact Ch.stok_new _ _ _ _ ⟨by omega, by omega, by omega⟩
    · obtain ⟨sd, e⟩ := fr_all (ts := ts) (room := room) (j := j) (by omega)
      rw [e]
      rfl
    · obtain ⟨sd, e⟩ := fr_all (ts := ts) (room := room) (j := j) (by omega)
      rw [e] at hc
      cases hc
    · exact Nat.le_of_eq (Ch.sum_zero _ fun j hj => by
        obtain ⟨sd, e⟩ := fr_all (ts := ts) (room := room) (j := j) (by have : j < (frL ts room 0).length := hj; rw [frL_len] at this; exact this)
        have e : (frL ts room 0).getD j noPrt = _ := e
        show ((frL ts room 0).getD j noPrt).s.S.size = 0
        rw [e]
        rfl)
  have hB := bring_full (s := s) 0 hr hs
  have e1 : k.c.doN (Lk.oPut 0 s) = (frC ts room 0).onC 0 (Ch.oPut 0 s) := by rw [hm.c]; rfl
  have e2 : (k.c.doA (Lk.oPut 0 s)).n = (bringS (newS noTox 0 room 0) 0 s).2 := by rw [hm.c]; rfl
  refine ⟨e2.trans hB, ?_⟩
  have a0 : (frC ts room 0).at' 0 = ⟨newS noTox 0 room 0, false⟩ := (fr_ends ts room 0).1
  have h1 : EB (toxF ts) (ts.length + 2) s.size 0 ((frC ts room 0).onC 0 (Ch.oPut 0 s)) := by
    refine ⟨by rw [Ch.len_on]; exact hL, h0.bs_on (k := 0) (by omega) _ ((h0.bs 0 (by omega)).bring (hv.kv 0) (Int.le_refl _) (by decide) s), h0.safe.put 0 s (by omega) rfl, ?_, rfl⟩
    have hh := Ch.held_on (frC ts room 0) 0 (Ch.oPut 0 s) (by omega)
    have hz := Ch.sz_put ((frC ts room 0).at' 0).s 0 s
    have hn : (doS ((frC ts room 0).at' 0).s (Ch.oPut 0 s)).2.n = (bringS ((frC ts room 0).at' 0).s 0 s).2 := rfl
    rw [hn, a0, hB] at hz
    rw [a0] at hh
    have := h0.held
    omega
  have eF : ((k.sendK 0 s).finK 0).c = ((frC ts room 0).onC 0 (Ch.oPut 0 s)).doN (Lk.oFin 0) := by
    show (k.c.doN (Lk.oPut 0 s)).doN (Lk.oFin 0) = _
    rw [e1]
  rw [eF]
  generalize hc1 : (frC ts room 0).onC 0 (Ch.oPut 0 s) = c1 at *
  have hs1 : c1.state = 0 := by rw [← hc1]; rfl
  have hl1 := h1.len
  have eD : c1.doN (Lk.oFin 0) = { c1.onC 0 (Ch.oClose 0) with shut := true } := by
    show (if c1.state = 0 then { c1.onC 0 (Ch.oClose 0) with shut := true } else c1) = _
    rw [if_pos hs1]
  have hsf := Ch.safe_do h1.safe (Lk.oFin 0) (by omega) (by omega) (by show (1 : Int) ≠ 2; decide) (fun e => absurd e (by show ¬ (1 : Int) = 5; decide))
  have hb := h1.held_of (d := c1.onC 0 (Ch.oClose 0)) (Ch.bal_close c1 0 0 (by omega)) rfl
  have hbs := h1.bs_on (k := 0) (by omega) (Ch.oClose 0) ((h1.bs 0 (by omega)).close (Int.le_refl _) (by decide))
  rw [eD] at hsf ⊢
  have k0 : (toxF ts 0).k = 0 := rfl
  refine ⟨0, 0, ⟨⟨by show (c1.onC 0 (Ch.oClose 0)).L.length = _; rw [Ch.len_on]; exact hl1, hbs, hsf.1, hb.1, hb.2⟩, hs1, by omega, ?_, fun _ => ⟨Int.le_refl _, fun e => by omega, fun e => by omega, fun e => by omega, fun e => by omega⟩, fun e => by omega, Int.le_refl _, fun e => by omega⟩, Int.le_refl _⟩
  show ((c1.onC 0 (Ch.oClose 0)).at' 0).s.closed = true
  rw [Ch.at_on _ _ _ (by omega)]
  show (closeS _ 0).closed = true
  unfold closeS
  split
  · rename_i hcl
    exact hcl
  · rfl
/-- The law's own bound is enough. -/
theorem tot_most {L : List Tox} (hm : MadeL k (upL up L) ts up room 0) (hl : ∀ t ∈ L, KV t) : totK (toxF ts) (ts.length + 2) s.size 0 0 ≤ ((s.size : Int) + 2) * (costL L + 1) := by
  have hu : ∀ t ∈ upL up L, KV t := fun t ht => hl t (List.mem_filter.1 ht).1
  have h1 := rest_cost hm hu (n := (s.size : Int)) (by omega) ts.length (Nat.le_refl _)
  have h2 := costL_up up L hl
  rw [show (upL up L).length - ts.length = 0 by have := hm.len; omega, List.drop_zero] at h1
  have h3 : ((s.size : Int) + 2) * costL (upL up L) ≤ ((s.size : Int) + 2) * costL L := Int.mul_le_mul_of_nonneg_left h2.2 (by omega)
  have e : totK (toxF ts) (ts.length + 2) s.size 0 0 = 0 + 1 + restK (toxF ts) (ts.length + 2) s.size ts.length + s.size := if_pos (by omega)
  rw [e, Int.mul_add]
  omega
end
end Go.Proofs.YtoiodcaohkfdjaaGreat
namespace Go.Proofs.YtoiodcaohkfdjaaGreat
open Go.RowKit
/-- Toxics that are right, with small numbers. -/
def SmallL (l : List Tox) : Prop := ∀ t ∈ l, t.chk = 0 ∧ t.a ≤ 40 ∧ t.b ≤ 40
def Goes (t : Tox) : Prop := t.k ≠ 4 ∧ t.k ≠ 5 ∧ t.k ≠ 6 ∧ (t.k = 2 → t.a ≠ 0)
theorem small_kv {l : List Tox} (h : SmallL l) (hg : ∀ t ∈ l, Goes t) : ∀ t ∈ l, KV t := fun t ht =>
  (kv_of (h t ht).1 ⟨(hg t ht).1, (hg t ht).2.1, (hg t ht).2.2.1⟩ (h t ht).2.1 (h t ht).2.2 (hg t ht).2.2.2).1
theorem cost_max {l : List Tox} (h : ∀ t ∈ l, KV t) : 0 ≤ costL l ∧ costL l ≤ 81 * l.length := by
  induction l with
  | nil => exact ⟨Int.le_refl _, by decide⟩
  | cons t r ih =>
    have hr := ih fun x hx => h x (List.mem_cons_of_mem _ hx)
    have ht := h t (List.mem_cons_self ..)
    have h1 := costT_pos ht
    have ha := ht.a
    have hb := ht.b
    have h2 : costT t ≤ 81 := by
      unfold costT
      split
      · omega
      split <;> omega
    show 0 ≤ costT t + costL r ∧ costT t + costL r ≤ 81 * ((r.length + 1 : Nat) : Int)
    omega
theorem cost_next {l : List Tox} {j : Nat} (h : j < l.length) : costL (l.take (j + 1)) = costL (l.take j) + costT (l.getD j noTox) := by
  rw [take_next h, costL_append]
  show _ + (costT _ + 0) = _
  omega
/-- What bound hands back. -/
def BoundOut (l : List Tox) (N : Nat) (w : World) (e : Ending) (w' : World) : Prop := ∃ v, e = .returned (.int .i64 v) ∧ Below w.heap.size w w' ∧ (SmallL l → v < 0 ∨ ((∀ t ∈ l, Goes t) ∧ v = ((N : Int) + 2) * (costL l + 1)))
set_option maxRecDepth 100000 in
set_option maxHeartbeats 8000000 in
theorem bound_any (p : Option Addr) (nl dl : Nat) (l : List Tox) (N : Nat) (w : World) (hl : l.length = nl) (hn : nl ≤ 12) (hN : N ≤ 30) (hi : ToxIn w p nl l) :
    Calls Tryz.prog 18 #[.slice p nl dl, .int .i64 N] w (BoundOut l N w) := by
  have HI := Lib.hid (And.intro hl hi)
  clear hl hi
  go_enter Tryz.func18, Tryz.ntmps18
  go_wp2_with fail
  go_loopw [5, 7, 10] (fun vc _ i wr => ∃ (k : Nat) (y : Int), k ≤ nl ∧ i = .int .i64 k ∧ vc = .int .i64 y ∧ Hid (SmallL l → y = costL (l.take k) + 1) ∧ Hid (∀ t ∈ l.take k, Goes t) ∧ Hid (Below w.heap.size w wr)) (fun _ _ i _ => nl - (intOf i).toNat)
  case atStart => exact ⟨0, 1, by omega, rfl, rfl, Lib.hid (fun _ => rfl), Lib.hid (fun t ht => by cases ht), Lib.hid (Below.refl _ _)⟩
  case round =>
    obtain ⟨k, y, hk, rfl, rfl, HY, HG, HB⟩ := hrel
    by_cases hlt : k < nl
    · obtain ⟨bb, oo, rfl, hcell⟩ := toxs_on HI.out.2 HB.out (by omega)
      obtain ⟨c0, c1, c2, c3, c4, c5⟩ := hcell k hlt
      have hkl : k < l.length := by rw [HI.out.1]; exact hlt
      have HTN := Lib.hid (take_next hkl)
      have HNX := Lib.hid (show SmallL l → Goes (l.getD k noTox) → (costL (l.take (k + 1)) = costL (l.take k) + costT (l.getD k noTox) ∧ KV (l.getD k noTox) ∧ 0 ≤ costL (l.take k) ∧ costL (l.take k) ≤ 81 * 12) from fun hs hg => by
        have hm := hs _ (getD_mem hkl)
        have ht : SmallL (l.take k) := fun t h => hs t (List.mem_of_mem_take h)
        have hc := cost_max (small_kv ht HG.out)
        rw [List.length_take] at hc
        exact ⟨cost_next hkl, (kv_of hm.1 ⟨hg.1, hg.2.1, hg.2.2.1⟩ hm.2.1 hm.2.2 hg.2.2.2).1, hc.1, by omega⟩)
      generalize l.getD k noTox = t at *
      rw [← Nat.add_assoc] at c1 c2 c3 c4 c5
      have hal : Below wr.heap.size wr (wr.alloc (.cells #[.string t.s, .int .i64 t.k, .bool t.up, .int .i64 t.o, .int .i64 t.a, .int .i64 t.b] 43)) := (Below.refl _ _).alloc (Nat.le_refl _) _
      have hnew := heap_alloc_new wr (.cells #[.string t.s, .int .i64 t.k, .bool t.up, .int .i64 t.o, .int .i64 t.a, .int .i64 t.b] 43)
      have HB4 := Lib.hid (HB.out.trans (hal.mono HB.out.size))
      have HGN := Lib.hid (show Goes t → ∀ x ∈ l.take (k + 1), Goes x from fun hg x hx => by
        rw [HTN.out] at hx
        rcases List.mem_append.1 hx with h | h
        · exact HG.out x h
        · rw [List.mem_singleton.1 h]; exact hg)
      clear hcell hal HG HB HTN hkl
      go_upto_region 5 with fail
      generalize wr.alloc (.cells #[.string t.s, .int .i64 t.k, .bool t.up, .int .i64 t.o, .int .i64 t.a, .int .i64 t.b] 43) = w4 at *
      generalize wr.heap.size = gt at *
      have u1 := cell_of_row w4 _ 1 _ _ _ hnew
      have u4 := cell_of_row w4 _ 4 _ _ _ hnew
      have u5 := cell_of_row w4 _ 5 _ _ _ hnew
      clear c0 c1 c2 c3 c4 c5 hnew
      by_cases h4 : t.k = 4 ∨ t.k = 5 ∨ t.k = 6
      · rcases h4 with h4 | h4 | h4
        all_goals (
          rw [h4] at u1
          go_wp2_with fail
          go_ret
          exact ⟨-1, rfl, HB4.out, fun _ => Or.inl (by decide)⟩)
      · have d4 : (t.k == 4) = false := by simp; omega
        have d5 : (t.k == 5) = false := by simp; omega
        have d6 : (t.k == 6) = false := by simp; omega
        by_cases h2 : t.k = 2
        · have d2 : (t.k == 2) = true := by simp [h2]
          by_cases ha : t.a = 0
          · have da : (t.a == 0) = true := by simp [ha]
            go_wp2_with fail
            go_ret
            exact ⟨-1, rfl, HB4.out, fun _ => Or.inl (by decide)⟩
          · have da : (t.a == 0) = false := by simpa using ha
            have hg : Goes t := ⟨by omega, by omega, by omega, fun _ => ha⟩
            obtain ⟨y2, hy2⟩ : ∃ y2, wrap64 (y + 1) = y2 := ⟨_, rfl⟩
            have HY2 := Lib.hid (show SmallL l → y2 = costL (l.take (k + 1)) + 1 from fun hs => by
              obtain ⟨e1, e2, e3, e4⟩ := HNX.out hs hg
              have e5 : costT t = 1 := if_pos h2
              rw [← hy2, HY.out hs, e1, e5]
              exact IntWalk.i64_left _ |>.symm.trans (IntWalk.i64_in _ (by omega)))
            have HG2 := Lib.hid (HGN.out hg)
            clear hg HNX HGN HY ha h2 h4
            go_wp2_with fail
            go_roundw
            case rel => exact ⟨k + 1, y2, by omega, by go_num, by rw [hy2], HY2, HG2, HB4⟩
            case measure => simp [intOf]; omega
        · have d2 : (t.k == 2) = false := by simpa using h2
          have hg : Goes t := ⟨by omega, by omega, by omega, fun e => absurd e h2⟩
          by_cases h3 : t.k = 3
          · have d3 : (t.k == 3) = true := by simp [h3]
            obtain ⟨y2, hy2⟩ : ∃ y2, wrap64 (y + wrap64 (t.b + 1)) = y2 := ⟨_, rfl⟩
            have HY2 := Lib.hid (show SmallL l → y2 = costL (l.take (k + 1)) + 1 from fun hs => by
              obtain ⟨e1, e2, e3, e4⟩ := HNX.out hs hg
              have e5 : costT t = t.b + 1 := by unfold costT; rw [if_neg h2, if_pos h3]
              have hb := e2.b
              have w1 : wrap64 (t.b + 1) = t.b + 1 := IntWalk.i64_left _ |>.symm.trans (IntWalk.i64_in _ (by omega))
              rw [← hy2, HY.out hs, e1, e5, w1]
              have w2 : wrap64 (costL (l.take k) + 1 + (t.b + 1)) = costL (l.take k) + 1 + (t.b + 1) := IntWalk.i64_left _ |>.symm.trans (IntWalk.i64_in _ (by omega))
              rw [w2]
              omega)
            have HG2 := Lib.hid (HGN.out hg)
            clear hg HNX HGN HY h2 h3 h4
            go_wp2_with fail
            go_roundw
            case rel => exact ⟨k + 1, y2, by omega, by go_num, by rw [hy2], HY2, HG2, HB4⟩
            case measure => simp [intOf]; omega
          · have d3 : (t.k == 3) = false := by simpa using h3
            obtain ⟨y2, hy2⟩ : ∃ y2, wrap64 (y + wrap64 (wrap64 (t.a + t.b) + 1)) = y2 := ⟨_, rfl⟩
            have HY2 := Lib.hid (show SmallL l → y2 = costL (l.take (k + 1)) + 1 from fun hs => by
              obtain ⟨e1, e2, e3, e4⟩ := HNX.out hs hg
              have e5 : costT t = t.a + t.b + 1 := by unfold costT; rw [if_neg h2, if_neg h3]
              have ha := e2.a
              have hb := e2.b
              have w0 : wrap64 (t.a + t.b) = t.a + t.b := IntWalk.i64_left _ |>.symm.trans (IntWalk.i64_in _ (by omega))
              have w1 : wrap64 (t.a + t.b + 1) = t.a + t.b + 1 := IntWalk.i64_left _ |>.symm.trans (IntWalk.i64_in _ (by omega))
              rw [← hy2, HY.out hs, e1, e5, w0, w1]
              have w2 : wrap64 (costL (l.take k) + 1 + (t.a + t.b + 1)) = costL (l.take k) + 1 + (t.a + t.b + 1) := IntWalk.i64_left _ |>.symm.trans (IntWalk.i64_in _ (by omega))
              rw [w2]
              omega)
            have HG2 := Lib.hid (HGN.out hg)
            clear hg HNX HGN HY h2 h3 h4
            go_wp2_with fail
            go_roundw
            case rel => exact ⟨k + 1, y2, by omega, by go_num, by rw [hy2], HY2, HG2, HB4⟩
            case measure => simp [intOf]; omega
    · obtain rfl : k = nl := by omega
      have hw : wrap64 ((N : Int) + 2) = (N : Int) + 2 := IntWalk.i64_left _ |>.symm.trans (IntWalk.i64_in _ (by omega))
      obtain ⟨v, hv⟩ : ∃ v, wrap64 (((N : Int) + 2) * y) = v := ⟨_, rfl⟩
      have HV := Lib.hid (show SmallL l → v < 0 ∨ ((∀ t ∈ l, Goes t) ∧ v = ((N : Int) + 2) * (costL l + 1)) from fun hs => by
        have hg := HG.out
        have hy := HY.out hs
        rw [← HI.out.1, List.take_length] at hg hy
        have hc := cost_max (small_kv hs hg)
        have hln := HI.out.1
        refine Or.inr ⟨hg, ?_⟩
        rw [← hv, hy]
        have hb1 : 0 ≤ ((N : Int) + 2) * (costL l + 1) := Int.mul_nonneg (by omega) (by omega)
        have hb2 : ((N : Int) + 2) * (costL l + 1) ≤ 32 * 1000 := by
          have h1 := mul_less (show (N : Int) + 2 ≤ 32 by omega) (show 0 ≤ costL l + 1 by omega)
          have h2 : (32 : Int) * (costL l + 1) ≤ 32 * 1000 := by omega
          omega
        exact IntWalk.i64_left _ |>.symm.trans (IntWalk.i64_in _ (by omega)))
      clear HY HG hlt hk
      go_wp2_with fail
      go_ret
      exact ⟨v, gb.ret_int hv, HB.out, HV.out⟩
end Go.Proofs.YtoiodcaohkfdjaaGreat
