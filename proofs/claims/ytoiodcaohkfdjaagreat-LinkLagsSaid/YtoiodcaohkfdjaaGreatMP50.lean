/-
  LinkLags as mathematics: no byte is told sooner than all latencies behind its Send. Conditions: none.
  LinkLags as mathematics: the ticks at which bytes came in, along a chain's stages. Conditions: none.
  LinkLags as mathematics: the law's own lag, and what holds from call to call. Conditions: none.
  A row of numbers beside a link. Conditions: as each states.
-/
import Derived.Test.YtoiodcaohkfdjaaGreatMP37
import Derived.Test.YtoiodcaohkfdjaaGreatMP49
namespace Go.Proofs.YtoiodcaohkfdjaaGreat
open Go.RowKit
def topT : Int := 1099511627776
/-- A tick, so much later. -/
def bnd (x y : Int) : Int := if topT < x + y then topT else x + y
theorem bnd_mono {x y z : Int} (h : x ≤ y) : bnd x z ≤ bnd y z := by unfold bnd topT; split <;> split <;> omega
theorem bnd_trans {x y z u v : Int} (h : bnd x y ≤ u) (h2 : bnd u z ≤ v) (hu : u ≤ topT) (hz : 0 ≤ z) : bnd x (y + z) ≤ v := by
  unfold bnd topT at *
  split at h <;> split at h2 <;> split <;> omega
theorem tickTo {c now : Int} (h : c ≤ now) (h0 : 0 ≤ now) (h1 : now ≤ topT) : tickS c now = now := by
  have e : gb.near now = now := gb.near_of now h0 h1
  unfold tickS
  rw [e]
  split <;> omega
theorem addT_bnd {now r L : Int} (h0 : 0 ≤ now) (h1 : now ≤ topT) (hL : 0 ≤ L) (hr : L ≤ r) : bnd now L ≤ gc.near (addT now r) := by
  unfold bnd topT at *
  unfold addT gc.near gb.near
  (repeat' split) <;> omega
theorem near_le {now : Int} (h0 : 0 ≤ now) (h1 : now ≤ topT) : bnd now 0 ≤ gc.near now ∧ now ≤ gc.near now := by
  unfold bnd topT at *
  unfold gc.near
  (repeat' split) <;> omega
def lagT (t : Tox) : Int := if t.k = 1 then t.a - t.b else 0
theorem range_ge (d a b : Int) (h : a ≤ b) : a ≤ gd.rangeV d a b := by
  unfold gd.rangeV
  split
  · have := (gd.takeZ_range d (b - a + 1) (by omega)).1
    omega
  · exact Int.le_refl _
/-- What is put into a stage is ready no sooner. -/
theorem push_A (s : St) (now : Int) (b : ByteArray) (h0 : 0 ≤ now) (h1 : now ≤ topT) (hc : s.clock ≤ now) (hx : s.tx.k = 1 → 0 ≤ s.tx.b ∧ s.tx.b ≤ s.tx.a) :
    ((pushS s now b).clock = now ∧ (pushS s now b).tx = s.tx) ∧ ((lookS s now).st ≠ 0 → (pushS s now b).A = s.A ∧ (pushS s now b).S = s.S) ∧ ((lookS s now).st = 0 → (pushS s now b).S = s.S ++ b ∧ ∃ T, (pushS s now b).A = s.A ++ List.replicate b.size T ∧ (0 < b.size → bnd now (lagT s.tx) ≤ T)) := by
  have hcl : (lookS s now).clock = now := tickTo hc h0 h1
  have hA : (lookS s now).A = s.A := rfl
  have hS : (lookS s now).S = s.S := rfl
  have hT : (lookS s now).tx = s.tx := rfl
  have hp : ∀ l a : Int, gc.near a ≤ gc.putT l a := fun l a => by unfold gc.putT; split <;> omega
  unfold pushS
  dsimp only
  by_cases hs : (lookS s now).st = 0
  · rw [if_neg (fun h => h hs)]
    refine ⟨?_, fun h => absurd hs h, fun _ => ?_⟩
    · unfold forceS
      split
      · exact ⟨hcl, hT⟩
      split <;> exact ⟨hcl, hT⟩
    · refine ⟨force_S _ b, ?_⟩
      unfold forceS
      by_cases hb : b.size = 0
      · rw [if_pos hb]
        exact ⟨0, by rw [hb]; simp [hA], fun h => by omega⟩
      rw [if_neg hb]
      by_cases hk : (lookS s now).tx.k = 1
      · rw [if_pos hk]
        refine ⟨_, rfl, fun _ => ?_⟩
        have hk1 : s.tx.k = 1 := hk
        obtain ⟨b0, b1⟩ := hx hk1
        have hr := range_ge (lookS s now).d ((lookS s now).tx.a - (lookS s now).tx.b) ((lookS s now).tx.a + (lookS s now).tx.b) (by rw [hT]; omega)
        have e := hp (lookS s now).last (addT (lookS s now).clock (gd.rangeV (lookS s now).d ((lookS s now).tx.a - (lookS s now).tx.b) ((lookS s now).tx.a + (lookS s now).tx.b)))
        refine Int.le_trans ?_ e
        rw [hcl]
        rw [hT] at hr ⊢
        unfold lagT
        rw [if_pos hk1]
        exact addT_bnd h0 h1 (by omega) hr
      · rw [if_neg hk]
        refine ⟨_, rfl, fun _ => ?_⟩
        refine Int.le_trans ?_ (hp _ _)
        rw [hcl]
        unfold lagT
        rw [if_neg (show ¬ s.tx.k = 1 from hk)]
        exact (near_le h0 h1).1
  · rw [if_pos hs]
    exact ⟨⟨hcl, hT⟩, fun _ => ⟨hA, hS⟩, fun h => absurd h hs⟩
theorem bring_eq (s : St) (now : Int) (b : ByteArray) : ((lookS s now).st ≠ 0 ∨ (lookS s now).closed = true → bringS s now b = (lookS s now, 0)) ∧ (¬ ((lookS s now).st ≠ 0 ∨ (lookS s now).closed = true) → ∃ n : Int, bringS s now b = (forceS (lookS s now) (b.extract 0 n.toNat), n)) := by
  obtain ⟨l, hl⟩ : ∃ l, lookS s now = l := ⟨_, rfl⟩
  unfold bringS
  rw [hl]
  exact ⟨fun h => if_pos h, fun h => ⟨_, if_neg h⟩⟩
theorem force_ct (s : St) (x : ByteArray) : (forceS s x).clock = s.clock ∧ (forceS s x).tx = s.tx := by
  unfold forceS
  (repeat' split) <;> exact ⟨rfl, rfl⟩
theorem force_A (s : St) (now : Int) (x : ByteArray) (hcl : s.clock = now) (h0 : 0 ≤ now) (h1 : now ≤ topT) (hk : s.tx.k ≠ 1) : ∃ T, (forceS s x).A = s.A ++ List.replicate x.size T ∧ (0 < x.size → now ≤ T) := by
  unfold forceS
  by_cases hz : x.size = 0
  · rw [if_pos hz]
    exact ⟨0, by rw [hz]; simp, fun h => by omega⟩
  · rw [if_neg hz, if_neg hk]
    refine ⟨_, rfl, fun _ => ?_⟩
    rw [hcl]
    have e := (near_le h0 h1).2
    have e2 : gc.near now ≤ gc.putT s.last now := by unfold gc.putT; split <;> omega
    exact Int.le_trans e e2
/-- What is put into the inlet. -/
theorem bring_A (s : St) (now : Int) (b : ByteArray) (h0 : 0 ≤ now) (h1 : now ≤ topT) (hc : s.clock ≤ now) (hk : s.tx.k ≠ 1) :
    ((bringS s now b).1.clock = now ∧ (bringS s now b).1.tx = s.tx) ∧ 0 ≤ (bringS s now b).2 ∧ (bringS s now b).1.S = s.S ++ b.extract 0 (bringS s now b).2.toNat ∧ ∃ T, (bringS s now b).1.A = s.A ++ List.replicate (b.extract 0 (bringS s now b).2.toNat).size T ∧ (0 < (b.extract 0 (bringS s now b).2.toNat).size → now ≤ T) := by
  have hcl : (lookS s now).clock = now := tickTo hc h0 h1
  have hn := (bring_n s now b)
  have hS := bring_S s now b
  refine ⟨?_, by omega, hS, ?_⟩
  · have hb := bring_eq s now b
    by_cases hs : (lookS s now).st ≠ 0 ∨ (lookS s now).closed = true
    · rw [hb.1 hs]
      exact ⟨hcl, rfl⟩
    · obtain ⟨n, e⟩ := hb.2 hs
      rw [e]
      have := force_ct (lookS s now) (b.extract 0 n.toNat)
      exact ⟨this.1.trans hcl, this.2⟩
  · have hb := bring_eq s now b
    by_cases hs : (lookS s now).st ≠ 0 ∨ (lookS s now).closed = true
    · rw [hb.1 hs]
      exact ⟨0, by show s.A = s.A ++ List.replicate (b.extract 0 0).size 0; simp, fun h => by rw [show ((0 : Int).toNat) = 0 from rfl] at h; simp at h⟩
    · obtain ⟨n, e⟩ := hb.2 hs
      rw [e]
      exact force_A _ now _ hcl h0 h1 hk
/-- What is taken is ready. -/
theorem take_A (s : St) (now n : Int) (h0 : 0 ≤ now) (h1 : now ≤ topT) (hc : s.clock ≤ now) (hl : s.A.length = s.S.size) :
    ((takeS s now n).1.clock = now ∧ (takeS s now n).1.tx = s.tx) ∧ ∃ K, (takeS s now n).2.size = K ∧ K ≤ s.S.size ∧ (takeS s now n).1.A = s.A.drop K ∧ (takeS s now n).1.S.size + K = s.S.size ∧ ∀ i, i < K → s.A.getD i 0 ≤ now := by
  have hcl : (lookS s now).clock = now := tickTo hc h0 h1
  have hsz := Ch.sz_take s now n
  have hsz : (takeS s now n).1.S.size + (takeS s now n).2.size = s.S.size := hsz
  refine ⟨?_, (takeS s now n).2.size, rfl, by omega, ?_, by omega, ?_⟩
  · unfold takeS
    dsimp only
    split
    · exact ⟨hcl, rfl⟩
    · refine ⟨?_, ?_⟩
      · show (giveS _ _).1.clock = now
        unfold giveS
        (repeat' split) <;> exact hcl
      · show (giveS _ _).1.tx = s.tx
        exact (Ch.give_st _ _).2.1
  · unfold takeS
    dsimp only
    split
    · rfl
    · generalize (if n < _ then n else _ : Int) = N
      have hA : (giveS (lookS s now) N).1.A = s.A := by unfold giveS; (repeat' split) <;> rfl
      show (giveS (lookS s now) N).1.A.drop _ = _
      rw [hA]
      congr 1
      have := gc.takeK_le s.A (lookS s now).clock (giveS (lookS s now) N).2
      rw [ByteArray.size_extract]
      show gc.takeK s.A _ _ = min (gc.takeK s.A _ _) s.S.size - 0
      omega
  · intro i hi
    unfold takeS at hi
    dsimp only at hi
    split at hi
    · exact absurd hi (Nat.not_lt_zero i)
    · rw [ByteArray.size_extract] at hi
      have : i < gc.readyN s.A (lookS s now).clock := by
        have h2 : i < gc.takeK s.A (lookS s now).clock (giveS (lookS s now) (if n < (gc.readyN (lookS s now).A (lookS s now).clock : Int) then n else (gc.readyN (lookS s now).A (lookS s now).clock : Int))).2 := by
          have e : (lookS s now).A = s.A := rfl
          rw [e] at hi ⊢
          omega
        unfold gc.takeK at h2
        omega
      have := gc.ready_yes this
      rw [hcl] at this
      exact this
end Go.Proofs.YtoiodcaohkfdjaaGreat
namespace Go.Proofs.YtoiodcaohkfdjaaGreat
open Go.RowKit
theorem getD_app_lt {xs ys : List Int} {i : Nat} (h : i < xs.length) : (xs ++ ys).getD i 0 = xs.getD i 0 := by
  rw [List.getD_eq_getElem?_getD, List.getD_eq_getElem?_getD, List.getElem?_append_left h]
theorem getD_app_ge {xs ys : List Int} {i : Nat} (h : xs.length ≤ i) : (xs ++ ys).getD i 0 = ys.getD (i - xs.length) 0 := by
  rw [List.getD_eq_getElem?_getD, List.getD_eq_getElem?_getD, List.getElem?_append_right h]
theorem getD_rep {m i : Nat} (T : Int) (h : i < m) : (List.replicate m T).getD i 0 = T := by
  rw [List.getD_eq_getElem?_getD, List.getElem?_replicate, if_pos h]
  rfl
theorem getD_dr (xs : List Int) (K i : Nat) : (xs.drop K).getD i 0 = xs.getD (K + i) 0 := by
  rw [List.getD_eq_getElem?_getD, List.getD_eq_getElem?_getD, List.getElem?_drop]
theorem getD_tk (xs : List Int) {K i : Nat} (h : i < K) : (xs.take K).getD i 0 = xs.getD i 0 := by
  rw [List.getD_eq_getElem?_getD, List.getD_eq_getElem?_getD, List.getElem?_take, if_pos h]
/-- A stage whose bytes came in at the ticks g: each is ready L later, no sooner. -/
structure SL (t : Tox) (L now : Int) (s : St) (g : List Int) : Prop where
  c : s.clock ≤ now
  tx : s.tx = t
  len : s.A.length = s.S.size
  gl : g.length = s.A.length
  low : ∀ i, i < g.length → bnd (g.getD i 0) L ≤ s.A.getD i 0
namespace SL
variable {t : Tox} {L now : Int} {s : St} {g : List Int}
theorem mono {now' : Int} (h : SL t L now s g) (hn : now ≤ now') : SL t L now' s g := ⟨Int.le_trans h.c hn, h.tx, h.len, h.gl, h.low⟩
theorem of {s' : St} (h : SL t L now s g) (hc : s'.clock ≤ now) (ht : s'.tx = s.tx) (hA : s'.A = s.A) (hS : s'.S = s.S) : SL t L now s' g :=
  ⟨hc, ht.trans h.tx, by rw [hA, hS]; exact h.len, by rw [hA]; exact h.gl, fun i hi => by rw [hA]; exact h.low i hi⟩
theorem look (h : SL t L now s g) (h0 : 0 ≤ now) (h1 : now ≤ topT) : SL t L now (lookS s now) g :=
  h.of (by show tickS s.clock now ≤ now; rw [tickTo h.c h0 h1]; exact Int.le_refl _) rfl rfl rfl
theorem close (h : SL t L now s g) (h0 : 0 ≤ now) (h1 : now ≤ topT) : SL t L now (closeS s now) g := by
  have e := tickTo h.c h0 h1
  unfold closeS
  split
  · exact h.of (by show tickS s.clock now ≤ now; rw [e]; exact Int.le_refl _) rfl rfl rfl
  · exact h.of (by show tickS s.clock now ≤ now; rw [e]; exact Int.le_refl _) rfl rfl rfl
theorem drain (h : SL t L now s g) : SL t L now (drainS s).1 [] := ⟨h.c, h.tx, rfl, rfl, fun i hi => absurd hi (Nat.not_lt_zero i)⟩
theorem take (h : SL t L now s g) (n : Int) (h0 : 0 ≤ now) (h1 : now ≤ topT) : SL t L now (takeS s now n).1 (g.drop (takeS s now n).2.size) ∧ (takeS s now n).2.size ≤ g.length ∧ ∀ i, i < (takeS s now n).2.size → bnd (g.getD i 0) L ≤ now := by
  obtain ⟨⟨a1, a2⟩, K, hK, a3, a4, a5, a6⟩ := take_A s now n h0 h1 h.c h.len
  have hl := h.len
  have hg := h.gl
  rw [hK]
  have hA : (takeS s now n).1.A.length = s.A.length - K := by rw [a4, List.length_drop]
  refine ⟨⟨Int.le_of_eq a1, a2.trans h.tx, by omega, by rw [List.length_drop]; omega, fun i hi => ?_⟩, by omega, fun i hi => ?_⟩
  · rw [List.length_drop] at hi
    rw [a4, getD_dr, getD_dr]
    exact h.low (K + i) (by omega)
  · exact Int.le_trans (h.low i (by omega)) (a6 i hi)
theorem push (h : SL t L now s g) (b : ByteArray) (g' : List Int) {L0 : Int} (h0 : 0 ≤ now) (h1 : now ≤ topT) (hv : t.k = 1 → 0 ≤ t.b ∧ t.b ≤ t.a) (hst : (lookS s now).st = 0) (hL : L = L0 + lagT t) (hg : g'.length = b.size) (hb : ∀ i, i < b.size → bnd (g'.getD i 0) L0 ≤ now) : SL t L now (pushS s now b) (g ++ g') := by
  obtain ⟨⟨a1, a2⟩, _, a3⟩ := push_A s now b h0 h1 h.c (by rw [h.tx]; exact hv)
  obtain ⟨a4, T, a5, a6⟩ := a3 hst
  have hl := h.len
  have hgl := h.gl
  have hz : 0 ≤ lagT t := by
    unfold lagT
    split
    · rename_i hk
      have := hv hk
      omega
    · exact Int.le_refl _
  refine ⟨Int.le_of_eq a1, a2.trans h.tx, ?_, ?_, fun i hi => ?_⟩
  · rw [a5, a4, List.length_append, List.length_replicate, ByteArray.size_append, hl]
  · rw [a5, List.length_append, List.length_append, List.length_replicate, hgl, hg]
  · rw [List.length_append] at hi
    rcases Nat.lt_or_ge i g.length with hlt | hge
    · rw [a5, getD_app_lt hlt, getD_app_lt (by omega)]
      exact h.low i hlt
    · rw [a5, getD_app_ge hge, getD_app_ge (by omega), getD_rep T (by omega), hL]
      have a6 := a6 (by omega)
      rw [h.tx] at a6
      exact bnd_trans (hb (i - g.length) (by omega)) a6 h1 hz
theorem bring (h : SL t 0 now s g) (b : ByteArray) (h0 : 0 ≤ now) (h1 : now ≤ topT) (hv : t.k ≠ 1) : SL t 0 now (bringS s now b).1 (g ++ List.replicate (bringS s now b).2.toNat now) := by
  obtain ⟨⟨a1, a2⟩, _, a4, T, a5, a6⟩ := bring_A s now b h0 h1 h.c (by rw [h.tx]; exact hv)
  have hl := h.len
  have hgl := h.gl
  have hn := bring_n s now b
  have hz : (b.extract 0 (bringS s now b).2.toNat).size = (bringS s now b).2.toNat := by rw [ByteArray.size_extract]; omega
  rw [hz] at a5 a6
  refine ⟨Int.le_of_eq a1, a2.trans h.tx, ?_, ?_, fun i hi => ?_⟩
  · rw [a5, a4, List.length_append, List.length_replicate, ByteArray.size_append, hl, hz]
  · rw [a5, List.length_append, List.length_append, List.length_replicate, List.length_replicate, hgl]
  · rw [List.length_append, List.length_replicate] at hi
    rcases Nat.lt_or_ge i g.length with hlt | hge
    · rw [a5, getD_app_lt hlt, getD_app_lt (by omega)]
      exact h.low i hlt
    · rw [a5, getD_app_ge hge, getD_app_ge (by omega), getD_rep T (by omega), getD_rep now (by omega)]
      have a6 := a6 (by omega)
      unfold bnd
      split <;> omega
end SL
/-! The ticks of all stages' bytes. -/
def upd (G : Nat → List Int) (k : Nat) (g : List Int) : Nat → List Int := fun j => if j = k then g else G j
def catG (G : Nat → List Int) : Nat → List Int
  | 0 => []
  | n + 1 => G n ++ catG G n
theorem upd_at (G : Nat → List Int) (k : Nat) (g : List Int) : upd G k g k = g := if_pos rfl
theorem upd_ne (G : Nat → List Int) {k j : Nat} (g : List Int) (h : j ≠ k) : upd G k g j = G j := if_neg h
theorem catG_congr {G H : Nat → List Int} {n : Nat} (h : ∀ j, j < n → G j = H j) : catG G n = catG H n := by
  induction n with
  | zero => rfl
  | succ n ih =>
    show G n ++ catG G n = H n ++ catG H n
    rw [h n (by omega), ih fun j hj => h j (by omega)]
theorem catG_move (G : Nat → List Int) {i n : Nat} (K : Nat) (h : i + 1 < n) : catG (upd (upd G i ((G i).drop K)) (i + 1) (G (i + 1) ++ (G i).take K)) n = catG G n := by
  induction n with
  | zero => omega
  | succ n ih =>
    show upd _ _ _ n ++ catG _ n = G n ++ catG G n
    rcases Nat.lt_or_ge (i + 1) n with hlt | hge
    · rw [ih hlt, upd_ne _ _ (by omega), upd_ne _ _ (by omega)]
    · obtain rfl : n = i + 1 := by omega
      show upd _ _ _ (i + 1) ++ (upd _ _ _ i ++ catG _ i) = G (i + 1) ++ (G i ++ catG G i)
      rw [upd_at, upd_ne _ _ (by omega), upd_at, catG_congr (H := G) fun j hj => by rw [upd_ne _ _ (by omega), upd_ne _ _ (by omega)]]
      rw [List.append_assoc, ← List.append_assoc ((G i).take K), List.take_append_drop]
theorem catG_put (G : Nat → List Int) (n : Nat) (x : List Int) : catG (upd G 0 (G 0 ++ x)) (n + 1) = catG G (n + 1) ++ x := by
  induction n with
  | zero => show upd _ _ _ 0 ++ [] = (G 0 ++ []) ++ x; rw [upd_at, List.append_nil, List.append_nil]
  | succ n ih =>
    show upd _ _ _ (n + 1) ++ catG _ (n + 1) = (G (n + 1) ++ catG G (n + 1)) ++ x
    rw [ih, upd_ne _ _ (by omega), List.append_assoc]
theorem catG_take (G : Nat → List Int) (n K : Nat) : catG G (n + 1) = (G n).take K ++ catG (upd G n ((G n).drop K)) (n + 1) := by
  show G n ++ catG G n = _ ++ (upd _ _ _ n ++ catG _ n)
  rw [upd_at, catG_congr (G := upd G n ((G n).drop K)) (H := G) fun j hj => upd_ne _ _ (by omega), ← List.append_assoc, List.take_append_drop]
def lowN (G : Nat → List Int) (m : Nat) : Nat → List Int := fun j => if j < m then [] else G j
theorem lowN_succ (G : Nat → List Int) (m : Nat) : lowN G (m + 1) = upd (lowN G m) m [] := by
  funext j
  unfold lowN upd
  by_cases h : j = m
  · rw [if_pos h, if_pos (by omega)]
  · rw [if_neg h]
    show _ = (if j < m then [] else G j)
    by_cases h2 : j < m
    · rw [if_pos h2, if_pos (by omega)]
    · rw [if_neg h2, if_neg (by omega)]
theorem catG_lose (G : Nat → List Int) {m n : Nat} (h : m ≤ n) : ∃ X, catG G n = catG (lowN G m) n ++ X := by
  induction n with
  | zero => exact ⟨[], rfl⟩
  | succ n ih =>
    show ∃ X, G n ++ catG G n = (lowN G m n ++ catG (lowN G m) n) ++ X
    rcases Nat.lt_or_ge n m with hlt | hge
    · have e : ∀ p, p ≤ m → catG (lowN G m) p = [] := by
        intro p
        induction p with
        | zero => intro _; rfl
        | succ p ihp => intro hp; show lowN G m p ++ catG _ p = []; rw [ihp (by omega)]; unfold lowN; rw [if_pos (by omega)]; rfl
      refine ⟨G n ++ catG G n, ?_⟩
      rw [e n (by omega)]
      unfold lowN
      rw [if_pos hlt]
      rfl
    · obtain ⟨X, hX⟩ := ih hge
      refine ⟨X, ?_⟩
      rw [hX]
      unfold lowN
      rw [if_neg (show ¬ n < m by omega), List.append_assoc]
/-- A chain whose stages' bytes came in at the ticks G. -/
structure EL (T : Nat → Tox) (Λ : Nat → Int) (n : Nat) (now : Int) (c : Ch) (G : Nat → List Int) : Prop where
  len : c.L.length = n
  each : ∀ j, j < n → SL (T j) (Λ j) now (c.at' j).s (G j)
/-- Its toxics, and the ticks that they hold a byte back at the least. -/
structure TL (T : Nat → Tox) (Λ : Nat → Int) (n : Nat) : Prop where
  v : ∀ j, j < n → (T j).k = 1 → 0 ≤ (T j).b ∧ (T j).b ≤ (T j).a
  z : Λ 0 = 0
  s : ∀ j, Λ (j + 1) = Λ j + lagT (T (j + 1))
  k : (T 0).k ≠ 1
  two : 2 ≤ n
/-- What was lost was the last. -/
def ML (n : Nat) (c c' : Ch) (G G' : Nat → List Int) : Prop := (∃ X, catG G n = catG G' n ++ X) ∧ (c'.shut = false → catG G' n = catG G n ∧ c.shut = false)
theorem ML.refl (n : Nat) (c : Ch) (G : Nat → List Int) : ML n c c G G := ⟨⟨[], (List.append_nil _).symm⟩, fun h => ⟨rfl, h⟩⟩
theorem ML.trans {n : Nat} {a b c : Ch} {G H J : Nat → List Int} (h : ML n a b G H) (h' : ML n b c H J) : ML n a c G J := by
  obtain ⟨⟨X, hX⟩, h2⟩ := h
  obtain ⟨⟨Y, hY⟩, h3⟩ := h'
  exact ⟨⟨Y ++ X, by rw [hX, hY, List.append_assoc]⟩, fun e => ⟨(h3 e).1.trans (h2 (h3 e).2).1, (h2 (h3 e).2).2⟩⟩
theorem ML.of {n : Nat} {c c' : Ch} {G G' : Nat → List Int} (h : catG G' n = catG G n) (hs : c'.shut = false → c.shut = false) : ML n c c' G G' := ⟨⟨[], by rw [h, List.append_nil]⟩, fun e => ⟨h, hs e⟩⟩
namespace EL
open Ch
variable {T : Nat → Tox} {Λ : Nat → Int} {n : Nat} {now : Int} {c : Ch} {G : Nat → List Int}
theorem mono {now' : Int} (h : EL T Λ n now c G) (hn : now ≤ now') : EL T Λ n now' c G := ⟨h.len, fun j hj => (h.each j hj).mono hn⟩
theorem on (h : EL T Λ n now c G) {k : Nat} (hk : k < n) (o : Op) (g : List Int) (hs : SL (T k) (Λ k) now (doS (c.at' k).s o).1 g) : EL T Λ n now (c.onC k o) (upd G k g) := by
  refine ⟨by rw [len_on]; exact h.len, fun j hj => ?_⟩
  by_cases e : k = j
  · subst e
    rw [at_on _ _ _ (by rw [h.len]; exact hk), upd_at]
    exact hs
  · rw [at_other _ _ _ _ e, upd_ne _ _ (fun e' => e e'.symm)]
    exact h.each j hj
theorem same (h : EL T Λ n now c G) {k : Nat} (hk : k < n) (o : Op) (hs : SL (T k) (Λ k) now (doS (c.at' k).s o).1 (G k)) : EL T Λ n now (c.onC k o) G := by
  have := h.on hk o (G k) hs
  have e : upd G k (G k) = G := by
    funext j
    unfold upd
    split
    · rename_i hj; rw [hj]
    · rfl
  rwa [e] at this
theorem look (h : EL T Λ n now c G) (h0 : 0 ≤ now) (h1 : now ≤ topT) {k : Nat} (hk : k < n) : EL T Λ n now (c.onC k (oLook now)) G := h.same hk _ ((h.each k hk).look h0 h1)
theorem close (h : EL T Λ n now c G) (h0 : 0 ≤ now) (h1 : now ≤ topT) {k : Nat} (hk : k < n) : EL T Λ n now (c.onC k (oClose now)) G := h.same hk _ ((h.each k hk).close h0 h1)
theorem looks (h : EL T Λ n now c G) (h0 : 0 ≤ now) (h1 : now ≤ topT) (m : Nat) (hm : m ≤ n) : EL T Λ n now (c.looks now m) G := by
  induction m with
  | zero => exact h
  | succ m ih => exact (ih (by omega)).look h0 h1 (by omega)
theorem loseN (h : EL T Λ n now c G) (m : Nat) (hm : m ≤ n) : EL T Λ n now (c.loseN m) (lowN G m) := by
  induction m with
  | zero =>
    have e : lowN G 0 = G := by funext j; unfold lowN; rw [if_neg (Nat.not_lt_zero j)]
    rw [e]
    exact h
  | succ m ih =>
    have h1 := ih (by omega)
    have h2 := h1.on (k := m) (by omega) oDrain [] (h1.each m (by omega)).drain
    rw [lowN_succ]
    exact ⟨h2.len, h2.each⟩
theorem lose (h : EL T Λ n now c G) (m : Nat) (hm : m ≤ n) : EL T Λ n now (c.lose m) (lowN G m) ∧ ML n c (c.lose m) G (lowN G m) :=
  ⟨⟨(h.loseN m hm).len, (h.loseN m hm).each⟩, catG_lose G hm, fun e => by cases e⟩
theorem brk (h : EL T Λ n now c G) : ∃ G', EL T Λ n now c.breakC G' ∧ ML n c c.breakC G G' := by
  unfold breakC
  split
  · exact ⟨G, h, ML.refl n c G⟩
  · have e := h.len
    obtain ⟨a, b⟩ := h.lose n (Nat.le_refl n)
    rw [← e] at a b
    rw [← e]
    exact ⟨_, ⟨a.len, a.each⟩, b.1, fun e => by cases e⟩
theorem flow1 (h : EL T Λ n now c G) (ht : TL T Λ n) (h0 : 0 ≤ now) (h1 : now ≤ topT) {i : Nat} (hi : i + 1 < n) : ∃ G', EL T Λ n now (c.flow1 now i) G' ∧ catG G' n = catG G n := by
  have hb := h.look h0 h1 hi
  unfold Ch.flow1
  dsimp only
  split
  · rename_i hn
    have hn : (lookS (c.at' (i + 1)).s now).st = 0 := hn
    have ha : ((c.onC (i + 1) (oLook now)).at' (i + 1)).s = lookS (c.at' (i + 1)).s now := by rw [at_on c _ _ (by rw [h.len]; exact hi)]; rfl
    generalize c.onC (i + 1) (oLook now) = d at *
    generalize freeS (d.at' (i + 1)).s = m at *
    obtain ⟨a1, a2, a3⟩ := (hb.each i (by omega)).take m h0 h1
    have b1 := hb.on (k := i) (by omega) (oTake now m) _ a1
    have e1 : ((d.onC i (oTake now m)).at' (i + 1)) = d.at' (i + 1) := at_other _ _ _ _ (by omega)
    have hK : (oPush now (d.ansC i (oTake now m)).s).s.size = (takeS (d.at' i).s now m).2.size := rfl
    refine ⟨_, b1.on (k := i + 1) hi (oPush now (d.ansC i (oTake now m)).s) (G (i + 1) ++ (G i).take (takeS (d.at' i).s now m).2.size) ?_, catG_move G _ hi⟩
    rw [e1]
    refine SL.push (L0 := Λ i) (hb.each (i + 1) hi) _ _ h0 h1 (ht.v (i + 1) hi) (by rw [ha, look_look]; exact hn) (ht.s i) ?_ fun j hj => ?_
    · rw [List.length_take, hK]
      omega
    · rw [hK] at hj
      rw [getD_tk _ hj]
      exact a3 j hj
  · exact ⟨G, hb, rfl⟩
theorem flow (h : EL T Λ n now c G) (ht : TL T Λ n) (h0 : 0 ≤ now) (h1 : now ≤ topT) (m : Nat) (hm : m < n) : ∃ G', EL T Λ n now (c.flow now m) G' ∧ catG G' n = catG G n := by
  induction m with
  | zero => exact ⟨G, h, rfl⟩
  | succ m ih =>
    obtain ⟨G1, a1, b1⟩ := ih (by omega)
    obtain ⟨G2, a2, b2⟩ := a1.flow1 ht h0 h1 hm
    exact ⟨G2, a2, b2.trans b1⟩
theorem ends1 (h : EL T Λ n now c G) (h0 : 0 ≤ now) (h1 : now ≤ topT) {i : Nat} (hi : i + 1 < n) : ∃ G', EL T Λ n now (c.ends1 now i) G' ∧ ML n c (c.ends1 now i) G G' := by
  have hb := h.look h0 h1 (k := i) (by omega)
  have hm : ML n c (c.onC i (oLook now)) G G := ML.of rfl id
  unfold Ch.ends1
  dsimp only
  split
  · obtain ⟨a, b⟩ := hb.lose (i + 1) (by omega)
    exact ⟨_, a.close h0 h1 hi, (hm.trans b).trans (ML.of rfl id)⟩
  · exact ⟨G, hb, hm⟩
theorem ends (h : EL T Λ n now c G) (h0 : 0 ≤ now) (h1 : now ≤ topT) (m : Nat) (hm : m < n) : ∃ G', EL T Λ n now (c.ends now m) G' ∧ ML n c (c.ends now m) G G' := by
  induction m with
  | zero => exact ⟨G, h, ML.refl n c G⟩
  | succ m ih =>
    obtain ⟨G1, a1, b1⟩ := ih (by omega)
    obtain ⟨G2, a2, b2⟩ := a1.ends1 h0 h1 hm
    exact ⟨G2, a2, b1.trans b2⟩
theorem step (h : EL T Λ n now c G) (ht : TL T Λ n) (h0 : 0 ≤ now) (h1 : now ≤ topT) : ∃ G', EL T Λ n now (c.stepC now) G' ∧ ML n c (c.stepC now) G G' := by
  have hn := ht.two
  have hl := h.len
  have a1 := h.looks h0 h1 n (Nat.le_refl n)
  have m1 : ML n c (c.looks now n) G G := ML.of rfl (fun e => by rwa [shut_looks] at e)
  unfold stepC
  rw [hl]
  split
  · exact ⟨G, h, ML.refl n c G⟩
  · split
    · obtain ⟨G2, a2, m2⟩ := a1.brk
      exact ⟨G2, a2, m1.trans m2⟩
    · obtain ⟨G2, a2, e2⟩ := a1.flow ht h0 h1 (n - 1) (by omega)
      have m2 : ML n (c.looks now n) ((c.looks now n).flow now (n - 1)) G G2 := ML.of e2 (fun e => by rwa [shut_flow] at e)
      obtain ⟨G3, a3, m3⟩ := a2.ends h0 h1 (n - 1) (by omega)
      have e3 : c.step3 now = ((c.looks now n).flow now (n - 1)).ends now (n - 1) := by unfold step3; rw [hl]
      rw [e3]
      have a4 := a3.look h0 h1 (k := n - 1) (by omega)
      exact ⟨G3, ⟨a4.len, a4.each⟩, (m1.trans m2).trans ⟨m3.1, m3.2⟩⟩
end EL
/-- A chain of which bytes will come that came in at the ticks R, or the first of them. -/
def LagI (T : Nat → Tox) (Λ : Nat → Int) (n : Nat) (now : Int) (c : Ch) (R : List Int) : Prop := ∃ G, EL T Λ n now c G ∧ (∃ X, R = catG G n ++ X) ∧ (c.shut = false → R = catG G n)
namespace LagI
open Ch
variable {T : Nat → Tox} {Λ : Nat → Int} {n : Nat} {now : Int} {c : Ch} {R : List Int}
theorem mono {now' : Int} (h : LagI T Λ n now c R) (hn : now ≤ now') : LagI T Λ n now' c R := by
  obtain ⟨G, a, b⟩ := h
  exact ⟨G, a.mono hn, b⟩
theorem ml {c' : Ch} {G G' : Nat → List Int} (hx : ∃ X, R = catG G n ++ X) (he : c.shut = false → R = catG G n) (a : EL T Λ n now c' G') (m : ML n c c' G G') : LagI T Λ n now c' R := by
  obtain ⟨X, hX⟩ := hx
  obtain ⟨Y, hY⟩ := m.1
  exact ⟨G', a, ⟨Y ++ X, by rw [hX, hY, List.append_assoc]⟩, fun e => by rw [he (m.2 e).2, (m.2 e).1]⟩
theorem step (h : LagI T Λ n now c R) (ht : TL T Λ n) (h0 : 0 ≤ now) (h1 : now ≤ topT) : LagI T Λ n now (c.stepC now) R := by
  obtain ⟨G, a, hx, he⟩ := h
  obtain ⟨G', a', m⟩ := a.step ht h0 h1
  exact ml hx he a' m
theorem brk (h : LagI T Λ n now c R) : LagI T Λ n now c.breakC R := by
  obtain ⟨G, a, hx, he⟩ := h
  obtain ⟨G', a', m⟩ := a.brk
  exact ml hx he a' m
theorem fin (h : LagI T Λ n now c R) (ht : TL T Λ n) (h0 : 0 ≤ now) (h1 : now ≤ topT) : LagI T Λ n now (c.doN (Lk.oFin now)) R := by
  obtain ⟨G, a, hx, he⟩ := h
  show LagI T Λ n now (if c.state = 0 then { c.onC 0 (oClose now) with shut := true } else c) R
  split
  · have a' := a.close h0 h1 (k := 0) (by have := ht.two; omega)
    exact ⟨G, ⟨a'.len, a'.each⟩, hx, fun e => by cases e⟩
  · exact ⟨G, a, hx, he⟩
theorem put (h : LagI T Λ n now c R) (ht : TL T Λ n) (h0 : 0 ≤ now) (h1 : now ≤ topT) (b : ByteArray) : LagI T Λ n now (c.doN (Lk.oPut now b)) (R ++ List.replicate (c.doA (Lk.oPut now b)).n.toNat now) := by
  obtain ⟨G, a, hx, he⟩ := h
  show LagI T Λ n now (if c.shut = true ∨ c.state ≠ 0 then c else c.onC 0 (Ch.oPut now b)) (R ++ List.replicate (if c.shut = true ∨ c.state ≠ 0 then noAns else ⟨(c.ansC 0 (Ch.oPut now b)).n, ⟨#[]⟩, 0⟩ : Ans).n.toNat now)
  split
  · show LagI T Λ n now c (R ++ [])
    rw [List.append_nil]
    exact ⟨G, a, hx, he⟩
  · rename_i hs
    have hs : c.shut = false := by
      cases e : c.shut with
      | false => rfl
      | true => exact absurd (Or.inl e) hs
    have h2 := ht.two
    have a0 := a.each 0 (by omega)
    rw [ht.z] at a0
    have a1 := a0.bring b h0 h1 ht.k
    rw [← ht.z] at a1
    have a2 := a.on (k := 0) (by omega) (Ch.oPut now b) _ a1
    have e1 : catG (upd G 0 (G 0 ++ List.replicate (bringS (c.at' 0).s now b).2.toNat now)) n = R ++ List.replicate (bringS (c.at' 0).s now b).2.toNat now := by
      have := catG_put G (n - 1) (List.replicate (bringS (c.at' 0).s now b).2.toNat now)
      rw [show n - 1 + 1 = n by omega] at this
      rw [this, he hs]
    exact ⟨_, a2, ⟨[], by rw [e1, List.append_nil]; rfl⟩, fun _ => e1.symm⟩
theorem take (h : LagI T Λ n now c R) (ht : TL T Λ n) (h0 : 0 ≤ now) (h1 : now ≤ topT) (w : Int) : LagI T Λ n now (c.doN (Lk.oTake now w)) (R.drop (c.doA (Lk.oTake now w)).s.size) ∧ ∀ i, i < (c.doA (Lk.oTake now w)).s.size → i < R.length ∧ bnd (R.getD i 0) (Λ (n - 1)) ≤ now := by
  obtain ⟨G, a, hx, he⟩ := h
  have h2 := ht.two
  have hl := a.len
  show LagI T Λ n now (if c.state = 2 then c else c.onC (c.L.length - 1) (Ch.oTake now w)) (R.drop (if c.state = 2 then noAns else ⟨0, (c.ansC (c.L.length - 1) (Ch.oTake now w)).s, 0⟩ : Ans).s.size) ∧ ∀ i, i < (if c.state = 2 then noAns else ⟨0, (c.ansC (c.L.length - 1) (Ch.oTake now w)).s, 0⟩ : Ans).s.size → _
  split
  · exact ⟨⟨G, a, hx, he⟩, fun i hi => absurd hi (Nat.not_lt_zero i)⟩
  · rw [hl]
    obtain ⟨b1, b2, b3⟩ := (a.each (n - 1) (by omega)).take w h0 h1
    have a2 := a.on (k := n - 1) (by omega) (Ch.oTake now w) _ b1
    have e1 := catG_take G (n - 1) (takeS (c.at' (n - 1)).s now w).2.size
    rw [show n - 1 + 1 = n by omega] at e1
    show LagI T Λ n now (c.onC (n - 1) (Ch.oTake now w)) (R.drop (takeS (c.at' (n - 1)).s now w).2.size) ∧ ∀ i, i < (takeS (c.at' (n - 1)).s now w).2.size → i < R.length ∧ bnd (R.getD i 0) (Λ (n - 1)) ≤ now
    generalize (takeS (c.at' (n - 1)).s now w).2.size = K at *
    have e2 : ∀ Y, (catG G n ++ Y).drop K = catG (upd G (n - 1) ((G (n - 1)).drop K)) n ++ Y := fun Y => by
      rw [e1, List.append_assoc, List.drop_append_of_le_length (by rw [List.length_take]; omega), List.drop_take, Nat.sub_self]
      rfl
    obtain ⟨X, hX⟩ := hx
    refine ⟨⟨_, a2, ⟨X, by rw [hX]; exact e2 X⟩, fun e => ?_⟩, fun i hi => ?_⟩
    · have := e2 []
      rw [List.append_nil, List.append_nil] at this
      rw [he e]
      exact this
    · have e3 : R = (G (n - 1)).take K ++ (catG (upd G (n - 1) ((G (n - 1)).drop K)) n ++ X) := by rw [hX, e1, List.append_assoc]
      have e4 : ((G (n - 1)).take K).length = K := by rw [List.length_take]; omega
      rw [e3]
      refine ⟨by rw [List.length_append]; omega, ?_⟩
      rw [getD_app_lt (by omega), getD_tk _ hi]
      exact b3 i hi
end LagI
/-- A call that is no change. -/
theorem lag_do {T : Nat → Tox} {Λ : Nat → Int} {n : Nat} {R : List Int} (k : Lk) (o : LOp) (h : LagI T Λ n o.now k.c R) (ht : TL T Λ n) (h0 : 0 ≤ o.now) (h1 : o.now ≤ topT) (hk : o.kind ≤ 3) :
    LagI T Λ n o.now (k.doK o).c ((R ++ (if o.kind = 0 then List.replicate (k.ansK o).n.toNat o.now else [])).drop (k.ansK o).s.size) ∧ ∀ i, i < (k.ansK o).s.size → i < R.length ∧ bnd (R.getD i 0) (Λ (n - 1)) ≤ o.now := by
  unfold Lk.doK Lk.ansK
  by_cases k0 : o.kind = 0
  · rw [if_pos k0, if_pos k0, if_pos k0]
    exact ⟨h.put ht h0 h1 o.s, fun i hi => absurd hi (Nat.not_lt_zero i)⟩
  rw [if_neg k0, if_neg k0, if_neg k0, List.append_nil]
  by_cases k1 : o.kind = 1
  · rw [if_pos k1, if_neg (by omega), if_neg (by omega), if_neg (by omega), if_neg (by omega)]
    exact ⟨h.fin ht h0 h1, fun i hi => absurd hi (Nat.not_lt_zero i)⟩
  rw [if_neg k1]
  by_cases k2 : o.kind = 2
  · rw [if_pos k2, if_neg (by omega), if_neg (by omega), if_neg (by omega), if_neg (by omega)]
    exact ⟨h.brk, fun i hi => absurd hi (Nat.not_lt_zero i)⟩
  rw [if_neg k2]
  by_cases k3 : o.kind = 3
  · rw [if_pos k3, if_pos k3]
    have a1 : LagI T Λ n o.now (k.c.doN (Lk.oStep o.now)) R := h.step ht h0 h1
    obtain ⟨a2, b2⟩ := a1.take ht h0 h1 o.n
    exact ⟨a2.step ht h0 h1, b2⟩
  rw [if_neg k3, if_neg k3, if_neg (by omega), if_neg (by omega), if_neg (by omega), if_neg (by omega), if_neg (by omega), if_neg (by omega)]
  exact ⟨h, fun i hi => absurd hi (Nat.not_lt_zero i)⟩
end Go.Proofs.YtoiodcaohkfdjaaGreat
namespace Go.Proofs.YtoiodcaohkfdjaaGreat
open Go.RowKit
theorem chk_lat {t : Tox} (h : t.chk = 0) (hk : t.k = 1) : 0 ≤ t.b ∧ t.b ≤ t.a ∧ t.a ≤ topT := by
  unfold Tox.chk gx.checkB at h
  split at h
  · omega
  split at h
  · omega
  split at h
  · omega
  rename_i h3
  have hp : gx.partsB t.k t.a t.b = true := by
    cases e : gx.partsB t.k t.a t.b with
    | true => rfl
    | false => exact absurd (Or.inr (Or.inr e)) h3
  unfold gx.partsB at hp
  rw [if_pos hk] at hp
  simp only [Bool.and_eq_true, beq_iff_eq, decide_eq_true_eq] at hp
  obtain ⟨⟨h1, h2⟩, h4⟩ := hp
  unfold gx.near at h1 h2
  unfold topT
  split at h1 <;> split at h2 <;> (try split at h1) <;> (try split at h2) <;> omega
theorem lagT_pos {t : Tox} (h : t.chk = 0) : 0 ≤ lagT t := by
  unfold lagT
  split
  · rename_i hk
    have := chk_lat h hk
    omega
  · exact Int.le_refl _
/-- The toxics of a made link's stages, and what they hold back at the least. -/
def toxOf (ts : List (Tox × Int)) (j : Nat) : Tox := if j = 0 then noTox else (ts.getD (j - 1) (noTox, 0)).1
def lamT (T : Nat → Tox) : Nat → Int
  | 0 => 0
  | j + 1 => lamT T j + lagT (T (j + 1))
theorem tox_next (ts : List (Tox × Int)) (j : Nat) : toxOf ts (j + 1) = (ts.getD j (noTox, 0)).1 := if_neg (Nat.succ_ne_zero j)
theorem tox_end {ts : List (Tox × Int)} {j : Nat} (h : ts.length ≤ j) : (ts.getD j (noTox, 0)).1 = noTox := by
  rw [List.getD_eq_getElem?_getD, List.getElem?_eq_none h]
  rfl
section
variable {k : Lk} {l : List Tox} {ts : List (Tox × Int)} {up : Bool} {room : Int}
theorem tox_v (hm : MadeL k l ts up room 0) (hc : ∀ t ∈ l, t.chk = 0) (j : Nat) : toxOf ts j = noTox ∨ (toxOf ts j).chk = 0 := by
  cases j with
  | zero => exact Or.inl rfl
  | succ j =>
    rw [tox_next]
    rcases Nat.lt_or_ge j ts.length with h | h
    · have hl := hm.len
      rcases (hm.each j (by omega)).1 with e | e
      · rw [e]
        exact Or.inr (hc _ (getD_mem (by omega)))
      · exact Or.inl e
    · exact Or.inl (tox_end h)
theorem lag_tl (hm : MadeL k l ts up room 0) (hc : ∀ t ∈ l, t.chk = 0) : TL (toxOf ts) (lamT (toxOf ts)) (ts.length + 2) := by
  refine ⟨fun j _ hk => ?_, rfl, fun j => rfl, by show (0 : Int) ≠ 1; decide, by omega⟩
  rcases tox_v hm hc j with e | e
  · rw [e] at hk
    exact absurd hk (by show ¬ (0 : Int) = 1; decide)
  · have := chk_lat e hk
    exact ⟨this.1, this.2.1⟩
theorem sl_new (t : Tox) (seed room L : Int) : SL t L 0 (newS t seed room 0) [] := ⟨by show gb.near 0 ≤ 0; unfold gb.near; decide, rfl, rfl, rfl, fun i hi => absurd hi (Nat.not_lt_zero i)⟩
theorem lag_i (hm : MadeL k l ts up room 0) : LagI (toxOf ts) (lamT (toxOf ts)) (ts.length + 2) 0 k.c [] := by
  have e : ∀ n, catG (fun _ => []) n = [] := fun n => by
    induction n with
    | zero => rfl
    | succ n ih => show [] ++ catG _ n = []; rw [ih]; rfl
  rw [hm.c]
  refine ⟨fun _ => [], ⟨frL_len ts room 0, fun j hj => ?_⟩, ⟨[], by rw [e]; rfl⟩, fun _ => (e _).symm⟩
  cases j with
  | zero =>
    rw [(fr_ends ts room 0).1]
    exact sl_new _ _ _ _
  | succ j =>
    rcases Nat.lt_or_ge j ts.length with h | h
    · rw [fr_at h, tox_next]
      exact sl_new _ _ _ _
    · obtain rfl : j = ts.length := by omega
      rw [(fr_ends ts room 0).2, tox_next, tox_end (Nat.le_refl _)]
      exact sl_new _ _ _ _
def sumG : List Tox → Int
  | [] => 0
  | t :: r => (if t.k = 1 ∧ t.o = 100 then t.a - t.b else 0) + sumG r
theorem sumG_append (a b : List Tox) : sumG (a ++ b) = sumG a + sumG b := by
  induction a with
  | nil => show sumG b = 0 + sumG b; omega
  | cons t r ih => show _ + sumG (r ++ b) = (_ + sumG r) + sumG b; rw [ih]; omega
theorem sum_lam (hm : MadeL k l ts up room 0) (hc : ∀ t ∈ l, t.chk = 0) : sumG l ≤ lamT (toxOf ts) (ts.length + 1) := by
  have hl := hm.len
  have key : ∀ m, m ≤ l.length → sumG (l.take m) ≤ lamT (toxOf ts) m := by
    intro m
    induction m with
    | zero => intro _; exact Int.le_refl _
    | succ m ih =>
      intro hmm
      have h1 := ih (by omega)
      have hd := hm.each m (by omega)
      have hv := tox_v hm hc (m + 1)
      rw [tox_next] at hv
      rw [take_next (by omega), sumG_append]
      show _ ≤ lamT (toxOf ts) m + lagT (toxOf ts (m + 1))
      rw [tox_next]
      generalize (ts.getD m (noTox, 0)).1 = x at *
      have hx : 0 ≤ lagT x := by
        rcases hv with e | e
        · rw [e]; show 0 ≤ lagT noTox; unfold lagT; rw [if_neg (by show ¬ (0 : Int) = 1; decide)]; exact Int.le_refl _
        · exact lagT_pos e
      have h2 : sumG [l.getD m noTox] ≤ lagT x := by
        show (if (l.getD m noTox).k = 1 ∧ (l.getD m noTox).o = 100 then (l.getD m noTox).a - (l.getD m noTox).b else 0) + 0 ≤ lagT x
        split
        · rename_i hh
          rw [hd.2.1 hh.2]
          unfold lagT
          rw [if_pos hh.1]
          omega
        · omega
      omega
  have h1 := key l.length (Nat.le_refl _)
  rw [List.take_length] at h1
  show _ ≤ lamT (toxOf ts) ts.length + lagT (toxOf ts (ts.length + 1))
  rw [tox_next, tox_end (Nat.le_refl _), hl]
  have : lagT noTox = 0 := by unfold lagT; rw [if_neg (by show ¬ (0 : Int) = 1; decide)]
  omega
end
/-- The law's own lag. -/
def lagS (up : Bool) (g : Int) (t : Tox) : Int := if t.k = 1 ∧ t.o = 100 ∧ t.up = up then addT g (t.a - t.b) else g
def lagF (up : Bool) (l : List Tox) : Int := l.foldl (lagS up) 0
theorem lagF_next (up : Bool) {l : List Tox} {j : Nat} (h : j < l.length) : lagF up (l.take (j + 1)) = lagS up (lagF up (l.take j)) (l.getD j noTox) := by
  unfold lagF
  rw [take_next h, List.foldl_append]
  rfl
theorem add_up {a b : Int} (h : 0 ≤ a) (hb : 0 ≤ b) : 0 ≤ addT a b ∧ addT a b ≤ a + b := by
  unfold addT gb.near
  (repeat' split) <;> omega
theorem lagF_le (up : Bool) (l : List Tox) (hc : ∀ t ∈ l, t.chk = 0) : ∀ g s : Int, 0 ≤ g → g ≤ s → 0 ≤ l.foldl (lagS up) g ∧ l.foldl (lagS up) g ≤ s + sumG (upL up l) := by
  induction l with
  | nil => intro g s h0 h1; exact ⟨h0, by show g ≤ s + 0; omega⟩
  | cons t r ih =>
    intro g s h0 h1
    have hr := ih fun x hx => hc x (List.mem_cons_of_mem _ hx)
    have ht := hc t (List.mem_cons_self ..)
    show 0 ≤ r.foldl (lagS up) (lagS up g t) ∧ r.foldl (lagS up) (lagS up g t) ≤ s + sumG (upL up (t :: r))
    by_cases hu : t.up = up
    · have e : upL up (t :: r) = t :: upL up r := by simp [upL, hu]
      rw [e]
      show _ ∧ _ ≤ s + ((if t.k = 1 ∧ t.o = 100 then t.a - t.b else 0) + sumG (upL up r))
      by_cases hk : t.k = 1 ∧ t.o = 100
      · have hv := chk_lat ht hk.1
        have ha := add_up h0 (show 0 ≤ t.a - t.b by omega)
        have e2 : lagS up g t = addT g (t.a - t.b) := if_pos ⟨hk.1, hk.2, hu⟩
        rw [e2, if_pos hk]
        have := hr (addT g (t.a - t.b)) (s + (t.a - t.b)) ha.1 (by omega)
        omega
      · have e2 : lagS up g t = g := if_neg fun h => hk ⟨h.1, h.2.1⟩
        rw [e2, if_neg hk]
        have := hr g s h0 h1
        omega
    · have e : upL up (t :: r) = upL up r := by simp [upL, hu]
      have e2 : lagS up g t = g := if_neg fun h => hu h.2.2
      rw [e, e2]
      exact hr g s h0 h1
theorem bnd_add {at' lag L now : Int} (h0 : 0 ≤ at') (h1 : at' ≤ topT) (hl : 0 ≤ lag) (hL : lag ≤ L) (h : bnd at' L ≤ now) : addT at' lag ≤ now := by
  unfold bnd topT at *
  unfold addT gb.near
  split at h <;> (repeat' split) <;> omega
/-- What holds from call to call: bytes came in at the ticks ats, and out of them came out. -/
def LagW (lag now : Int) (c : Ch) (ats : List Int) (out : Nat) : Prop := ∃ T Λ n, TL T Λ n ∧ LagI T Λ n now c (ats.drop out) ∧ lag ≤ Λ (n - 1) ∧ 0 ≤ lag ∧ (∀ x ∈ ats, 0 ≤ x ∧ x ≤ topT) ∧ out ≤ ats.length ∧ 0 ≤ now ∧ now ≤ topT
theorem lagw_new {k : Lk} {l : List Tox} {up : Bool} {room : Int} (h : MkL k l up room 0) (hc : checkL l = 0) : LagW (lagF up l) 0 k.c [] 0 := by
  obtain ⟨ts, hm⟩ := h.made
  have hl := (check_ok hc).2.1
  have hu : ∀ t ∈ upL up l, t.chk = 0 := fun t ht => hl t (List.mem_filter.1 ht).1
  have h1 := lagF_le up l hl 0 0 (Int.le_refl _) (Int.le_refl _)
  have h2 := sum_lam hm hu
  refine ⟨toxOf ts, lamT (toxOf ts), ts.length + 2, lag_tl hm hu, lag_i hm, ?_, h1.1, (fun x hx => by cases hx), Nat.le_refl _, Int.le_refl _, by unfold topT; decide⟩
  show lagF up l ≤ lamT (toxOf ts) (ts.length + 1)
  unfold lagF
  omega
theorem LagW.rng {lag now : Int} {c : Ch} {ats : List Int} {out : Nat} (h : LagW lag now c ats out) : 0 ≤ now ∧ now ≤ topT ∧ out ≤ ats.length := by
  obtain ⟨T, Λ, n, _, _, _, _, _, h1, h2, h3⟩ := h
  exact ⟨h2, h3, h1⟩
theorem LagW.later {lag now now' : Int} {c : Ch} {ats : List Int} {out : Nat} (h : LagW lag now c ats out) (h1 : now ≤ now') (h2 : now' ≤ topT) : LagW lag now' c ats out := by
  obtain ⟨T, Λ, n, a, b, c1, c2, c3, c4, c5, _⟩ := h
  exact ⟨T, Λ, n, a, b.mono h1, c1, c2, c3, c4, by omega, h2⟩
theorem LagW.do {lag now : Int} {ats : List Int} {out : Nat} {k : Lk} (h : LagW lag now k.c ats out) (o : LOp) (h1 : now ≤ o.now) (h2 : o.now ≤ topT) (hk : o.kind ≤ 3) :
    LagW lag o.now (k.doK o).c (ats ++ (if o.kind = 0 then List.replicate (k.ansK o).n.toNat o.now else [])) (out + (k.ansK o).s.size) ∧
    ∀ i, i < (k.ansK o).s.size → out + i < ats.length ∧ addT (ats.getD (out + i) 0) lag ≤ o.now := by
  obtain ⟨T, Λ, n, ht, hI, hl, hl0, hx, ho, h0, _⟩ := h
  obtain ⟨a, b⟩ := lag_do k o (hI.mono h1) ht (by omega) h2 hk
  have b' : ∀ i, i < (k.ansK o).s.size → out + i < ats.length ∧ addT (ats.getD (out + i) 0) lag ≤ o.now := fun i hi => by
    obtain ⟨c1, c2⟩ := b i hi
    rw [List.length_drop] at c1
    rw [getD_dr] at c2
    have hm : ats.getD (out + i) 0 ∈ ats := by
      rw [List.getD_eq_getElem?_getD, List.getElem?_eq_getElem (show out + i < ats.length by omega)]
      exact List.getElem_mem _
    exact ⟨by omega, bnd_add (hx _ hm).1 (hx _ hm).2 hl0 hl c2⟩
  refine ⟨⟨T, Λ, n, ht, ?_, hl, hl0, fun x hxx => ?_, ?_, by omega, h2⟩, b'⟩
  · rw [← List.drop_drop, List.drop_append_of_le_length ho]
    exact a
  · rcases List.mem_append.1 hxx with e | e
    · exact hx x e
    · split at e
      · rw [List.eq_of_mem_replicate e]
        omega
      · cases e
  · rw [List.length_append]
    rcases Nat.eq_zero_or_pos (k.ansK o).s.size with e | e
    · omega
    · have := (b' ((k.ansK o).s.size - 1) (by omega)).1
      omega
/-- How many rounds a call's number makes. -/
theorem lag_n {k : Lk} (h : Lok k) (hb : k.Bal) (o : LOp) (hk : o.kind ≤ 3) (h3 : Lok (k.doK o)) : 0 ≤ (k.ansK o).n ∧ (k.ansK o).n ≤ o.s.size + 2 := by
  by_cases k0 : o.kind = 0
  · have := Lk.send_n h hb k0
    omega
  · unfold Lk.ansK
    rw [if_neg k0]
    by_cases k3 : o.kind = 3
    · rw [if_pos k3]
      have e : k.doK o = k.stepK o.now o.n := by unfold Lk.doK; rw [if_neg k0, if_neg (by omega), if_neg (by omega), if_pos k3]
      have hs := h3.st3.st
      rw [e] at hs
      have hs : (k.stepC o.now o.n).state = 0 ∨ (k.stepC o.now o.n).state = 1 ∨ (k.stepC o.now o.n).state = 2 := by
        have : (k.stepK o.now o.n).c.state = (k.stepC o.now o.n).state := rfl
        omega
      show 0 ≤ k.stepE o.now o.n ∧ k.stepE o.now o.n ≤ _
      unfold Lk.stepE
      split <;> omega
    · rw [if_neg k3, if_neg (by omega), if_neg (by omega), if_neg (by omega)]
      exact ⟨Int.le_refl _, by show (0 : Int) ≤ _; omega⟩
end Go.Proofs.YtoiodcaohkfdjaaGreat
namespace Go.Proofs.YtoiodcaohkfdjaaGreat
open Go.RowKit
structure RowL (w0 w : World) (U : Own) (q : Option Addr) (n d : Nat) (xs : List Int) : Prop where
  row : gc.ORow w w0.heap.size 3 1 q n d (xs.map (Value.int .i64))
  far : ∀ a, q = some a → ¬ U a.block
theorem LHd.grown {w0 w w' : World} {U : Own} {g : Nat} {k : Lk} {M : Nat} (h : LHd w0 w U g k M) {b : Option Nat} (hg : w.grownBy w' b) (hb : ∀ j, b = some j → w0.heap.size ≤ j ∧ ¬ U j) : LHd w0 w' U g k M :=
  ⟨lrep_keep h.1 (fun i hi => hg.block i ((lrep_lt h.1).2 i hi) fun e => (hb i e.symm).2 hi), h.2.1, h.2.2.grown hg h.2.2.size fun j hj => (hb j hj).1⟩
namespace RowL
variable {w0 w w' : World} {U U' : Own} {g : Nat} {k : Lk} {M : Nat} {q : Option Addr} {n d : Nat} {xs : List Int}
theorem nil (w0 w : World) (U : Own) : RowL w0 w U none 0 0 [] := ⟨gc.orow_nil _ _ _ _, fun a h => by cases h⟩
theorem on (h : RowL w0 w U q n d xs) (hb : Below w.heap.size w w') : RowL w0 w' U q n d xs := ⟨h.row.on hb, h.far⟩
theorem rest (h : RowL w0 w U q n d xs) (hr : Rest w U w' U') : RowL w0 w' U' q n d xs :=
  ⟨h.row.keep fun a e => (hr a.block (h.row.lt a e).2 (h.far a e)).1, fun a e => (hr a.block (h.row.lt a e).2 (h.far a e)).2⟩
theorem set (h : RowL w0 w U q n d xs) {b : Nat} {cs : Array Value} {T : TypeId} {fr : Nat × Nat} (hg : w.heap[b]? = some (.cells cs T fr)) (hT : T ≠ 3) (i : Nat) (v : Value) : RowL w0 (w.setCell ⟨b, i, none⟩ v) U q n d xs := ⟨h.row.set hg hT i v, h.far⟩
theorem len (h : RowL w0 w U q n d xs) : xs.length = n := by
  have := h.row.len
  rw [List.length_map] at this
  omega
theorem num (h : RowL w0 w U q n d xs) (hn : 0 < n) : ∃ b o, q = some ⟨b, o, none⟩ ∧ ∀ i, i < n → w.cell? ⟨b, o + i, none⟩ = some (.int .i64 (xs.getD i 0)) := by
  obtain ⟨b, o, e, hc⟩ := h.row.at hn
  refine ⟨b, o, e, fun i hi => hc i _ ?_⟩
  have hl := h.len
  rw [List.getElem?_map, List.getD_eq_getElem?_getD, List.getElem?_eq_getElem (by omega)]
  rfl
/-- One number more. -/
theorem app (h : RowL w0 w U q n d xs) (hh : LHd w0 w U g k M) (hn : n + 1 ≤ 1000000) (x : Int) :
    ∃ q' d' w', (∀ ty, (Builtin.append_ #[63, 63] ty #[.slice q n d, .slice (some ⟨w.heap.size, 0, none⟩) 1 1]).run Tryz.prog (w.alloc (.cells #[.int .i64 x] 3)) = .ok (.slice q' (n + 1) d') w') ∧ RowL w0 w' U q' (n + 1) d' (xs ++ [x]) ∧ LHd w0 w' U g k M ∧
      ∀ (b : Nat) (cs : Array Value) (T : TypeId) (fr : Nat × Nat), w.heap[b]? = some (.cells cs T fr) → T ≠ 3 → w'.heap[b]? = some (.cells cs T fr) := by
  obtain ⟨i0, hi0, hz0, hz1, hz2⟩ := info_parts gc.info3
  have hal : Below w.heap.size w (w.alloc (.cells #[.int .i64 x] 3)) := (Below.refl _ _).alloc (Nat.le_refl _) _
  have hnew := heap_alloc_new w (.cells #[.int .i64 x] 3)
  obtain ⟨q', d', w1, r1, o1, g1, l1⟩ := gc.app_row (h.row.on hal) (Nat.le_trans hh.2.2.size hal.size) (t := 63) Tryz.underlying63 hi0 hz0 hz1 hz2 rfl (by decide) (a := ⟨w.heap.size, 0, none⟩) (m := 1) (d := 1) (news := [.int .i64 x]) rfl (by
    intro j v hj
    have hj1 : j < 1 := by have := (List.getElem?_eq_some_iff.mp hj).1; simpa using this
    obtain rfl : j = 0 := by omega
    rw [WideShapes.add_plain, ← hj]
    exact cell_of_row _ _ 0 _ _ _ hnew) (by simp [Value.oneCell']) (by unfold maxLen; omega) (by omega)
  refine ⟨q', d', w1, r1, ⟨by rw [List.map_append]; exact o1, fun a ea => ?_⟩, (hh.on hal).grown g1 fun j hj => ?_, fun b cs T fr hb hT => ?_⟩
  · rcases l1 a ea with h1 | h1
    · cases hq : q with
      | none => rw [hq] at h1; cases h1
      | some c =>
        rw [hq] at h1
        have e : c.block = a.block := by simpa using h1
        rw [← e]
        exact h.far c hq
    · exact hh.new (Nat.le_trans hal.size h1)
  · cases hq : q with
    | none => rw [hq] at hj; cases hj
    | some c =>
      rw [hq] at hj
      have e : c.block = j := by simpa using hj
      rw [← e]
      exact ⟨(h.row.lt c hq).1, h.far c hq⟩
  · have hb1 := (hal.block b (gb.blk_lt hb)).trans hb
    refine (g1.block b (gb.blk_lt hb1) fun e => ?_).trans hb1
    cases hq : q with
    | none => rw [hq] at e; cases e
    | some c =>
      rw [hq] at e
      have e : b = c.block := by simpa using e
      obtain ⟨cur, hc⟩ := (h.row.on hal).typed c hq
      rw [← e, hb1] at hc
      injection hc with hc
      injection hc with _ hT2
      exact hT hT2
end RowL
end Go.Proofs.YtoiodcaohkfdjaaGreat
