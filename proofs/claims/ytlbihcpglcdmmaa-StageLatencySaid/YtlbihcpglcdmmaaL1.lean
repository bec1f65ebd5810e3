/-
  Mathematics of a stage that ends nothing, and whose source stays open; of Latency: when its bytes are ready. Conditions: none.
-/
import Derived.Test.YtlbihcpglcdmmaaZ5
namespace Go.Proofs.Ytlbihcpglcdmmaa
open Go.RowKit

/-- A stage of a kind that ends nothing, whose source is open. -/
structure Runs (s : St) : Prop where
  kind : s.tx.k = 1 ∨ s.tx.k = 2 ∨ s.tx.k = 3
  closed : s.closed = false
  open_ : s.st = 0
theorem state_runs {s : St} (h : Runs s) (c : Int) : stateS s c = 0 := by
  have hk := h.kind
  unfold stateS
  rw [if_neg (by rw [h.open_]; simp), if_neg (by omega), if_neg (by omega), if_neg (by omega), if_neg (by rw [h.closed]; simp)]
theorem look_runs {s : St} (h : Runs s) (now : Int) : lookS s now = { s with clock := tickS s.clock now } := by
  unfold lookS
  rw [state_runs h]
  obtain ⟨_, _, h3⟩ := h
  cases s
  simp only at h3
  subst h3
  rfl
theorem Runs.clock {s : St} (h : Runs s) (c : Int) : Runs { s with clock := c } := ⟨h.kind, h.closed, h.open_⟩
theorem tick_to {c now : Int} (h : c ≤ now) (h0 : 0 ≤ now) (h1 : now ≤ 1099511627776) : tickS c now = now := by
  unfold tickS
  rw [gb.near_of now h0 h1]
  split <;> omega
theorem addT_range (a b : Int) : 0 ≤ addT a b ∧ addT a b ≤ 1099511627776 := gb.near_range _
theorem addT_le {a b : Int} (h : 0 ≤ a) (h1 : a ≤ 1099511627776) : a ≤ addT a b := by
  have h2 := gb.near_range b
  unfold addT
  rw [gb.near_of a h h1]
  unfold gb.near
  (repeat' split) <;> omega
theorem addT_mono {a b c : Int} (h : b ≤ c) : addT a b ≤ addT a c := by
  unfold addT gb.near
  (repeat' split) <;> omega
theorem addT_mono' {a a' b : Int} (h : a ≤ a') : addT a b ≤ addT a' b := by
  unfold addT gb.near
  (repeat' split) <;> omega
theorem addT_up {a b : Int} (h : 0 ≤ a) (hb : 0 ≤ b) : addT a b ≤ a + b := by
  unfold addT gb.near
  (repeat' split) <;> omega
theorem rangeV_in (d a b : Int) (h : a ≤ b) (h1 : -1099511627776 ≤ a) (h2 : b ≤ 1099511627776) : a ≤ gd.rangeV d a b ∧ gd.rangeV d a b ≤ b := by
  unfold gd.rangeV
  rw [if_pos ⟨h, h1, h2⟩]
  have := gd.takeZ_range d (b - a + 1) (by omega)
  omega
theorem nums_cat (a b : ByteArray) : gc.nums (a ++ b) = gc.nums a ++ gc.nums b := by simp [gc.nums]
theorem nums_ext (S : ByteArray) (j K : Nat) : gc.nums (S.extract j K) = ((gc.nums S).drop j).take (K - j) := by
  unfold gc.nums
  simp [ByteArray.data_extract, List.extract_eq_take_drop, List.map_take, List.map_drop]
theorem nums_first (S : ByteArray) (K : Nat) : gc.nums (S.extract 0 K) = (gc.nums S).take K := by rw [nums_ext, List.drop_zero, Nat.sub_zero]
theorem nums_cut (S : ByteArray) (K : Nat) : gc.nums (S.extract K S.size) = (gc.nums S).drop K := by
  rw [nums_ext]
  apply List.take_of_length_le
  rw [List.length_drop, gc.nums_length]
  omega
/-- What is put when, of a stage of Latency. -/
structure LatI (lag jit : Int) (s : St) (now : Int) (ats : List Int) (p : Nat) : Prop where
  runs : Runs s
  kind : s.tx.k = 1
  lagA : s.tx.a = lag
  jitB : s.tx.b = jit
  room : s.room = 100
  jit0 : 0 ≤ jit
  jit1 : jit ≤ lag
  lag1 : lag ≤ 1000000
  clock : s.clock = now
  now0 : 0 ≤ now
  now1 : now ≤ 1099511627776
  size : s.A.length = s.S.size
  len : ats.length = p + s.S.size
  bytes : ∀ i, i < s.S.size → (gc.nums s.S).getD i 0 = ((p + i : Nat) : Int)
  early : ∀ i, i < s.S.size → addT (ats.getD (p + i) 0) (lag - jit) ≤ s.A.getD i 0
  late : ∀ i, i < s.S.size → s.A.getD i 0 ≤ s.last
  last0 : 0 ≤ s.last
  last1 : s.last ≤ 1099511627776
  last : s.last ≤ now + lag + jit
  atl : ∀ i, i < ats.length → 0 ≤ ats.getD i 0 ∧ ats.getD i 0 ≤ now
theorem lat_new {lag jit seed : Int} (h0 : 0 ≤ jit) (h1 : jit ≤ lag) (h2 : lag ≤ 1000000) (t : Tox) (hk : t.k = 1) (ha : t.a = lag) (hb : t.b = jit) : LatI lag jit (newS t seed 100 0) 0 [] 0 := by
  refine ⟨⟨Or.inl hk, rfl, rfl⟩, hk, ha, hb, rfl, h0, h1, h2, ?_, by omega, by omega, rfl, rfl, fun i hi => ?_, fun i hi => ?_, fun i hi => ?_, Int.le_refl _, ?_, ?_, fun i hi => ?_⟩
  · show gb.near 0 = 0
    exact gb.near_of 0 (by omega) (by omega)
  · exact absurd hi (Nat.not_lt_zero _)
  · exact absurd hi (Nat.not_lt_zero _)
  · exact absurd hi (Nat.not_lt_zero _)
  · show (0 : Int) ≤ _
    omega
  · show (0 : Int) ≤ _
    omega
  · cases hi
theorem getD_app (l : List Int) (x : Int) {i : Nat} (h : i < l.length) : (l ++ [x]).getD i 0 = l.getD i 0 := by
  rw [List.getD_eq_getElem?_getD, List.getD_eq_getElem?_getD, List.getElem?_append_left h]
theorem getD_end (l : List Int) (x : Int) : (l ++ [x]).getD l.length 0 = x := by
  rw [List.getD_eq_getElem?_getD, List.getElem?_append_right (Nat.le_refl _), Nat.sub_self]
  rfl
theorem putT_facts {last a : Int} (h0 : 0 ≤ last) (h1 : last ≤ 1099511627776) (ha : 0 ≤ a) (ha1 : a ≤ 1099511627776) : a ≤ gc.putT last a ∧ last ≤ gc.putT last a ∧ gc.putT last a ≤ 1099511627776 ∧ (gc.putT last a = last ∨ gc.putT last a = a) := by
  unfold gc.putT
  rw [gc.near_of a ha ha1]
  split <;> omega
/-- A byte is put. -/
theorem lat_put {lag jit : Int} {s : St} {now now' : Int} {ats : List Int} {p : Nat} (h : LatI lag jit s now ats p) (hn : now ≤ now') (hn1 : now' ≤ 1099511627776) (hl : ats.length ≤ 60) {b : ByteArray} (hb : b.size = 1) (hv : gc.nums b = [((ats.length : Nat) : Int)]) :
    (bringS s now' b).2 = 1 ∧ LatI lag jit (bringS s now' b).1 now' (ats ++ [now']) p := by
  have hlk := look_runs h.runs now'
  have hclk : tickS s.clock now' = now' := tick_to (by rw [h.clock]; exact hn) (by have := h.now0; omega) hn1
  have hlen := h.len
  have hsz : s.S.size ≤ 60 := by omega
  obtain ⟨r, hr⟩ : ∃ r, gd.rangeV s.d (s.tx.a - s.tx.b) (s.tx.a + s.tx.b) = r := ⟨_, rfl⟩
  have hrr := rangeV_in s.d (s.tx.a - s.tx.b) (s.tx.a + s.tx.b) (by rw [h.jitB]; have := h.jit0; omega) (by rw [h.jitB, h.lagA]; have := h.jit1; omega) (by rw [h.jitB, h.lagA]; have := h.jit1; have := h.lag1; omega)
  rw [hr, h.jitB, h.lagA] at hrr
  have hne : ¬ ((lookS s now').st ≠ 0 ∨ (lookS s now').closed = true) := by
    rw [hlk]
    show ¬ (s.st ≠ 0 ∨ s.closed = true)
    rw [h.runs.open_, h.runs.closed]
    simp
  have hfr : freeS (lookS s now') = 100 - s.S.size := by
    rw [hlk]
    show freeS { s with clock := _ } = _
    unfold freeS
    rw [if_neg (by rw [h.room]; show ¬ (100 : Int) < (s.S.size : Int); omega)]
    show s.room - (s.S.size : Int) = _
    rw [h.room]
  have hB : bringS s now' b = (forceS (lookS s now') b, 1) := by
    unfold bringS
    dsimp only
    rw [if_neg hne, hfr, hb, if_neg (by omega)]
    show (forceS (lookS s now') (b.extract 0 1), _) = _
    rw [show b.extract 0 1 = b by rw [← hb]; exact extract_all b]
    rfl
  obtain ⟨T, hT⟩ : ∃ T, gc.putT s.last (addT now' r) = T := ⟨_, rfl⟩
  have hF : forceS (lookS s now') b = { s with clock := now', d := gd.rangeS s.d (s.tx.a - s.tx.b) (s.tx.a + s.tx.b), S := s.S ++ b, A := s.A ++ [T], last := T } := by
    rw [hlk, hclk]
    unfold forceS
    rw [if_neg (by rw [hb]; omega), if_pos h.kind]
    unfold putS
    dsimp only
    rw [hr, hT, hb]
    rfl
  have hpt := putT_facts h.last0 h.last1 (addT_range now' r).1 (addT_range now' r).2
  rw [hT] at hpt
  have hup : addT now' r ≤ now' + r := addT_up (by have := h.now0; omega) (by have := h.jit1; omega)
  have hlow : addT now' (lag - jit) ≤ addT now' r := addT_mono hrr.1
  rw [hB]
  refine ⟨rfl, ?_⟩
  dsimp only
  rw [hF]
  have hn0 := h.now0
  have hss : (s.S ++ b).size = s.S.size + 1 := by rw [ByteArray.size_append, hb]
  have hAl := h.size
  refine ⟨⟨h.runs.kind, h.runs.closed, h.runs.open_⟩, h.kind, h.lagA, h.jitB, h.room, h.jit0, h.jit1, h.lag1, rfl, by omega, hn1, ?_, ?_, fun i hi => ?_, fun i hi => ?_, fun i hi => ?_, ?_, ?_, ?_, fun i hi => ?_⟩
  · show (s.A ++ [T]).length = (s.S ++ b).size
    rw [List.length_append, hss, hAl]
    rfl
  · show (ats ++ [now']).length = p + (s.S ++ b).size
    rw [List.length_append, hss, hlen]
    rfl
  · change i < (s.S ++ b).size at hi
    show (gc.nums (s.S ++ b)).getD i 0 = _
    rw [nums_cat, hv, List.getD_eq_getElem?_getD]
    rw [hss] at hi
    rcases Nat.lt_or_eq_of_le (Nat.le_of_lt_succ hi) with h1 | h1
    · rw [List.getElem?_append_left (by rw [gc.nums_length]; exact h1), ← List.getD_eq_getElem?_getD]
      exact h.bytes i h1
    · subst h1
      rw [List.getElem?_append_right (by rw [gc.nums_length]; exact Nat.le_refl _), gc.nums_length, Nat.sub_self]
      show ((ats.length : Nat) : Int) = _
      rw [hlen]
  · change i < (s.S ++ b).size at hi
    show addT ((ats ++ [now']).getD (p + i) 0) (lag - jit) ≤ (s.A ++ [T]).getD i 0
    rw [hss] at hi
    rcases Nat.lt_or_eq_of_le (Nat.le_of_lt_succ hi) with h1 | h1
    · rw [getD_app _ _ (by omega), getD_app _ _ (by omega)]
      exact h.early i h1
    · subst h1
      rw [← hlen, getD_end, ← hAl, getD_end]
      omega
  · change i < (s.S ++ b).size at hi
    show (s.A ++ [T]).getD i 0 ≤ T
    rw [hss] at hi
    rcases Nat.lt_or_eq_of_le (Nat.le_of_lt_succ hi) with h1 | h1
    · rw [getD_app _ _ (by omega)]
      have := h.late i h1
      omega
    · subst h1
      rw [← hAl, getD_end]
      exact Int.le_refl _
  · show 0 ≤ T
    have := h.last0
    omega
  · show T ≤ 1099511627776
    omega
  · show T ≤ now' + lag + jit
    have := h.last
    rcases hpt.2.2.2 with e | e <;> omega
  · rw [List.length_append] at hi
    rcases Nat.lt_or_eq_of_le (Nat.le_of_lt_succ (show i < ats.length + 1 from hi)) with h1 | h1
    · rw [getD_app _ _ h1]
      have := h.atl i h1
      omega
    · subst h1
      rw [getD_end]
      omega
/-- Bytes are taken. -/
theorem lat_take {lag jit : Int} {s : St} {now now' : Int} {ats : List Int} {p : Nat} (h : LatI lag jit s now ats p) (hn : now ≤ now') (hn1 : now' ≤ 1099511627776) (most : Int) :
    ∃ K, K ≤ s.S.size ∧ (takeS s now' most).2 = s.S.extract 0 K ∧ LatI lag jit (takeS s now' most).1 now' ats (p + K) ∧ (∀ i, i < K → (gc.nums (takeS s now' most).2).getD i 0 = ((p + i : Nat) : Int) ∧ p + i < ats.length ∧ addT (ats.getD (p + i) 0) (lag - jit) ≤ now') ∧
      (s.last ≤ now' → (s.S.size : Int) ≤ most → 1 ≤ most → K = s.S.size) := by
  have hlk := look_runs h.runs now'
  have hclk : tickS s.clock now' = now' := tick_to (by rw [h.clock]; exact hn) (by have := h.now0; omega) hn1
  rw [hclk] at hlk
  have hl1 : LatI lag jit { s with clock := now' } now' ats p :=
    ⟨h.runs.clock _, h.kind, h.lagA, h.jitB, h.room, h.jit0, h.jit1, h.lag1, rfl, by have := h.now0; omega, hn1, h.size, h.len, h.bytes, h.early, h.late, h.last0, h.last1, by have := h.last; show s.last ≤ _; omega, fun i hi => by have := h.atl i hi; omega⟩
  unfold takeS
  dsimp only
  rw [hlk]
  by_cases hm : most < 1
  · rw [if_pos (Or.inr hm)]
    exact ⟨0, by omega, (extract_none _).symm, hl1, fun i hi => absurd hi (Nat.not_lt_zero _), fun _ _ h1 => absurd hm (by omega)⟩
  · rw [if_neg (by rw [show ({ s with clock := now' } : St).st = 0 from h.runs.open_]; simp [hm])]
    dsimp only
    obtain ⟨R, hR⟩ : ∃ R, gc.readyN s.A now' = R := ⟨_, rfl⟩
    rw [hR]
    obtain ⟨n, hnn⟩ : ∃ n : Int, (if most < (R : Int) then most else (R : Int)) = n := ⟨_, rfl⟩
    rw [hnn]
    have hg : giveS { s with clock := now' } n = ({ s with clock := now' }, n) := by
      have hk := h.kind
      unfold giveS
      rw [if_neg (by rw [show ({ s with clock := now' } : St).tx.k = 1 from hk]; decide), if_neg (by rw [show ({ s with clock := now' } : St).tx.k = 1 from hk]; decide), if_neg (by rw [show ({ s with clock := now' } : St).tx.k = 1 from hk]; decide), if_neg (by rw [show ({ s with clock := now' } : St).tx.k = 1 from hk]; simp)]
    rw [hg]
    dsimp only
    have hRl : R ≤ s.A.length := by rw [← hR]; exact gc.ready_le _ _
    have hn0 : 0 ≤ n ∧ n ≤ R := by rw [← hnn]; split <;> omega
    have hK : gc.takeK s.A now' n = n.toNat := by unfold gc.takeK; rw [hR]; omega
    rw [hK]
    obtain ⟨K, hKn⟩ : ∃ K : Nat, n.toNat = K := ⟨_, rfl⟩
    rw [hKn]
    have hKR : K ≤ R := by omega
    have hAl := h.size
    have hKS : K ≤ s.S.size := by omega
    have hex : (s.S.extract 0 K).size = K := by rw [ByteArray.size_extract]; omega
    have hcut : (s.S.extract K s.S.size).size = s.S.size - K := by rw [ByteArray.size_extract]; omega
    refine ⟨K, hKS, rfl, ?_, fun i hi => ⟨?_, ?_, ?_⟩, fun hl h2 h3 => ?_⟩
    · unfold cutS
      dsimp only
      refine ⟨⟨h.runs.kind, h.runs.closed, h.runs.open_⟩, h.kind, h.lagA, h.jitB, h.room, h.jit0, h.jit1, h.lag1, rfl, by have := h.now0; omega, hn1, ?_, ?_, fun i hi => ?_, fun i hi => ?_, fun i hi => ?_, h.last0, h.last1, by have := h.last; show s.last ≤ _; omega, fun i hi => by have := h.atl i hi; omega⟩
      · show (s.A.drop K).length = (s.S.extract K s.S.size).size
        rw [List.length_drop, hcut, hAl]
      · show ats.length = p + K + (s.S.extract K s.S.size).size
        rw [hcut, h.len]
        omega
      · change i < (s.S.extract K s.S.size).size at hi
        rw [hcut] at hi
        show (gc.nums (s.S.extract K s.S.size)).getD i 0 = _
        rw [nums_cut, List.getD_eq_getElem?_getD, List.getElem?_drop, ← List.getD_eq_getElem?_getD, h.bytes (K + i) (by omega)]
        congr 1
        omega
      · change i < (s.S.extract K s.S.size).size at hi
        rw [hcut] at hi
        show _ ≤ (s.A.drop K).getD i 0
        have := h.early (K + i) (by omega)
        rw [List.getD_eq_getElem?_getD (l := s.A.drop K), List.getElem?_drop, ← List.getD_eq_getElem?_getD, show p + K + i = p + (K + i) by omega]
        exact this
      · change i < (s.S.extract K s.S.size).size at hi
        rw [hcut] at hi
        show (s.A.drop K).getD i 0 ≤ s.last
        rw [List.getD_eq_getElem?_getD, List.getElem?_drop, ← List.getD_eq_getElem?_getD]
        exact h.late (K + i) (by omega)
    · rw [nums_first, List.getD_eq_getElem?_getD, List.getElem?_take, if_pos hi, ← List.getD_eq_getElem?_getD]
      exact h.bytes i (by omega)
    · rw [h.len]; omega
    · refine Int.le_trans (h.early i (by omega)) ?_
      exact gc.ready_yes (by rw [hR]; omega)
    · have hall : R = s.A.length := by
        rw [← hR]
        exact gc.ready_is (Nat.le_refl _) (fun j hj => Int.le_trans (h.late j (by omega)) hl) (fun hx => absurd hx (Nat.lt_irrefl _))
      have : n = (s.S.size : Int) := by rw [← hnn, hall, hAl]; split <;> omega
      omega
end Go.Proofs.Ytlbihcpglcdmmaa
