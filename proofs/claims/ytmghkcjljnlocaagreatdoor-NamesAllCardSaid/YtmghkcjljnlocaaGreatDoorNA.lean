/-
  Layer 14 (names) as mathematics: proxies in order, and what a call makes of them. Conditions: none.
-/
import Derived.Test.YtmghkcjljnlocaaGreatDoorXD
namespace Go.Proofs.YtmghkcjljnlocaaGreatDoor
open Go.RowKit

/-- A toxic. -/
structure Tox where
  s : ByteArray
  k : Int
  up : Bool
  o : Int
  a : Int
  b : Int
deriving DecidableEq
def noTox : Tox := ⟨⟨#[]⟩, 0, false, 0, 0, 0⟩
def Tox.chk (t : Tox) : Int := gx.checkB t.s t.k t.o t.a t.b
def chkL : List Tox → Int
  | [] => 0
  | t :: r => if t.chk ≠ 0 then t.chk else chkL r
def dupB (l : List Tox) : Bool := (List.range l.length).any fun j => (l.take j).any fun x => decide (x.s = (l.getD j noTox).s)
/-- A proxy. -/
structure Prx where
  s : ByteArray
  on : Bool
  most : Int
  ts : List Tox
deriving DecidableEq
def noPrx : Prx := ⟨⟨#[]⟩, false, 0, []⟩
/-- A call. -/
structure NOp where
  kind : Int
  n : Int
  s : ByteArray
  x : ByteArray
  on : Bool
  t : Tox
namespace Nm
/-! The order of texts. -/
def ltB (a b : ByteArray) : Bool := Op.bytesLess a.toList b.toList
theorem less_irrefl : ∀ x : List UInt8, Op.bytesLess x x = false
  | [] => rfl
  | a :: x => by
    show (decide (a < a) || (a == a && Op.bytesLess x x)) = false
    rw [less_irrefl x]
    simp
theorem less_trans : ∀ x y z : List UInt8, Op.bytesLess x y = true → Op.bytesLess y z = true → Op.bytesLess x z = true
  | x, [], z, h, _ => by cases x <;> cases h
  | [], b :: y, [], _, h => by cases h
  | [], b :: y, c :: z, _, _ => rfl
  | a :: x, b :: y, [], _, h => by cases h
  | a :: x, b :: y, c :: z, hA, hB => by
    have hA : (decide (a < b) || (a == b && Op.bytesLess x y)) = true := hA
    have hB : (decide (b < c) || (b == c && Op.bytesLess y z)) = true := hB
    show (decide (a < c) || (a == c && Op.bytesLess x z)) = true
    rw [Bool.or_eq_true, Bool.and_eq_true, decide_eq_true_eq, beq_iff_eq] at hA hB ⊢
    rcases hA with g | ⟨rfl, g⟩
    · rcases hB with g' | ⟨rfl, g'⟩
      · exact Or.inl (UInt8.lt_trans g g')
      · exact Or.inl g
    · rcases hB with g' | ⟨rfl, g'⟩
      · exact Or.inl g'
      · exact Or.inr ⟨rfl, less_trans x y z g g'⟩
theorem less_or : ∀ x y : List UInt8, x ≠ y → Op.bytesLess x y = true ∨ Op.bytesLess y x = true
  | [], [], h => absurd rfl h
  | [], _ :: _, _ => Or.inl rfl
  | _ :: _, [], _ => Or.inr rfl
  | a :: x, b :: y, h => by
    show (decide (a < b) || (a == b && Op.bytesLess x y)) = true ∨ (decide (b < a) || (b == a && Op.bytesLess y x)) = true
    rw [Bool.or_eq_true, Bool.and_eq_true, decide_eq_true_eq, beq_iff_eq, Bool.or_eq_true, Bool.and_eq_true, decide_eq_true_eq, beq_iff_eq]
    by_cases e : a = b
    · subst e
      rcases less_or x y (fun q => h (by rw [q])) with g | g
      · exact Or.inl (Or.inr ⟨rfl, g⟩)
      · exact Or.inr (Or.inr ⟨rfl, g⟩)
    · rcases UInt8.lt_or_lt_of_ne e with g | g
      · exact Or.inl (Or.inl g)
      · exact Or.inr (Or.inl g)
theorem list_inj {a b : ByteArray} (h : a.toList = b.toList) : a = b := by
  rw [ByteArray.toList_eq, ByteArray.toList_eq] at h
  exact ByteArray.ext (Array.toList_inj.1 h)
theorem lt_irrefl (a : ByteArray) : ltB a a = false := less_irrefl _
theorem lt_trans {a b c : ByteArray} (h : ltB a b = true) (h' : ltB b c = true) : ltB a c = true := less_trans _ _ _ h h'
theorem lt_or {a b : ByteArray} (h : a ≠ b) : ltB a b = true ∨ ltB b a = true := less_or _ _ fun e => h (list_inj e)
theorem lt_ne {a b : ByteArray} (h : ltB a b = true) : a ≠ b := fun e => by
  rw [e, lt_irrefl] at h
  cases h
theorem lt_asymm {a b : ByteArray} (h : ltB a b = true) : ltB b a = false := by
  cases e : ltB b a with
  | false => rfl
  | true => exact absurd rfl (lt_ne (lt_trans h e))

/-! Where a name stands; a list's length, if nowhere. -/
section
variable {α : Type} (key : α → ByteArray)
def fnd (l : List α) (s : ByteArray) : Nat := l.findIdx fun x => decide (key x = s)
theorem fnd_le (l : List α) (s : ByteArray) : fnd key l s ≤ l.length := List.findIdx_le_length
variable {key}
theorem fnd_lt {l : List α} {s : ByteArray} : fnd key l s < l.length ↔ ∃ x ∈ l, key x = s := by
  unfold fnd
  rw [List.findIdx_lt_length]
  simp
theorem fnd_key {l : List α} {s : ByteArray} (h : fnd key l s < l.length) : key (l[fnd key l s]'h) = s := by
  have := List.findIdx_getElem (p := fun x => decide (key x = s)) (xs := l) (w := h)
  exact of_decide_eq_true this
theorem fnd_ahead {l : List α} {s : ByteArray} {j : Nat} (h : j < fnd key l s) : key (l[j]'(Nat.lt_of_lt_of_le h (fnd_le key l s))) ≠ s := by
  have := List.not_of_lt_findIdx (p := fun x => decide (key x = s)) (xs := l) h
  exact of_decide_eq_false (by simpa using this)
theorem fnd_hit {l : List α} {s : ByteArray} {k : Nat} (hk : k < l.length) (h : key l[k] = s) (ha : ∀ j (hj : j < k), key (l[j]'(by omega)) ≠ s) : fnd key l s = k := by
  rcases Nat.lt_trichotomy (fnd key l s) k with g | g | g
  · exact absurd (fnd_key (by omega)) (ha _ g)
  · exact g
  · exact absurd h (fnd_ahead g)
theorem fnd_none {l : List α} {s : ByteArray} (h : ∀ x ∈ l, key x ≠ s) : fnd key l s = l.length := by
  rcases Nat.lt_or_ge (fnd key l s) l.length with g | g
  · obtain ⟨x, hx, e⟩ := fnd_lt.1 g
    exact absurd e (h x hx)
  · exact Nat.le_antisymm (fnd_le key l s) g
end
def fT (l : List Tox) (s : ByteArray) : Nat := fnd Tox.s l s
def fP (l : List Prx) (s : ByteArray) : Nat := fnd Prx.s l s

/-! Which may be. -/
def chkP (p : Prx) : Int := if gx.nameB p.s = false then 140 else if p.most < 1 ∨ 16 < p.most then 144 else if 8 < p.ts.length then 143 else if chkL p.ts ≠ 0 then chkL p.ts else if dupB p.ts = true then 141 else 0
/-- In order, by name: no name twice. -/
def Ord (l : List Prx) : Prop := l.Pairwise fun a b => ltB a.s b.s = true
structure Right (l : List Prx) : Prop where
  each : ∀ p ∈ l, chkP p = 0
  ord : Ord l
  few : l.length ≤ 8
theorem chkL_iff (l : List Tox) : chkL l = 0 ↔ ∀ t ∈ l, t.chk = 0 := by
  induction l with
  | nil => exact ⟨fun _ t h => (List.not_mem_nil h).elim, fun _ => rfl⟩
  | cons a r ih =>
    unfold chkL
    split
    · rename_i h
      exact ⟨fun e => absurd e h, fun e => absurd (e a (List.mem_cons_self ..)) h⟩
    · rename_i h
      rw [ih]
      refine ⟨fun e t ht => ?_, fun e t ht => e t (List.mem_cons_of_mem _ ht)⟩
      rcases List.mem_cons.1 ht with rfl | ht
      · exact Decidable.not_not.1 h
      · exact e t ht
theorem dup_iff (l : List Tox) : dupB l = false ↔ (l.map (·.s)).Nodup := by
  unfold dupB
  rw [List.any_eq_false, List.nodup_iff_pairwise_ne, List.pairwise_iff_getElem]
  constructor
  · intro h i j hi hj hij e
    rw [List.length_map] at hi hj
    refine h j (List.mem_range.2 hj) (List.any_eq_true.2 ⟨l[i], ?_, ?_⟩)
    · exact List.mem_take_iff_getElem.2 ⟨i, by omega, rfl⟩
    · refine decide_eq_true ?_
      rw [List.getElem_map, List.getElem_map] at e
      rw [List.getD_eq_getElem?_getD, List.getElem?_eq_getElem hj]
      exact e
  · intro h j hj hh
    have hj := List.mem_range.1 hj
    obtain ⟨x, hx, e⟩ := List.any_eq_true.1 hh
    obtain ⟨i, hi, rfl⟩ := List.mem_take_iff_getElem.1 hx
    have e := of_decide_eq_true e
    rw [List.getD_eq_getElem?_getD, List.getElem?_eq_getElem hj] at e
    have hij : i < j := by omega
    exact h i j (by rw [List.length_map]; omega) (by rw [List.length_map]; exact hj) hij (by rw [List.getElem_map, List.getElem_map]; exact e)
theorem chkP_iff (p : Prx) : chkP p = 0 ↔ gx.nameB p.s = true ∧ 1 ≤ p.most ∧ p.most ≤ 16 ∧ p.ts.length ≤ 8 ∧ (∀ t ∈ p.ts, t.chk = 0) ∧ (p.ts.map (·.s)).Nodup := by
  rw [← chkL_iff, ← dup_iff]
  unfold chkP
  cases hn : gx.nameB p.s with
  | false => simp
  | true =>
    rw [if_neg (by decide)]
    by_cases h1 : p.most < 1 ∨ 16 < p.most
    · rw [if_pos h1]
      exact ⟨fun e => by omega, fun e => by omega⟩
    rw [if_neg h1]
    by_cases h2 : 8 < p.ts.length
    · rw [if_pos h2]
      exact ⟨fun e => by omega, fun e => by omega⟩
    rw [if_neg h2]
    by_cases h3 : chkL p.ts ≠ 0
    · rw [if_pos h3]
      exact ⟨fun e => absurd e h3, fun e => absurd e.2.2.2.2.1 h3⟩
    rw [if_neg h3]
    have h3 : chkL p.ts = 0 := by omega
    cases hd : dupB p.ts with
    | false =>
      rw [if_neg (by decide)]
      exact ⟨fun _ => ⟨rfl, by omega, by omega, by omega, h3, rfl⟩, fun _ => rfl⟩
    | true =>
      rw [if_pos rfl]
      exact ⟨fun e => by omega, fun e => by cases e.2.2.2.2.2⟩

/-! Calls. -/
/-- A list with a proxy more. -/
def putL : List Prx → Prx → List Prx
  | [], p => [p]
  | q :: r, p => if ltB p.s q.s = true then p :: q :: r else q :: putL r p
def addL (l : List Prx) (o : NOp) : List Prx × Int :=
  if gx.nameB o.s = false then (l, 140) else if fP l o.s < l.length then (l, 141) else if o.n < 1 ∨ 16 < o.n then (l, 144) else if 8 ≤ l.length then (l, 143)
  else (putL l ⟨o.s, true, o.n, []⟩, 0)
/-- The name of a toxic that a call means. -/
def toxN (o : NOp) : ByteArray := if o.kind = 4 then o.x else o.t.s
def toxL (l : List Tox) (o : NOp) : List Tox × Int :=
  if o.kind ≠ 4 ∧ o.t.chk ≠ 0 then (l, o.t.chk)
  else
    let k := fT l (toxN o)
    if o.kind = 3 then (if k < l.length then (l, 141) else if 8 ≤ l.length then (l, 143) else (l ++ [o.t], 0))
    else if ¬ k < l.length then (l, 142)
    else if o.kind = 4 then (l.take k ++ l.drop (k + 1), 0)
    else if (l.getD k noTox).k ≠ o.t.k ∨ (l.getD k noTox).up ≠ o.t.up then (l, 91)
    else (l.set k o.t, 0)
/-- .. of a right registry. -/
def doR (l : List Prx) (o : NOp) : List Prx × Int :=
  if o.kind = 0 then addL l o
  else if o.kind = 6 then (l.map fun p => ⟨p.s, true, p.most, []⟩, 0)
  else
    let k := fP l o.s
    if ¬ k < l.length then (l, 142)
    else if o.kind = 1 then (l.take k ++ l.drop (k + 1), 0)
    else if o.kind = 2 then (l.set k { l.getD k noPrx with on := o.on }, 0)
    else (l.set k { l.getD k noPrx with ts := (toxL (l.getD k noPrx).ts o).1 }, (toxL (l.getD k noPrx).ts o).2)
theorem put_mem {l : List Prx} {p x : Prx} : x ∈ putL l p ↔ x = p ∨ x ∈ l := by
  induction l with
  | nil => simp [putL]
  | cons q r ih =>
    unfold putL
    split
    · simp
    · rw [List.mem_cons, ih, List.mem_cons]
      constructor
      · rintro (h | h | h) <;> simp [h]
      · rintro (h | h | h) <;> simp [h]
theorem put_length (l : List Prx) (p : Prx) : (putL l p).length = l.length + 1 := by
  induction l with
  | nil => rfl
  | cons q r ih =>
    unfold putL
    split
    · rfl
    · show (putL r p).length + 1 = _
      rw [ih]
      rfl
theorem put_ord {l : List Prx} {p : Prx} (h : Ord l) (hn : ∀ q ∈ l, q.s ≠ p.s) : Ord (putL l p) := by
  induction l with
  | nil => exact List.pairwise_singleton _ _
  | cons q r ih =>
    obtain ⟨h1, h2⟩ := List.pairwise_cons.1 h
    unfold putL
    split
    · rename_i hlt
      exact List.pairwise_cons.2 ⟨fun x hx => by
        rcases List.mem_cons.1 hx with rfl | hx
        · exact hlt
        · exact lt_trans hlt (h1 x hx), h⟩
    · rename_i hlt
      have hq : ltB q.s p.s = true := by
        rcases lt_or (hn q (List.mem_cons_self ..)) with g | g
        · exact g
        · exact absurd g hlt
      exact List.pairwise_cons.2 ⟨fun x hx => by
        rcases put_mem.1 hx with rfl | hx
        · exact hq
        · exact h1 x hx, ih h2 fun x hx => hn x (List.mem_cons_of_mem _ hx)⟩
theorem ord_names {l l' : List Prx} (h : Ord l) (e : l'.map (·.s) = l.map (·.s)) : Ord l' := by
  unfold Ord at *
  have h1 : (l.map (·.s)).Pairwise fun a b => ltB a b = true := List.pairwise_map.2 h
  rw [← e] at h1
  exact List.pairwise_map.1 h1
theorem out_sub {α : Type} (l : List α) (k : Nat) : (l.take k ++ l.drop (k + 1)).Sublist l := by
  have h : l = l.take k ++ l.drop k := (List.take_append_drop k l).symm
  have h2 : (l.drop (k + 1)).Sublist (l.drop k) := by
    rw [show k + 1 = k + 1 from rfl, ← List.drop_drop]
    exact List.drop_sublist _ _
  have h3 := (List.Sublist.refl (l.take k)).append h2
  rwa [List.take_append_drop] at h3
/-- What a proxy's toxics become may be. -/
theorem tox_right {l : List Tox} {o : NOp} (hl : l.length ≤ 8) (hc : ∀ t ∈ l, t.chk = 0) (hd : (l.map (·.s)).Nodup) : (toxL l o).1.length ≤ 8 ∧ (∀ t ∈ (toxL l o).1, t.chk = 0) ∧ ((toxL l o).1.map (·.s)).Nodup := by
  have same : l.length ≤ 8 ∧ (∀ t ∈ l, t.chk = 0) ∧ (l.map (·.s)).Nodup := ⟨hl, hc, hd⟩
  unfold toxL
  split
  · exact same
  rename_i h0
  dsimp only
  split
  · rename_i h3
    split
    · exact same
    rename_i hk
    split
    · exact same
    rename_i h8
    have hN : toxN o = o.t.s := if_neg (by omega)
    rw [hN] at hk
    have hck : o.t.chk = 0 := by
      rcases Decidable.em (o.t.chk = 0) with e | e
      · exact e
      · exact absurd ⟨by omega, e⟩ h0
    refine ⟨by simp; omega, fun t ht => ?_, ?_⟩
    · rcases List.mem_append.1 ht with h | h
      · exact hc t h
      · rw [List.mem_singleton.1 h]
        exact hck
    · rw [List.map_append, List.nodup_append]
      refine ⟨hd, by simp, fun a ha b hb e => ?_⟩
      obtain ⟨t, ht, rfl⟩ := List.mem_map.1 ha
      have hb : b = o.t.s := by simpa using hb
      exact hk (fnd_lt.2 ⟨t, ht, by rw [e, hb]⟩)
  split
  · exact same
  rename_i hk
  have hk := Decidable.not_not.1 hk
  split
  · refine ⟨by rw [List.length_append, List.length_take, List.length_drop]; omega, fun t ht => hc t ((out_sub l _).subset ht), ?_⟩
    exact hd.sublist ((out_sub l _).map _)
  rename_i h4
  split
  · exact same
  have hck : o.t.chk = 0 := by
    rcases Decidable.em (o.t.chk = 0) with e | e
    · exact e
    · exact absurd ⟨h4, e⟩ h0
  have hN : toxN o = o.t.s := if_neg h4
  rw [hN] at hk ⊢
  refine ⟨by rw [List.length_set]; exact hl, fun t ht => ?_, ?_⟩
  · rcases List.mem_or_eq_of_mem_set ht with h | h
    · exact hc t h
    · rw [h]
      exact hck
  · have e : (l.set (fT l o.t.s) o.t).map (·.s) = l.map (·.s) := by
      rw [List.map_set]
      refine List.ext_getElem (by simp) fun j h1 h2 => ?_
      rw [List.getElem_set]
      split
      · rename_i e
        subst e
        rw [List.getElem_map]
        exact (fnd_key hk).symm
      · rfl
    rw [e]
    exact hd
/-- A registry stays right. -/
theorem do_right {l : List Prx} (h : Right l) (o : NOp) : Right (doR l o).1 := by
  have upd : ∀ (k : Nat) (p : Prx), k < l.length → chkP p = 0 → p.s = (l.getD k noPrx).s → Right (l.set k p) := fun k p hk hp hs => by
    refine ⟨fun q hq => ?_, ord_names h.ord ?_, by rw [List.length_set]; exact h.few⟩
    · rcases List.mem_or_eq_of_mem_set hq with g | g
      · exact h.each q g
      · rw [g]
        exact hp
    · rw [List.map_set]
      refine List.ext_getElem (by simp) fun j h1 h2 => ?_
      rw [List.getElem_set]
      split
      · rename_i e
        subst e
        rw [List.getElem_map, hs, List.getD_eq_getElem?_getD, List.getElem?_eq_getElem hk]
        rfl
      · rfl
  have hmem : ∀ k, k < l.length → chkP (l.getD k noPrx) = 0 := fun k hk => h.each _ (by rw [List.getD_eq_getElem?_getD, List.getElem?_eq_getElem hk]; exact List.getElem_mem hk)
  unfold doR
  split
  · unfold addL
    split
    · exact h
    rename_i hn
    split
    · exact h
    rename_i hf
    split
    · exact h
    rename_i hm
    split
    · exact h
    rename_i h8
    refine ⟨fun q hq => ?_, put_ord h.ord fun q hq e => hf (fnd_lt.2 ⟨q, hq, e⟩), by rw [put_length]; omega⟩
    rcases put_mem.1 hq with rfl | g
    · refine (chkP_iff _).2 ⟨by simpa using hn, by show 1 ≤ o.n; omega, by show o.n ≤ 16; omega, by simp, fun t ht => (List.not_mem_nil ht).elim, List.nodup_nil⟩
    · exact h.each q g
  split
  · refine ⟨fun q hq => ?_, ord_names h.ord (by rw [List.map_map]; rfl), by rw [List.length_map]; exact h.few⟩
    obtain ⟨p, hp, rfl⟩ := List.mem_map.1 hq
    obtain ⟨a, b, c, _⟩ := (chkP_iff p).1 (h.each p hp)
    exact (chkP_iff _).2 ⟨a, b, c, by simp, fun t ht => (List.not_mem_nil ht).elim, List.nodup_nil⟩
  dsimp only
  split
  · exact h
  rename_i hk
  have hk := Decidable.not_not.1 hk
  split
  · exact ⟨fun q hq => h.each q ((out_sub l _).subset hq), h.ord.sublist (out_sub l _), by rw [List.length_append, List.length_take, List.length_drop]; have := h.few; omega⟩
  split
  · refine upd _ _ hk ?_ rfl
    exact (chkP_iff _).2 ((chkP_iff _).1 (hmem _ hk))
  · refine upd _ _ hk ?_ rfl
    obtain ⟨a, b, c, d, e, f⟩ := (chkP_iff _).1 (hmem _ hk)
    obtain ⟨x, y, z⟩ := tox_right (o := o) d e f
    exact (chkP_iff _).2 ⟨a, b, c, x, y, z⟩
end Nm
end Go.Proofs.YtmghkcjljnlocaaGreatDoor
