/-
  A stage as mathematics: what each call makes of it, and answers. Conditions: none.
  A stage's calls as mathematics: no byte is lost, none comes twice. Conditions: none.
  Slices that lie anywhere in a block of the call's own: cut, and appended to. Conditions: as each states.
-/
import Derived.Test.YtfdfgnmgpgkknaaMZ1
import Derived.Test.YtfdfgnmgpgkknaaMZ4
import Derived.Test.YtfdfgnmgpgkknaaMZ5
import Derived.ArgAppend
import Derived.Deep.Upon
namespace Go.Proofs.Ytfdfgnmgpgkknaa
open Go.RowKit

/-- A toxic. -/
structure Tox where
  s : ByteArray
  k : Int
  up : Bool
  o : Int
  a : Int
  b : Int
deriving DecidableEq
def noTox : Tox := ⟨⟨#[]⟩, 0, false, 0, 0, 0⟩
def Tox.chk (t : Tox) : Int := gx.checkB t.s t.k t.o t.a t.b
/-- A bucket. -/
structure Bkt where
  r : Int
  u : Int
  l : Int
  t : Int
/-- A stage: all that it has. -/
structure St where
  tx : Tox
  d : Int
  bk : Bkt
  S : ByteArray
  A : List Int
  last : Int
  room : Int
  began : Int
  clock : Int
  pause : Int
  passed : Int
  closed : Bool
  at' : Int
  st : Int
def addT (a b : Int) : Int := gb.near (gb.near a + gb.near b)
/-- The clock, told a tick. -/
def tickS (c now : Int) : Int := if c < gb.near now then gb.near now else c
/-- What it is, at that clock. -/
def stateS (s : St) (c : Int) : Int :=
  if s.st ≠ 0 then s.st
  else if s.tx.k = 5 ∧ addT s.began s.tx.a ≤ c then 2
  else if s.tx.k = 4 then (if addT s.began s.tx.a ≤ c then 1 else 0)
  else if s.tx.k = 6 ∧ s.tx.a ≤ s.passed then 1
  else if s.closed = true ∧ s.S.size = 0 ∧ (s.tx.k ≠ 7 ∨ addT s.at' s.tx.a ≤ c) then 1 else 0
def lookS (s : St) (now : Int) : St := { s with clock := tickS s.clock now, st := stateS s (tickS s.clock now) }
/-- Bytes are put, ready at a tick. -/
def putS (s : St) (at' : Int) (b : ByteArray) : St := { s with S := s.S ++ b, A := s.A ++ List.replicate b.size (gc.putT s.last at'), last := gc.putT s.last at' }
def forceS (s : St) (b : ByteArray) : St :=
  if b.size = 0 then s
  else if s.tx.k = 1 then putS { s with d := gd.rangeS s.d (s.tx.a - s.tx.b) (s.tx.a + s.tx.b) } (addT s.clock (gd.rangeV s.d (s.tx.a - s.tx.b) (s.tx.a + s.tx.b))) b
  else putS s s.clock b
def freeS (s : St) : Int := if s.room < s.S.size then 0 else s.room - s.S.size
/-- How many of so many bytes it gives. -/
def giveS (s : St) (n : Int) : St × Int :=
  if s.tx.k = 2 then
    let l := gb.fillL s.bk.r s.bk.u s.bk.l s.bk.t s.clock
    ({ s with bk := ⟨s.bk.r, s.bk.u, l - gb.takeB l n, gb.fillT s.bk.r s.bk.u s.bk.l s.bk.t s.clock⟩ }, gb.takeB l n)
  else if s.tx.k = 3 then
    if n = 0 ∨ s.clock < s.pause then (s, 0)
    else ({ s with d := gd.stepZ s.d, pause := addT s.clock s.tx.b }, if gd.takeZ s.d s.tx.a + 1 < n then gd.takeZ s.d s.tx.a + 1 else n)
  else if s.tx.k = 4 then (s, 0)
  else if s.tx.k = 6 ∧ s.tx.a - s.passed < n then (s, s.tx.a - s.passed)
  else (s, n)
/-- So many bytes are taken away. -/
def cutS (s : St) (K : Nat) : St := { s with S := s.S.extract K s.S.size, A := s.A.drop K, passed := s.passed + K }
def takeS (s : St) (now most : Int) : St × ByteArray :=
  let s1 := lookS s now
  if s1.st ≠ 0 ∨ most < 1 then (s1, ⟨#[]⟩)
  else
    let n : Int := if most < gc.readyN s1.A s1.clock then most else gc.readyN s1.A s1.clock
    let g := giveS s1 n
    let K := gc.takeK s1.A s1.clock g.2
    (cutS g.1 K, s1.S.extract 0 K)
def closeS (s : St) (now : Int) : St :=
  if s.closed = true then { s with clock := tickS s.clock now } else { s with clock := tickS s.clock now, closed := true, at' := tickS s.clock now }
/-- A bucket, changed. -/
def chgB (k : Bkt) (r u now : Int) : Bkt :=
  let l := gb.fillL k.r k.u k.l k.t now
  ⟨r, u, if u < l then u else l, gb.fillT k.r k.u k.l k.t now⟩
def updS (s : St) (t : Tox) (now : Int) : St × Int :=
  if t.k ≠ s.tx.k then (s, 91) else if t.k = 0 then (s, 0) else if t.chk ≠ 0 then (s, t.chk)
  else
    let s1 := lookS s now
    ({ s1 with tx := t, bk := if t.k = 2 then chgB s1.bk t.a t.b s1.clock else s1.bk }, 0)
def drainS (s : St) : St × ByteArray := ({ s with S := ⟨#[]⟩, A := [] }, s.S)
/-- A call. -/
structure Op where
  kind : Int
  now : Int
  n : Int
  s : ByteArray
  t : Tox
/-- An answer. -/
structure Ans where
  n : Int
  s : ByteArray
  e : Int
def noAns : Ans := ⟨0, ⟨#[]⟩, 0⟩
def bringS (s : St) (now : Int) (b : ByteArray) : St × Int :=
  let s1 := lookS s now
  if s1.st ≠ 0 ∨ s1.closed = true then (s1, 0)
  else
    let n : Int := if freeS s1 < b.size then freeS s1 else b.size
    (forceS s1 (b.extract 0 n.toNat), n)
def pushS (s : St) (now : Int) (b : ByteArray) : St :=
  let s1 := lookS s now
  if s1.st ≠ 0 then s1 else forceS s1 b
def doS (s : St) (o : Op) : St × Ans :=
  if o.kind = 0 then ((bringS s o.now o.s).1, ⟨(bringS s o.now o.s).2, ⟨#[]⟩, 0⟩)
  else if o.kind = 1 then (pushS s o.now o.s, noAns)
  else if o.kind = 2 then ((takeS s o.now o.n).1, ⟨0, (takeS s o.now o.n).2, 0⟩)
  else if o.kind = 3 then (closeS s o.now, noAns)
  else if o.kind = 4 then (lookS s o.now, ⟨(lookS s o.now).st, ⟨#[]⟩, 0⟩)
  else if o.kind = 5 then ((updS s o.t o.now).1, ⟨0, ⟨#[]⟩, (updS s o.t o.now).2⟩)
  else if o.kind = 6 then ((drainS s).1, ⟨0, (drainS s).2, 0⟩)
  else (s, noAns)
/-- A new stage. -/
def newS (t : Tox) (seed room now : Int) : St :=
  ⟨t, seed, if t.k = 2 then ⟨t.a, t.b, t.b, gb.near now⟩ else ⟨0, 0, 0, 0⟩, ⟨#[]⟩, [], 0, room, gb.near now, gb.near now, 0, 0, false, 0, 0⟩
def newE (t : Tox) (room : Int) : Int := if t ≠ noTox ∧ t.chk ≠ 0 then t.chk else if room < 1 ∨ 4096 < room then 1 else 0

/-! What stays as it is. -/
theorem tick_tick (c now : Int) : tickS (tickS c now) now = tickS c now := by
  unfold tickS
  by_cases h : c < gb.near now
  · rw [if_pos h, if_neg (by omega)]
  · rw [if_neg h, if_neg h]
theorem state_of (s : St) (c : Int) (h : s.st ≠ 0) : stateS s c = s.st := by unfold stateS; rw [if_pos h]
theorem state_open {s : St} {c : Int} (h : stateS s c = 0) : s.st = 0 := by
  by_cases h0 : s.st = 0
  · exact h0
  · rw [state_of s c h0] at h
    exact absurd h h0
theorem state_state (s : St) (c c' : Int) : stateS { s with clock := c', st := stateS s c } c = stateS s c := by
  obtain ⟨X, hX⟩ : ∃ X, stateS s c = X := ⟨_, rfl⟩
  rw [hX]
  by_cases h : X = 0
  · subst h
    have hs := state_open hX
    refine Eq.trans ?_ hX
    unfold stateS
    simp only [hs]
  · exact state_of { s with clock := c', st := X } c h
theorem look_look (s : St) (now : Int) : lookS (lookS s now) now = lookS s now := by
  have h := state_state s (tickS s.clock now) (tickS s.clock now)
  unfold lookS
  simp only [tick_tick]
  rw [h]
theorem extract_all (b : ByteArray) : b.extract 0 b.size = b := by simp
theorem extract_cut (b : ByteArray) (K : Nat) : b.extract 0 K ++ b.extract K b.size = b := by
  rw [ByteArray.extract_append_extract]
  simp
theorem force_S (s : St) (b : ByteArray) : (forceS s b).S = s.S ++ b := by
  unfold forceS
  by_cases h : b.size = 0
  · rw [if_pos h]
    have : b = ⟨#[]⟩ := ByteArray.ext (Array.eq_empty_of_size_eq_zero h)
    rw [this]
    exact (ByteArray.append_empty).symm
  · rw [if_neg h]
    split <;> rfl
end Go.Proofs.Ytfdfgnmgpgkknaa
namespace Go.Proofs.Ytfdfgnmgpgkknaa
open Go.RowKit

theorem cat_none (a : ByteArray) : a ++ (⟨#[]⟩ : ByteArray) = a := ByteArray.append_empty
theorem none_cat (a : ByteArray) : (⟨#[]⟩ : ByteArray) ++ a = a := ByteArray.empty_append
theorem extract_none (a : ByteArray) : a.extract 0 0 = ⟨#[]⟩ := by
  apply ByteArray.ext
  apply Array.eq_empty_of_size_eq_zero
  have : (a.extract 0 0).size = 0 := by rw [ByteArray.size_extract]; omega
  exact this
theorem free_pos (s : St) : 0 ≤ freeS s := by unfold freeS; split <;> omega
/-- What a call puts. -/
def inS (s : St) (o : Op) : ByteArray :=
  if o.kind = 0 then o.s.extract 0 (doS (lookS s o.now) o).2.n.toNat
  else if o.kind = 1 ∧ (lookS s o.now).st = 0 then o.s else ⟨#[]⟩
theorem give_keeps (s : St) (n : Int) : (giveS s n).1.S = s.S ∧ (giveS s n).1.A = s.A ∧ (giveS s n).1.last = s.last ∧ (giveS s n).1.clock = s.clock ∧ (giveS s n).1.tx = s.tx ∧ (giveS s n).1.passed = s.passed ∧ (giveS s n).1.began = s.began ∧ (giveS s n).1.st = s.st ∧ (giveS s n).1.closed = s.closed ∧ (giveS s n).1.room = s.room := by
  unfold giveS
  (repeat' split) <;> refine ⟨rfl, rfl, rfl, rfl, rfl, rfl, rfl, rfl, rfl, rfl⟩
theorem take_S (s : St) (now most : Int) : (takeS s now most).2 ++ (takeS s now most).1.S = s.S := by
  unfold takeS
  dsimp only
  split
  · exact none_cat _
  · show _ ++ (giveS _ _).1.S.extract _ (giveS _ _).1.S.size = _
    rw [(give_keeps _ _).1]
    exact extract_cut _ _
theorem bring_n (s : St) (now : Int) (b : ByteArray) : 0 ≤ (bringS s now b).2 ∧ (bringS s now b).2 ≤ b.size := by
  unfold bringS
  dsimp only
  have := free_pos (lookS s now)
  split
  · exact ⟨Int.le_refl _, by show (0 : Int) ≤ _; omega⟩
  · dsimp only
    split <;> omega
theorem bring_S (s : St) (now : Int) (b : ByteArray) : (bringS s now b).1.S = s.S ++ b.extract 0 (bringS s now b).2.toNat := by
  unfold bringS
  dsimp only
  split
  · show s.S = _
    rw [show ((0 : Int).toNat) = 0 from rfl, extract_none, cat_none]
  · exact force_S _ _
theorem push_S (s : St) (now : Int) (b : ByteArray) : (pushS s now b).S = s.S ++ (if (lookS s now).st = 0 then b else ⟨#[]⟩) := by
  unfold pushS
  dsimp only
  by_cases h : (lookS s now).st = 0
  · rw [if_neg (by simpa using h), if_pos h]
    exact force_S _ _
  · rw [if_pos h, if_neg h, cat_none]
    rfl
theorem upd_S (s : St) (t : Tox) (now : Int) : (updS s t now).1.S = s.S := by
  unfold updS
  (repeat' split) <;> rfl
theorem close_S (s : St) (now : Int) : (closeS s now).S = s.S := by
  unfold closeS
  split <;> rfl
/-- The answer of a Put. -/
theorem do_n (s : St) (o : Op) (h : o.kind = 0) : 0 ≤ (doS s o).2.n ∧ (doS s o).2.n ≤ o.s.size := by
  unfold doS
  rw [if_pos h]
  exact bring_n _ _ _
/-- No byte is lost, none comes twice. -/
theorem do_keeps (s : St) (o : Op) : (doS (lookS s o.now) o).2.s ++ (doS (lookS s o.now) o).1.S = s.S ++ inS s o := by
  by_cases h0 : o.kind = 0
  · have hn : inS s o = o.s.extract 0 (doS (lookS s o.now) o).2.n.toNat := by unfold inS; rw [if_pos h0]
    rw [hn]
    unfold doS
    rw [if_pos h0]
    show (⟨#[]⟩ : ByteArray) ++ _ = _
    rw [none_cat]
    exact bring_S _ _ _
  by_cases h1 : o.kind = 1
  · have hn : inS s o = if (lookS s o.now).st = 0 then o.s else ⟨#[]⟩ := by
      unfold inS
      rw [if_neg h0]
      by_cases hs : (lookS s o.now).st = 0
      · rw [if_pos ⟨h1, hs⟩, if_pos hs]
      · rw [if_neg (fun h => hs h.2), if_neg hs]
    rw [hn]
    unfold doS
    rw [if_neg h0, if_pos h1]
    show (⟨#[]⟩ : ByteArray) ++ _ = _
    rw [none_cat]
    show (pushS (lookS s o.now) o.now o.s).S = _
    rw [push_S, look_look]
    rfl
  have hn : inS s o = ⟨#[]⟩ := by
    unfold inS
    rw [if_neg h0, if_neg (fun h => h1 h.1)]
  rw [hn, cat_none]
  unfold doS
  rw [if_neg h0, if_neg h1]
  by_cases h2 : o.kind = 2
  · rw [if_pos h2]
    exact take_S _ _ _
  rw [if_neg h2]
  by_cases h3 : o.kind = 3
  · rw [if_pos h3]
    show (⟨#[]⟩ : ByteArray) ++ (closeS _ _).S = _
    rw [none_cat, close_S]
    rfl
  rw [if_neg h3]
  by_cases h4 : o.kind = 4
  · rw [if_pos h4]
    exact none_cat _
  rw [if_neg h4]
  by_cases h5 : o.kind = 5
  · rw [if_pos h5]
    show (⟨#[]⟩ : ByteArray) ++ (updS _ _ _).1.S = _
    rw [none_cat, upd_S]
    rfl
  rw [if_neg h5]
  by_cases h6 : o.kind = 6
  · rw [if_pos h6]
    exact cat_none _
  rw [if_neg h6]
  exact none_cat _
end Go.Proofs.Ytfdfgnmgpgkknaa
namespace Go.Proofs.Ytfdfgnmgpgkknaa.gc
open Go.RowKit

/-- A slice that lies anywhere in a block of the call's own. -/
structure ORow (w : World) (base T K : Nat) (p : Option Addr) (n c : Nat) (zs : List Value) : Prop where
  len : zs.length = n * K
  cap : n ≤ c
  max : c ≤ maxLen
  non : p = none → c = 0
  som : ∀ a, p = some a → ∃ b o cur, a = ⟨b, o, none⟩ ∧ base ≤ b ∧ w.heap[b]? = some (.cells cur T (0, 0)) ∧ o + c * K ≤ cur.size ∧ ∀ j v, zs[j]? = some v → cur[o + j]? = some v
theorem orow_nil (w : World) (base T K : Nat) : ORow w base T K none 0 0 [] := ⟨by simp, Nat.le_refl _, Nat.zero_le _, fun _ => rfl, fun _ h => by cases h⟩
section
variable {w w' : World} {base T K n c : Nat} {p : Option Addr} {zs : List Value}
theorem ORow.lt (h : ORow w base T K p n c zs) : ∀ a, p = some a → base ≤ a.block ∧ a.block < w.heap.size := fun a e => by
  obtain ⟨b, o, cur, rfl, hb, hh, _⟩ := h.som a e
  exact ⟨hb, blk_lt hh⟩
theorem ORow.keep (h : ORow w base T K p n c zs) (hk : ∀ a, p = some a → w'.heap[a.block]? = w.heap[a.block]?) : ORow w' base T K p n c zs :=
  ⟨h.len, h.cap, h.max, h.non, fun a e => by
    obtain ⟨b, o, cur, rfl, hb, hh, hc⟩ := h.som a e
    exact ⟨b, o, cur, rfl, hb, (hk _ e).trans hh, hc⟩⟩
theorem ORow.on (h : ORow w base T K p n c zs) (hb : Below w.heap.size w w') : ORow w' base T K p n c zs := h.keep fun a e => hb.block _ (h.lt a e).2
theorem ORow.typed (h : ORow w base T K p n c zs) : ∀ a, p = some a → ∃ cur, w.heap[a.block]? = some (.cells cur T (0, 0)) := fun a e => by
  obtain ⟨b, o, cur, rfl, _, hh, _⟩ := h.som a e
  exact ⟨cur, hh⟩
/-- A store into a block of another kind. -/
theorem ORow.other (h : ORow w base T K p n c zs) {g : Nat} {cs : Array Value} {T' : TypeId} {fr : Nat × Nat} (hg : w.heap[g]? = some (.cells cs T' fr)) (hT : T' ≠ T) (hw : ∀ k, k ≠ g → w'.heap[k]? = w.heap[k]?) : ORow w' base T K p n c zs :=
  h.keep fun a e => hw _ fun eg => by
    obtain ⟨cur, hh⟩ := h.typed a e
    rw [eg, hg] at hh
    injection hh with hh
    injection hh with _ hT2
    exact hT hT2
theorem ORow.set (h : ORow w base T K p n c zs) {g : Nat} {cs : Array Value} {T' : TypeId} {fr : Nat × Nat} (hg : w.heap[g]? = some (.cells cs T' fr)) (hT : T' ≠ T) (i : Nat) (v : Value) : ORow (w.setCell ⟨g, i, none⟩ v) base T K p n c zs :=
  h.other hg hT fun _ hk => Below.heap_setCell _ _ _ _ hk
theorem ORow.at (h : ORow w base T K p n c zs) (hn : 0 < n) : ∃ b o, p = some ⟨b, o, none⟩ ∧ ∀ j v, zs[j]? = some v → w.cell? ⟨b, o + j, none⟩ = some v := by
  cases p with
  | none => have := h.non rfl; have := h.cap; omega
  | some a =>
    obtain ⟨b, o, cur, rfl, _, hh, _, hc⟩ := h.som a rfl
    exact ⟨b, o, rfl, fun j v hj => by simp only [World.cell?, hh]; exact hc j v hj⟩
theorem ORow.take (h : ORow w base T K p n c zs) (m : Nat) (hm : m ≤ n) : ORow w base T K p m c (zs.take (m * K)) := by
  have h1 : m * K ≤ n * K := Nat.mul_le_mul_right K hm
  refine ⟨by rw [List.length_take, h.len]; omega, Nat.le_trans hm h.cap, h.max, h.non, fun a e => ?_⟩
  obtain ⟨b, o, cur, rfl, hb, hh, hs, hc⟩ := h.som a e
  refine ⟨b, o, cur, rfl, hb, hh, hs, fun j v hj => hc j v ?_⟩
  rw [List.getElem?_take] at hj
  split at hj
  · exact hj
  · cases hj
theorem ORow.drop (h : ORow w base T K p n c zs) (m : Nat) (hm : m ≤ n) : ORow w base T K (if c = m then p else p.map (·.add (m * K))) (n - m) (c - m) (zs.drop (m * K)) := by
  have hmc := Nat.le_trans hm h.cap
  have h1 : (n - m) * K = n * K - m * K := Nat.sub_mul n m K
  have h2 : (c - m) * K = c * K - m * K := Nat.sub_mul c m K
  have h3 : m * K ≤ c * K := Nat.mul_le_mul_right K hmc
  refine ⟨by rw [List.length_drop, h.len, h1], by have := h.cap; omega, Nat.le_trans (Nat.sub_le _ _) h.max, fun e => ?_, fun a e => ?_⟩
  · by_cases hc : c = m
    · omega
    · rw [if_neg hc] at e
      cases p with
      | none => rw [h.non rfl]; omega
      | some a => cases e
  · by_cases hc : c = m
    · rw [if_pos hc] at e
      obtain ⟨b, o, cur, rfl, hb, hh, hs, hc'⟩ := h.som a e
      refine ⟨b, o, cur, rfl, hb, hh, by rw [hc, Nat.sub_self, Nat.zero_mul]; omega, fun j v hj => ?_⟩
      rw [List.drop_eq_nil_of_le (by rw [h.len, show n = m by have := h.cap; omega]; exact Nat.le_refl _)] at hj
      cases hj
    · rw [if_neg hc] at e
      cases p with
      | none => cases e
      | some a' =>
        obtain ⟨b, o, cur, rfl, hb, hh, hs, hc'⟩ := h.som a' rfl
        rw [Option.map_some, WideShapes.add_plain] at e
        cases e
        refine ⟨b, o + m * K, cur, rfl, hb, hh, by omega, fun j v hj => ?_⟩
        rw [List.getElem?_drop] at hj
        rw [Nat.add_assoc]
        exact hc' _ v hj
end
/-- A row of the call's own that was just made. -/
theorem orow_of_own {w : World} {base T K n d : Nat} {q : Option Addr} {zs : List Value} (h : w.ownsRow base T K (.slice q n d) n zs) : ORow w base T K q n d zs := by
  obtain ⟨hl, ⟨e, h0⟩ | ⟨g, cap, cur, e, hb, hh, h1, h2, h3, h4⟩⟩ := h
  · cases e
    exact ⟨hl, Nat.le_refl _, Nat.zero_le _, fun _ => rfl, fun _ h => by cases h⟩
  · cases e
    refine ⟨hl, h1, h2, (fun e => by cases e), fun a e => ?_⟩
    cases e
    refine ⟨g, 0, cur, rfl, hb, hh, by omega, fun j v hj => ?_⟩
    rw [← h4, List.getElem?_take] at hj
    split at hj
    · rw [Nat.zero_add]; simpa using hj
    · cases hj
theorem own_slice {w : World} {base T K n : Nat} {v : Value} {zs : List Value} (h : w.ownsRow base T K v n zs) : ∃ q d, v = .slice q n d ∧ ∀ a, q = some a → base ≤ a.block ∧ a.block < w.heap.size := by
  obtain ⟨hl, ⟨rfl, rfl⟩ | ⟨g, cap, cur, rfl, hb, hh, h1, h2, h3, h4⟩⟩ := h
  · exact ⟨none, 0, rfl, fun _ h => by cases h⟩
  · exact ⟨_, cap, rfl, fun a e => by cases e; exact ⟨hb, blk_lt hh⟩⟩
theorem setCells_blk {b : Nat} {T : TypeId} {fr : Nat × Nat} (vs : List Value) : ∀ (o : Nat) (w : World) (cur : Array Value), w.heap[b]? = some (.cells cur T fr) → ∃ cur' : Array Value, (w.setCells b o vs).heap[b]? = some (.cells cur' T fr) ∧ cur'.size = cur.size := by
  induction vs with
  | nil => exact fun o w cur h => ⟨cur, h, rfl⟩
  | cons v r ih =>
    intro o w cur h
    obtain ⟨cur', h1, h2⟩ := ih (o + 1) (w.setCell ⟨b, o, none⟩ v) _ (set_heap h v)
    exact ⟨cur', h1, by simpa using h2⟩
theorem setCells_grown (w : World) (b o : Nat) (vs : List Value) : w.grownBy (w.setCells b o vs) (some b) := by
  have hs : ∀ (vs : List Value) (o : Nat) (w : World), (w.setCells b o vs).tape = w.tape ∧ (w.setCells b o vs).heap.size = w.heap.size := by
    intro vs
    induction vs with
    | nil => exact fun _ _ => ⟨rfl, rfl⟩
    | cons v r ih => exact fun o w => ⟨(ih (o + 1) _).1, (ih (o + 1) _).2.trans (by simp [World.setCell])⟩
  exact ⟨World.os_setCells w b o vs, (hs vs o w).1, World.output_setCells w b o vs, Nat.le_of_eq (hs vs o w).2.symm, fun k hk hne => World.heap_setCells_other w b o vs hk fun e => hne (by rw [e])⟩
/-- One more run of cells behind such a slice: in its own block, where there is room, else in a new one. -/
theorem app_row {w : World} {base T K n c : Nat} {p : Option Addr} {zs : List Value} (ho : ORow w base T K p n c zs) (hbase : base ≤ w.heap.size) {t : TypeId} {i0 : TypeInfo} {z : Value} {by0 : Nat} (ht : Try.prog.underlying t = some (.slice T)) (hi : Try.prog.info? T = some i0) (hz : i0.zero = some z)
    (h1 : i0.size = K) (h2 : i0.bytes = by0) (h3 : z.cells.size = K) (hK : 0 < K) {a : Addr} {m d : Nat} {news : List Value} (hl : news.length = m * K) (hnews : ∀ j u, news[j]? = some u → w.cell? (a.add j) = some u) (hone : ∀ u ∈ news, u.oneCell' = true)
    (hmax : n + m ≤ maxLen) (hbytes : (n + m) * by0 ≤ 140737488355328) :
    ∃ q e w', (∀ ty, (Builtin.append_ #[t, t] ty #[.slice p n c, .slice (some a) m d]).run Try.prog w = .ok (.slice q (n + m) e) w') ∧ ORow w' base T K q (n + m) e (zs ++ news) ∧ w.grownBy w' (p.map (·.block)) ∧ ∀ x, q = some x → p.map (·.block) = some x.block ∨ w.heap.size ≤ x.block := by
  cases p with
  | none =>
    obtain rfl : c = 0 := ho.non rfl
    obtain rfl : n = 0 := by have := ho.cap; omega
    obtain rfl : zs = [] := List.eq_nil_of_length_eq_zero (by rw [ho.len, Nat.zero_mul])
    obtain ⟨v', w', r1, r2, r3, _⟩ := run_append_own w w.heap.size t 0 T i0 z K by0 ht hi hz h1 h2 h3 hK (.slice none 0 0) 0 [] (World.ownsRow_nil _ _ _ _) a m d news hl hnews hone hmax hbytes (Nat.le_refl _)
    obtain ⟨q, e, rfl, hq⟩ := own_slice r2
    refine ⟨q, e, w', fun ty => ?_, orow_of_own (own_low r2 hbase), r3, fun x hx => Or.inr (hq x hx).1⟩
    rw [← r1]
    rfl
  | some a0 =>
    obtain ⟨b, o, cur, rfl, hb, hh, hs, hc⟩ := ho.som a0 rfl
    have hlen : (zs ++ news).length = (n + m) * K := by rw [List.length_append, ho.len, hl, Nat.add_mul]
    by_cases hroom : n + m ≤ c
    · have hfit : (n + m) * K ≤ c * K := Nat.mul_le_mul_right K hroom
      have hfit2 : o + n * K + news.length ≤ cur.size := by rw [hl]; rw [Nat.add_mul] at hfit; omega
      have hcell : ∀ j, j < news.length → (w.cell? ⟨b, o + n * K + j, none⟩).isSome = true := fun j hj => by
        simp only [World.cell?, hh]
        rw [Array.getElem?_eq_getElem (by omega)]
        rfl
      have hfro : ∀ j, j < news.length → w.frozen? ⟨b, o + n * K + j, none⟩ = false := fun j hj => frozen_at hh
      subst h1
      have hr := fun ty => run_append_room_cells (P := Try.prog) w t ty T i0 ht hi b o n c a m d news hl hnews hone hroom hcell hfro
      obtain ⟨cur', hh', hs'⟩ := setCells_blk news (o + n * i0.size) w cur hh
      refine ⟨_, c, _, hr, ⟨hlen, hroom, ho.max, (fun e => by cases e), fun x e => ?_⟩, setCells_grown _ _ _ _, fun x e => Or.inl (by cases e; rfl)⟩
      cases e
      refine ⟨b, o, cur', rfl, hb, hh', by omega, fun j v hj => ?_⟩
      have key : (w.setCells b (o + n * i0.size) news).cell? ⟨b, o + j, none⟩ = some v := by
        rcases Nat.lt_or_ge j (n * i0.size) with hjn | hjn
        · rw [World.cell?_setCells_out _ _ _ _ _ (fun _ _ => Or.inl (by show o + j < o + n * i0.size; omega))]
          rw [List.getElem?_append_left (by rw [ho.len]; exact hjn)] at hj
          simp only [World.cell?, hh]
          exact hc j v hj
        · rw [List.getElem?_append_right (by rw [ho.len]; exact hjn), ho.len] at hj
          have hjl := (List.getElem?_eq_some_iff.1 hj).1
          have := World.cell?_setCells_in b news (o + n * i0.size) w hcell (j - n * i0.size) hjl
          rw [show o + n * i0.size + (j - n * i0.size) = o + j by omega] at this
          rw [this, ← hj, List.getElem?_eq_getElem hjl]
      simp only [World.cell?, hh'] at key
      exact key
    · obtain ⟨v', w', r1, r2, r3⟩ := run_append_arg_grows w t 0 T i0 z K by0 ht hi hz h1 h2 h3 hK ⟨b, o, none⟩ n c zs ho.len (fun j u hj => by rw [WideShapes.add_plain]; simp only [World.cell?, hh]; exact hc j u hj) a m d news hl hnews (by omega) hmax hbytes
      obtain ⟨q, e, rfl, hq⟩ := own_slice r2
      refine ⟨q, e, w', fun ty => ?_, orow_of_own (own_low r2 hbase), ⟨r3.os, r3.tape, r3.output, r3.size, fun k hk _ => r3.block k hk (by simp)⟩, fun x hx => Or.inr (hq x hx).1⟩
      rw [← r1]
      rfl
end Go.Proofs.Ytfdfgnmgpgkknaa.gc
