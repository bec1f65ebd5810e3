/-
  Toxics and proxies in memory, and the document's search among them. Conditions: as each states.
-/
import Derived.Test.YtmghkcjljnlocaaGreatDoorNC
import Derived.Lib.Hide
namespace Go.Proofs.YtmghkcjljnlocaaGreatDoor
open Go.RowKit
def ToxIn (w : World) (p : Option Addr) (n : Nat) (l : List Tox) : Prop := 0 < n → ∃ b o, p = some ⟨b, o, none⟩ ∧ ∀ i, i < n →
  w.cell? ⟨b, o + i * 6, none⟩ = some (.string (l.getD i noTox).s) ∧ w.cell? ⟨b, o + (i * 6 + 1), none⟩ = some (.int .i64 (l.getD i noTox).k) ∧ w.cell? ⟨b, o + (i * 6 + 2), none⟩ = some (.bool (l.getD i noTox).up) ∧ w.cell? ⟨b, o + (i * 6 + 3), none⟩ = some (.int .i64 (l.getD i noTox).o) ∧ w.cell? ⟨b, o + (i * 6 + 4), none⟩ = some (.int .i64 (l.getD i noTox).a) ∧ w.cell? ⟨b, o + (i * 6 + 5), none⟩ = some (.int .i64 (l.getD i noTox).b)
theorem toxs_on {w w' : World} {p : Option Addr} {n : Nat} {l : List Tox} (h : ToxIn w p n l) (hb : Below w.heap.size w w') : ToxIn w' p n l := fun hn => by
  obtain ⟨b, o, e, hc⟩ := h hn
  refine ⟨b, o, e, fun i hi => ?_⟩
  have hh := hc i hi
  have key : ∀ {k : Nat} {v : Value}, w.cell? ⟨b, k, none⟩ = some v → w'.cell? ⟨b, k, none⟩ = some v := fun hk => (hb.cell (World.block_lt_of_cell? w _ hk)).trans hk
  exact ⟨key hh.1, key hh.2.1, key hh.2.2.1, key hh.2.2.2.1, key hh.2.2.2.2.1, key hh.2.2.2.2.2⟩
/-- A proxy's four cells: its name, whether it is on, how many connections, its toxics' slice. -/
def PrxIn (w : World) (p : Option Addr) (n : Nat) (l : List Prx) : Prop := 0 < n → ∃ b o, p = some ⟨b, o, none⟩ ∧ ∀ i, i < n →
  w.cell? ⟨b, o + i * 4, none⟩ = some (.string (l.getD i noPrx).s) ∧ w.cell? ⟨b, o + (i * 4 + 1), none⟩ = some (.bool (l.getD i noPrx).on) ∧ w.cell? ⟨b, o + (i * 4 + 2), none⟩ = some (.int .i64 (l.getD i noPrx).most) ∧
  ∃ q m d, w.cell? ⟨b, o + (i * 4 + 3), none⟩ = some (.slice q m d) ∧ m ≤ d ∧ (l.getD i noPrx).ts.length = m ∧ ToxIn w q m (l.getD i noPrx).ts
theorem prxs_on {w w' : World} {p : Option Addr} {n : Nat} {l : List Prx} (h : PrxIn w p n l) (hb : Below w.heap.size w w') : PrxIn w' p n l := fun hn => by
  obtain ⟨b, o, e, hc⟩ := h hn
  refine ⟨b, o, e, fun i hi => ?_⟩
  obtain ⟨h0, h1, h2, q, m, d, h3, h4, h5, h6⟩ := hc i hi
  have key : ∀ {k : Nat} {v : Value}, w.cell? ⟨b, k, none⟩ = some v → w'.cell? ⟨b, k, none⟩ = some v := fun hk => (hb.cell (World.block_lt_of_cell? w _ hk)).trans hk
  exact ⟨key h0, key h1, key h2, q, m, d, key h3, h4, h5, toxs_on h6 hb⟩
theorem nquiet_left {P : Program} {f : FuncId} {args : Array Value} {w : World} {n : Nat} {v : Value} (h : Calls P f args (w.drewN n) fun e w' => e = .returned v ∧ w.drewN n = w') :
    Calls P f args (w.drewN n) fun e w'' => e = .returned v ∧ ∃ m, w'' = w.drewN m := h.mono fun _ _ ⟨he, hm⟩ => ⟨he, n, hm.symm⟩
theorem nbelow_drewN (w : World) (m : Nat) : Below w.heap.size w (w.drewN m) := ⟨rfl, rfl, rfl, Nat.le_refl _, fun _ _ => rfl⟩
def orNone (k n : Nat) : Int := if k < n then k else -1
set_option maxRecDepth 100000 in
set_option maxHeartbeats 4000000 in
theorem rfind_any (p : Option Addr) (n d : Nat) (l : List Tox) (s : ByteArray) (w : World) (hl : l.length = n) (hn : n ≤ 9223372036854775807) (hi : ToxIn w p n l) :
    Calls Tryz.prog 45 #[.slice p n d, .string s] w fun e w' => e = .returned (.int .i64 (orNone (Nm.fT l s) n)) ∧ w = w' := by
  have HI := Lib.hid hi
  have HL := Lib.hid hl
  clear hi hl
  go_enter Tryz.func45, Tryz.ntmps45
  go_wp2_with fail
  go_loopw [5] (fun i wr => ∃ (k : Nat), k ≤ n ∧ i = .int .i64 k ∧ Hid (∀ j, j < k → (l.getD j noTox).s ≠ s) ∧ w = wr) (fun i _ => n - (intOf i).toNat)
  case atStart => exact ⟨0, by omega, rfl, Lib.hid (fun j h => by omega), rfl⟩
  case round =>
    obtain ⟨k, hk, rfl, HN, rfl⟩ := hrel
    by_cases hlt : k < n
    · obtain ⟨b, o, rfl, hc⟩ := HI.out (by omega)
      obtain ⟨c0, -⟩ := hc k hlt
      have hg : l.getD k noTox = l[k]'(by rw [HL.out]; exact hlt) := by rw [List.getD_eq_getElem?_getD, List.getElem?_eq_getElem (by rw [HL.out]; exact hlt)]; rfl
      by_cases hs : (l.getD k noTox).s = s
      · have e : Nm.fT l s = k := Nm.fnd_hit (by rw [HL.out]; exact hlt) (by rw [← hg]; exact hs) fun j hj e => HN.out j hj (by rw [List.getD_eq_getElem?_getD, List.getElem?_eq_getElem (by have := HL.out; omega)]; exact e)
        have e2 : orNone (Nm.fT l s) n = (k : Int) := by rw [e]; exact if_pos hlt
        have HE := Lib.hid e2
        rw [hs] at c0
        clear e e2 hs hg hc
        go_wp2_with fail
        go_ret
        exact ⟨by rw [HE.out]; rfl, rfl⟩
      · have HN2 := Lib.hid (show ∀ j, j < k + 1 → (l.getD j noTox).s ≠ s from fun j hj => by
          rcases Nat.lt_or_ge j k with g | g
          · exact HN.out j g
          · obtain rfl : j = k := by omega
            exact hs)
        clear hc hg
        generalize (l.getD k noTox).s = z at *
        have d1 : (z.toList == s.toList) = false := by simpa using fun e => hs (Nm.list_inj e)
        clear HN hs
        go_wp2_with fail
        go_roundw
        case rel => exact ⟨k + 1, by omega, by go_num, HN2, by first | rfl | trivial⟩
        case measure => simp [intOf]; omega
    · obtain rfl : k = n := by omega
      have e : orNone (Nm.fT l s) k = -1 := by
        have := Nm.fnd_none (key := Tox.s) (l := l) (s := s) fun x hx e => by
          obtain ⟨j, hj, rfl⟩ := List.getElem_of_mem hx
          refine HN.out j (by rw [← HL.out]; exact hj) ?_
          rw [List.getD_eq_getElem?_getD, List.getElem?_eq_getElem hj]
          exact e
        refine if_neg ?_
        have h2 : Nm.fT l s = l.length := this
        have := HL.out
        omega
      have HE := Lib.hid e
      clear e HN
      go_wp2_with fail
      go_ret
      exact ⟨by rw [HE.out]; rfl, rfl⟩
set_option maxRecDepth 100000 in
set_option maxHeartbeats 4000000 in
theorem rFind_any (p : Option Addr) (n d : Nat) (l : List Prx) (s : ByteArray) (w : World) (hl : l.length = n) (hn : n ≤ 9223372036854775807) (hi : PrxIn w p n l) :
    Calls Tryz.prog 21 #[.slice p n d, .string s] w fun e w' => e = .returned (.int .i64 (orNone (Nm.fP l s) n)) ∧ w = w' := by
  have HI := Lib.hid hi
  have HL := Lib.hid hl
  clear hi hl
  go_enter Tryz.func21, Tryz.ntmps21
  go_wp2_with fail
  go_loopw [5] (fun i wr => ∃ (k : Nat), k ≤ n ∧ i = .int .i64 k ∧ Hid (∀ j, j < k → (l.getD j noPrx).s ≠ s) ∧ w = wr) (fun i _ => n - (intOf i).toNat)
  case atStart => exact ⟨0, by omega, rfl, Lib.hid (fun j h => by omega), rfl⟩
  case round =>
    obtain ⟨k, hk, rfl, HN, rfl⟩ := hrel
    by_cases hlt : k < n
    · obtain ⟨b, o, rfl, hc⟩ := HI.out (by omega)
      obtain ⟨c0, -⟩ := hc k hlt
      have hg : l.getD k noPrx = l[k]'(by rw [HL.out]; exact hlt) := by rw [List.getD_eq_getElem?_getD, List.getElem?_eq_getElem (by rw [HL.out]; exact hlt)]; rfl
      by_cases hs : (l.getD k noPrx).s = s
      · have e : Nm.fP l s = k := Nm.fnd_hit (by rw [HL.out]; exact hlt) (by rw [← hg]; exact hs) fun j hj e => HN.out j hj (by rw [List.getD_eq_getElem?_getD, List.getElem?_eq_getElem (by have := HL.out; omega)]; exact e)
        have e2 : orNone (Nm.fP l s) n = (k : Int) := by rw [e]; exact if_pos hlt
        have HE := Lib.hid e2
        rw [hs] at c0
        clear e e2 hs hg hc
        go_wp2_with fail
        go_ret
        exact ⟨by rw [HE.out]; rfl, rfl⟩
      · have HN2 := Lib.hid (show ∀ j, j < k + 1 → (l.getD j noPrx).s ≠ s from fun j hj => by
          rcases Nat.lt_or_ge j k with g | g
          · exact HN.out j g
          · obtain rfl : j = k := by omega
            exact hs)
        clear hc hg
        generalize (l.getD k noPrx).s = z at *
        have d1 : (z.toList == s.toList) = false := by simpa using fun e => hs (Nm.list_inj e)
        clear HN hs
        go_wp2_with fail
        go_roundw
        case rel => exact ⟨k + 1, by omega, by go_num, HN2, by first | rfl | trivial⟩
        case measure => simp [intOf]; omega
    · obtain rfl : k = n := by omega
      have e : orNone (Nm.fP l s) k = -1 := by
        have := Nm.fnd_none (key := Prx.s) (l := l) (s := s) fun x hx e => by
          obtain ⟨j, hj, rfl⟩ := List.getElem_of_mem hx
          refine HN.out j (by rw [← HL.out]; exact hj) ?_
          rw [List.getD_eq_getElem?_getD, List.getElem?_eq_getElem hj]
          exact e
        refine if_neg ?_
        have h2 : Nm.fP l s = l.length := this
        have := HL.out
        omega
      have HE := Lib.hid e
      clear e HN
      go_wp2_with fail
      go_ret
      exact ⟨by rw [HE.out]; rfl, rfl⟩
end Go.Proofs.YtmghkcjljnlocaaGreatDoor
