/-
  Contract: slices.Equal of toxics. Conditions: the slices' lengths.
-/
import Derived.Test.YtmghkcjljnlocaaGreatDoorPN
import Derived.Laws.StructEq
import Derived.BigQuiet
namespace Go.Proofs.YtmghkcjljnlocaaGreatDoor
open Go.RowKit
theorem neqL {x y : ByteArray} (h : x ≠ y) : (x.toList == y.toList) = false := by
  rw [bytes_eq]
  exact decide_eq_false h
def Tox.v (t : Tox) : Value := .agg #[.string t.s, .int .i64 t.k, .bool t.up, .int .i64 t.o, .int .i64 t.a, .int .i64 t.b]
set_option maxRecDepth 100000 in
theorem tox_eql (x y : Tox) (w : World) : (Op.equalIn 10000 TT x.v y.v).run Tryz.prog w = .ok (decide (x = y)) w := by
  have u3 := Tryz.underlying3
  have a3 := Tryz.isAgg3
  have z3 := Tryz.sizeOf3
  have u4 := Tryz.underlying4
  have a4 := Tryz.isAgg4
  have z4 := Tryz.sizeOf4
  have u9 := Tryz.underlying9
  have a9 := Tryz.isAgg9
  have z9 := Tryz.sizeOf9
  have hS : Tryz.prog.underlying TT = some (.struct (Tryz.prog.fieldsOf TT)) := by kernel_rfl
  have hp : Tryz.prog.stoodInHeld TT = false := by kernel_rfl
  obtain ⟨s, k, u, o, a, b⟩ := x
  obtain ⟨s', k', u', o', a', b'⟩ := y
  simp only [Tox.v]
  rw [show (10000 : Nat) = 9999 + 1 from rfl, run_equalIn_agg w 9999 TT _ _ hS hp]
  simp only [Program.fieldsOf, Tryz.underlying24]
  go_simp
  by_cases h1 : s = s'
  · subst h1
    by_cases h2 : k = k'
    · by_cases h3 : u = u'
      · by_cases h4 : o = o'
        · by_cases h5 : a = a' <;> by_cases h6 : b = b' <;> simp [h2, h3, h4, h5, h6]
        · simp [h2, h3, h4]
      · simp [h2, h3]
    · simp [h2]
  · have ht : s.toList ≠ s'.toList := fun e => h1 (Nm.list_inj e)
    simp [h1, ht]
theorem lists_eq {α : Type} (z : α) {l l' : List α} {n : Nat} (h1 : l.length = n) (h2 : l'.length = n) (h : ∀ j, j < n → l.getD j z = l'.getD j z) : l = l' := by
  refine List.ext_getElem (h1.trans h2.symm) fun j a b => ?_
  have := h j (by omega)
  rwa [getD_at _ _ a, getD_at _ _ b] at this
set_option maxRecDepth 100000 in
set_option maxHeartbeats 8000000 in
theorem eqT_any (p q : Option Addr) (n m d d' : Nat) (l l' : List Tox) (w : World) (hl : l.length = n) (hl' : l'.length = m) (hn : n ≤ 1000000) (hm : m ≤ 1000000) (hi : ToxIn w p n l) (hi' : ToxIn w q m l') :
    Calls Tryz.prog 62 #[.slice p n d, .slice q m d'] w fun e w' => e = .returned (.bool (decide (l = l'))) ∧ ∃ N, w' = w.drewN N := by
  obtain ⟨X, hX⟩ : ∃ X, decide (l = l') = X := ⟨_, rfl⟩
  rw [hX]
  have HX := Lib.hid hX
  have HI := Lib.hid hi
  have HI' := Lib.hid hi'
  have HL := Lib.hid hl
  have HL' := Lib.hid hl'
  have hEG := Tryz.eqGuardType24
  have hSH := Tryz.stoodInHeld24
  clear hX hi hi' hl hl'
  by_cases hnm : n = m
  · subst hnm
    go_enter Tryz.func62, Tryz.ntmps62
    go_wp2_with fail
    go_loopw [5, 13] (fun _ i wr => ∃ k : Nat, k ≤ n ∧ i = .int .i64 k ∧ Hid (∀ j, j < k → l.getD j noTox = l'.getD j noTox) ∧ ∃ N, wr = w.drewN N) (fun _ i _ => n - (intOf i).toNat)
    case atStart => exact ⟨0, by omega, rfl, Lib.hid (fun j h => by omega), 0, rfl⟩
    case round =>
      obtain ⟨k, hk, rfl, HN, N, rfl⟩ := hrel
      by_cases hlt : k < n
      · obtain ⟨b, o, rfl, hc⟩ := HI.out (by omega)
        obtain ⟨b', o', rfl, hc'⟩ := HI'.out (by omega)
        obtain ⟨e0, e1, e2, e3, e4, e5⟩ := hc k hlt
        obtain ⟨f0, f1, f2, f3, f4, f5⟩ := hc' k hlt
        rw [← Nat.add_assoc] at e1 e2 e3 e4 e5 f1 f2 f3 f4 f5
        have HN2 := Lib.hid (fun (he : l.getD k noTox = l'.getD k noTox) => (show ∀ j, j < k + 1 → l.getD j noTox = l'.getD j noTox from fun j hj => by
          rcases Nat.lt_or_ge j k with g | g
          · exact HN.out j g
          · obtain rfl : j = k := by omega
            exact he))
        have HNE := Lib.hid (fun (he : l.getD k noTox ≠ l'.getD k noTox) => (show X = false from by
          rw [← HX.out]
          exact decide_eq_false fun e => he (by rw [e])))
        generalize l.getD k noTox = x at *
        generalize l'.getD k noTox = y at *
        have hki : (k : Int) < (n : Int) := by omega
        clear hc hc'
        by_cases hxy : x = y
        · have HN3 := Lib.hid (HN2.out hxy)
          have hq := fun w => tox_eql x y w
          rw [decide_eq_true hxy] at hq
          unfold Tox.v at hq
          clear HN2 HNE HN hxy
          go_wp2_with fail
          go_quiet (fail)
          clear e0 e1 e2 e3 e4 e5 f0 f1 f2 f3 f4 f5 hq
          go_wp2_with fail
          go_roundw
          case rel => exact ⟨k + 1, by omega, by go_num, HN3, N + nq, by first | rfl | rw [World.drewN_drewN]⟩
          case measure => simp [intOf]; omega
        · have HF := Lib.hid (HNE.out hxy)
          have hq := fun w => tox_eql x y w
          rw [decide_eq_false hxy] at hq
          unfold Tox.v at hq
          clear HN2 HNE HN hxy
          go_wp2_with fail
          go_quiet (fail)
          clear e0 e1 e2 e3 e4 e5 f0 f1 f2 f3 f4 f5 hq
          go_wp2_with fail
          go_ret
          exact ⟨by rw [HF.out]; rfl, N + nq, by first | rfl | rw [World.drewN_drewN]⟩
      · obtain rfl : k = n := by omega
        have HF := Lib.hid (show X = true from by
          rw [← HX.out]
          exact decide_eq_true (lists_eq noTox HL.out HL'.out HN.out))
        clear HN
        go_wp2_with fail
        go_ret
        exact ⟨by rw [HF.out]; rfl, N, rfl⟩
  · have HF := Lib.hid (show X = false from by
      rw [← HX.out]
      exact decide_eq_false fun e => hnm (by rw [← HL.out, ← HL'.out, e]))
    have hd : ¬ ((n : Int) = (m : Int)) := by omega
    have hd2 : ((n : Int) != (m : Int)) = true := by simp; omega
    have hd3 : decide ((n : Int) = (m : Int)) = false := decide_eq_false hd
    have hd4 : ((n : Int) == (m : Int)) = false := by simp; omega
    clear hnm
    go_enter Tryz.func62, Tryz.ntmps62
    go_wp2_with fail
    go_ret
    exact ⟨by rw [HF.out]; rfl, 0, rfl⟩
end Go.Proofs.YtmghkcjljnlocaaGreatDoor
