/-
  Contracts: what the statements' own few answers; what a call does, to the document's ring and to the program's. Conditions: as each states.
-/
import Derived.Test.YtkjljnfhnkaocaaO
import Derived.Test.YtkjljnfhnkaocaaW10
import Derived.Test.YtkjljnfhnkaocaaW11
namespace Go.Proofs.Ytkjljnfhnkaocaa
open Go.RowKit

/-- What few hands back: with true, there are few. -/
def Few (m : Nat) (os : List Call) (w : World) (e : Ending) (w' : World) : Prop := ∃ b, e = .returned (.bool b) ∧ (b = true → m ≤ 200 ∧ total os ≤ 20000) ∧ Below w.heap.size w w'
theorem total_step (os : List Call) (k m : Nat) (hm : os.length = m) (hk : k < m) (L : Nat) (hL : (os.getD k noCall).2.2.size = L) : total (os.take (k + 1)) = total (os.take k) + L := by
  rw [total_take_succ os k (by omega), hL]
theorem wrap_total (x : Int) (L : Nat) : IntKind.i64.wrap (IntKind.i64.wrap x + (L : Int)) = IntKind.i64.wrap (x + (L : Int)) := by
  rw [IntKind.wrap_i64, IntKind.wrap_i64, IntKind.wrap_i64]
  omega
set_option maxHeartbeats 4000000 in
theorem few_any (p : Option Addr) (m d : Nat) (os : List Call) (w : World) (hx : os.length = m) (hmd : m ≤ d) (hd : d ≤ 9223372036854775807) (hz : ∀ o ∈ os, o.2.2.size ≤ 140737488351232) (hj : OpsIn w p m os) :
    Calls Try.prog 10 #[.slice p m d] w (Few m os w) := by
  have HX := Lib.hid hx
  have HZ := Lib.hid hz
  have HJ := Lib.hid hj
  clear hx hz hj
  go_enter Try.func10, Try.ntmps10
  go_wp2_with fail
  go_loopw [3, 8] (fun nv i wr => ∃ (k : Nat) (y : Int), k ≤ m ∧ i = .int .i64 k ∧ nv = .int .i64 y ∧ Hid (y = IntKind.i64.wrap (total (os.take k) : Int)) ∧ Hid (Below w.heap.size w wr)) (fun _ i _ => m - (intOf i).toNat)
  case atStart => exact ⟨0, 0, by omega, rfl, rfl, Lib.hid (by simp [total]; rfl), Lib.hid (Below.refl _ _)⟩
  case round =>
    obtain ⟨k, y, hk, rfl, rfl, HY, HB⟩ := hrel
    by_cases hlt : k < m
    · obtain ⟨b, o, rfl, hc⟩ := ops_on HJ.out HB.out (by omega)
      obtain ⟨g0, g1, g2⟩ := hc k hlt
      have HS := Lib.hid (HZ.out _ (at_of os k (by rw [HX.out]; exact hlt)))
      have HT := Lib.hid (total_step os k m HX.out hlt _ rfl)
      generalize os.getD k noCall = op at *
      obtain ⟨kind, N, A⟩ := op
      simp only at g0 g1 g2 HS HT
      rw [← Nat.add_assoc] at g1 g2
      have HY' := Lib.hid (show wrap64 (y + (A.size : Int)) = IntKind.i64.wrap (total (os.take (k + 1)) : Int) by rw [show wrap64 (y + (A.size : Int)) = IntKind.i64.wrap (y + (A.size : Int)) from (IntWalk.i64_left _).symm, HY.out, wrap_total, HT.out, Int.natCast_add])
      clear hc HY HT
      go_wp2_with fail
      go_roundw
      case rel => exact ⟨k + 1, _, by omega, by go_num, rfl, HY', Lib.hid (HB.out.alloc HB.out.size _)⟩
      case measure => simp [intOf]; omega
    · have hkm : k = m := by omega
      have HY' := Lib.hid (show y = IntKind.i64.wrap (total os : Int) by rw [HY.out, hkm, ← HX.out, List.take_length])
      have HT : Hid (m ≤ 200 → (total os : Int) ≤ 9223372036854775807) := fun h => by
        have := total_bound os 140737488351232 HZ.out
        rw [HX.out] at this
        omega
      by_cases h2 : m ≤ 200
      · have d2 : decide ((m : Int) ≤ 200) = true := by simp; omega
        go_wp2_with fail
        go_ret
        refine ⟨_, rfl, fun h => ⟨h2, ?_⟩, HB.out⟩
        have hh := HY'.out
        rw [IntWalk.i64_in _ ⟨by omega, HT.out h2⟩] at hh
        simp at h
        omega
      · have d2 : decide ((m : Int) ≤ 200) = false := by simp; omega
        go_wp2_with fail
        go_ret
        exact ⟨_, rfl, (fun h => by simp at h), HB.out⟩

/-- What a call does, to the document's ring and to the program's. -/
structure Step (S : ByteArray) (room kind N : Int) (A : ByteArray) (S' : ByteArray) (n : Nat) (T : ByteArray) : Prop where
  did : ∀ w, Calls Try.prog 14 #[.agg #[.string S, .int .i64 room], .agg #[.int .i64 kind, .int .i64 N, .string A]] w (Did room S' n T w)
  does : ∀ base g u w, Rg w base g u room (nums S) → Calls Try.prog 15 #[.pointer (some ⟨g, 0, none⟩), .agg #[.int .i64 kind, .int .i64 N, .string A]] w (Does n T base g u room (nums S') w)
  size : S'.size ≤ S.size + A.size
  fits : ¬ kind = 1 → S.size ≤ room.toNat → S'.size ≤ room.toNat
  wrote : kind = 0 → n = min A.size (room.toNat - S.size)
theorem nums_empty : nums ⟨#[]⟩ = [] := rfl
theorem size_empty : (⟨#[]⟩ : ByteArray).size = 0 := rfl
theorem step_all (S : ByteArray) (room kind N : Int) (A : ByteArray) (h0 : 0 ≤ room) (h1 : room ≤ 4096) (hS : S.size ≤ 100000) (hA : A.size ≤ 100000) : ∃ S' n T, Step S room kind N A S' n T := by
  by_cases k0 : kind = 0
  · subst k0
    have hl : (A.extract 0 (min A.size (room.toNat - S.size))).size = min A.size (room.toNat - S.size) := taken_size _ _ (by omega)
    refine ⟨_, _, _, fun w => do_write S A _ _ room N _ hS hA h0 h1 rfl rfl rfl w, fun base g u w h => ?_, by rw [append_size, hl]; omega, fun _ _ => by rw [append_size, hl]; omega, fun _ => rfl⟩
    rw [append_nums, taken_nums]
    exact does_write h (by rw [nums_length]; omega) A hA N _ (by rw [nums_length])
  by_cases k1 : kind = 1
  · subst k1
    refine ⟨_, _, _, fun w => do_force S A room N hS hA w, fun base g u w h => ?_, by rw [append_size]; exact Nat.le_refl _, fun h => absurd rfl h, fun h => absurd h (by decide)⟩
    rw [append_nums]
    exact does_force h (by rw [nums_length]; omega) A hA N
  by_cases k2 : kind = 2
  · subst k2
    refine ⟨_, _, _, fun w => do_read S A _ _ room N _ hS rfl rfl rfl w, fun base g u w h => ?_, by rw [rest_size]; omega, fun _ _ => by rw [rest_size]; omega, fun h => absurd h (by decide)⟩
    rw [rest_nums]
    exact does_read h (by rw [nums_length]; omega) A _ N _ (by rw [nums_length]) (str_taken _ _)
  by_cases k3 : kind = 3
  · subst k3
    exact ⟨_, _, _, fun w => do_peek S A _ room N _ hS rfl rfl w, fun base g u w h => does_peek h (by rw [nums_length]; omega) A _ N _ (by rw [nums_length]) (str_taken _ _), by omega, fun _ h => h, fun h => absurd h (by decide)⟩
  by_cases k4 : kind = 4
  · subst k4
    refine ⟨_, _, _, fun w => do_drop S A _ _ room N _ hS rfl rfl rfl w, fun base g u w h => ?_, by rw [rest_size]; omega, fun _ _ => by rw [rest_size]; omega, fun h => absurd h (by decide)⟩
    rw [rest_nums]
    exact does_drop h A N _ (by rw [nums_length])
  by_cases k5 : kind = 5
  · subst k5
    refine ⟨_, _, _, fun w => do_clear S A room N hS w, fun base g u w h => ?_, by rw [size_empty]; omega, fun _ _ => by rw [size_empty]; omega, fun h => absurd h (by decide)⟩
    rw [nums_empty]
    exact does_clear h A N _ (nums_length S)
  · exact ⟨_, _, _, fun w => do_other S A room kind N k0 k1 k2 k3 k4 k5 w, fun base g u w h => does_other h A kind N k0 k1 k2 k3 k4 k5, by omega, fun _ h => h, fun h => absurd h k0⟩
end Go.Proofs.Ytkjljnfhnkaocaa
