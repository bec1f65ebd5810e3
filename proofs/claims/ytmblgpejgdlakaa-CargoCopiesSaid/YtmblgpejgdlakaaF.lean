/-
  Contract: what the statements' own few answers. Conditions: as each states.
-/
import Derived.Test.YtmblgpejgdlakaaO
namespace Go.Proofs.Ytmblgpejgdlakaa
open Go.RowKit

/-- What few hands back: with true, there are few. -/
def Few (m : Nat) (os : List Call) (w : World) (e : Ending) (w' : World) : Prop := ∃ b, e = .returned (.bool b) ∧ (b = true → m ≤ 200 ∧ total os ≤ 5000) ∧ Below w.heap.size w w'
theorem total_step (os : List Call) (k m : Nat) (hm : os.length = m) (hk : k < m) (L : Nat) (hL : (os.getD k noCall).2.2.2.size = L) : total (os.take (k + 1)) = total (os.take k) + L := by
  rw [total_take_succ os k (by omega), hL]
theorem wrap_total (x : Int) (L : Nat) : IntKind.i64.wrap (IntKind.i64.wrap x + (L : Int)) = IntKind.i64.wrap (x + (L : Int)) := by
  rw [IntKind.wrap_i64, IntKind.wrap_i64, IntKind.wrap_i64]
  omega
set_option maxHeartbeats 4000000 in
theorem few_any (p : Option Addr) (m d : Nat) (os : List Call) (w : World) (hx : os.length = m) (hmd : m ≤ d) (hd : d ≤ 9223372036854775807) (hz : ∀ o ∈ os, o.2.2.2.size ≤ 140737488351232) (hj : OpsIn w p m os) :
    Calls Try.prog 11 #[.slice p m d] w (Few m os w) := by
  have HX := Lib.hid hx
  have HZ := Lib.hid hz
  have HJ := Lib.hid hj
  clear hx hz hj
  go_enter Try.func11, Try.ntmps11
  go_wp2_with fail
  go_loopw [3, 8] (fun nv i wr => ∃ (k : Nat) (y : Int), k ≤ m ∧ i = .int .i64 k ∧ nv = .int .i64 y ∧ Hid (y = IntKind.i64.wrap (total (os.take k) : Int)) ∧ Hid (Below w.heap.size w wr)) (fun _ i _ => m - (intOf i).toNat)
  case atStart => exact ⟨0, 0, by omega, rfl, rfl, Lib.hid (by simp [total]; rfl), Lib.hid (Below.refl _ _)⟩
  case round =>
    obtain ⟨k, y, hk, rfl, rfl, HY, HB⟩ := hrel
    by_cases hlt : k < m
    · obtain ⟨b, o, rfl, hc⟩ := ops_on HJ.out HB.out (by omega)
      obtain ⟨g0, g1, g2, g3⟩ := hc k hlt
      have HS := Lib.hid (HZ.out _ (at_of os k (by rw [HX.out]; exact hlt)))
      have HT := Lib.hid (total_step os k m HX.out hlt _ rfl)
      generalize os.getD k noCall = op at *
      obtain ⟨kind, T, N, A⟩ := op
      simp only at g0 g1 g2 g3 HS HT
      rw [← Nat.add_assoc] at g1 g2 g3
      have HY' := Lib.hid (show wrap64 (y + (A.size : Int)) = IntKind.i64.wrap (total (os.take (k + 1)) : Int) by rw [show wrap64 (y + (A.size : Int)) = IntKind.i64.wrap (y + (A.size : Int)) from (IntWalk.i64_left _).symm, HY.out, wrap_total, HT.out, Int.natCast_add])
      clear hc HY HT
      go_wp2_with fail
      go_roundw
      case rel => exact ⟨k + 1, _, by omega, by go_num, rfl, HY', Lib.hid (HB.out.alloc HB.out.size _)⟩
      case measure => simp [intOf]; omega
    · have hkm : k = m := by omega
      have HY' := Lib.hid (show y = IntKind.i64.wrap (total os : Int) by rw [HY.out, hkm, ← HX.out, List.take_length])
      have HT : Hid (m ≤ 200 → (total os : Int) ≤ 9223372036854775807) := fun h => by
        have := total_bound os 140737488351232 HZ.out
        rw [HX.out] at this
        omega
      by_cases h2 : m ≤ 200
      · have d2 : decide ((m : Int) ≤ 200) = true := by simp; omega
        go_wp2_with fail
        go_ret
        refine ⟨_, rfl, fun h => ⟨h2, ?_⟩, HB.out⟩
        have hh := HY'.out
        rw [IntWalk.i64_in _ ⟨by omega, HT.out h2⟩] at hh
        simp at h
        omega
      · have d2 : decide ((m : Int) ≤ 200) = false := by simp; omega
        go_wp2_with fail
        go_ret
        exact ⟨_, rfl, (fun h => by simp at h), HB.out⟩
end Go.Proofs.Ytmblgpejgdlakaa
