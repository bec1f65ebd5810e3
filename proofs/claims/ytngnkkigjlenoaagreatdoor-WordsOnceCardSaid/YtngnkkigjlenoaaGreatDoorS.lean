/-
  Contracts: the document's own Same; the program's Lines. Conditions: as each states.
-/
import Derived.Test.YtngnkkigjlenoaaGreatDoorQ
import Derived.Test.YtngnkkigjlenoaaGreatDoorC
namespace Go.Proofs.YtngnkkigjlenoaaGreatDoor
open Go.RowKit

theorem same_take {ps rs : List ByteArray} {k : Nat} (h : ps.take k = rs.take k) (hp : k < ps.length) (hr : k < rs.length) (e : ps.getD k ⟨#[]⟩ = rs.getD k ⟨#[]⟩) : ps.take (k + 1) = rs.take (k + 1) := by
  rw [List.take_succ_eq_append_getElem hp, List.take_succ_eq_append_getElem hr, h]
  rw [List.getD_eq_getElem?_getD, List.getD_eq_getElem?_getD, List.getElem?_eq_getElem hp, List.getElem?_eq_getElem hr] at e
  congr 2
set_option maxRecDepth 100000 in
set_option maxHeartbeats 8000000 in
theorem same_any (q1 q2 : Option Addr) (n1 n2 d1 d2 : Nat) (ps rs : List ByteArray) (w : World) (h1 : TxtIn w q1 n1 ps) (h2 : TxtIn w q2 n2 rs) (hn : n1 ≤ 9223372036854775807) (hn2 : n2 ≤ 9223372036854775807) :
    Calls Tryz.prog 14 #[.slice q1 n1 d1, .slice q2 n2 d2] w fun e w' => e = .returned (.bool (decide (ps = rs))) ∧ Below w.heap.size w w' := by
  have H1 := Lib.hid h1
  have H2 := Lib.hid h2
  obtain ⟨R, hR⟩ : ∃ R, decide (ps = rs) = R := ⟨_, rfl⟩
  have HR := Lib.hid hR
  rw [hR]
  clear h1 h2 hR
  by_cases hnn : n1 = n2
  · subst hnn
    have d0 : ((n1 : Int) != (n1 : Int)) = false := by simp
    go_enter Tryz.func14, Tryz.ntmps14
    go_wp2_with fail
    go_loopw [5] (fun i wr => ∃ k : Nat, k ≤ n1 ∧ i = .int .i64 k ∧ Hid (ps.take k = rs.take k) ∧ Hid (Below w.heap.size w wr)) (fun i _ => n1 - (intOf i).toNat)
    case atStart => exact ⟨0, Nat.zero_le _, rfl, Lib.hid rfl, Lib.hid (Below.refl _ _)⟩
    case round =>
      obtain ⟨k, hk, rfl, HT, HB⟩ := hrel
      by_cases hlt : k < n1
      · have d3 : decide ((k : Int) < (n1 : Int)) = true := by simp; omega
        obtain ⟨b1, o1, rfl, hc1⟩ := H1.out.2 (by omega)
        obtain ⟨b2, o2, rfl, hc2⟩ := H2.out.2 (by omega)
        have c1 := (HB.out.cell (World.block_lt_of_cell? w _ (hc1 k hlt))).trans (hc1 k hlt)
        have c2 := (HB.out.cell (World.block_lt_of_cell? w _ (hc2 k hlt))).trans (hc2 k hlt)
        have hp : k < ps.length := by rw [H1.out.1]; exact hlt
        have hr : k < rs.length := by rw [H2.out.1]; exact hlt
        have hw1 : IntKind.i64.wrap ((k : Int) + 1) = (k : Int) + 1 := IntWalk.i64_in _ (by omega)
        have HYes := Lib.hid (fun e => same_take HT.out hp hr e)
        have HNo := Lib.hid (fun (e : ¬ ps.getD k ⟨#[]⟩ = rs.getD k ⟨#[]⟩) => show R = false from by
          rw [← HR.out]
          exact decide_eq_false fun h => e (by rw [h]))
        have HBd := Lib.hid HB.out
        generalize ps.getD k ⟨#[]⟩ = x at *
        generalize rs.getD k ⟨#[]⟩ = y at *
        clear hc1 hc2 hp hr HT HB
        by_cases hxy : x = y
        · have HT2 := Lib.hid (HYes.out hxy)
          subst hxy
          have e0 : (x.toList == x.toList) = true := by simp
          have e1 : (x.toList != x.toList) = false := by simp
          clear HYes HNo
          go_wp2_with fail
          go_quiet (fail)
          go_wp2_with fail
          go_roundw
          case rel => exact ⟨k + 1, by omega, by go_num, HT2, Lib.hid (low_drewN HBd.out _)⟩
          case measure => simp [intOf]; omega
        · have HN2 := Lib.hid (HNo.out hxy)
          have e0 : (x.toList == y.toList) = false := by rw [bytes_eq]; simpa using hxy
          have e1 : (x.toList != y.toList) = true := by simp [bne, e0]
          clear HYes HNo hxy
          go_wp2_with fail
          go_quiet (fail)
          go_wp2_with fail
          go_ret
          exact ⟨by rw [HN2.out]; rfl, low_drewN HBd.out _⟩
      · obtain rfl : k = n1 := by omega
        have d3 : decide ((k : Int) < (k : Int)) = false := by simp
        have HX := Lib.hid (show R = true from by
          rw [← HR.out]
          have h := HT.out
          rw [List.take_of_length_le (by rw [H1.out.1]; omega), List.take_of_length_le (by rw [H2.out.1]; omega)] at h
          exact decide_eq_true h)
        clear HT
        go_wp2_with fail
        go_ret
        exact ⟨by rw [HX.out]; rfl, HB.out⟩
  · have d0 : ((n1 : Int) != (n2 : Int)) = true := by simp; omega
    have HX := Lib.hid (show R = false from by
      rw [← HR.out]
      exact decide_eq_false fun h => hnn (by rw [← H1.out.1, ← H2.out.1, h]))
    clear hnn H1 H2 HR
    go_enter Tryz.func14, Tryz.ntmps14
    go_wp2_with fail
    go_ret
    exact ⟨by rw [HX.out]; rfl, Below.refl _ _⟩
end Go.Proofs.YtngnkkigjlenoaaGreatDoor
