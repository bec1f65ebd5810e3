/-
  Law WordsJoins: the line of any words is what the document says; so is which need no signs. Conditions: the form's reach; a word of the library holds some number.
-/
import Derived.Test.YtngnkkigjlenoaaGreatDoorX
namespace Go.Proofs.YtngnkkigjlenoaaGreatDoor
open Go.RowKit

/-- How long the first k texts are together. -/
def sumL (ps : List ByteArray) (k : Nat) : Nat := ((ps.take k).map (·.size)).sum
theorem sum_step {ps : List ByteArray} {k : Nat} (hk : k < ps.length) : sumL ps (k + 1) = sumL ps k + (ps.getD k ⟨#[]⟩).size := by
  unfold sumL
  rw [List.take_succ_eq_append_getElem hk, List.map_append, List.sum_append, List.getD_eq_getElem?_getD, List.getElem?_eq_getElem hk]
  simp
theorem sum_most {ps : List ByteArray} (h : ∀ t ∈ ps, t.size ≤ 140737488351232) (k : Nat) (hk : k ≤ ps.length) : sumL ps k ≤ 140737488351232 * k := by
  induction k with
  | zero => exact Nat.le_refl _
  | succ k ih =>
    rw [sum_step (by omega)]
    have h1 := ih (by omega)
    have h2 := h _ (getD_mem (ps := ps) (j := k) (by omega))
    omega
theorem le_sum {l : List Nat} {x : Nat} (h : x ∈ l) : x ≤ l.sum := by
  induction l with
  | nil => cases h
  | cons y r ih =>
    rw [List.sum_cons]
    rcases List.mem_cons.1 h with rfl | h
    · omega
    · have := ih h; omega
theorem sum_mem {ps : List ByteArray} {t : ByteArray} (h : t ∈ ps) : t.size ≤ sumL ps ps.length := by
  unfold sumL
  rw [List.take_length]
  exact le_sum (List.mem_map_of_mem (f := (·.size)) h)
set_option maxRecDepth 100000 in
set_option maxHeartbeats 8000000 in
theorem wordsJoins.walk (q : Option Addr) (n d : Nat) (ps : List ByteArray) (w : World) (hi : TxtIn w q n ps) (hn : n ≤ 9223372036854775807) (hz : ∀ t ∈ ps, t.size ≤ maxLen) (hy : ∀ t ∈ ps, t.size ≤ 140737488351232) (hg : Big w) :
    Calls Tryz.prog 3 #[.slice q n d] w fun e w' => e = .returned (.bool true) ∧ Below w.heap.size w w' := by
  have HAl := Lib.hid (alive_any w hg)
  have HI := Lib.hid hi
  have HZ := Lib.hid hz
  have HY := Lib.hid hy
  clear hg hi hz hy
  go_enter Tryz.func3, Tryz.ntmps3
  go_wp2_with fail
  go_loopw [3, 5, 8] (fun nn _ i wr => ∃ (k : Nat) (z : Int), k ≤ n ∧ i = .int .i64 k ∧ nn = .int .i64 z ∧ w = wr ∧ Hid (n ≤ 16 → z = (sumL ps k : Nat))) (fun _ _ i _ => n - (intOf i).toNat)
  case atStart => exact ⟨0, 0, Nat.zero_le _, rfl, rfl, rfl, Lib.hid (fun _ => rfl)⟩
  case round =>
    obtain ⟨k, z, hk, rfl, rfl, rfl, HS⟩ := hrel
    by_cases hlt : k < n
    · have d3 : decide ((k : Int) < (n : Int)) = true := decide_eq_true (by omega)
      obtain ⟨bb, o, rfl, hc⟩ := HI.out.2 (by omega)
      have c0 := hc k hlt
      have hkl : k < ps.length := by rw [HI.out.1]; exact hlt
      have hwk : IntKind.i64.wrap ((k : Int) + 1) = (k : Int) + 1 := IntWalk.i64_in _ (by omega)
      have hst := sum_step hkl
      have hmo := sum_most HY.out (k + 1) (by omega)
      have HP := Lib.hid (plain_any (ps.getD k ⟨#[]⟩) (HZ.out _ (getD_mem hkl)) w)
      have HR := Lib.hid (rplain_any (ps.getD k ⟨#[]⟩) (HZ.out _ (getD_mem hkl)) w)
      generalize ps.getD k ⟨#[]⟩ = t at *
      obtain ⟨z', hz'⟩ : ∃ z', IntKind.i64.wrap (z + (t.size : Int)) = z' := ⟨_, rfl⟩
      have HS1 := Lib.hid (show n ≤ 16 → z' = (sumL ps (k + 1) : Nat) from fun h => by
        have h1 := HS.out h
        rw [← hz', h1, IntWalk.i64_in _ (by omega), hst]
        omega)
      have hq : (plainL (nums t) != plainL (nums t)) = false := by simp
      generalize plainL (nums t) = pb at *
      clear hc hkl hst hmo HS
      go_wp2_with fail
      refine HP.out.mono ?_
      rintro e w1 ⟨rfl, rfl⟩
      go_wp2_with fail
      refine HR.out.mono ?_
      rintro e w1 ⟨rfl, rfl⟩
      go_wp2_with fail
      go_roundw
      case rel => exact ⟨k + 1, z', by omega, by go_num, by first | rfl | rw [← hz'] | simp, by first | rfl | trivial, HS1⟩
      case measure => simp [intOf]; omega
    · obtain rfl : k = n := by omega
      have d3 : decide ((k : Int) < (k : Int)) = false := by simp
      go_wp2_with fail
      refine HAl.out.mono ?_
      rintro e w1 ⟨rfl, hb1⟩
      have HB1 := Lib.hid hb1
      clear hb1
      by_cases hz2 : z > 2000
      · have e1 : (2000 : Int) < z := hz2
        clear hz2
        go_wp2_with fail
        go_ret
        exact ⟨rfl, HB1.out⟩
      · have e2 : decide (z > 2000) = false := decide_eq_false hz2
        have e1 : ¬ (2000 : Int) < z := hz2
        have hsm : k ≤ 16 → ∀ t ∈ ps, t.size ≤ 2000 := fun h t ht => by
          have h1 := HS.out h
          have h2 := sum_mem ht
          rw [HI.out.1] at h2
          omega
        have HJ := Lib.hid (join_any q k d ps w1 hn (HI.out.on HB1.out) HZ.out)
        have HR := Lib.hid (fun W (hW : Below w.heap.size w W) => rjoin_any q k d ps W (HI.out.on hW) hsm)
        clear hz2 hsm
        go_wp2_with fail
        refine HJ.out.mono ?_
        rintro e w2 ⟨rfl, hb2⟩
        have HB2 := Lib.hid (seqB HB1.out hb2)
        have HR2 := Lib.hid (HR.out w2 HB2.out)
        clear hb2 HJ HR HB1
        obtain ⟨J, hJ⟩ : ∃ J, joinB ps = J := ⟨_, rfl⟩
        rw [hJ] at HR2 ⊢
        go_wp2_with fail
        refine HR2.out.mono ?_
        rintro e w3 ⟨rfl, hb3⟩
        have HB3 := Lib.hid (seqB HB2.out hb3)
        have q0 : (J.toList == J.toList) = true := by simp
        clear hb3 HR2 HB2
        go_wp2_with fail
        go_ret
        exact ⟨rfl, HB3.out⟩
end Go.Proofs.YtngnkkigjlenoaaGreatDoor
