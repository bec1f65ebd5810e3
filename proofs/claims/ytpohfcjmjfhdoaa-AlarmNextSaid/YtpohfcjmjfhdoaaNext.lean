/-
  The walk of chicanelaw06.AlarmNext: it returns true, whatever calls. Conditions: as each states.
-/
import Derived.Test.YtpohfcjmjfhdoaaW19
namespace Go.Proofs.Ytpohfcjmjfhdoaa.alarmNext
open Go.RowKit Go.Sort Go.Maps

set_option maxRecDepth 100000 in
set_option maxHeartbeats 16000000 in
theorem walk (p : Option Addr) (m d : Nat) (os : List Call) (w : World) (hx : os.length = m) (_hmd : m ≤ d) (_hd : d ≤ 9223372036854775807) (hz : ∀ o ∈ os, Wf64 o.1 ∧ Wf64 o.2.1 ∧ Wf64 o.2.2) (hj : OpsIn w p m os) :
    Calls Try.prog 8 #[.slice p m d] w fun e w' => e = .returned (.bool true) ∧ Below w.heap.size w w' := by
  have HX := Lib.hid hx
  have HJ := Lib.hid hj
  have HZ := Lib.hid hz
  clear hx hz hj
  go_enter Try.func8, Try.ntmps8
  go_wp2_with fail
  refine (new_at w _ (Below.refl _ _)).mono ?_
  rintro e w1 ⟨rfl, ha⟩
  have HA1 := Lib.hid ha
  clear ha
  generalize w.heap.size + 1 = g at *
  obtain ⟨B, hB⟩ : ∃ B, w.heap.size = B := ⟨_, rfl⟩
  rw [hB] at HA1
  clear hB
  by_cases hm : 200 < m
  · go_wp2_with fail
    refine (alive_any _).mono ?_
    rintro e w5 ⟨rfl, hb5⟩
    have HB5 := Lib.hid (HA1.out.on hb5).below
    clear hb5
    go_wp2_with fail
    go_ret
    exact ⟨rfl, HB5.out⟩
  · go_wp2_with fail
    go_loopw [25] (fun i wr => ∃ (k : Nat) (L : List Due) (last : Int), k ≤ m ∧ i = .int .i64 k ∧ Hid (At w B g L last wr) ∧ Hid (last ≤ k)) (fun i _ => m - (intOf i).toNat)
    case atStart => exact ⟨0, [], 0, by omega, rfl, HA1, Lib.hid (by omega)⟩
    case round =>
      obtain ⟨k, L, last, hk, rfl, HA, HL⟩ := hrel
      by_cases hlt : k < m
      · obtain ⟨b, o, rfl, hcell⟩ := ops_on HJ.out HA.out.below (by omega)
        obtain ⟨c0, c1, c2⟩ := hcell k hlt
        have hzk := HZ.out _ (at_of os k (by rw [HX.out]; exact hlt))
        generalize os.getD k noCall = O at *
        obtain ⟨kd, a, id⟩ := O
        simp only at c0 c1 c2
        rw [← Nat.add_assoc] at c1 c2
        have HID := Lib.hid hzk.2.2
        have hbl := World.block_lt_of_cell? wr _ c0
        have HA2 := Lib.hid (HA.out.on ((Below.refl wr.heap.size wr).alloc (Nat.le_refl _) (.cells #[.int .i64 kd, .int .i64 a, .int .i64 id] 30)))
        have HDL := Lib.hid (do_last L last kd a id)
        clear hcell hzk
        go_wp2_with fail
        refine (does_k HA2.out (by have := HL.out; omega) HID.out).mono ?_
        rintro e w3 ⟨q, n, c, rfl, _, ha3, _⟩
        have HA3 := Lib.hid ha3
        clear ha3 c0 c1 c2 HA2
        go_wp2_with fail
        go_roundw
        case rel => exact ⟨k + 1, _, _, by omega, by go_num, HA3, Lib.hid (by have := HDL.out; have := HL.out; simp only [Int.natCast_add]; omega)⟩
        case measure => simp [intOf]; omega
      · clear HA1
        have hbd := HA.out.bounds
        have hbd2 := HL.out
        by_cases h0 : 0 < L.length
        · obtain ⟨x, r, rfl⟩ : ∃ x r, L = x :: r := by
            cases L with
            | nil => simp at h0
            | cons x r => exact ⟨x, r, rfl⟩
          have hrg := (HA.out.rg x (List.mem_cons_self)).1
          obtain ⟨x0, x1⟩ := x
          dsimp only at hrg
          have hnone : dueN ((x0, x1) :: r) (x0 - 1) = 0 := due_is (Nat.zero_le _) (fun j hj => absurd hj (Nat.not_lt_zero _)) (fun _ => by show ¬ x0 ≤ x0 - 1; omega)
          obtain ⟨K, hK⟩ : ∃ K, dueN ((x0, x1) :: r) x0 = K + 1 := by
            refine ⟨(r.takeWhile fun d => decide (d.1 ≤ x0)).length, ?_⟩
            unfold dueN
            rw [List.takeWhile_cons]
            simp
          have hKl := due_le ((x0, x1) :: r) x0
          rw [hK] at hKl
          have hKb : K + 1 ≤ 1000 := by omega
          have HS := Lib.hid (And.intro hnone hK)
          obtain ⟨u, mm, hA, hB1, hB2⟩ := HA.out
          have kx : IntKind.i64.wrap (x0 - 1) = x0 - 1 := IntWalk.i64_in _ (by omega)
          have HN := Lib.hid (next_al hA)
          rw [show headD ((x0, x1) :: r) = (x0, x1) from rfl, show decide (0 < ((x0, x1) :: r).length) = true by simp] at HN
          have HAA := Lib.hid (And.intro hA (And.intro hB1 hB2))
          clear hA hB1 hB2 hnone hK hKl hbd hbd2 hrg HA HL h0
          go_wp2_with fail
          refine HN.out.mono ?_
          rintro e w2 ⟨rfl, hb⟩
          have hA2 := HAA.out.1.on hb
          have hB2 := seqB HAA.out.2.1 hb
          have hbd2 := hA2.bounds
          have HA3 := Lib.hid (hA2.on ((Below.refl _ _).alloc (Nat.le_refl _) (.cells #[.int .i64 x0, .int .i64 x1] 38)))
          have HB3 := Lib.hid (seqB hB2 ((Below.refl w2.heap.size w2).alloc (Nat.le_refl _) (.cells #[.int .i64 x0, .int .i64 x1] 38)))
          have HD3 := Lib.hid (heap_alloc_new w2 (.cells #[.int .i64 x0, .int .i64 x1] 38))
          have HLow := Lib.hid (show g < w2.heap.size ∧ mm < w2.heap.size ∧ ∀ i, u = some i → i < w2.heap.size from ⟨hbd2.1.2, hbd2.2.1.2, fun i hi => (hbd2.2.2 i hi).2⟩)
          clear hb hA2 hB2 hbd2
          go_wp2_with fail
          generalize w2.alloc (.cells #[.int .i64 x0, .int .i64 x1] 38) = w3 at *
          generalize w2.heap.size = db at *
          refine (take_al HA3.out (x0 - 1)).mono ?_
          rw [HS.out.1]
          rintro e w4 ⟨q4, d4, rfl, hT⟩
          have HA4 := Lib.hid hT.al
          rw [List.drop_zero] at HA4
          have HB4 := Lib.hid (put_below HB3.out HA3.out (put_here hT.al hT.kept) HAA.out.2.2)
          have HD4 := Lib.hid ((hT.kept.block _ (blk_lt HD3.out) (by have := HLow.out.1; omega) (fun e => by have := HLow.out.2.2 _ e; omega) (by have := HLow.out.2.1; omega)).trans HD3.out)
          have d40 := cell_of_row _ _ 0 _ _ _ HD4.out
          clear hT HA3 HB3 HD3
          go_wp2_with fail
          refine (take_al HA4.out x0).mono ?_
          rw [HS.out.2]
          rintro e w5 ⟨q5, d5, rfl, hT⟩
          have HB5 := Lib.hid (put_below HB4.out HA4.out (put_here hT.al hT.kept) HAA.out.2.2)
          have HD5 := Lib.hid ((hT.kept.block _ (blk_lt HD4.out) (by have := HLow.out.1; omega) (fun e => by have := HLow.out.2.2 _ e; omega) (by have := HLow.out.2.1; omega)).trans HD4.out)
          obtain ⟨b5, c5, e5, _⟩ := row_form (h := ((x0, x1) :: r).take (K + 1)) (by rw [List.length_take, Nat.min_eq_left (by rw [← HS.out.2]; exact due_le _ _)]; exact hT.own) (by simp)
          rw [List.length_take, Nat.min_eq_left (by rw [← HS.out.2]; exact due_le _ _)] at e5
          cases e5
          have HC := Lib.hid (show ∀ W, Below w5.heap.size w5 W → (W.cell? ⟨db, 0, none⟩ = some (.int .i64 x0) ∧ W.cell? ⟨db, 1, none⟩ = some (.int .i64 x1) ∧ W.cell? ⟨b5, 0, none⟩ = some (.int .i64 x0) ∧ W.cell? ⟨b5, 1, none⟩ = some (.int .i64 x1)) ∧ Below w5.heap.size w5 W from fun W hW => by
            have hd := (hW.block _ (blk_lt HD5.out)).trans HD5.out
            have ho := own_on hT.own hW
            have c0 := ho.cellAt 0 (by omega)
            have c1 := ho.cellAt 1 (by omega)
            exact ⟨⟨cell_of_row _ _ 0 _ _ _ hd, cell_of_row _ _ 1 _ _ _ hd, c0, c1⟩, hW⟩)
          clear hT HA4 HB4 HD4 d40
          go_wp2_with fail
          go_region_held (fun w' => (w'.cell? ⟨db, 0, none⟩ = some (.int .i64 x0) ∧ w'.cell? ⟨db, 1, none⟩ = some (.int .i64 x1) ∧ w'.cell? ⟨b5, 0, none⟩ = some (.int .i64 x0) ∧ w'.cell? ⟨b5, 1, none⟩ = some (.int .i64 x1)) ∧ Below w5.heap.size w5 w')
            ((refine HC.out _ ?_
              go_split_ands
              first
                | with_reducible exact (Below.refl _ _).drew
                | with_reducible assumption))
            (first
              | (go_at_call 11; go_split_ands; (with_reducible refine Calls.mono (alive_any _) ?_); rintro e w6 ⟨rfl, hb⟩; (have hb6 := seqB (by assumption) hb); clear hb))
          have HE := Lib.hid (seqB HB5.out hb6)
          clear hb6
          go_wp2_with fail
          go_ret
          exact ⟨ret_bool (by simp), HE.out⟩
        · obtain rfl : L = [] := List.eq_nil_of_length_eq_zero (by omega)
          obtain ⟨u, mm, hA, hB1, hB2⟩ := HA.out
          have HN := Lib.hid (next_al hA)
          rw [show headD [] = ((0 : Int), (0 : Int)) from rfl, show decide (0 < ([] : List Due).length) = false from rfl] at HN
          clear hA hB1 hB2 h0 hbd hbd2
          go_wp2_with fail
          refine HN.out.mono ?_
          rintro e w2 ⟨rfl, hb⟩
          have HA2 := Lib.hid ((HA.out.on hb).on ((Below.refl _ _).alloc (Nat.le_refl _) (.cells #[.int .i64 0, .int .i64 0] 38)))
          clear hb HN HA
          go_wp2_with fail
          refine (alive_any _).mono ?_
          rintro e w3 ⟨rfl, hb⟩
          have HA3 := Lib.hid (HA2.out.on hb)
          clear hb HA2
          go_wp2_with fail
          refine (len_at HA3.out (n := 0) rfl).mono ?_
          rintro e w4 ⟨rfl, rfl⟩
          go_wp2_with fail
          refine (take_k HA3.out 1099511627776 (K := 0) rfl (O := []) (D := []) rfl rfl).mono ?_
          rintro e w5 ⟨⟨q5, d5, rfl, _⟩, ha5, _⟩
          have HE := Lib.hid ha5.below
          clear ha5
          go_wp2_with fail
          go_ret
          exact ⟨ret_bool (by simp), HE.out⟩
end Go.Proofs.Ytpohfcjmjfhdoaa.alarmNext
