/-
  The walk of chicanelaw06.AlarmMoves: it returns true, whatever calls. Conditions: as each states.
-/
import Derived.Test.YtpohfcjmjfhdoaaH4
namespace Go.Proofs.Ytpohfcjmjfhdoaa.alarmMoves
open Go.RowKit Go.Sort Go.Maps

theorem when_at {w0 w : World} {B g : Nat} {L : List Due} {last : Int} (h : At w0 B g L last w) {id : Int} (hi : Wf64 id) {N : Int} {F : Bool} (hN : whenI L id = N) (hF : isIn L id = F) :
    Calls Try.prog 23 #[.pointer (some ⟨g, 0, none⟩), .int .i64 id] w fun e w' => e = .returned (.tuple #[.int .i64 N, .bool F]) ∧ w = w' := by
  obtain ⟨u, m, hA, _⟩ := h
  subst hN hF
  exact when_al hA hi
set_option maxRecDepth 100000 in
set_option maxHeartbeats 16000000 in
theorem walk (p : Option Addr) (m d : Nat) (os : List Call) (w : World) (hx : os.length = m) (_hmd : m ≤ d) (_hd : d ≤ 9223372036854775807) (hz : ∀ o ∈ os, Wf64 o.1 ∧ Wf64 o.2.1 ∧ Wf64 o.2.2) (hj : OpsIn w p m os) (id0 at0 : Int) (hid : Wf64 id0) :
    Calls Try.prog 7 #[.slice p m d, .int .i64 id0, .int .i64 at0] w fun e w' => e = .returned (.bool true) ∧ Below w.heap.size w w' := by
  have HX := Lib.hid hx
  have HI0 := Lib.hid hid
  have HJ := Lib.hid hj
  have HZ := Lib.hid hz
  clear hx hz hj hid
  go_enter Try.func7, Try.ntmps7
  go_wp2_with fail
  refine (new_at w _ (Below.refl _ _)).mono ?_
  rintro e w1 ⟨rfl, ha⟩
  have HA1 := Lib.hid ha
  clear ha
  generalize w.heap.size + 1 = g at *
  obtain ⟨B, hB⟩ : ∃ B, w.heap.size = B := ⟨_, rfl⟩
  rw [hB] at HA1
  clear hB
  by_cases hm : 200 < m
  · go_wp2_with fail
    refine (alive_any _).mono ?_
    rintro e w5 ⟨rfl, hb5⟩
    have HB5 := Lib.hid (HA1.out.on hb5).below
    clear hb5
    go_wp2_with fail
    go_ret
    exact ⟨rfl, HB5.out⟩
  · go_wp2_with fail
    go_loopw [38] (fun i wr => ∃ (k : Nat) (L : List Due) (last : Int), k ≤ m ∧ i = .int .i64 k ∧ Hid (At w B g L last wr) ∧ Hid (last ≤ k)) (fun i _ => m - (intOf i).toNat)
    case atStart => exact ⟨0, [], 0, by omega, rfl, HA1, Lib.hid (by omega)⟩
    case round =>
      obtain ⟨k, L, last, hk, rfl, HA, HL⟩ := hrel
      by_cases hlt : k < m
      · obtain ⟨b, o, rfl, hcell⟩ := ops_on HJ.out HA.out.below (by omega)
        obtain ⟨c0, c1, c2⟩ := hcell k hlt
        have hzk := HZ.out _ (at_of os k (by rw [HX.out]; exact hlt))
        generalize os.getD k noCall = O at *
        obtain ⟨kd, a, id⟩ := O
        simp only at c0 c1 c2
        rw [← Nat.add_assoc] at c1 c2
        have HID := Lib.hid hzk.2.2
        have hbl := World.block_lt_of_cell? wr _ c0
        have HA2 := Lib.hid (HA.out.on ((Below.refl wr.heap.size wr).alloc (Nat.le_refl _) (.cells #[.int .i64 kd, .int .i64 a, .int .i64 id] 30)))
        have HDL := Lib.hid (do_last L last kd a id)
        clear hcell hzk
        go_wp2_with fail
        refine (does_k HA2.out (by have := HL.out; omega) HID.out).mono ?_
        rintro e w3 ⟨q, n, c, rfl, _, ha3, _⟩
        have HA3 := Lib.hid ha3
        clear ha3 c0 c1 c2 HA2
        go_wp2_with fail
        go_roundw
        case rel => exact ⟨k + 1, _, _, by omega, by go_num, HA3, Lib.hid (by have := HDL.out; have := HL.out; simp only [Int.natCast_add]; omega)⟩
        case measure => simp [intOf]; omega
      · clear HA1
        have hbd := HA.out.bounds
        have hbd2 := HL.out
        obtain ⟨n, hn⟩ : ∃ n, L.length = n := ⟨_, rfl⟩
        have hn1 : n ≤ 1000 := by omega
        have HN := Lib.hid hn
        have HLK := Lib.hid (show last ≤ 1000 by omega)
        have HND := Lib.hid HA.out.srt.2
        clear hbd hbd2 hn HL
        obtain ⟨u, mm, hA, hB1, hB2⟩ := HA.out
        have HAA := Lib.hid (And.intro hA (And.intro hB1 hB2))
        have hbds := hA.bounds
        have HLow := Lib.hid (show g < wr.heap.size ∧ mm < wr.heap.size ∧ ∀ i, u = some i → i < wr.heap.size from ⟨hbds.1.2, hbds.2.1.2, fun i hi => (hbds.2.2 i hi).2⟩)
        clear hA hB1 hB2 hbds
        go_wp2_with fail
        refine (list_k HA.out HN.out).mono ?_
        rintro e w2 ⟨⟨q, c, rfl, ho⟩, hb⟩
        have HO2 := Lib.hid ho
        have HA2 := Lib.hid (HAA.out.1.on hb)
        have HB2 := Lib.hid (seqB HAA.out.2.1 hb)
        clear ho hb HA
        obtain ⟨T, hT⟩ : ∃ T, isIn L id0 = T := ⟨_, rfl⟩
        have HT := Lib.hid hT
        clear hT
        obtain ⟨N0, hN0⟩ : ∃ N0, whenI L id0 = N0 := ⟨_, rfl⟩
        go_wp2_with fail
        refine (when_at (w0 := w) ⟨u, mm, HA2.out, HB2.out, HAA.out.2.2⟩ HI0.out hN0 HT.out).mono ?_
        rintro e w3 ⟨rfl, rfl⟩
        clear hN0
        obtain ⟨F, hF⟩ : ∃ F, (isIn L id0 && rightB at0) = F := ⟨_, rfl⟩
        have HF := Lib.hid hF
        have HM := Lib.hid (move_al HA2.out (a := at0) HI0.out)
        rw [hF] at HM
        clear hF
        go_wp2_with fail
        refine HM.out.mono ?_
        rintro e w3 ⟨rfl, hp⟩
        have HA3 := Lib.hid (At.put HA2.out HB2.out HAA.out.2.2 hp)
        have HO3 := Lib.hid (show w3.ownsRow wr.heap.size 38 2 (.slice q n c) n (flat L) from by
          obtain ⟨_, _, _, hk⟩ := hp
          exact own_far HO2.out fun i h1 h2 => hk.block i h2 (by have := HLow.out.1; omega) (fun e => by have := HLow.out.2.2 _ e; omega) (by have := HLow.out.2.1; omega))
        clear hp HM HA2 HB2 HO2
        obtain ⟨N1, hN1⟩ : ∃ N1, whenI (moveL L id0 at0) id0 = N1 := ⟨_, rfl⟩
        have HW1 := Lib.hid (show F = true → N1 = at0 ∧ T = true from fun e => by
          have h1 := HF.out
          rw [e, Bool.and_eq_true] at h1
          exact ⟨by rw [← hN1]; exact move_when HND.out HA3.out.srt.2 h1.1 h1.2, by rw [← HT.out]; exact h1.1⟩)
        go_wp2_with fail
        refine (when_at HA3.out HI0.out hN1 (F := T) (by rw [move_isIn HND.out, HT.out])).mono ?_
        rintro e w4 ⟨rfl, rfl⟩
        clear hN1
        obtain ⟨Z, hZ⟩ : ∃ Z, wr.heap.size = Z := ⟨_, rfl⟩
        rw [hZ] at HO3
        clear hZ HLow HAA
        clear wr
        have HND3 := Lib.hid HA3.out.srt.2
        have hkey : (F = true ∧ at0 = N1 ∧ T = true) ∨ F = false := by
          cases hF : F with
          | true => exact Or.inl ⟨rfl, (HW1.out hF).1.symm, (HW1.out hF).2⟩
          | false => exact Or.inr rfl
        clear HW1 HF
        rcases hkey with ⟨rfl, rfl, rfl⟩ | rfl
        all_goals
          go_wp2_with fail
          go_loopw [85] (fun i wr => ∃ (j : Nat), j ≤ n ∧ i = .int .i64 j ∧ Hid (At w B g (moveL L id0 at0) last wr) ∧ Hid (wr.ownsRow Z 38 2 (.slice q n c) n (flat L))) (fun i _ => n - (intOf i).toNat)
          case atStart => exact ⟨0, by omega, rfl, HA3, HO3⟩
          case round =>
            obtain ⟨j, hj, rfl, HA4, HO4⟩ := hrel
            by_cases hjn : j < n
            · have hno : n = L.length := HN.out.symm
              obtain ⟨b5, c5, e5, _⟩ := row_form (h := L) (by rw [← hno]; exact HO4.out) (by omega)
              rw [← hno] at e5
              cases e5
              obtain ⟨r0, r1⟩ := row_cells (h := L) (by rw [← hno]; exact HO4.out) (k := j) (by omega)
              obtain ⟨x, hx⟩ : ∃ x, L.getD j (0, 0) = x := ⟨_, rfl⟩
              have hxm : x ∈ L := by
                rw [← hx, List.getD_eq_getElem?_getD, List.getElem?_eq_getElem (by omega)]
                exact List.getElem_mem _
              rw [hx] at r0 r1
              have hxr := (HA4.out.rg)
              obtain ⟨M, hM⟩ : ∃ M, whenI (moveL L id0 at0) x.2 = M := ⟨_, rfl⟩
              have hst : x.2 ≠ id0 → M = x.1 := fun hne => by rw [← hM]; exact move_stays HND.out HND3.out hxm hne
              have hin : isIn (moveL L id0 at0) x.2 = true := by rw [move_isIn HND.out]; exact (when_mem HND.out hxm).2
              have hwf : Wf64 x.2 := by
                obtain ⟨d', h1, h2⟩ := isIn_iff.1 hin
                have := (hxr d' h1).2
                have := HLK.out
                rw [← h2]
                exact ⟨by omega, by omega⟩
              obtain ⟨x0, x1⟩ := x
              dsimp only at r0 r1 hM hst hin hwf
              have hbl := World.block_lt_of_cell? wr _ r0
              have hal : Below wr.heap.size wr (wr.alloc (.cells #[.int .i64 x0, .int .i64 x1] 38)) := (Below.refl _ _).alloc (Nat.le_refl _) _
              have HA5 := Lib.hid (HA4.out.on hal)
              have HO5 := Lib.hid (own_on HO4.out hal)
              have HWn := Lib.hid (when_at HA5.out hwf hM hin)
              clear hal hx hxm hM hin hwf hno hxr
              go_wp2_with fail
              refine HWn.out.mono ?_
              rintro e w6 ⟨rfl, rfl⟩
              clear HWn
              by_cases hid1 : x1 = id0
              · have hb1 : (x1 != id0) = false := by simpa using hid1
                clear hst hid1
                go_wp2_with fail
                go_roundw
                case rel => exact ⟨j + 1, by omega, by go_num, HA5, HO5⟩
                case measure => simp [intOf]; omega
              · have hM := hst hid1
                subst hM
                have hb1 : (x1 != id0) = true := by simpa using hid1
                clear hst hid1
                go_wp2_with fail
                go_roundw
                case rel => exact ⟨j + 1, by omega, by go_num, HA5, HO5⟩
                case measure => simp [intOf]; omega
            · clear HA3 HO3
              have hcg := cancel_gone HND3.out id0
              have hTi := (move_isIn HND.out id0 at0 id0).trans HT.out
              obtain ⟨D, hD⟩ : ∃ D, (if isIn (moveL L id0 at0) id0 = true then (moveL L id0 at0).eraseIdx (findN (moveL L id0 at0) id0) else moveL L id0 at0) = D := ⟨_, rfl⟩
              rw [hD] at hcg
              rw [hTi] at hD
              have HCn := Lib.hid (cancel_at HA4.out HI0.out hTi hD)
              have HCg := Lib.hid hcg
              clear hcg hTi hD
              go_wp2_with fail
              refine HCn.out.mono ?_
              rintro e w5 ⟨rfl, ha5⟩
              have HA5 := Lib.hid ha5
              clear ha5 HCn HA4 HO4
              obtain ⟨N2, hN2⟩ : ∃ N2, whenI D id0 = N2 := ⟨_, rfl⟩
              go_wp2_with fail
              refine (when_at HA5.out HI0.out hN2 HCg.out).mono ?_
              rintro e w6 ⟨rfl, rfl⟩
              clear hN2
              go_wp2_with fail
              refine (alive_any _).mono ?_
              rintro e w6 ⟨rfl, hb6⟩
              have HA6 := Lib.hid (HA5.out.on hb6)
              clear hb6 HA5
              go_wp2_with fail
              refine (check_at HA6.out).mono ?_
              rintro e w7 ⟨rfl, hb7⟩
              have HE := Lib.hid (HA6.out.on hb7).below
              clear hb7 HA6
              go_wp2_with fail
              go_ret
              exact ⟨ret_bool (by simp), HE.out⟩
end Go.Proofs.Ytpohfcjmjfhdoaa.alarmMoves
