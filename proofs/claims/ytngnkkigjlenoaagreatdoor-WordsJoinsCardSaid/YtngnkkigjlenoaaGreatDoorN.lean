/-
  Contract: a replacer of single bytes. Conditions: the text's length.
-/
import Derived.Test.YtngnkkigjlenoaaGreatDoorL
namespace Go.Proofs.YtngnkkigjlenoaaGreatDoor
open Go.RowKit

theorem esc_part (xs : List Int) (k : Nat) : (escL (xs.take k)).length ≤ (escL xs).length := by
  have h := esc_app (xs.take k) (xs.drop k)
  rw [List.take_append_drop] at h
  rw [h, List.length_append]
  omega
/-- A builtin whose run is known, as one step of a region that draws its order. -/
theorem step_copy_eq {P : Program} {ops : Array Oper} {o : Oper} {a : Act} {w : World} {K : Act → World → Prop} {Q : Exit → Act → World → Prop} {E : Prop} (hg : o.guard = none) (d s : Operand) (t t' : TypeId)
    (hop : o.op = .call { callee := .builtin .copy, args := #[d, s], argTypes := #[t, t'] }) (x y : Value) (hd : a.eval d = x) (hs : a.eval s = y) {v' : Value} {w' : World} (hr : ∀ ty, (Builtin.copy_ #[t, t'] ty #[x, y]).run P w = .ok v' w') (hK : K (a.put o.dst v') w') :
    if Region.wanted o (yielded ops a.tmps) = true then Oper.wp P o a w K Q else E := by
  rw [if_pos (show Region.wanted o (yielded ops a.tmps) = true by simp [Region.wanted, hg])]
  unfold Oper.wp
  have h := hr o.type
  simp [execOp, hop, resolve, invoke, builtin, hd, hs, h, Result.andThen]
  exact hK
set_option maxRecDepth 100000 in
set_option maxHeartbeats 8000000 in
theorem brep_any {H : Nat} (s : ByteArray) (hs : s.size ≤ 256) (w : World) (hr : RC H w (tJ 0) g0) : Calls Tryz.prog 120 #[.pointer (some ⟨H, 0, none⟩), .string s] w fun e w' => e = .returned (.string (strOfNums (escL (nums s)))) ∧ Below w.heap.size w w' := by
  have HRC := Lib.hid hr
  obtain ⟨rb, rd, r0, r1, r2⟩ := hr.row
  have hel := esc_len (nums s)
  rw [nums_length] at hel
  obtain ⟨N, hN⟩ : ∃ N, (escL (nums s)).length = N := ⟨_, rfl⟩
  have HNl := Lib.hid hN
  rw [hN] at hel
  have hN1 : N ≤ 1000 := by omega
  have hN0 : s.size ≤ N := hel.1
  have hnot : ∀ (x : Bool) (w : World), (Op.unary .not (.bool x)).run Tryz.prog w = .ok (.bool (!x)) w := fun _ _ => rfl
  clear hr hel hN
  by_cases h16 : 16 ≤ s.size
  · have d16 : decide ((16 : Int) ≤ (s.size : Int)) = true := by simp; omega
    have hcnt := esc_count s.data.toList
    have hl : s.data.toList.length = s.size := by simp
    have hNN := HNl.out
    unfold nums at hNN
    rw [hcnt, hl] at hNN
    have Hc1 := Lib.hid (fun W => Tryz.strings_Count_one s 92 W)
    have Hc2 := Lib.hid (fun W => Tryz.strings_Count_one s 34 W)
    clear hcnt hl
    generalize Lib.countByte s.data.toList 92 = c1 at *
    generalize Lib.countByte s.data.toList 34 = c2 at *
    have HNN := Lib.hid hNN
    have hc1m : c1 ≤ 1000 := by omega
    have hc2m : c2 ≤ 1000 := by omega
    clear hNN h16
    go_enter Tryz.func120, Tryz.ntmps120
    go_wp2_with fail
    go_loopw [5, 6, 8, 9, 32] (fun z b _ _ i wr => ∃ (i' : Int) (z' : Nat) (b' : Bool), i = .int .i64 i' ∧ z = .int .i64 z' ∧ b = .bool b' ∧ Hid (Below w.heap.size w wr) ∧ ((i' = 0 ∧ Hid (z' = s.size ∧ b' = false) ∧ z' ≤ 256) ∨ (i' = 1 ∧ Hid (z' = s.size + c1 ∧ b' = decide (0 < c1)) ∧ z' ≤ 1256) ∨ (i' = 2 ∧ Hid (z' = s.size + c1 + c2 ∧ b' = decide (0 < c1 + c2)) ∧ z' ≤ 2256))) (fun _ _ _ _ i _ => (2 - intOf i).toNat)
    case atStart => exact ⟨0, s.size, false, rfl, rfl, rfl, Lib.hid (Below.refl _ _), Or.inl ⟨rfl, Lib.hid ⟨rfl, rfl⟩, hs⟩⟩
    case round =>
      obtain ⟨i', z', b', rfl, rfl, rfl, HV, hcase⟩ := hrel
      replace r0 := (HV.out.cell (World.block_lt_of_cell? w _ r0)).trans r0
      replace r1 := (HV.out.cell (World.block_lt_of_cell? w _ r1)).trans r1
      replace r2 := (HV.out.cell (World.block_lt_of_cell? w _ r2)).trans r2
      replace HRC := Lib.hid (HRC.out.on HV.out)
      rcases hcase with ⟨rfl, HI, hzz⟩ | ⟨rfl, HI, hzz⟩ | ⟨rfl, HI, hzz⟩
      · obtain ⟨hno, _⟩ | ⟨_, p, dd, c0, _, _⟩ := HRC.out.sign (92 : Int) 92 rfl (by decide)
        · exact absurd (by decide) hno
        have hz : b92.size = 1 := rfl
        have hx : (b92[0]'(by decide)).toNat = 92 := rfl
        by_cases hc : c1 = 0
        · have q0 : ((c1 : Int) != 0) = false := by simp; omega
          go_wp2_with (go_at_call 42; refine (Hc1.out _).mono ?_; rintro e w' ⟨rfl, rfl⟩)
          go_roundw
          case rel => exact ⟨1, _, b', rfl, rfl, rfl, HV, Or.inr (Or.inl ⟨rfl, Lib.hid ⟨by have := HI.out.1; omega, by rw [HI.out.2, hc]; rfl⟩, by omega⟩)⟩
          case measure => simp [intOf]
        · have q0 : ((c1 : Int) != 0) = true := by simp; omega
          have hw0 : IntKind.i64.wrap (c1 : Int) = c1 := IntWalk.i64_in _ (by omega)
          have hw1 : IntKind.i64.wrap ((z' : Int) + (c1 : Int)) = (z' : Int) + (c1 : Int) := IntWalk.i64_in _ (by omega)
          go_wp2_with (go_at_call 42; refine (Hc1.out _).mono ?_; rintro e w' ⟨rfl, rfl⟩)
          go_quiet (fail)
          go_wp2_with fail
          go_roundw
          case rel => exact ⟨1, _, true, rfl, by go_num, rfl, Lib.hid (low_drewN HV.out _), Or.inr (Or.inl ⟨rfl, Lib.hid ⟨by have := HI.out.1; omega, by symm; rw [decide_eq_true_iff]; omega⟩, by omega⟩)⟩
          case measure => simp [intOf]
      · obtain ⟨hno, _⟩ | ⟨_, p, dd, c0, _, _⟩ := HRC.out.sign (34 : Int) 34 rfl (by decide)
        · exact absurd (by decide) hno
        have hz : b34.size = 1 := rfl
        have hx : (b34[0]'(by decide)).toNat = 34 := rfl
        by_cases hc : c2 = 0
        · have q0 : ((c2 : Int) != 0) = false := by simp; omega
          go_wp2_with (go_at_call 42; refine (Hc2.out _).mono ?_; rintro e w' ⟨rfl, rfl⟩)
          go_roundw
          case rel => exact ⟨2, _, b', rfl, rfl, rfl, HV, Or.inr (Or.inr ⟨rfl, Lib.hid ⟨by have := HI.out.1; omega, by rw [HI.out.2, hc, Nat.add_zero]⟩, by omega⟩)⟩
          case measure => simp [intOf]
        · have q0 : ((c2 : Int) != 0) = true := by simp; omega
          have hw0 : IntKind.i64.wrap (c2 : Int) = c2 := IntWalk.i64_in _ (by omega)
          have hw1 : IntKind.i64.wrap ((z' : Int) + (c2 : Int)) = (z' : Int) + (c2 : Int) := IntWalk.i64_in _ (by omega)
          go_wp2_with (go_at_call 42; refine (Hc2.out _).mono ?_; rintro e w' ⟨rfl, rfl⟩)
          go_quiet (fail)
          go_wp2_with fail
          go_roundw
          case rel => exact ⟨2, _, true, rfl, by go_num, rfl, Lib.hid (low_drewN HV.out _), Or.inr (Or.inr ⟨rfl, Lib.hid ⟨by have := HI.out.1; omega, by symm; rw [decide_eq_true_iff]; omega⟩, by omega⟩)⟩
          case measure => simp [intOf]
      · have HF := Lib.hid (show z' = N ∧ b' = decide (s.size < N) from by
          have hi := HI.out
          have hn := HNN.out
          exact ⟨by omega, by rw [hi.2, decide_eq_decide]; omega⟩)
        clear HI Hc1 Hc2 hzz
        obtain ⟨v, hv⟩ : ∃ v, v = wr := ⟨_, rfl⟩
        subst hv
        obtain ⟨hz', hb'⟩ := HF.out
        replace hz' := hz'.symm
        subst hz'
        clear HF
        cases b' with
        | false =>
          have HE := Lib.hid (show strOfNums (escL (nums s)) = s from by
            have h1 := of_decide_eq_false hb'.symm
            have h2 := HNl.out
            rw [esc_same (nums s) (by rw [nums_length]; omega), str_nums])
          clear hb' HRC HNl
          go_wp2_with fail
          go_ret
          exact ⟨by rw [HE.out]; rfl, HV.out⟩
        | true =>
          obtain ⟨w1, hmk, hzr, hbl⟩ := ZR.made v N hN1
          have HZ0 := Lib.hid hzr
          have HB0 := Lib.hid hbl
          clear hb' hzr hbl
          go_wp2_with fail
          go_loopw [13, 14, 15] (fun j i _ wr => ∃ k L : Nat, k ≤ s.size ∧ i = .int .i64 k ∧ j = .int .i64 L ∧ Hid ((escL ((nums s).take k)).length = L) ∧ Hid (ZR wr v.heap.size N (escL ((nums s).take k))) ∧ Hid (Below v.heap.size v wr)) (fun _ i _ _ => s.size - (intOf i).toNat)
          case atStart => exact ⟨0, 0, Nat.zero_le _, rfl, rfl, Lib.hid rfl, HZ0, HB0⟩
          case round =>
            clear HZ0 HB0 hmk
            obtain ⟨k, L, hk, rfl, rfl, HL, HZ, HB⟩ := hrel
            have hszw := HB.out.size
            by_cases hlt : k < s.size
            · have d1 : decide ((k : Int) < (s.size : Int)) = true := by simp; omega
              obtain ⟨i, hi⟩ : ∃ i, (s[k]'hlt).toNat = i := ⟨_, rfl⟩
              have hi256 : i < 256 := by rw [← hi]; exact (s[k]'hlt).toNat_lt
              have hc : (nums s).getD k 0 = (i : Int) := by rw [← nums_at s k hlt, hi]
              have hst := esc_take (xs := nums s) (k := k) (by rw [nums_length]; exact hlt)
              rw [hc] at hst
              have hle := esc_part (nums s) (k + 1)
              rw [HNl.out, hst, List.length_append, HL.out] at hle
              rcases (HRC.out.on HB.out).sign (i : Int) i rfl hi256 with ⟨hno, c0⟩ | ⟨hyes, p, dd, c0, c1, c2⟩
              · rw [if_neg hno] at hst hle
                simp only [List.length_singleton] at hle
                have hnn := nil_ne
                obtain ⟨xx, f0⟩ := HZ.out.cell (j := L) (by omega)
                have f1 : wr.frozen? ⟨v.heap.size, L, none⟩ = false := frozen_at HZ.out.1
                have hw1 : IntKind.i64.wrap ((L : Int) + 1) = (L : Int) + 1 := IntWalk.i64_in _ (by omega)
                have hw2 : IntKind.i64.wrap ((k : Int) + 1) = (k : Int) + 1 := IntWalk.i64_in _ (by omega)
                have HZ1 := Lib.hid (show ZR (wr.setCell ⟨v.heap.size, L, none⟩ (.int .u8 (i : Int))) v.heap.size N (escL ((nums s).take (k + 1))) from by rw [hst, ← HL.out]; exact HZ.out.put (by rw [HL.out]; omega) _)
                have HL1 := Lib.hid (show (escL ((nums s).take (k + 1))).length = L + 1 from by rw [hst, List.length_append, HL.out]; rfl)
                have HB1 := Lib.hid (HB.out.setCell (p := ⟨v.heap.size, L, none⟩) (Nat.le_refl _) (.int .u8 (i : Int)))
                clear hst hno HZ HL HB hc
                go_wp2_with fail
                go_roundw
                case rel => exact ⟨k + 1, L + 1, by omega, by go_num, by go_num, HL1, HZ1, HB1⟩
                case measure => simp [intOf]; omega
              · rw [if_pos hyes] at hst hle
                simp only [List.length_cons, List.length_nil, Nat.zero_add, Nat.reduceAdd] at hle
                have hsn := some_ne
                obtain ⟨w2, hcp, hz2, hb2⟩ := ZR.copy (w := wr.drew) (d := N - L) (d' := dd) (show ZR wr.drew v.heap.size N _ from HZ.out) (by rw [HL.out]; omega) c1 c2
                rw [HL.out] at hcp
                have hw1 : IntKind.i64.wrap ((L : Int) + 2) = (L : Int) + 2 := IntWalk.i64_in _ (by omega)
                have hw2 : IntKind.i64.wrap ((k : Int) + 1) = (k : Int) + 1 := IntWalk.i64_in _ (by omega)
                have hln : L ≤ N := by omega
                have hnl : ¬ N = L := by omega
                have hii : (i : Int) < 256 := by omega
                have HC := Lib.hid hcp
                have HZ1 := Lib.hid (show ZR w2 v.heap.size N (escL ((nums s).take (k + 1))) from by rw [hst]; exact hz2)
                have HL1 := Lib.hid (show (escL ((nums s).take (k + 1))).length = L + 2 from by rw [hst, List.length_append, HL.out]; rfl)
                have HB1 := Lib.hid (hb2 _ _ HB.out.drew (Nat.le_refl _))
                clear hst hyes HZ HL HB hc hcp hz2 hb2
                go_wp2_with fail
                go_region_law (refine step_copy_eq rfl (.tmp 105) (.tmp 111) 40 40 rfl (.slice (some ⟨v.heap.size, L, none⟩) (N - L) (N - L)) (.slice (some ⟨p, 0, none⟩) 2 dd) rfl rfl HC.out ?_)
                all_goals go_wp2_with fail
                all_goals go_roundw
                all_goals first | exact ⟨k + 1, L + 2, by omega, by go_num, by go_num, HL1, HZ1, HB1⟩ | (simp [intOf]; omega)
            · obtain rfl : k = s.size := by omega
              have d1 : decide ((s.size : Int) < (s.size : Int)) = false := by simp
              have hz := HZ.out
              have hl := HL.out
              rw [← nums_length s, List.take_length] at hz hl
              have hcv := conv_bytes (hz.bytes HNl.out) HNl.out N
              clear hz hl HZ HL
              go_wp2_with fail
              go_ret
              exact ⟨rfl, HV.out.trans (HB.out.mono HV.out.size)⟩
  · have d16 : decide ((16 : Int) ≤ (s.size : Int)) = false := by simp; omega
    clear r1 r2 h16
    go_enter Tryz.func120, Tryz.ntmps120
    go_wp2_with fail
    go_loopw [5, 6, 10, 11] (fun z b i _ wr => ∃ (k z' : Nat) (b' : Bool), k ≤ s.size ∧ i = .int .i64 k ∧ z = .int .i64 z' ∧ b = .bool b' ∧ w = wr ∧ z' ≤ 1000 ∧ Hid (z' = s.size + ((escL ((nums s).take k)).length - k) ∧ b' = decide (k < (escL ((nums s).take k)).length))) (fun _ _ i _ _ => s.size - (intOf i).toNat)
    case atStart => exact ⟨0, s.size, false, Nat.zero_le _, rfl, rfl, rfl, rfl, by omega, Lib.hid ⟨rfl, rfl⟩⟩
    case round =>
      obtain ⟨k, z', b', hk, rfl, rfl, rfl, rfl, hz1000, HI⟩ := hrel
      by_cases hlt : k < s.size
      · have d1 : decide ((k : Int) < (s.size : Int)) = true := by simp; omega
        obtain ⟨i, hi⟩ : ∃ i, (s[k]'hlt).toNat = i := ⟨_, rfl⟩
        have hi256 : i < 256 := by rw [← hi]; exact (s[k]'hlt).toNat_lt
        have hc : (nums s).getD k 0 = (i : Int) := by rw [← nums_at s k hlt, hi]
        have hst := esc_take (xs := nums s) (k := k) (by rw [nums_length]; exact hlt)
        rw [hc] at hst
        have hst := congrArg List.length hst
        have hlk := (esc_len ((nums s).take k)).1
        have hle := esc_part (nums s) (k + 1)
        have hle2 := (esc_len ((nums s).take (k + 1))).2
        rw [List.length_take, nums_length] at hlk hle2
        obtain ⟨hi1, hi2⟩ := HI.out
        have hw2 : IntKind.i64.wrap ((k : Int) + 1) = (k : Int) + 1 := IntWalk.i64_in _ (by omega)
        rcases HRC.out.sign (i : Int) i rfl hi256 with ⟨hno, c0⟩ | ⟨hyes, p, dd, c0, _, _⟩
        · rw [if_neg hno, List.length_append, List.length_singleton] at hst
          have hnn := nil_ne
          have HI1 := Lib.hid (show z' = s.size + ((escL ((nums s).take (k + 1))).length - (k + 1)) ∧ b' = decide (k + 1 < (escL ((nums s).take (k + 1))).length) from by
            rw [hst, hi2]
            exact ⟨by omega, by rw [decide_eq_decide]; omega⟩)
          clear hst hno HI hc hlk hle hle2 hi1 hi2
          go_wp2_with fail
          go_roundw
          case rel => exact ⟨k + 1, z', b', by omega, by go_num, rfl, rfl, by first | rfl | trivial, by omega, HI1⟩
          case measure => simp [intOf]; omega
        · rw [if_pos hyes, List.length_append] at hst
          simp only [List.length_cons, List.length_nil, Nat.zero_add, Nat.reduceAdd] at hst
          have hsn := some_ne
          have hw1 : IntKind.i64.wrap ((z' : Int) + 1) = (z' : Int) + 1 := IntWalk.i64_in _ (by omega)
          have hz2 : z' + 1 ≤ 1000 := by omega
          have HI1 := Lib.hid (show z' + 1 = s.size + ((escL ((nums s).take (k + 1))).length - (k + 1)) ∧ true = decide (k + 1 < (escL ((nums s).take (k + 1))).length) from by
            rw [hst]
            exact ⟨by omega, by symm; rw [decide_eq_true_iff]; omega⟩)
          clear hst hyes HI hc hlk hle hle2 hi1 hi2
          go_wp2_with fail
          go_roundw
          case rel => exact ⟨k + 1, z' + 1, true, by omega, by go_num, by go_num, rfl, by first | rfl | trivial, hz2, HI1⟩
          case measure => simp [intOf]; omega
      · obtain rfl : k = s.size := by omega
        have d1 : decide ((s.size : Int) < (s.size : Int)) = false := by simp
        have HF := Lib.hid (show z' = N ∧ b' = decide (s.size < N) from by
          have hi := HI.out
          rw [← nums_length s, List.take_length, HNl.out, nums_length] at hi
          exact ⟨by omega, hi.2⟩)
        clear HI
        obtain ⟨hz', hb'⟩ := HF.out
        replace hz' := hz'.symm
        subst hz'
        clear HF
        cases b' with
        | false =>
          have HE := Lib.hid (show strOfNums (escL (nums s)) = s from by
            have h1 := of_decide_eq_false hb'.symm
            have h2 := HNl.out
            rw [esc_same (nums s) (by rw [nums_length]; omega), str_nums])
          clear hb' HRC HNl
          go_wp2_with fail
          go_ret
          exact ⟨by rw [HE.out]; rfl, Below.refl _ _⟩
        | true =>
          obtain ⟨w1, hmk, hzr, hbl⟩ := ZR.made w N hN1
          have HZ0 := Lib.hid hzr
          have HB0 := Lib.hid hbl
          clear hb' hzr hbl
          go_wp2_with fail
          go_loopw [13, 14, 15] (fun j i _ wr => ∃ k L : Nat, k ≤ s.size ∧ i = .int .i64 k ∧ j = .int .i64 L ∧ Hid ((escL ((nums s).take k)).length = L) ∧ Hid (ZR wr w.heap.size N (escL ((nums s).take k))) ∧ Hid (Below w.heap.size w wr)) (fun _ i _ _ => s.size - (intOf i).toNat)
          case atStart => exact ⟨0, 0, Nat.zero_le _, rfl, rfl, Lib.hid rfl, HZ0, HB0⟩
          case round =>
            clear HZ0 HB0 hmk
            obtain ⟨k, L, hk, rfl, rfl, HL, HZ, HB⟩ := hrel
            have hszw := HB.out.size
            by_cases hlt : k < s.size
            · have d1 : decide ((k : Int) < (s.size : Int)) = true := by simp; omega
              obtain ⟨i, hi⟩ : ∃ i, (s[k]'hlt).toNat = i := ⟨_, rfl⟩
              have hi256 : i < 256 := by rw [← hi]; exact (s[k]'hlt).toNat_lt
              have hc : (nums s).getD k 0 = (i : Int) := by rw [← nums_at s k hlt, hi]
              have hst := esc_take (xs := nums s) (k := k) (by rw [nums_length]; exact hlt)
              rw [hc] at hst
              have hle := esc_part (nums s) (k + 1)
              rw [HNl.out, hst, List.length_append, HL.out] at hle
              rcases (HRC.out.on HB.out).sign (i : Int) i rfl hi256 with ⟨hno, c0⟩ | ⟨hyes, p, dd, c0, c1, c2⟩
              · rw [if_neg hno] at hst hle
                simp only [List.length_singleton] at hle
                have hnn := nil_ne
                obtain ⟨xx, f0⟩ := HZ.out.cell (j := L) (by omega)
                have f1 : wr.frozen? ⟨w.heap.size, L, none⟩ = false := frozen_at HZ.out.1
                have hw1 : IntKind.i64.wrap ((L : Int) + 1) = (L : Int) + 1 := IntWalk.i64_in _ (by omega)
                have hw2 : IntKind.i64.wrap ((k : Int) + 1) = (k : Int) + 1 := IntWalk.i64_in _ (by omega)
                have HZ1 := Lib.hid (show ZR (wr.setCell ⟨w.heap.size, L, none⟩ (.int .u8 (i : Int))) w.heap.size N (escL ((nums s).take (k + 1))) from by rw [hst, ← HL.out]; exact HZ.out.put (by rw [HL.out]; omega) _)
                have HL1 := Lib.hid (show (escL ((nums s).take (k + 1))).length = L + 1 from by rw [hst, List.length_append, HL.out]; rfl)
                have HB1 := Lib.hid (HB.out.setCell (p := ⟨w.heap.size, L, none⟩) (Nat.le_refl _) (.int .u8 (i : Int)))
                clear hst hno HZ HL HB hc
                go_wp2_with fail
                go_roundw
                case rel => exact ⟨k + 1, L + 1, by omega, by go_num, by go_num, HL1, HZ1, HB1⟩
                case measure => simp [intOf]; omega
              · rw [if_pos hyes] at hst hle
                simp only [List.length_cons, List.length_nil, Nat.zero_add, Nat.reduceAdd] at hle
                have hsn := some_ne
                obtain ⟨w2, hcp, hz2, hb2⟩ := ZR.copy (w := wr.drew) (d := N - L) (d' := dd) (show ZR wr.drew w.heap.size N _ from HZ.out) (by rw [HL.out]; omega) c1 c2
                rw [HL.out] at hcp
                have hw1 : IntKind.i64.wrap ((L : Int) + 2) = (L : Int) + 2 := IntWalk.i64_in _ (by omega)
                have hw2 : IntKind.i64.wrap ((k : Int) + 1) = (k : Int) + 1 := IntWalk.i64_in _ (by omega)
                have hln : L ≤ N := by omega
                have hnl : ¬ N = L := by omega
                have hii : (i : Int) < 256 := by omega
                have HC := Lib.hid hcp
                have HZ1 := Lib.hid (show ZR w2 w.heap.size N (escL ((nums s).take (k + 1))) from by rw [hst]; exact hz2)
                have HL1 := Lib.hid (show (escL ((nums s).take (k + 1))).length = L + 2 from by rw [hst, List.length_append, HL.out]; rfl)
                have HB1 := Lib.hid (hb2 _ _ HB.out.drew (Nat.le_refl _))
                clear hst hyes HZ HL HB hc hcp hz2 hb2
                go_wp2_with fail
                go_region_law (refine step_copy_eq rfl (.tmp 105) (.tmp 111) 40 40 rfl (.slice (some ⟨w.heap.size, L, none⟩) (N - L) (N - L)) (.slice (some ⟨p, 0, none⟩) 2 dd) rfl rfl HC.out ?_)
                all_goals go_wp2_with fail
                all_goals go_roundw
                all_goals first | exact ⟨k + 1, L + 2, by omega, by go_num, by go_num, HL1, HZ1, HB1⟩ | (simp [intOf]; omega)
            · obtain rfl : k = s.size := by omega
              have d1 : decide ((s.size : Int) < (s.size : Int)) = false := by simp
              have hz := HZ.out
              have hl := HL.out
              rw [← nums_length s, List.take_length] at hz hl
              have hcv := conv_bytes (hz.bytes HNl.out) HNl.out N
              clear hz hl HZ HL
              go_wp2_with fail
              go_ret
              exact ⟨rfl, HB.out⟩
end Go.Proofs.YtngnkkigjlenoaaGreatDoor
