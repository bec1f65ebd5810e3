/-
  The walk of chicanelaw03.CrcShort: it returns true, whatever bytes. Conditions: as each states.
-/
import Derived.Test.YtbfbbfcfijgakaaW7
import Derived.Deep.RegionHeld3
namespace Go.Proofs.Ytbfbbfcfijgakaa.crcShort
open Go.RowKit

theorem tail_zero (T : ByteArray) (h : T = strOfNums (tailL 0#32)) (w : World) : Calls Try.prog 19 #[.int .u32 0] w fun e w' => e = .returned (.string T) ∧ Below w.heap.size w w' := by
  rw [h]
  exact rtail_any 0#32 w

set_option maxHeartbeats 2000000 in
theorem walk_long (p : Option Addr) (n c : Nat) (h : 4 < n) (w : World) :
    Calls Try.prog 6 #[.slice p n c] w fun e w' => e = .returned (.bool true) ∧ Below w.heap.size w w' := by
  have d1 : decide ((4 : Int) < (n : Int)) = true := by simp; omega
  go_enter Try.func6, Try.ntmps6
  go_wp2_with fail
  refine (alive_any _).mono ?_
  rintro e w5 ⟨rfl, hb5⟩
  have HB5 := Lib.hid hb5
  clear hb5
  go_wp2_with fail
  go_ret
  exact ⟨rfl, HB5.out⟩
set_option maxHeartbeats 2000000 in
theorem walk_short (p : Option Addr) (n c : Nat) (h : n < 4) (w : World) :
    Calls Try.prog 6 #[.slice p n c] w fun e w' => e = .returned (.bool true) ∧ Below w.heap.size w w' := by
  have d1 : decide ((4 : Int) < (n : Int)) = false := by simp; omega
  have d2 : ((n : Int) == 4) = false := by simp; omega
  go_enter Try.func6, Try.ntmps6
  go_wp2_with fail
  refine (open_short _ _ _ _ h).mono ?_
  rintro e w1 ⟨rfl, hb1⟩
  have HB1 := Lib.hid hb1
  clear hb1
  go_wp2_with fail
  refine wp_region_held_drew (S := fun w' => Below w1.heap.size w1 w') (by kernel_rfl) (Below.refl w1.heap.size w1).drew (fun hHeld => ?_)
  refine wpAnyH_ready (rs := [0]) (by kernel_rfl) (by simp) ?_
  refine AllReadyH.cons (o := { dst := some 14, op := Op.call { callee := Callee.value (Operand.func 10), args := #[], argTypes := #[] }, type := 4, pos := "law.go:60", after := #[], guard := none }) rfl (fun K hK => ?_) AllReadyH.nil
  go_simp
  go_at_call 10
  refine (alive_any _).mono ?_
  rintro e w2 ⟨rfl, hb2⟩
  go_wp2_with fail
  refine hK.out _ _ (seqB hHeld hb2) (fun hHeld2 => ?_)
  clear hK K hHeld hb2
  refine wpAnyH_take (i := 1) (oi := { dst := some 15, op := Op.move (Operand.tmp 14), type := 4, pos := "law.go:60", after := #[{ on := 0, ground := Ground.data }, { on := 0, ground := Ground.chain }], guard := none }) (v := ?v1) rfl (by kernel_rfl) (by kernel_rfl) (by kernel_rfl) (fun _ _ _ h => h) (Or.inl ⟨by rfl, ?hy1⟩) hHeld2 ?rest1
  case hy1 =>
    intro w hSw
    (go_simp <;> with_reducible rfl)
  simp only [Act.put, List.setIfInBounds_toArray, List.set_cons_zero, List.set_cons_succ]
  refine wpAnyH_take (i := 2) (oi := { dst := some 16, op := Op.move (Operand.tmp 3), type := 22, pos := "law.go:60", after := #[{ on := 1, ground := Ground.guard }], guard := some (1, true) }) (v := ?v2) rfl (by kernel_rfl) (by kernel_rfl) (by kernel_rfl) (fun _ _ _ h => h) (Or.inl ⟨by rfl, ?hy2⟩) hHeld2 ?rest2
  case hy2 =>
    intro w hSw
    (go_simp <;> with_reducible rfl)
  simp only [Act.put, List.setIfInBounds_toArray, List.set_cons_zero, List.set_cons_succ]
  refine wpAnyH_take (i := 3) (oi := { dst := some 17, op := Op.call { callee := Callee.builtin Builtin.len, args := #[Operand.tmp 16], argTypes := #[22] }, type := 3, pos := "law.go:60", after := #[{ on := 2, ground := Ground.data }, { on := 1, ground := Ground.guard }], guard := some (1, true) }) (v := ?v3) rfl (by kernel_rfl) (by kernel_rfl) (by kernel_rfl) (fun _ _ _ h => h) (Or.inl ⟨by rfl, ?hy3⟩) hHeld2 ?rest3
  case hy3 =>
    intro w hSw
    (go_simp <;> with_reducible rfl)
  simp only [Act.put, List.setIfInBounds_toArray, List.set_cons_zero, List.set_cons_succ]
  refine wpAnyH_take (i := 4) (oi := { dst := some 18, op := Op.binOp BinOp.eql 3 (Operand.tmp 17) (Operand.const (Value.int IntKind.i64 0)) 3, type := 4, pos := "law.go:60", after := #[{ on := 3, ground := Ground.data }, { on := 1, ground := Ground.guard }], guard := some (1, true) }) (v := ?v4) rfl (by kernel_rfl) (by kernel_rfl) (by kernel_rfl) (fun _ _ _ h => h) (Or.inl ⟨by rfl, ?hy4⟩) hHeld2 ?rest4
  case hy4 =>
    intro w hSw
    (go_simp <;> with_reducible rfl)
  simp only [Act.put, List.setIfInBounds_toArray, List.set_cons_zero, List.set_cons_succ]
  refine wpAnyH_take (i := 5) (oi := { dst := some 19, op := Op.pick (Operand.tmp 15) (Operand.tmp 18) (Operand.const (Value.bool false)), type := 4, pos := "law.go:60", after := #[{ on := 1, ground := Ground.data }, { on := 4, ground := Ground.data }], guard := none }) (v := ?v5) rfl (by kernel_rfl) (by kernel_rfl) (by kernel_rfl) (fun _ _ _ h => h) (Or.inl ⟨by rfl, ?hy5⟩) hHeld2 ?rest5
  case hy5 =>
    intro w hSw
    (go_simp <;> with_reducible rfl)
  simp only [Act.put, List.setIfInBounds_toArray, List.set_cons_zero, List.set_cons_succ]
  refine wpAnyH_take (i := 6) (oi := { dst := some 20, op := Op.move (Operand.tmp 19), type := 4, pos := "law.go:60", after := #[{ on := 5, ground := Ground.data }, { on := 1, ground := Ground.chain }], guard := none }) (v := ?v6) rfl (by kernel_rfl) (by kernel_rfl) (by kernel_rfl) (fun _ _ _ h => h) (Or.inl ⟨by rfl, ?hy6⟩) hHeld2 ?rest6
  case hy6 =>
    intro w hSw
    (go_simp <;> with_reducible rfl)
  simp only [Act.put, List.setIfInBounds_toArray, List.set_cons_zero, List.set_cons_succ]
  refine wpAnyH_take (i := 7) (oi := { dst := some 21, op := Op.move (Operand.tmp 4), type := 4, pos := "law.go:60", after := #[{ on := 6, ground := Ground.guard }], guard := some (6, true) }) (v := ?v7) rfl (by kernel_rfl) (by kernel_rfl) (by kernel_rfl) (fun _ _ _ h => h) (Or.inl ⟨by rfl, ?hy7⟩) hHeld2 ?rest7
  case hy7 =>
    intro w hSw
    (go_simp <;> with_reducible rfl)
  simp only [Act.put, List.setIfInBounds_toArray, List.set_cons_zero, List.set_cons_succ]
  refine wpAnyH_take (i := 8) (oi := { dst := some 22, op := Op.move (Operand.tmp 0), type := 22, pos := "law.go:60", after := #[{ on := 6, ground := Ground.guard }], guard := some (6, true) }) (v := ?v8) rfl (by kernel_rfl) (by kernel_rfl) (by kernel_rfl) (fun _ _ _ h => h) (Or.inl ⟨by rfl, ?hy8⟩) hHeld2 ?rest8
  case hy8 =>
    intro w hSw
    (go_simp <;> with_reducible rfl)
  simp only [Act.put, List.setIfInBounds_toArray, List.set_cons_zero, List.set_cons_succ]
  refine wpAnyH_take (i := 9) (oi := { dst := some 23, op := Op.call { callee := Callee.builtin Builtin.len, args := #[Operand.tmp 22], argTypes := #[22] }, type := 3, pos := "law.go:60", after := #[{ on := 8, ground := Ground.data }, { on := 6, ground := Ground.guard }], guard := some (6, true) }) (v := ?v9) rfl (by kernel_rfl) (by kernel_rfl) (by kernel_rfl) (fun _ _ _ h => h) (Or.inl ⟨by rfl, ?hy9⟩) hHeld2 ?rest9
  case hy9 =>
    intro w hSw
    (go_simp <;> with_reducible rfl)
  simp only [Act.put, List.setIfInBounds_toArray, List.set_cons_zero, List.set_cons_succ]
  refine wpAnyH_take (i := 10) (oi := { dst := some 24, op := Op.binOp BinOp.eql 3 (Operand.tmp 23) (Operand.const (Value.int IntKind.i64 4)) 3, type := 4, pos := "law.go:60", after := #[{ on := 9, ground := Ground.data }, { on := 6, ground := Ground.guard }], guard := some (6, true) }) (v := ?v10) rfl (by kernel_rfl) (by kernel_rfl) (by kernel_rfl) (fun _ _ _ h => h) (Or.inl ⟨by rfl, ?hy10⟩) hHeld2 ?rest10
  case hy10 =>
    intro w hSw
    (go_simp <;> with_reducible rfl)
  simp only [Act.put, List.setIfInBounds_toArray, List.set_cons_zero, List.set_cons_succ]
  refine wpAnyH_take (i := 11) (oi := { dst := some 25, op := Op.move (Operand.tmp 24), type := 4, pos := "law.go:60", after := #[{ on := 10, ground := Ground.data }, { on := 6, ground := Ground.chain }, { on := 6, ground := Ground.guard }], guard := some (6, true) }) (v := ?v11) rfl (by kernel_rfl) (by kernel_rfl) (by kernel_rfl) (fun _ _ _ h => h) (Or.inl ⟨by rfl, ?hy11⟩) hHeld2 ?rest11
  case hy11 =>
    intro w hSw
    (go_simp <;> with_reducible rfl)
  simp only [Act.put, List.setIfInBounds_toArray, List.set_cons_zero, List.set_cons_succ]
  refine wpAnyH_take (i := 12) (oi := { dst := some 26, op := Op.move (Operand.tmp 0), type := 22, pos := "law.go:60", after := #[{ on := 11, ground := Ground.guard }], guard := some (11, true) }) (v := undef) rfl (by kernel_rfl) (by kernel_rfl) (by kernel_rfl) (fun _ _ _ h => h) (Or.inr ⟨by rfl, rfl⟩) hHeld2 ?_
  simp only [Act.put, List.setIfInBounds_toArray, List.set_cons_zero, List.set_cons_succ]
  refine wpAnyH_take (i := 13) (oi := { dst := some 27, op := Op.convert 22 9 (Operand.tmp 26), type := 9, pos := "law.go:60", after := #[{ on := 12, ground := Ground.data }, { on := 11, ground := Ground.guard }], guard := some (11, true) }) (v := undef) rfl (by kernel_rfl) (by kernel_rfl) (by kernel_rfl) (fun _ _ _ h => h) (Or.inr ⟨by rfl, rfl⟩) hHeld2 ?_
  simp only [Act.put, List.setIfInBounds_toArray, List.set_cons_zero, List.set_cons_succ]
  refine wpAnyH_take (i := 14) (oi := { dst := some 28, op := Op.call { callee := Callee.value (Operand.func 19), args := #[Operand.const (Value.int IntKind.u32 0)], argTypes := #[24] }, type := 9, pos := "law.go:60", after := #[{ on := 11, ground := Ground.chain }, { on := 11, ground := Ground.guard }], guard := some (11, true) }) (v := undef) rfl (by kernel_rfl) (by kernel_rfl) (by kernel_rfl) (fun _ _ _ h => h) (Or.inr ⟨by rfl, rfl⟩) hHeld2 ?_
  simp only [Act.put, List.setIfInBounds_toArray, List.set_cons_zero, List.set_cons_succ]
  refine wpAnyH_take (i := 15) (oi := { dst := some 29, op := Op.binOp BinOp.eql 9 (Operand.tmp 27) (Operand.tmp 28) 9, type := 4, pos := "law.go:60", after := #[{ on := 13, ground := Ground.data }, { on := 14, ground := Ground.data }, { on := 11, ground := Ground.guard }], guard := some (11, true) }) (v := undef) rfl (by kernel_rfl) (by kernel_rfl) (by kernel_rfl) (fun _ _ _ h => h) (Or.inr ⟨by rfl, rfl⟩) hHeld2 ?_
  simp only [Act.put, List.setIfInBounds_toArray, List.set_cons_zero, List.set_cons_succ]
  refine wpAnyH_take (i := 16) (oi := { dst := some 30, op := Op.pick (Operand.tmp 25) (Operand.tmp 29) (Operand.const (Value.bool false)), type := 4, pos := "law.go:60", after := #[{ on := 11, ground := Ground.data }, { on := 15, ground := Ground.data }, { on := 6, ground := Ground.guard }], guard := some (6, true) }) (v := ?v16) rfl (by kernel_rfl) (by kernel_rfl) (by kernel_rfl) (fun _ _ _ h => h) (Or.inl ⟨by rfl, ?hy16⟩) hHeld2 ?rest16
  case hy16 =>
    intro w hSw
    (go_simp <;> with_reducible rfl)
  simp only [Act.put, List.setIfInBounds_toArray, List.set_cons_zero, List.set_cons_succ]
  refine wpAnyH_take (i := 17) (oi := { dst := some 31, op := Op.binOp BinOp.eql 4 (Operand.tmp 21) (Operand.tmp 30) 4, type := 4, pos := "law.go:60", after := #[{ on := 7, ground := Ground.data }, { on := 16, ground := Ground.data }, { on := 6, ground := Ground.guard }], guard := some (6, true) }) (v := ?v17) rfl (by kernel_rfl) (by kernel_rfl) (by kernel_rfl) (fun _ _ _ h => h) (Or.inl ⟨by rfl, ?hy17⟩) hHeld2 ?rest17
  case hy17 =>
    intro w hSw
    (go_simp <;> with_reducible rfl)
  simp only [Act.put, List.setIfInBounds_toArray, List.set_cons_zero, List.set_cons_succ]
  refine wpAnyH_take (i := 18) (oi := { dst := some 32, op := Op.pick (Operand.tmp 20) (Operand.tmp 31) (Operand.const (Value.bool false)), type := 4, pos := "law.go:60", after := #[{ on := 6, ground := Ground.data }, { on := 17, ground := Ground.data }], guard := none }) (v := ?v18) rfl (by kernel_rfl) (by kernel_rfl) (by kernel_rfl) (fun _ _ _ h => h) (Or.inl ⟨by rfl, ?hy18⟩) hHeld2 ?rest18
  case hy18 =>
    intro w hSw
    (go_simp <;> with_reducible rfl)
  simp only [Act.put, List.setIfInBounds_toArray, List.set_cons_zero, List.set_cons_succ]
  refine wpAnyH_take (i := 19) (oi := { dst := some 2, op := Op.assign (Operand.tmp 32), type := 4, pos := "law.go:60", after := #[{ on := 18, ground := Ground.data }, { on := 14, ground := Ground.chain }, { on := 0, ground := Ground.phase }, { on := 1, ground := Ground.phase }, { on := 2, ground := Ground.phase }, { on := 3, ground := Ground.phase }, { on := 4, ground := Ground.phase }, { on := 5, ground := Ground.phase }, { on := 6, ground := Ground.phase }, { on := 7, ground := Ground.phase }, { on := 8, ground := Ground.phase }, { on := 9, ground := Ground.phase }, { on := 10, ground := Ground.phase }, { on := 11, ground := Ground.phase }, { on := 12, ground := Ground.phase }, { on := 13, ground := Ground.phase }, { on := 14, ground := Ground.phase }, { on := 15, ground := Ground.phase }, { on := 16, ground := Ground.phase }, { on := 17, ground := Ground.phase }, { on := 18, ground := Ground.phase }], guard := none }) (v := ?v19) rfl (by kernel_rfl) (by kernel_rfl) (by kernel_rfl) (fun _ _ _ h => h) (Or.inl ⟨by rfl, ?hy19⟩) hHeld2 ?rest19
  case hy19 =>
    intro w hSw
    (go_simp <;> with_reducible rfl)
  simp only [Act.put, List.setIfInBounds_toArray, List.set_cons_zero, List.set_cons_succ]
  refine wpAnyH_done (by kernel_rfl) ?_ _
  go_wp2_with fail
  go_ret
  exact ⟨rfl, seqB HB1.out hHeld2⟩

set_option maxHeartbeats 4000000 in
theorem walk_yes (b o c : Nat) (xs : List Int) (w : World) (hx : xs.length = 4) (hb : AllB xs) (hnc : 4 ≤ c) (hi : Lib.BytesIn w (some ⟨b, o, none⟩) 4 xs) (hok : okB xs = true) :
    Calls Try.prog 6 #[.slice (some ⟨b, o, none⟩) 4 c] w fun e w' => e = .returned (.bool true) ∧ Below w.heap.size w w' := by
  have HX := Lib.hid hx
  have HA := Lib.hid hb
  have HI := Lib.hid hi
  have HOK := Lib.hid hok
  have HE := Lib.hid (show ((strOfNums xs).toList == (strOfNums (tailL 0#32)).toList) = true by
    rw [Lib.strOfNums_toList, Lib.strOfNums_toList, bytesOf_eq hb (allB_tail _)]
    have h := hok
    unfold okB at h
    rw [hx] at h
    simp only [Nat.sub_self, List.drop_zero, List.take_zero] at h
    rw [show sumB [] = 0#32 by decide] at h
    exact h)
  clear hx hb hi hok
  go_enter Try.func6, Try.ntmps6
  go_wp2_with fail
  refine (open_yes b o 0 c xs _ HX.out hnc (by omega) HA.out HI.out HOK.out).mono ?_
  rintro e w1 ⟨v, rfl, hown, hb1⟩
  obtain ⟨p3, c3, rfl, hl, hi3, hpc, hnc3, _⟩ := own_bytes hown
  clear hown hl hi3 hpc
  have HB1 := Lib.hid hb1
  clear hb1
  obtain ⟨S, HS⟩ : ∃ S, Hid (S = strOfNums xs) := ⟨_, Lib.hid rfl⟩
  obtain ⟨T, HT⟩ : ∃ T, Hid (T = strOfNums (tailL 0#32)) := ⟨_, Lib.hid rfl⟩
  have HCV := Lib.hid (fun (w' : World) (h : Below w1.heap.size w1 w') => conv_bytes (bytes_on (bytes_on HI.out HB1.out) h) HX.out c)
  have e0 := HE.out
  rw [← HS.out, ← HT.out] at e0
  rw [← HS.out] at HCV
  have q0 := HCV.out w1 (Below.refl _ _)
  have q1 := Below.refl w1.heap.size w1
  go_wp2_with fail
  go_region_held3 (fun w' => (convert 22 9 (.slice (some ⟨b, o, none⟩) 4 c)).run Try.prog w' = .ok (.string S) w' ∧ Below w1.heap.size w1 w')
    (first
      | (go_split_ands; exact ⟨by assumption, by assumption⟩)
      | (go_split_ands; exact ⟨HCV.out _ (Below.drew (by assumption)), Below.drew (by assumption)⟩)
      | (go_split_ands; exact ⟨HCV.out _ (seqB (by assumption) (by assumption)), seqB (by assumption) (by assumption)⟩))
    (first
      | (go_at_call 10; refine (alive_any _).mono ?_; rintro e w' ⟨rfl, hb'⟩)
      | (go_at_call 19; refine (tail_zero T HT.out _).mono ?_; rintro e w' ⟨rfl, hb'⟩))
  go_split_ands
  go_wp2_with fail
  go_ret
  exact ⟨rfl, seqB HB1.out (by assumption)⟩

set_option maxHeartbeats 4000000 in
theorem walk_no (b o c : Nat) (xs : List Int) (w : World) (hx : xs.length = 4) (hb : AllB xs) (hnc : 4 ≤ c) (hi : Lib.BytesIn w (some ⟨b, o, none⟩) 4 xs) (hok : okB xs = false) :
    Calls Try.prog 6 #[.slice (some ⟨b, o, none⟩) 4 c] w fun e w' => e = .returned (.bool true) ∧ Below w.heap.size w w' := by
  have HX := Lib.hid hx
  have HA := Lib.hid hb
  have HI := Lib.hid hi
  have HOK := Lib.hid hok
  have HE := Lib.hid (show ((strOfNums xs).toList == (strOfNums (tailL 0#32)).toList) = false by
    rw [Lib.strOfNums_toList, Lib.strOfNums_toList, bytesOf_eq hb (allB_tail _)]
    have h := hok
    unfold okB at h
    rw [hx] at h
    simp only [Nat.sub_self, List.drop_zero, List.take_zero] at h
    rw [show sumB [] = 0#32 by decide] at h
    exact h)
  clear hx hb hi hok
  go_enter Try.func6, Try.ntmps6
  go_wp2_with fail
  refine (open_no b o 0 c xs _ HX.out hnc (by omega) HA.out HI.out HOK.out).mono ?_
  rintro e w1 ⟨rfl, hb1⟩

  have HB1 := Lib.hid hb1
  clear hb1
  obtain ⟨S, HS⟩ : ∃ S, Hid (S = strOfNums xs) := ⟨_, Lib.hid rfl⟩
  obtain ⟨T, HT⟩ : ∃ T, Hid (T = strOfNums (tailL 0#32)) := ⟨_, Lib.hid rfl⟩
  have HCV := Lib.hid (fun (w' : World) (h : Below w1.heap.size w1 w') => conv_bytes (bytes_on (bytes_on HI.out HB1.out) h) HX.out c)
  have e0 := HE.out
  rw [← HS.out, ← HT.out] at e0
  rw [← HS.out] at HCV
  have q0 := HCV.out w1 (Below.refl _ _)
  have q1 := Below.refl w1.heap.size w1
  go_wp2_with fail
  go_region_held3 (fun w' => (convert 22 9 (.slice (some ⟨b, o, none⟩) 4 c)).run Try.prog w' = .ok (.string S) w' ∧ Below w1.heap.size w1 w')
    (first
      | (go_split_ands; exact ⟨by assumption, by assumption⟩)
      | (go_split_ands; exact ⟨HCV.out _ (Below.drew (by assumption)), Below.drew (by assumption)⟩)
      | (go_split_ands; exact ⟨HCV.out _ (seqB (by assumption) (by assumption)), seqB (by assumption) (by assumption)⟩))
    (first
      | (go_at_call 10; refine (alive_any _).mono ?_; rintro e w' ⟨rfl, hb'⟩)
      | (go_at_call 19; refine (tail_zero T HT.out _).mono ?_; rintro e w' ⟨rfl, hb'⟩))
  go_split_ands
  go_wp2_with fail
  go_ret
  exact ⟨rfl, seqB HB1.out (by assumption)⟩

theorem walk (p : Option Addr) (n c : Nat) (xs : List Int) (w : World) (hx : xs.length = n) (hb : AllB xs) (hnc : n ≤ c) (hi : Lib.BytesIn w p n xs) :
    Calls Try.prog 6 #[.slice p n c] w fun e w' => e = .returned (.bool true) ∧ Below w.heap.size w w' := by
  by_cases h0 : 4 < n
  · exact walk_long p n c h0 w
  by_cases h1 : n < 4
  · exact walk_short p n c h1 w
  obtain rfl : n = 4 := by omega
  obtain ⟨b, o, rfl, _⟩ := hi.at (by omega)
  cases hok : okB xs
  · exact walk_no b o c xs w hx hb hnc hi hok
  · exact walk_yes b o c xs w hx hb hnc hi hok
end Go.Proofs.Ytbfbbfcfijgakaa.crcShort
