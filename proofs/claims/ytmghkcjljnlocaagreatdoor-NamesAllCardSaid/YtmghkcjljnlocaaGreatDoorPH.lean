/-
  Contract: Right of a list, the document's. Conditions: the names' lengths.
-/
import Derived.Test.YtmghkcjljnlocaaGreatDoorPG
import Derived.Deep.RegionHeld3
namespace Go.Proofs.YtmghkcjljnlocaaGreatDoor
open Go.RowKit
theorem takeH {P : Program} {ops : Array Oper} {Q : Exit → Act → World → Prop} {md : Region.Mode} {S : World → Prop} (d : Option Tmp) {i : Nat} {oi : Oper} {v : Value} {fuel : Nat} {listed : Array Bool} {a : Act} {w : World} (hi : ops[i]? = some oi) (hd : oi.dst = d)
    (hs : Region.noSelect ops = true) (hf : Region.free md ops listed i = true) (hr : (Region.ready md ops listed).contains i = true)
    (hQ : ∀ c a w, Q (.panic c) (a.put d v) w → Q (.panic c) a w) (hy : YieldsIf P ops S oi v a) (hS : S w)
    (h : wpAnyH P md ops Q S fuel (listed.setIfInBounds i true) (a.put d v) w) : wpAnyH P md ops Q S (fuel + 1) listed a w := by
  subst hd
  exact wpAnyH_take hi hs hf hr hQ hy hS h
set_option maxRecDepth 100000 in
set_option maxHeartbeats 8000000 in
theorem rright_any (p : Option Addr) (n d : Nat) (l : List Prx) (w : World) (hl : l.length = n) (hn : n ≤ 1000000) (hz : Lean14 l) (hi : PrxIn w p n l) :
    Calls Tryz.prog 15 #[.slice p n d] w fun e w' => e = .returned (.bool (rightB l)) ∧ Below w.heap.size w w' := by
  have HI := Lib.hid hi
  have HL := Lib.hid hl
  have HZ := Lib.hid hz
  obtain ⟨X, hX⟩ : ∃ X, rightB l = X := ⟨_, rfl⟩
  have HX := Lib.hid hX
  rw [hX]
  clear hi hl hz hX
  go_enter Tryz.func15, Tryz.ntmps15
  go_wp2_with fail
  go_loopw [3] (fun i wr => ∃ k : Nat, k ≤ n ∧ i = .int .i64 k ∧ Hid (upTo l k) ∧ Hid (Below w.heap.size w wr)) (fun i _ => n - (intOf i).toNat)
  case atStart => exact ⟨0, by omega, rfl, Lib.hid (fun j h => by omega), Lib.hid (Below.refl _ _)⟩
  case round =>
    obtain ⟨k, hk, rfl, HN, HB⟩ := hrel
    by_cases hlt : k < n
    · have hcl := prxs_on HI.out HB.out
      obtain ⟨b, o, rfl, hcell⟩ := hcl (by omega)
      obtain ⟨c0, c1, c2, qt, mt, dt, c3, hmd, hlt2, htx⟩ := hcell k hlt
      rw [← Nat.add_assoc] at c1 c2 c3
      obtain ⟨z1, z2, z3⟩ := HZ.out (l.getD k noPrx) (by rw [getD_at _ _ (by rw [HL.out]; exact hlt)]; exact List.getElem_mem _)
      have HUN := Lib.hid (fun h1 h2 => up_next (l := l) (k := k) HN.out h1 h2)
      have HUC := Lib.hid (fun h => up_chk (l := l) (k := k) (by rw [HL.out]; exact hlt) h)
      have HUO := Lib.hid (fun (hk0 : 0 < k) (h : Nm.ltB (l.getD (k - 1) noPrx).s (l.getD k noPrx).s = false) => (show ¬ Nm.Right l from up_ord (l := l) (k := k - 1) (by have := HL.out; omega) (by rw [show k - 1 + 1 = k by omega]; exact h)))
      have hprev : 0 < k → wr.cell? ⟨b, o + (k - 1) * 4, none⟩ = some (.string (l.getD (k - 1) noPrx).s) := fun h => (hcell (k - 1) (by omega)).1
      generalize hxx : l.getD k noPrx = x at *
      generalize hyy : (l.getD (k - 1) noPrx).s = y at *
      obtain ⟨xs, xon, xm, xt⟩ := x
      simp only at c0 c1 c2 hlt2 htx z1 z2 z3 HUO HUN
      have hkey : ∀ {W : World}, Below wr.heap.size wr W → ∀ {p : Addr} {v : Value}, wr.cell? p = some v → W.cell? p = some v := fun hW => fun hk => (hW.cell (World.block_lt_of_cell? wr _ hk)).trans hk
      have HC := Lib.hid (fun W (hW : Hid (Below wr.heap.size wr W)) => rchk_any xs xon xm qt mt dt xt W z1 hlt2 hmd z3 (toxs_on htx hW.out))
      obtain ⟨C, hC⟩ : ∃ C, Nm.chkP ⟨xs, xon, xm, xt⟩ = C := ⟨_, rfl⟩
      rw [hC] at HC HUC HUN
      clear hC z1 z2 z3 hlt2 htx hcl hmd
      by_cases hC0 : C = 0
      · subst hC0
        by_cases hk0 : k = 0
        · subst hk0
          simp only [Nat.zero_mul, Nat.add_zero] at c0 c1 c2 c3
          have HQ := Lib.hid (show ∀ W, Below wr.heap.size wr W → W.cell? ⟨b, o, none⟩ = some (.string xs) ∧ W.cell? ⟨b, o + 1, none⟩ = some (.bool xon) ∧ W.cell? ⟨b, o + 2, none⟩ = some (.int .i64 xm) ∧ W.cell? ⟨b, o + 3, none⟩ = some (.slice qt mt dt) ∧ Hid (Below wr.heap.size wr W) from fun W hW => ⟨hkey hW c0, hkey hW c1, hkey hW c2, hkey hW c3, Lib.hid hW⟩)
          have HQ2 := Lib.hid (show ∀ W W', Hid (Below wr.heap.size wr W) → Below W.heap.size W W' → W'.cell? ⟨b, o, none⟩ = some (.string xs) ∧ W'.cell? ⟨b, o + 1, none⟩ = some (.bool xon) ∧ W'.cell? ⟨b, o + 2, none⟩ = some (.int .i64 xm) ∧ W'.cell? ⟨b, o + 3, none⟩ = some (.slice qt mt dt) ∧ Hid (Below wr.heap.size wr W') from fun W W' h1 h2 => HQ.out W' (seqB h1.out h2))
          clear c0 c1 c2 c3 hkey hprev hcell
          go_wp2_with fail
          refine wp_region_held_drew (S := fun W => W.cell? ⟨b, o, none⟩ = some (.string xs) ∧ W.cell? ⟨b, o + 1, none⟩ = some (.bool xon) ∧ W.cell? ⟨b, o + 2, none⟩ = some (.int .i64 xm) ∧ W.cell? ⟨b, o + 3, none⟩ = some (.slice qt mt dt) ∧ Hid (Below wr.heap.size wr W)) (by kernel_rfl) (HQ.out _ (Below.refl _ _).drew) (fun hHeld => ?_)
          refine takeH (some 10) (i := 0) (v := ?v1) rfl rfl (by kernel_rfl) (by kernel_rfl) (by kernel_rfl) (fun _ _ _ h => h) (Or.inl ⟨by kernel_rfl, ?hy1⟩) (by assumption) ?rest1
          case hy1 => (intro w hSw; (try dsimp only at hSw); go_simp <;> with_reducible rfl)
          case rest1 =>
          simp only [Act.put, List.setIfInBounds_toArray, List.set_cons_zero, List.set_cons_succ]
          refine takeH (some 11) (i := 1) (v := ?v2) rfl rfl (by kernel_rfl) (by kernel_rfl) (by kernel_rfl) (fun _ _ _ h => h) (Or.inl ⟨by kernel_rfl, ?hy2⟩) (by assumption) ?rest2
          case hy2 => (intro w hSw; (try dsimp only at hSw); go_simp <;> with_reducible rfl)
          case rest2 =>
          simp only [Act.put, List.setIfInBounds_toArray, List.set_cons_zero, List.set_cons_succ]
          refine takeH (some 12) (i := 2) (v := ?v3) rfl rfl (by kernel_rfl) (by kernel_rfl) (by kernel_rfl) (fun _ _ _ h => h) (Or.inl ⟨by kernel_rfl, ?hy3⟩) (by assumption) ?rest3
          case hy3 => (intro w hSw; (try dsimp only at hSw); go_simp <;> with_reducible rfl)
          case rest3 =>
          simp only [Act.put, List.setIfInBounds_toArray, List.set_cons_zero, List.set_cons_succ]
          refine takeH (some 13) (i := 3) (v := ?v4) rfl rfl (by kernel_rfl) (by kernel_rfl) (by kernel_rfl) (fun _ _ _ h => h) (Or.inl ⟨by kernel_rfl, ?hy4⟩) (by assumption) ?rest4
          case hy4 => (intro w hSw; (try dsimp only at hSw); go_simp <;> with_reducible rfl)
          case rest4 =>
          simp only [Act.put, List.setIfInBounds_toArray, List.set_cons_zero, List.set_cons_succ]
          refine wpAnyH_ready (rs := [4]) (by kernel_rfl) (by simp) ?_
          refine AllReadyH.cons rfl (fun K hK => ?_) AllReadyH.nil
          go_simp
          go_at_call 20
          (with_reducible refine Calls.mono (HC.out _ (by go_split_ands; assumption)) ?_)
          rintro e w' ⟨rfl, hb⟩
          have hS := HQ2.out _ _ (by go_split_ands; assumption) hb
          clear hb
          go_wp2_with fail
          refine hK.out _ _ hS (fun hHeld2 => ?_)
          clear hK K hHeld
          refine takeH (some 15) (i := 5) (v := ?v5) rfl rfl (by kernel_rfl) (by kernel_rfl) (by kernel_rfl) (fun _ _ _ h => h) (Or.inl ⟨by kernel_rfl, ?hy5⟩) (by assumption) ?rest5
          case hy5 => (intro w hSw; (try dsimp only at hSw); go_simp <;> with_reducible rfl)
          case rest5 =>
          simp only [Act.put, List.setIfInBounds_toArray, List.set_cons_zero, List.set_cons_succ]
          refine takeH (some 16) (i := 6) (v := ?v6) rfl rfl (by kernel_rfl) (by kernel_rfl) (by kernel_rfl) (fun _ _ _ h => h) (Or.inl ⟨by kernel_rfl, ?hy6⟩) (by assumption) ?rest6
          case hy6 => (intro w hSw; (try dsimp only at hSw); go_simp <;> with_reducible rfl)
          case rest6 =>
          simp only [Act.put, List.setIfInBounds_toArray, List.set_cons_zero, List.set_cons_succ]
          refine takeH (some 17) (i := 7) (v := ?v7) rfl rfl (by kernel_rfl) (by kernel_rfl) (by kernel_rfl) (fun _ _ _ h => h) (Or.inl ⟨by kernel_rfl, ?hy7⟩) (by assumption) ?rest7
          case hy7 => (intro w hSw; (try dsimp only at hSw); go_simp <;> with_reducible rfl)
          case rest7 =>
          simp only [Act.put, List.setIfInBounds_toArray, List.set_cons_zero, List.set_cons_succ]
          refine takeH (some 18) (i := 8) (v := ?v8) rfl rfl (by kernel_rfl) (by kernel_rfl) (by kernel_rfl) (fun _ _ _ h => h) (Or.inl ⟨by kernel_rfl, ?hy8⟩) (by assumption) ?rest8
          case hy8 => (intro w hSw; (try dsimp only at hSw); go_simp <;> with_reducible rfl)
          case rest8 =>
          simp only [Act.put, List.setIfInBounds_toArray, List.set_cons_zero, List.set_cons_succ]
          refine takeH (some 19) (i := 9) (v := ?v9) rfl rfl (by kernel_rfl) (by kernel_rfl) (by kernel_rfl) (fun _ _ _ h => h) (Or.inl ⟨by kernel_rfl, ?hy9⟩) (by assumption) ?rest9
          case hy9 => (intro w hSw; (try dsimp only at hSw); go_simp <;> with_reducible rfl)
          case rest9 =>
          simp only [Act.put, List.setIfInBounds_toArray, List.set_cons_zero, List.set_cons_succ]
          refine takeH (some 20) (i := 10) (v := undef) rfl rfl (by kernel_rfl) (by kernel_rfl) (by kernel_rfl) (fun _ _ _ h => h) (Or.inr ⟨by kernel_rfl, rfl⟩) (by assumption) ?_
          simp only [Act.put, List.setIfInBounds_toArray, List.set_cons_zero, List.set_cons_succ]
          refine takeH (some 21) (i := 11) (v := undef) rfl rfl (by kernel_rfl) (by kernel_rfl) (by kernel_rfl) (fun _ _ _ h => h) (Or.inr ⟨by kernel_rfl, rfl⟩) (by assumption) ?_
          simp only [Act.put, List.setIfInBounds_toArray, List.set_cons_zero, List.set_cons_succ]
          refine takeH (some 22) (i := 12) (v := undef) rfl rfl (by kernel_rfl) (by kernel_rfl) (by kernel_rfl) (fun _ _ _ h => h) (Or.inr ⟨by kernel_rfl, rfl⟩) (by assumption) ?_
          simp only [Act.put, List.setIfInBounds_toArray, List.set_cons_zero, List.set_cons_succ]
          refine takeH (some 23) (i := 13) (v := undef) rfl rfl (by kernel_rfl) (by kernel_rfl) (by kernel_rfl) (fun _ _ _ h => h) (Or.inr ⟨by kernel_rfl, rfl⟩) (by assumption) ?_
          simp only [Act.put, List.setIfInBounds_toArray, List.set_cons_zero, List.set_cons_succ]
          refine takeH (some 24) (i := 14) (v := undef) rfl rfl (by kernel_rfl) (by kernel_rfl) (by kernel_rfl) (fun _ _ _ h => h) (Or.inr ⟨by kernel_rfl, rfl⟩) (by assumption) ?_
          simp only [Act.put, List.setIfInBounds_toArray, List.set_cons_zero, List.set_cons_succ]
          refine takeH (some 25) (i := 15) (v := undef) rfl rfl (by kernel_rfl) (by kernel_rfl) (by kernel_rfl) (fun _ _ _ h => h) (Or.inr ⟨by kernel_rfl, rfl⟩) (by assumption) ?_
          simp only [Act.put, List.setIfInBounds_toArray, List.set_cons_zero, List.set_cons_succ]
          refine takeH (some 26) (i := 16) (v := undef) rfl rfl (by kernel_rfl) (by kernel_rfl) (by kernel_rfl) (fun _ _ _ h => h) (Or.inr ⟨by kernel_rfl, rfl⟩) (by assumption) ?_
          simp only [Act.put, List.setIfInBounds_toArray, List.set_cons_zero, List.set_cons_succ]
          refine takeH (some 27) (i := 17) (v := undef) rfl rfl (by kernel_rfl) (by kernel_rfl) (by kernel_rfl) (fun _ _ _ h => h) (Or.inr ⟨by kernel_rfl, rfl⟩) (by assumption) ?_
          simp only [Act.put, List.setIfInBounds_toArray, List.set_cons_zero, List.set_cons_succ]
          refine takeH (some 28) (i := 18) (v := undef) rfl rfl (by kernel_rfl) (by kernel_rfl) (by kernel_rfl) (fun _ _ _ h => h) (Or.inr ⟨by kernel_rfl, rfl⟩) (by assumption) ?_
          simp only [Act.put, List.setIfInBounds_toArray, List.set_cons_zero, List.set_cons_succ]
          refine takeH (some 29) (i := 19) (v := undef) rfl rfl (by kernel_rfl) (by kernel_rfl) (by kernel_rfl) (fun _ _ _ h => h) (Or.inr ⟨by kernel_rfl, rfl⟩) (by assumption) ?_
          simp only [Act.put, List.setIfInBounds_toArray, List.set_cons_zero, List.set_cons_succ]
          refine takeH (some 30) (i := 20) (v := undef) rfl rfl (by kernel_rfl) (by kernel_rfl) (by kernel_rfl) (fun _ _ _ h => h) (Or.inr ⟨by kernel_rfl, rfl⟩) (by assumption) ?_
          simp only [Act.put, List.setIfInBounds_toArray, List.set_cons_zero, List.set_cons_succ]
          refine takeH (some 31) (i := 21) (v := undef) rfl rfl (by kernel_rfl) (by kernel_rfl) (by kernel_rfl) (fun _ _ _ h => h) (Or.inr ⟨by kernel_rfl, rfl⟩) (by assumption) ?_
          simp only [Act.put, List.setIfInBounds_toArray, List.set_cons_zero, List.set_cons_succ]
          refine takeH (some 32) (i := 22) (v := undef) rfl rfl (by kernel_rfl) (by kernel_rfl) (by kernel_rfl) (fun _ _ _ h => h) (Or.inr ⟨by kernel_rfl, rfl⟩) (by assumption) ?_
          simp only [Act.put, List.setIfInBounds_toArray, List.set_cons_zero, List.set_cons_succ]
          refine takeH (some 33) (i := 23) (v := ?v10) rfl rfl (by kernel_rfl) (by kernel_rfl) (by kernel_rfl) (fun _ _ _ h => h) (Or.inl ⟨by kernel_rfl, ?hy10⟩) (by assumption) ?rest10
          case hy10 => (intro w hSw; (try dsimp only at hSw); go_simp <;> with_reducible rfl)
          case rest10 =>
          simp only [Act.put, List.setIfInBounds_toArray, List.set_cons_zero, List.set_cons_succ]
          refine takeH (some 34) (i := 24) (v := ?v11) rfl rfl (by kernel_rfl) (by kernel_rfl) (by kernel_rfl) (fun _ _ _ h => h) (Or.inl ⟨by kernel_rfl, ?hy11⟩) (by assumption) ?rest11
          case hy11 => (intro w hSw; (try dsimp only at hSw); go_simp <;> with_reducible rfl)
          case rest11 =>
          simp only [Act.put, List.setIfInBounds_toArray, List.set_cons_zero, List.set_cons_succ]
          refine wpAnyH_done (by kernel_rfl) ?_ _
          have HD := Lib.hid (seqB HB.out (show Below wr.heap.size wr w' from hS.2.2.2.2.out))
          clear hS HQ HQ2 HC hHeld2
          have HN3 := Lib.hid (HUN.out (by first | rfl | trivial) (fun h => absurd h (by omega)))
          clear HUN HUC HUO HN
          go_wp2_with fail
          go_roundw
          case rel => exact ⟨1, by omega, by go_num, HN3, HD⟩
          case measure => simp [intOf]; omega
        · obtain ⟨j, rfl⟩ : ∃ j, k = j + 1 := ⟨k - 1, by omega⟩
          rw [Nat.add_sub_cancel] at hprev
          have hp := hprev (by omega)
          have hkg : (0 : Int) < (j : Int) + 1 := by omega
          have hkd : decide ((0 : Int) < (j : Int) + 1) = true := decide_eq_true hkg
          have hkw : IntKind.i64.wrap (j : Int) = (j : Int) := wrapN_id (by omega) (by omega)
          have hkw2 : IntKind.i64.wrap ((j : Int) + 1 - 1) = (j : Int) := by rw [Int.add_sub_cancel]; exact hkw
          have hj0 : (0 : Int) ≤ (j : Int) := by omega
          have hj1 : (j : Int) < (n : Int) := by omega
          have hj2 : (j : Int) + 1 < (n : Int) := by omega
          cases hL : Nm.ltB y xs with
          | true =>
            have hL' : Op.bytesLess y.toList xs.toList = true := hL
            have HQ := Lib.hid (show ∀ W, Below wr.heap.size wr W → W.cell? ⟨b, o + (j + 1) * 4, none⟩ = some (.string xs) ∧ W.cell? ⟨b, o + (j + 1) * 4 + 1, none⟩ = some (.bool xon) ∧ W.cell? ⟨b, o + (j + 1) * 4 + 2, none⟩ = some (.int .i64 xm) ∧ W.cell? ⟨b, o + (j + 1) * 4 + 3, none⟩ = some (.slice qt mt dt) ∧ W.cell? ⟨b, o + j * 4, none⟩ = some (.string y) ∧ Hid (Below wr.heap.size wr W) from fun W hW => ⟨hkey hW c0, hkey hW c1, hkey hW c2, hkey hW c3, hkey hW hp, Lib.hid hW⟩)
            have HQ2 := Lib.hid (show ∀ W W', Hid (Below wr.heap.size wr W) → Below W.heap.size W W' → W'.cell? ⟨b, o + (j + 1) * 4, none⟩ = some (.string xs) ∧ W'.cell? ⟨b, o + (j + 1) * 4 + 1, none⟩ = some (.bool xon) ∧ W'.cell? ⟨b, o + (j + 1) * 4 + 2, none⟩ = some (.int .i64 xm) ∧ W'.cell? ⟨b, o + (j + 1) * 4 + 3, none⟩ = some (.slice qt mt dt) ∧ W'.cell? ⟨b, o + j * 4, none⟩ = some (.string y) ∧ Hid (Below wr.heap.size wr W') from fun W W' h1 h2 => HQ.out W' (seqB h1.out h2))
            clear c0 c1 c2 c3 hkey hprev hcell hp
            go_wp2_with fail
            go_region_held (fun W => W.cell? ⟨b, o + (j + 1) * 4, none⟩ = some (.string xs) ∧ W.cell? ⟨b, o + (j + 1) * 4 + 1, none⟩ = some (.bool xon) ∧ W.cell? ⟨b, o + (j + 1) * 4 + 2, none⟩ = some (.int .i64 xm) ∧ W.cell? ⟨b, o + (j + 1) * 4 + 3, none⟩ = some (.slice qt mt dt) ∧ W.cell? ⟨b, o + j * 4, none⟩ = some (.string y) ∧ Hid (Below wr.heap.size wr W))
              (first
                | exact HQ.out _ (Below.refl _ _).drew
                | with_reducible assumption)
              (first
                | (go_at_call 20; go_split_ands; (with_reducible refine Calls.mono (HC.out _ (by assumption)) ?_); rintro e w' ⟨rfl, hb⟩; (have hS := HQ2.out _ _ (by assumption) hb); clear hb))
            have HD := Lib.hid (seqB HB.out (show Below wr.heap.size wr w' from hS.2.2.2.2.2.out))
            clear hS HQ HQ2 HC
            have HN3 := Lib.hid (HUN.out (by first | rfl | trivial) (fun _ => hL))
            clear HUN HUC HUO HN
            go_wp2_with fail
            go_roundw
            case rel => exact ⟨j + 1 + 1, by omega, by go_num, HN3, HD⟩
            case measure => simp [intOf]; omega
          | false =>
            have hL' : Op.bytesLess y.toList xs.toList = false := hL
            have HQ := Lib.hid (show ∀ W, Below wr.heap.size wr W → W.cell? ⟨b, o + (j + 1) * 4, none⟩ = some (.string xs) ∧ W.cell? ⟨b, o + (j + 1) * 4 + 1, none⟩ = some (.bool xon) ∧ W.cell? ⟨b, o + (j + 1) * 4 + 2, none⟩ = some (.int .i64 xm) ∧ W.cell? ⟨b, o + (j + 1) * 4 + 3, none⟩ = some (.slice qt mt dt) ∧ W.cell? ⟨b, o + j * 4, none⟩ = some (.string y) ∧ Hid (Below wr.heap.size wr W) from fun W hW => ⟨hkey hW c0, hkey hW c1, hkey hW c2, hkey hW c3, hkey hW hp, Lib.hid hW⟩)
            have HQ2 := Lib.hid (show ∀ W W', Hid (Below wr.heap.size wr W) → Below W.heap.size W W' → W'.cell? ⟨b, o + (j + 1) * 4, none⟩ = some (.string xs) ∧ W'.cell? ⟨b, o + (j + 1) * 4 + 1, none⟩ = some (.bool xon) ∧ W'.cell? ⟨b, o + (j + 1) * 4 + 2, none⟩ = some (.int .i64 xm) ∧ W'.cell? ⟨b, o + (j + 1) * 4 + 3, none⟩ = some (.slice qt mt dt) ∧ W'.cell? ⟨b, o + j * 4, none⟩ = some (.string y) ∧ Hid (Below wr.heap.size wr W') from fun W W' h1 h2 => HQ.out W' (seqB h1.out h2))
            clear c0 c1 c2 c3 hkey hprev hcell hp
            go_wp2_with fail
            go_region_held (fun W => W.cell? ⟨b, o + (j + 1) * 4, none⟩ = some (.string xs) ∧ W.cell? ⟨b, o + (j + 1) * 4 + 1, none⟩ = some (.bool xon) ∧ W.cell? ⟨b, o + (j + 1) * 4 + 2, none⟩ = some (.int .i64 xm) ∧ W.cell? ⟨b, o + (j + 1) * 4 + 3, none⟩ = some (.slice qt mt dt) ∧ W.cell? ⟨b, o + j * 4, none⟩ = some (.string y) ∧ Hid (Below wr.heap.size wr W))
              (first
                | exact HQ.out _ (Below.refl _ _).drew
                | with_reducible assumption)
              (first
                | (go_at_call 20; go_split_ands; (with_reducible refine Calls.mono (HC.out _ (by assumption)) ?_); rintro e w' ⟨rfl, hb⟩; (have hS := HQ2.out _ _ (by assumption) hb); clear hb))
            have HD := Lib.hid (seqB HB.out (show Below wr.heap.size wr w' from hS.2.2.2.2.2.out))
            clear hS HQ HQ2 HC
            have HF := Lib.hid (show X = false from by rw [← HX.out]; exact right_no (HUO.out (by omega) hL))
            clear HUN HUC HUO HN
            go_wp2_with fail
            go_ret
            exact ⟨by rw [HF.out]; rfl, HD.out⟩
      · have d4 : (C != 0) = true := by simpa using hC0
        have d5 : decide (C = 0) = false := by simpa using hC0
        have HQ := Lib.hid (show ∀ W, Below wr.heap.size wr W → W.cell? ⟨b, o + k * 4, none⟩ = some (.string xs) ∧ W.cell? ⟨b, o + k * 4 + 1, none⟩ = some (.bool xon) ∧ W.cell? ⟨b, o + k * 4 + 2, none⟩ = some (.int .i64 xm) ∧ W.cell? ⟨b, o + k * 4 + 3, none⟩ = some (.slice qt mt dt) ∧ Hid (Below wr.heap.size wr W) from fun W hW => ⟨hkey hW c0, hkey hW c1, hkey hW c2, hkey hW c3, Lib.hid hW⟩)
        have HQ2 := Lib.hid (show ∀ W W', Hid (Below wr.heap.size wr W) → Below W.heap.size W W' → W'.cell? ⟨b, o + k * 4, none⟩ = some (.string xs) ∧ W'.cell? ⟨b, o + k * 4 + 1, none⟩ = some (.bool xon) ∧ W'.cell? ⟨b, o + k * 4 + 2, none⟩ = some (.int .i64 xm) ∧ W'.cell? ⟨b, o + k * 4 + 3, none⟩ = some (.slice qt mt dt) ∧ Hid (Below wr.heap.size wr W') from fun W W' h1 h2 => HQ.out W' (seqB h1.out h2))
        clear c0 c1 c2 c3 hkey hprev hcell
        go_wp2_with fail
        refine wp_region_held_drew (S := fun W => W.cell? ⟨b, o + k * 4, none⟩ = some (.string xs) ∧ W.cell? ⟨b, o + k * 4 + 1, none⟩ = some (.bool xon) ∧ W.cell? ⟨b, o + k * 4 + 2, none⟩ = some (.int .i64 xm) ∧ W.cell? ⟨b, o + k * 4 + 3, none⟩ = some (.slice qt mt dt) ∧ Hid (Below wr.heap.size wr W)) (by kernel_rfl) (HQ.out _ (Below.refl _ _).drew) (fun hHeld => ?_)
        refine takeH (some 10) (i := 0) (v := ?v12) rfl rfl (by kernel_rfl) (by kernel_rfl) (by kernel_rfl) (fun _ _ _ h => h) (Or.inl ⟨by kernel_rfl, ?hy12⟩) (by assumption) ?rest12
        case hy12 => (intro w hSw; (try dsimp only at hSw); go_simp <;> with_reducible rfl)
        case rest12 =>
        simp only [Act.put, List.setIfInBounds_toArray, List.set_cons_zero, List.set_cons_succ]
        refine takeH (some 11) (i := 1) (v := ?v13) rfl rfl (by kernel_rfl) (by kernel_rfl) (by kernel_rfl) (fun _ _ _ h => h) (Or.inl ⟨by kernel_rfl, ?hy13⟩) (by assumption) ?rest13
        case hy13 => (intro w hSw; (try dsimp only at hSw); go_simp <;> with_reducible rfl)
        case rest13 =>
        simp only [Act.put, List.setIfInBounds_toArray, List.set_cons_zero, List.set_cons_succ]
        refine takeH (some 12) (i := 2) (v := ?v14) rfl rfl (by kernel_rfl) (by kernel_rfl) (by kernel_rfl) (fun _ _ _ h => h) (Or.inl ⟨by kernel_rfl, ?hy14⟩) (by assumption) ?rest14
        case hy14 => (intro w hSw; (try dsimp only at hSw); go_simp <;> with_reducible rfl)
        case rest14 =>
        simp only [Act.put, List.setIfInBounds_toArray, List.set_cons_zero, List.set_cons_succ]
        refine takeH (some 13) (i := 3) (v := ?v15) rfl rfl (by kernel_rfl) (by kernel_rfl) (by kernel_rfl) (fun _ _ _ h => h) (Or.inl ⟨by kernel_rfl, ?hy15⟩) (by assumption) ?rest15
        case hy15 => (intro w hSw; (try dsimp only at hSw); go_simp <;> with_reducible rfl)
        case rest15 =>
        simp only [Act.put, List.setIfInBounds_toArray, List.set_cons_zero, List.set_cons_succ]
        refine wpAnyH_ready (rs := [4]) (by kernel_rfl) (by simp) ?_
        refine AllReadyH.cons rfl (fun K hK => ?_) AllReadyH.nil
        go_simp
        go_at_call 20
        (with_reducible refine Calls.mono (HC.out _ (by go_split_ands; assumption)) ?_)
        rintro e w' ⟨rfl, hb⟩
        have hS := HQ2.out _ _ (by go_split_ands; assumption) hb
        clear hb
        go_wp2_with fail
        refine hK.out _ _ hS (fun hHeld2 => ?_)
        clear hK K hHeld
        refine takeH (some 15) (i := 5) (v := ?v16) rfl rfl (by kernel_rfl) (by kernel_rfl) (by kernel_rfl) (fun _ _ _ h => h) (Or.inl ⟨by kernel_rfl, ?hy16⟩) (by assumption) ?rest16
        case hy16 => (intro w hSw; (try dsimp only at hSw); go_simp <;> with_reducible rfl)
        case rest16 =>
        simp only [Act.put, List.setIfInBounds_toArray, List.set_cons_zero, List.set_cons_succ]
        refine takeH (some 16) (i := 6) (v := ?v17) rfl rfl (by kernel_rfl) (by kernel_rfl) (by kernel_rfl) (fun _ _ _ h => h) (Or.inl ⟨by kernel_rfl, ?hy17⟩) (by assumption) ?rest17
        case hy17 => (intro w hSw; (try dsimp only at hSw); go_simp <;> with_reducible rfl)
        case rest17 =>
        simp only [Act.put, List.setIfInBounds_toArray, List.set_cons_zero, List.set_cons_succ]
        refine takeH (some 17) (i := 7) (v := undef) rfl rfl (by kernel_rfl) (by kernel_rfl) (by kernel_rfl) (fun _ _ _ h => h) (Or.inr ⟨by kernel_rfl, rfl⟩) (by assumption) ?_
        simp only [Act.put, List.setIfInBounds_toArray, List.set_cons_zero, List.set_cons_succ]
        refine takeH (some 18) (i := 8) (v := undef) rfl rfl (by kernel_rfl) (by kernel_rfl) (by kernel_rfl) (fun _ _ _ h => h) (Or.inr ⟨by kernel_rfl, rfl⟩) (by assumption) ?_
        simp only [Act.put, List.setIfInBounds_toArray, List.set_cons_zero, List.set_cons_succ]
        refine takeH (some 19) (i := 9) (v := undef) rfl rfl (by kernel_rfl) (by kernel_rfl) (by kernel_rfl) (fun _ _ _ h => h) (Or.inr ⟨by kernel_rfl, rfl⟩) (by assumption) ?_
        simp only [Act.put, List.setIfInBounds_toArray, List.set_cons_zero, List.set_cons_succ]
        refine takeH (some 20) (i := 10) (v := undef) rfl rfl (by kernel_rfl) (by kernel_rfl) (by kernel_rfl) (fun _ _ _ h => h) (Or.inr ⟨by kernel_rfl, rfl⟩) (by assumption) ?_
        simp only [Act.put, List.setIfInBounds_toArray, List.set_cons_zero, List.set_cons_succ]
        refine takeH (some 21) (i := 11) (v := undef) rfl rfl (by kernel_rfl) (by kernel_rfl) (by kernel_rfl) (fun _ _ _ h => h) (Or.inr ⟨by kernel_rfl, rfl⟩) (by assumption) ?_
        simp only [Act.put, List.setIfInBounds_toArray, List.set_cons_zero, List.set_cons_succ]
        refine takeH (some 22) (i := 12) (v := undef) rfl rfl (by kernel_rfl) (by kernel_rfl) (by kernel_rfl) (fun _ _ _ h => h) (Or.inr ⟨by kernel_rfl, rfl⟩) (by assumption) ?_
        simp only [Act.put, List.setIfInBounds_toArray, List.set_cons_zero, List.set_cons_succ]
        refine takeH (some 23) (i := 13) (v := undef) rfl rfl (by kernel_rfl) (by kernel_rfl) (by kernel_rfl) (fun _ _ _ h => h) (Or.inr ⟨by kernel_rfl, rfl⟩) (by assumption) ?_
        simp only [Act.put, List.setIfInBounds_toArray, List.set_cons_zero, List.set_cons_succ]
        refine takeH (some 24) (i := 14) (v := undef) rfl rfl (by kernel_rfl) (by kernel_rfl) (by kernel_rfl) (fun _ _ _ h => h) (Or.inr ⟨by kernel_rfl, rfl⟩) (by assumption) ?_
        simp only [Act.put, List.setIfInBounds_toArray, List.set_cons_zero, List.set_cons_succ]
        refine takeH (some 25) (i := 15) (v := undef) rfl rfl (by kernel_rfl) (by kernel_rfl) (by kernel_rfl) (fun _ _ _ h => h) (Or.inr ⟨by kernel_rfl, rfl⟩) (by assumption) ?_
        simp only [Act.put, List.setIfInBounds_toArray, List.set_cons_zero, List.set_cons_succ]
        refine takeH (some 26) (i := 16) (v := undef) rfl rfl (by kernel_rfl) (by kernel_rfl) (by kernel_rfl) (fun _ _ _ h => h) (Or.inr ⟨by kernel_rfl, rfl⟩) (by assumption) ?_
        simp only [Act.put, List.setIfInBounds_toArray, List.set_cons_zero, List.set_cons_succ]
        refine takeH (some 27) (i := 17) (v := undef) rfl rfl (by kernel_rfl) (by kernel_rfl) (by kernel_rfl) (fun _ _ _ h => h) (Or.inr ⟨by kernel_rfl, rfl⟩) (by assumption) ?_
        simp only [Act.put, List.setIfInBounds_toArray, List.set_cons_zero, List.set_cons_succ]
        refine takeH (some 28) (i := 18) (v := undef) rfl rfl (by kernel_rfl) (by kernel_rfl) (by kernel_rfl) (fun _ _ _ h => h) (Or.inr ⟨by kernel_rfl, rfl⟩) (by assumption) ?_
        simp only [Act.put, List.setIfInBounds_toArray, List.set_cons_zero, List.set_cons_succ]
        refine takeH (some 29) (i := 19) (v := undef) rfl rfl (by kernel_rfl) (by kernel_rfl) (by kernel_rfl) (fun _ _ _ h => h) (Or.inr ⟨by kernel_rfl, rfl⟩) (by assumption) ?_
        simp only [Act.put, List.setIfInBounds_toArray, List.set_cons_zero, List.set_cons_succ]
        refine takeH (some 30) (i := 20) (v := undef) rfl rfl (by kernel_rfl) (by kernel_rfl) (by kernel_rfl) (fun _ _ _ h => h) (Or.inr ⟨by kernel_rfl, rfl⟩) (by assumption) ?_
        simp only [Act.put, List.setIfInBounds_toArray, List.set_cons_zero, List.set_cons_succ]
        refine takeH (some 31) (i := 21) (v := undef) rfl rfl (by kernel_rfl) (by kernel_rfl) (by kernel_rfl) (fun _ _ _ h => h) (Or.inr ⟨by kernel_rfl, rfl⟩) (by assumption) ?_
        simp only [Act.put, List.setIfInBounds_toArray, List.set_cons_zero, List.set_cons_succ]
        refine takeH (some 32) (i := 22) (v := undef) rfl rfl (by kernel_rfl) (by kernel_rfl) (by kernel_rfl) (fun _ _ _ h => h) (Or.inr ⟨by kernel_rfl, rfl⟩) (by assumption) ?_
        simp only [Act.put, List.setIfInBounds_toArray, List.set_cons_zero, List.set_cons_succ]
        refine takeH (some 33) (i := 23) (v := undef) rfl rfl (by kernel_rfl) (by kernel_rfl) (by kernel_rfl) (fun _ _ _ h => h) (Or.inr ⟨by kernel_rfl, rfl⟩) (by assumption) ?_
        simp only [Act.put, List.setIfInBounds_toArray, List.set_cons_zero, List.set_cons_succ]
        refine takeH (some 34) (i := 24) (v := ?v18) rfl rfl (by kernel_rfl) (by kernel_rfl) (by kernel_rfl) (fun _ _ _ h => h) (Or.inl ⟨by kernel_rfl, ?hy18⟩) (by assumption) ?rest18
        case hy18 => (intro w hSw; (try dsimp only at hSw); go_simp <;> with_reducible rfl)
        case rest18 =>
        simp only [Act.put, List.setIfInBounds_toArray, List.set_cons_zero, List.set_cons_succ]
        refine wpAnyH_done (by kernel_rfl) ?_ _
        have HD := Lib.hid (seqB HB.out (show Below wr.heap.size wr w' from hS.2.2.2.2.out))
        clear hS HQ HQ2 HC hHeld2
        have HF := Lib.hid (show X = false from by rw [← HX.out]; exact right_no (HUC.out hC0))
        clear HUN HUC HUO HN
        go_wp2_with fail
        go_ret
        exact ⟨by rw [HF.out]; rfl, HD.out⟩
    · obtain rfl : k = n := by omega
      have HF := Lib.hid (show X = decide (k ≤ 8) from by
        rw [← HX.out]
        by_cases h8 : k ≤ 8
        · rw [decide_eq_true h8]
          exact right_yes (up_right (by rw [HL.out]; exact HN.out) (by rw [HL.out]; exact h8))
        · rw [decide_eq_false h8]
          exact right_no fun h => h8 (by rw [← HL.out]; exact h.few))
      clear HN
      by_cases h8 : k ≤ 8
      · rw [decide_eq_true h8] at HF
        have d1 : decide ((k : Int) ≤ 8) = true := decide_eq_true (by omega)
        go_wp2_with fail
        go_ret
        exact ⟨by rw [HF.out]; rfl, HB.out⟩
      · rw [decide_eq_false h8] at HF
        have d1 : decide ((k : Int) ≤ 8) = false := decide_eq_false (by omega)
        go_wp2_with fail
        go_ret
        exact ⟨by rw [HF.out]; rfl, HB.out⟩
end Go.Proofs.YtmghkcjljnlocaaGreatDoor
