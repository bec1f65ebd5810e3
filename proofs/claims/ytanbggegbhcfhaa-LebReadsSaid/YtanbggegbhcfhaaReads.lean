/-
  The walk of chicanelaw04.LebReads: it returns true, whatever bytes and calls. Conditions: as each states.
-/
import Derived.Test.YtanbggegbhcfhaaW13
namespace Go.Proofs.Ytanbggegbhcfhaa.lebReads
open Go.RowKit

set_option maxHeartbeats 2000000 in
theorem walk_long (p q : Option Addr) (n c m d : Nat) (h : 1000 < n) (hn : n ≤ 9223372036854775807) (w : World) :
    Calls Try.prog 5 #[.slice p n c, .slice q m d] w fun e w' => e = .returned (.bool true) ∧ Below w.heap.size w w' := by
  have d1 : decide ((1000 : Int) < (n : Int)) = true := by simp; omega
  go_enter Try.func5, Try.ntmps5
  go_wp2_with fail
  refine (alive_any _).mono ?_
  rintro e w5 ⟨rfl, hb5⟩
  have HB5 := Lib.hid hb5
  clear hb5
  go_wp2_with fail
  go_ret
  exact ⟨rfl, HB5.out⟩
set_option maxHeartbeats 2000000 in
theorem walk_many (p q : Option Addr) (n c m d : Nat) (h : n ≤ 1000) (hm : 200 < m) (hm' : m ≤ 9223372036854775807) (w : World) :
    Calls Try.prog 5 #[.slice p n c, .slice q m d] w fun e w' => e = .returned (.bool true) ∧ Below w.heap.size w w' := by
  have d1 : decide ((1000 : Int) < (n : Int)) = false := by simp; omega
  have d2 : decide ((200 : Int) < (m : Int)) = true := by simp; omega
  go_enter Try.func5, Try.ntmps5
  go_wp2_with fail
  refine (alive_any _).mono ?_
  rintro e w5 ⟨rfl, hb5⟩
  have HB5 := Lib.hid hb5
  clear hb5
  go_wp2_with fail
  go_ret
  exact ⟨rfl, HB5.out⟩

/-- What a reader's call tells, and where it stands then. -/
def Told (u : Value) (base g : Nat) (xs : List Int) (k : Nat) (bad : Bool) (w : World) (e : Ending) (w' : World) : Prop := e = .returned u ∧ Rd w' base g xs k bad ∧ w.grownBy w' (some g)
/-- What a call does, to the document's reader and to the program's. -/
structure Step (base g : Nat) (S : ByteArray) (xs : List Int) (kk : Nat) (bad : Bool) (kind most : Int) (k' : Nat) (bad' : Bool) (N : Nat) (T : ByteArray) : Prop where
  did : ∀ w, Calls Try.prog 20 #[.agg #[.string S, .int .i64 kk, .bool bad], .agg #[.int .i64 kind, .int .i64 most]] w (Did S k' bad' N T w)
  int : kind = 0 → T = ⟨#[]⟩ ∧ ∀ w, Rd w base g xs kk bad → Calls Try.prog 21 #[.pointer (some ⟨g, 0, none⟩), .int .i64 most] w (Told (.int .i64 N) base g xs k' bad' w)
  byte : kind = 1 → T = ⟨#[]⟩ ∧ ∀ w, Rd w base g xs kk bad → Calls Try.prog 22 #[.pointer (some ⟨g, 0, none⟩), .int .i64 most] w (Told (.int .i64 N) base g xs k' bad' w)
  str : kind = 2 → N = 0 ∧ ∀ w, Rd w base g xs kk bad → Calls Try.prog 23 #[.pointer (some ⟨g, 0, none⟩), .int .i64 most] w (Told (.string T) base g xs k' bad' w)
  none : kind ≠ 0 → kind ≠ 1 → kind ≠ 2 → N = 0 ∧ T = ⟨#[]⟩ ∧ k' = kk ∧ bad' = bad
theorem step_all (base g : Nat) (S : ByteArray) (xs : List Int) (kk : Nat) (bad : Bool) (kind most : Int) (hS : S.size ≤ 1000) (hk : kk ≤ S.size) (hx : nums S = xs) : ∃ k' bad' N T, Step base g S xs kk bad kind most k' bad' N T := by
  subst hx
  by_cases h0 : kind = 0
  · subst h0
    exact ⟨_, _, _, _, fun w => do_int S kk bad most w (by omega) hk, fun _ => ⟨rfl, fun w hr => rint_any base g _ kk bad most w hr⟩, fun h => absurd h (by decide), fun h => absurd h (by decide), fun h => absurd rfl h⟩
  by_cases h1 : kind = 1
  · subst h1
    exact ⟨_, _, _, _, fun w => do_byte S kk bad most w (by omega) hk, fun h => absurd h (by decide), fun _ => ⟨rfl, fun w hr => rbyte_any base g _ kk bad most w hr⟩, fun h => absurd h (by decide), fun _ h => absurd rfl h⟩
  by_cases h2 : kind = 2
  · subst h2
    exact ⟨_, _, _, _, fun w => do_str S kk bad most w (by omega) hk, fun h => absurd h (by decide), fun h => absurd h (by decide), fun _ => ⟨rfl, fun w hr => rstr_any base g _ kk bad most w hr⟩, fun _ _ h => absurd rfl h⟩
  · exact ⟨_, _, _, _, fun w => do_other S kk bad kind most (by omega) w, fun h => absurd h h0, fun h => absurd h h1, fun h => absurd h h2, fun _ _ _ => ⟨rfl, rfl, rfl, rfl⟩⟩
theorem left_n (base g n : Nat) (xs : List Int) (k : Nat) (bad : Bool) (w : World) (h : Rd w base g xs k bad) (hx : xs.length = n) :
    Calls Try.prog 26 #[.pointer (some ⟨g, 0, none⟩)] w fun e w' => e = .returned (.int .i64 ((n : Int) - k)) ∧ ∃ m, w' = w.drewN m := by
  subst hx
  exact left_any base g xs k bad w h
theorem end_n (base g : Nat) (xs : List Int) (k : Nat) (bad E : Bool) (w : World) (h : Rd w base g xs k bad) (hE : E = (!bad && decide (k = xs.length))) :
    Calls Try.prog 27 #[.pointer (some ⟨g, 0, none⟩)] w fun e w' => e = .returned (.bool E) ∧ ∃ m, w' = w.drewN m := by
  subst hE
  exact end_any base g xs k bad w h

set_option maxRecDepth 100000 in
set_option maxHeartbeats 16000000 in
theorem walk_main (p q : Option Addr) (n c m d : Nat) (xs : List Int) (os : List (Int × Int)) (w : World) (hx : xs.length = n) (hb : AllB xs) (hi : Lib.BytesIn w p n xs) (hj : OpsIn w q m os) (hn : n ≤ 1000) (hm : m ≤ 200) :
    Calls Try.prog 5 #[.slice p n c, .slice q m d] w fun e w' => e = .returned (.bool true) ∧ Below w.heap.size w w' := by
  have HX := Lib.hid hx
  have HA := Lib.hid hb
  have HI := Lib.hid hi
  have HJ := Lib.hid hj
  have d1 : decide ((1000 : Int) < (n : Int)) = false := by simp; omega
  have d2 : decide ((200 : Int) < (m : Int)) = false := by simp; omega
  obtain ⟨S, HS⟩ : ∃ S, Hid (S = strOfNums xs) := ⟨_, Lib.hid rfl⟩
  have HNS := Lib.hid (show nums S = xs by rw [HS.out, nums_str xs hb])
  have hSs : S.size ≤ 1000 := by rw [HS.out, strOfNums_size]; omega
  have HSN := Lib.hid (show S.size = n by rw [HS.out, strOfNums_size, hx])
  clear hx hb hi hj
  go_enter Try.func5, Try.ntmps5
  go_wp2_with fail
  refine (new_any p n c xs _ HX.out (by omega) HA.out HI.out).mono ?_
  rintro e w1 ⟨g, rfl, hr, hb1⟩
  have HR := Lib.hid hr
  have HB1 := Lib.hid hb1
  have cv : (convert 22 9 (.slice p n c)).run Try.prog w1 = .ok (.string S) w1 := by rw [HS.out]; exact conv_bytes (bytes_on HI.out hb1) HX.out c
  clear hr hb1
  go_wp2_with fail
  clear cv
  have HR2 := Lib.hid (HR.out.on (show Below w1.heap.size w1 (w1.alloc (.cells #[.string S, .int .i64 0, .bool false] 40)) from (Below.refl _ _).alloc (Nat.le_refl _) _))
  have HB2 := Lib.hid (show Below w.heap.size w (w1.alloc (.cells #[.string S, .int .i64 0, .bool false] 40)) from HB1.out.alloc HB1.out.size _)
  have HQ2 := Lib.hid (heap_alloc_new w1 (.cells #[.string S, .int .i64 0, .bool false] 40))
  have hgq := HB1.out.size
  generalize w1.alloc (.cells #[.string S, .int .i64 0, .bool false] 40) = w2 at *
  generalize w1.heap.size = gq at *
  clear HR HB1
  go_loopw [32] (fun i wr => ∃ (k kk : Nat) (bad : Bool), k ≤ m ∧ i = .int .i64 k ∧ Hid (Below w.heap.size w wr) ∧ Hid (Rd wr w.heap.size g xs kk bad) ∧ Hid (wr.heap[gq]? = some (.cells #[.string S, .int .i64 kk, .bool bad] 40 (0, 0)))) (fun i _ => m - (intOf i).toNat)
  case atStart => exact ⟨0, 0, false, by omega, rfl, HB2, HR2, HQ2⟩
  case round =>
    clear HB2 HR2 HQ2
    obtain ⟨k, kk, bad, hk, rfl, HB, HR, HQ⟩ := hrel
    by_cases hlt : k < m
    · obtain ⟨b, o, rfl, hc⟩ := ops_on HJ.out HB.out (by omega)
      obtain ⟨g1, g2⟩ := hc k hlt
      generalize os.getD k (0, 0) = op at *
      obtain ⟨kind, most⟩ := op
      simp only at g1 g2
      rw [← Nat.add_assoc] at g2
      have hbl : b < wr.heap.size := World.block_lt_of_cell? wr _ g1
      have hql : gq < wr.heap.size := blk_lt HQ.out
      have q0 : wr.cell? ⟨gq, 0, none⟩ = some (.string S) := cell_of_row wr gq 0 _ _ _ HQ.out
      have q1 : wr.cell? ⟨gq, 1, none⟩ = some (.int .i64 kk) := cell_of_row wr gq 1 _ _ _ HQ.out
      have q2 : wr.cell? ⟨gq, 2, none⟩ = some (.bool bad) := cell_of_row wr gq 2 _ _ _ HQ.out
      obtain ⟨k', bad', N, T, hst⟩ := step_all w.heap.size g S xs kk bad kind most hSs (by have := HR.out.le; rw [HX.out] at this; rw [HSN.out]; exact this) HNS.out
      have HST := Lib.hid hst
      clear hc hst
      go_wp2_with fail
      have hbw : Below wr.heap.size wr (wr.alloc (.cells #[.int .i64 kind, .int .i64 most] 42)) := (Below.refl _ _).alloc (Nat.le_refl _) _
      have HR3 := Lib.hid (HR.out.on hbw)
      have HB3 := Lib.hid (seqB HB.out hbw)
      have HQ3 := Lib.hid ((hbw.block gq hql).trans HQ.out)
      have HO3 := Lib.hid (heap_alloc_new wr (.cells #[.int .i64 kind, .int .i64 most] 42))
      generalize wr.alloc (.cells #[.int .i64 kind, .int .i64 most] 42) = w3 at *
      generalize wr.heap.size = go at *
      clear hbw HR HB HQ q0 q1 q2 g1 g2 hbl
      refine (HST.out.did _).mono ?_
      rintro e w4 ⟨rfl, hb4⟩
      have HR4 := Lib.hid (HR3.out.on hb4)
      have HB4 := Lib.hid (seqB HB3.out hb4)
      have HQ4 := Lib.hid ((hb4.block gq (blk_lt HQ3.out)).trans HQ3.out)
      have HO4 := Lib.hid ((hb4.block go (blk_lt HO3.out)).trans HO3.out)
      clear hb4 HR3 HB3 HQ3 HO3
      have hq4 : gq < w4.heap.size := blk_lt HQ4.out
      have ho4 : go < w4.heap.size := blk_lt HO4.out
      have q0 : w4.cell? ⟨gq, 0, none⟩ = some (.string S) := cell_of_row w4 gq 0 _ _ _ HQ4.out
      have q1 : w4.cell? ⟨gq, 1, none⟩ = some (.int .i64 kk) := cell_of_row w4 gq 1 _ _ _ HQ4.out
      have q2 : w4.cell? ⟨gq, 2, none⟩ = some (.bool bad) := cell_of_row w4 gq 2 _ _ _ HQ4.out
      have f0 : w4.frozen? ⟨gq, 0, none⟩ = false := frozen_at HQ4.out
      have f1 : w4.frozen? ⟨gq, 1, none⟩ = false := frozen_at HQ4.out
      have f2 : w4.frozen? ⟨gq, 2, none⟩ = false := frozen_at HQ4.out
      have o0 : w4.cell? ⟨go, 0, none⟩ = some (.int .i64 kind) := cell_of_row w4 go 0 _ _ _ HO4.out
      have o1 : w4.cell? ⟨go, 1, none⟩ = some (.int .i64 most) := cell_of_row w4 go 1 _ _ _ HO4.out
      obtain ⟨hr5, hq5, hj5⟩ := set3 HR4.out HQ4.out (.string S) (.int .i64 k') (.bool bad')
      have hal : Below _ _ ((((w4.setCell ⟨gq, 0, none⟩ (.string S)).setCell ⟨gq, 1, none⟩ (.int .i64 k')).setCell ⟨gq, 2, none⟩ (.bool bad')).alloc (.cells #[.string S, .int .i64 k', .bool bad'] 40)) := (Below.refl _ _).alloc (Nat.le_refl _) _
      have HR5 := Lib.hid (hr5.on hal)
      have HQ5 := Lib.hid ((hal.block gq (blk_lt hq5)).trans hq5)
      have HB5 := Lib.hid (show Below w.heap.size w ((((w4.setCell ⟨gq, 0, none⟩ (.string S)).setCell ⟨gq, 1, none⟩ (.int .i64 k')).setCell ⟨gq, 2, none⟩ (.bool bad')).alloc (.cells #[.string S, .int .i64 k', .bool bad'] 40)) from (((HB4.out.setCell (p := ⟨gq, 0, none⟩) hgq _).setCell (p := ⟨gq, 1, none⟩) hgq _).setCell (p := ⟨gq, 2, none⟩) hgq _).alloc (by have := HB4.out.size; simpa using this) _)
      clear hr5 hq5 hj5 hal HR4 HB4 HQ4 HO4
      by_cases hk0 : kind = 0
      · subst hk0
        obtain ⟨h1, h2⟩ := HST.out.int rfl
        have H2 := Lib.hid h2
        subst h1
        clear h2 HST
        go_wp2_with fail
        generalize (((w4.setCell ⟨gq, 0, none⟩ (.string S)).setCell ⟨gq, 1, none⟩ (.int .i64 k')).setCell ⟨gq, 2, none⟩ (.bool bad')).alloc (.cells #[.string S, .int .i64 k', .bool bad'] 40) = w5 at *
        clear q0 q1 q2 f0 f1 f2 o0 o1
        refine (H2.out _ HR5.out).mono ?_
        rintro e w6 ⟨rfl, hr6, hg6⟩
        have HR6 := Lib.hid hr6
        have HB6 := Lib.hid (HB5.out.grown hg6 HB5.out.size (fun j hj => by cases hj; exact hr6.base))
        have HQ6 := Lib.hid ((hg6.block gq (blk_lt HQ5.out) (fun e => HR5.out.ne HQ5.out (by decide) (Option.some.inj e))).trans HQ5.out)
        clear hr6 hg6 HR5 HB5 HQ5
        have hle := HR6.out.le
        rw [HX.out] at hle
        have p1 : w6.cell? ⟨gq, 1, none⟩ = some (.int .i64 k') := cell_of_row w6 gq 1 _ _ _ HQ6.out
        have p2 : w6.cell? ⟨gq, 2, none⟩ = some (.bool bad') := cell_of_row w6 gq 2 _ _ _ HQ6.out
        have wr1 : IntKind.i64.wrap ((n : Int) - (k' : Int)) = (n : Int) - (k' : Int) := IntWalk.i64_in _ (by omega)
        obtain ⟨E, hE⟩ : ∃ E, E = (!bad' && decide (k' = xs.length)) := ⟨_, rfl⟩
        have HE := Lib.hid hE
        have eE : bad' = false → ((k' : Int) == (n : Int)) = E := fun h => by
          rw [hE, h, HX.out, Bool.eq_iff_iff]
          simp
          omega
        have eT : bad' = true → E = false := fun h => by rw [hE, h]; rfl
        clear hE
        cases bad' with
        | true =>
          obtain rfl : E = false := eT rfl
          clear eE eT
          go_wp2_with fail
          go_quiet ((first
            | (go_at_call 24; exact quiet_left (at_any _ g xs k' _ _ (HR6.out.drewN _)))
            | (go_at_call 25; exact quiet_left (bad_any _ g xs k' _ _ (HR6.out.drewN _)))
            | (go_at_call 26; exact Calls.quiet_of (left_n _ g n xs k' _ _ (HR6.out.drewN _) HX.out))
            | (go_at_call 27; exact Calls.quiet_of (end_n _ g xs k' _ _ _ (HR6.out.drewN _) HE.out))))
          rename_i nq
          go_wp2_with fail
          go_roundw
          case rel => exact ⟨k + 1, k', _, by omega, by go_num, Lib.hid (below_drawn HB6.out nq), Lib.hid (HR6.out.drewN nq), HQ6⟩
          case measure => simp [intOf]; omega
        | false =>
          have eK := eE rfl
          clear eE eT
          go_wp2_with fail
          go_quiet ((first
            | (go_at_call 24; exact quiet_left (at_any _ g xs k' _ _ (HR6.out.drewN _)))
            | (go_at_call 25; exact quiet_left (bad_any _ g xs k' _ _ (HR6.out.drewN _)))
            | (go_at_call 26; exact Calls.quiet_of (left_n _ g n xs k' _ _ (HR6.out.drewN _) HX.out))
            | (go_at_call 27; exact Calls.quiet_of (end_n _ g xs k' _ _ _ (HR6.out.drewN _) HE.out))))
          rename_i nq
          go_wp2_with fail
          go_roundw
          case rel => exact ⟨k + 1, k', _, by omega, by go_num, Lib.hid (below_drawn HB6.out nq), Lib.hid (HR6.out.drewN nq), HQ6⟩
          case measure => simp [intOf]; omega
      by_cases hk1 : kind = 1
      · subst hk1
        obtain ⟨h1, h2⟩ := HST.out.byte rfl
        have H2 := Lib.hid h2
        subst h1
        clear h2 HST
        go_wp2_with fail
        generalize (((w4.setCell ⟨gq, 0, none⟩ (.string S)).setCell ⟨gq, 1, none⟩ (.int .i64 k')).setCell ⟨gq, 2, none⟩ (.bool bad')).alloc (.cells #[.string S, .int .i64 k', .bool bad'] 40) = w5 at *
        clear q0 q1 q2 f0 f1 f2 o0 o1
        refine (H2.out _ HR5.out).mono ?_
        rintro e w6 ⟨rfl, hr6, hg6⟩
        have HR6 := Lib.hid hr6
        have HB6 := Lib.hid (HB5.out.grown hg6 HB5.out.size (fun j hj => by cases hj; exact hr6.base))
        have HQ6 := Lib.hid ((hg6.block gq (blk_lt HQ5.out) (fun e => HR5.out.ne HQ5.out (by decide) (Option.some.inj e))).trans HQ5.out)
        clear hr6 hg6 HR5 HB5 HQ5
        have hle := HR6.out.le
        rw [HX.out] at hle
        have p1 : w6.cell? ⟨gq, 1, none⟩ = some (.int .i64 k') := cell_of_row w6 gq 1 _ _ _ HQ6.out
        have p2 : w6.cell? ⟨gq, 2, none⟩ = some (.bool bad') := cell_of_row w6 gq 2 _ _ _ HQ6.out
        have wr1 : IntKind.i64.wrap ((n : Int) - (k' : Int)) = (n : Int) - (k' : Int) := IntWalk.i64_in _ (by omega)
        obtain ⟨E, hE⟩ : ∃ E, E = (!bad' && decide (k' = xs.length)) := ⟨_, rfl⟩
        have HE := Lib.hid hE
        have eE : bad' = false → ((k' : Int) == (n : Int)) = E := fun h => by
          rw [hE, h, HX.out, Bool.eq_iff_iff]
          simp
          omega
        have eT : bad' = true → E = false := fun h => by rw [hE, h]; rfl
        clear hE
        cases bad' with
        | true =>
          obtain rfl : E = false := eT rfl
          clear eE eT
          go_wp2_with fail
          go_quiet ((first
            | (go_at_call 24; exact quiet_left (at_any _ g xs k' _ _ (HR6.out.drewN _)))
            | (go_at_call 25; exact quiet_left (bad_any _ g xs k' _ _ (HR6.out.drewN _)))
            | (go_at_call 26; exact Calls.quiet_of (left_n _ g n xs k' _ _ (HR6.out.drewN _) HX.out))
            | (go_at_call 27; exact Calls.quiet_of (end_n _ g xs k' _ _ _ (HR6.out.drewN _) HE.out))))
          rename_i nq
          go_wp2_with fail
          go_roundw
          case rel => exact ⟨k + 1, k', _, by omega, by go_num, Lib.hid (below_drawn HB6.out nq), Lib.hid (HR6.out.drewN nq), HQ6⟩
          case measure => simp [intOf]; omega
        | false =>
          have eK := eE rfl
          clear eE eT
          go_wp2_with fail
          go_quiet ((first
            | (go_at_call 24; exact quiet_left (at_any _ g xs k' _ _ (HR6.out.drewN _)))
            | (go_at_call 25; exact quiet_left (bad_any _ g xs k' _ _ (HR6.out.drewN _)))
            | (go_at_call 26; exact Calls.quiet_of (left_n _ g n xs k' _ _ (HR6.out.drewN _) HX.out))
            | (go_at_call 27; exact Calls.quiet_of (end_n _ g xs k' _ _ _ (HR6.out.drewN _) HE.out))))
          rename_i nq
          go_wp2_with fail
          go_roundw
          case rel => exact ⟨k + 1, k', _, by omega, by go_num, Lib.hid (below_drawn HB6.out nq), Lib.hid (HR6.out.drewN nq), HQ6⟩
          case measure => simp [intOf]; omega
      by_cases hk2 : kind = 2
      · subst hk2
        obtain ⟨h1, h2⟩ := HST.out.str rfl
        have H2 := Lib.hid h2
        subst h1
        clear h2 HST
        go_wp2_with fail
        generalize (((w4.setCell ⟨gq, 0, none⟩ (.string S)).setCell ⟨gq, 1, none⟩ (.int .i64 k')).setCell ⟨gq, 2, none⟩ (.bool bad')).alloc (.cells #[.string S, .int .i64 k', .bool bad'] 40) = w5 at *
        clear q0 q1 q2 f0 f1 f2 o0 o1
        refine (H2.out _ HR5.out).mono ?_
        rintro e w6 ⟨rfl, hr6, hg6⟩
        have HR6 := Lib.hid hr6
        have HB6 := Lib.hid (HB5.out.grown hg6 HB5.out.size (fun j hj => by cases hj; exact hr6.base))
        have HQ6 := Lib.hid ((hg6.block gq (blk_lt HQ5.out) (fun e => HR5.out.ne HQ5.out (by decide) (Option.some.inj e))).trans HQ5.out)
        clear hr6 hg6 HR5 HB5 HQ5
        have hle := HR6.out.le
        rw [HX.out] at hle
        have p1 : w6.cell? ⟨gq, 1, none⟩ = some (.int .i64 k') := cell_of_row w6 gq 1 _ _ _ HQ6.out
        have p2 : w6.cell? ⟨gq, 2, none⟩ = some (.bool bad') := cell_of_row w6 gq 2 _ _ _ HQ6.out
        have wr1 : IntKind.i64.wrap ((n : Int) - (k' : Int)) = (n : Int) - (k' : Int) := IntWalk.i64_in _ (by omega)
        obtain ⟨E, hE⟩ : ∃ E, E = (!bad' && decide (k' = xs.length)) := ⟨_, rfl⟩
        have HE := Lib.hid hE
        have eE : bad' = false → ((k' : Int) == (n : Int)) = E := fun h => by
          rw [hE, h, HX.out, Bool.eq_iff_iff]
          simp
          omega
        have eT : bad' = true → E = false := fun h => by rw [hE, h]; rfl
        clear hE
        cases bad' with
        | true =>
          obtain rfl : E = false := eT rfl
          clear eE eT
          go_wp2_with fail
          go_quiet ((first
            | (go_at_call 24; exact quiet_left (at_any _ g xs k' _ _ (HR6.out.drewN _)))
            | (go_at_call 25; exact quiet_left (bad_any _ g xs k' _ _ (HR6.out.drewN _)))
            | (go_at_call 26; exact Calls.quiet_of (left_n _ g n xs k' _ _ (HR6.out.drewN _) HX.out))
            | (go_at_call 27; exact Calls.quiet_of (end_n _ g xs k' _ _ _ (HR6.out.drewN _) HE.out))))
          rename_i nq
          go_wp2_with fail
          go_roundw
          case rel => exact ⟨k + 1, k', _, by omega, by go_num, Lib.hid (below_drawn HB6.out nq), Lib.hid (HR6.out.drewN nq), HQ6⟩
          case measure => simp [intOf]; omega
        | false =>
          have eK := eE rfl
          clear eE eT
          go_wp2_with fail
          go_quiet ((first
            | (go_at_call 24; exact quiet_left (at_any _ g xs k' _ _ (HR6.out.drewN _)))
            | (go_at_call 25; exact quiet_left (bad_any _ g xs k' _ _ (HR6.out.drewN _)))
            | (go_at_call 26; exact Calls.quiet_of (left_n _ g n xs k' _ _ (HR6.out.drewN _) HX.out))
            | (go_at_call 27; exact Calls.quiet_of (end_n _ g xs k' _ _ _ (HR6.out.drewN _) HE.out))))
          rename_i nq
          go_wp2_with fail
          go_roundw
          case rel => exact ⟨k + 1, k', _, by omega, by go_num, Lib.hid (below_drawn HB6.out nq), Lib.hid (HR6.out.drewN nq), HQ6⟩
          case measure => simp [intOf]; omega
      obtain ⟨h1, h2, h3, h4⟩ := HST.out.none hk0 hk1 hk2
      subst h1 h2 h3 h4
      have e0 : (kind == 0) = false := by simpa using hk0
      have e1 : (kind == 1) = false := by simpa using hk1
      have e2 : (kind == 2) = false := by simpa using hk2
      clear HST
      go_wp2_with fail
      generalize (((w4.setCell ⟨gq, 0, none⟩ (.string S)).setCell ⟨gq, 1, none⟩ (.int .i64 k')).setCell ⟨gq, 2, none⟩ (.bool bad')).alloc (.cells #[.string S, .int .i64 k', .bool bad'] 40) = w5 at *
      clear q0 q1 q2 f0 f1 f2 o0 o1
      have HR6 := HR5
      have HB6 := HB5
      have HQ6 := HQ5
      have hle := HR6.out.le
      rw [HX.out] at hle
      have p1 : w5.cell? ⟨gq, 1, none⟩ = some (.int .i64 k') := cell_of_row w5 gq 1 _ _ _ HQ6.out
      have p2 : w5.cell? ⟨gq, 2, none⟩ = some (.bool bad') := cell_of_row w5 gq 2 _ _ _ HQ6.out
      have wr1 : IntKind.i64.wrap ((n : Int) - (k' : Int)) = (n : Int) - (k' : Int) := IntWalk.i64_in _ (by omega)
      obtain ⟨E, hE⟩ : ∃ E, E = (!bad' && decide (k' = xs.length)) := ⟨_, rfl⟩
      have HE := Lib.hid hE
      have eE : bad' = false → ((k' : Int) == (n : Int)) = E := fun h => by
        rw [hE, h, HX.out, Bool.eq_iff_iff]
        simp
        omega
      have eT : bad' = true → E = false := fun h => by rw [hE, h]; rfl
      clear hE
      cases bad' with
      | true =>
        obtain rfl : E = false := eT rfl
        clear eE eT
        go_wp2_with fail
        go_quiet ((first
          | (go_at_call 24; exact quiet_left (at_any _ g xs k' _ _ (HR6.out.drewN _)))
          | (go_at_call 25; exact quiet_left (bad_any _ g xs k' _ _ (HR6.out.drewN _)))
          | (go_at_call 26; exact Calls.quiet_of (left_n _ g n xs k' _ _ (HR6.out.drewN _) HX.out))
          | (go_at_call 27; exact Calls.quiet_of (end_n _ g xs k' _ _ _ (HR6.out.drewN _) HE.out))))
        rename_i nq
        go_wp2_with fail
        go_roundw
        case rel => exact ⟨k + 1, k', _, by omega, by go_num, Lib.hid (below_drawn HB6.out nq), Lib.hid (HR6.out.drewN nq), HQ6⟩
        case measure => simp [intOf]; omega
      | false =>
        have eK := eE rfl
        clear eE eT
        go_wp2_with fail
        go_quiet ((first
          | (go_at_call 24; exact quiet_left (at_any _ g xs k' _ _ (HR6.out.drewN _)))
          | (go_at_call 25; exact quiet_left (bad_any _ g xs k' _ _ (HR6.out.drewN _)))
          | (go_at_call 26; exact Calls.quiet_of (left_n _ g n xs k' _ _ (HR6.out.drewN _) HX.out))
          | (go_at_call 27; exact Calls.quiet_of (end_n _ g xs k' _ _ _ (HR6.out.drewN _) HE.out))))
        rename_i nq
        go_wp2_with fail
        go_roundw
        case rel => exact ⟨k + 1, k', _, by omega, by go_num, Lib.hid (below_drawn HB6.out nq), Lib.hid (HR6.out.drewN nq), HQ6⟩
        case measure => simp [intOf]; omega
    · go_wp2_with fail
      refine (alive_any _).mono ?_
      rintro e w5 ⟨rfl, hb5⟩
      have HB5 := Lib.hid (seqB HB.out hb5)
      clear hb5
      go_wp2_with fail
      go_ret
      exact ⟨rfl, HB5.out⟩

theorem walk (p q : Option Addr) (n c m d : Nat) (xs : List Int) (os : List (Int × Int)) (w : World) (hx : xs.length = n) (hb : AllB xs) (hi : Lib.BytesIn w p n xs) (hj : OpsIn w q m os) (hn : n ≤ 9223372036854775807) (hm : m ≤ 9223372036854775807) :
    Calls Try.prog 5 #[.slice p n c, .slice q m d] w fun e w' => e = .returned (.bool true) ∧ Below w.heap.size w w' := by
  by_cases h : 1000 < n
  · exact walk_long p q n c m d h hn w
  by_cases h1 : 200 < m
  · exact walk_many p q n c m d (by omega) h1 hm w
  exact walk_main p q n c m d xs os w hx hb hi hj (by omega) (by omega)
end Go.Proofs.Ytanbggegbhcfhaa.lebReads
