/-
  The walk of chicanelaw10.StageCopies: it returns true, whatever calls. Conditions: as each states.
-/
import Derived.Test.YtlbihcpglcdmmaaGreatLB
namespace Go.Proofs.YtlbihcpglcdmmaaGreat.stageCopies
open Go.RowKit

attribute [local go_sem ↓] to_loadR to_storeR
attribute [local go_sem] run_loadR run_storeR rval
set_option maxRecDepth 100000 in
set_option maxHeartbeats 32000000 in
theorem walk (t : Tox) (ht : t.s.size ≤ maxLen) (seed room now : Int) (p : Option Addr) (m d : Nat) (os : List Op) (p2 : Option Addr) (m2 d2 : Nat) (os2 : List Op) (w : World) (hx : os.length = m) (hmd : m ≤ d) (hd : d ≤ 9223372036854775807) (hz : ∀ o ∈ os, o.s.size ≤ 140737488351232 ∧ o.t.s.size ≤ maxLen) (hj : OpsIn w p m os)
    (hx2 : os2.length = m2) (hmd2 : m2 ≤ d2) (hd2 : d2 ≤ 9223372036854775807) (hz2 : ∀ o ∈ os2, o.s.size ≤ 140737488351232 ∧ o.t.s.size ≤ maxLen) (hj2 : OpsIn w p2 m2 os2) :
    Calls Tryz.prog 3 #[seatV t seed room now, .slice p m d, .slice p2 m2 d2] w fun e w' => e = .returned (.bool true) ∧ Below w.heap.size w w' := by
  by_cases hE : newE t room ≠ 0
  · exact no_new t ht seed room now hE p m d p2 m2 d2 w
  have hE0 : newE t room = 0 := by omega
  have HX := Lib.hid hx
  have HJ := Lib.hid hj
  have HZ := Lib.hid hz
  have HX2 := Lib.hid hx2
  have HJ2 := Lib.hid hj2
  have HZ2 := Lib.hid hz2
  have HMD := Lib.hid (And.intro hmd hd)
  have HMD2 := Lib.hid (And.intro hmd2 hd2)
  clear hE hx hz hj hx2 hz2 hj2 hmd hd hmd2 hd2
  obtain ⟨s0, hs0⟩ : ∃ s0, newS t seed room now = s0 := ⟨_, rfl⟩
  have hok := newE_ok hE0
  have HOK0 := Lib.hid (show Ok s0 0 by rw [← hs0]; exact ok_new ht hok.1 hok.2.1 hok.2.2)
  have HLN0 := Lib.hid (show s0.A.length = s0.S.size by rw [← hs0]; rfl)
  have HA0 := Lib.hid (show s0.A = [] by rw [← hs0]; rfl)
  have HN := Lib.hid (fun W => new_ok (seed := seed) (now := now) ht hE0 W)
  have HRN := Lib.hid (fun W => rnew_yes t ht seed room now W hE0)
  rw [hs0] at HN HRN
  obtain ⟨ts, tk, tu, to, ta, tb⟩ := t
  unfold Tox.v at HN
  unfold seatV
  simp only at HN HRN ⊢
  have HB := Lib.hid (show Below w.heap.size w (w.alloc (.cells #[.string ts, .int .i64 tk, .bool tu, .int .i64 to, .int .i64 ta, .int .i64 tb, .int .u64 seed, .int .i64 room, .int .i64 now] 26)) from (Below.refl _ _).alloc (Nat.le_refl _) _)
  have HK1 := Lib.hid (heap_alloc_new w (.cells #[.string ts, .int .i64 tk, .bool tu, .int .i64 to, .int .i64 ta, .int .i64 tb, .int .u64 seed, .int .i64 room, .int .i64 now] 26))
  clear hs0 ht hE0 hok
  go_enter Tryz.func3, Tryz.ntmps3
  go_wp2_with fail
  generalize w.alloc (.cells #[.string ts, .int .i64 tk, .bool tu, .int .i64 to, .int .i64 ta, .int .i64 tb, .int .u64 seed, .int .i64 room, .int .i64 now] 26) = w1 at *
  refine (HN.out _).mono ?_
  rintro e w2 ⟨g, U, rfl, hr, hu, hb⟩
  have HA2 := Lib.hid (show Hd w w2 U g s0 0 from ⟨hr, fun i hi => Nat.le_trans HB.out.size (hu i hi), HB.out.trans (hb.mono HB.out.size)⟩)
  have hk2 := (hb.block _ (gb.blk_lt HK1.out)).trans HK1.out
  have x0 := cell_of_row w2 w.heap.size 0 _ _ _ hk2
  have x1 := cell_of_row w2 w.heap.size 1 _ _ _ hk2
  have x2 := cell_of_row w2 w.heap.size 2 _ _ _ hk2
  have x3 := cell_of_row w2 w.heap.size 3 _ _ _ hk2
  have x4 := cell_of_row w2 w.heap.size 4 _ _ _ hk2
  have x5 := cell_of_row w2 w.heap.size 5 _ _ _ hk2
  have x6 := cell_of_row w2 w.heap.size 6 _ _ _ hk2
  have x7 := cell_of_row w2 w.heap.size 7 _ _ _ hk2
  have x8 := cell_of_row w2 w.heap.size 8 _ _ _ hk2
  clear hr hu hb hk2 HN HK1
  go_wp2_with fail
  refine (HRN.out _).mono ?_
  rintro e w3 ⟨rfl, hb3⟩
  obtain ⟨W4, hW4, i4, hq4, hb4, hlt4⟩ := one_alloc w3 none 0 0 s0
  have hW4 : w3.alloc (.cells #[.string ⟨#[]⟩, .int .i64 0, .bool false, .int .i64 0, .int .i64 0, .int .i64 0, .int .u64 0, .int .i64 0, .int .i64 0, .int .i64 0, .int .i64 0, .string ⟨#[]⟩, .slice none 0 0, .int .i64 0, .int .i64 0, .int .i64 0, .int .i64 0, .int .i64 0, .int .i64 0, .bool false, .int .i64 0, .int .i64 0] 38) = W4 := hW4
  have HA5 := Lib.hid (HA2.out.on (gb.seqB hb3 hb4))
  have HQ5 := Lib.hid hq4
  have HRB := Lib.hid (show w.heap.size ≤ w3.heap.size from Nat.le_trans HA2.out.2.2.size hb3.size)
  clear hb3 hq4 hb4 x0 x1 x2 x3 x4 x5 x6 x7 x8 HA2 HB HRN
  go_upto_region 3 with fail
  generalize W4.setRow w3.heap.size (rC none 0 0 s0) = w5 at *
  clear hW4 i4 hlt4
  generalize w3.heap.size = rb at *
  have HW5 := Lib.hid (show gc.RowA w5 none 0 0 s0.A by rw [HA0.out]; exact gc.rowA_nil w5)
  go_wp2_with fail
  refine (few_any p m d os _ HX.out HMD.out.1 HMD.out.2 (fun o ho => (HZ.out o ho).1) (ops_on HJ.out HA5.out.2.2)).mono ?_
  rintro e w6 ⟨b, rfl, hf, hb⟩
  have HA6 := Lib.hid (HA5.out.on hb)
  have HQ6 := Lib.hid (HQ5.out.on hb)
  have HW6 := Lib.hid (gc.rowA_on HW5.out hb)
  have HF := Lib.hid hf
  clear hb hf HA5 HQ5 HW5
  cases b with
  | false =>
    clear HF
    go_wp2_with fail
    refine (alive_any _).mono ?_
    rintro e w7 ⟨rfl, hb7⟩
    have HB7 := Lib.hid (HA6.out.on hb7).2.2
    clear hb7
    go_wp2_with fail
    go_ret
    exact ⟨rfl, HB7.out⟩
  | true =>
  obtain ⟨hm, htt⟩ := HF.out rfl
  have HT := Lib.hid htt
  clear HF htt
  go_wp2_with fail
  refine (few_any p2 m2 d2 os2 _ HX2.out HMD2.out.1 HMD2.out.2 (fun o ho => (HZ2.out o ho).1) (ops_on HJ2.out HA6.out.2.2)).mono ?_
  rintro e w7 ⟨b, rfl, hf, hb⟩
  have HA7 := Lib.hid (HA6.out.on hb)
  have HQ7 := Lib.hid (HQ6.out.on hb)
  have HW7 := Lib.hid (gc.rowA_on HW6.out hb)
  have HF := Lib.hid hf
  clear hb hf HA6 HQ6 HW6
  cases b with
  | false =>
    clear HF
    go_wp2_with fail
    refine (alive_any _).mono ?_
    rintro e w8 ⟨rfl, hb8⟩
    have HB8 := Lib.hid (HA7.out.on hb8).2.2
    clear hb8
    go_wp2_with fail
    go_ret
    exact ⟨rfl, HB8.out⟩
  | true =>
  obtain ⟨hm2, htt2⟩ := HF.out rfl
  have HT2 := Lib.hid htt2
  clear HF htt2
  go_wp2_with fail
  go_loopw [72] (fun i wr => ∃ (k : Nat) (pr : Option Addr) (nr cr : Nat) (U' : Own), k ≤ m ∧ i = .int .i64 k ∧ Hid (Hd w wr U' g (runO s0 (os.take k)) (total (os.take k))) ∧ Hid (RAt wr rb pr nr cr (runO s0 (os.take k))) ∧ Hid (gc.RowA wr pr nr cr (runO s0 (os.take k)).A) ∧ Hid (Ok (runO s0 (os.take k)) (total (os.take k))) ∧ Hid ((runO s0 (os.take k)).A.length = (runO s0 (os.take k)).S.size)) (fun i _ => m - (intOf i).toNat)
  case atStart => exact ⟨0, none, 0, 0, U, by omega, rfl, HA7, HQ7, HW7, HOK0, HLN0⟩
  case round =>
    clear HA7 HQ7 HW7
    obtain ⟨k, pr, nr, cr, U1, hk, rfl, HA, HQ, HW, HO, HLN⟩ := hrel
    by_cases hlt : k < m
    · obtain ⟨b, o, rfl, hcell⟩ := ops_on HJ.out HA.out.2.2 (by omega)
      obtain ⟨c0, c1, c2, c3, c4, c5, c6, c7, c8, c9⟩ := hcell k hlt
      have hzk := HZ.out _ (at_of os k (by rw [HX.out]; exact hlt))
      have HTK := Lib.hid (total_step os k m HX.out hlt _ rfl)
      have HTL := Lib.hid (Nat.le_trans (total_take_le os (k + 1)) HT.out)
      have HRT := Lib.hid (run_take s0 os k (by rw [HX.out]; exact hlt))
      generalize os.getD k noOp = op at *
      generalize runO s0 (os.take k) = sk at HA HQ HW HO HLN HRT
      have HZK := Lib.hid hzk
      obtain ⟨kd, T, N, b0, tx⟩ := op
      obtain ⟨us, uk, uu, uo, ua, ub⟩ := tx
      simp only at c0 c1 c2 c3 c4 c5 c6 c7 c8 c9 HTK HZK HRT
      rw [← Nat.add_assoc] at c1 c2 c3 c4 c5 c6 c7 c8 c9
      obtain ⟨s1, hs1⟩ : ∃ s1, (doS sk ⟨kd, T, N, b0, ⟨us, uk, uu, uo, ua, ub⟩⟩).1 = s1 := ⟨_, rfl⟩
      obtain ⟨a1, ha1⟩ : ∃ a1, (doS sk ⟨kd, T, N, b0, ⟨us, uk, uu, uo, ua, ub⟩⟩).2 = a1 := ⟨_, rfl⟩
      have HE1 := Lib.hid (HRT.out.trans hs1)
      have HSP := Lib.hid (show sk.S.size ≤ 4000 by have h0 := HO.out.passed; have h1 := HTK.out; have h2 := HTL.out; omega)
      have HOS := Lib.hid (show b0.size ≤ 2000 by have h1 := HTK.out; have h2 := HTL.out; omega)
      have HDO := Lib.hid (fun W hr => rdo_any pr nr cr sk ⟨kd, T, N, b0, ⟨us, uk, uu, uo, ua, ub⟩⟩ W hr (by rw [← HLN.out]; exact HW.out.1) (by rw [← HW.out.1, HLN.out]; have := HSP.out; omega) (by have := HOS.out; show b0.size ≤ 100000; omega) HZK.out.2 HO.out)
      rw [hs1, ha1] at HDO
      have HO1 := Lib.hid (show Ok s1 (total (os.take (k + 1))) by rw [← hs1]; exact HO.out.doS HLN.out ⟨kd, T, N, b0, ⟨us, uk, uu, uo, ua, ub⟩⟩ HZK.out.2 (by show _ + b0.size ≤ _; rw [HTK.out]; omega) (by have h1 := HTK.out; have h2 := HTL.out; omega))
      have HLN1 := Lib.hid (show s1.A.length = s1.S.size by rw [← hs1]; exact len_do HLN.out _)
      have hal : Below wr.heap.size wr (wr.alloc (.cells #[.int .i64 kd, .int .i64 T, .int .i64 N, .string b0, .string us, .int .i64 uk, .bool uu, .int .i64 uo, .int .i64 ua, .int .i64 ub] 44)) := (Below.refl _ _).alloc (Nat.le_refl _) _
      have HA4 := Lib.hid (HA.out.on hal)
      have HQ4 := Lib.hid (HQ.out.on hal)
      have HW4 := Lib.hid (gc.rowA_on HW.out hal)
      have HO4 := Lib.hid (heap_alloc_new wr (.cells #[.int .i64 kd, .int .i64 T, .int .i64 N, .string b0, .string us, .int .i64 uk, .bool uu, .int .i64 uo, .int .i64 ua, .int .i64 ub] 44))
      have HNE := Lib.hid (show wr.heap.size ≠ rb by have := HQ.out.lt; omega)
      clear hal HA HQ HW HO hcell hzk HRT
      go_upto_region 8 with fail
      generalize wr.alloc (.cells #[.int .i64 kd, .int .i64 T, .int .i64 N, .string b0, .string us, .int .i64 uk, .bool uu, .int .i64 uo, .int .i64 ua, .int .i64 ub] 44) = w4 at *
      generalize wr.heap.size = ob at *
      clear c0 c1 c2 c3 c4 c5 c6 c7 c8 c9
      have o0 := cell_of_row w4 ob 0 _ _ _ HO4.out
      have o1 := cell_of_row w4 ob 1 _ _ _ HO4.out
      have o2 := cell_of_row w4 ob 2 _ _ _ HO4.out
      have o3 := cell_of_row w4 ob 3 _ _ _ HO4.out
      have o4 := cell_of_row w4 ob 4 _ _ _ HO4.out
      have o5 := cell_of_row w4 ob 5 _ _ _ HO4.out
      have o6 := cell_of_row w4 ob 6 _ _ _ HO4.out
      have o7 := cell_of_row w4 ob 7 _ _ _ HO4.out
      have o8 := cell_of_row w4 ob 8 _ _ _ HO4.out
      have o9 := cell_of_row w4 ob 9 _ _ _ HO4.out
      have i4 := HQ4.out.is
      have k4 := HQ4.out.cells
      have HS1 := Lib.hid (And.intro hs1 ha1)
      clear hs1 ha1
      go_wp2_with fail
      clear o0 o1 o2 o3 o4 o5 o6 o7 o8 o9 i4 k4
      refine (HDO.out w4 HW4.out).mono ?_
      rintro e w6 ⟨p1, n1, q1, rfl, hrow6, hb6⟩
      obtain ⟨W7, hW7, i7, ⟨t0, t1, t2⟩, ⟨g0, g1, g2'⟩, hz7, hza7, hb7, hlt7⟩ := pair_alloc w6 p1 n1 q1 s1 a1
      have hW7 : (w6.alloc (.cells #[.string ⟨#[]⟩, .int .i64 0, .bool false, .int .i64 0, .int .i64 0, .int .i64 0, .int .u64 0, .int .i64 0, .int .i64 0, .int .i64 0, .int .i64 0, .string ⟨#[]⟩, .slice none 0 0, .int .i64 0, .int .i64 0, .int .i64 0, .int .i64 0, .int .i64 0, .int .i64 0, .bool false, .int .i64 0, .int .i64 0] 38)).alloc (.cells #[.int .i64 0, .string ⟨#[]⟩, .int .i64 0] 46) = W7 := hW7
      have hb67 := gb.seqB hb6 hb7
      have HA8 := Lib.hid (HA4.out.on hb67)
      have HQ8 := Lib.hid (HQ4.out.on hb67)
      have HO8 := Lib.hid ((hb67.block _ (gb.blk_lt HO4.out)).trans HO4.out)
      have HW8 := Lib.hid (gc.rowA_on hrow6 hb7)
      have HZ8 := Lib.hid hz7
      have HZA8 := Lib.hid hza7
      have HNB := Lib.hid (show w6.heap.size + 1 ≠ rb by have := HQ4.out.lt; have := hb6.size; omega)
      clear hrow6 hb6 hz7 hza7 hb7 hb67 HA4 HQ4 HO4 HW4 HDO
      go_upto_region 9 with fail
      generalize hWf : finW W7 w6.heap.size (w6.heap.size + 1) (rC p1 n1 q1 s1) a1 = w8 at *
      unfold finW at hWf
      try dsimp only at hWf
      try rw [hWf]
      clear hWf hW7 i7 t0 t1 t2 g0 g1 g2' hlt7
      generalize w6.heap.size = b13 at *
      have i8 := HZ8.out.is
      have k8 := HZ8.out.cells
      have j8 := HQ8.out.is
      have HA9 := Lib.hid (hd_setR HA8.out HQ8.out HRB.out (rC p1 n1 q1 s1))
      have HQ9 := Lib.hid (HQ8.out.row p1 n1 q1 s1)
      have HW9 := Lib.hid (rowA_setR HW8.out HQ8.out (rC p1 n1 q1 s1))
      have HO9 := Lib.hid ((setRow_other w8 rb ob (rC p1 n1 q1 s1) HNE.out).trans HO8.out)
      have HZA9 := Lib.hid ((setRow_other w8 rb (b13 + 1) (rC p1 n1 q1 s1) HNB.out).trans HZA8.out)
      go_upto_region 10 with fail
      generalize w8.setRow rb (rC p1 n1 q1 s1) = w9 at *
      clear i8 k8 j8 HA8 HQ8 HO8 HW8 HZ8 HZA8
      have o0 := cell_of_row w9 ob 0 _ _ _ HO9.out
      have o1 := cell_of_row w9 ob 1 _ _ _ HO9.out
      have o2 := cell_of_row w9 ob 2 _ _ _ HO9.out
      have o3 := cell_of_row w9 ob 3 _ _ _ HO9.out
      have o4 := cell_of_row w9 ob 4 _ _ _ HO9.out
      have o5 := cell_of_row w9 ob 5 _ _ _ HO9.out
      have o6 := cell_of_row w9 ob 6 _ _ _ HO9.out
      have o7 := cell_of_row w9 ob 7 _ _ _ HO9.out
      have o8 := cell_of_row w9 ob 8 _ _ _ HO9.out
      have o9 := cell_of_row w9 ob 9 _ _ _ HO9.out
      have HDs := Lib.hid (does_any (M' := (total (os.take (k + 1)))) HA9.out ⟨kd, T, N, b0, ⟨us, uk, uu, uo, ua, ub⟩⟩ HZK.out.2 (by show _ + b0.size ≤ _; rw [HTK.out]; omega) (by have h1 := HTK.out; have h2 := HTL.out; omega))
      rw [HS1.out.1, HS1.out.2] at HDs
      unfold opV at HDs
      simp only at HDs
      go_wp2_with fail
      clear o0 o1 o2 o3 o4 o5 o6 o7 o8 o9
      refine HDs.out.mono ?_
      rintro e w10 ⟨rfl, U6, h6, hr6⟩
      have HA10 := Lib.hid (show Hd w w10 U6 g (runO s0 (os.take (k + 1))) (total (os.take (k + 1))) by rw [HE1.out]; exact h6)
      have HQ10 := Lib.hid (show RAt w10 rb p1 n1 q1 (runO s0 (os.take (k + 1))) by rw [HE1.out]; exact kept_R HA9.out.1 hr6 HQ9.out)
      have HW10 := Lib.hid (show gc.RowA w10 p1 n1 q1 (runO s0 (os.take (k + 1))).A by rw [HE1.out]; exact kept_row HA9.out.1 hr6 HW9.out)
      have HO10 := Lib.hid (show Ok (runO s0 (os.take (k + 1))) (total (os.take (k + 1))) by rw [HE1.out]; exact HO1.out)
      have HL10 := Lib.hid (show (runO s0 (os.take (k + 1))).A.length = (runO s0 (os.take (k + 1))).S.size by rw [HE1.out]; exact HLN1.out)
      clear h6 hr6 HA9 HQ9 HW9 HO9 HZA9 HDs HO1 HLN1 HE1
      go_wp2_with fail
      go_roundw
      case rel => exact ⟨k + 1, p1, n1, q1, U6, by omega, by go_num, HA10, HQ10, HW10, HO10, HL10⟩
      case measure => simp [intOf]; omega
    · obtain rfl : m = k := by omega
      clear hlt hk
      obtain ⟨UA, hUA⟩ : ∃ UA, UA = U1 := ⟨_, rfl⟩
      subst hUA
      have HTE := Lib.hid (show os.take m = os by rw [← HX.out]; exact List.take_length)
      rw [HTE.out] at HA HQ HW HO HLN
      generalize runO s0 os = sA at *
      have HOA := HO
      have HLA := HLN
      have HT1 := HT
      go_wp2_with fail
      refine (copy_i HA.out.1).mono ?_
      rintro e w8 ⟨g2, U2, rfl, hr2, hu2, hb2⟩
      have HA8 := Lib.hid (HA.out.on hb2)
      have HC8 := Lib.hid (show Hd w w8 U2 g2 sA (total os) from ⟨hr2, fun i hi => Nat.le_trans HA.out.2.2.size (hu2 i hi), HA.out.2.2.trans (hb2.mono HA.out.2.2.size)⟩)
      have HD8 := Lib.hid (fun (i : Nat) (h1 : UA i) (h2 : U2 i) => Nat.not_lt.2 (hu2 i h2) ((rep_lt HA.out.1).2 i h1))
      have HQ8 := Lib.hid (HQ.out.on hb2)
      have HW8 := Lib.hid (gc.rowA_on HW.out hb2)
      clear hr2 hu2 hb2 HA HQ HW HO HLN
      obtain ⟨W9, hW9, i9, hq9, hb9, hlt9⟩ := one_alloc w8 pr nr cr sA
      have hW9 : w8.alloc (.cells #[.string ⟨#[]⟩, .int .i64 0, .bool false, .int .i64 0, .int .i64 0, .int .i64 0, .int .u64 0, .int .i64 0, .int .i64 0, .int .i64 0, .int .i64 0, .string ⟨#[]⟩, .slice none 0 0, .int .i64 0, .int .i64 0, .int .i64 0, .int .i64 0, .int .i64 0, .int .i64 0, .bool false, .int .i64 0, .int .i64 0] 38) = W9 := hW9
      have HA10 := Lib.hid (HA8.out.on hb9)
      have HC10 := Lib.hid (HC8.out.on hb9)
      have HQ10 := Lib.hid (HQ8.out.on hb9)
      have HW10 := Lib.hid (gc.rowA_on HW8.out hb9)
      have HQq := Lib.hid hq9
      have HQB := Lib.hid (show w.heap.size ≤ w8.heap.size from HA8.out.2.2.size)
      have HRQ := Lib.hid (show rb ≠ w8.heap.size from Nat.ne_of_lt HQ8.out.lt)
      have i8 := HQ8.out.is
      have k8 := HQ8.out.cells
      go_upto_region 16 with fail
      generalize W9.setRow w8.heap.size (rC pr nr cr sA) = w10 at *
      clear hW9 i9 hlt9 i8 k8 hq9 hb9 HA8 HC8 HQ8 HW8
      generalize w8.heap.size = qb at *
      have HO2 := Lib.hid (show Ok (runO sA (os2.take 0)) (total os + total (os2.take 0)) from HOA.out)
      have HL2 := Lib.hid (show (runO sA (os2.take 0)).A.length = (runO sA (os2.take 0)).S.size from HLA.out)
      have HC2 := Lib.hid (show Hd w w10 U2 g2 (runO sA (os2.take 0)) (total os + total (os2.take 0)) from HC10.out)
      clear HC10
      go_wp2_with fail
      go_loopw [94] (fun i wr => ∃ (k : Nat) (pr' : Option Addr) (nr' cr' : Nat) (U' : Own), k ≤ m2 ∧ i = .int .i64 k ∧ Hid (Hd w wr U' g2 (runO sA (os2.take k)) (total os + total (os2.take k))) ∧ Hid (RAt wr qb pr' nr' cr' (runO sA (os2.take k))) ∧ Hid (gc.RowA wr pr' nr' cr' (runO sA (os2.take k)).A) ∧ Hid (Ok (runO sA (os2.take k)) (total os + total (os2.take k))) ∧ Hid ((runO sA (os2.take k)).A.length = (runO sA (os2.take k)).S.size) ∧ Hid (Hd w wr UA g sA (total os)) ∧ Hid (∀ i, UA i → ¬ U' i) ∧ Hid (RAt wr rb pr nr cr sA) ∧ Hid (gc.RowA wr pr nr cr sA.A)) (fun i _ => m2 - (intOf i).toNat)
      case atStart => exact ⟨0, pr, nr, cr, U2, by omega, rfl, HC2, HQq, HW10, HO2, HL2, HA10, HD8, HQ10, HW10⟩
      case round =>
        clear HC2 HQq HW10 HO2 HL2 HA10 HD8 HQ10
        obtain ⟨k, pr, nr, cr, U1, hk, rfl, HA, HQ, HW, HO, HLN, HB_, HD_, HQr, HWr⟩ := hrel
        by_cases hlt : k < m2
        · obtain ⟨b, o, rfl, hcell⟩ := ops_on HJ2.out HA.out.2.2 (by omega)
          obtain ⟨c0, c1, c2, c3, c4, c5, c6, c7, c8, c9⟩ := hcell k hlt
          have hzk := HZ2.out _ (at_of os2 k (by rw [HX2.out]; exact hlt))
          have HTK := Lib.hid (total_step os2 k m2 HX2.out hlt _ rfl)
          have HTL := Lib.hid (Nat.le_trans (total_take_le os2 (k + 1)) HT2.out)
          have HRT := Lib.hid (run_take sA os2 k (by rw [HX2.out]; exact hlt))
          generalize os2.getD k noOp = op at *
          generalize runO sA (os2.take k) = sk at HA HQ HW HO HLN HRT
          have HZK := Lib.hid hzk
          obtain ⟨kd, T, N, b0, tx⟩ := op
          obtain ⟨us, uk, uu, uo, ua, ub⟩ := tx
          simp only at c0 c1 c2 c3 c4 c5 c6 c7 c8 c9 HTK HZK HRT
          rw [← Nat.add_assoc] at c1 c2 c3 c4 c5 c6 c7 c8 c9
          obtain ⟨s1, hs1⟩ : ∃ s1, (doS sk ⟨kd, T, N, b0, ⟨us, uk, uu, uo, ua, ub⟩⟩).1 = s1 := ⟨_, rfl⟩
          obtain ⟨a1, ha1⟩ : ∃ a1, (doS sk ⟨kd, T, N, b0, ⟨us, uk, uu, uo, ua, ub⟩⟩).2 = a1 := ⟨_, rfl⟩
          have HE1 := Lib.hid (HRT.out.trans hs1)
          have HSP := Lib.hid (show sk.S.size ≤ 4000 by have h0 := HO.out.passed; have h1 := HTK.out; have h2 := HTL.out; have h3 := HT1.out; omega)
          have HOS := Lib.hid (show b0.size ≤ 2000 by have h1 := HTK.out; have h2 := HTL.out; omega)
          have HDO := Lib.hid (fun W hr => rdo_any pr nr cr sk ⟨kd, T, N, b0, ⟨us, uk, uu, uo, ua, ub⟩⟩ W hr (by rw [← HLN.out]; exact HW.out.1) (by rw [← HW.out.1, HLN.out]; have := HSP.out; omega) (by have := HOS.out; show b0.size ≤ 100000; omega) HZK.out.2 HO.out)
          rw [hs1, ha1] at HDO
          have HO1 := Lib.hid (show Ok s1 (total os + total (os2.take (k + 1))) by rw [← hs1]; exact HO.out.doS HLN.out ⟨kd, T, N, b0, ⟨us, uk, uu, uo, ua, ub⟩⟩ HZK.out.2 (by show _ + b0.size ≤ _; rw [HTK.out]; omega) (by have h1 := HTK.out; have h2 := HTL.out; have h3 := HT1.out; omega))
          have HLN1 := Lib.hid (show s1.A.length = s1.S.size by rw [← hs1]; exact len_do HLN.out _)
          have hal : Below wr.heap.size wr (wr.alloc (.cells #[.int .i64 kd, .int .i64 T, .int .i64 N, .string b0, .string us, .int .i64 uk, .bool uu, .int .i64 uo, .int .i64 ua, .int .i64 ub] 44)) := (Below.refl _ _).alloc (Nat.le_refl _) _
          have HA4 := Lib.hid (HA.out.on hal)
          have HQ4 := Lib.hid (HQ.out.on hal)
          have HW4 := Lib.hid (gc.rowA_on HW.out hal)
          have HO4 := Lib.hid (heap_alloc_new wr (.cells #[.int .i64 kd, .int .i64 T, .int .i64 N, .string b0, .string us, .int .i64 uk, .bool uu, .int .i64 uo, .int .i64 ua, .int .i64 ub] 44))
          have HNE := Lib.hid (show wr.heap.size ≠ qb by have := HQ.out.lt; omega)
          have HB4 := Lib.hid (HB_.out.on hal)
          have HQr4 := Lib.hid (HQr.out.on hal)
          have HWr4 := Lib.hid (gc.rowA_on HWr.out hal)
          clear HB_ HQr HWr
          clear hal HA HQ HW HO hcell hzk HRT
          go_upto_region 19 with fail
          generalize wr.alloc (.cells #[.int .i64 kd, .int .i64 T, .int .i64 N, .string b0, .string us, .int .i64 uk, .bool uu, .int .i64 uo, .int .i64 ua, .int .i64 ub] 44) = w4 at *
          generalize wr.heap.size = ob at *
          clear c0 c1 c2 c3 c4 c5 c6 c7 c8 c9
          have o0 := cell_of_row w4 ob 0 _ _ _ HO4.out
          have o1 := cell_of_row w4 ob 1 _ _ _ HO4.out
          have o2 := cell_of_row w4 ob 2 _ _ _ HO4.out
          have o3 := cell_of_row w4 ob 3 _ _ _ HO4.out
          have o4 := cell_of_row w4 ob 4 _ _ _ HO4.out
          have o5 := cell_of_row w4 ob 5 _ _ _ HO4.out
          have o6 := cell_of_row w4 ob 6 _ _ _ HO4.out
          have o7 := cell_of_row w4 ob 7 _ _ _ HO4.out
          have o8 := cell_of_row w4 ob 8 _ _ _ HO4.out
          have o9 := cell_of_row w4 ob 9 _ _ _ HO4.out
          have i4 := HQ4.out.is
          have k4 := HQ4.out.cells
          have HS1 := Lib.hid (And.intro hs1 ha1)
          clear hs1 ha1
          go_wp2_with fail
          clear o0 o1 o2 o3 o4 o5 o6 o7 o8 o9 i4 k4
          refine (HDO.out w4 HW4.out).mono ?_
          rintro e w6 ⟨p1, n1, q1, rfl, hrow6, hb6⟩
          obtain ⟨W7, hW7, i7, ⟨t0, t1, t2⟩, ⟨g0, g1, g2'⟩, hz7, hza7, hb7, hlt7⟩ := pair_alloc w6 p1 n1 q1 s1 a1
          have hW7 : (w6.alloc (.cells #[.string ⟨#[]⟩, .int .i64 0, .bool false, .int .i64 0, .int .i64 0, .int .i64 0, .int .u64 0, .int .i64 0, .int .i64 0, .int .i64 0, .int .i64 0, .string ⟨#[]⟩, .slice none 0 0, .int .i64 0, .int .i64 0, .int .i64 0, .int .i64 0, .int .i64 0, .int .i64 0, .bool false, .int .i64 0, .int .i64 0] 38)).alloc (.cells #[.int .i64 0, .string ⟨#[]⟩, .int .i64 0] 46) = W7 := hW7
          have hb67 := gb.seqB hb6 hb7
          have HA8 := Lib.hid (HA4.out.on hb67)
          have HQ8 := Lib.hid (HQ4.out.on hb67)
          have HO8 := Lib.hid ((hb67.block _ (gb.blk_lt HO4.out)).trans HO4.out)
          have HW8 := Lib.hid (gc.rowA_on hrow6 hb7)
          have HZ8 := Lib.hid hz7
          have HZA8 := Lib.hid hza7
          have HNB := Lib.hid (show w6.heap.size + 1 ≠ qb by have := HQ4.out.lt; have := hb6.size; omega)
          have HB8 := Lib.hid (HB4.out.on hb67)
          have HQr8 := Lib.hid (HQr4.out.on hb67)
          have HWr8 := Lib.hid (gc.rowA_on HWr4.out hb67)
          clear HB4 HQr4 HWr4
          clear hrow6 hb6 hz7 hza7 hb7 hb67 HA4 HQ4 HO4 HW4 HDO
          go_upto_region 20 with fail
          generalize hWf : finW W7 w6.heap.size (w6.heap.size + 1) (rC p1 n1 q1 s1) a1 = w8 at *
          unfold finW at hWf
          try dsimp only at hWf
          try rw [hWf]
          clear hWf hW7 i7 t0 t1 t2 g0 g1 g2' hlt7
          generalize w6.heap.size = b13 at *
          have i8 := HZ8.out.is
          have k8 := HZ8.out.cells
          have j8 := HQ8.out.is
          have HA9 := Lib.hid (hd_setR HA8.out HQ8.out HQB.out (rC p1 n1 q1 s1))
          have HQ9 := Lib.hid (HQ8.out.row p1 n1 q1 s1)
          have HW9 := Lib.hid (rowA_setR HW8.out HQ8.out (rC p1 n1 q1 s1))
          have HO9 := Lib.hid ((setRow_other w8 qb ob (rC p1 n1 q1 s1) HNE.out).trans HO8.out)
          have HZA9 := Lib.hid ((setRow_other w8 qb (b13 + 1) (rC p1 n1 q1 s1) HNB.out).trans HZA8.out)
          have HB9 := Lib.hid (hd_setR HB8.out HQ8.out HQB.out (rC p1 n1 q1 s1))
          have HQr9 := Lib.hid (HQr8.out.farRow (rC p1 n1 q1 s1) HRQ.out)
          have HWr9 := Lib.hid (rowA_setR HWr8.out HQ8.out (rC p1 n1 q1 s1))
          clear HB8 HQr8 HWr8
          go_upto_region 21 with fail
          generalize w8.setRow qb (rC p1 n1 q1 s1) = w9 at *
          clear i8 k8 j8 HA8 HQ8 HO8 HW8 HZ8 HZA8
          have o0 := cell_of_row w9 ob 0 _ _ _ HO9.out
          have o1 := cell_of_row w9 ob 1 _ _ _ HO9.out
          have o2 := cell_of_row w9 ob 2 _ _ _ HO9.out
          have o3 := cell_of_row w9 ob 3 _ _ _ HO9.out
          have o4 := cell_of_row w9 ob 4 _ _ _ HO9.out
          have o5 := cell_of_row w9 ob 5 _ _ _ HO9.out
          have o6 := cell_of_row w9 ob 6 _ _ _ HO9.out
          have o7 := cell_of_row w9 ob 7 _ _ _ HO9.out
          have o8 := cell_of_row w9 ob 8 _ _ _ HO9.out
          have o9 := cell_of_row w9 ob 9 _ _ _ HO9.out
          have HDs := Lib.hid (does_any (M' := (total os + total (os2.take (k + 1)))) (HA9.out.on (Below.refl _ w9).drew) ⟨kd, T, N, b0, ⟨us, uk, uu, uo, ua, ub⟩⟩ HZK.out.2 (by show _ + b0.size ≤ _; rw [HTK.out]; omega) (by have h1 := HTK.out; have h2 := HTL.out; have h3 := HT1.out; omega))
          rw [HS1.out.1, HS1.out.2] at HDs
          unfold opV at HDs
          simp only at HDs
          obtain ⟨an, aT, ae⟩ := a1
          have z0 : w9.cell? ⟨b13 + 1, 0, none⟩ = some (.int .i64 an) := cell_of_row _ _ 0 _ _ _ HZA9.out
          have z1 : w9.cell? ⟨b13 + 1, 1, none⟩ = some (.string aT) := cell_of_row _ _ 1 _ _ _ HZA9.out
          have z2 : w9.cell? ⟨b13 + 1, 2, none⟩ = some (.int .i64 ae) := cell_of_row _ _ 2 _ _ _ HZA9.out
          go_wp2_with fail
          go_region_law
            (first
              | (go_simp; go_at_call 9; (with_reducible refine Calls.mono HDs.out ?_); rintro e w10 ⟨rfl, U6, h6, hr6⟩; (have hza := kept_cells (HA9.out.on (Below.refl _ w9).drew).1 hr6 HZA9.out (by decide) (by decide) (by decide) (by decide)); (have v0 : w10.cell? ⟨b13 + 1, 0, none⟩ = some (.int .i64 an) := cell_of_row _ _ 0 _ _ _ hza); (have v1 : w10.cell? ⟨b13 + 1, 1, none⟩ = some (.string aT) := cell_of_row _ _ 1 _ _ _ hza); (have v2 : w10.cell? ⟨b13 + 1, 2, none⟩ = some (.int .i64 ae) := cell_of_row _ _ 2 _ _ _ hza)))
          all_goals (
            have HA10 := Lib.hid (show Hd w w10 U6 g2 (runO sA (os2.take (k + 1))) (total os + total (os2.take (k + 1))) by rw [HE1.out]; exact h6)
            have HQ10 := Lib.hid (show RAt w10 qb p1 n1 q1 (runO sA (os2.take (k + 1))) by rw [HE1.out]; exact kept_R (HA9.out.on (Below.refl _ w9).drew).1 hr6 HQ9.out.drew)
            have HW10 := Lib.hid (show gc.RowA w10 p1 n1 q1 (runO sA (os2.take (k + 1))).A by rw [HE1.out]; exact kept_row (HA9.out.on (Below.refl _ w9).drew).1 hr6 (gc.rowA_on HW9.out (Below.refl _ w9).drew))
            have HO10 := Lib.hid (show Ok (runO sA (os2.take (k + 1))) (total os + total (os2.take (k + 1))) by rw [HE1.out]; exact HO1.out)
            have HL10 := Lib.hid (show (runO sA (os2.take (k + 1))).A.length = (runO sA (os2.take (k + 1))).S.size by rw [HE1.out]; exact HLN1.out)
            obtain ⟨hb10, hd10⟩ := kept_other hr6 h6.2.2 (HB9.out.on (Below.refl _ w9).drew) HD_.out
            have HB10 := Lib.hid hb10
            have HD10 := Lib.hid hd10
            have HQr10 := Lib.hid (kept_R (HA9.out.on (Below.refl _ w9).drew).1 hr6 HQr9.out.drew)
            have HWr10 := Lib.hid (kept_row (HA9.out.on (Below.refl _ w9).drew).1 hr6 (gc.rowA_on HWr9.out (Below.refl _ w9).drew))
            clear hb10 hd10
            clear h6 hr6 hza
            go_wp2_with fail
            go_roundw
            case rel => exact ⟨k + 1, p1, n1, q1, U6, by omega, by go_num, HA10, HQ10, HW10, HO10, HL10, HB10, HD10, HQr10, HWr10⟩
            case measure => simp [intOf]; omega)
        · obtain rfl : m2 = k := by omega
          clear hlt hk
          obtain ⟨UB, hUB⟩ : ∃ UB, UB = U1 := ⟨_, rfl⟩
          subst hUB
          have HTE := Lib.hid (show os2.take m2 = os2 by rw [← HX2.out]; exact List.take_length)
          rw [HTE.out] at HA
          have HTZ : total os + total (os2.take 0) = total os := rfl
          have HA3 := Lib.hid (show Hd w wr UA g (runO sA (os2.take 0)) (total os + total (os2.take 0)) from HB_.out)
          have HO3 := Lib.hid (show Ok (runO sA (os2.take 0)) (total os + total (os2.take 0)) from HOA.out)
          have HL3 := Lib.hid (show (runO sA (os2.take 0)).A.length = (runO sA (os2.take 0)).S.size from HLA.out)
          have HD3 := Lib.hid (fun (i : Nat) (h1 : UB i) (h2 : UA i) => HD_.out i h2 h1)
          clear HTZ HB_ HD_ HQ HW HO HLN
          go_wp2_with fail
          go_loopw [113] (fun i wr => ∃ (k : Nat) (pr : Option Addr) (nr cr : Nat) (U' : Own), k ≤ m2 ∧ i = .int .i64 k ∧ Hid (Hd w wr U' g (runO sA (os2.take k)) (total os + total (os2.take k))) ∧ Hid (RAt wr rb pr nr cr (runO sA (os2.take k))) ∧ Hid (gc.RowA wr pr nr cr (runO sA (os2.take k)).A) ∧ Hid (Ok (runO sA (os2.take k)) (total os + total (os2.take k))) ∧ Hid ((runO sA (os2.take k)).A.length = (runO sA (os2.take k)).S.size) ∧ Hid (Hd w wr UB g2 (runO sA os2) (total os + total os2)) ∧ Hid (∀ i, UB i → ¬ U' i)) (fun i _ => m2 - (intOf i).toNat)
          case atStart => exact ⟨0, _, _, _, UA, by omega, rfl, HA3, HQr, HWr, HO3, HL3, HA, HD3⟩
          case round =>
            clear HA3 HO3 HL3 HD3 HA HQr HWr
            obtain ⟨k, pr, nr, cr, U1, hk, rfl, HA, HQ, HW, HO, HLN, HB_, HD_⟩ := hrel
            by_cases hlt : k < m2
            · obtain ⟨b, o, rfl, hcell⟩ := ops_on HJ2.out HA.out.2.2 (by omega)
              obtain ⟨c0, c1, c2, c3, c4, c5, c6, c7, c8, c9⟩ := hcell k hlt
              have hzk := HZ2.out _ (at_of os2 k (by rw [HX2.out]; exact hlt))
              have HTK := Lib.hid (total_step os2 k m2 HX2.out hlt _ rfl)
              have HTL := Lib.hid (Nat.le_trans (total_take_le os2 (k + 1)) HT2.out)
              have HRT := Lib.hid (run_take sA os2 k (by rw [HX2.out]; exact hlt))
              generalize os2.getD k noOp = op at *
              generalize runO sA (os2.take k) = sk at HA HQ HW HO HLN HRT
              have HZK := Lib.hid hzk
              obtain ⟨kd, T, N, b0, tx⟩ := op
              obtain ⟨us, uk, uu, uo, ua, ub⟩ := tx
              simp only at c0 c1 c2 c3 c4 c5 c6 c7 c8 c9 HTK HZK HRT
              rw [← Nat.add_assoc] at c1 c2 c3 c4 c5 c6 c7 c8 c9
              obtain ⟨s1, hs1⟩ : ∃ s1, (doS sk ⟨kd, T, N, b0, ⟨us, uk, uu, uo, ua, ub⟩⟩).1 = s1 := ⟨_, rfl⟩
              obtain ⟨a1, ha1⟩ : ∃ a1, (doS sk ⟨kd, T, N, b0, ⟨us, uk, uu, uo, ua, ub⟩⟩).2 = a1 := ⟨_, rfl⟩
              have HE1 := Lib.hid (HRT.out.trans hs1)
              have HSP := Lib.hid (show sk.S.size ≤ 4000 by have h0 := HO.out.passed; have h1 := HTK.out; have h2 := HTL.out; have h3 := HT1.out; omega)
              have HOS := Lib.hid (show b0.size ≤ 2000 by have h1 := HTK.out; have h2 := HTL.out; omega)
              have HDO := Lib.hid (fun W hr => rdo_any pr nr cr sk ⟨kd, T, N, b0, ⟨us, uk, uu, uo, ua, ub⟩⟩ W hr (by rw [← HLN.out]; exact HW.out.1) (by rw [← HW.out.1, HLN.out]; have := HSP.out; omega) (by have := HOS.out; show b0.size ≤ 100000; omega) HZK.out.2 HO.out)
              rw [hs1, ha1] at HDO
              have HO1 := Lib.hid (show Ok s1 (total os + total (os2.take (k + 1))) by rw [← hs1]; exact HO.out.doS HLN.out ⟨kd, T, N, b0, ⟨us, uk, uu, uo, ua, ub⟩⟩ HZK.out.2 (by show _ + b0.size ≤ _; rw [HTK.out]; omega) (by have h1 := HTK.out; have h2 := HTL.out; have h3 := HT1.out; omega))
              have HLN1 := Lib.hid (show s1.A.length = s1.S.size by rw [← hs1]; exact len_do HLN.out _)
              have hal : Below wr.heap.size wr (wr.alloc (.cells #[.int .i64 kd, .int .i64 T, .int .i64 N, .string b0, .string us, .int .i64 uk, .bool uu, .int .i64 uo, .int .i64 ua, .int .i64 ub] 44)) := (Below.refl _ _).alloc (Nat.le_refl _) _
              have HA4 := Lib.hid (HA.out.on hal)
              have HQ4 := Lib.hid (HQ.out.on hal)
              have HW4 := Lib.hid (gc.rowA_on HW.out hal)
              have HO4 := Lib.hid (heap_alloc_new wr (.cells #[.int .i64 kd, .int .i64 T, .int .i64 N, .string b0, .string us, .int .i64 uk, .bool uu, .int .i64 uo, .int .i64 ua, .int .i64 ub] 44))
              have HNE := Lib.hid (show wr.heap.size ≠ rb by have := HQ.out.lt; omega)
              have HB4 := Lib.hid (HB_.out.on hal)
              clear HB_
              clear hal HA HQ HW HO hcell hzk HRT
              go_upto_region 27 with fail
              generalize wr.alloc (.cells #[.int .i64 kd, .int .i64 T, .int .i64 N, .string b0, .string us, .int .i64 uk, .bool uu, .int .i64 uo, .int .i64 ua, .int .i64 ub] 44) = w4 at *
              generalize wr.heap.size = ob at *
              clear c0 c1 c2 c3 c4 c5 c6 c7 c8 c9
              have o0 := cell_of_row w4 ob 0 _ _ _ HO4.out
              have o1 := cell_of_row w4 ob 1 _ _ _ HO4.out
              have o2 := cell_of_row w4 ob 2 _ _ _ HO4.out
              have o3 := cell_of_row w4 ob 3 _ _ _ HO4.out
              have o4 := cell_of_row w4 ob 4 _ _ _ HO4.out
              have o5 := cell_of_row w4 ob 5 _ _ _ HO4.out
              have o6 := cell_of_row w4 ob 6 _ _ _ HO4.out
              have o7 := cell_of_row w4 ob 7 _ _ _ HO4.out
              have o8 := cell_of_row w4 ob 8 _ _ _ HO4.out
              have o9 := cell_of_row w4 ob 9 _ _ _ HO4.out
              have i4 := HQ4.out.is
              have k4 := HQ4.out.cells
              have HS1 := Lib.hid (And.intro hs1 ha1)
              clear hs1 ha1
              go_wp2_with fail
              clear o0 o1 o2 o3 o4 o5 o6 o7 o8 o9 i4 k4
              refine (HDO.out w4 HW4.out).mono ?_
              rintro e w6 ⟨p1, n1, q1, rfl, hrow6, hb6⟩
              obtain ⟨W7, hW7, i7, ⟨t0, t1, t2⟩, ⟨g0, g1, g2'⟩, hz7, hza7, hb7, hlt7⟩ := pair_alloc w6 p1 n1 q1 s1 a1
              have hW7 : (w6.alloc (.cells #[.string ⟨#[]⟩, .int .i64 0, .bool false, .int .i64 0, .int .i64 0, .int .i64 0, .int .u64 0, .int .i64 0, .int .i64 0, .int .i64 0, .int .i64 0, .string ⟨#[]⟩, .slice none 0 0, .int .i64 0, .int .i64 0, .int .i64 0, .int .i64 0, .int .i64 0, .int .i64 0, .bool false, .int .i64 0, .int .i64 0] 38)).alloc (.cells #[.int .i64 0, .string ⟨#[]⟩, .int .i64 0] 46) = W7 := hW7
              have hb67 := gb.seqB hb6 hb7
              have HA8 := Lib.hid (HA4.out.on hb67)
              have HQ8 := Lib.hid (HQ4.out.on hb67)
              have HO8 := Lib.hid ((hb67.block _ (gb.blk_lt HO4.out)).trans HO4.out)
              have HW8 := Lib.hid (gc.rowA_on hrow6 hb7)
              have HZ8 := Lib.hid hz7
              have HZA8 := Lib.hid hza7
              have HNB := Lib.hid (show w6.heap.size + 1 ≠ rb by have := HQ4.out.lt; have := hb6.size; omega)
              have HB8 := Lib.hid (HB4.out.on hb67)
              clear HB4
              clear hrow6 hb6 hz7 hza7 hb7 hb67 HA4 HQ4 HO4 HW4 HDO
              go_upto_region 28 with fail
              generalize hWf : finW W7 w6.heap.size (w6.heap.size + 1) (rC p1 n1 q1 s1) a1 = w8 at *
              unfold finW at hWf
              try dsimp only at hWf
              try rw [hWf]
              clear hWf hW7 i7 t0 t1 t2 g0 g1 g2' hlt7
              generalize w6.heap.size = b13 at *
              have i8 := HZ8.out.is
              have k8 := HZ8.out.cells
              have j8 := HQ8.out.is
              have HA9 := Lib.hid (hd_setR HA8.out HQ8.out HRB.out (rC p1 n1 q1 s1))
              have HQ9 := Lib.hid (HQ8.out.row p1 n1 q1 s1)
              have HW9 := Lib.hid (rowA_setR HW8.out HQ8.out (rC p1 n1 q1 s1))
              have HO9 := Lib.hid ((setRow_other w8 rb ob (rC p1 n1 q1 s1) HNE.out).trans HO8.out)
              have HZA9 := Lib.hid ((setRow_other w8 rb (b13 + 1) (rC p1 n1 q1 s1) HNB.out).trans HZA8.out)
              have HB9 := Lib.hid (hd_setR HB8.out HQ8.out HRB.out (rC p1 n1 q1 s1))
              clear HB8
              go_upto_region 29 with fail
              generalize w8.setRow rb (rC p1 n1 q1 s1) = w9 at *
              clear i8 k8 j8 HA8 HQ8 HO8 HW8 HZ8 HZA8
              have o0 := cell_of_row w9 ob 0 _ _ _ HO9.out
              have o1 := cell_of_row w9 ob 1 _ _ _ HO9.out
              have o2 := cell_of_row w9 ob 2 _ _ _ HO9.out
              have o3 := cell_of_row w9 ob 3 _ _ _ HO9.out
              have o4 := cell_of_row w9 ob 4 _ _ _ HO9.out
              have o5 := cell_of_row w9 ob 5 _ _ _ HO9.out
              have o6 := cell_of_row w9 ob 6 _ _ _ HO9.out
              have o7 := cell_of_row w9 ob 7 _ _ _ HO9.out
              have o8 := cell_of_row w9 ob 8 _ _ _ HO9.out
              have o9 := cell_of_row w9 ob 9 _ _ _ HO9.out
              have HDs := Lib.hid (does_any (M' := (total os + total (os2.take (k + 1)))) (HA9.out.on (Below.refl _ w9).drew) ⟨kd, T, N, b0, ⟨us, uk, uu, uo, ua, ub⟩⟩ HZK.out.2 (by show _ + b0.size ≤ _; rw [HTK.out]; omega) (by have h1 := HTK.out; have h2 := HTL.out; have h3 := HT1.out; omega))
              rw [HS1.out.1, HS1.out.2] at HDs
              unfold opV at HDs
              simp only at HDs
              obtain ⟨an, aT, ae⟩ := a1
              have z0 : w9.cell? ⟨b13 + 1, 0, none⟩ = some (.int .i64 an) := cell_of_row _ _ 0 _ _ _ HZA9.out
              have z1 : w9.cell? ⟨b13 + 1, 1, none⟩ = some (.string aT) := cell_of_row _ _ 1 _ _ _ HZA9.out
              have z2 : w9.cell? ⟨b13 + 1, 2, none⟩ = some (.int .i64 ae) := cell_of_row _ _ 2 _ _ _ HZA9.out
              go_wp2_with fail
              go_region_law
                (first
                  | (go_simp; go_at_call 9; (with_reducible refine Calls.mono HDs.out ?_); rintro e w10 ⟨rfl, U6, h6, hr6⟩; (have hza := kept_cells (HA9.out.on (Below.refl _ w9).drew).1 hr6 HZA9.out (by decide) (by decide) (by decide) (by decide)); (have v0 : w10.cell? ⟨b13 + 1, 0, none⟩ = some (.int .i64 an) := cell_of_row _ _ 0 _ _ _ hza); (have v1 : w10.cell? ⟨b13 + 1, 1, none⟩ = some (.string aT) := cell_of_row _ _ 1 _ _ _ hza); (have v2 : w10.cell? ⟨b13 + 1, 2, none⟩ = some (.int .i64 ae) := cell_of_row _ _ 2 _ _ _ hza)))
              all_goals (
                have HA10 := Lib.hid (show Hd w w10 U6 g (runO sA (os2.take (k + 1))) (total os + total (os2.take (k + 1))) by rw [HE1.out]; exact h6)
                have HQ10 := Lib.hid (show RAt w10 rb p1 n1 q1 (runO sA (os2.take (k + 1))) by rw [HE1.out]; exact kept_R (HA9.out.on (Below.refl _ w9).drew).1 hr6 HQ9.out.drew)
                have HW10 := Lib.hid (show gc.RowA w10 p1 n1 q1 (runO sA (os2.take (k + 1))).A by rw [HE1.out]; exact kept_row (HA9.out.on (Below.refl _ w9).drew).1 hr6 (gc.rowA_on HW9.out (Below.refl _ w9).drew))
                have HO10 := Lib.hid (show Ok (runO sA (os2.take (k + 1))) (total os + total (os2.take (k + 1))) by rw [HE1.out]; exact HO1.out)
                have HL10 := Lib.hid (show (runO sA (os2.take (k + 1))).A.length = (runO sA (os2.take (k + 1))).S.size by rw [HE1.out]; exact HLN1.out)
                obtain ⟨hb10, hd10⟩ := kept_other hr6 h6.2.2 (HB9.out.on (Below.refl _ w9).drew) HD_.out
                have HB10 := Lib.hid hb10
                have HD10 := Lib.hid hd10
                clear hb10 hd10
                clear h6 hr6 hza
                go_wp2_with fail
                go_roundw
                case rel => exact ⟨k + 1, p1, n1, q1, U6, by omega, by go_num, HA10, HQ10, HW10, HO10, HL10, HB10, HD10⟩
                case measure => simp [intOf]; omega)
            · obtain rfl : m2 = k := by omega
              clear hlt hk
              have HTE := Lib.hid (show os2.take m2 = os2 by rw [← HX2.out]; exact List.take_length)
              rw [HTE.out] at HA
              go_wp2_with fail
              refine (alive_any _).mono ?_
              rintro e w9 ⟨rfl, hb9⟩
              have HA9 := Lib.hid (HA.out.on hb9)
              have HB9 := Lib.hid (HB_.out.on hb9)
              clear hb9 HA HB_
              go_wp2_with fail
              refine (held_i HB9.out.1).mono ?_
              rintro e w' ⟨rfl, rfl⟩
              go_wp2_with fail
              refine (held_i HA9.out.1).mono ?_
              rintro e w' ⟨rfl, rfl⟩
              go_wp2_with fail
              refine (passed_i HB9.out.1).mono ?_
              rintro e w' ⟨rfl, rfl⟩
              go_wp2_with fail
              refine (passed_i HA9.out.1).mono ?_
              rintro e w' ⟨rfl, rfl⟩
              go_wp2_with fail
              go_ret
              exact ⟨gb.ret_bool (by simp), HA9.out.2.2⟩
end Go.Proofs.YtlbihcpglcdmmaaGreat.stageCopies
