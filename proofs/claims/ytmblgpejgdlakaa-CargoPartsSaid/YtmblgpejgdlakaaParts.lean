/-
  The walk of chicanelaw07.CargoParts: it returns true, whatever calls. Conditions: as each states.
-/
import Derived.Test.YtmblgpejgdlakaaV
namespace Go.Proofs.Ytmblgpejgdlakaa.cargoParts
open Go.RowKit

theorem ready_drop (A : List Int) (x : Int) (k : Nat) (hk : k ≤ readyN A x) : readyN (A.drop k) x = readyN A x - k := by
  have hl := ready_le A x
  refine ready_is (by rw [List.length_drop]; omega) (fun j hj => ?_) (fun h => ?_)
  · have := ready_yes (A := A) (x := x) (k := k + j) (by omega)
    rw [List.getD_eq_getElem?_getD] at this ⊢
    rwa [List.getElem?_drop]
  · rw [List.length_drop] at h
    have := ready_no (A := A) (x := x) (by omega)
    rw [List.getD_eq_getElem?_getD] at this ⊢
    rwa [List.getElem?_drop, show k + (readyN A x - k) = readyN A x by omega]
theorem part_text (S : ByteArray) (k j : Nat) : S.extract 0 k ++ (S.extract k S.size).extract 0 j = S.extract 0 (k + j) := by
  apply nums_inj'
  rw [append_nums', ext_nums, ext_nums, ext_nums, ext_nums]
  simp only [List.drop_zero, Nat.sub_zero]
  rw [List.take_of_length_le (l := (nums S).drop k) (by rw [List.length_drop, nums_length]; omega), List.take_add]
theorem part_size (S : ByteArray) (k j : Nat) : ((S.extract k S.size).extract j (S.extract k S.size).size).size = (S.extract (k + j) S.size).size := by
  simp only [ByteArray.size_extract]
  omega
/-- Two cargos, and bytes that are none of the first one's own. -/
def BothQ (w0 : World) (B g : Nat) (S : ByteArray) (A : List Int) (last : Int) (M : Nat) (B' g' : Nat) (S' : ByteArray) (A' : List Int) (last' : Int) (M' : Nat) (q : Option Addr) (w : World) : Prop :=
  ∃ u u', Al w B g u S A last M ∧ Al w B' g' u' S' A' last' M' ∧ Two g u g' u' ∧ Below w0.heap.size w0 w ∧ w0.heap.size ≤ B ∧ w0.heap.size ≤ B' ∧ Own q g u
section
variable {w0 w w' : World} {B g : Nat} {S : ByteArray} {A : List Int} {last : Int} {M : Nat} {B' g' : Nat} {S' : ByteArray} {A' : List Int} {last' : Int} {M' : Nat} {q : Option Addr}
theorem BothQ.drew (h : BothQ w0 B g S A last M B' g' S' A' last' M' q w) : BothQ w0 B g S A last M B' g' S' A' last' M' q w.drew := by
  obtain ⟨u, u', h1, h2, h3, h4, h5, h6, h7⟩ := h
  have hd : Below w.heap.size w w.drew := (Below.refl _ _).drew
  exact ⟨u, u', h1.on hd, h2.on hd, h3, seqB h4 hd, h5, h6, h7⟩
theorem take_bq (h : Both w0 B g S A last M B' g' S' A' last' M' w) (now most : Int) {K : Nat} (hK : takeK A now most = K) {T S1 : ByteArray} {A1 : List Int} (hT : S.extract 0 K = T) (hS1 : S.extract K S.size = S1) (hA1 : A.drop K = A1) :
    Calls Try.prog 21 #[.pointer (some ⟨g, 0, none⟩), .int .i64 now, .int .i64 most] w fun e w' => ∃ q d, e = .returned (.slice q K d) ∧ Lib.BytesIn w' q K (nums T) ∧ T.size = K ∧ BothQ w0 B g S1 A1 last M B' g' S' A' last' M' q w' ∧ Keeps w w' := by
  obtain ⟨u, u', h1, h2, h3, h4, h5, h6⟩ := h
  subst hT hS1 hA1
  refine (take_alq h1 now most hK).mono ?_
  rintro e w' ⟨q, d, rfl, hi, hz, hp⟩
  obtain ⟨ha, u1, hc, ht, ho⟩ := putq_other h1 h2 h3 hp
  exact ⟨q, d, rfl, hi, hz, ⟨u1, u', hc, ha, ht, put_below h4 h1 (putq_put hp) h5, h5, h6, ho⟩, keeps_put h1 (putq_put hp)⟩
theorem take_q (h : BothQ w0 B g S A last M B' g' S' A' last' M' q w) (now most : Int) {K : Nat} (hK : takeK A now most = K) {T S1 : ByteArray} {A1 : List Int} (hT : S.extract 0 K = T) (hS1 : S.extract K S.size = S1) (hA1 : A.drop K = A1) :
    Calls Try.prog 21 #[.pointer (some ⟨g, 0, none⟩), .int .i64 now, .int .i64 most] w fun e w' => GotB T K e w' ∧ Both w0 B g S1 A1 last M B' g' S' A' last' M' w' ∧ Keeps w w' ∧ ∀ n xs, Lib.BytesIn w q n xs → Lib.BytesIn w' q n xs := by
  obtain ⟨u, u', h1, h2, h3, h4, h5, h6, h7⟩ := h
  subst hT hS1 hA1
  refine (take_al h1 now most hK).mono ?_
  rintro e w' ⟨hg, hp⟩
  exact ⟨hg, both_put h1 h2 h3 h4 h5 h6 hp, keeps_put h1 hp, fun n xs hi => bytes_stay h1 h7 hi hp⟩
end
set_option maxRecDepth 100000 in
set_option maxHeartbeats 16000000 in
theorem walk (p : Option Addr) (m d : Nat) (os : List Call) (w : World) (hx : os.length = m) (hmd : m ≤ d) (hd : d ≤ 9223372036854775807) (hz : ∀ o ∈ os, Wf64 o.1 ∧ Wf64 o.2.1 ∧ Wf64 o.2.2.1 ∧ o.2.2.2.size ≤ 140737488351232) (hj : OpsIn w p m os) (now x y : Int) :
    Calls Try.prog 7 #[.slice p m d, .int .i64 now, .agg #[.int .i64 x, .int .i64 y]] w fun e w' => e = .returned (.bool true) ∧ Below w.heap.size w w' := by
  have hbx : Below w.heap.size w (w.alloc (.cells #[.int .i64 x, .int .i64 y] 50)) := (Below.refl _ _).alloc (Nat.le_refl _) _
  have hbk := heap_alloc_new w (.cells #[.int .i64 x, .int .i64 y] 50)
  have HX := Lib.hid hx
  have HJ := Lib.hid hj
  have HZ := Lib.hid hz
  clear hx hz hj
  go_enter Try.func7, Try.ntmps7
  go_wp2_with fail
  refine (new_at w _ hbx).mono ?_
  rintro e w1 ⟨g, rfl, ha, hbn⟩
  have HA1 := Lib.hid ha
  have HBK1 := Lib.hid ((hbn.block _ (blk_lt hbk)).trans hbk)
  clear ha hbn
  obtain ⟨B, hB⟩ : ∃ B, (w.alloc (.cells #[.int .i64 x, .int .i64 y] 50)).heap.size = B := ⟨_, rfl⟩
  rw [hB] at HA1
  clear hB
  go_wp2_with fail
  refine (few_any p m d os _ HX.out hmd hd (fun o ho => (HZ.out o ho).2.2.2) (ops_on HJ.out HA1.out.below)).mono ?_
  rintro e w2 ⟨b, rfl, hf, hb⟩
  have HA2 := Lib.hid (HA1.out.on hb)
  have HF := Lib.hid hf
  have hbf := hb
  clear hb hf HA1
  clear hmd hd
  cases b with
  | false =>
    clear HF
    go_wp2_with fail
    refine (alive_any _).mono ?_
    rintro e w5 ⟨rfl, hb5⟩
    have HB5 := Lib.hid (HA2.out.on hb5).below
    clear hb5
    go_wp2_with fail
    go_ret
    exact ⟨rfl, HB5.out⟩
  | true =>
    obtain ⟨hm, ht⟩ := HF.out rfl
    have HT := Lib.hid ht
    clear HF ht
    clear hbx hbk
    have HBK2 := Lib.hid ((hbf.block _ (blk_lt HBK1.out)).trans HBK1.out)
    have z0 : w2.cell? ⟨w.heap.size, 0, none⟩ = some (.int .i64 x) := cell_of_row _ _ 0 _ _ _ HBK2.out
    have z1 : w2.cell? ⟨w.heap.size, 1, none⟩ = some (.int .i64 y) := cell_of_row _ _ 1 _ _ _ HBK2.out
    clear hbf HBK1
    by_cases hx0 : x < 0
    · go_wp2_with fail
      refine (alive_any _).mono ?_
      rintro e w5 ⟨rfl, hb5⟩
      have HB5 := Lib.hid (HA2.out.on hb5).below
      clear hb5
      go_wp2_with fail
      go_ret
      exact ⟨rfl, HB5.out⟩
    by_cases hy0 : y < 0
    · go_wp2_with fail
      refine (alive_any _).mono ?_
      rintro e w5 ⟨rfl, hb5⟩
      have HB5 := Lib.hid (HA2.out.on hb5).below
      clear hb5
      go_wp2_with fail
      go_ret
      exact ⟨rfl, HB5.out⟩
    by_cases hx1 : 10000 < x
    · go_wp2_with fail
      refine (alive_any _).mono ?_
      rintro e w5 ⟨rfl, hb5⟩
      have HB5 := Lib.hid (HA2.out.on hb5).below
      clear hb5
      go_wp2_with fail
      go_ret
      exact ⟨rfl, HB5.out⟩
    by_cases hy1 : 10000 < y
    · go_wp2_with fail
      refine (alive_any _).mono ?_
      rintro e w5 ⟨rfl, hb5⟩
      have HB5 := Lib.hid (HA2.out.on hb5).below
      clear hb5
      go_wp2_with fail
      go_ret
      exact ⟨rfl, HB5.out⟩
    go_wp2_with fail
    go_loopw [47] (fun i wr => ∃ (k : Nat) (S : ByteArray) (A : List Int) (last : Int), k ≤ m ∧ i = .int .i64 k ∧ Hid (At w B g S A last (total (os.take k)) wr) ∧ Hid (S.size ≤ total (os.take k)) ∧ Hid (wr.heap[w.heap.size]? = some (.cells #[.int .i64 x, .int .i64 y] 50 (0, 0)))) (fun i _ => m - (intOf i).toNat)
    case atStart => exact ⟨0, ⟨#[]⟩, [], 0, by omega, rfl, HA2, Lib.hid (Nat.zero_le _), HBK2⟩
    case round =>
      clear HA2 HBK2 z0 z1
      obtain ⟨k, S, A, last, hk, rfl, HA, HL, HBK⟩ := hrel
      by_cases hlt : k < m
      · obtain ⟨b, o, rfl, hcell⟩ := ops_on HJ.out HA.out.below (by omega)
        obtain ⟨c0, c1, c2, c3⟩ := hcell k hlt
        have hzk := HZ.out _ (at_of os k (by rw [HX.out]; exact hlt))
        have HTK := Lib.hid (total_step os k m HX.out hlt _ rfl)
        have HTL := Lib.hid (Nat.le_trans (total_take_le os (k + 1)) HT.out)
        generalize os.getD k noCall = O at *
        obtain ⟨kd, a, N, s⟩ := O
        simp only at c0 c1 c2 c3 HTK
        rw [← Nat.add_assoc] at c1 c2 c3
        have HID := Lib.hid hzk.2.1
        have hbl := World.block_lt_of_cell? wr _ c0
        have HSS := Lib.hid (show s.size ≤ 5000 by have h1 := HTK.out; have h2 := HTL.out; omega)
        clear hcell hzk
        have HSZ := Lib.hid (show S.size ≤ 5000 by have h1 := HL.out; have h2 := HTK.out; have h3 := HTL.out; omega)
        have hal : Below wr.heap.size wr (wr.alloc (.cells #[.int .i64 kd, .int .i64 a, .int .i64 N, .string s] 31)) := (Below.refl _ _).alloc (Nat.le_refl _) _
        have HA4 := Lib.hid (HA.out.on hal)
        have HBK4 := Lib.hid ((hal.block _ (blk_lt HBK.out)).trans HBK.out)
        clear hal HA HBK
        go_wp2_with fail
        generalize wr.alloc (.cells #[.int .i64 kd, .int .i64 a, .int .i64 N, .string s] 31) = w4 at *
        obtain ⟨X, hX⟩ : ∃ X, doC S A last kd a N s = X := ⟨_, rfl⟩
        have HXS := Lib.hid (show X.S.size ≤ total (os.take (k + 1)) by have h0 := doC_size S A last kd a N s; rw [hX] at h0; have h1 := HL.out; have h2 := HTK.out; omega)
        have HDs := Lib.hid (does_at (M1 := total (os.take (k + 1))) HA4.out (by rw [HTK.out]; exact Nat.le_refl _) (by have := HTL.out; omega) hX)
        clear hX
        refine HDs.out.mono ?_
        rintro e w7 ⟨rfl, ha7, hk7⟩
        obtain ⟨S1, A1, l1, nn, t1⟩ := X
        dsimp only at ha7 HXS ⊢
        have HA7 := Lib.hid ha7
        have HBK7 := Lib.hid (keeps_two hk7 HBK4.out)
        clear hk7 HBK4 ha7 HDs HA4 c0 c1 c2 c3 hbl
        go_wp2_with fail
        go_roundw
        case rel => exact ⟨k + 1, S1, A1, l1, by omega, by go_num, HA7, HXS, HBK7⟩
        case measure => simp [intOf]; omega
      · obtain rfl : k = m := by omega
        have HSZ := Lib.hid (show S.size ≤ 5000 by have h1 := HL.out; have h2 := total_take_le os k; have h3 := HT.out; omega)
        have HINV := Lib.hid HA.out.inv
        clear hlt hk HL
        have hbk := HBK.out
        have HXY := Lib.hid (show (0 ≤ x ∧ x ≤ 10000) ∧ 0 ≤ y ∧ y ≤ 10000 by omega)
        obtain ⟨K0, hK0⟩ : ∃ K, takeK A now x = K := ⟨_, rfl⟩
        obtain ⟨K1, hK1⟩ : ∃ K, takeK (A.drop K0) now y = K := ⟨_, rfl⟩
        have hK : takeK A now (x + y) = K0 + K1 := by
          unfold takeK at hK0 hK1 ⊢
          rw [ready_drop A now K0 (by omega)] at hK1
          omega
        have hKl : K0 + K1 ≤ S.size := by rw [← hK, ← HINV.out.len]; exact takeK_le _ _ _
        obtain ⟨T0, hT0⟩ : ∃ T, S.extract 0 K0 = T := ⟨_, rfl⟩
        obtain ⟨S1, hS1⟩ : ∃ T, S.extract K0 S.size = T := ⟨_, rfl⟩
        obtain ⟨A1, hA1⟩ : ∃ T, A.drop K0 = T := ⟨_, rfl⟩
        rw [hA1] at hK1
        obtain ⟨T1, hT1⟩ : ∃ T, S1.extract 0 K1 = T := ⟨_, rfl⟩
        obtain ⟨S2, hS2⟩ : ∃ T, S1.extract K1 S1.size = T := ⟨_, rfl⟩
        obtain ⟨TT, hTT⟩ : ∃ T, S.extract 0 (K0 + K1) = T := ⟨_, rfl⟩
        obtain ⟨S3, hS3⟩ : ∃ T, S.extract (K0 + K1) S.size = T := ⟨_, rfl⟩
        have hcat : T0 ++ T1 = TT := by rw [← hT0, ← hT1, ← hTT, ← hS1]; exact part_text S K0 K1
        have hszs : S2.size = S3.size := by rw [← hS2, ← hS3, ← hS1]; exact part_size S K0 K1
        have hS1l : S1.size ≤ S.size := by rw [← hS1, ByteArray.size_extract]; omega
        have hS2l : S2.size ≤ S.size := by rw [← hS2, ByteArray.size_extract]; omega
        have hTTl : T0.size + T1.size ≤ 5000 := by
          have h := congrArg ByteArray.size hcat
          rw [append_size', ← hTT, ByteArray.size_extract] at h
          have := HSZ.out
          omega
        obtain ⟨n2, hn2⟩ : ∃ n, S2.size = n := ⟨_, rfl⟩
        rw [hn2] at hszs
        have HN2 := Lib.hid hn2
        have HN3 := Lib.hid hszs.symm
        have HCAT := Lib.hid hcat
        have HK := Lib.hid hK
        have HK0 := Lib.hid hK0
        have HK1 := Lib.hid hK1
        have HT0 := Lib.hid hT0
        have HT1 := Lib.hid hT1
        have HTT := Lib.hid hTT
        have HS1 := Lib.hid hS1
        have HS2 := Lib.hid hS2
        have HS3 := Lib.hid hS3
        have HA1 := Lib.hid hA1
        have HS1L := Lib.hid hS1l
        have HS2L := Lib.hid hS2l
        have HTTL := Lib.hid hTTl
        obtain ⟨KK, hKK⟩ : ∃ KK, K0 + K1 = KK := ⟨_, rfl⟩
        rw [hKK] at HK HTT HS3
        clear hKK
        clear hK0 hK1 hK hKl hT0 hS1 hA1 hT1 hS2 hTT hS3 hcat hszs hS1l hS2l hTTl hn2 hbk hx0 hy0 hx1 hy1
        go_wp2_with fail
        refine (copy_two HA.out).mono ?_
        rintro e w3 ⟨g', rfl, ha, hb⟩
        have HB3 := Lib.hid ha
        have HBK3 := Lib.hid ((hb.block _ (blk_lt HBK.out)).trans HBK.out)
        clear ha hb HA HBK
        generalize wr.heap.size = B' at *
        go_wp2_with fail
        have HC1 := Lib.hid (take_bq (HB3.out.on (Below.refl _ _).drew) now x HK0.out HT0.out HS1.out HA1.out)
        have HSB := Lib.hid (show S1.size ≤ 100000 by have := HSZ.out; have := HS1L.out; omega)
        obtain ⟨A2, hA2⟩ : ∃ A2, A1.drop K1 = A2 := ⟨_, rfl⟩
        have HA2 := Lib.hid hA2
        clear hA2
        have HE := Lib.hid (show w3.drew.cell? ⟨w.heap.size, 0, none⟩ = some (.int .i64 x) ∧ w3.drew.cell? ⟨w.heap.size, 1, none⟩ = some (.int .i64 y) from ⟨cell_of_row _ _ 0 _ _ _ HBK3.out, cell_of_row _ _ 1 _ _ _ HBK3.out⟩)
        have hTl0 : T0.size ≤ 5000 := by have := HTTL.out; omega
        have hTl1 : T1.size ≤ 5000 := by have := HTTL.out; omega
        go_region_held (fun W => W.cell? ⟨w.heap.size, 0, none⟩ = some (.int .i64 x) ∧ W.cell? ⟨w.heap.size, 1, none⟩ = some (.int .i64 y))
          (first
            | exact HE.out
            | assumption)
          (first
            | (go_at_call 21; (with_reducible refine Calls.mono HC1.out ?_); rintro e w4 ⟨q4, d4, rfl, hi, hz, hbq, hk⟩; (have hbk4 := keeps_two hk (i := w.heap.size) HBK3.out); (have hcl := And.intro (cell_of_row w4 _ 0 _ _ _ hbk4) (cell_of_row w4 _ 1 _ _ _ hbk4)); (have HBK4 := Lib.hid hbk4); (have HBQ := Lib.hid hbq); (have HI4 := Lib.hid hi); (have HZ4 := Lib.hid hz); (have cv := got_text (d := d4) hi hz); skip; clear hbq hi hz hk hbk4)
            | (go_at_call 21; (with_reducible refine Calls.mono (take_q HBQ.out now y HK1.out HT1.out HS2.out HA2.out) ?_); rintro e w5 ⟨⟨q5, d5, rfl, hi5, hz5, _⟩, hb5, hk5, hst⟩; (have hbk5 := keeps_two hk5 HBK4.out); (have hcl := And.intro (cell_of_row w5 _ 0 _ _ _ hbk5) (cell_of_row w5 _ 1 _ _ _ hbk5)); (have HBK5 := Lib.hid hbk5); (have HB5 := Lib.hid hb5); (have cv := got_text (d := d5) hi5 hz5); (have cv' := got_text (d := d4) (hst _ _ HI4.out) HZ4.out); clear hb5 hi5 hz5 hk5 hst hbk5))
        all_goals
          have HB6 := Lib.hid HB5.out
          go_wp2_with fail
          refine (alive_any _).mono ?_
          rintro e w6 ⟨rfl, hb⟩
          have HB7 := Lib.hid (HB6.out.on hb).swap
          have z0 := (hb.cell (World.block_lt_of_cell? w5 _ (cell_of_row w5 _ 0 _ _ _ HBK5.out))).trans (cell_of_row w5 _ 0 _ _ _ HBK5.out)
          have z1 := (hb.cell (World.block_lt_of_cell? w5 _ (cell_of_row w5 _ 1 _ _ _ HBK5.out))).trans (cell_of_row w5 _ 1 _ _ _ HBK5.out)
          have hw : IntKind.i64.wrap (x + y) = x + y := IntWalk.i64_in _ (by have := HXY.out; omega)
          clear hb HB6 HB5 HBK5
          go_wp2_with fail
          refine (take_b HB7.out now (x + y) HK.out HTT.out HS3.out rfl).mono ?_
          rintro e w7 ⟨⟨q7, d7, rfl, hi7, hz7, _⟩, hb7, _⟩
          have HB8 := Lib.hid hb7
          have cv7 := got_text (d := d7) hi7 hz7
          have he : ((T0 ++ T1).toList == TT.toList) = true := by rw [HCAT.out]; simp
          clear hi7 hz7 hb7 HB7 z0 z1 hw
          go_wp2_with fail
          refine (len_at HB8.out.right HN2.out).mono ?_
          rintro e w8 ⟨rfl, hb⟩
          have HB9 := Lib.hid (HB8.out.on hb)
          clear hb HB8
          go_wp2_with fail
          refine (len_at HB9.out.left HN3.out).mono ?_
          rintro e w9 ⟨rfl, hb⟩
          have HF := Lib.hid (HB9.out.on hb).left.below
          clear hb HB9
          go_wp2_with fail
          go_ret
          exact ⟨ret_bool (by simp), HF.out⟩
end Go.Proofs.Ytmblgpejgdlakaa.cargoParts
