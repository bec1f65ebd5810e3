/-
  The walk of chicanelaw06.AlarmCopies: it returns true, whatever calls. Conditions: as each states.
-/
import Derived.Test.YtpohfcjmjfhdoaaW20
namespace Go.Proofs.Ytpohfcjmjfhdoaa.alarmCopies
open Go.RowKit Go.Sort Go.Maps

theorem At.set_r {w0 w : World} {B g : Nat} {L : List Due} {last : Int} {gr : Nat} {a b a' b' : Value} (h : At w0 B g L last w) (hq : w.heap[gr]? = some (.cells #[a, b] 28 (0, 0))) (hw : w0.heap.size ≤ gr) :
    At w0 B g L last (set2 w gr a' b') ∧ (set2 w gr a' b').heap[gr]? = some (.cells #[a', b'] 28 (0, 0)) := by
  obtain ⟨u, m, hA, h1, h2⟩ := h
  refine ⟨⟨u, m, (hA.set (by decide) (by decide) hq 0 a').set (by decide) (by decide) (set_heap (i := 0) hq a') 1 b', set2_below h1 hw a' b', h2⟩, set2_heap hq a' b'⟩
theorem Both.set_r {w0 w : World} {B g : Nat} {L : List Due} {last : Int} {B' g' : Nat} {L' : List Due} {last' : Int} {gr : Nat} {a b a' b' : Value} (h : Both w0 B g L last B' g' L' last' w) (hq : w.heap[gr]? = some (.cells #[a, b] 28 (0, 0))) (hw : w0.heap.size ≤ gr) :
    Both w0 B g L last B' g' L' last' (set2 w gr a' b') ∧ (set2 w gr a' b').heap[gr]? = some (.cells #[a', b'] 28 (0, 0)) := by
  obtain ⟨u, m, u', m', hA, hB, h3, h4, h5, h6⟩ := h
  exact ⟨⟨u, m, u', m', (hA.set (by decide) (by decide) hq 0 a').set (by decide) (by decide) (set_heap (i := 0) hq a') 1 b', (hB.set (by decide) (by decide) hq 0 a').set (by decide) (by decide) (set_heap (i := 0) hq a') 1 b', h3, set2_below h4 hw a' b', h5, h6⟩, set2_heap hq a' b'⟩
theorem row_set2 {w : World} {p : Option Addr} {n c : Nat} {ds : List Due} (h : RowIn w p n c ds) {gr : Nat} {a b : Value} (hq : w.heap[gr]? = some (.cells #[a, b] 28 (0, 0))) (a' b' : Value) : RowIn (set2 w gr a' b') p n c ds :=
  row_set (row_set h (by decide) hq 0 a') (by decide) (set_heap (i := 0) hq a') 1 b'
theorem far_set2 {w : World} {gr go : Nat} {cs : Array Value} {T : TypeId} {fr : Nat × Nat} (h : w.heap[go]? = some (.cells cs T fr)) (hne : go ≠ gr) (a b : Value) : (set2 w gr a b).heap[go]? = some (.cells cs T fr) := by
  unfold set2
  rw [Below.heap_setCell _ _ _ _ hne, Below.heap_setCell _ _ _ _ hne]
  exact h

set_option maxRecDepth 100000 in
set_option maxHeartbeats 16000000 in
theorem walk (p p' : Option Addr) (m d m' d' : Nat) (os os' : List Call) (w : World) (hx : os.length = m) (_hmd : m ≤ d) (_hd : d ≤ 9223372036854775807) (hz : ∀ o ∈ os, Wf64 o.1 ∧ Wf64 o.2.1 ∧ Wf64 o.2.2) (hj : OpsIn w p m os) (hy : m ≤ 140737488351232)
    (hx' : os'.length = m') (_hmd' : m' ≤ d') (_hd' : d' ≤ 9223372036854775807) (hz' : ∀ o ∈ os', Wf64 o.1 ∧ Wf64 o.2.1 ∧ Wf64 o.2.2) (hj' : OpsIn w p' m' os') (hy' : m' ≤ 140737488351232) :
    Calls Try.prog 6 #[.slice p m d, .slice p' m' d'] w fun e w' => e = .returned (.bool true) ∧ Below w.heap.size w w' := by
  have HX := Lib.hid hx
  have HJ := Lib.hid hj
  have HZ := Lib.hid hz
  have HX' := Lib.hid hx'
  have HJ' := Lib.hid hj'
  have HZ' := Lib.hid hz'
  have hsum : IntKind.i64.wrap ((m : Int) + (m' : Int)) = (m : Int) + (m' : Int) := IntWalk.i64_in _ (by omega)
  clear hx hz hj hx' hz' hj' _hmd _hd _hmd' _hd'
  go_enter Try.func6, Try.ntmps6
  go_wp2_with fail
  refine (new_at w _ (Below.refl _ _)).mono ?_
  rintro e w1 ⟨rfl, ha⟩
  have HA1 := Lib.hid ha
  clear ha
  generalize w.heap.size + 1 = g at *
  obtain ⟨B, hB⟩ : ∃ B, w.heap.size = B := ⟨_, rfl⟩
  rw [hB] at HA1
  clear hB
  by_cases hm : 200 < m + m'
  · go_wp2_with fail
    refine (alive_any _).mono ?_
    rintro e w5 ⟨rfl, hb5⟩
    have HB5 := Lib.hid (HA1.out.on hb5).below
    clear hb5
    go_wp2_with fail
    go_ret
    exact ⟨rfl, HB5.out⟩
  · go_wp2_with fail
    have HM := Lib.hid (show m + m' ≤ 200 by omega)
    clear hm hsum hy hy'
    have hB0 := HA1.out.below
    have hal : Below w1.heap.size w1 (w1.alloc (.cells #[.slice none 0 0, .int .i64 0] 28)) := (Below.refl _ _).alloc (Nat.le_refl _) _
    have HA2 := Lib.hid (HA1.out.on hal)
    have HQ2 := Lib.hid (heap_alloc_new w1 (.cells #[.slice none 0 0, .int .i64 0] 28))
    have HGR := Lib.hid hB0.size
    clear hal hB0 HA1
    generalize w1.alloc (.cells #[.slice none 0 0, .int .i64 0] 28) = w2 at *
    generalize w1.heap.size = gr at *
    go_loopw [36] (fun i wr => ∃ (k : Nat) (L : List Due) (last : Int) (p : Option Addr) (n c : Nat), k ≤ m ∧ i = .int .i64 k ∧ Hid (At w B g L last wr) ∧ Hid (wr.heap[gr]? = some (.cells #[.slice p n c, .int .i64 last] 28 (0, 0))) ∧ Hid (RowIn wr p n c L) ∧ Hid (last ≤ k)) (fun i _ => m - (intOf i).toNat)
    case atStart => exact ⟨0, [], 0, none, 0, 0, by omega, rfl, HA2, HQ2, Lib.hid (row_nil _ _), Lib.hid (by omega)⟩
    case round =>
      clear HA2 HQ2
      obtain ⟨k, L, last, pr, nr, cr, hk, rfl, HA, HQ, HRw, HL⟩ := hrel
      by_cases hlt : k < m
      · obtain ⟨b, o, rfl, hcell⟩ := ops_on HJ.out HA.out.below (by omega)
        obtain ⟨c0, c1, c2⟩ := hcell k hlt
        have hzk := HZ.out _ (at_of os k (by rw [HX.out]; exact hlt))
        generalize os.getD k noCall = O at *
        obtain ⟨kd, a, id⟩ := O
        simp only at c0 c1 c2
        rw [← Nat.add_assoc] at c1 c2
        have HID := Lib.hid hzk.2.2
        have hbl := World.block_lt_of_cell? wr _ c0
        have hbd := HA.out.bounds
        have hll := HL.out
        have hmm := HM.out
        have hnr : nr ≤ 4000 := by have := HRw.out.1; omega
        have HDL := Lib.hid (do_last L last kd a id)
        have q0 : wr.cell? ⟨gr, 0, none⟩ = some (.slice pr nr cr) := cell_of_row wr gr 0 _ _ _ HQ.out
        have q1 : wr.cell? ⟨gr, 1, none⟩ = some (.int .i64 last) := cell_of_row wr gr 1 _ _ _ HQ.out
        have hgl := blk_lt HQ.out
        have hal : Below wr.heap.size wr (wr.alloc (.cells #[.int .i64 kd, .int .i64 a, .int .i64 id] 30)) := (Below.refl _ _).alloc (Nat.le_refl _) _
        have HA4 := Lib.hid (HA.out.on hal)
        have HQ4 := Lib.hid ((hal.block _ hgl).trans HQ.out)
        have HO4 := Lib.hid (heap_alloc_new wr (.cells #[.int .i64 kd, .int .i64 a, .int .i64 id] 30))
        have HDo := Lib.hid (do_any pr nr cr L last kd a id _ (row_on HRw.out hal) hnr ⟨hbd.1, by omega⟩)
        have HLL := Lib.hid (show last ≤ 1000 by omega)
        clear hcell hzk hbd hll hnr hal hmm
        go_wp2_with fail
        generalize wr.alloc (.cells #[.int .i64 kd, .int .i64 a, .int .i64 id] 30) = w4 at *
        generalize wr.heap.size = go at *
        obtain ⟨X, hX⟩ : ∃ X, doL L last kd a id = X := ⟨_, rfl⟩
        rw [hX] at HDo HDL
        have HXX := Lib.hid hX
        clear hX
        refine HDo.out.mono ?_
        rintro e w5 ⟨p1, n1, k1, p2, n2, k2, rfl, hr1, hr2, hb5⟩
        have HA5 := Lib.hid (HA4.out.on hb5)
        have HQ5 := Lib.hid ((hb5.block _ (blk_lt HQ4.out)).trans HQ4.out)
        have HO5 := Lib.hid ((hb5.block _ (blk_lt HO4.out)).trans HO4.out)
        have HR1 := Lib.hid hr1
        have HR2 := Lib.hid hr2
        clear hr1 hr2 hb5 HA4 HQ4 HO4 HDo c0 c1 c2 hbl q0 q1 hgl HA HQ HRw
        obtain ⟨L1, last1, N, is, E, O⟩ := X
        dsimp only at HR1 HR2 HDL ⊢
        have q0 : w5.cell? ⟨gr, 0, none⟩ = some (.slice pr nr cr) := cell_of_row w5 gr 0 _ _ _ HQ5.out
        have q1 : w5.cell? ⟨gr, 1, none⟩ = some (.int .i64 last) := cell_of_row w5 gr 1 _ _ _ HQ5.out
        have f0 : w5.frozen? ⟨gr, 0, none⟩ = false := frozen_at HQ5.out
        have f1 : w5.frozen? ⟨gr, 1, none⟩ = false := frozen_at HQ5.out
        have o0 : w5.cell? ⟨go, 0, none⟩ = some (.int .i64 kd) := cell_of_row w5 go 0 _ _ _ HO5.out
        have o1 : w5.cell? ⟨go, 1, none⟩ = some (.int .i64 a) := cell_of_row w5 go 1 _ _ _ HO5.out
        have o2 : w5.cell? ⟨go, 2, none⟩ = some (.int .i64 id) := cell_of_row w5 go 2 _ _ _ HO5.out
        have hgl := blk_lt HQ5.out
        have hol := blk_lt HO5.out
        have hne : gr ≠ go := fun e => by
          have h := HQ5.out
          rw [e, HO5.out] at h
          simp at h
        have hs6 := At.set_r (a' := .slice p1 n1 k1) (b' := .int .i64 last1) HA5.out HQ5.out HGR.out
        have hr16 := row_set2 HR1.out HQ5.out (.slice p1 n1 k1) (.int .i64 last1)
        have hr26 := row_set2 HR2.out HQ5.out (.slice p1 n1 k1) (.int .i64 last1)
        have hsz6 : (set2 w5 gr (.slice p1 n1 k1) (.int .i64 last1)).heap.size = w5.heap.size := by simp [set2]
        have hal1 : Below (set2 w5 gr (.slice p1 n1 k1) (.int .i64 last1)).heap.size (set2 w5 gr (.slice p1 n1 k1) (.int .i64 last1)) (((set2 w5 gr (.slice p1 n1 k1) (.int .i64 last1)).alloc (.cells #[.slice p1 n1 k1, .int .i64 last1] 28)).alloc (.cells #[.int .i64 N, .bool is, .int .i64 E, .slice p2 n2 k2] 33)) := ((Below.refl _ _).alloc (Nat.le_refl _) _).alloc (by simp) _
        have HA6 := Lib.hid (hs6.1.on hal1)
        have HQ6 := Lib.hid ((hal1.block _ (blk_lt hs6.2)).trans hs6.2)
        have HR1' := Lib.hid (row_on hr16 hal1)
        have ho6 := far_set2 HO5.out hne.symm (.slice p1 n1 k1) (.int .i64 last1)
        have HO6 := Lib.hid ((hal1.block _ (blk_lt ho6)).trans ho6)
        clear hs6 hr16 hr26 hsz6 hal1 ho6 HA5 HQ5 HR1 HR2
        go_wp2_with fail
        generalize hW6 : ((set2 w5 gr (.slice p1 n1 k1) (.int .i64 last1)).alloc (.cells #[.slice p1 n1 k1, .int .i64 last1] 28)).alloc (.cells #[.int .i64 N, .bool is, .int .i64 E, .slice p2 n2 k2] 33) = w6 at *
        unfold set2 at hW6
        rw [hW6]
        clear hW6 q0 q1 f0 f1 o0 o1 o2 hgl hol hne HO5
        have HDs := Lib.hid (does_k HA6.out HLL.out (kind := kd) (a := a) HID.out)
        rw [HXX.out] at HDs
        refine HDs.out.mono ?_
        rintro e w7 ⟨p3, n3, k3, rfl, _, ha7, hk7⟩
        dsimp only at ha7
        have HQ7 := Lib.hid (hk7 _ _ _ _ (by decide) (by decide) HQ6.out)
        have HR7 := Lib.hid (row_keeps HR1'.out hk7)
        have HA7 := Lib.hid ha7
        clear ha7 hk7 HDs HA6 HQ6 HO6 HR1'
        go_wp2_with fail
        go_roundw
        case rel => exact ⟨k + 1, L1, last1, p1, n1, k1, by omega, by go_num, HA7, HQ7, HR7, Lib.hid (by have := HDL.out; have := HL.out; simp only [Int.natCast_add]; omega)⟩
        case measure => simp [intOf]; omega
      · have hkm : k = m := by omega
        subst hkm
        clear hlt hk
        have hmm := HM.out
        have hll := HL.out
        have HLK := Lib.hid (show last ≤ 200 by omega)
        have HKM := Lib.hid (show last ≤ k by omega)
        clear hmm hll HL
        go_wp2_with fail
        refine (copy_two HA.out).mono ?_
        rintro e w10 ⟨gc, rfl, hac, hbc⟩
        have HC := Lib.hid hac.swap
        have HK := Lib.hid ((hbc.block gr (blk_lt HQ.out)).trans HQ.out)
        have HKR := Lib.hid (row_on HRw.out hbc)
        clear hac hbc HA HQ HRw
        have q0 : w10.cell? ⟨gr, 0, none⟩ = some (.slice pr nr cr) := cell_of_row w10 gr 0 _ _ _ HK.out
        have q1 : w10.cell? ⟨gr, 1, none⟩ = some (.int .i64 last) := cell_of_row w10 gr 1 _ _ _ HK.out
        go_wp2_with fail
        have hal : Below w10.heap.size w10 (w10.alloc (.cells #[.slice pr nr cr, .int .i64 last] 28)) := (Below.refl _ _).alloc (Nat.le_refl _) _
        have HC3 := Lib.hid (HC.out.on hal)
        have HP3 := Lib.hid (heap_alloc_new w10 (.cells #[.slice pr nr cr, .int .i64 last] 28))
        have HNE := Lib.hid (show gr ≠ w10.heap.size from Nat.ne_of_lt (blk_lt HK.out))
        have HK3 := Lib.hid ((hal.block gr (blk_lt HK.out)).trans HK.out)
        have HKR3 := Lib.hid (row_on HKR.out hal)
        have HGQ := Lib.hid HC.out.left.below.size
        clear q0 q1 hal HC HK HKR
        generalize w10.alloc (.cells #[.slice pr nr cr, .int .i64 last] 28) = w11 at *
        generalize w10.heap.size = gq at *
        generalize wr.heap.size = B' at *
        rename World => wC
        go_loopw [58] (fun i wr => ∃ (j : Nat) (P : List Due) (lastP : Int) (pq : Option Addr) (nq cq : Nat), j ≤ m' ∧ i = .int .i64 j ∧ Hid (Both w B' gc P lastP B g L last wr) ∧ Hid (wr.heap[gq]? = some (.cells #[.slice pq nq cq, .int .i64 lastP] 28 (0, 0))) ∧ Hid (RowIn wr pq nq cq P) ∧ Hid (lastP ≤ k + j) ∧ Hid (wr.heap[gr]? = some (.cells #[.slice pr nr cr, .int .i64 last] 28 (0, 0))) ∧ Hid (RowIn wr pr nr cr L)) (fun i _ => m' - (intOf i).toNat)
        case atStart => exact ⟨0, L, last, pr, nr, cr, by omega, rfl, HC3, HP3, HKR3, Lib.hid (by have := HKM.out; omega), HK3, HKR3⟩
        case round =>
          clear HC3 HP3 HK3 HKR3
          obtain ⟨j, P, lastP, pq, nq, cq, hj, rfl, HB, HQ, HRw, HL, HK, HKR⟩ := hrel
          by_cases hlt : j < m'
          · obtain ⟨b, o, rfl, hcell⟩ := ops_on HJ'.out HB.out.left.below (by omega)
            obtain ⟨c0, c1, c2⟩ := hcell j hlt
            have hzk := HZ'.out _ (at_of os' j (by rw [HX'.out]; exact hlt))
            generalize os'.getD j noCall = O at *
            obtain ⟨kd, a, id⟩ := O
            simp only at c0 c1 c2
            rw [← Nat.add_assoc] at c1 c2
            have HID := Lib.hid hzk.2.2
            have hbl := World.block_lt_of_cell? wr _ c0
            have hbd := HB.out.left.bounds
            have hll := HL.out
            have hmm := HM.out
            have hnr : nq ≤ 4000 := by have := HRw.out.1; omega
            have HDL := Lib.hid (do_last P lastP kd a id)
            have q0 : wr.cell? ⟨gq, 0, none⟩ = some (.slice pq nq cq) := cell_of_row wr gq 0 _ _ _ HQ.out
            have q1 : wr.cell? ⟨gq, 1, none⟩ = some (.int .i64 lastP) := cell_of_row wr gq 1 _ _ _ HQ.out
            have hgl := blk_lt HQ.out
            have hal : Below wr.heap.size wr (wr.alloc (.cells #[.int .i64 kd, .int .i64 a, .int .i64 id] 30)) := (Below.refl _ _).alloc (Nat.le_refl _) _
            have HA4 := Lib.hid (HB.out.on hal)
            have HQ4 := Lib.hid ((hal.block _ hgl).trans HQ.out)
            have HO4 := Lib.hid (heap_alloc_new wr (.cells #[.int .i64 kd, .int .i64 a, .int .i64 id] 30))
            have HDo := Lib.hid (do_any pq nq cq P lastP kd a id _ (row_on HRw.out hal) hnr ⟨hbd.1, by omega⟩)
            have HLL := Lib.hid (show lastP ≤ 1000 by omega)
            have HK4 := Lib.hid ((hal.block _ (blk_lt HK.out)).trans HK.out)
            have HKR4 := Lib.hid (row_on HKR.out hal)
            clear hcell hzk hbd hll hnr hal hmm
            go_wp2_with fail
            generalize wr.alloc (.cells #[.int .i64 kd, .int .i64 a, .int .i64 id] 30) = w4 at *
            generalize wr.heap.size = go at *
            obtain ⟨X, hX⟩ : ∃ X, doL P lastP kd a id = X := ⟨_, rfl⟩
            rw [hX] at HDo HDL
            have HXX := Lib.hid hX
            clear hX
            refine HDo.out.mono ?_
            rintro e w5 ⟨p1, n1, k1, p2, n2, k2, rfl, hr1, hr2, hb5⟩
            have HA5 := Lib.hid (HA4.out.on hb5)
            have HQ5 := Lib.hid ((hb5.block _ (blk_lt HQ4.out)).trans HQ4.out)
            have HO5 := Lib.hid ((hb5.block _ (blk_lt HO4.out)).trans HO4.out)
            have HR1 := Lib.hid hr1
            have HR2 := Lib.hid hr2
            have HK5 := Lib.hid ((hb5.block _ (blk_lt HK4.out)).trans HK4.out)
            have HKR5 := Lib.hid (row_on HKR4.out hb5)
            clear hr1 hr2 hb5 HA4 HQ4 HO4 HDo c0 c1 c2 hbl q0 q1 hgl HB HQ HRw HK HKR HK4 HKR4
            obtain ⟨L1, last1, N, is, E, O⟩ := X
            dsimp only at HR1 HR2 HDL ⊢
            have q0 : w5.cell? ⟨gq, 0, none⟩ = some (.slice pq nq cq) := cell_of_row w5 gq 0 _ _ _ HQ5.out
            have q1 : w5.cell? ⟨gq, 1, none⟩ = some (.int .i64 lastP) := cell_of_row w5 gq 1 _ _ _ HQ5.out
            have f0 : w5.frozen? ⟨gq, 0, none⟩ = false := frozen_at HQ5.out
            have f1 : w5.frozen? ⟨gq, 1, none⟩ = false := frozen_at HQ5.out
            have o0 : w5.cell? ⟨go, 0, none⟩ = some (.int .i64 kd) := cell_of_row w5 go 0 _ _ _ HO5.out
            have o1 : w5.cell? ⟨go, 1, none⟩ = some (.int .i64 a) := cell_of_row w5 go 1 _ _ _ HO5.out
            have o2 : w5.cell? ⟨go, 2, none⟩ = some (.int .i64 id) := cell_of_row w5 go 2 _ _ _ HO5.out
            have hgl := blk_lt HQ5.out
            have hol := blk_lt HO5.out
            have hne : gq ≠ go := fun e => by
              have h := HQ5.out
              rw [e, HO5.out] at h
              simp at h
            have hs6 := Both.set_r (a' := .slice p1 n1 k1) (b' := .int .i64 last1) HA5.out HQ5.out HGQ.out
            have hr16 := row_set2 HR1.out HQ5.out (.slice p1 n1 k1) (.int .i64 last1)
            have hr26 := row_set2 HR2.out HQ5.out (.slice p1 n1 k1) (.int .i64 last1)
            have hk6 := far_set2 HK5.out HNE.out (.slice p1 n1 k1) (.int .i64 last1)
            have hkr6 := row_set2 HKR5.out HQ5.out (.slice p1 n1 k1) (.int .i64 last1)
            have hsz6 : (set2 w5 gq (.slice p1 n1 k1) (.int .i64 last1)).heap.size = w5.heap.size := by simp [set2]
            have hal1 : Below (set2 w5 gq (.slice p1 n1 k1) (.int .i64 last1)).heap.size (set2 w5 gq (.slice p1 n1 k1) (.int .i64 last1)) (((set2 w5 gq (.slice p1 n1 k1) (.int .i64 last1)).alloc (.cells #[.slice p1 n1 k1, .int .i64 last1] 28)).alloc (.cells #[.int .i64 N, .bool is, .int .i64 E, .slice p2 n2 k2] 33)) := ((Below.refl _ _).alloc (Nat.le_refl _) _).alloc (by simp) _
            have HA6 := Lib.hid (hs6.1.on hal1)
            have HQ6 := Lib.hid ((hal1.block _ (blk_lt hs6.2)).trans hs6.2)
            have HR1' := Lib.hid (row_on hr16 hal1)
            have HR2' := Lib.hid (row_on hr26 hal1)
            have HK6 := Lib.hid ((hal1.block _ (blk_lt hk6)).trans hk6)
            have HKR6 := Lib.hid (row_on hkr6 hal1)
            have HW6 := Lib.hid (show (((set2 w5 gq (.slice p1 n1 k1) (.int .i64 last1)).alloc (.cells #[.slice p1 n1 k1, .int .i64 last1] 28)).alloc (.cells #[.int .i64 N, .bool is, .int .i64 E, .slice p2 n2 k2] 33)).heap[w5.heap.size + 1]? = some (.cells #[.int .i64 N, .bool is, .int .i64 E, .slice p2 n2 k2] 33 (0, 0)) from by
              have := heap_alloc_new ((set2 w5 gq (.slice p1 n1 k1) (.int .i64 last1)).alloc (.cells #[.slice p1 n1 k1, .int .i64 last1] 28)) (.cells #[.int .i64 N, .bool is, .int .i64 E, .slice p2 n2 k2] 33)
              rw [show ((set2 w5 gq (.slice p1 n1 k1) (.int .i64 last1)).alloc (.cells #[.slice p1 n1 k1, .int .i64 last1] 28)).heap.size = w5.heap.size + 1 by simp [set2]] at this
              exact this)
            have ho6 := far_set2 HO5.out hne.symm (.slice p1 n1 k1) (.int .i64 last1)
            have HO6 := Lib.hid ((hal1.block _ (blk_lt ho6)).trans ho6)
            clear hs6 hr16 hr26 hsz6 hal1 ho6 HA5 HQ5 HR1 HR2 hk6 hkr6 HK5 HKR5
            go_wp2_with fail
            generalize hW6 : ((set2 w5 gq (.slice p1 n1 k1) (.int .i64 last1)).alloc (.cells #[.slice p1 n1 k1, .int .i64 last1] 28)).alloc (.cells #[.int .i64 N, .bool is, .int .i64 E, .slice p2 n2 k2] 33) = w6 at *
            unfold set2 at hW6
            rw [hW6]
            clear hW6 q0 q1 f0 f1 o0 o1 o2 hgl hol hne HO5
            generalize w5.heap.size + 1 = gw at *
            have HDs := Lib.hid (does_b HA6.out HLL.out (kind := kd) (a := a) HID.out)
            rw [HXX.out] at HDs
            refine HDs.out.mono ?_
            rintro e w7 ⟨p3, n3, k3, rfl, hr3, ha7, hk7⟩
            dsimp only at hr3 ha7 ⊢
            have hal7 : Below w7.heap.size w7 (w7.alloc (.cells #[.int .i64 N, .bool is, .int .i64 E, .slice p3 n3 k3] 33)) := (Below.refl _ _).alloc (Nat.le_refl _) _
            have HA8 := Lib.hid (ha7.on hal7)
            have hq7 := hk7 _ _ _ _ (by decide) (by decide) HQ6.out
            have hw7 := hk7 _ _ _ _ (by decide) (by decide) HW6.out
            have hkk := hk7 _ _ _ _ (by decide) (by decide) HK6.out
            have HQ8 := Lib.hid ((hal7.block _ (blk_lt hq7)).trans hq7)
            have HW8 := Lib.hid ((hal7.block _ (blk_lt hw7)).trans hw7)
            have HK8 := Lib.hid ((hal7.block _ (blk_lt hkk)).trans hkk)
            have HR18 := Lib.hid (row_on (row_keeps HR1'.out hk7) hal7)
            have HR28 := Lib.hid (row_on (row_keeps HR2'.out hk7) hal7)
            have HKR8 := Lib.hid (row_on (row_keeps HKR6.out hk7) hal7)
            have HR38 := Lib.hid (row_on hr3 hal7)
            have HX8 := Lib.hid (heap_alloc_new w7 (.cells #[.int .i64 N, .bool is, .int .i64 E, .slice p3 n3 k3] 33))
            clear hal7 ha7 hq7 hw7 hkk hr3 hk7 HDs HA6 HQ6 HW6 HK6 HKR6 HR1' HR2' HO6
            have y0 : (w7.alloc (.cells #[.int .i64 N, .bool is, .int .i64 E, .slice p3 n3 k3] 33)).cell? ⟨gw, 0, none⟩ = some (.int .i64 N) := cell_of_row _ gw 0 _ _ _ HW8.out
            have y1 : (w7.alloc (.cells #[.int .i64 N, .bool is, .int .i64 E, .slice p3 n3 k3] 33)).cell? ⟨gw, 1, none⟩ = some (.bool is) := cell_of_row _ gw 1 _ _ _ HW8.out
            have y2 : (w7.alloc (.cells #[.int .i64 N, .bool is, .int .i64 E, .slice p3 n3 k3] 33)).cell? ⟨gw, 2, none⟩ = some (.int .i64 E) := cell_of_row _ gw 2 _ _ _ HW8.out
            have y3 : (w7.alloc (.cells #[.int .i64 N, .bool is, .int .i64 E, .slice p3 n3 k3] 33)).cell? ⟨gw, 3, none⟩ = some (.slice p2 n2 k2) := cell_of_row _ gw 3 _ _ _ HW8.out
            have x0 : (w7.alloc (.cells #[.int .i64 N, .bool is, .int .i64 E, .slice p3 n3 k3] 33)).cell? ⟨w7.heap.size, 0, none⟩ = some (.int .i64 N) := cell_of_row _ w7.heap.size 0 _ _ _ HX8.out
            have x1 : (w7.alloc (.cells #[.int .i64 N, .bool is, .int .i64 E, .slice p3 n3 k3] 33)).cell? ⟨w7.heap.size, 1, none⟩ = some (.bool is) := cell_of_row _ w7.heap.size 1 _ _ _ HX8.out
            have x2 : (w7.alloc (.cells #[.int .i64 N, .bool is, .int .i64 E, .slice p3 n3 k3] 33)).cell? ⟨w7.heap.size, 2, none⟩ = some (.int .i64 E) := cell_of_row _ w7.heap.size 2 _ _ _ HX8.out
            have x3 : (w7.alloc (.cells #[.int .i64 N, .bool is, .int .i64 E, .slice p3 n3 k3] 33)).cell? ⟨w7.heap.size, 3, none⟩ = some (.slice p3 n3 k3) := cell_of_row _ w7.heap.size 3 _ _ _ HX8.out
            go_wp2_with fail
            generalize w7.alloc (.cells #[.int .i64 N, .bool is, .int .i64 E, .slice p3 n3 k3] 33) = w8 at *
            generalize w7.heap.size = gx at *
            refine (same_rows HR38.out HR28.out (same_refl _)).mono ?_
            rintro e w9 ⟨rfl, hb9⟩
            have HA9 := Lib.hid (HA8.out.on hb9)
            have HQ9 := Lib.hid ((hb9.block _ (blk_lt HQ8.out)).trans HQ8.out)
            have HK9 := Lib.hid ((hb9.block _ (blk_lt HK8.out)).trans HK8.out)
            have HR9 := Lib.hid (row_on HR18.out hb9)
            have HKR9 := Lib.hid (row_on HKR8.out hb9)
            clear hb9 x0 x1 x2 x3 y0 y1 y2 y3 HA8 HQ8 HK8 HR18 HKR8 HR28 HR38 HX8 HW8
            go_wp2_with fail
            go_roundw
            case rel => exact ⟨j + 1, L1, last1, p1, n1, k1, by omega, by go_num, HA9, HQ9, HR9, Lib.hid (by have := HDL.out; have := HL.out; simp only [Int.natCast_add]; omega), HK9, HKR9⟩
            case measure => simp [intOf]; omega
          · have HBR := Lib.hid HB.out.right
            have HBL := Lib.hid HB.out.left
            have HNL := Lib.hid (show nr ≤ 100000 from by have h1 := HB.out.right.bounds; have h2 := HLK.out; have h3 := HKR.out.1; omega)
            have HNP := Lib.hid (show nq ≤ 100000 from by have h1 := HB.out.left.bounds; have h2 := HL.out; have h4 := HM.out; have h3 := HRw.out.1; omega)
            have HCK := Lib.hid (show ∀ w', Below wr.heap.size wr w' → w'.cell? ⟨gr, 0, none⟩ = some (.slice pr nr cr) ∧ w'.cell? ⟨gq, 0, none⟩ = some (.slice pq nq cq) ∧ Below wr.heap.size wr w' from
              fun w' hb => ⟨cell_of_row w' gr 0 _ _ _ ((hb.block gr (blk_lt HK.out)).trans HK.out), cell_of_row w' gq 0 _ _ _ ((hb.block gq (blk_lt HQ.out)).trans HQ.out), hb⟩)
            have HL1 := Lib.hid (show ∀ W, Below wr.heap.size wr W → Calls Try.prog 17 #[.pointer (some ⟨g, 0, none⟩)] W fun e w' => GotT W.heap.size L nr e w' ∧ Below W.heap.size W w' from fun W hW => list_k (HBR.out.on hW) HKR.out.1)
            have HL2 := Lib.hid (show ∀ W, Below wr.heap.size wr W → Calls Try.prog 17 #[.pointer (some ⟨gc, 0, none⟩)] W fun e w' => GotT W.heap.size P nq e w' ∧ Below W.heap.size W w' from fun W hW => list_k (HBL.out.on hW) HRw.out.1)
            have HS1 := Lib.hid (show ∀ W q' d', Below wr.heap.size wr W → RowIn W q' nr d' L → Calls Try.prog 15 #[.slice q' nr d', .slice pr nr cr] W fun e w' => e = .returned (.bool true) ∧ Below W.heap.size W w' from fun W q' d' hW hr => same_rows hr (row_on HKR.out hW) (same_refl _))
            have HS2 := Lib.hid (show ∀ W q' d', Below wr.heap.size wr W → RowIn W q' nq d' P → Calls Try.prog 15 #[.slice q' nq d', .slice pq nq cq] W fun e w' => e = .returned (.bool true) ∧ Below W.heap.size W w' from fun W q' d' hW hr => same_rows hr (row_on HRw.out hW) (same_refl _))
            have HC1 := Lib.hid (show ∀ W, Below wr.heap.size wr W → Calls Try.prog 19 #[.pointer (some ⟨g, 0, none⟩)] W fun e w' => e = .returned (.bool true) ∧ Below W.heap.size W w' from fun W hW => check_at (HBR.out.on hW))
            have HC2 := Lib.hid (show ∀ W, Below wr.heap.size wr W → Calls Try.prog 19 #[.pointer (some ⟨gc, 0, none⟩)] W fun e w' => e = .returned (.bool true) ∧ Below W.heap.size W w' from fun W hW => check_at (HBL.out.on hW))
            have HBB := Lib.hid HB.out.left.below
            clear HB HQ HRw HL HK HKR HBR HBL
            go_wp2_with fail
            go_region_held (fun w' => w'.cell? ⟨gr, 0, none⟩ = some (.slice pr nr cr) ∧ w'.cell? ⟨gq, 0, none⟩ = some (.slice pq nq cq) ∧ Below wr.heap.size wr w')
              ((refine HCK.out _ ?_
                go_split_ands
                first
                  | with_reducible exact (Below.refl _ _).drew
                  | with_reducible assumption))
              (first
                | (go_at_call 11; go_split_ands; (with_reducible refine Calls.mono (alive_any _) ?_); rintro e w' ⟨rfl, hb⟩; (have hb' := seqB (by assumption) hb); clear hb)
                | (go_at_call 17; go_split_ands; (with_reducible refine Calls.mono (HL1.out _ (by assumption)) ?_); rintro e w' ⟨⟨q, d, rfl, ho⟩, hb⟩; (have HOL := Lib.hid ho); (have hb' := seqB (by assumption) hb); clear hb ho)
                | (go_at_call 17; go_split_ands; (with_reducible refine Calls.mono (HL2.out _ (by assumption)) ?_); rintro e w' ⟨⟨q, d, rfl, ho⟩, hb⟩; (have HOM := Lib.hid ho); (have hb' := seqB (by assumption) hb); clear hb ho)
                | (go_at_call 16; go_split_ands; (with_reducible refine Calls.mono (rows_got HOL.out HNL.out) ?_); rintro e w' ⟨q', d', rfl, hr, hb⟩; (have HRL := Lib.hid hr); (have hb' := seqB (by assumption) hb); clear hb hr HOL)
                | (go_at_call 16; go_split_ands; (with_reducible refine Calls.mono (rows_got HOM.out HNP.out) ?_); rintro e w' ⟨q', d', rfl, hr, hb⟩; (have HRM := Lib.hid hr); (have hb' := seqB (by assumption) hb); clear hb hr HOM)
                | (go_at_call 15; go_split_ands; (with_reducible refine Calls.mono (HS1.out _ _ _ (by assumption) HRL.out) ?_); rintro e w' ⟨rfl, hb⟩; (have hb' := seqB (by assumption) hb); clear hb HRL)
                | (go_at_call 15; go_split_ands; (with_reducible refine Calls.mono (HS2.out _ _ _ (by assumption) HRM.out) ?_); rintro e w' ⟨rfl, hb⟩; (have hb' := seqB (by assumption) hb); clear hb HRM)
                | (go_at_call 19; go_split_ands; (with_reducible refine Calls.mono (HC1.out _ (by assumption)) ?_); rintro e w' ⟨rfl, hb⟩; (have hb' := seqB (by assumption) hb); clear hb)
                | (go_at_call 19; go_split_ands; (with_reducible refine Calls.mono (HC2.out _ (by assumption)) ?_); rintro e w' ⟨rfl, hb⟩; (have hb' := seqB (by assumption) hb); clear hb))
            go_split_ands
            go_wp2_with fail
            go_ret
            exact ⟨rfl, seqB HBB.out (by assumption)⟩
end Go.Proofs.Ytpohfcjmjfhdoaa.alarmCopies
