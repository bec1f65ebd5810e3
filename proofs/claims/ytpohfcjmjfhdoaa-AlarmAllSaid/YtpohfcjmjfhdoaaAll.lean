/-
  The walk of chicanelaw06.AlarmAll: it returns true, whatever calls. Conditions: as each states.
-/
import Derived.Test.YtpohfcjmjfhdoaaW19
import Derived.Deep.RegionHeld3
namespace Go.Proofs.Ytpohfcjmjfhdoaa.alarmAll
open Go.RowKit Go.Sort Go.Maps

theorem At.set_r {w0 w : World} {B g : Nat} {L : List Due} {last : Int} {gr : Nat} {a b a' b' : Value} (h : At w0 B g L last w) (hq : w.heap[gr]? = some (.cells #[a, b] 28 (0, 0))) (hw : w0.heap.size ≤ gr) :
    At w0 B g L last (set2 w gr a' b') ∧ (set2 w gr a' b').heap[gr]? = some (.cells #[a', b'] 28 (0, 0)) := by
  obtain ⟨u, m, hA, h1, h2⟩ := h
  refine ⟨⟨u, m, (hA.set (by decide) (by decide) hq 0 a').set (by decide) (by decide) (set_heap (i := 0) hq a') 1 b', set2_below h1 hw a' b', h2⟩, set2_heap hq a' b'⟩
theorem row_set2 {w : World} {p : Option Addr} {n c : Nat} {ds : List Due} (h : RowIn w p n c ds) {gr : Nat} {a b : Value} (hq : w.heap[gr]? = some (.cells #[a, b] 28 (0, 0))) (a' b' : Value) : RowIn (set2 w gr a' b') p n c ds :=
  row_set (row_set h (by decide) hq 0 a') (by decide) (set_heap (i := 0) hq a') 1 b'
set_option maxRecDepth 100000 in
set_option maxHeartbeats 16000000 in
theorem walk (p : Option Addr) (m d : Nat) (os : List Call) (w : World) (hx : os.length = m) (_hmd : m ≤ d) (_hd : d ≤ 9223372036854775807) (hz : ∀ o ∈ os, Wf64 o.1 ∧ Wf64 o.2.1 ∧ Wf64 o.2.2) (hj : OpsIn w p m os) :
    Calls Try.prog 3 #[.slice p m d] w fun e w' => e = .returned (.bool true) ∧ Below w.heap.size w w' := by
  have HX := Lib.hid hx
  have HJ := Lib.hid hj
  have HZ := Lib.hid hz
  clear hx hz hj
  go_enter Try.func3, Try.ntmps3
  go_wp2_with fail
  refine (new_at w _ (Below.refl _ _)).mono ?_
  rintro e w1 ⟨rfl, ha⟩
  have HA1 := Lib.hid ha
  clear ha
  generalize w.heap.size + 1 = g at *
  obtain ⟨B, hB⟩ : ∃ B, w.heap.size = B := ⟨_, rfl⟩
  rw [hB] at HA1
  clear hB
  by_cases hm : 200 < m
  · go_wp2_with fail
    refine (alive_any _).mono ?_
    rintro e w5 ⟨rfl, hb5⟩
    have HB5 := Lib.hid (HA1.out.on hb5).below
    clear hb5
    go_wp2_with fail
    go_ret
    exact ⟨rfl, HB5.out⟩
  · go_wp2_with fail
    have hB0 := HA1.out.below
    have hal : Below w1.heap.size w1 (w1.alloc (.cells #[.slice none 0 0, .int .i64 0] 28)) := (Below.refl _ _).alloc (Nat.le_refl _) _
    have HA2 := Lib.hid (HA1.out.on hal)
    have HQ2 := Lib.hid (heap_alloc_new w1 (.cells #[.slice none 0 0, .int .i64 0] 28))
    have HGR := Lib.hid hB0.size
    clear hal hB0 HA1
    generalize w1.alloc (.cells #[.slice none 0 0, .int .i64 0] 28) = w2 at *
    generalize w1.heap.size = gr at *
    go_loopw [27] (fun i wr => ∃ (k : Nat) (L : List Due) (last : Int) (p : Option Addr) (n c : Nat), k ≤ m ∧ i = .int .i64 k ∧ Hid (At w B g L last wr) ∧ Hid (wr.heap[gr]? = some (.cells #[.slice p n c, .int .i64 last] 28 (0, 0))) ∧ Hid (RowIn wr p n c L) ∧ Hid (last ≤ k)) (fun i _ => m - (intOf i).toNat)
    case atStart => exact ⟨0, [], 0, none, 0, 0, by omega, rfl, HA2, HQ2, Lib.hid (row_nil _ _), Lib.hid (by omega)⟩
    case round =>
      clear HA2 HQ2
      obtain ⟨k, L, last, pr, nr, cr, hk, rfl, HA, HQ, HRw, HL⟩ := hrel
      by_cases hlt : k < m
      · obtain ⟨b, o, rfl, hcell⟩ := ops_on HJ.out HA.out.below (by omega)
        obtain ⟨c0, c1, c2⟩ := hcell k hlt
        have hzk := HZ.out _ (at_of os k (by rw [HX.out]; exact hlt))
        generalize os.getD k noCall = O at *
        obtain ⟨kd, a, id⟩ := O
        simp only at c0 c1 c2
        rw [← Nat.add_assoc] at c1 c2
        have HID := Lib.hid hzk.2.2
        have hbl := World.block_lt_of_cell? wr _ c0
        have hbd := HA.out.bounds
        have hll := HL.out
        have hnr : nr ≤ 4000 := by have := HRw.out.1; omega
        have HDL := Lib.hid (do_last L last kd a id)
        have q0 : wr.cell? ⟨gr, 0, none⟩ = some (.slice pr nr cr) := cell_of_row wr gr 0 _ _ _ HQ.out
        have q1 : wr.cell? ⟨gr, 1, none⟩ = some (.int .i64 last) := cell_of_row wr gr 1 _ _ _ HQ.out
        have hgl := blk_lt HQ.out
        have hal : Below wr.heap.size wr (wr.alloc (.cells #[.int .i64 kd, .int .i64 a, .int .i64 id] 30)) := (Below.refl _ _).alloc (Nat.le_refl _) _
        have HA4 := Lib.hid (HA.out.on hal)
        have HQ4 := Lib.hid ((hal.block _ hgl).trans HQ.out)
        have HO4 := Lib.hid (heap_alloc_new wr (.cells #[.int .i64 kd, .int .i64 a, .int .i64 id] 30))
        have HDo := Lib.hid (do_any pr nr cr L last kd a id _ (row_on HRw.out hal) hnr ⟨hbd.1, by omega⟩)
        have HLL := Lib.hid (show last ≤ 1000 by omega)
        clear hcell hzk hbd hll hnr hal
        go_wp2_with fail
        generalize wr.alloc (.cells #[.int .i64 kd, .int .i64 a, .int .i64 id] 30) = w4 at *
        generalize wr.heap.size = go at *
        obtain ⟨X, hX⟩ : ∃ X, doL L last kd a id = X := ⟨_, rfl⟩
        rw [hX] at HDo HDL
        have HXX := Lib.hid hX
        clear hX
        refine HDo.out.mono ?_
        rintro e w5 ⟨p1, n1, k1, p2, n2, k2, rfl, hr1, hr2, hb5⟩
        have HA5 := Lib.hid (HA4.out.on hb5)
        have HQ5 := Lib.hid ((hb5.block _ (blk_lt HQ4.out)).trans HQ4.out)
        have HO5 := Lib.hid ((hb5.block _ (blk_lt HO4.out)).trans HO4.out)
        have HR1 := Lib.hid hr1
        have HR2 := Lib.hid hr2
        clear hr1 hr2 hb5 HA4 HQ4 HO4 HDo c0 c1 c2 hbl q0 q1 hgl HA HQ HRw
        obtain ⟨L1, last1, N, is, E, O⟩ := X
        dsimp only at HR1 HR2 HDL ⊢
        have q0 : w5.cell? ⟨gr, 0, none⟩ = some (.slice pr nr cr) := cell_of_row w5 gr 0 _ _ _ HQ5.out
        have q1 : w5.cell? ⟨gr, 1, none⟩ = some (.int .i64 last) := cell_of_row w5 gr 1 _ _ _ HQ5.out
        have f0 : w5.frozen? ⟨gr, 0, none⟩ = false := frozen_at HQ5.out
        have f1 : w5.frozen? ⟨gr, 1, none⟩ = false := frozen_at HQ5.out
        have o0 : w5.cell? ⟨go, 0, none⟩ = some (.int .i64 kd) := cell_of_row w5 go 0 _ _ _ HO5.out
        have o1 : w5.cell? ⟨go, 1, none⟩ = some (.int .i64 a) := cell_of_row w5 go 1 _ _ _ HO5.out
        have o2 : w5.cell? ⟨go, 2, none⟩ = some (.int .i64 id) := cell_of_row w5 go 2 _ _ _ HO5.out
        have hgl := blk_lt HQ5.out
        have hol := blk_lt HO5.out
        have hne : gr ≠ go := fun e => by
          have h := HQ5.out
          rw [e, HO5.out] at h
          simp at h
        have hs6 := At.set_r (a' := .slice p1 n1 k1) (b' := .int .i64 last1) HA5.out HQ5.out HGR.out
        have hr16 := row_set2 HR1.out HQ5.out (.slice p1 n1 k1) (.int .i64 last1)
        have hr26 := row_set2 HR2.out HQ5.out (.slice p1 n1 k1) (.int .i64 last1)
        have hsz6 : (set2 w5 gr (.slice p1 n1 k1) (.int .i64 last1)).heap.size = w5.heap.size := by simp [set2]
        have hal1 : Below (set2 w5 gr (.slice p1 n1 k1) (.int .i64 last1)).heap.size (set2 w5 gr (.slice p1 n1 k1) (.int .i64 last1)) (((set2 w5 gr (.slice p1 n1 k1) (.int .i64 last1)).alloc (.cells #[.slice p1 n1 k1, .int .i64 last1] 28)).alloc (.cells #[.int .i64 N, .bool is, .int .i64 E, .slice p2 n2 k2] 33)) := ((Below.refl _ _).alloc (Nat.le_refl _) _).alloc (by simp) _
        have HA6 := Lib.hid (hs6.1.on hal1)
        have HQ6 := Lib.hid ((hal1.block _ (blk_lt hs6.2)).trans hs6.2)
        have HR1' := Lib.hid (row_on hr16 hal1)
        have HR2' := Lib.hid (row_on hr26 hal1)
        have HW6 := Lib.hid (show (((set2 w5 gr (.slice p1 n1 k1) (.int .i64 last1)).alloc (.cells #[.slice p1 n1 k1, .int .i64 last1] 28)).alloc (.cells #[.int .i64 N, .bool is, .int .i64 E, .slice p2 n2 k2] 33)).heap[w5.heap.size + 1]? = some (.cells #[.int .i64 N, .bool is, .int .i64 E, .slice p2 n2 k2] 33 (0, 0)) from by
          have := heap_alloc_new ((set2 w5 gr (.slice p1 n1 k1) (.int .i64 last1)).alloc (.cells #[.slice p1 n1 k1, .int .i64 last1] 28)) (.cells #[.int .i64 N, .bool is, .int .i64 E, .slice p2 n2 k2] 33)
          rw [show ((set2 w5 gr (.slice p1 n1 k1) (.int .i64 last1)).alloc (.cells #[.slice p1 n1 k1, .int .i64 last1] 28)).heap.size = w5.heap.size + 1 by simp [set2]] at this
          exact this)
        clear hs6 hr16 hr26 hsz6 hal1 HA5 HQ5 HR1 HR2
        go_wp2_with fail
        generalize hW6 : ((set2 w5 gr (.slice p1 n1 k1) (.int .i64 last1)).alloc (.cells #[.slice p1 n1 k1, .int .i64 last1] 28)).alloc (.cells #[.int .i64 N, .bool is, .int .i64 E, .slice p2 n2 k2] 33) = w6 at *
        unfold set2 at hW6
        rw [hW6]
        clear hW6 q0 q1 f0 f1 o0 o1 o2 hgl hol hne HO5
        generalize w5.heap.size + 1 = gw at *
        have HDs := Lib.hid (does_k HA6.out HLL.out (kind := kd) (a := a) HID.out)
        rw [HXX.out] at HDs
        refine HDs.out.mono ?_
        rintro e w7 ⟨p3, n3, k3, rfl, hr3, ha7, hk7⟩
        dsimp only at hr3 ha7 ⊢
        have hal7 : Below w7.heap.size w7 (w7.alloc (.cells #[.int .i64 N, .bool is, .int .i64 E, .slice p3 n3 k3] 33)) := (Below.refl _ _).alloc (Nat.le_refl _) _
        have HA8 := Lib.hid (ha7.on hal7)
        have hq7 := hk7 _ _ _ _ (by decide) (by decide) HQ6.out
        have hw7 := hk7 _ _ _ _ (by decide) (by decide) HW6.out
        have HQ8 := Lib.hid ((hal7.block _ (blk_lt hq7)).trans hq7)
        have HW8 := Lib.hid ((hal7.block _ (blk_lt hw7)).trans hw7)
        have HR1' := Lib.hid (row_on (row_keeps HR1'.out hk7) hal7)
        have HR2' := Lib.hid (row_on (row_keeps HR2'.out hk7) hal7)
        have HR3' := Lib.hid (row_on hr3 hal7)
        have HX8 := Lib.hid (heap_alloc_new w7 (.cells #[.int .i64 N, .bool is, .int .i64 E, .slice p3 n3 k3] 33))
        clear hal7 ha7 hq7 hw7 hr3 hk7 HDs HA6 HQ6 HW6
        go_wp2_with fail
        generalize w7.alloc (.cells #[.int .i64 N, .bool is, .int .i64 E, .slice p3 n3 k3] 33) = w8 at *
        generalize w7.heap.size = gx at *
        obtain ⟨u8, m8, hA8, hB8, hC8⟩ := HA8.out
        refine (next_al hA8).mono ?_
        rintro e w9 ⟨rfl, hb9⟩
        clear hA8 hB8 hC8
        obtain ⟨y, hy⟩ : ∃ y, headD L1 = y := ⟨_, rfl⟩
        rw [hy]
        have HY := Lib.hid hy
        clear hy
        obtain ⟨y0, y1⟩ := y
        dsimp only
        obtain ⟨fl, hfl⟩ : ∃ fl, decide (0 < L1.length) = fl := ⟨_, rfl⟩
        rw [hfl]
        have HFl := Lib.hid hfl
        clear hfl
        have hal9 : Below w8.heap.size w8 (w9.alloc (.cells #[.int .i64 y0, .int .i64 y1] 38)) := hb9.alloc hb9.size _
        have HA9 := Lib.hid (HA8.out.on hal9)
        have HQ9 := Lib.hid ((hal9.block _ (blk_lt HQ8.out)).trans HQ8.out)
        have HW9 := Lib.hid ((hal9.block _ (blk_lt HW8.out)).trans HW8.out)
        have HX9 := Lib.hid ((hal9.block _ (blk_lt HX8.out)).trans HX8.out)
        have HR1' := Lib.hid (row_on HR1'.out hal9)
        have HR2' := Lib.hid (row_on HR2'.out hal9)
        have HR3' := Lib.hid (row_on HR3'.out hal9)
        have HD9 := Lib.hid (heap_alloc_new w9 (.cells #[.int .i64 y0, .int .i64 y1] 38))
        clear hal9 hb9 HA8 HQ8 HW8 HX8
        go_wp2_with fail
        generalize w9.alloc (.cells #[.int .i64 y0, .int .i64 y1] 38) = w10 at *
        generalize w9.heap.size = gd at *
        by_cases hn1 : 0 < n1
        · obtain ⟨b1, s1, e1, hc1⟩ := HR1'.out.2.2.2.1 hn1
          have hc10 := hc1 0 hn1
          have hLp : 0 < L1.length := by rw [HR1'.out.1]; exact hn1
          have hy2 : L1.getD 0 (0, 0) = (y0, y1) := by
            rw [← HY.out]
            cases L1 with
            | nil => simp at hLp
            | cons x r => rfl
          rw [hy2] at hc10
          have hfl : fl = true := by rw [← HFl.out]; simpa using hLp
          have HC10 := Lib.hid hc10
          have HFT := Lib.hid hfl
          clear hc1 hc10 hLp hy2 hfl
          subst e1
          have HC := Lib.hid (show ∀ W, Below w10.heap.size w10 W → (W.cell? ⟨gx, 0, none⟩ = some (.int .i64 N) ∧ W.cell? ⟨gx, 1, none⟩ = some (.bool is) ∧ W.cell? ⟨gx, 2, none⟩ = some (.int .i64 E) ∧ W.cell? ⟨gx, 3, none⟩ = some (.slice p3 n3 k3) ∧ W.cell? ⟨gw, 0, none⟩ = some (.int .i64 N) ∧ W.cell? ⟨gw, 1, none⟩ = some (.bool is) ∧ W.cell? ⟨gw, 2, none⟩ = some (.int .i64 E) ∧ W.cell? ⟨gw, 3, none⟩ = some (.slice p2 n2 k2) ∧ W.cell? ⟨gr, 0, none⟩ = some (.slice (some ⟨b1, s1, none⟩) n1 k1) ∧ W.cell? ⟨gd, 0, none⟩ = some (.int .i64 y0) ∧ W.cell? ⟨gd, 1, none⟩ = some (.int .i64 y1) ∧ W.cell? ⟨b1, s1, none⟩ = some (.int .i64 y0) ∧ W.cell? ⟨b1, s1 + 1, none⟩ = some (.int .i64 y1)) ∧ Below w10.heap.size w10 W from fun W hW => by
            have a1 := (hW.block _ (blk_lt HX9.out)).trans HX9.out
            have a2 := (hW.block _ (blk_lt HW9.out)).trans HW9.out
            have a3 := (hW.block _ (blk_lt HQ9.out)).trans HQ9.out
            have a4 := (hW.block _ (blk_lt HD9.out)).trans HD9.out
            have d0 := (hW.cell (World.block_lt_of_cell? w10 _ HC10.out.1)).trans HC10.out.1
            have d1 := (hW.cell (World.block_lt_of_cell? w10 _ HC10.out.2)).trans HC10.out.2
            exact ⟨⟨cell_of_row _ _ 0 _ _ _ a1, cell_of_row _ _ 1 _ _ _ a1, cell_of_row _ _ 2 _ _ _ a1, cell_of_row _ _ 3 _ _ _ a1, cell_of_row _ _ 0 _ _ _ a2, cell_of_row _ _ 1 _ _ _ a2, cell_of_row _ _ 2 _ _ _ a2, cell_of_row _ _ 3 _ _ _ a2, cell_of_row _ _ 0 _ _ _ a3, cell_of_row _ _ 0 _ _ _ a4, cell_of_row _ _ 1 _ _ _ a4, d0, d1⟩, hW⟩)
          have HS1 := Lib.hid (show ∀ W, Below w10.heap.size w10 W → Calls Try.prog 15 #[.slice p3 n3 k3, .slice p2 n2 k2] W fun e w' => e = .returned (.bool true) ∧ Below W.heap.size W w' from fun W hW => same_rows (row_on HR3'.out hW) (row_on HR2'.out hW) (same_refl _))
          have HS2 := Lib.hid (show ∀ W q' d', Below w10.heap.size w10 W → RowIn W q' n1 d' L1 → Calls Try.prog 15 #[.slice q' n1 d', .slice (some ⟨b1, s1, none⟩) n1 k1] W fun e w' => e = .returned (.bool true) ∧ Below W.heap.size W w' from fun W q' d' hW hr => same_rows hr (row_on HR1'.out hW) (same_refl _))
          have HLs := Lib.hid (show ∀ W, Below w10.heap.size w10 W → Calls Try.prog 17 #[.pointer (some ⟨g, 0, none⟩)] W fun e w' => GotT W.heap.size L1 n1 e w' ∧ Below W.heap.size W w' from fun W hW => list_k (HA9.out.on hW) HR1'.out.1)
          have HLn := Lib.hid (show ∀ W, Below w10.heap.size w10 W → Calls Try.prog 18 #[.pointer (some ⟨g, 0, none⟩)] W fun e w' => e = .returned (.int .i64 (n1 : Int)) ∧ W = w' from fun W hW => len_at (HA9.out.on hW) HR1'.out.1)
          have HCk := Lib.hid (show ∀ W, Below w10.heap.size w10 W → Calls Try.prog 19 #[.pointer (some ⟨g, 0, none⟩)] W fun e w' => e = .returned (.bool true) ∧ Below W.heap.size W w' from fun W hW => check_at (HA9.out.on hW))
          have HNB := Lib.hid (show n1 ≤ 100000 from by have h1 := HA9.out.bounds; have h2 := HDL.out; have h3 := HLL.out; have h4 := HR1'.out.1; omega)
          rw [HFT.out]
          have dn1 : decide ((0 : Int) < (n1 : Int)) = true := by simp; omega
          clear HFl HFT HY HX9 HW9 HD9 HC10
          simp only [List.append]
          refine wp_region_held_drew (S := fun w' => (w'.cell? ⟨gx, 0, none⟩ = some (.int .i64 N) ∧ w'.cell? ⟨gx, 1, none⟩ = some (.bool is) ∧ w'.cell? ⟨gx, 2, none⟩ = some (.int .i64 E) ∧ w'.cell? ⟨gx, 3, none⟩ = some (.slice p3 n3 k3) ∧ w'.cell? ⟨gw, 0, none⟩ = some (.int .i64 N) ∧ w'.cell? ⟨gw, 1, none⟩ = some (.bool is) ∧ w'.cell? ⟨gw, 2, none⟩ = some (.int .i64 E) ∧ w'.cell? ⟨gw, 3, none⟩ = some (.slice p2 n2 k2) ∧ w'.cell? ⟨gr, 0, none⟩ = some (.slice (some ⟨b1, s1, none⟩) n1 k1) ∧ w'.cell? ⟨gd, 0, none⟩ = some (.int .i64 y0) ∧ w'.cell? ⟨gd, 1, none⟩ = some (.int .i64 y1) ∧ w'.cell? ⟨b1, s1, none⟩ = some (.int .i64 y0) ∧ w'.cell? ⟨b1, s1 + 1, none⟩ = some (.int .i64 y1)) ∧ Below w10.heap.size w10 w') (by kernel_rfl) (HC.out _ (Below.refl _ _).drew) (fun hHeld => ?_)
          refine wpAnyH_take (i := 0) (oi := { dst := some 46, op := Op.fieldAddr 33 (Operand.tmp 9) 0, type := 0, pos := _, after := #[], guard := none }) (v := ?v0) rfl (by kernel_rfl) (by kernel_rfl) (by kernel_rfl) (fun _ _ _ h => h) (Or.inl ⟨by rfl, ?hy0⟩) hHeld ?rest0
          case hy0 =>
            intro w hSw
            clear hSw
            (go_simp <;> with_reducible rfl)
          simp only [Act.put, List.setIfInBounds_toArray, List.set_cons_zero, List.set_cons_succ]
          refine wpAnyH_take (i := 1) (oi := { dst := some 47, op := Op.load 3 (Operand.tmp 46), type := 3, pos := _, after := #[{ on := 0, ground := Ground.data }], guard := none }) (v := ?v1) rfl (by kernel_rfl) (by kernel_rfl) (by kernel_rfl) (fun _ _ _ h => h) (Or.inl ⟨by rfl, ?hy1⟩) hHeld ?rest1
          case hy1 =>
            intro w hSw
            obtain ⟨⟨c0, c1, c2, c3, c4, c5, c6, c7, c8, c9, c10, c11, c12⟩, _⟩ := hSw
            (go_simp <;> with_reducible rfl)
          simp only [Act.put, List.setIfInBounds_toArray, List.set_cons_zero, List.set_cons_succ]
          refine wpAnyH_take (i := 2) (oi := { dst := some 48, op := Op.fieldAddr 33 (Operand.tmp 8) 0, type := 0, pos := _, after := #[], guard := none }) (v := ?v2) rfl (by kernel_rfl) (by kernel_rfl) (by kernel_rfl) (fun _ _ _ h => h) (Or.inl ⟨by rfl, ?hy2⟩) hHeld ?rest2
          case hy2 =>
            intro w hSw
            clear hSw
            (go_simp <;> with_reducible rfl)
          simp only [Act.put, List.setIfInBounds_toArray, List.set_cons_zero, List.set_cons_succ]
          refine wpAnyH_take (i := 3) (oi := { dst := some 49, op := Op.load 3 (Operand.tmp 48), type := 3, pos := _, after := #[{ on := 2, ground := Ground.data }], guard := none }) (v := ?v3) rfl (by kernel_rfl) (by kernel_rfl) (by kernel_rfl) (fun _ _ _ h => h) (Or.inl ⟨by rfl, ?hy3⟩) hHeld ?rest3
          case hy3 =>
            intro w hSw
            obtain ⟨⟨c0, c1, c2, c3, c4, c5, c6, c7, c8, c9, c10, c11, c12⟩, _⟩ := hSw
            (go_simp <;> with_reducible rfl)
          simp only [Act.put, List.setIfInBounds_toArray, List.set_cons_zero, List.set_cons_succ]
          refine wpAnyH_take (i := 4) (oi := { dst := some 50, op := Op.binOp BinOp.neq 3 (Operand.tmp 47) (Operand.tmp 49) 3, type := 4, pos := _, after := #[{ on := 1, ground := Ground.data }, { on := 3, ground := Ground.data }], guard := none }) (v := ?v4) rfl (by kernel_rfl) (by kernel_rfl) (by kernel_rfl) (fun _ _ _ h => h) (Or.inl ⟨by rfl, ?hy4⟩) hHeld ?rest4
          case hy4 =>
            intro w hSw
            clear hSw
            (go_simp <;> with_reducible rfl)
          simp only [Act.put, List.setIfInBounds_toArray, List.set_cons_zero, List.set_cons_succ]
          refine wpAnyH_take (i := 5) (oi := { dst := some 51, op := Op.move (Operand.tmp 50), type := 4, pos := _, after := #[{ on := 4, ground := Ground.data }], guard := none }) (v := ?v5) rfl (by kernel_rfl) (by kernel_rfl) (by kernel_rfl) (fun _ _ _ h => h) (Or.inl ⟨by rfl, ?hy5⟩) hHeld ?rest5
          case hy5 =>
            intro w hSw
            clear hSw
            (go_simp <;> with_reducible rfl)
          simp only [Act.put, List.setIfInBounds_toArray, List.set_cons_zero, List.set_cons_succ]
          refine wpAnyH_take (i := 6) (oi := { dst := some 52, op := Op.fieldAddr 33 (Operand.tmp 9) 1, type := 0, pos := _, after := #[{ on := 5, ground := Ground.guard }], guard := some (5, false) }) (v := ?v6) rfl (by kernel_rfl) (by kernel_rfl) (by kernel_rfl) (fun _ _ _ h => h) (Or.inl ⟨by rfl, ?hy6⟩) hHeld ?rest6
          case hy6 =>
            intro w hSw
            clear hSw
            (go_simp <;> with_reducible rfl)
          simp only [Act.put, List.setIfInBounds_toArray, List.set_cons_zero, List.set_cons_succ]
          refine wpAnyH_take (i := 7) (oi := { dst := some 53, op := Op.load 4 (Operand.tmp 52), type := 4, pos := _, after := #[{ on := 6, ground := Ground.data }, { on := 5, ground := Ground.guard }], guard := some (5, false) }) (v := ?v7) rfl (by kernel_rfl) (by kernel_rfl) (by kernel_rfl) (fun _ _ _ h => h) (Or.inl ⟨by rfl, ?hy7⟩) hHeld ?rest7
          case hy7 =>
            intro w hSw
            obtain ⟨⟨c0, c1, c2, c3, c4, c5, c6, c7, c8, c9, c10, c11, c12⟩, _⟩ := hSw
            (go_simp <;> with_reducible rfl)
          simp only [Act.put, List.setIfInBounds_toArray, List.set_cons_zero, List.set_cons_succ]
          refine wpAnyH_take (i := 8) (oi := { dst := some 54, op := Op.fieldAddr 33 (Operand.tmp 8) 1, type := 0, pos := _, after := #[{ on := 5, ground := Ground.guard }], guard := some (5, false) }) (v := ?v8) rfl (by kernel_rfl) (by kernel_rfl) (by kernel_rfl) (fun _ _ _ h => h) (Or.inl ⟨by rfl, ?hy8⟩) hHeld ?rest8
          case hy8 =>
            intro w hSw
            clear hSw
            (go_simp <;> with_reducible rfl)
          simp only [Act.put, List.setIfInBounds_toArray, List.set_cons_zero, List.set_cons_succ]
          refine wpAnyH_take (i := 9) (oi := { dst := some 55, op := Op.load 4 (Operand.tmp 54), type := 4, pos := _, after := #[{ on := 8, ground := Ground.data }, { on := 5, ground := Ground.guard }], guard := some (5, false) }) (v := ?v9) rfl (by kernel_rfl) (by kernel_rfl) (by kernel_rfl) (fun _ _ _ h => h) (Or.inl ⟨by rfl, ?hy9⟩) hHeld ?rest9
          case hy9 =>
            intro w hSw
            obtain ⟨⟨c0, c1, c2, c3, c4, c5, c6, c7, c8, c9, c10, c11, c12⟩, _⟩ := hSw
            (go_simp <;> with_reducible rfl)
          simp only [Act.put, List.setIfInBounds_toArray, List.set_cons_zero, List.set_cons_succ]
          refine wpAnyH_take (i := 10) (oi := { dst := some 56, op := Op.binOp BinOp.neq 4 (Operand.tmp 53) (Operand.tmp 55) 4, type := 4, pos := _, after := #[{ on := 7, ground := Ground.data }, { on := 9, ground := Ground.data }, { on := 5, ground := Ground.guard }], guard := some (5, false) }) (v := ?v10) rfl (by kernel_rfl) (by kernel_rfl) (by kernel_rfl) (fun _ _ _ h => h) (Or.inl ⟨by rfl, ?hy10⟩) hHeld ?rest10
          case hy10 =>
            intro w hSw
            clear hSw
            (go_simp <;> with_reducible rfl)
          simp only [Act.put, List.setIfInBounds_toArray, List.set_cons_zero, List.set_cons_succ]
          refine wpAnyH_take (i := 11) (oi := { dst := some 57, op := Op.pick (Operand.tmp 51) (Operand.const (Value.bool true)) (Operand.tmp 56), type := 4, pos := _, after := #[{ on := 5, ground := Ground.data }, { on := 10, ground := Ground.data }], guard := none }) (v := ?v11) rfl (by kernel_rfl) (by kernel_rfl) (by kernel_rfl) (fun _ _ _ h => h) (Or.inl ⟨by rfl, ?hy11⟩) hHeld ?rest11
          case hy11 =>
            intro w hSw
            clear hSw
            (go_simp <;> with_reducible rfl)
          simp only [Act.put, List.setIfInBounds_toArray, List.set_cons_zero, List.set_cons_succ]
          refine wpAnyH_take (i := 12) (oi := { dst := some 58, op := Op.move (Operand.tmp 57), type := 4, pos := _, after := #[{ on := 11, ground := Ground.data }, { on := 5, ground := Ground.chain }], guard := none }) (v := ?v12) rfl (by kernel_rfl) (by kernel_rfl) (by kernel_rfl) (fun _ _ _ h => h) (Or.inl ⟨by rfl, ?hy12⟩) hHeld ?rest12
          case hy12 =>
            intro w hSw
            clear hSw
            (go_simp <;> with_reducible rfl)
          simp only [Act.put, List.setIfInBounds_toArray, List.set_cons_zero, List.set_cons_succ]
          refine wpAnyH_take (i := 13) (oi := { dst := some 59, op := Op.fieldAddr 33 (Operand.tmp 9) 2, type := 0, pos := _, after := #[{ on := 12, ground := Ground.guard }], guard := some (12, false) }) (v := ?v13) rfl (by kernel_rfl) (by kernel_rfl) (by kernel_rfl) (fun _ _ _ h => h) (Or.inl ⟨by rfl, ?hy13⟩) hHeld ?rest13
          case hy13 =>
            intro w hSw
            clear hSw
            (go_simp <;> with_reducible rfl)
          simp only [Act.put, List.setIfInBounds_toArray, List.set_cons_zero, List.set_cons_succ]
          refine wpAnyH_take (i := 14) (oi := { dst := some 60, op := Op.load 31 (Operand.tmp 59), type := 31, pos := _, after := #[{ on := 13, ground := Ground.data }, { on := 12, ground := Ground.guard }], guard := some (12, false) }) (v := ?v14) rfl (by kernel_rfl) (by kernel_rfl) (by kernel_rfl) (fun _ _ _ h => h) (Or.inl ⟨by rfl, ?hy14⟩) hHeld ?rest14
          case hy14 =>
            intro w hSw
            obtain ⟨⟨c0, c1, c2, c3, c4, c5, c6, c7, c8, c9, c10, c11, c12⟩, _⟩ := hSw
            (go_simp <;> with_reducible rfl)
          simp only [Act.put, List.setIfInBounds_toArray, List.set_cons_zero, List.set_cons_succ]
          refine wpAnyH_take (i := 15) (oi := { dst := some 61, op := Op.fieldAddr 33 (Operand.tmp 8) 2, type := 0, pos := _, after := #[{ on := 12, ground := Ground.guard }], guard := some (12, false) }) (v := ?v15) rfl (by kernel_rfl) (by kernel_rfl) (by kernel_rfl) (fun _ _ _ h => h) (Or.inl ⟨by rfl, ?hy15⟩) hHeld ?rest15
          case hy15 =>
            intro w hSw
            clear hSw
            (go_simp <;> with_reducible rfl)
          simp only [Act.put, List.setIfInBounds_toArray, List.set_cons_zero, List.set_cons_succ]
          refine wpAnyH_take (i := 16) (oi := { dst := some 62, op := Op.load 31 (Operand.tmp 61), type := 31, pos := _, after := #[{ on := 15, ground := Ground.data }, { on := 12, ground := Ground.guard }], guard := some (12, false) }) (v := ?v16) rfl (by kernel_rfl) (by kernel_rfl) (by kernel_rfl) (fun _ _ _ h => h) (Or.inl ⟨by rfl, ?hy16⟩) hHeld ?rest16
          case hy16 =>
            intro w hSw
            obtain ⟨⟨c0, c1, c2, c3, c4, c5, c6, c7, c8, c9, c10, c11, c12⟩, _⟩ := hSw
            (go_simp <;> with_reducible rfl)
          simp only [Act.put, List.setIfInBounds_toArray, List.set_cons_zero, List.set_cons_succ]
          refine wpAnyH_take (i := 17) (oi := { dst := some 63, op := Op.binOp BinOp.neq 31 (Operand.tmp 60) (Operand.tmp 62) 31, type := 4, pos := _, after := #[{ on := 14, ground := Ground.data }, { on := 16, ground := Ground.data }, { on := 12, ground := Ground.guard }], guard := some (12, false) }) (v := ?v17) rfl (by kernel_rfl) (by kernel_rfl) (by kernel_rfl) (fun _ _ _ h => h) (Or.inl ⟨by rfl, ?hy17⟩) hHeld ?rest17
          case hy17 =>
            intro w hSw
            clear hSw
            (go_simp <;> with_reducible rfl)
          simp only [Act.put, List.setIfInBounds_toArray, List.set_cons_zero, List.set_cons_succ]
          refine wpAnyH_take (i := 18) (oi := { dst := some 64, op := Op.pick (Operand.tmp 58) (Operand.const (Value.bool true)) (Operand.tmp 63), type := 4, pos := _, after := #[{ on := 12, ground := Ground.data }, { on := 17, ground := Ground.data }], guard := none }) (v := ?v18) rfl (by kernel_rfl) (by kernel_rfl) (by kernel_rfl) (fun _ _ _ h => h) (Or.inl ⟨by rfl, ?hy18⟩) hHeld ?rest18
          case hy18 =>
            intro w hSw
            clear hSw
            (go_simp <;> with_reducible rfl)
          simp only [Act.put, List.setIfInBounds_toArray, List.set_cons_zero, List.set_cons_succ]
          refine wpAnyH_take (i := 19) (oi := { dst := some 65, op := Op.move (Operand.tmp 64), type := 4, pos := _, after := #[{ on := 18, ground := Ground.data }, { on := 12, ground := Ground.chain }], guard := none }) (v := ?v19) rfl (by kernel_rfl) (by kernel_rfl) (by kernel_rfl) (fun _ _ _ h => h) (Or.inl ⟨by rfl, ?hy19⟩) hHeld ?rest19
          case hy19 =>
            intro w hSw
            clear hSw
            (go_simp <;> with_reducible rfl)
          simp only [Act.put, List.setIfInBounds_toArray, List.set_cons_zero, List.set_cons_succ]
          refine wpAnyH_take (i := 20) (oi := { dst := some 66, op := Op.fieldAddr 33 (Operand.tmp 9) 3, type := 0, pos := _, after := #[{ on := 19, ground := Ground.guard }], guard := some (19, false) }) (v := ?v20) rfl (by kernel_rfl) (by kernel_rfl) (by kernel_rfl) (fun _ _ _ h => h) (Or.inl ⟨by rfl, ?hy20⟩) hHeld ?rest20
          case hy20 =>
            intro w hSw
            clear hSw
            (go_simp <;> with_reducible rfl)
          simp only [Act.put, List.setIfInBounds_toArray, List.set_cons_zero, List.set_cons_succ]
          refine wpAnyH_take (i := 21) (oi := { dst := some 67, op := Op.load 26 (Operand.tmp 66), type := 26, pos := _, after := #[{ on := 20, ground := Ground.data }, { on := 19, ground := Ground.guard }], guard := some (19, false) }) (v := ?v21) rfl (by kernel_rfl) (by kernel_rfl) (by kernel_rfl) (fun _ _ _ h => h) (Or.inl ⟨by rfl, ?hy21⟩) hHeld ?rest21
          case hy21 =>
            intro w hSw
            obtain ⟨⟨c0, c1, c2, c3, c4, c5, c6, c7, c8, c9, c10, c11, c12⟩, _⟩ := hSw
            (go_simp <;> with_reducible rfl)
          simp only [Act.put, List.setIfInBounds_toArray, List.set_cons_zero, List.set_cons_succ]
          refine wpAnyH_take (i := 22) (oi := { dst := some 68, op := Op.fieldAddr 33 (Operand.tmp 8) 3, type := 0, pos := _, after := #[{ on := 19, ground := Ground.guard }], guard := some (19, false) }) (v := ?v22) rfl (by kernel_rfl) (by kernel_rfl) (by kernel_rfl) (fun _ _ _ h => h) (Or.inl ⟨by rfl, ?hy22⟩) hHeld ?rest22
          case hy22 =>
            intro w hSw
            clear hSw
            (go_simp <;> with_reducible rfl)
          simp only [Act.put, List.setIfInBounds_toArray, List.set_cons_zero, List.set_cons_succ]
          refine wpAnyH_take (i := 23) (oi := { dst := some 69, op := Op.load 26 (Operand.tmp 68), type := 26, pos := _, after := #[{ on := 22, ground := Ground.data }, { on := 19, ground := Ground.guard }], guard := some (19, false) }) (v := ?v23) rfl (by kernel_rfl) (by kernel_rfl) (by kernel_rfl) (fun _ _ _ h => h) (Or.inl ⟨by rfl, ?hy23⟩) hHeld ?rest23
          case hy23 =>
            intro w hSw
            obtain ⟨⟨c0, c1, c2, c3, c4, c5, c6, c7, c8, c9, c10, c11, c12⟩, _⟩ := hSw
            (go_simp <;> with_reducible rfl)
          simp only [Act.put, List.setIfInBounds_toArray, List.set_cons_zero, List.set_cons_succ]
          refine wpAnyH_ready (rs := [24]) (by kernel_rfl) (by simp) ?_
          refine AllReadyH.cons (o := { dst := some 70, op := Op.call { callee := Callee.value (Operand.func 15), args := #[Operand.tmp 67, Operand.tmp 69], argTypes := #[26, 26] }, type := 4, pos := _, after := #[{ on := 21, ground := Ground.data }, { on := 23, ground := Ground.data }, { on := 19, ground := Ground.chain }, { on := 19, ground := Ground.guard }], guard := some (19, false) }) rfl (fun K hK => ?_) AllReadyH.nil
          go_simp
          go_at_call 15
          refine (HS1.out _ (hHeld).2).mono ?_
          rintro e w11 ⟨rfl, hb11⟩
          go_wp2_with fail
          refine hK.out _ _ (HC.out _ (seqB (hHeld).2 hb11)) (fun hHeld1 => ?_)
          clear hb11
          clear hK K hHeld
          refine wpAnyH_take (i := 25) (oi := { dst := some 71, op := Op.unOp UnOp.not 4 (Operand.tmp 70), type := 4, pos := _, after := #[{ on := 24, ground := Ground.data }, { on := 19, ground := Ground.guard }], guard := some (19, false) }) (v := ?v25) rfl (by kernel_rfl) (by kernel_rfl) (by kernel_rfl) (fun _ _ _ h => h) (Or.inl ⟨by rfl, ?hy25⟩) hHeld1 ?rest25
          case hy25 =>
            intro w hSw
            clear hSw
            (go_simp <;> with_reducible rfl)
          simp only [Act.put, List.setIfInBounds_toArray, List.set_cons_zero, List.set_cons_succ]
          refine wpAnyH_take (i := 26) (oi := { dst := some 72, op := Op.pick (Operand.tmp 65) (Operand.const (Value.bool true)) (Operand.tmp 71), type := 4, pos := _, after := #[{ on := 19, ground := Ground.data }, { on := 25, ground := Ground.data }], guard := none }) (v := ?v26) rfl (by kernel_rfl) (by kernel_rfl) (by kernel_rfl) (fun _ _ _ h => h) (Or.inl ⟨by rfl, ?hy26⟩) hHeld1 ?rest26
          case hy26 =>
            intro w hSw
            clear hSw
            (go_simp <;> with_reducible rfl)
          simp only [Act.put, List.setIfInBounds_toArray, List.set_cons_zero, List.set_cons_succ]
          refine wpAnyH_take (i := 27) (oi := { dst := some 73, op := Op.move (Operand.tmp 72), type := 4, pos := _, after := #[{ on := 26, ground := Ground.data }, { on := 24, ground := Ground.chain }], guard := none }) (v := ?v27) rfl (by kernel_rfl) (by kernel_rfl) (by kernel_rfl) (fun _ _ _ h => h) (Or.inl ⟨by rfl, ?hy27⟩) hHeld1 ?rest27
          case hy27 =>
            intro w hSw
            clear hSw
            (go_simp <;> with_reducible rfl)
          simp only [Act.put, List.setIfInBounds_toArray, List.set_cons_zero, List.set_cons_succ]
          refine wpAnyH_take (i := 28) (oi := { dst := some 74, op := Op.move (Operand.tmp 3), type := 23, pos := _, after := #[{ on := 27, ground := Ground.guard }], guard := some (27, false) }) (v := ?v28) rfl (by kernel_rfl) (by kernel_rfl) (by kernel_rfl) (fun _ _ _ h => h) (Or.inl ⟨by rfl, ?hy28⟩) hHeld1 ?rest28
          case hy28 =>
            intro w hSw
            clear hSw
            (go_simp <;> with_reducible rfl)
          simp only [Act.put, List.setIfInBounds_toArray, List.set_cons_zero, List.set_cons_succ]
          refine wpAnyH_take (i := 31) (oi := { dst := some 77, op := Op.fieldAddr 28 (Operand.tmp 4) 0, type := 0, pos := _, after := #[{ on := 27, ground := Ground.guard }], guard := some (27, false) }) (v := ?v31) rfl (by kernel_rfl) (by kernel_rfl) (by kernel_rfl) (fun _ _ _ h => h) (Or.inl ⟨by rfl, ?hy31⟩) hHeld1 ?rest31
          case hy31 =>
            intro w hSw
            clear hSw
            (go_simp <;> with_reducible rfl)
          simp only [Act.put, List.setIfInBounds_toArray, List.set_cons_zero, List.set_cons_succ]
          refine wpAnyH_take (i := 32) (oi := { dst := some 78, op := Op.load 26 (Operand.tmp 77), type := 26, pos := _, after := #[{ on := 31, ground := Ground.data }, { on := 27, ground := Ground.guard }], guard := some (27, false) }) (v := ?v32) rfl (by kernel_rfl) (by kernel_rfl) (by kernel_rfl) (fun _ _ _ h => h) (Or.inl ⟨by rfl, ?hy32⟩) hHeld1 ?rest32
          case hy32 =>
            intro w hSw
            obtain ⟨⟨c0, c1, c2, c3, c4, c5, c6, c7, c8, c9, c10, c11, c12⟩, _⟩ := hSw
            (go_simp <;> with_reducible rfl)
          simp only [Act.put, List.setIfInBounds_toArray, List.set_cons_zero, List.set_cons_succ]
          refine wpAnyH_ready (rs := [29]) (by kernel_rfl) (by simp) ?_
          refine AllReadyH.cons (o := { dst := some 75, op := Op.call { callee := Callee.value (Operand.func 17), args := #[Operand.tmp 74], argTypes := #[23] }, type := 43, pos := _, after := #[{ on := 28, ground := Ground.data }, { on := 27, ground := Ground.chain }, { on := 27, ground := Ground.guard }], guard := some (27, false) }) rfl (fun K hK => ?_) AllReadyH.nil
          go_simp
          go_at_call 17
          refine (HLs.out _ (hHeld1).2).mono ?_
          rintro e w12 ⟨⟨q, d2, rfl, ho⟩, hb12⟩
          have HOL := Lib.hid ho
          clear ho
          go_wp2_with fail
          refine hK.out _ _ (HC.out _ (seqB (hHeld1).2 hb12)) (fun hHeld2 => ?_)
          clear hb12
          clear hK K hHeld1
          refine wpAnyH_ready (rs := [30]) (by kernel_rfl) (by simp) ?_
          refine AllReadyH.cons (o := { dst := some 76, op := Op.call { callee := Callee.value (Operand.func 16), args := #[Operand.tmp 75], argTypes := #[43] }, type := 26, pos := _, after := #[{ on := 29, ground := Ground.data }, { on := 29, ground := Ground.chain }, { on := 27, ground := Ground.guard }], guard := some (27, false) }) rfl (fun K hK => ?_) AllReadyH.nil
          go_simp
          go_at_call 16
          refine (rows_got HOL.out HNB.out).mono ?_
          rintro e w13 ⟨q', d', rfl, hr, hb13⟩
          have HRR := Lib.hid hr
          clear hr HOL
          go_wp2_with fail
          refine hK.out _ _ (HC.out _ (seqB (hHeld2).2 hb13)) (fun hHeld3 => ?_)
          clear hb13
          clear hK K hHeld2
          refine wpAnyH_ready (rs := [33]) (by kernel_rfl) (by simp) ?_
          refine AllReadyH.cons (o := { dst := some 79, op := Op.call { callee := Callee.value (Operand.func 15), args := #[Operand.tmp 76, Operand.tmp 78], argTypes := #[26, 26] }, type := 4, pos := _, after := #[{ on := 30, ground := Ground.data }, { on := 32, ground := Ground.data }, { on := 30, ground := Ground.chain }, { on := 27, ground := Ground.guard }], guard := some (27, false) }) rfl (fun K hK => ?_) AllReadyH.nil
          go_simp
          go_at_call 15
          refine (HS2.out _ _ _ (hHeld3).2 HRR.out).mono ?_
          rintro e w14 ⟨rfl, hb14⟩
          clear HRR
          go_wp2_with fail
          refine hK.out _ _ (HC.out _ (seqB (hHeld3).2 hb14)) (fun hHeld4 => ?_)
          clear hb14
          clear hK K hHeld3
          refine wpAnyH_take (i := 34) (oi := { dst := some 80, op := Op.unOp UnOp.not 4 (Operand.tmp 79), type := 4, pos := _, after := #[{ on := 33, ground := Ground.data }, { on := 27, ground := Ground.guard }], guard := some (27, false) }) (v := ?v34) rfl (by kernel_rfl) (by kernel_rfl) (by kernel_rfl) (fun _ _ _ h => h) (Or.inl ⟨by rfl, ?hy34⟩) hHeld4 ?rest34
          case hy34 =>
            intro w hSw
            clear hSw
            (go_simp <;> with_reducible rfl)
          simp only [Act.put, List.setIfInBounds_toArray, List.set_cons_zero, List.set_cons_succ]
          refine wpAnyH_take (i := 35) (oi := { dst := some 81, op := Op.pick (Operand.tmp 73) (Operand.const (Value.bool true)) (Operand.tmp 80), type := 4, pos := _, after := #[{ on := 27, ground := Ground.data }, { on := 34, ground := Ground.data }], guard := none }) (v := ?v35) rfl (by kernel_rfl) (by kernel_rfl) (by kernel_rfl) (fun _ _ _ h => h) (Or.inl ⟨by rfl, ?hy35⟩) hHeld4 ?rest35
          case hy35 =>
            intro w hSw
            clear hSw
            (go_simp <;> with_reducible rfl)
          simp only [Act.put, List.setIfInBounds_toArray, List.set_cons_zero, List.set_cons_succ]
          refine wpAnyH_take (i := 36) (oi := { dst := some 82, op := Op.move (Operand.tmp 81), type := 4, pos := _, after := #[{ on := 35, ground := Ground.data }, { on := 33, ground := Ground.chain }], guard := none }) (v := ?v36) rfl (by kernel_rfl) (by kernel_rfl) (by kernel_rfl) (fun _ _ _ h => h) (Or.inl ⟨by rfl, ?hy36⟩) hHeld4 ?rest36
          case hy36 =>
            intro w hSw
            clear hSw
            (go_simp <;> with_reducible rfl)
          simp only [Act.put, List.setIfInBounds_toArray, List.set_cons_zero, List.set_cons_succ]
          refine wpAnyH_take (i := 37) (oi := { dst := some 83, op := Op.move (Operand.tmp 3), type := 23, pos := _, after := #[{ on := 36, ground := Ground.guard }], guard := some (36, false) }) (v := ?v37) rfl (by kernel_rfl) (by kernel_rfl) (by kernel_rfl) (fun _ _ _ h => h) (Or.inl ⟨by rfl, ?hy37⟩) hHeld4 ?rest37
          case hy37 =>
            intro w hSw
            clear hSw
            (go_simp <;> with_reducible rfl)
          simp only [Act.put, List.setIfInBounds_toArray, List.set_cons_zero, List.set_cons_succ]
          refine wpAnyH_take (i := 39) (oi := { dst := some 85, op := Op.fieldAddr 28 (Operand.tmp 4) 0, type := 0, pos := _, after := #[{ on := 36, ground := Ground.guard }], guard := some (36, false) }) (v := ?v39) rfl (by kernel_rfl) (by kernel_rfl) (by kernel_rfl) (fun _ _ _ h => h) (Or.inl ⟨by rfl, ?hy39⟩) hHeld4 ?rest39
          case hy39 =>
            intro w hSw
            clear hSw
            (go_simp <;> with_reducible rfl)
          simp only [Act.put, List.setIfInBounds_toArray, List.set_cons_zero, List.set_cons_succ]
          refine wpAnyH_take (i := 40) (oi := { dst := some 86, op := Op.load 26 (Operand.tmp 85), type := 26, pos := _, after := #[{ on := 39, ground := Ground.data }, { on := 36, ground := Ground.guard }], guard := some (36, false) }) (v := ?v40) rfl (by kernel_rfl) (by kernel_rfl) (by kernel_rfl) (fun _ _ _ h => h) (Or.inl ⟨by rfl, ?hy40⟩) hHeld4 ?rest40
          case hy40 =>
            intro w hSw
            obtain ⟨⟨c0, c1, c2, c3, c4, c5, c6, c7, c8, c9, c10, c11, c12⟩, _⟩ := hSw
            (go_simp <;> with_reducible rfl)
          simp only [Act.put, List.setIfInBounds_toArray, List.set_cons_zero, List.set_cons_succ]
          refine wpAnyH_take (i := 41) (oi := { dst := some 87, op := Op.call { callee := Callee.builtin Builtin.len, args := #[Operand.tmp 86], argTypes := #[26] }, type := 3, pos := _, after := #[{ on := 40, ground := Ground.data }, { on := 36, ground := Ground.guard }], guard := some (36, false) }) (v := ?v41) rfl (by kernel_rfl) (by kernel_rfl) (by kernel_rfl) (fun _ _ _ h => h) (Or.inl ⟨by rfl, ?hy41⟩) hHeld4 ?rest41
          case hy41 =>
            intro w hSw
            clear hSw
            (go_simp <;> with_reducible rfl)
          simp only [Act.put, List.setIfInBounds_toArray, List.set_cons_zero, List.set_cons_succ]
          refine wpAnyH_ready (rs := [38]) (by kernel_rfl) (by simp) ?_
          refine AllReadyH.cons (o := { dst := some 84, op := Op.call { callee := Callee.value (Operand.func 18), args := #[Operand.tmp 83], argTypes := #[23] }, type := 3, pos := _, after := #[{ on := 37, ground := Ground.data }, { on := 36, ground := Ground.chain }, { on := 36, ground := Ground.guard }], guard := some (36, false) }) rfl (fun K hK => ?_) AllReadyH.nil
          go_simp
          go_at_call 18
          refine (HLn.out _ (hHeld4).2).mono ?_
          rintro e w15 ⟨rfl, rfl⟩
          go_wp2_with fail
          refine hK.out _ _ hHeld4 (fun hHeld5 => ?_)
          clear hK K hHeld4
          refine wpAnyH_take (i := 42) (oi := { dst := some 88, op := Op.binOp BinOp.neq 3 (Operand.tmp 84) (Operand.tmp 87) 3, type := 4, pos := _, after := #[{ on := 38, ground := Ground.data }, { on := 41, ground := Ground.data }, { on := 36, ground := Ground.guard }], guard := some (36, false) }) (v := ?v42) rfl (by kernel_rfl) (by kernel_rfl) (by kernel_rfl) (fun _ _ _ h => h) (Or.inl ⟨by rfl, ?hy42⟩) hHeld5 ?rest42
          case hy42 =>
            intro w hSw
            clear hSw
            (go_simp <;> with_reducible rfl)
          simp only [Act.put, List.setIfInBounds_toArray, List.set_cons_zero, List.set_cons_succ]
          refine wpAnyH_take (i := 43) (oi := { dst := some 89, op := Op.pick (Operand.tmp 82) (Operand.const (Value.bool true)) (Operand.tmp 88), type := 4, pos := _, after := #[{ on := 36, ground := Ground.data }, { on := 42, ground := Ground.data }], guard := none }) (v := ?v43) rfl (by kernel_rfl) (by kernel_rfl) (by kernel_rfl) (fun _ _ _ h => h) (Or.inl ⟨by rfl, ?hy43⟩) hHeld5 ?rest43
          case hy43 =>
            intro w hSw
            clear hSw
            (go_simp <;> with_reducible rfl)
          simp only [Act.put, List.setIfInBounds_toArray, List.set_cons_zero, List.set_cons_succ]
          refine wpAnyH_take (i := 44) (oi := { dst := some 90, op := Op.move (Operand.tmp 89), type := 4, pos := _, after := #[{ on := 43, ground := Ground.data }, { on := 38, ground := Ground.chain }], guard := none }) (v := ?v44) rfl (by kernel_rfl) (by kernel_rfl) (by kernel_rfl) (fun _ _ _ h => h) (Or.inl ⟨by rfl, ?hy44⟩) hHeld5 ?rest44
          case hy44 =>
            intro w hSw
            clear hSw
            (go_simp <;> with_reducible rfl)
          simp only [Act.put, List.setIfInBounds_toArray, List.set_cons_zero, List.set_cons_succ]
          refine wpAnyH_take (i := 45) (oi := { dst := some 91, op := Op.move (Operand.tmp 3), type := 23, pos := _, after := #[{ on := 44, ground := Ground.guard }], guard := some (44, false) }) (v := ?v45) rfl (by kernel_rfl) (by kernel_rfl) (by kernel_rfl) (fun _ _ _ h => h) (Or.inl ⟨by rfl, ?hy45⟩) hHeld5 ?rest45
          case hy45 =>
            intro w hSw
            clear hSw
            (go_simp <;> with_reducible rfl)
          simp only [Act.put, List.setIfInBounds_toArray, List.set_cons_zero, List.set_cons_succ]
          refine wpAnyH_ready (rs := [46]) (by kernel_rfl) (by simp) ?_
          refine AllReadyH.cons (o := { dst := some 92, op := Op.call { callee := Callee.value (Operand.func 19), args := #[Operand.tmp 91], argTypes := #[23] }, type := 4, pos := _, after := #[{ on := 45, ground := Ground.data }, { on := 44, ground := Ground.chain }, { on := 44, ground := Ground.guard }], guard := some (44, false) }) rfl (fun K hK => ?_) AllReadyH.nil
          go_simp
          go_at_call 19
          refine (HCk.out _ (hHeld5).2).mono ?_
          rintro e w16 ⟨rfl, hb16⟩
          go_wp2_with fail
          refine hK.out _ _ (HC.out _ (seqB (hHeld5).2 hb16)) (fun hHeld6 => ?_)
          clear hb16
          clear hK K hHeld5
          refine wpAnyH_take (i := 47) (oi := { dst := some 93, op := Op.unOp UnOp.not 4 (Operand.tmp 92), type := 4, pos := _, after := #[{ on := 46, ground := Ground.data }, { on := 44, ground := Ground.guard }], guard := some (44, false) }) (v := ?v47) rfl (by kernel_rfl) (by kernel_rfl) (by kernel_rfl) (fun _ _ _ h => h) (Or.inl ⟨by rfl, ?hy47⟩) hHeld6 ?rest47
          case hy47 =>
            intro w hSw
            clear hSw
            (go_simp <;> with_reducible rfl)
          simp only [Act.put, List.setIfInBounds_toArray, List.set_cons_zero, List.set_cons_succ]
          refine wpAnyH_take (i := 48) (oi := { dst := some 94, op := Op.pick (Operand.tmp 90) (Operand.const (Value.bool true)) (Operand.tmp 93), type := 4, pos := _, after := #[{ on := 44, ground := Ground.data }, { on := 47, ground := Ground.data }], guard := none }) (v := ?v48) rfl (by kernel_rfl) (by kernel_rfl) (by kernel_rfl) (fun _ _ _ h => h) (Or.inl ⟨by rfl, ?hy48⟩) hHeld6 ?rest48
          case hy48 =>
            intro w hSw
            clear hSw
            (go_simp <;> with_reducible rfl)
          simp only [Act.put, List.setIfInBounds_toArray, List.set_cons_zero, List.set_cons_succ]
          refine wpAnyH_take (i := 49) (oi := { dst := some 95, op := Op.move (Operand.tmp 94), type := 4, pos := _, after := #[{ on := 48, ground := Ground.data }, { on := 46, ground := Ground.chain }], guard := none }) (v := ?v49) rfl (by kernel_rfl) (by kernel_rfl) (by kernel_rfl) (fun _ _ _ h => h) (Or.inl ⟨by rfl, ?hy49⟩) hHeld6 ?rest49
          case hy49 =>
            intro w hSw
            clear hSw
            (go_simp <;> with_reducible rfl)
          simp only [Act.put, List.setIfInBounds_toArray, List.set_cons_zero, List.set_cons_succ]
          refine wpAnyH_take (i := 50) (oi := { dst := some 96, op := Op.move (Operand.tmp 11), type := 4, pos := _, after := #[{ on := 49, ground := Ground.guard }], guard := some (49, false) }) (v := ?v50) rfl (by kernel_rfl) (by kernel_rfl) (by kernel_rfl) (fun _ _ _ h => h) (Or.inl ⟨by rfl, ?hy50⟩) hHeld6 ?rest50
          case hy50 =>
            intro w hSw
            clear hSw
            (go_simp <;> with_reducible rfl)
          simp only [Act.put, List.setIfInBounds_toArray, List.set_cons_zero, List.set_cons_succ]
          refine wpAnyH_take (i := 51) (oi := { dst := some 97, op := Op.fieldAddr 28 (Operand.tmp 4) 0, type := 0, pos := _, after := #[{ on := 49, ground := Ground.guard }], guard := some (49, false) }) (v := ?v51) rfl (by kernel_rfl) (by kernel_rfl) (by kernel_rfl) (fun _ _ _ h => h) (Or.inl ⟨by rfl, ?hy51⟩) hHeld6 ?rest51
          case hy51 =>
            intro w hSw
            clear hSw
            (go_simp <;> with_reducible rfl)
          simp only [Act.put, List.setIfInBounds_toArray, List.set_cons_zero, List.set_cons_succ]
          refine wpAnyH_take (i := 52) (oi := { dst := some 98, op := Op.load 26 (Operand.tmp 97), type := 26, pos := _, after := #[{ on := 51, ground := Ground.data }, { on := 49, ground := Ground.guard }], guard := some (49, false) }) (v := ?v52) rfl (by kernel_rfl) (by kernel_rfl) (by kernel_rfl) (fun _ _ _ h => h) (Or.inl ⟨by rfl, ?hy52⟩) hHeld6 ?rest52
          case hy52 =>
            intro w hSw
            obtain ⟨⟨c0, c1, c2, c3, c4, c5, c6, c7, c8, c9, c10, c11, c12⟩, _⟩ := hSw
            (go_simp <;> with_reducible rfl)
          simp only [Act.put, List.setIfInBounds_toArray, List.set_cons_zero, List.set_cons_succ]
          refine wpAnyH_take (i := 53) (oi := { dst := some 99, op := Op.call { callee := Callee.builtin Builtin.len, args := #[Operand.tmp 98], argTypes := #[26] }, type := 3, pos := _, after := #[{ on := 52, ground := Ground.data }, { on := 49, ground := Ground.guard }], guard := some (49, false) }) (v := ?v53) rfl (by kernel_rfl) (by kernel_rfl) (by kernel_rfl) (fun _ _ _ h => h) (Or.inl ⟨by rfl, ?hy53⟩) hHeld6 ?rest53
          case hy53 =>
            intro w hSw
            clear hSw
            (go_simp <;> with_reducible rfl)
          simp only [Act.put, List.setIfInBounds_toArray, List.set_cons_zero, List.set_cons_succ]
          refine wpAnyH_take (i := 54) (oi := { dst := some 100, op := Op.binOp BinOp.gtr 3 (Operand.tmp 99) (Operand.const (Value.int IntKind.i64 0)) 3, type := 4, pos := _, after := #[{ on := 53, ground := Ground.data }, { on := 49, ground := Ground.guard }], guard := some (49, false) }) (v := ?v54) rfl (by kernel_rfl) (by kernel_rfl) (by kernel_rfl) (fun _ _ _ h => h) (Or.inl ⟨by rfl, ?hy54⟩) hHeld6 ?rest54
          case hy54 =>
            intro w hSw
            clear hSw
            (go_simp <;> with_reducible rfl)
          simp only [Act.put, List.setIfInBounds_toArray, List.set_cons_zero, List.set_cons_succ]
          refine wpAnyH_take (i := 55) (oi := { dst := some 101, op := Op.binOp BinOp.neq 4 (Operand.tmp 96) (Operand.tmp 100) 4, type := 4, pos := _, after := #[{ on := 50, ground := Ground.data }, { on := 54, ground := Ground.data }, { on := 49, ground := Ground.guard }], guard := some (49, false) }) (v := ?v55) rfl (by kernel_rfl) (by kernel_rfl) (by kernel_rfl) (fun _ _ _ h => h) (Or.inl ⟨by rfl, ?hy55⟩) hHeld6 ?rest55
          case hy55 =>
            intro w hSw
            clear hSw
            (go_simp <;> with_reducible rfl)
          simp only [Act.put, List.setIfInBounds_toArray, List.set_cons_zero, List.set_cons_succ]
          refine wpAnyH_take (i := 56) (oi := { dst := some 102, op := Op.pick (Operand.tmp 95) (Operand.const (Value.bool true)) (Operand.tmp 101), type := 4, pos := _, after := #[{ on := 49, ground := Ground.data }, { on := 55, ground := Ground.data }], guard := none }) (v := ?v56) rfl (by kernel_rfl) (by kernel_rfl) (by kernel_rfl) (fun _ _ _ h => h) (Or.inl ⟨by rfl, ?hy56⟩) hHeld6 ?rest56
          case hy56 =>
            intro w hSw
            clear hSw
            (go_simp <;> with_reducible rfl)
          simp only [Act.put, List.setIfInBounds_toArray, List.set_cons_zero, List.set_cons_succ]
          refine wpAnyH_take (i := 57) (oi := { dst := some 103, op := Op.move (Operand.tmp 102), type := 4, pos := _, after := #[{ on := 56, ground := Ground.data }, { on := 49, ground := Ground.chain }], guard := none }) (v := ?v57) rfl (by kernel_rfl) (by kernel_rfl) (by kernel_rfl) (fun _ _ _ h => h) (Or.inl ⟨by rfl, ?hy57⟩) hHeld6 ?rest57
          case hy57 =>
            intro w hSw
            clear hSw
            (go_simp <;> with_reducible rfl)
          simp only [Act.put, List.setIfInBounds_toArray, List.set_cons_zero, List.set_cons_succ]
          refine wpAnyH_take (i := 58) (oi := { dst := some 104, op := Op.move (Operand.tmp 11), type := 4, pos := _, after := #[{ on := 57, ground := Ground.guard }], guard := some (57, false) }) (v := ?v58) rfl (by kernel_rfl) (by kernel_rfl) (by kernel_rfl) (fun _ _ _ h => h) (Or.inl ⟨by rfl, ?hy58⟩) hHeld6 ?rest58
          case hy58 =>
            intro w hSw
            clear hSw
            (go_simp <;> with_reducible rfl)
          simp only [Act.put, List.setIfInBounds_toArray, List.set_cons_zero, List.set_cons_succ]
          refine wpAnyH_take (i := 59) (oi := { dst := some 105, op := Op.move (Operand.tmp 104), type := 4, pos := _, after := #[{ on := 58, ground := Ground.data }, { on := 57, ground := Ground.chain }, { on := 57, ground := Ground.guard }], guard := some (57, false) }) (v := ?v59) rfl (by kernel_rfl) (by kernel_rfl) (by kernel_rfl) (fun _ _ _ h => h) (Or.inl ⟨by rfl, ?hy59⟩) hHeld6 ?rest59
          case hy59 =>
            intro w hSw
            clear hSw
            (go_simp <;> with_reducible rfl)
          simp only [Act.put, List.setIfInBounds_toArray, List.set_cons_zero, List.set_cons_succ]
          refine wpAnyH_take (i := 60) (oi := { dst := some 106, op := Op.load 38 (Operand.tmp 10), type := 38, pos := _, after := #[{ on := 59, ground := Ground.guard }], guard := some (59, true) }) (v := ?v60) rfl (by kernel_rfl) (by kernel_rfl) (by kernel_rfl) (fun _ _ _ h => h) (Or.inl ⟨by rfl, ?hy60⟩) hHeld6 ?rest60
          case hy60 =>
            intro w hSw
            obtain ⟨⟨c0, c1, c2, c3, c4, c5, c6, c7, c8, c9, c10, c11, c12⟩, _⟩ := hSw
            (go_simp <;> with_reducible rfl)
          simp only [Act.put, List.setIfInBounds_toArray, List.set_cons_zero, List.set_cons_succ]
          refine wpAnyH_take (i := 61) (oi := { dst := some 107, op := Op.fieldAddr 28 (Operand.tmp 4) 0, type := 0, pos := _, after := #[{ on := 59, ground := Ground.guard }], guard := some (59, true) }) (v := ?v61) rfl (by kernel_rfl) (by kernel_rfl) (by kernel_rfl) (fun _ _ _ h => h) (Or.inl ⟨by rfl, ?hy61⟩) hHeld6 ?rest61
          case hy61 =>
            intro w hSw
            clear hSw
            (go_simp <;> with_reducible rfl)
          simp only [Act.put, List.setIfInBounds_toArray, List.set_cons_zero, List.set_cons_succ]
          refine wpAnyH_take (i := 62) (oi := { dst := some 108, op := Op.load 26 (Operand.tmp 107), type := 26, pos := _, after := #[{ on := 61, ground := Ground.data }, { on := 59, ground := Ground.guard }], guard := some (59, true) }) (v := ?v62) rfl (by kernel_rfl) (by kernel_rfl) (by kernel_rfl) (fun _ _ _ h => h) (Or.inl ⟨by rfl, ?hy62⟩) hHeld6 ?rest62
          case hy62 =>
            intro w hSw
            obtain ⟨⟨c0, c1, c2, c3, c4, c5, c6, c7, c8, c9, c10, c11, c12⟩, _⟩ := hSw
            (go_simp <;> with_reducible rfl)
          simp only [Act.put, List.setIfInBounds_toArray, List.set_cons_zero, List.set_cons_succ]
          refine wpAnyH_take (i := 63) (oi := { dst := some 109, op := Op.indexAddr 26 (Operand.tmp 108) (Operand.const (Value.int IntKind.i64 0)), type := 0, pos := _, after := #[{ on := 62, ground := Ground.data }, { on := 59, ground := Ground.guard }], guard := some (59, true) }) (v := ?v63) rfl (by kernel_rfl) (by kernel_rfl) (by kernel_rfl) (fun _ _ _ h => h) (Or.inl ⟨by rfl, ?hy63⟩) hHeld6 ?rest63
          case hy63 =>
            intro w hSw
            clear hSw
            (go_simp <;> with_reducible rfl)
          simp only [Act.put, List.setIfInBounds_toArray, List.set_cons_zero, List.set_cons_succ]
          refine wpAnyH_take (i := 64) (oi := { dst := some 110, op := Op.load 46 (Operand.tmp 109), type := 46, pos := _, after := #[{ on := 63, ground := Ground.data }, { on := 59, ground := Ground.guard }], guard := some (59, true) }) (v := ?v64) rfl (by kernel_rfl) (by kernel_rfl) (by kernel_rfl) (fun _ _ _ h => h) (Or.inl ⟨by rfl, ?hy64⟩) hHeld6 ?rest64
          case hy64 =>
            intro w hSw
            obtain ⟨⟨c0, c1, c2, c3, c4, c5, c6, c7, c8, c9, c10, c11, c12⟩, _⟩ := hSw
            (go_simp <;> with_reducible rfl)
          simp only [Act.put, List.setIfInBounds_toArray, List.set_cons_zero, List.set_cons_succ]
          refine wpAnyH_take (i := 65) (oi := { dst := some 111, op := Op.binOp BinOp.neq 46 (Operand.tmp 106) (Operand.tmp 110) 46, type := 4, pos := _, after := #[{ on := 60, ground := Ground.data }, { on := 64, ground := Ground.data }, { on := 59, ground := Ground.guard }], guard := some (59, true) }) (v := ?v65) rfl (by kernel_rfl) (by kernel_rfl) (by kernel_rfl) (fun _ _ _ h => h) (Or.inl ⟨by rfl, ?hy65⟩) hHeld6 ?rest65
          case hy65 =>
            intro w hSw
            clear hSw
            (go_simp <;> with_reducible rfl)
          simp only [Act.put, List.setIfInBounds_toArray, List.set_cons_zero, List.set_cons_succ]
          refine wpAnyH_take (i := 66) (oi := { dst := some 112, op := Op.pick (Operand.tmp 105) (Operand.tmp 111) (Operand.const (Value.bool false)), type := 4, pos := _, after := #[{ on := 59, ground := Ground.data }, { on := 65, ground := Ground.data }, { on := 57, ground := Ground.guard }], guard := some (57, false) }) (v := ?v66) rfl (by kernel_rfl) (by kernel_rfl) (by kernel_rfl) (fun _ _ _ h => h) (Or.inl ⟨by rfl, ?hy66⟩) hHeld6 ?rest66
          case hy66 =>
            intro w hSw
            clear hSw
            (go_simp <;> with_reducible rfl)
          simp only [Act.put, List.setIfInBounds_toArray, List.set_cons_zero, List.set_cons_succ]
          refine wpAnyH_take (i := 67) (oi := { dst := some 113, op := Op.pick (Operand.tmp 103) (Operand.const (Value.bool true)) (Operand.tmp 112), type := 4, pos := _, after := #[{ on := 57, ground := Ground.data }, { on := 66, ground := Ground.data }], guard := none }) (v := ?v67) rfl (by kernel_rfl) (by kernel_rfl) (by kernel_rfl) (fun _ _ _ h => h) (Or.inl ⟨by rfl, ?hy67⟩) hHeld6 ?rest67
          case hy67 =>
            intro w hSw
            clear hSw
            (go_simp <;> with_reducible rfl)
          simp only [Act.put, List.setIfInBounds_toArray, List.set_cons_zero, List.set_cons_succ]
          refine wpAnyH_done (by kernel_rfl) ?_ _
          have HEnd := Lib.hid hHeld6.2
          clear hHeld6
          have HAz := Lib.hid (HA9.out.on HEnd.out)
          have HQz := Lib.hid ((HEnd.out.block _ (blk_lt HQ9.out)).trans HQ9.out)
          have HRz := Lib.hid (row_on HR1'.out HEnd.out)
          clear HC HS1 HS2 HLs HLn HCk
          go_wp2_with fail
          go_roundw
          case rel => exact ⟨k + 1, L1, last1, _, _, _, by omega, by go_num, HAz, HQz, HRz, Lib.hid (by have := HDL.out; have := HL.out; simp only [Int.natCast_add]; omega)⟩
          case measure => simp [intOf]; omega
        · obtain rfl : n1 = 0 := by omega
          obtain rfl : L1 = [] := List.eq_nil_of_length_eq_zero HR1'.out.1
          have hfl : fl = false := by rw [← HFl.out]; rfl
          have HFT := Lib.hid hfl
          clear hfl
          have HC := Lib.hid (show ∀ W, Below w10.heap.size w10 W → (W.cell? ⟨gx, 0, none⟩ = some (.int .i64 N) ∧ W.cell? ⟨gx, 1, none⟩ = some (.bool is) ∧ W.cell? ⟨gx, 2, none⟩ = some (.int .i64 E) ∧ W.cell? ⟨gx, 3, none⟩ = some (.slice p3 n3 k3) ∧ W.cell? ⟨gw, 0, none⟩ = some (.int .i64 N) ∧ W.cell? ⟨gw, 1, none⟩ = some (.bool is) ∧ W.cell? ⟨gw, 2, none⟩ = some (.int .i64 E) ∧ W.cell? ⟨gw, 3, none⟩ = some (.slice p2 n2 k2) ∧ W.cell? ⟨gr, 0, none⟩ = some (.slice p1 0 k1)) ∧ Below w10.heap.size w10 W from fun W hW => by
            have a1 := (hW.block _ (blk_lt HX9.out)).trans HX9.out
            have a2 := (hW.block _ (blk_lt HW9.out)).trans HW9.out
            have a3 := (hW.block _ (blk_lt HQ9.out)).trans HQ9.out
            exact ⟨⟨cell_of_row _ _ 0 _ _ _ a1, cell_of_row _ _ 1 _ _ _ a1, cell_of_row _ _ 2 _ _ _ a1, cell_of_row _ _ 3 _ _ _ a1, cell_of_row _ _ 0 _ _ _ a2, cell_of_row _ _ 1 _ _ _ a2, cell_of_row _ _ 2 _ _ _ a2, cell_of_row _ _ 3 _ _ _ a2, cell_of_row _ _ 0 _ _ _ a3⟩, hW⟩)
          have HS1 := Lib.hid (show ∀ W, Below w10.heap.size w10 W → Calls Try.prog 15 #[.slice p3 n3 k3, .slice p2 n2 k2] W fun e w' => e = .returned (.bool true) ∧ Below W.heap.size W w' from fun W hW => same_rows (row_on HR3'.out hW) (row_on HR2'.out hW) (same_refl _))
          have HS2 := Lib.hid (show ∀ W q' d', Below w10.heap.size w10 W → RowIn W q' 0 d' [] → Calls Try.prog 15 #[.slice q' 0 d', .slice p1 0 k1] W fun e w' => e = .returned (.bool true) ∧ Below W.heap.size W w' from fun W q' d' hW hr => same_rows hr (row_on HR1'.out hW) (same_refl _))
          have HLs := Lib.hid (show ∀ W, Below w10.heap.size w10 W → Calls Try.prog 17 #[.pointer (some ⟨g, 0, none⟩)] W fun e w' => GotT W.heap.size [] 0 e w' ∧ Below W.heap.size W w' from fun W hW => list_k (HA9.out.on hW) HR1'.out.1)
          have HLn := Lib.hid (show ∀ W, Below w10.heap.size w10 W → Calls Try.prog 18 #[.pointer (some ⟨g, 0, none⟩)] W fun e w' => e = .returned (.int .i64 (0 : Int)) ∧ W = w' from fun W hW => len_at (HA9.out.on hW) HR1'.out.1)
          have HCk := Lib.hid (show ∀ W, Below w10.heap.size w10 W → Calls Try.prog 19 #[.pointer (some ⟨g, 0, none⟩)] W fun e w' => e = .returned (.bool true) ∧ Below W.heap.size W w' from fun W hW => check_at (HA9.out.on hW))
          have HNB := Lib.hid (show 0 ≤ 100000 from by have h1 := HA9.out.bounds; have h2 := HDL.out; have h3 := HLL.out; have h4 := HR1'.out.1; omega)
          rw [HFT.out]
          clear HFl HFT HY HX9 HW9 HD9
          simp only [List.append]
          refine wp_region_held_drew (S := fun w' => (w'.cell? ⟨gx, 0, none⟩ = some (.int .i64 N) ∧ w'.cell? ⟨gx, 1, none⟩ = some (.bool is) ∧ w'.cell? ⟨gx, 2, none⟩ = some (.int .i64 E) ∧ w'.cell? ⟨gx, 3, none⟩ = some (.slice p3 n3 k3) ∧ w'.cell? ⟨gw, 0, none⟩ = some (.int .i64 N) ∧ w'.cell? ⟨gw, 1, none⟩ = some (.bool is) ∧ w'.cell? ⟨gw, 2, none⟩ = some (.int .i64 E) ∧ w'.cell? ⟨gw, 3, none⟩ = some (.slice p2 n2 k2) ∧ w'.cell? ⟨gr, 0, none⟩ = some (.slice p1 0 k1)) ∧ Below w10.heap.size w10 w') (by kernel_rfl) (HC.out _ (Below.refl _ _).drew) (fun hHeld => ?_)
          refine wpAnyH_take (i := 0) (oi := { dst := some 46, op := Op.fieldAddr 33 (Operand.tmp 9) 0, type := 0, pos := _, after := #[], guard := none }) (v := ?vz0) rfl (by kernel_rfl) (by kernel_rfl) (by kernel_rfl) (fun _ _ _ h => h) (Or.inl ⟨by rfl, ?hyz0⟩) hHeld ?restz0
          case hyz0 =>
            intro w hSw
            clear hSw
            (go_simp <;> with_reducible rfl)
          simp only [Act.put, List.setIfInBounds_toArray, List.set_cons_zero, List.set_cons_succ]
          refine wpAnyH_take (i := 1) (oi := { dst := some 47, op := Op.load 3 (Operand.tmp 46), type := 3, pos := _, after := #[{ on := 0, ground := Ground.data }], guard := none }) (v := ?vz1) rfl (by kernel_rfl) (by kernel_rfl) (by kernel_rfl) (fun _ _ _ h => h) (Or.inl ⟨by rfl, ?hyz1⟩) hHeld ?restz1
          case hyz1 =>
            intro w hSw
            obtain ⟨⟨c0, c1, c2, c3, c4, c5, c6, c7, c8⟩, _⟩ := hSw
            (go_simp <;> with_reducible rfl)
          simp only [Act.put, List.setIfInBounds_toArray, List.set_cons_zero, List.set_cons_succ]
          refine wpAnyH_take (i := 2) (oi := { dst := some 48, op := Op.fieldAddr 33 (Operand.tmp 8) 0, type := 0, pos := _, after := #[], guard := none }) (v := ?vz2) rfl (by kernel_rfl) (by kernel_rfl) (by kernel_rfl) (fun _ _ _ h => h) (Or.inl ⟨by rfl, ?hyz2⟩) hHeld ?restz2
          case hyz2 =>
            intro w hSw
            clear hSw
            (go_simp <;> with_reducible rfl)
          simp only [Act.put, List.setIfInBounds_toArray, List.set_cons_zero, List.set_cons_succ]
          refine wpAnyH_take (i := 3) (oi := { dst := some 49, op := Op.load 3 (Operand.tmp 48), type := 3, pos := _, after := #[{ on := 2, ground := Ground.data }], guard := none }) (v := ?vz3) rfl (by kernel_rfl) (by kernel_rfl) (by kernel_rfl) (fun _ _ _ h => h) (Or.inl ⟨by rfl, ?hyz3⟩) hHeld ?restz3
          case hyz3 =>
            intro w hSw
            obtain ⟨⟨c0, c1, c2, c3, c4, c5, c6, c7, c8⟩, _⟩ := hSw
            (go_simp <;> with_reducible rfl)
          simp only [Act.put, List.setIfInBounds_toArray, List.set_cons_zero, List.set_cons_succ]
          refine wpAnyH_take (i := 4) (oi := { dst := some 50, op := Op.binOp BinOp.neq 3 (Operand.tmp 47) (Operand.tmp 49) 3, type := 4, pos := _, after := #[{ on := 1, ground := Ground.data }, { on := 3, ground := Ground.data }], guard := none }) (v := ?vz4) rfl (by kernel_rfl) (by kernel_rfl) (by kernel_rfl) (fun _ _ _ h => h) (Or.inl ⟨by rfl, ?hyz4⟩) hHeld ?restz4
          case hyz4 =>
            intro w hSw
            clear hSw
            (go_simp <;> with_reducible rfl)
          simp only [Act.put, List.setIfInBounds_toArray, List.set_cons_zero, List.set_cons_succ]
          refine wpAnyH_take (i := 5) (oi := { dst := some 51, op := Op.move (Operand.tmp 50), type := 4, pos := _, after := #[{ on := 4, ground := Ground.data }], guard := none }) (v := ?vz5) rfl (by kernel_rfl) (by kernel_rfl) (by kernel_rfl) (fun _ _ _ h => h) (Or.inl ⟨by rfl, ?hyz5⟩) hHeld ?restz5
          case hyz5 =>
            intro w hSw
            clear hSw
            (go_simp <;> with_reducible rfl)
          simp only [Act.put, List.setIfInBounds_toArray, List.set_cons_zero, List.set_cons_succ]
          refine wpAnyH_take (i := 6) (oi := { dst := some 52, op := Op.fieldAddr 33 (Operand.tmp 9) 1, type := 0, pos := _, after := #[{ on := 5, ground := Ground.guard }], guard := some (5, false) }) (v := ?vz6) rfl (by kernel_rfl) (by kernel_rfl) (by kernel_rfl) (fun _ _ _ h => h) (Or.inl ⟨by rfl, ?hyz6⟩) hHeld ?restz6
          case hyz6 =>
            intro w hSw
            clear hSw
            (go_simp <;> with_reducible rfl)
          simp only [Act.put, List.setIfInBounds_toArray, List.set_cons_zero, List.set_cons_succ]
          refine wpAnyH_take (i := 7) (oi := { dst := some 53, op := Op.load 4 (Operand.tmp 52), type := 4, pos := _, after := #[{ on := 6, ground := Ground.data }, { on := 5, ground := Ground.guard }], guard := some (5, false) }) (v := ?vz7) rfl (by kernel_rfl) (by kernel_rfl) (by kernel_rfl) (fun _ _ _ h => h) (Or.inl ⟨by rfl, ?hyz7⟩) hHeld ?restz7
          case hyz7 =>
            intro w hSw
            obtain ⟨⟨c0, c1, c2, c3, c4, c5, c6, c7, c8⟩, _⟩ := hSw
            (go_simp <;> with_reducible rfl)
          simp only [Act.put, List.setIfInBounds_toArray, List.set_cons_zero, List.set_cons_succ]
          refine wpAnyH_take (i := 8) (oi := { dst := some 54, op := Op.fieldAddr 33 (Operand.tmp 8) 1, type := 0, pos := _, after := #[{ on := 5, ground := Ground.guard }], guard := some (5, false) }) (v := ?vz8) rfl (by kernel_rfl) (by kernel_rfl) (by kernel_rfl) (fun _ _ _ h => h) (Or.inl ⟨by rfl, ?hyz8⟩) hHeld ?restz8
          case hyz8 =>
            intro w hSw
            clear hSw
            (go_simp <;> with_reducible rfl)
          simp only [Act.put, List.setIfInBounds_toArray, List.set_cons_zero, List.set_cons_succ]
          refine wpAnyH_take (i := 9) (oi := { dst := some 55, op := Op.load 4 (Operand.tmp 54), type := 4, pos := _, after := #[{ on := 8, ground := Ground.data }, { on := 5, ground := Ground.guard }], guard := some (5, false) }) (v := ?vz9) rfl (by kernel_rfl) (by kernel_rfl) (by kernel_rfl) (fun _ _ _ h => h) (Or.inl ⟨by rfl, ?hyz9⟩) hHeld ?restz9
          case hyz9 =>
            intro w hSw
            obtain ⟨⟨c0, c1, c2, c3, c4, c5, c6, c7, c8⟩, _⟩ := hSw
            (go_simp <;> with_reducible rfl)
          simp only [Act.put, List.setIfInBounds_toArray, List.set_cons_zero, List.set_cons_succ]
          refine wpAnyH_take (i := 10) (oi := { dst := some 56, op := Op.binOp BinOp.neq 4 (Operand.tmp 53) (Operand.tmp 55) 4, type := 4, pos := _, after := #[{ on := 7, ground := Ground.data }, { on := 9, ground := Ground.data }, { on := 5, ground := Ground.guard }], guard := some (5, false) }) (v := ?vz10) rfl (by kernel_rfl) (by kernel_rfl) (by kernel_rfl) (fun _ _ _ h => h) (Or.inl ⟨by rfl, ?hyz10⟩) hHeld ?restz10
          case hyz10 =>
            intro w hSw
            clear hSw
            (go_simp <;> with_reducible rfl)
          simp only [Act.put, List.setIfInBounds_toArray, List.set_cons_zero, List.set_cons_succ]
          refine wpAnyH_take (i := 11) (oi := { dst := some 57, op := Op.pick (Operand.tmp 51) (Operand.const (Value.bool true)) (Operand.tmp 56), type := 4, pos := _, after := #[{ on := 5, ground := Ground.data }, { on := 10, ground := Ground.data }], guard := none }) (v := ?vz11) rfl (by kernel_rfl) (by kernel_rfl) (by kernel_rfl) (fun _ _ _ h => h) (Or.inl ⟨by rfl, ?hyz11⟩) hHeld ?restz11
          case hyz11 =>
            intro w hSw
            clear hSw
            (go_simp <;> with_reducible rfl)
          simp only [Act.put, List.setIfInBounds_toArray, List.set_cons_zero, List.set_cons_succ]
          refine wpAnyH_take (i := 12) (oi := { dst := some 58, op := Op.move (Operand.tmp 57), type := 4, pos := _, after := #[{ on := 11, ground := Ground.data }, { on := 5, ground := Ground.chain }], guard := none }) (v := ?vz12) rfl (by kernel_rfl) (by kernel_rfl) (by kernel_rfl) (fun _ _ _ h => h) (Or.inl ⟨by rfl, ?hyz12⟩) hHeld ?restz12
          case hyz12 =>
            intro w hSw
            clear hSw
            (go_simp <;> with_reducible rfl)
          simp only [Act.put, List.setIfInBounds_toArray, List.set_cons_zero, List.set_cons_succ]
          refine wpAnyH_take (i := 13) (oi := { dst := some 59, op := Op.fieldAddr 33 (Operand.tmp 9) 2, type := 0, pos := _, after := #[{ on := 12, ground := Ground.guard }], guard := some (12, false) }) (v := ?vz13) rfl (by kernel_rfl) (by kernel_rfl) (by kernel_rfl) (fun _ _ _ h => h) (Or.inl ⟨by rfl, ?hyz13⟩) hHeld ?restz13
          case hyz13 =>
            intro w hSw
            clear hSw
            (go_simp <;> with_reducible rfl)
          simp only [Act.put, List.setIfInBounds_toArray, List.set_cons_zero, List.set_cons_succ]
          refine wpAnyH_take (i := 14) (oi := { dst := some 60, op := Op.load 31 (Operand.tmp 59), type := 31, pos := _, after := #[{ on := 13, ground := Ground.data }, { on := 12, ground := Ground.guard }], guard := some (12, false) }) (v := ?vz14) rfl (by kernel_rfl) (by kernel_rfl) (by kernel_rfl) (fun _ _ _ h => h) (Or.inl ⟨by rfl, ?hyz14⟩) hHeld ?restz14
          case hyz14 =>
            intro w hSw
            obtain ⟨⟨c0, c1, c2, c3, c4, c5, c6, c7, c8⟩, _⟩ := hSw
            (go_simp <;> with_reducible rfl)
          simp only [Act.put, List.setIfInBounds_toArray, List.set_cons_zero, List.set_cons_succ]
          refine wpAnyH_take (i := 15) (oi := { dst := some 61, op := Op.fieldAddr 33 (Operand.tmp 8) 2, type := 0, pos := _, after := #[{ on := 12, ground := Ground.guard }], guard := some (12, false) }) (v := ?vz15) rfl (by kernel_rfl) (by kernel_rfl) (by kernel_rfl) (fun _ _ _ h => h) (Or.inl ⟨by rfl, ?hyz15⟩) hHeld ?restz15
          case hyz15 =>
            intro w hSw
            clear hSw
            (go_simp <;> with_reducible rfl)
          simp only [Act.put, List.setIfInBounds_toArray, List.set_cons_zero, List.set_cons_succ]
          refine wpAnyH_take (i := 16) (oi := { dst := some 62, op := Op.load 31 (Operand.tmp 61), type := 31, pos := _, after := #[{ on := 15, ground := Ground.data }, { on := 12, ground := Ground.guard }], guard := some (12, false) }) (v := ?vz16) rfl (by kernel_rfl) (by kernel_rfl) (by kernel_rfl) (fun _ _ _ h => h) (Or.inl ⟨by rfl, ?hyz16⟩) hHeld ?restz16
          case hyz16 =>
            intro w hSw
            obtain ⟨⟨c0, c1, c2, c3, c4, c5, c6, c7, c8⟩, _⟩ := hSw
            (go_simp <;> with_reducible rfl)
          simp only [Act.put, List.setIfInBounds_toArray, List.set_cons_zero, List.set_cons_succ]
          refine wpAnyH_take (i := 17) (oi := { dst := some 63, op := Op.binOp BinOp.neq 31 (Operand.tmp 60) (Operand.tmp 62) 31, type := 4, pos := _, after := #[{ on := 14, ground := Ground.data }, { on := 16, ground := Ground.data }, { on := 12, ground := Ground.guard }], guard := some (12, false) }) (v := ?vz17) rfl (by kernel_rfl) (by kernel_rfl) (by kernel_rfl) (fun _ _ _ h => h) (Or.inl ⟨by rfl, ?hyz17⟩) hHeld ?restz17
          case hyz17 =>
            intro w hSw
            clear hSw
            (go_simp <;> with_reducible rfl)
          simp only [Act.put, List.setIfInBounds_toArray, List.set_cons_zero, List.set_cons_succ]
          refine wpAnyH_take (i := 18) (oi := { dst := some 64, op := Op.pick (Operand.tmp 58) (Operand.const (Value.bool true)) (Operand.tmp 63), type := 4, pos := _, after := #[{ on := 12, ground := Ground.data }, { on := 17, ground := Ground.data }], guard := none }) (v := ?vz18) rfl (by kernel_rfl) (by kernel_rfl) (by kernel_rfl) (fun _ _ _ h => h) (Or.inl ⟨by rfl, ?hyz18⟩) hHeld ?restz18
          case hyz18 =>
            intro w hSw
            clear hSw
            (go_simp <;> with_reducible rfl)
          simp only [Act.put, List.setIfInBounds_toArray, List.set_cons_zero, List.set_cons_succ]
          refine wpAnyH_take (i := 19) (oi := { dst := some 65, op := Op.move (Operand.tmp 64), type := 4, pos := _, after := #[{ on := 18, ground := Ground.data }, { on := 12, ground := Ground.chain }], guard := none }) (v := ?vz19) rfl (by kernel_rfl) (by kernel_rfl) (by kernel_rfl) (fun _ _ _ h => h) (Or.inl ⟨by rfl, ?hyz19⟩) hHeld ?restz19
          case hyz19 =>
            intro w hSw
            clear hSw
            (go_simp <;> with_reducible rfl)
          simp only [Act.put, List.setIfInBounds_toArray, List.set_cons_zero, List.set_cons_succ]
          refine wpAnyH_take (i := 20) (oi := { dst := some 66, op := Op.fieldAddr 33 (Operand.tmp 9) 3, type := 0, pos := _, after := #[{ on := 19, ground := Ground.guard }], guard := some (19, false) }) (v := ?vz20) rfl (by kernel_rfl) (by kernel_rfl) (by kernel_rfl) (fun _ _ _ h => h) (Or.inl ⟨by rfl, ?hyz20⟩) hHeld ?restz20
          case hyz20 =>
            intro w hSw
            clear hSw
            (go_simp <;> with_reducible rfl)
          simp only [Act.put, List.setIfInBounds_toArray, List.set_cons_zero, List.set_cons_succ]
          refine wpAnyH_take (i := 21) (oi := { dst := some 67, op := Op.load 26 (Operand.tmp 66), type := 26, pos := _, after := #[{ on := 20, ground := Ground.data }, { on := 19, ground := Ground.guard }], guard := some (19, false) }) (v := ?vz21) rfl (by kernel_rfl) (by kernel_rfl) (by kernel_rfl) (fun _ _ _ h => h) (Or.inl ⟨by rfl, ?hyz21⟩) hHeld ?restz21
          case hyz21 =>
            intro w hSw
            obtain ⟨⟨c0, c1, c2, c3, c4, c5, c6, c7, c8⟩, _⟩ := hSw
            (go_simp <;> with_reducible rfl)
          simp only [Act.put, List.setIfInBounds_toArray, List.set_cons_zero, List.set_cons_succ]
          refine wpAnyH_take (i := 22) (oi := { dst := some 68, op := Op.fieldAddr 33 (Operand.tmp 8) 3, type := 0, pos := _, after := #[{ on := 19, ground := Ground.guard }], guard := some (19, false) }) (v := ?vz22) rfl (by kernel_rfl) (by kernel_rfl) (by kernel_rfl) (fun _ _ _ h => h) (Or.inl ⟨by rfl, ?hyz22⟩) hHeld ?restz22
          case hyz22 =>
            intro w hSw
            clear hSw
            (go_simp <;> with_reducible rfl)
          simp only [Act.put, List.setIfInBounds_toArray, List.set_cons_zero, List.set_cons_succ]
          refine wpAnyH_take (i := 23) (oi := { dst := some 69, op := Op.load 26 (Operand.tmp 68), type := 26, pos := _, after := #[{ on := 22, ground := Ground.data }, { on := 19, ground := Ground.guard }], guard := some (19, false) }) (v := ?vz23) rfl (by kernel_rfl) (by kernel_rfl) (by kernel_rfl) (fun _ _ _ h => h) (Or.inl ⟨by rfl, ?hyz23⟩) hHeld ?restz23
          case hyz23 =>
            intro w hSw
            obtain ⟨⟨c0, c1, c2, c3, c4, c5, c6, c7, c8⟩, _⟩ := hSw
            (go_simp <;> with_reducible rfl)
          simp only [Act.put, List.setIfInBounds_toArray, List.set_cons_zero, List.set_cons_succ]
          refine wpAnyH_ready (rs := [24]) (by kernel_rfl) (by simp) ?_
          refine AllReadyH.cons (o := { dst := some 70, op := Op.call { callee := Callee.value (Operand.func 15), args := #[Operand.tmp 67, Operand.tmp 69], argTypes := #[26, 26] }, type := 4, pos := _, after := #[{ on := 21, ground := Ground.data }, { on := 23, ground := Ground.data }, { on := 19, ground := Ground.chain }, { on := 19, ground := Ground.guard }], guard := some (19, false) }) rfl (fun K hK => ?_) AllReadyH.nil
          go_simp
          go_at_call 15
          refine (HS1.out _ (hHeld).2).mono ?_
          rintro e w11 ⟨rfl, hb11⟩
          go_wp2_with fail
          refine hK.out _ _ (HC.out _ (seqB (hHeld).2 hb11)) (fun hHeld1 => ?_)
          clear hb11
          clear hK K hHeld
          refine wpAnyH_take (i := 25) (oi := { dst := some 71, op := Op.unOp UnOp.not 4 (Operand.tmp 70), type := 4, pos := _, after := #[{ on := 24, ground := Ground.data }, { on := 19, ground := Ground.guard }], guard := some (19, false) }) (v := ?vz25) rfl (by kernel_rfl) (by kernel_rfl) (by kernel_rfl) (fun _ _ _ h => h) (Or.inl ⟨by rfl, ?hyz25⟩) hHeld1 ?restz25
          case hyz25 =>
            intro w hSw
            clear hSw
            (go_simp <;> with_reducible rfl)
          simp only [Act.put, List.setIfInBounds_toArray, List.set_cons_zero, List.set_cons_succ]
          refine wpAnyH_take (i := 26) (oi := { dst := some 72, op := Op.pick (Operand.tmp 65) (Operand.const (Value.bool true)) (Operand.tmp 71), type := 4, pos := _, after := #[{ on := 19, ground := Ground.data }, { on := 25, ground := Ground.data }], guard := none }) (v := ?vz26) rfl (by kernel_rfl) (by kernel_rfl) (by kernel_rfl) (fun _ _ _ h => h) (Or.inl ⟨by rfl, ?hyz26⟩) hHeld1 ?restz26
          case hyz26 =>
            intro w hSw
            clear hSw
            (go_simp <;> with_reducible rfl)
          simp only [Act.put, List.setIfInBounds_toArray, List.set_cons_zero, List.set_cons_succ]
          refine wpAnyH_take (i := 27) (oi := { dst := some 73, op := Op.move (Operand.tmp 72), type := 4, pos := _, after := #[{ on := 26, ground := Ground.data }, { on := 24, ground := Ground.chain }], guard := none }) (v := ?vz27) rfl (by kernel_rfl) (by kernel_rfl) (by kernel_rfl) (fun _ _ _ h => h) (Or.inl ⟨by rfl, ?hyz27⟩) hHeld1 ?restz27
          case hyz27 =>
            intro w hSw
            clear hSw
            (go_simp <;> with_reducible rfl)
          simp only [Act.put, List.setIfInBounds_toArray, List.set_cons_zero, List.set_cons_succ]
          refine wpAnyH_take (i := 28) (oi := { dst := some 74, op := Op.move (Operand.tmp 3), type := 23, pos := _, after := #[{ on := 27, ground := Ground.guard }], guard := some (27, false) }) (v := ?vz28) rfl (by kernel_rfl) (by kernel_rfl) (by kernel_rfl) (fun _ _ _ h => h) (Or.inl ⟨by rfl, ?hyz28⟩) hHeld1 ?restz28
          case hyz28 =>
            intro w hSw
            clear hSw
            (go_simp <;> with_reducible rfl)
          simp only [Act.put, List.setIfInBounds_toArray, List.set_cons_zero, List.set_cons_succ]
          refine wpAnyH_take (i := 31) (oi := { dst := some 77, op := Op.fieldAddr 28 (Operand.tmp 4) 0, type := 0, pos := _, after := #[{ on := 27, ground := Ground.guard }], guard := some (27, false) }) (v := ?vz31) rfl (by kernel_rfl) (by kernel_rfl) (by kernel_rfl) (fun _ _ _ h => h) (Or.inl ⟨by rfl, ?hyz31⟩) hHeld1 ?restz31
          case hyz31 =>
            intro w hSw
            clear hSw
            (go_simp <;> with_reducible rfl)
          simp only [Act.put, List.setIfInBounds_toArray, List.set_cons_zero, List.set_cons_succ]
          refine wpAnyH_take (i := 32) (oi := { dst := some 78, op := Op.load 26 (Operand.tmp 77), type := 26, pos := _, after := #[{ on := 31, ground := Ground.data }, { on := 27, ground := Ground.guard }], guard := some (27, false) }) (v := ?vz32) rfl (by kernel_rfl) (by kernel_rfl) (by kernel_rfl) (fun _ _ _ h => h) (Or.inl ⟨by rfl, ?hyz32⟩) hHeld1 ?restz32
          case hyz32 =>
            intro w hSw
            obtain ⟨⟨c0, c1, c2, c3, c4, c5, c6, c7, c8⟩, _⟩ := hSw
            (go_simp <;> with_reducible rfl)
          simp only [Act.put, List.setIfInBounds_toArray, List.set_cons_zero, List.set_cons_succ]
          refine wpAnyH_ready (rs := [29]) (by kernel_rfl) (by simp) ?_
          refine AllReadyH.cons (o := { dst := some 75, op := Op.call { callee := Callee.value (Operand.func 17), args := #[Operand.tmp 74], argTypes := #[23] }, type := 43, pos := _, after := #[{ on := 28, ground := Ground.data }, { on := 27, ground := Ground.chain }, { on := 27, ground := Ground.guard }], guard := some (27, false) }) rfl (fun K hK => ?_) AllReadyH.nil
          go_simp
          go_at_call 17
          refine (HLs.out _ (hHeld1).2).mono ?_
          rintro e w12 ⟨⟨q, d2, rfl, ho⟩, hb12⟩
          have HOL := Lib.hid ho
          clear ho
          go_wp2_with fail
          refine hK.out _ _ (HC.out _ (seqB (hHeld1).2 hb12)) (fun hHeld2 => ?_)
          clear hb12
          clear hK K hHeld1
          refine wpAnyH_ready (rs := [30]) (by kernel_rfl) (by simp) ?_
          refine AllReadyH.cons (o := { dst := some 76, op := Op.call { callee := Callee.value (Operand.func 16), args := #[Operand.tmp 75], argTypes := #[43] }, type := 26, pos := _, after := #[{ on := 29, ground := Ground.data }, { on := 29, ground := Ground.chain }, { on := 27, ground := Ground.guard }], guard := some (27, false) }) rfl (fun K hK => ?_) AllReadyH.nil
          go_simp
          go_at_call 16
          refine (rows_got HOL.out HNB.out).mono ?_
          rintro e w13 ⟨q', d', rfl, hr, hb13⟩
          have HRR := Lib.hid hr
          clear hr HOL
          go_wp2_with fail
          refine hK.out _ _ (HC.out _ (seqB (hHeld2).2 hb13)) (fun hHeld3 => ?_)
          clear hb13
          clear hK K hHeld2
          refine wpAnyH_ready (rs := [33]) (by kernel_rfl) (by simp) ?_
          refine AllReadyH.cons (o := { dst := some 79, op := Op.call { callee := Callee.value (Operand.func 15), args := #[Operand.tmp 76, Operand.tmp 78], argTypes := #[26, 26] }, type := 4, pos := _, after := #[{ on := 30, ground := Ground.data }, { on := 32, ground := Ground.data }, { on := 30, ground := Ground.chain }, { on := 27, ground := Ground.guard }], guard := some (27, false) }) rfl (fun K hK => ?_) AllReadyH.nil
          go_simp
          go_at_call 15
          refine (HS2.out _ _ _ (hHeld3).2 HRR.out).mono ?_
          rintro e w14 ⟨rfl, hb14⟩
          clear HRR
          go_wp2_with fail
          refine hK.out _ _ (HC.out _ (seqB (hHeld3).2 hb14)) (fun hHeld4 => ?_)
          clear hb14
          clear hK K hHeld3
          refine wpAnyH_take (i := 34) (oi := { dst := some 80, op := Op.unOp UnOp.not 4 (Operand.tmp 79), type := 4, pos := _, after := #[{ on := 33, ground := Ground.data }, { on := 27, ground := Ground.guard }], guard := some (27, false) }) (v := ?vz34) rfl (by kernel_rfl) (by kernel_rfl) (by kernel_rfl) (fun _ _ _ h => h) (Or.inl ⟨by rfl, ?hyz34⟩) hHeld4 ?restz34
          case hyz34 =>
            intro w hSw
            clear hSw
            (go_simp <;> with_reducible rfl)
          simp only [Act.put, List.setIfInBounds_toArray, List.set_cons_zero, List.set_cons_succ]
          refine wpAnyH_take (i := 35) (oi := { dst := some 81, op := Op.pick (Operand.tmp 73) (Operand.const (Value.bool true)) (Operand.tmp 80), type := 4, pos := _, after := #[{ on := 27, ground := Ground.data }, { on := 34, ground := Ground.data }], guard := none }) (v := ?vz35) rfl (by kernel_rfl) (by kernel_rfl) (by kernel_rfl) (fun _ _ _ h => h) (Or.inl ⟨by rfl, ?hyz35⟩) hHeld4 ?restz35
          case hyz35 =>
            intro w hSw
            clear hSw
            (go_simp <;> with_reducible rfl)
          simp only [Act.put, List.setIfInBounds_toArray, List.set_cons_zero, List.set_cons_succ]
          refine wpAnyH_take (i := 36) (oi := { dst := some 82, op := Op.move (Operand.tmp 81), type := 4, pos := _, after := #[{ on := 35, ground := Ground.data }, { on := 33, ground := Ground.chain }], guard := none }) (v := ?vz36) rfl (by kernel_rfl) (by kernel_rfl) (by kernel_rfl) (fun _ _ _ h => h) (Or.inl ⟨by rfl, ?hyz36⟩) hHeld4 ?restz36
          case hyz36 =>
            intro w hSw
            clear hSw
            (go_simp <;> with_reducible rfl)
          simp only [Act.put, List.setIfInBounds_toArray, List.set_cons_zero, List.set_cons_succ]
          refine wpAnyH_take (i := 37) (oi := { dst := some 83, op := Op.move (Operand.tmp 3), type := 23, pos := _, after := #[{ on := 36, ground := Ground.guard }], guard := some (36, false) }) (v := ?vz37) rfl (by kernel_rfl) (by kernel_rfl) (by kernel_rfl) (fun _ _ _ h => h) (Or.inl ⟨by rfl, ?hyz37⟩) hHeld4 ?restz37
          case hyz37 =>
            intro w hSw
            clear hSw
            (go_simp <;> with_reducible rfl)
          simp only [Act.put, List.setIfInBounds_toArray, List.set_cons_zero, List.set_cons_succ]
          refine wpAnyH_take (i := 39) (oi := { dst := some 85, op := Op.fieldAddr 28 (Operand.tmp 4) 0, type := 0, pos := _, after := #[{ on := 36, ground := Ground.guard }], guard := some (36, false) }) (v := ?vz39) rfl (by kernel_rfl) (by kernel_rfl) (by kernel_rfl) (fun _ _ _ h => h) (Or.inl ⟨by rfl, ?hyz39⟩) hHeld4 ?restz39
          case hyz39 =>
            intro w hSw
            clear hSw
            (go_simp <;> with_reducible rfl)
          simp only [Act.put, List.setIfInBounds_toArray, List.set_cons_zero, List.set_cons_succ]
          refine wpAnyH_take (i := 40) (oi := { dst := some 86, op := Op.load 26 (Operand.tmp 85), type := 26, pos := _, after := #[{ on := 39, ground := Ground.data }, { on := 36, ground := Ground.guard }], guard := some (36, false) }) (v := ?vz40) rfl (by kernel_rfl) (by kernel_rfl) (by kernel_rfl) (fun _ _ _ h => h) (Or.inl ⟨by rfl, ?hyz40⟩) hHeld4 ?restz40
          case hyz40 =>
            intro w hSw
            obtain ⟨⟨c0, c1, c2, c3, c4, c5, c6, c7, c8⟩, _⟩ := hSw
            (go_simp <;> with_reducible rfl)
          simp only [Act.put, List.setIfInBounds_toArray, List.set_cons_zero, List.set_cons_succ]
          refine wpAnyH_take (i := 41) (oi := { dst := some 87, op := Op.call { callee := Callee.builtin Builtin.len, args := #[Operand.tmp 86], argTypes := #[26] }, type := 3, pos := _, after := #[{ on := 40, ground := Ground.data }, { on := 36, ground := Ground.guard }], guard := some (36, false) }) (v := ?vz41) rfl (by kernel_rfl) (by kernel_rfl) (by kernel_rfl) (fun _ _ _ h => h) (Or.inl ⟨by rfl, ?hyz41⟩) hHeld4 ?restz41
          case hyz41 =>
            intro w hSw
            clear hSw
            (go_simp <;> with_reducible rfl)
          simp only [Act.put, List.setIfInBounds_toArray, List.set_cons_zero, List.set_cons_succ]
          refine wpAnyH_ready (rs := [38]) (by kernel_rfl) (by simp) ?_
          refine AllReadyH.cons (o := { dst := some 84, op := Op.call { callee := Callee.value (Operand.func 18), args := #[Operand.tmp 83], argTypes := #[23] }, type := 3, pos := _, after := #[{ on := 37, ground := Ground.data }, { on := 36, ground := Ground.chain }, { on := 36, ground := Ground.guard }], guard := some (36, false) }) rfl (fun K hK => ?_) AllReadyH.nil
          go_simp
          go_at_call 18
          refine (HLn.out _ (hHeld4).2).mono ?_
          rintro e w15 ⟨rfl, rfl⟩
          go_wp2_with fail
          refine hK.out _ _ hHeld4 (fun hHeld5 => ?_)
          clear hK K hHeld4
          refine wpAnyH_take (i := 42) (oi := { dst := some 88, op := Op.binOp BinOp.neq 3 (Operand.tmp 84) (Operand.tmp 87) 3, type := 4, pos := _, after := #[{ on := 38, ground := Ground.data }, { on := 41, ground := Ground.data }, { on := 36, ground := Ground.guard }], guard := some (36, false) }) (v := ?vz42) rfl (by kernel_rfl) (by kernel_rfl) (by kernel_rfl) (fun _ _ _ h => h) (Or.inl ⟨by rfl, ?hyz42⟩) hHeld5 ?restz42
          case hyz42 =>
            intro w hSw
            clear hSw
            (go_simp <;> with_reducible rfl)
          simp only [Act.put, List.setIfInBounds_toArray, List.set_cons_zero, List.set_cons_succ]
          refine wpAnyH_take (i := 43) (oi := { dst := some 89, op := Op.pick (Operand.tmp 82) (Operand.const (Value.bool true)) (Operand.tmp 88), type := 4, pos := _, after := #[{ on := 36, ground := Ground.data }, { on := 42, ground := Ground.data }], guard := none }) (v := ?vz43) rfl (by kernel_rfl) (by kernel_rfl) (by kernel_rfl) (fun _ _ _ h => h) (Or.inl ⟨by rfl, ?hyz43⟩) hHeld5 ?restz43
          case hyz43 =>
            intro w hSw
            clear hSw
            (go_simp <;> with_reducible rfl)
          simp only [Act.put, List.setIfInBounds_toArray, List.set_cons_zero, List.set_cons_succ]
          refine wpAnyH_take (i := 44) (oi := { dst := some 90, op := Op.move (Operand.tmp 89), type := 4, pos := _, after := #[{ on := 43, ground := Ground.data }, { on := 38, ground := Ground.chain }], guard := none }) (v := ?vz44) rfl (by kernel_rfl) (by kernel_rfl) (by kernel_rfl) (fun _ _ _ h => h) (Or.inl ⟨by rfl, ?hyz44⟩) hHeld5 ?restz44
          case hyz44 =>
            intro w hSw
            clear hSw
            (go_simp <;> with_reducible rfl)
          simp only [Act.put, List.setIfInBounds_toArray, List.set_cons_zero, List.set_cons_succ]
          refine wpAnyH_take (i := 45) (oi := { dst := some 91, op := Op.move (Operand.tmp 3), type := 23, pos := _, after := #[{ on := 44, ground := Ground.guard }], guard := some (44, false) }) (v := ?vz45) rfl (by kernel_rfl) (by kernel_rfl) (by kernel_rfl) (fun _ _ _ h => h) (Or.inl ⟨by rfl, ?hyz45⟩) hHeld5 ?restz45
          case hyz45 =>
            intro w hSw
            clear hSw
            (go_simp <;> with_reducible rfl)
          simp only [Act.put, List.setIfInBounds_toArray, List.set_cons_zero, List.set_cons_succ]
          refine wpAnyH_ready (rs := [46]) (by kernel_rfl) (by simp) ?_
          refine AllReadyH.cons (o := { dst := some 92, op := Op.call { callee := Callee.value (Operand.func 19), args := #[Operand.tmp 91], argTypes := #[23] }, type := 4, pos := _, after := #[{ on := 45, ground := Ground.data }, { on := 44, ground := Ground.chain }, { on := 44, ground := Ground.guard }], guard := some (44, false) }) rfl (fun K hK => ?_) AllReadyH.nil
          go_simp
          go_at_call 19
          refine (HCk.out _ (hHeld5).2).mono ?_
          rintro e w16 ⟨rfl, hb16⟩
          go_wp2_with fail
          refine hK.out _ _ (HC.out _ (seqB (hHeld5).2 hb16)) (fun hHeld6 => ?_)
          clear hb16
          clear hK K hHeld5
          refine wpAnyH_take (i := 47) (oi := { dst := some 93, op := Op.unOp UnOp.not 4 (Operand.tmp 92), type := 4, pos := _, after := #[{ on := 46, ground := Ground.data }, { on := 44, ground := Ground.guard }], guard := some (44, false) }) (v := ?vz47) rfl (by kernel_rfl) (by kernel_rfl) (by kernel_rfl) (fun _ _ _ h => h) (Or.inl ⟨by rfl, ?hyz47⟩) hHeld6 ?restz47
          case hyz47 =>
            intro w hSw
            clear hSw
            (go_simp <;> with_reducible rfl)
          simp only [Act.put, List.setIfInBounds_toArray, List.set_cons_zero, List.set_cons_succ]
          refine wpAnyH_take (i := 48) (oi := { dst := some 94, op := Op.pick (Operand.tmp 90) (Operand.const (Value.bool true)) (Operand.tmp 93), type := 4, pos := _, after := #[{ on := 44, ground := Ground.data }, { on := 47, ground := Ground.data }], guard := none }) (v := ?vz48) rfl (by kernel_rfl) (by kernel_rfl) (by kernel_rfl) (fun _ _ _ h => h) (Or.inl ⟨by rfl, ?hyz48⟩) hHeld6 ?restz48
          case hyz48 =>
            intro w hSw
            clear hSw
            (go_simp <;> with_reducible rfl)
          simp only [Act.put, List.setIfInBounds_toArray, List.set_cons_zero, List.set_cons_succ]
          refine wpAnyH_take (i := 49) (oi := { dst := some 95, op := Op.move (Operand.tmp 94), type := 4, pos := _, after := #[{ on := 48, ground := Ground.data }, { on := 46, ground := Ground.chain }], guard := none }) (v := ?vz49) rfl (by kernel_rfl) (by kernel_rfl) (by kernel_rfl) (fun _ _ _ h => h) (Or.inl ⟨by rfl, ?hyz49⟩) hHeld6 ?restz49
          case hyz49 =>
            intro w hSw
            clear hSw
            (go_simp <;> with_reducible rfl)
          simp only [Act.put, List.setIfInBounds_toArray, List.set_cons_zero, List.set_cons_succ]
          refine wpAnyH_take (i := 50) (oi := { dst := some 96, op := Op.move (Operand.tmp 11), type := 4, pos := _, after := #[{ on := 49, ground := Ground.guard }], guard := some (49, false) }) (v := ?vz50) rfl (by kernel_rfl) (by kernel_rfl) (by kernel_rfl) (fun _ _ _ h => h) (Or.inl ⟨by rfl, ?hyz50⟩) hHeld6 ?restz50
          case hyz50 =>
            intro w hSw
            clear hSw
            (go_simp <;> with_reducible rfl)
          simp only [Act.put, List.setIfInBounds_toArray, List.set_cons_zero, List.set_cons_succ]
          refine wpAnyH_take (i := 51) (oi := { dst := some 97, op := Op.fieldAddr 28 (Operand.tmp 4) 0, type := 0, pos := _, after := #[{ on := 49, ground := Ground.guard }], guard := some (49, false) }) (v := ?vz51) rfl (by kernel_rfl) (by kernel_rfl) (by kernel_rfl) (fun _ _ _ h => h) (Or.inl ⟨by rfl, ?hyz51⟩) hHeld6 ?restz51
          case hyz51 =>
            intro w hSw
            clear hSw
            (go_simp <;> with_reducible rfl)
          simp only [Act.put, List.setIfInBounds_toArray, List.set_cons_zero, List.set_cons_succ]
          refine wpAnyH_take (i := 52) (oi := { dst := some 98, op := Op.load 26 (Operand.tmp 97), type := 26, pos := _, after := #[{ on := 51, ground := Ground.data }, { on := 49, ground := Ground.guard }], guard := some (49, false) }) (v := ?vz52) rfl (by kernel_rfl) (by kernel_rfl) (by kernel_rfl) (fun _ _ _ h => h) (Or.inl ⟨by rfl, ?hyz52⟩) hHeld6 ?restz52
          case hyz52 =>
            intro w hSw
            obtain ⟨⟨c0, c1, c2, c3, c4, c5, c6, c7, c8⟩, _⟩ := hSw
            (go_simp <;> with_reducible rfl)
          simp only [Act.put, List.setIfInBounds_toArray, List.set_cons_zero, List.set_cons_succ]
          refine wpAnyH_take (i := 53) (oi := { dst := some 99, op := Op.call { callee := Callee.builtin Builtin.len, args := #[Operand.tmp 98], argTypes := #[26] }, type := 3, pos := _, after := #[{ on := 52, ground := Ground.data }, { on := 49, ground := Ground.guard }], guard := some (49, false) }) (v := ?vz53) rfl (by kernel_rfl) (by kernel_rfl) (by kernel_rfl) (fun _ _ _ h => h) (Or.inl ⟨by rfl, ?hyz53⟩) hHeld6 ?restz53
          case hyz53 =>
            intro w hSw
            clear hSw
            (go_simp <;> with_reducible rfl)
          simp only [Act.put, List.setIfInBounds_toArray, List.set_cons_zero, List.set_cons_succ]
          refine wpAnyH_take (i := 54) (oi := { dst := some 100, op := Op.binOp BinOp.gtr 3 (Operand.tmp 99) (Operand.const (Value.int IntKind.i64 0)) 3, type := 4, pos := _, after := #[{ on := 53, ground := Ground.data }, { on := 49, ground := Ground.guard }], guard := some (49, false) }) (v := ?vz54) rfl (by kernel_rfl) (by kernel_rfl) (by kernel_rfl) (fun _ _ _ h => h) (Or.inl ⟨by rfl, ?hyz54⟩) hHeld6 ?restz54
          case hyz54 =>
            intro w hSw
            clear hSw
            (go_simp <;> with_reducible rfl)
          simp only [Act.put, List.setIfInBounds_toArray, List.set_cons_zero, List.set_cons_succ]
          refine wpAnyH_take (i := 55) (oi := { dst := some 101, op := Op.binOp BinOp.neq 4 (Operand.tmp 96) (Operand.tmp 100) 4, type := 4, pos := _, after := #[{ on := 50, ground := Ground.data }, { on := 54, ground := Ground.data }, { on := 49, ground := Ground.guard }], guard := some (49, false) }) (v := ?vz55) rfl (by kernel_rfl) (by kernel_rfl) (by kernel_rfl) (fun _ _ _ h => h) (Or.inl ⟨by rfl, ?hyz55⟩) hHeld6 ?restz55
          case hyz55 =>
            intro w hSw
            clear hSw
            (go_simp <;> with_reducible rfl)
          simp only [Act.put, List.setIfInBounds_toArray, List.set_cons_zero, List.set_cons_succ]
          refine wpAnyH_take (i := 56) (oi := { dst := some 102, op := Op.pick (Operand.tmp 95) (Operand.const (Value.bool true)) (Operand.tmp 101), type := 4, pos := _, after := #[{ on := 49, ground := Ground.data }, { on := 55, ground := Ground.data }], guard := none }) (v := ?vz56) rfl (by kernel_rfl) (by kernel_rfl) (by kernel_rfl) (fun _ _ _ h => h) (Or.inl ⟨by rfl, ?hyz56⟩) hHeld6 ?restz56
          case hyz56 =>
            intro w hSw
            clear hSw
            (go_simp <;> with_reducible rfl)
          simp only [Act.put, List.setIfInBounds_toArray, List.set_cons_zero, List.set_cons_succ]
          refine wpAnyH_take (i := 57) (oi := { dst := some 103, op := Op.move (Operand.tmp 102), type := 4, pos := _, after := #[{ on := 56, ground := Ground.data }, { on := 49, ground := Ground.chain }], guard := none }) (v := ?vz57) rfl (by kernel_rfl) (by kernel_rfl) (by kernel_rfl) (fun _ _ _ h => h) (Or.inl ⟨by rfl, ?hyz57⟩) hHeld6 ?restz57
          case hyz57 =>
            intro w hSw
            clear hSw
            (go_simp <;> with_reducible rfl)
          simp only [Act.put, List.setIfInBounds_toArray, List.set_cons_zero, List.set_cons_succ]
          refine wpAnyH_take (i := 58) (oi := { dst := some 104, op := Op.move (Operand.tmp 11), type := 4, pos := _, after := #[{ on := 57, ground := Ground.guard }], guard := some (57, false) }) (v := ?vz58) rfl (by kernel_rfl) (by kernel_rfl) (by kernel_rfl) (fun _ _ _ h => h) (Or.inl ⟨by rfl, ?hyz58⟩) hHeld6 ?restz58
          case hyz58 =>
            intro w hSw
            clear hSw
            (go_simp <;> with_reducible rfl)
          simp only [Act.put, List.setIfInBounds_toArray, List.set_cons_zero, List.set_cons_succ]
          refine wpAnyH_take (i := 59) (oi := { dst := some 105, op := Op.move (Operand.tmp 104), type := 4, pos := _, after := #[{ on := 58, ground := Ground.data }, { on := 57, ground := Ground.chain }, { on := 57, ground := Ground.guard }], guard := some (57, false) }) (v := ?vz59) rfl (by kernel_rfl) (by kernel_rfl) (by kernel_rfl) (fun _ _ _ h => h) (Or.inl ⟨by rfl, ?hyz59⟩) hHeld6 ?restz59
          case hyz59 =>
            intro w hSw
            clear hSw
            (go_simp <;> with_reducible rfl)
          simp only [Act.put, List.setIfInBounds_toArray, List.set_cons_zero, List.set_cons_succ]
          refine wpAnyH_take (i := 60) (oi := { dst := some 106, op := Op.load 38 (Operand.tmp 10), type := 38, pos := _, after := #[{ on := 59, ground := Ground.guard }], guard := some (59, true) }) (v := undef) rfl (by kernel_rfl) (by kernel_rfl) (by kernel_rfl) (fun _ _ _ h => h) (Or.inr ⟨by rfl, rfl⟩) hHeld6 ?_
          simp only [Act.put, List.setIfInBounds_toArray, List.set_cons_zero, List.set_cons_succ]
          refine wpAnyH_take (i := 61) (oi := { dst := some 107, op := Op.fieldAddr 28 (Operand.tmp 4) 0, type := 0, pos := _, after := #[{ on := 59, ground := Ground.guard }], guard := some (59, true) }) (v := undef) rfl (by kernel_rfl) (by kernel_rfl) (by kernel_rfl) (fun _ _ _ h => h) (Or.inr ⟨by rfl, rfl⟩) hHeld6 ?_
          simp only [Act.put, List.setIfInBounds_toArray, List.set_cons_zero, List.set_cons_succ]
          refine wpAnyH_take (i := 62) (oi := { dst := some 108, op := Op.load 26 (Operand.tmp 107), type := 26, pos := _, after := #[{ on := 61, ground := Ground.data }, { on := 59, ground := Ground.guard }], guard := some (59, true) }) (v := undef) rfl (by kernel_rfl) (by kernel_rfl) (by kernel_rfl) (fun _ _ _ h => h) (Or.inr ⟨by rfl, rfl⟩) hHeld6 ?_
          simp only [Act.put, List.setIfInBounds_toArray, List.set_cons_zero, List.set_cons_succ]
          refine wpAnyH_take (i := 63) (oi := { dst := some 109, op := Op.indexAddr 26 (Operand.tmp 108) (Operand.const (Value.int IntKind.i64 0)), type := 0, pos := _, after := #[{ on := 62, ground := Ground.data }, { on := 59, ground := Ground.guard }], guard := some (59, true) }) (v := undef) rfl (by kernel_rfl) (by kernel_rfl) (by kernel_rfl) (fun _ _ _ h => h) (Or.inr ⟨by rfl, rfl⟩) hHeld6 ?_
          simp only [Act.put, List.setIfInBounds_toArray, List.set_cons_zero, List.set_cons_succ]
          refine wpAnyH_take (i := 64) (oi := { dst := some 110, op := Op.load 46 (Operand.tmp 109), type := 46, pos := _, after := #[{ on := 63, ground := Ground.data }, { on := 59, ground := Ground.guard }], guard := some (59, true) }) (v := undef) rfl (by kernel_rfl) (by kernel_rfl) (by kernel_rfl) (fun _ _ _ h => h) (Or.inr ⟨by rfl, rfl⟩) hHeld6 ?_
          simp only [Act.put, List.setIfInBounds_toArray, List.set_cons_zero, List.set_cons_succ]
          refine wpAnyH_take (i := 65) (oi := { dst := some 111, op := Op.binOp BinOp.neq 46 (Operand.tmp 106) (Operand.tmp 110) 46, type := 4, pos := _, after := #[{ on := 60, ground := Ground.data }, { on := 64, ground := Ground.data }, { on := 59, ground := Ground.guard }], guard := some (59, true) }) (v := undef) rfl (by kernel_rfl) (by kernel_rfl) (by kernel_rfl) (fun _ _ _ h => h) (Or.inr ⟨by rfl, rfl⟩) hHeld6 ?_
          simp only [Act.put, List.setIfInBounds_toArray, List.set_cons_zero, List.set_cons_succ]
          refine wpAnyH_take (i := 66) (oi := { dst := some 112, op := Op.pick (Operand.tmp 105) (Operand.tmp 111) (Operand.const (Value.bool false)), type := 4, pos := _, after := #[{ on := 59, ground := Ground.data }, { on := 65, ground := Ground.data }, { on := 57, ground := Ground.guard }], guard := some (57, false) }) (v := ?vz66) rfl (by kernel_rfl) (by kernel_rfl) (by kernel_rfl) (fun _ _ _ h => h) (Or.inl ⟨by rfl, ?hyz66⟩) hHeld6 ?restz66
          case hyz66 =>
            intro w hSw
            clear hSw
            (go_simp <;> with_reducible rfl)
          simp only [Act.put, List.setIfInBounds_toArray, List.set_cons_zero, List.set_cons_succ]
          refine wpAnyH_take (i := 67) (oi := { dst := some 113, op := Op.pick (Operand.tmp 103) (Operand.const (Value.bool true)) (Operand.tmp 112), type := 4, pos := _, after := #[{ on := 57, ground := Ground.data }, { on := 66, ground := Ground.data }], guard := none }) (v := ?vz67) rfl (by kernel_rfl) (by kernel_rfl) (by kernel_rfl) (fun _ _ _ h => h) (Or.inl ⟨by rfl, ?hyz67⟩) hHeld6 ?restz67
          case hyz67 =>
            intro w hSw
            clear hSw
            (go_simp <;> with_reducible rfl)
          simp only [Act.put, List.setIfInBounds_toArray, List.set_cons_zero, List.set_cons_succ]
          refine wpAnyH_done (by kernel_rfl) ?_ _
          have HEnd := Lib.hid hHeld6.2
          clear hHeld6
          have HAz := Lib.hid (HA9.out.on HEnd.out)
          have HQz := Lib.hid ((HEnd.out.block _ (blk_lt HQ9.out)).trans HQ9.out)
          have HRz := Lib.hid (row_on HR1'.out HEnd.out)
          clear HC HS1 HS2 HLs HLn HCk
          go_wp2_with fail
          go_roundw
          case rel => exact ⟨k + 1, [], last1, _, _, _, by omega, by go_num, HAz, HQz, HRz, Lib.hid (by have := HDL.out; have := HL.out; simp only [Int.natCast_add]; omega)⟩
          case measure => simp [intOf]; omega
      · go_wp2_with fail
        refine (alive_any _).mono ?_
        rintro e w5 ⟨rfl, hb5⟩
        have HB5 := Lib.hid (HA.out.on hb5).below
        clear hb5
        go_wp2_with fail
        go_ret
        exact ⟨rfl, HB5.out⟩
end Go.Proofs.Ytpohfcjmjfhdoaa.alarmAll
