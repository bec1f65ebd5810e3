/-
  The walk of chicanelaw06.AlarmOrder: it returns true, whatever ticks. Conditions: as each states.
-/
import Derived.Test.YtpohfcjmjfhdoaaH4
import Derived.Laws.MakeOwn
import Derived.Deep.OwnRows
namespace Go.Proofs.Ytpohfcjmjfhdoaa.alarmOrder
open Go.RowKit Go.Sort Go.Maps

theorem infoB : (Try.prog.info? 4).map (fun i => (i.zero, i.size, i.bytes)) = some (some (.bool false), 1, 1) := by kernel_rfl
theorem make_any (n : Nat) (h : n ≤ 1000) (w : World) : (Instr.makeSlice 52 (.int .i64 (n : Int)) (.int .i64 (n : Int))).run Try.prog w = .ok (.slice (some ⟨w.heap.size, 0, none⟩) n n) (w.alloc (.cells (madeCells #[.bool false] n) 4)) := by
  obtain ⟨i0, hi0, hz0, hz1, hz2⟩ := info_parts infoB
  have hr := run_make (P := Try.prog) w 52 4 i0 _ Try.underlying52 hi0 hz0 .i64 .i64 n n (by omega) (by omega) (by rw [hz2]; omega) (by omega)
  rw [hz1] at hr
  simp only [Int.toNat_natCast, Nat.mul_one] at hr
  exact hr
/-- Is that id among the first j? -/
def seenB (L : List Due) (j i : Nat) : Bool := (L.take j).any fun d => d.2 == (i : Int)
theorem seen_not {L : List Due} (h : (L.map (·.2)).Nodup) {j i : Nat} (hj : j < L.length) (hi : (L.getD j (0, 0)).2 = (i : Int)) : seenB L j i = false := by
  rw [List.getD_eq_getElem?_getD, List.getElem?_eq_getElem hj] at hi
  unfold seenB
  rw [List.any_eq_false]
  intro d hd
  obtain ⟨k, hk, e⟩ := List.mem_iff_getElem.1 hd
  rw [List.length_take] at hk
  rw [List.getElem_take] at e
  intro he
  have he' : d.2 = (i : Int) := by simpa using he
  have := nodup_at h (i := k) (j := j) (by omega) hj (by rw [e, he']; exact hi.symm)
  omega
theorem seen_next {L : List Due} {j i1 i : Nat} (hj : j < L.length) (hi : (L.getD j (0, 0)).2 = (i1 : Int)) : seenB L (j + 1) i = if i = i1 then true else seenB L j i := by
  rw [List.getD_eq_getElem?_getD, List.getElem?_eq_getElem hj] at hi
  unfold seenB
  rw [List.take_add_one, List.getElem?_eq_getElem hj, List.any_append]
  simp only [Option.getD_some] at hi
  simp only [Option.toList_some, List.any_cons, List.any_nil, Bool.or_false, hi]
  by_cases e : i = i1
  · subst e
    simp
  · rw [if_neg e]
    have : ((i1 : Int) == (i : Int)) = false := by simp; omega
    rw [this, Bool.or_false]
theorem row_below {B : Nat} {w w' : World} {g : Nat} {t : TypeId} {n : Nat} {f : Nat → Value} (h : w.rowIs g t n f) (hb : Below B w w') (hg : g < B) : w'.rowIs g t n f := h.of_block (hb.block g hg)

theorem At.set_one {w0 w : World} {B g : Nat} {L : List Due} {last : Int} (h : At w0 B g L last w) {i : Nat} {cs : Array Value} {T : TypeId} {fr : Nat × Nat} (h1 : T ≠ 62) (h2 : T ≠ 38) (hi : w.heap[i]? = some (.cells cs T fr)) (hw : w0.heap.size ≤ i) (j : Nat) (v : Value) : At w0 B g L last (w.setCell ⟨i, j, none⟩ v) := by
  obtain ⟨u, m, hA, hb, hB⟩ := h
  exact ⟨u, m, hA.set h1 h2 hi j v, hb.setCell (p := ⟨i, j, none⟩) hw v, hB⟩
theorem rowIs_heap {w : World} {b : Nat} {t : TypeId} {n : Nat} {f : Nat → Value} (h : w.rowIs b t n f) : ∃ cs, w.heap[b]? = some (.cells cs t (0, 0)) := by
  obtain ⟨c, hb, _⟩ := h
  exact ⟨c, hb⟩
set_option maxRecDepth 100000 in
set_option maxHeartbeats 16000000 in
theorem walk (p : Option Addr) (m d : Nat) (xs : List Int) (w : World) (hx : xs.length = m) (_hmd : m ≤ d) (_hd : d ≤ 9223372036854775807) (hj : IntsIn w p m xs) :
    Calls Try.prog 4 #[.slice p m d] w fun e w' => e = .returned (.bool true) ∧ Below w.heap.size w w' := by
  have HX := Lib.hid hx
  have HJ := Lib.hid hj
  clear hx hj
  go_enter Try.func4, Try.ntmps4
  go_wp2_with fail
  refine (new_at w _ (Below.refl _ _)).mono ?_
  rintro e w1 ⟨rfl, ha⟩
  have HA1 := Lib.hid ha
  clear ha
  generalize w.heap.size + 1 = g at *
  obtain ⟨B, hB⟩ : ∃ B, w.heap.size = B := ⟨_, rfl⟩
  rw [hB] at HA1
  clear hB
  by_cases hm : 300 < m
  · go_wp2_with fail
    refine (alive_any _).mono ?_
    rintro e w5 ⟨rfl, hb5⟩
    have HB5 := Lib.hid (HA1.out.on hb5).below
    clear hb5
    go_wp2_with fail
    go_ret
    exact ⟨rfl, HB5.out⟩
  · go_wp2_with fail
    go_loopw [4, 28] (fun v i wr => ∃ (k nn : Nat) (L : List Due), k ≤ m ∧ nn ≤ k ∧ v = .int .i64 nn ∧ i = .int .i64 k ∧ Hid (At w B g L nn wr) ∧ Hid (L.length = nn)) (fun _ i _ => m - (intOf i).toNat)
    case atStart => exact ⟨0, 0, [], by omega, by omega, rfl, rfl, HA1, Lib.hid rfl⟩
    case round =>
      obtain ⟨k, nn, L, hk, hnk, rfl, rfl, HA, HLn⟩ := hrel
      by_cases hlt : k < m
      · obtain ⟨b, o, rfl, hcell⟩ := ints_on HJ.out HA.out.below (by omega)
        have c0 := hcell k hlt
        generalize xs.getD k 0 = a at *
        clear hcell
        cases hr : rightB a with
        | true =>
          have HS := Lib.hid (set_at HA.out (by rw [HLn.out]; omega) (by omega) hr (N := ((nn + 1 : Nat) : Int)) (by omega) rfl)
          have HP := Lib.hid (show (putD L (a, ((nn + 1 : Nat) : Int))).length = nn + 1 by rw [put_length, HLn.out])
          have kn : IntKind.i64.wrap ((nn : Int) + 1) = ((nn + 1 : Nat) : Int) := by rw [show ((nn : Int) + 1) = ((nn + 1 : Nat) : Int) by omega]; exact IntWalk.i64_in _ (by omega)
          obtain ⟨n', hn'⟩ : ∃ n', nn + 1 = n' := ⟨_, rfl⟩
          rw [hn'] at HS HP kn
          have hnk' : n' ≤ k + 1 := by omega
          clear hr hn'
          go_wp2_with fail
          refine HS.out.mono ?_
          rintro e w3 ⟨rfl, ha3⟩
          have HA3 := Lib.hid ha3
          clear ha3 HS c0
          go_wp2_with fail
          go_roundw
          case rel => exact ⟨k + 1, n', _, by omega, by omega, by first | rfl | go_num, by go_num, HA3, HP⟩
          case measure => simp [intOf]; omega
        | false =>
          have HS := Lib.hid (bad_at HA.out hr)
          clear hr
          go_wp2_with fail
          refine HS.out.mono ?_
          rintro e w3 ⟨rfl, ha3⟩
          have HA3 := Lib.hid ha3
          clear ha3 HS c0
          go_wp2_with fail
          go_roundw
          case rel => exact ⟨k + 1, nn, L, by omega, by omega, by first | rfl | go_num, by go_num, HA3, HLn⟩
          case measure => simp [intOf]; omega
      · clear HA1
        have hnm : nn ≤ 300 := by omega
        have HTk := Lib.hid (show dueN L 1099511627776 = nn from by rw [due_all (fun d hd => (HA.out.rg d hd).1.2), HLn.out])
        have HSr := Lib.hid HA.out.srt
        have HRg := Lib.hid HA.out.rg
        have HTa := Lib.hid (take_at HA.out 1099511627776 HTk.out (O := L) (D := []) (by rw [← HLn.out, List.take_length]) (by rw [← HLn.out, List.drop_length]))
        have kn : IntKind.i64.wrap ((nn : Int) + 1) = ((nn + 1 : Nat) : Int) := by rw [show ((nn : Int) + 1) = ((nn + 1 : Nat) : Int) by omega]; exact IntWalk.i64_in _ (by omega)
        obtain ⟨n', hn'⟩ : ∃ n', nn + 1 = n' := ⟨_, rfl⟩
        have hmk := make_any n' (by omega)
        rw [hn'] at kn
        obtain ⟨Z, hZ⟩ : ∃ Z, wr.heap.size = Z := ⟨_, rfl⟩
        rw [hZ] at HTa
        clear hZ HTk
        go_wp2_with fail
        refine HTa.out.mono ?_
        rintro e w3 ⟨⟨q, c, rfl, ho⟩, ha3⟩
        have HO3 := Lib.hid ho
        have HA3 := Lib.hid ha3
        clear ha3 ho HTa HA
        clear wr
        go_wp2_with fail
        have hal : Below w3.heap.size w3 (w3.alloc (.cells (madeCells #[.bool false] n') 4)) := (Below.refl _ _).alloc (Nat.le_refl _) _
        have HA4 := Lib.hid (HA3.out.on hal)
        have HO4 := Lib.hid (own_on HO3.out hal)
        have HR4 := Lib.hid ((World.rowIs_made w3 (.bool false) n' 4).congr (g := fun i => .bool (seenB L 0 i)) (fun i _ => by simp [seenB]))
        have HNe := Lib.hid (show (∀ i, (Value.slice q nn c).ownBlock = some i → i < w3.heap.size) ∧ w.heap.size ≤ w3.heap.size from ⟨fun i hi => (HO3.out.lt i hi).2, HA3.out.below.size⟩)
        clear hal HA3 HO3 hmk kn
        generalize w3.alloc (.cells (madeCells #[.bool false] n') 4) = w4 at *
        generalize w3.heap.size = sb at *
        clear w3
        go_loopw [53] (fun i wr => ∃ (j : Nat), j ≤ nn ∧ i = .int .i64 j ∧ Hid (At w B g [] nn wr) ∧ Hid (wr.ownsRow Z 38 2 (.slice q nn c) nn (flat L)) ∧ Hid (wr.rowIs sb 4 n' (fun i => .bool (seenB L j i)))) (fun i _ => nn - (intOf i).toNat)
        case atStart => exact ⟨0, by omega, rfl, HA4, HO4, HR4⟩
        case round =>
          clear HA4 HO4 HR4 w4
          obtain ⟨j, hj, rfl, HA5, HO5, HR5⟩ := hrel
          by_cases hjn : j < nn
          · have hno : nn = L.length := HLn.out.symm
            obtain ⟨b5, c5, e5, _⟩ := row_form (h := L) (by rw [← hno]; exact HO5.out) (by omega)
            rw [← hno] at e5
            cases e5
            have hcells := fun k hk => row_cells (h := L) (k := k) (by rw [← hno]; exact HO5.out) hk
            obtain ⟨r0, r1⟩ := hcells j (by omega)
            obtain ⟨x, hx⟩ : ∃ x, L.getD j (0, 0) = x := ⟨_, rfl⟩
            have hxm : x ∈ L := by
              rw [← hx, List.getD_eq_getElem?_getD, List.getElem?_eq_getElem (by omega)]
              exact List.getElem_mem _
            have hxr := (HRg.out x hxm).2
            obtain ⟨x0, x1⟩ := x
            dsimp only at hxr
            obtain ⟨i1, hi⟩ : ∃ i1 : Nat, x1 = (i1 : Int) := ⟨x1.toNat, by omega⟩
            have HTi := Lib.hid (show x1.toNat = i1 by omega)
            rw [hx] at r0 r1
            dsimp only at r0 r1
            have hi1 : 1 ≤ x1 := by omega
            have hi2 : x1 ≤ nn := by omega
            have hin : i1 < n' := by omega
            have hin' : x1 < n' := by omega
            have hns := seen_not HSr.out.2 (j := j) (i := i1) (by omega) (by rw [hx]; exact hi)
            have HNx := Lib.hid (fun i => seen_next (L := L) (j := j) (i1 := i1) (i := i) (by omega) (by rw [hx]; exact hi))
            have hbl := World.block_lt_of_cell? wr _ r0
            have hal : Below wr.heap.size wr (wr.alloc (.cells #[.int .i64 x0, .int .i64 x1] 38)) := (Below.refl _ _).alloc (Nat.le_refl _) _
            have HA6 := Lib.hid (HA5.out.on hal)
            have HO6 := Lib.hid (own_on HO5.out hal)
            have HR6 := Lib.hid (HR5.out.alloc (.cells #[.int .i64 x0, .int .i64 x1] 38))
            have HD6 := Lib.hid (heap_alloc_new wr (.cells #[.int .i64 x0, .int .i64 x1] 38))
            have HPr := Lib.hid (show ∀ v, j = v + 1 → ∃ y0 y1, L.getD v (0, 0) = (y0, y1) ∧ (y0 < x0 ∨ y0 = x0 ∧ y1 < x1) from fun v hv => by
              refine ⟨(L.getD v (0, 0)).1, (L.getD v (0, 0)).2, rfl, ?_⟩
              have h1 := List.pairwise_iff_getElem.1 HSr.out.1 v j (by omega) (by omega) (by omega)
              rw [List.getD_eq_getElem?_getD, List.getElem?_eq_getElem (by omega)] at hx
              simp only [Option.getD_some] at hx
              rw [hx] at h1
              rw [List.getD_eq_getElem?_getD, List.getElem?_eq_getElem (by omega)]
              simpa [aheadB] using h1)
            clear hal hxm hxr hx hcells hno hi
            go_wp2_with fail
            generalize wr.alloc (.cells #[.int .i64 x0, .int .i64 x1] 38) = W6 at *
            generalize wr.heap.size = nb at *
            have z0 : W6.cell? ⟨nb, 0, none⟩ = some (.int .i64 x0) := cell_of_row _ _ 0 _ _ _ HD6.out
            have z1 : W6.cell? ⟨nb, 1, none⟩ = some (.int .i64 x1) := cell_of_row _ _ 1 _ _ _ HD6.out
            have s1 : W6.cell? ⟨sb, x1.toNat, none⟩ = some (.bool false) := by rw [HTi.out, HR6.out.cell hin, hns]
            have q0 : decide (x1 < 1) = false := by simp; omega
            have q1 : decide ((nn : Int) < x1) = false := by simp; omega
            clear hns HA5 HO5 HR5 hbl r0 r1
            cases j with
            | zero =>
              go_quiet (fail)
              rename_i nq
              clear z0 z1 s1 q0 q1
              have hdn := below_drewN W6 nq
              have HA7 := Lib.hid (HA6.out.on hdn)
              have HO7 := Lib.hid (own_on HO6.out hdn)
              have HR7 := Lib.hid (row_below HR6.out hdn HR6.out.lt)
              have z1 : (W6.drewN nq).cell? ⟨nb, 1, none⟩ = some (.int .i64 x1) := cell_of_row _ _ 1 _ _ _ HD6.out
              clear hdn HA6 HO6 HR6
              generalize W6.drewN nq = W7 at *
              have s1 : W7.cell? ⟨sb, x1.toNat, none⟩ = some (.bool (seenB L 0 i1)) := by rw [HTi.out]; exact HR7.out.cell hin
              have s2 := HR7.out.frozen x1.toNat
              have hset := HR7.out.set x1.toNat (.bool true)
              obtain ⟨cs, hcs⟩ := rowIs_heap HR7.out
              have HA8 := Lib.hid (At.set_one HA7.out (by decide) (by decide) hcs HNe.out.2 x1.toNat (.bool true))
              have HO8 := Lib.hid (HO7.out.kept (grown_set W7 ⟨sb, x1.toNat, none⟩ (.bool true)) (Or.inr (fun e => Nat.lt_irrefl _ (HNe.out.1 _ e))))
              have HR8 := Lib.hid (hset.congr (g := fun i => .bool (seenB L (0 + 1) i)) (fun i _ => by
                rw [HNx.out i, HTi.out]
                by_cases e : i = i1
                · rw [if_pos e, if_pos e]
                · rw [if_neg e, if_neg e]))
              clear hset hcs HA7 HO7 HR7
              go_wp2_with fail
              go_roundw
              case rel => exact ⟨0 + 1, by omega, by go_num, HA8, HO8, HR8⟩
              case measure => simp [intOf]; omega
            | succ v =>
              obtain ⟨y0, y1, hy, hlt2⟩ := HPr.out v rfl
              have hcv := row_cells (h := L) (k := v) (by rw [HLn.out]; exact HO6.out) (by rw [HLn.out]; omega)
              rw [hy] at hcv
              obtain ⟨t0, t1⟩ := hcv
              dsimp only at t0 t1
              have kv : IntKind.i64.wrap (v : Int) = (v : Int) := IntWalk.i64_in _ (by omega)
              have q2 : decide ((0 : Int) < (v : Int) + 1) = true := by rw [decide_eq_true_eq]; omega
              have q3 : decide (x0 < y0) = false := by simp; omega
              clear hy
              by_cases hxy : y0 = x0
              · have q4 : (y0 == x0) = true := by simpa using hxy
                have q5 : decide (x1 ≤ y1) = false := by simp; omega
                clear hlt2 hxy
                go_quiet (fail)
                rename_i nq
                clear z0 z1 s1 q0 q1 t0 t1 kv q2 q3 q4 q5
                have hdn := below_drewN W6 nq
                have HA7 := Lib.hid (HA6.out.on hdn)
                have HO7 := Lib.hid (own_on HO6.out hdn)
                have HR7 := Lib.hid (row_below HR6.out hdn HR6.out.lt)
                have z1 : (W6.drewN nq).cell? ⟨nb, 1, none⟩ = some (.int .i64 x1) := cell_of_row _ _ 1 _ _ _ HD6.out
                clear hdn HA6 HO6 HR6
                generalize W6.drewN nq = W7 at *
                have s1 : W7.cell? ⟨sb, x1.toNat, none⟩ = some (.bool (seenB L (v + 1) i1)) := by rw [HTi.out]; exact HR7.out.cell hin
                have s2 := HR7.out.frozen x1.toNat
                have hset := HR7.out.set x1.toNat (.bool true)
                obtain ⟨cs, hcs⟩ := rowIs_heap HR7.out
                have HA8 := Lib.hid (At.set_one HA7.out (by decide) (by decide) hcs HNe.out.2 x1.toNat (.bool true))
                have HO8 := Lib.hid (HO7.out.kept (grown_set W7 ⟨sb, x1.toNat, none⟩ (.bool true)) (Or.inr (fun e => Nat.lt_irrefl _ (HNe.out.1 _ e))))
                have HR8 := Lib.hid (hset.congr (g := fun i => .bool (seenB L ((v + 1) + 1) i)) (fun i _ => by
                  rw [HNx.out i, HTi.out]
                  by_cases e : i = i1
                  · rw [if_pos e, if_pos e]
                  · rw [if_neg e, if_neg e]))
                clear hset hcs HA7 HO7 HR7
                go_wp2_with fail
                go_roundw
                case rel => exact ⟨(v + 1) + 1, by omega, by go_num, HA8, HO8, HR8⟩
                case measure => simp [intOf]; omega
              · have q4 : (y0 == x0) = false := by simpa using hxy
                clear hlt2 hxy
                go_quiet (fail)
                rename_i nq
                clear z0 z1 s1 q0 q1 t0 t1 kv q2 q3 q4
                have hdn := below_drewN W6 nq
                have HA7 := Lib.hid (HA6.out.on hdn)
                have HO7 := Lib.hid (own_on HO6.out hdn)
                have HR7 := Lib.hid (row_below HR6.out hdn HR6.out.lt)
                have z1 : (W6.drewN nq).cell? ⟨nb, 1, none⟩ = some (.int .i64 x1) := cell_of_row _ _ 1 _ _ _ HD6.out
                clear hdn HA6 HO6 HR6
                generalize W6.drewN nq = W7 at *
                have s1 : W7.cell? ⟨sb, x1.toNat, none⟩ = some (.bool (seenB L (v + 1) i1)) := by rw [HTi.out]; exact HR7.out.cell hin
                have s2 := HR7.out.frozen x1.toNat
                have hset := HR7.out.set x1.toNat (.bool true)
                obtain ⟨cs, hcs⟩ := rowIs_heap HR7.out
                have HA8 := Lib.hid (At.set_one HA7.out (by decide) (by decide) hcs HNe.out.2 x1.toNat (.bool true))
                have HO8 := Lib.hid (HO7.out.kept (grown_set W7 ⟨sb, x1.toNat, none⟩ (.bool true)) (Or.inr (fun e => Nat.lt_irrefl _ (HNe.out.1 _ e))))
                have HR8 := Lib.hid (hset.congr (g := fun i => .bool (seenB L ((v + 1) + 1) i)) (fun i _ => by
                  rw [HNx.out i, HTi.out]
                  by_cases e : i = i1
                  · rw [if_pos e, if_pos e]
                  · rw [if_neg e, if_neg e]))
                clear hset hcs HA7 HO7 HR7
                go_wp2_with fail
                go_roundw
                case rel => exact ⟨(v + 1) + 1, by omega, by go_num, HA8, HO8, HR8⟩
                case measure => simp [intOf]; omega
          · go_wp2_with fail
            refine (alive_any _).mono ?_
            rintro e w6 ⟨rfl, hb6⟩
            have HA6 := Lib.hid (HA5.out.on hb6)
            clear hb6 HA5 HO5 HR5
            go_wp2_with fail
            refine (len_at HA6.out (n := 0) rfl).mono ?_
            rintro e w7 ⟨rfl, rfl⟩
            have HE := Lib.hid HA6.out.below
            go_wp2_with fail
            go_ret
            exact ⟨ret_bool (by simp), HE.out⟩
end Go.Proofs.Ytpohfcjmjfhdoaa.alarmOrder
