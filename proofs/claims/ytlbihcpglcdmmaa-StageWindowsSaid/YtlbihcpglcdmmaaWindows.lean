/-
  The walk of chicanelaw10.StageWindows: it returns true, whatever rate, burst and puts. Conditions: as each states.
-/
import Derived.Test.YtlbihcpglcdmmaaZN
namespace Go.Proofs.Ytlbihcpglcdmmaa.stageWindows
open Go.RowKit

theorem law_size (k a b : Int) : (lawTox k a b).s.size ≤ maxLen := by show (1 : Nat) ≤ maxLen; decide
theorem seqB {w w1 w2 : World} (h1 : Below w.heap.size w w1) (h2 : Below w1.heap.size w1 w2) : Below w.heap.size w w2 := h1.trans (h2.mono h1.size)
/-- Nothing to be shown: the law says true at once. -/
def Alive (w : World) (e : Ending) (w' : World) : Prop := e = .returned (.bool true) ∧ Below w.heap.size w w'
theorem box4 {w w1 : World} {g : Nat} {c0 c1 c2 c3 : Value} {T : TypeId} {fr : Nat × Nat} (h : w.heap[g]? = some (.cells #[c0, c1, c2, c3] T fr)) (hb : Below w.heap.size w w1) :
    w1.cell? ⟨g, 0, none⟩ = some c0 ∧ w1.cell? ⟨g, 1, none⟩ = some c1 ∧ w1.cell? ⟨g, 2, none⟩ = some c2 ∧ w1.cell? ⟨g, 3, none⟩ = some c3 := by
  have h1 := (hb.block _ (blk_lt h)).trans h
  exact ⟨cell_of_row _ _ 0 _ _ _ h1, cell_of_row _ _ 1 _ _ _ h1, cell_of_row _ _ 2 _ _ _ h1, cell_of_row _ _ 3 _ _ _ h1⟩
theorem sm_le {l : List Int} {B : Int} (h : ∀ g ∈ l, g ≤ B) (_hB : 0 ≤ B) : gb.sm l ≤ (l.length : Int) * B := by
  induction l with
  | nil => simp [gb.sm]
  | cons x r ih =>
    have h1 := h x (by simp)
    have h2 := ih fun g hg => h g (by simp [hg])
    simp only [gb.sm, List.length_cons, Int.natCast_add, Int.add_mul]
    omega
set_option maxRecDepth 100000 in
set_option maxHeartbeats 8000000 in
theorem no_new (r u : Int) (h : newE (lawTox 2 r u) 4096 ≠ 0) (p : Option Addr) (m d : Nat) (w : World) :
    Calls Try.prog 5 #[.int .i64 r, .int .i64 u, .slice p m d] w (Alive w) := by
  unfold Alive
  have HN := Lib.hid (fun W => new_no (seed := 1) (now := 0) (t := lawTox 2 r u) (law_size _ _ _) h W)
  have hE : (newE (lawTox 2 r u) 4096 != 0) = true := by simpa using h
  generalize newE (lawTox 2 r u) 4096 = E at *
  unfold Tox.v lawTox at HN
  simp only at HN
  have HB := Lib.hid (rnew_any r u)
  clear h
  go_enter Try.func5, Try.ntmps5
  go_wp2_with fail
  refine (HN.out _).mono ?_
  rintro e w2 ⟨rfl, hb⟩
  have HB2 := Lib.hid hb
  clear hb
  go_wp2_with fail
  refine (HB.out _).mono ?_
  rintro e w3 ⟨a, b, c, d', n, rfl, hb, _⟩
  have HB3 := Lib.hid (seqB (seqB HB2.out hb) ((Below.refl _ _).alloc (Nat.le_refl _) (.cells #[.int .i64 a, .int .i64 b, .int .i64 c, .int .i64 d'] 58)))
  clear hb
  go_wp2_with fail
  generalize w3.alloc (.cells #[.int .i64 a, .int .i64 b, .int .i64 c, .int .i64 d'] 58) = w4 at *
  refine (alive_any _).mono ?_
  rintro e w5 ⟨rfl, hb⟩
  have HB5 := Lib.hid (seqB HB3.out hb)
  clear hb
  go_wp2_with fail
  go_ret
  exact ⟨rfl, HB5.out⟩
set_option maxRecDepth 100000 in
set_option maxHeartbeats 16000000 in
theorem walk (r u : Int) (p : Option Addr) (m d : Nat) (os : List Pt) (w : World) (hx : os.length = m) (_hmd : m ≤ d) (_hd : d ≤ 9223372036854775807) (hj : PutsIn w p m os) :
    Calls Try.prog 5 #[.int .i64 r, .int .i64 u, .slice p m d] w (Alive w) := by
  by_cases h : newE (lawTox 2 r u) 4096 = 0
  case neg => exact no_new r u h p m d w
  unfold Alive
  have hck := band_chk ((law_newE 2 r u 4096 (by omega) (by omega)).symm.trans h)
  have HCK := Lib.hid hck
  have HN := Lib.hid (fun W => new_ok (seed := 1) (now := 0) (t := lawTox 2 r u) (law_size _ _ _) h W)
  have HL0 := Lib.hid (win_new (seed := 1) (r := r) (u := u) ⟨hck.1, hck.2.1⟩ hck.2.2)
  have HJ := Lib.hid hj
  have HX := Lib.hid hx
  have HB := Lib.hid (rnew_any r u)
  generalize newS (lawTox 2 r u) 1 4096 0 = s0 at *
  unfold Tox.v lawTox at HN
  simp only at HN
  clear h hck hj hx
  go_enter Try.func5, Try.ntmps5
  go_wp2_with fail
  refine (HN.out _).mono ?_
  rintro e w2 ⟨g, U, rfl, hr, hu, hb⟩
  have HA2 := Lib.hid (show Hd w w2 U g s0 0 from ⟨hr, hu, hb⟩)
  clear hr hu hb HN
  go_wp2_with fail
  refine (HB.out _).mono ?_
  rintro e w3 ⟨a, b, c, d', n, rfl, hb, heq⟩
  obtain ⟨rfl, rfl, rfl, rfl, rfl⟩ := heq ⟨HCK.out.1, HCK.out.2.1⟩ HCK.out.2.2
  have hal : Below w3.heap.size w3 (w3.alloc (.cells #[.int .i64 a, .int .i64 c, .int .i64 c, .int .i64 0] 58)) := (Below.refl _ _).alloc (Nat.le_refl _) _
  have HA4 := Lib.hid ((HA2.out.on hb).on hal)
  have HK4 := Lib.hid (show _ ∧ ¬ U w3.heap.size from ⟨heap_alloc_new w3 (.cells #[.int .i64 a, .int .i64 c, .int .i64 c, .int .i64 0] 58), (HA2.out.on hb).new (Nat.le_refl _)⟩)
  clear hb hal heq HA2 HB
  by_cases hm : 40 < m
  · have d1 : decide ((40 : Int) < (m : Int)) = true := decide_eq_true (by omega)
    go_wp2_with fail
    refine (alive_any _).mono ?_
    rintro e w5 ⟨rfl, hb⟩
    have HE := Lib.hid (HA4.out.on hb).2.2
    clear hb
    go_wp2_with fail
    go_ret
    exact ⟨rfl, HE.out⟩
  have d1 : decide ((40 : Int) < (m : Int)) = false := decide_eq_false (by omega)
  have hm40 : m ≤ 40 := by omega
  clear hm
  go_wp2_with fail
  generalize w3.alloc (.cells #[.int .i64 a, .int .i64 c, .int .i64 c, .int .i64 0] 58) = w4 at *
  generalize w3.heap.size = bb at *
  go_loopw [11, 12, 13, 50] (fun vn va vg i wr => ∃ (k : Nat) (now : Int) (qa qg : Option Addr) (n da dg : Nat) (ats gs : List Int) (s : St) (U' : Own), k ≤ m ∧ i = .int .i64 k ∧ vn = .int .i64 now ∧ va = .slice qa n da ∧ vg = .slice qg n dg ∧ n ≤ k ∧ Hid (Hd w wr U' g s (200 * k)) ∧ Hid (WinI a c s now ats gs) ∧ Hid (Row w wr U' qa n da ats) ∧ Hid (Row w wr U' qg n dg gs) ∧ Hid (Apart qa qg) ∧ Hid (wr.heap[bb]? = some (.cells #[.int .i64 a, .int .i64 c, .int .i64 c, .int .i64 0] 58 (0, 0)) ∧ ¬ U' bb) ∧ Hid (∀ x ∈ gs, x ≤ 4096)) (fun _ _ _ i _ => m - (intOf i).toNat)
  case atStart => exact ⟨0, 0, none, none, 0, 0, 0, [], [], s0, U, by omega, rfl, rfl, rfl, rfl, by omega, HA4, HL0, Lib.hid (row_nil _ _ _), Lib.hid (row_nil _ _ _), Lib.hid (fun x _ h => by cases h), HK4, Lib.hid (fun _ h => by cases h)⟩
  case round =>
    clear HA4 HL0 HK4
    obtain ⟨k, now, qa, qg, n, da, dg, ats, gs, s, U1, hk, rfl, rfl, rfl, rfl, hnk, HA, HL, HRA, HRG, HAP, HKB, HGL⟩ := hrel
    by_cases hlt : k < m
    · obtain ⟨b, o, rfl, hcell⟩ := puts_on HJ.out HA.out.2.2 (by omega)
      obtain ⟨c0, c1, c2⟩ := hcell k hlt
      generalize os.getD k noPt = op at *
      obtain ⟨lt, tk, N⟩ := op
      simp only at c0 c1 c2
      rw [← Nat.add_assoc] at c1 c2
      have hal : Below wr.heap.size wr (wr.alloc (.cells #[.int .i64 lt, .bool tk, .int .i64 N] 52)) := (Below.refl _ _).alloc (Nat.le_refl _) _
      have HA4 := Lib.hid (HA.out.on hal)
      have HRA4 := Lib.hid (HRA.out.on hal)
      have HRG4 := Lib.hid (HRG.out.on hal)
      have HK4 := Lib.hid (show _ ∧ ¬ U1 bb from ⟨(hal.block _ (blk_lt HKB.out.1)).trans HKB.out.1, HKB.out.2⟩)
      have HP4 := Lib.hid (heap_alloc_new wr (.cells #[.int .i64 lt, .bool tk, .int .i64 N] 52))
      have HPU4 := Lib.hid (HA.out.new (Nat.le_refl _))
      have HAD := Lib.hid (fun W => add_any now lt W)
      have hn0 := HL.out.base.now0
      have hn1 := HL.out.base.now1
      have hnn := addT_le (b := lt) hn0 hn1
      have hnr := addT_range now lt
      generalize addT now lt = now' at *
      clear hcell hal HA HRA HRG HKB
      go_upto_region 10 with fail
      generalize wr.alloc (.cells #[.int .i64 lt, .bool tk, .int .i64 N] 52) = w4 at *
      generalize wr.heap.size = go at *
      have y0 := cell_of_row w4 go 0 _ _ _ HP4.out
      have y1 := cell_of_row w4 go 1 _ _ _ HP4.out
      have y2 := cell_of_row w4 go 2 _ _ _ HP4.out
      clear c0 c1 c2
      cases tk with
      | false =>
        go_wp2_with fail
        refine (HAD.out _).mono ?_
        rintro e w5 ⟨rfl, rfl⟩
        obtain ⟨z, hz0, hz1⟩ : ∃ z : Nat, (min (max N 0) 200 : Int) = (z : Int) ∧ z ≤ 200 := ⟨(min (max N 0) 200 : Int).toNat, by omega, by omega⟩
        obtain ⟨w6, r6, hi6, hb6⟩ := make_zeros w4 z hz1
        have HPU := Lib.hid (put_i (HA4.out.on hb6).1 now' (p := some ⟨w4.heap.size, 0, none⟩) (n := z) (c := z) (zeros_size z) hi6 (M' := 200 * (k + 1)) (by rw [zeros_size]; omega) (by omega))
        have HL5 := Lib.hid (win_put HL.out hnn hnr.2 (zeros z))
        have HA6 := Lib.hid (HA4.out.on hb6)
        have HRA6 := Lib.hid (HRA4.out.on hb6)
        have HRG6 := Lib.hid (HRG4.out.on hb6)
        have HK6 := Lib.hid (show _ ∧ ¬ U1 bb from ⟨(hb6.block _ (blk_lt HK4.out.1)).trans HK4.out.1, HK4.out.2⟩)
        clear hi6 hb6 HL HA4 HRA4 HRG4 HK4 HAD y0 HP4 HPU4
        go_wp2_with fail
        refine HPU.out.mono ?_
        rintro e w7 ⟨rfl, hs⟩
        obtain ⟨U7, h7, hr7⟩ := HA6.out.step hs
        have HA7 := Lib.hid h7
        have HRA7 := Lib.hid (HRA6.out.rest hr7)
        have HRG7 := Lib.hid (HRG6.out.rest hr7)
        have HK7 := Lib.hid (block_kept hr7 HK6.out.2 HK6.out.1)
        clear hs h7 hr7 HA6 HRA6 HRG6 HK6 HPU
        go_wp2_with fail
        go_roundw
        case rel => exact ⟨k + 1, now', qa, qg, n, da, dg, ats, gs, _, U7, by omega, by go_num, rfl, rfl, rfl, by omega, HA7, HL5, HRA7, HRG7, HAP, HK7, HGL⟩
        case measure => simp [intOf]; omega
      | true =>
        go_wp2_with fail
        refine (HAD.out _).mono ?_
        rintro e w5 ⟨rfl, rfl⟩
        have hwt := win_take HL.out hnn hnr.2 N
        obtain ⟨T, hT⟩ : ∃ T, (takeS s now' N).2 = T := ⟨_, rfl⟩
        obtain ⟨s1, hs1⟩ : ∃ s1, (takeS s now' N).1 = s1 := ⟨_, rfl⟩
        rw [hT, hs1] at hwt
        have HL5 := Lib.hid hwt.1
        have HGL5 := Lib.hid (show ∀ x ∈ gs ++ [((T.size : Nat) : Int)], x ≤ 4096 from fun x hx => by
          rcases List.mem_append.1 hx with h1 | h1
          · exact HGL.out x h1
          · rw [List.mem_singleton.1 h1]
            have := hwt.2
            have := HCK.out.2.2.2
            omega)
        have hA4d : Hd w w4.drew U1 g s (200 * k) := HA4.out.on ⟨rfl, rfl, rfl, Nat.le_refl _, fun _ _ => rfl⟩
        have hRA4d : Row w w4.drew U1 qa n da ats := HRA4.out.on ⟨rfl, rfl, rfl, Nat.le_refl _, fun _ _ => rfl⟩
        have hRG4d : Row w w4.drew U1 qg n dg gs := HRG4.out.on ⟨rfl, rfl, rfl, Nat.le_refl _, fun _ _ => rfl⟩
        obtain ⟨qa', da', w5, r5, ra5, rg5, ap5, h5, kp5⟩ := app_two hRA4d hRG4d HAP.out hA4d (by omega) now'
        have HR5 := Lib.hid (show ∀ ty, (Builtin.append_ #[50, 50] ty #[.slice qa n da, .slice (some ⟨w4.heap.size, 0, none⟩) 1 1]).run Try.prog (w4.alloc (.cells #[.int .i64 now'] 3)).drew = .ok (.slice qa' (n + 1) da') w5 from r5)
        have hp5 := kp5 go _ _ (by decide) HP4.out
        have hk5 := kp5 bb _ _ (by decide) HK4.out.1
        have HTI := Lib.hid (take_i h5.1 now' N hT)
        rw [hs1] at HTI
        have HNX := Lib.hid (show ∀ w6 q2, StpQ w5 U1 g s1 (200 * k) q2 T.size w6 → ∃ U6 qg' dg' w7, w6.cell? ⟨go, 2, none⟩ = some (.int .i64 N) ∧ (∀ ty, (Builtin.append_ #[50, 50] ty #[.slice qg n dg, .slice (some ⟨w6.heap.size, 0, none⟩) 1 1]).run Try.prog (w6.alloc (.cells #[.int .i64 (T.size : Int)] 3)) = .ok (.slice qg' (n + 1) dg') w7) ∧ w7.cell? ⟨go, 2, none⟩ = some (.int .i64 N) ∧
          (Hd w w7 U6 g s1 (200 * k) ∧ Row w w7 U6 qa' (n + 1) da' (ats ++ [now']) ∧ Row w w7 U6 qg' (n + 1) dg' (gs ++ [((T.size : Nat) : Int)]) ∧ Apart qa' qg' ∧ w7.heap[bb]? = some (.cells #[.int .i64 a, .int .i64 c, .int .i64 c, .int .i64 0] 58 (0, 0)) ∧ ¬ U6 bb) from fun w6 q2 hs => by
            obtain ⟨U6, h6, hr6, _⟩ := h5.stepq hs
            have hp6 := block_kept hr6 HPU4.out hp5
            have hk6 := block_kept hr6 HK4.out.2 hk5
            obtain ⟨qg', dg', w7, r7, rg7, ra7, ap7, h7, kp7⟩ := app_two (rg5.rest hr6) (ra5.rest hr6) ap5.symm h6 (by omega) (T.size : Int)
            exact ⟨U6, qg', dg', w7, cell_of_row w6 go 2 _ _ _ hp6.1, r7, cell_of_row w7 go 2 _ _ _ (kp7 go _ _ (by decide) hp6.1), h7, ra7, rg7, ap7.symm, kp7 bb _ _ (by decide) hk6.1, hk6.2⟩)
        have HS4 := Lib.hid (show w4.drew.cell? ⟨go, 2, none⟩ = some (.int .i64 N) from y2)
        have HSA := Lib.hid (show ∀ o, (w4.alloc o).drew.cell? ⟨go, 2, none⟩ = some (.int .i64 N) from fun o => by
          have hal : Below w4.heap.size w4 (w4.alloc o) := (Below.refl _ _).alloc (Nat.le_refl _) _
          exact (hal.cell (World.block_lt_of_cell? w4 _ y2)).trans y2)
        have HS5 := Lib.hid (show w5.cell? ⟨go, 2, none⟩ = some (.int .i64 N) from cell_of_row w5 go 2 _ _ _ hp5)
        have HSB := Lib.hid (show ∀ (W : World) o, W.cell? ⟨go, 2, none⟩ = some (.int .i64 N) → (W.alloc o).cell? ⟨go, 2, none⟩ = some (.int .i64 N) from fun W o hW => by
          have hal : Below W.heap.size W (W.alloc o) := (Below.refl _ _).alloc (Nat.le_refl _) _
          exact (hal.cell (World.block_lt_of_cell? W _ hW)).trans hW)
        clear hwt hT hs1 hA4d hRA4d hRG4d r5 ra5 rg5 ap5 h5 kp5 hp5 hk5 HA4 HRA4 HRG4 HK4 HP4 HPU4 HL HAD HGL
        go_wp2_with fail
        go_region_held_law (fun W => W.cell? ⟨go, 2, none⟩ = some (.int .i64 N))
          (first
            | with_reducible assumption
            | with_reducible exact HS4.out
            | with_reducible exact HSA.out _
            | with_reducible exact HS5.out
            | with_reducible exact HSB.out _ _ (by assumption))
          (first
            | (refine step_append_eq rfl _ _ _ _ rfl _ _ rfl rfl HR5.out ?_)
            | (refine step_append_eq rfl _ _ _ _ rfl _ _ rfl rfl HR6.out ?_)
            | (go_at_call 16; (with_reducible refine Calls.mono HTI.out ?_); rintro e w6 ⟨q2, d2, rfl, hi, hTs, hd1, hd2, hs⟩; obtain ⟨U6, qg', dg', w7, hc6, hr6, hc7, hf7⟩ := HNX.out w6 q2 hs; (have HR6 := Lib.hid hr6); (have HF7 := Lib.hid hf7); clear hi hTs hd1 hd2 hs hr6 hf7))
        have HE7 := Lib.hid (HF7.out.1.mono (show 200 * k ≤ 200 * (k + 1) by omega) (by omega))
        go_wp2_with fail
        go_roundw
        case rel => exact ⟨k + 1, now', qa', qg', n + 1, da', dg', ats ++ [now'], gs ++ [((T.size : Nat) : Int)], s1, U6, by omega, by go_num, rfl, rfl, rfl, by omega, HE7, HL5, Lib.hid HF7.out.2.1, Lib.hid HF7.out.2.2.1, Lib.hid HF7.out.2.2.2.1, Lib.hid HF7.out.2.2.2.2, HGL5⟩
        case measure => simp [intOf]; omega
    · have hwin := HL.out.win
      have HWN := Lib.hid hwin
      have HBW := Lib.hid HA.out.2.2
      have hla := HRA.out.len
      have hlg := HRG.out.len
      have HLA := Lib.hid hla
      have HLG := Lib.hid hlg
      have HN1 := Lib.hid HL.out.base.now1
      clear hwin hla hlg HL HAP
      go_wp2_with fail
      rename World => wC
      go_loopw [85] (fun iv wl => ∃ (i : Nat), i ≤ n ∧ iv = .int .i64 i ∧ Hid (Below wC.heap.size wC wl)) (fun iv _ => n - (intOf iv).toNat)
      case atStart => exact ⟨0, by omega, rfl, Lib.hid (Below.refl _ _)⟩
      case round =>
        obtain ⟨i, hi, rfl, HBi⟩ := hrel
        by_cases hik : i < n
        · go_wp2_with fail
          rename World => wI
          go_loopw [17, 18] (fun sv jv wl => ∃ (j : Nat) (s : Int), i ≤ j ∧ j ≤ n ∧ jv = .int .i64 j ∧ sv = .int .i64 s ∧ Hid (s = gb.sm ((gs.drop i).take (j - i))) ∧ Hid (Below wC.heap.size wC wl)) (fun _ jv _ => n - (intOf jv).toNat)
          case atStart => exact ⟨i, 0, by omega, by omega, rfl, rfl, Lib.hid (by rw [Nat.sub_self, List.take_zero]; rfl), HBi⟩
          case round =>
            clear HBi
            obtain ⟨j, s', hij, hjk, rfl, rfl, HS, HBj⟩ := hrel
            by_cases hj : j < n
            · obtain ⟨ba, oa, rfl, hca⟩ := (HRA.out.on HBj.out).row.num.2 (by omega)
              obtain ⟨bg, og, rfl, hcg⟩ := (HRG.out.on HBj.out).row.num.2 (by omega)
              have ga := hca j hj
              have gi := hca i hik
              have gg := hcg j hj
              have hbk := (HBj.out.block _ (blk_lt HKB.out.1)).trans HKB.out.1
              have hwin := HWN.out
              have hla := HLA.out
              have hlg := HLG.out
              have hjm : gs.getD j 0 ∈ gs := by
                rw [List.getD_eq_getElem?_getD, List.getElem?_eq_getElem (by omega)]
                exact List.getElem_mem (by omega)
              have hpos := hwin.pos _ hjm
              have hup := HGL.out _ hjm
              have hsn : 0 ≤ gb.sm ((gs.drop i).take (j - i)) := gb.sm_nonneg fun g hg => hwin.pos g (List.mem_of_mem_drop (List.mem_of_mem_take hg))
              have hsl : gb.sm ((gs.drop i).take (j - i)) ≤ (((gs.drop i).take (j - i)).length : Int) * 4096 := sm_le (fun g hg => HGL.out g (List.mem_of_mem_drop (List.mem_of_mem_take hg))) (by omega)
              have hl40 : ((gs.drop i).take (j - i)).length ≤ 40 := by rw [List.length_take, List.length_drop]; omega
              have hnx := gb.sm_next gs i j hij (by omega)
              have hpr := hwin.pairs i j hij (by omega)
              have hmo := hwin.mono i j hij (by omega)
              have hai := hwin.atl i (by omega)
              have haj := hwin.atl j (by omega)
              have hn9 := HN1.out
              have hs0 := HS.out
              obtain ⟨s2, hs2⟩ : ∃ s2, s' + gs.getD j 0 = s2 := ⟨_, rfl⟩
              have hss : s2 = gb.sm ((gs.drop i).take (j + 1 - i)) := by rw [← hs2, hs0, hnx]
              have HS1 := Lib.hid hss
              generalize ((gs.drop i).take (j - i)).length = ll at *
              have hs2r : 0 ≤ s2 ∧ s2 ≤ 200000 := by rw [← hs2, hs0]; omega
              generalize gs.getD j 0 = gj at *
              generalize ats.getD j 0 = aj at *
              generalize ats.getD i 0 = ai at *
              have hck := HCK.out
              have hw1 : wrap64 (s' + gj) = s2 := by rw [hs2]; exact IntWalk.i64_left _ |>.symm.trans (IntWalk.i64_in _ (by omega))
              have hw2 : IntKind.i64.wrap (aj - ai) = aj - ai := IntWalk.i64_in _ (by omega)
              have hfit := gb.most_fits (r := a) (u := c) (s := s2) (d := aj - ai) ⟨hck.1, hck.2.1⟩ ⟨by omega, by omega⟩ ⟨by omega, by omega⟩ hs2r.1 (by rw [hss]; exact hpr)
              rw [gb.near_of s2 hs2r.1 (by omega)] at hfit
              have HMO := Lib.hid (fun W => gb.rmost_any a c c 0 (aj - ai) W)
              have hmv : gb.mostV a c c 0 (aj - ai) = gb.near (gb.near c + gb.near (gb.near (gb.near a * gb.near (aj - ai)))) := by
                unfold gb.mostV
                rw [if_pos ((gb.rightB_iff a c c 0).2 (by omega))]
              rw [← hmv] at hfit
              generalize gb.mostV a c c 0 (aj - ai) = X at *
              have d2 : decide (X < s2) = false := decide_eq_false (by omega)
              have HCKW := Lib.hid (show ∀ W, Below wr.heap.size wr W → W.cell? ⟨bb, 0, none⟩ = some (.int .i64 a) ∧ W.cell? ⟨bb, 1, none⟩ = some (.int .i64 c) ∧ W.cell? ⟨bb, 2, none⟩ = some (.int .i64 c) ∧ W.cell? ⟨bb, 3, none⟩ = some (.int .i64 0) ∧ W.cell? ⟨ba, oa + j, none⟩ = some (.int .i64 aj) ∧ W.cell? ⟨ba, oa + i, none⟩ = some (.int .i64 ai) ∧ Hid (Below wr.heap.size wr W) from fun W hW => by
                obtain ⟨u0, u1, u2, u3⟩ := box4 hbk hW
                exact ⟨u0, u1, u2, u3, (hW.cell (World.block_lt_of_cell? wr _ ga)).trans ga, (hW.cell (World.block_lt_of_cell? wr _ gi)).trans gi, Lib.hid hW⟩)
              have HQ := Lib.hid (show ∀ W W', Hid (Below wr.heap.size wr W) → Below W.heap.size W W' → W'.cell? ⟨bb, 0, none⟩ = some (.int .i64 a) ∧ W'.cell? ⟨bb, 1, none⟩ = some (.int .i64 c) ∧ W'.cell? ⟨bb, 2, none⟩ = some (.int .i64 c) ∧ W'.cell? ⟨bb, 3, none⟩ = some (.int .i64 0) ∧ W'.cell? ⟨ba, oa + j, none⟩ = some (.int .i64 aj) ∧ W'.cell? ⟨ba, oa + i, none⟩ = some (.int .i64 ai) ∧ Hid (Below wr.heap.size wr W') from fun W W' h1 h2 => HCKW.out W' (seqB h1.out h2))
              have HW0 := Lib.hid (HCKW.out wr.drew (Below.refl _ _).drew)
              clear hca hcg hbk hwin hla hlg hjm hpos hup hsn hsl hl40 hnx hpr hmo hai haj hn9 hs0 hs2 hss hs2r hck hfit hmv HCKW
              go_wp2_with fail
              go_region_held (fun W => W.cell? ⟨bb, 0, none⟩ = some (.int .i64 a) ∧ W.cell? ⟨bb, 1, none⟩ = some (.int .i64 c) ∧ W.cell? ⟨bb, 2, none⟩ = some (.int .i64 c) ∧ W.cell? ⟨bb, 3, none⟩ = some (.int .i64 0) ∧ W.cell? ⟨ba, oa + j, none⟩ = some (.int .i64 aj) ∧ W.cell? ⟨ba, oa + i, none⟩ = some (.int .i64 ai) ∧ Hid (Below wr.heap.size wr W))
                (first
                  | with_reducible assumption
                  | with_reducible exact HW0.out)
                (first
                  | (go_at_call 19; go_split_ands; (with_reducible refine Calls.mono (HMO.out _) ?_); rintro e w8 ⟨rfl, hb⟩; (have hS8 := HQ.out _ _ (by assumption) hb); clear hb))
              have HB8 := Lib.hid hS8.2.2.2.2.2.2.out
              go_wp2_with fail
              go_roundw
              case rel => exact ⟨j + 1, s2, by omega, by omega, by go_num, rfl, HS1, Lib.hid (seqB HBj.out HB8.out)⟩
              case measure => simp [intOf]; omega
            · obtain rfl : j = n := by omega
              go_wp2_with fail
              go_roundw
              case rel => exact ⟨i + 1, by omega, by go_num, HBj⟩
              case measure => simp [intOf]; omega
        · obtain rfl : i = n := by omega
          go_wp2_with fail
          refine (alive_any _).mono ?_
          rintro e w5 ⟨rfl, hb5⟩
          have HE := Lib.hid (seqB HBW.out (seqB HBi.out hb5))
          clear hb5
          go_wp2_with fail
          go_ret
          exact ⟨rfl, HE.out⟩
end Go.Proofs.Ytlbihcpglcdmmaa.stageWindows
