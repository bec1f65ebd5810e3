/-
  Contracts: what below and sink do. Conditions: as each states.
-/
import Derived.Test.YtpohfcjmjfhdoaaW3
namespace Go.Proofs.Ytpohfcjmjfhdoaa
open Go.RowKit Go.Sort Go.Maps

set_option maxHeartbeats 8000000 in
theorem below_any {w : World} {base g : Nat} {u : Option Nat} {m : Nat} {s : St} {last : Int} (h : Mem w base g u m s last) {k : Nat} (hk : k < s.h.length) (hl : s.h.length ≤ 100000) :
    Calls Try.prog 58 #[.pointer (some ⟨g, 0, none⟩), .int .i64 k] w fun e w' => e = .returned (.int .i64 (down s k : Int)) ∧ ∃ q os', w' = grow (w.drewN q) os' := by
  obtain ⟨b, c, hc1, hc2, hA⟩ := mem_reads h (by omega)
  obtain ⟨L, hL⟩ : ∃ L, s.h.length = L := ⟨_, rfl⟩
  have mixed := mixedT
  obtain ⟨R, HR⟩ : ∃ R, Hid (down s k = R) := ⟨_, Lib.hid rfl⟩
  rw [HR.out]
  rw [hL] at hk hl hc1 hA
  by_cases h2 : 2 * k + 2 < L
  · have HA := Lib.hid (show ∀ W, Below w.heap.size w W → W.cell? ⟨g, 0, none⟩ = some (.slice (some ⟨b, 0, none⟩) L c) ∧ (W.cell? ⟨b, (2 * k + 2) * 2, none⟩ = some (.int .i64 (s.at (2 * k + 2)).1) ∧ W.cell? ⟨b, (2 * k + 2) * 2 + 1, none⟩ = some (.int .i64 (s.at (2 * k + 2)).2)) ∧ W.cell? ⟨b, (2 * k + 1) * 2, none⟩ = some (.int .i64 (s.at (2 * k + 1)).1) ∧ W.cell? ⟨b, (2 * k + 1) * 2 + 1, none⟩ = some (.int .i64 (s.at (2 * k + 1)).2) from fun W hW => by
      obtain ⟨x1, _, x3⟩ := hA W hW
      exact ⟨x1, x3 _ h2, x3 _ (by omega)⟩)
    obtain ⟨x, hx⟩ : ∃ x, s.at (2 * k + 2) = x := ⟨_, rfl⟩
    obtain ⟨y, hy⟩ : ∃ y, s.at (2 * k + 1) = y := ⟨_, rfl⟩
    rw [hx, hy] at HA
    obtain ⟨x0, x1⟩ := x
    obtain ⟨y0, y1⟩ := y
    dsimp only at HA
    have HAh := Lib.hid (show ∀ W, Calls Try.prog 33 #[.agg #[.int .i64 x0, .int .i64 x1], .agg #[.int .i64 y0, .int .i64 y1]] W fun e' w' => e' = .returned (.bool (aheadB (x0, x1) (y0, y1))) ∧ ∃ q os', w' = grow (W.drewN q) os' from fun W => ahead_any (x0, x1) (y0, y1) W)
    obtain ⟨F, hF⟩ : ∃ F, aheadB (x0, x1) (y0, y1) = F := ⟨_, rfl⟩
    rw [hF] at HAh
    have HRF := Lib.hid (show R = if F = true then 2 * k + 2 else 2 * k + 1 by rw [← HR.out, ← hF]; unfold down; rw [hL, hx, hy]; simp only [h2, true_and])
    clear hA hF hx hy h HR hL
    have f0 := fun n' os' => (HA.out _ (below_grow w n' os')).1
    have f1 := fun n' os' => (HA.out _ (below_grow w n' os')).2.1.1
    have f2 := fun n' os' => (HA.out _ (below_grow w n' os')).2.1.2
    have f3 := fun n' os' => (HA.out _ (below_grow w n' os')).2.2.1
    have f4 := fun n' os' => (HA.out _ (below_grow w n' os')).2.2.2
    have e1 : (2 * (k : Int) + 1) = ((2 * k + 1 : Nat) : Int) := by omega
    have e2 : (2 * (k : Int) + 2) = ((2 * k + 2 : Nat) : Int) := by omega
    obtain ⟨p, hp⟩ : ∃ p, 2 * k + 1 = p := ⟨_, rfl⟩
    obtain ⟨q, hq⟩ : ∃ q, 2 * k + 2 = q := ⟨_, rfl⟩
    rw [hp] at e1 f3 f4 HRF
    rw [hq] at e2 f1 f2 HRF h2
    have HPQ := Lib.hid (And.intro hp hq)
    have hpL : p < L := by omega
    have k1 : IntKind.i64.wrap (2 * (k : Int)) = 2 * (k : Int) := IntWalk.i64_in _ (by omega)
    have k2 : IntKind.i64.wrap (2 * (k : Int) + 1) = (p : Int) := by rw [← e1]; exact IntWalk.i64_in _ (by omega)
    have k3 : IntKind.i64.wrap (2 * (k : Int) + 2) = (q : Int) := by rw [← e2]; exact IntWalk.i64_in _ (by omega)
    clear hp hq e1 e2
    go_enter Try.func58, Try.ntmps58
    go_wp2_with fail
    go_quiet_grown ((go_at_call 33; refine Calls.grown_of (HAh.out _)))
    clear f0 f1 f2 f3 f4 HAh HA
    cases F with
    | true =>
      go_wp2_with fail
      go_ret
      exact ⟨ret_int (by rw [HRF.out]; rfl), _, _, rfl⟩
    | false =>
      go_wp2_with fail
      go_ret
      exact ⟨ret_int (by rw [HRF.out]; rfl), _, _, rfl⟩
  · have HRF := Lib.hid (show R = 2 * k + 1 by rw [← HR.out]; unfold down; rw [hL, if_neg (fun hc => h2 hc.1)])
    have g0 := (hA _ (Below.refl _ _)).1
    clear hA h HR hL
    have k1 : IntKind.i64.wrap (2 * (k : Int)) = 2 * (k : Int) := IntWalk.i64_in _ (by omega)
    have k2 : IntKind.i64.wrap (2 * (k : Int) + 1) = 2 * (k : Int) + 1 := IntWalk.i64_in _ (by omega)
    have k3 : IntKind.i64.wrap (2 * (k : Int) + 2) = 2 * (k : Int) + 2 := IntWalk.i64_in _ (by omega)
    have d0 : decide (2 * (k : Int) + 2 < (L : Int)) = false := by simp; omega
    go_enter Try.func58, Try.ntmps58
    go_wp2_with fail
    go_quiet (fail)
    rename_i nq
    go_wp2_with fail
    go_ret
    exact ⟨ret_int (by rw [HRF.out]; omega), nq, #[], by rw [grow_empty]⟩

set_option maxHeartbeats 8000000 in
theorem sink_any {w : World} {base g : Nat} {u : Option Nat} {m : Nat} {s : St} {last : Int} (h : Mem w base g u m s last) {k : Nat} {d : Due} (hh : Hole s k d) (hl : s.h.length ≤ 100000) (hi : IdsWf s) (hd : wfId d) :
    Calls Try.prog 46 #[.pointer (some ⟨g, 0, none⟩), .int .i64 k, .agg #[.int .i64 d.1, .int .i64 d.2]] w fun e w' => e = .returned (.tuple #[]) ∧ Mem w' base g u m (sinkS d s k) last ∧ Kept w w' g u m := by
  have hgl := h.lt
  have hml := h.m_lt
  have hul : ∀ i, u = some i → i < w.heap.size := fun i e => (h.u_lt e).2
  have hsz : s.sz ≤ s.h.length := by have := hh.sz; split at this <;> omega
  have HW0 := Lib.hid (show ∀ W, Below w.heap.size w W → Way w W base g u m s last s.h.length from fun W hW => ⟨h.on hW, kept_below hW g u m, rfl, hi, hsz, hW.block g h.lt⟩)
  have HH := Lib.hid hh
  have HD := Lib.hid hd
  have hkL := hh.lt
  obtain ⟨L, hL⟩ : ∃ L, s.h.length = L := ⟨_, rfl⟩
  rw [hL] at hl hkL HW0
  obtain ⟨d0, d1⟩ := d
  show Calls _ _ #[.pointer (some ⟨g, 0, none⟩), .int .i64 k, .agg #[.int .i64 d0, .int .i64 d1]] w _
  have HU := Lib.hid (And.intro hgl (And.intro hml hul))
  clear h hh hi hd hL hsz hgl hml hul
  obtain ⟨R, HR⟩ : ∃ R, Hid (sinkS (d0, d1) s k = R) := ⟨_, Lib.hid rfl⟩
  rw [HR.out]
  obtain ⟨n, hn⟩ : ∃ n, w.heap.size = n := ⟨_, rfl⟩
  go_enter Try.func46, Try.ntmps46
  go_wp2
  refine scope_rounds 0 (fun a' wr => ∃ (k : Nat) (s' : St) (u6 u7 u8 u9 u10 u11 u12 u13 u14 u15 u16 u17 u18 u19 u20 u21 u22 u23 u24 u25 u26 u27 u28 u29 u30 u31 u32 u33 u34 u35 u36 u37 u38 u39 u40 u41 u42 : Value), a' = { tmps := #[.pointer (some ⟨g, 0, none⟩), .int .i64 k, .agg #[.int .i64 d0, .int .i64 d1], undef, undef, .pointer (some ⟨n, 0, none⟩), u6, u7, u8, u9, u10, u11, u12, u13, u14, u15, u16, u17, u18, u19, u20, u21, u22, u23, u24, u25, u26, u27, u28, u29, u30, u31, u32, u33, u34, u35, u36, u37, u38, u39, u40, u41, u42], defers := [] } ∧ k < L ∧ Hid (Way w wr base g u m s' last L) ∧ Hid (Hole s' k (d0, d1)) ∧ Hid (Box w wr d0 d1) ∧ Hid (sinkS (d0, d1) s' k = R)) (fun a' _ => L - (intOf (a'.tmps.getD 1 undef)).toNat) rfl ?_ ?_
  · intro Q' hQ
    go_wp2
    go_step3
    have HB := Lib.hid (show Below w.heap.size w (w.alloc (.cells #[.int .i64 d0, .int .i64 d1] 38)) from (Below.refl _ _).alloc (Nat.le_refl _) _)
    have HX := Lib.hid (show Box w (w.alloc (.cells #[.int .i64 d0, .int .i64 d1] 38)) d0 d1 from heap_alloc_new _ _)
    rename_i K hK
    exact hK _ _ (hQ _ _ ⟨k, s, _, _, _, _, _, _, _, _, _, _, _, _, _, _, _, _, _, _, _, _, _, _, _, _, _, _, _, _, _, _, _, _, _, _, _, _, _, rfl, hkL, Lib.hid (HW0.out _ HB.out), HH, HX, HR⟩)
  · clear HW0 HR HH hkL k
    rintro a' wr ⟨k, s', u6, u7, u8, u9, u10, u11, u12, u13, u14, u15, u16, u17, u18, u19, u20, u21, u22, u23, u24, u25, u26, u27, u28, u29, u30, u31, u32, u33, u34, u35, u36, u37, u38, u39, u40, u41, u42, rfl, hkL, HWy, HH, HX, HR⟩
    have HBl := Lib.hid (below_any HWy.out.mem (k := k) (by rw [HWy.out.len]; exact hkL) (by rw [HWy.out.len]; exact hl))
    obtain ⟨v, hv⟩ : ∃ v, down s' k = v := ⟨_, rfl⟩
    rw [hv] at HBl
    have hvk : k < v := by rw [← hv]; exact down_gt s' k
    have HV := Lib.hid hv
    obtain ⟨b, c, hc1, hc2, hA⟩ := mem_reads HWy.out.mem (by rw [HWy.out.len]; omega)
    rw [HWy.out.len] at hc1 hA
    have hA0 : ∀ W, Below wr.heap.size wr W → W.cell? ⟨g, 0, none⟩ = some (.slice (some ⟨b, 0, none⟩) L c) ∧ W.cell? ⟨n, 0, none⟩ = some (.int .i64 d0) ∧ W.cell? ⟨n, 1, none⟩ = some (.int .i64 d1) := fun W hW => by
      have x4 := box_cells (box_on HX.out hW)
      rw [hn] at x4
      exact ⟨(hA W hW).1, x4⟩
    have HA0 := Lib.hid hA0
    have HA1 := Lib.hid hA
    have mixed := mixedT
    clear hA hv hA0
    go_wp2_with fail
    refine (HBl.out).mono ?_
    rintro e W1 ⟨rfl, q1, os1, hW1⟩
    have HB1 := Lib.hid (show Below wr.heap.size wr W1 by rw [hW1]; exact below_grow wr q1 os1)
    clear HBl hW1
    go_wp2_with fail
    by_cases hvl : v < L
    · have HA := Lib.hid (show ∀ W, Below wr.heap.size wr W → (W.cell? ⟨g, 0, none⟩ = some (.slice (some ⟨b, 0, none⟩) L c) ∧ W.cell? ⟨b, v * 2, none⟩ = some (.int .i64 (s'.at v).1) ∧ W.cell? ⟨b, v * 2 + 1, none⟩ = some (.int .i64 (s'.at v).2)) ∧ W.cell? ⟨n, 0, none⟩ = some (.int .i64 d0) ∧ W.cell? ⟨n, 1, none⟩ = some (.int .i64 d1) from fun W hW => by
        obtain ⟨x1, _, x3⟩ := HA1.out W hW
        exact ⟨⟨x1, x3 v hvl⟩, (HA0.out W hW).2⟩)
      obtain ⟨x, hx⟩ : ∃ x, s'.at v = x := ⟨_, rfl⟩
      rw [hx] at HA
      have HXV := Lib.hid hx
      clear hx HA1 HA0
      obtain ⟨x0, x1⟩ := x
      dsimp only at HA
      have HAh := Lib.hid (show ∀ W, Calls Try.prog 33 #[.agg #[.int .i64 x0, .int .i64 x1], .agg #[.int .i64 d0, .int .i64 d1]] W fun e' w' => e' = .returned (.bool (aheadB (x0, x1) (d0, d1))) ∧ ∃ q os', w' = grow (W.drewN q) os' from fun W => ahead_any (x0, x1) (d0, d1) W)
      obtain ⟨F, HF⟩ : ∃ F, Hid (aheadB (x0, x1) (d0, d1) = F) := ⟨_, Lib.hid rfl⟩
      rw [HF.out] at HAh
      have f0 := fun n' os' => (HA.out _ (seqB HB1.out (below_grow W1 n' os'))).1.1
      have f1 := fun n' os' => (HA.out _ (seqB HB1.out (below_grow W1 n' os'))).1.2.1
      have f2 := fun n' os' => (HA.out _ (seqB HB1.out (below_grow W1 n' os'))).1.2.2
      have f3 := fun n' os' => (HA.out _ (seqB HB1.out (below_grow W1 n' os'))).2.1
      have f4 := fun n' os' => (HA.out _ (seqB HB1.out (below_grow W1 n' os'))).2.2
      cases F with
      | true =>
        go_quiet_grown ((go_at_call 33; refine Calls.grown_of (HAh.out _)))
        clear f0 f1 f2 f3 f4 HAh
        have HB2 := Lib.hid (seqB HB1.out (below_grow W1 nq osq))
        obtain ⟨⟨f0, f1, f2⟩, f3, f4⟩ := HA.out _ HB2.out
        generalize grow (W1.drewN nq) osq = W2 at *
        go_wp2_with fail
        refine (place_any (d := (x0, x1)) (HWy.out.mem.on HB2.out) (k := k) (by rw [HWy.out.len]; exact hkL) (by rw [HWy.out.len]; omega) (by have := HWy.out.sz; omega) (by rw [← HXV.out]; exact HWy.out.ids v (by rw [HWy.out.len]; exact hvl))).mono ?_
        rintro e w3 ⟨rfl, hM, hK, hS⟩
        rw [← HXV.out] at hM
        have HWy3 := Lib.hid (HWy.out.step HB2.out hvl ⟨_, HH.out⟩ (by omega) hM hK hS)
        have HX3 := Lib.hid (box_kept (box_on HX.out HB2.out) HU.out.1 HU.out.2.1 HU.out.2.2 (HWy.out.mem.on HB2.out) hK)
        have HH3 := Lib.hid (HH.out.move (u := v) (by rw [HWy.out.len]; exact hvl) (by omega))
        have HR3 := Lib.hid (show sinkS (d0, d1) (s'.put k (s'.at v)) v = R by
          rw [← HR.out, sink_step (d := (d0, d1)) (s := s') (k := k) (by rw [HV.out, HWy.out.len]; exact hvl) (by rw [HV.out, HXV.out, HF.out]), HV.out])
        clear hM hK hS
        go_wp2_with fail
        go_step3
        refine ⟨rfl, ⟨v, _, _, _, _, _, _, _, _, _, _, _, _, _, _, _, _, _, _, _, _, _, _, _, _, _, _, _, _, _, _, _, _, _, _, _, _, _, _, rfl, hvl, HWy3, HH3, HX3, HR3⟩, ?_⟩
        simp [intOf]
        omega
      | false =>
        go_quiet_grown ((go_at_call 33; refine Calls.grown_of (HAh.out _)))
        clear f0 f1 f2 f3 f4 HAh
        have HB2 := Lib.hid (seqB HB1.out (below_grow W1 nq osq))
        obtain ⟨⟨f0, f1, f2⟩, f3, f4⟩ := HA.out _ HB2.out
        generalize grow (W1.drewN nq) osq = W2 at *
        go_wp2_with fail
        refine (place_any (d := (d0, d1)) (HWy.out.mem.on HB2.out) (k := k) (by rw [HWy.out.len]; exact hkL) (by rw [HWy.out.len]; omega) (by have := HWy.out.sz; omega) HD.out).mono ?_
        rintro e w3 ⟨rfl, hM, hK, hS⟩
        have HE := Lib.hid (show Mem w3 base g u m R last ∧ Kept w w3 g u m from ⟨by rw [← HR.out, sink_end (by rw [HV.out, HXV.out, HF.out]; simp)]; exact hM, kept_trans (kept_trans HWy.out.kept (kept_below HB2.out g u m)) hK⟩)
        clear hM hK hS
        go_wp2_with fail
        simp only [Exit.jump]
        go_end0
        exact ⟨rfl, HE.out⟩
    · clear HA1
      have g0 := fun n' => (HA0.out _ (seqB HB1.out (below_drewN W1 n'))).1
      have hA0 := (HA0.out _ HB1.out).1
      have dv : decide ((v : Int) < (L : Int)) = false := by simp; omega
      go_quiet (fail)
      rename_i nq
      clear hA0 g0
      have HB2 := Lib.hid (seqB HB1.out (below_drewN W1 nq))
      obtain ⟨g0, f3, f4⟩ := HA0.out _ HB2.out
      generalize W1.drewN nq = W2 at *
      go_wp2_with fail
      refine (place_any (d := (d0, d1)) (HWy.out.mem.on HB2.out) (k := k) (by rw [HWy.out.len]; exact hkL) (by rw [HWy.out.len]; omega) (by have := HWy.out.sz; omega) HD.out).mono ?_
      rintro e w3 ⟨rfl, hM, hK, hS⟩
      have HE := Lib.hid (show Mem w3 base g u m R last ∧ Kept w w3 g u m from ⟨by rw [← HR.out, sink_end (by rw [HV.out, HWy.out.len]; exact fun hc => hvl hc.1)]; exact hM, kept_trans (kept_trans HWy.out.kept (kept_below HB2.out g u m)) hK⟩)
      clear hM hK hS
      go_wp2_with fail
      simp only [Exit.jump]
      go_end0
      exact ⟨rfl, HE.out⟩
end Go.Proofs.Ytpohfcjmjfhdoaa
