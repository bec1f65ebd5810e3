/-
  Contract: what rise does. Conditions: as each states.
-/
import Derived.Test.YtpohfcjmjfhdoaaW2
import Derived.ScopeJumps
import Derived.WalkMore
namespace Go.Proofs.Ytpohfcjmjfhdoaa
open Go.RowKit Go.Sort Go.Maps

theorem scope_rounds {P : Program} {a : Act} {w : World} {Q : Exit → Act → World → Prop} {c c2 : Code} (l : Nat) (J : Act → World → Prop) (μ : Act → World → Nat) (hf : findLabel c l = some (Code.seq .skip c2))
    (start : ∀ Q' : Exit → Act → World → Prop, (∀ a w, J a w → c2.wp P Q' a w) → c.wp P Q' a w)
    (pass : ∀ a w, J a w → c2.wp P (Exit.jump l (fun a' w' => J a' w' ∧ μ a' w' < μ a w) Q) a w) : (Code.scope c).wp P Q a w :=
  wp_scope_jumps l J μ hf (start _ fun a w h => Code.wp_mono (fun e a' w' hq => by
    cases e with
    | goto l' => exact ⟨hq.1, hq.2.1⟩
    | _ => exact hq) (pass a w h)) (fun a w h => wp_seq (wp_skip (pass a w h)))
theorem mixedT : Try.prog.follows .mixedOrders = true := by kernel_rfl
theorem below_grow (w : World) (n : Nat) (os : Array Obj) : Below w.heap.size w (grow (w.drewN n) os) := by
  refine ⟨rfl, rfl, rfl, by simp [grow, World.drewN], fun i hi => ?_⟩
  show (w.heap ++ os)[i]? = _
  rw [Array.getElem?_append_left hi]
/-- What a walk reads of the alarms: the struct's cells, the alarm at k. -/
theorem mem_reads {w : World} {base g : Nat} {u : Option Nat} {m : Nat} {s : St} {last : Int} (h : Mem w base g u m s last) (hn : 0 < s.h.length) : ∃ b c, s.h.length ≤ c ∧ c ≤ 9223372036854775807 ∧ ∀ W, Below w.heap.size w W →
    W.cell? ⟨g, 0, none⟩ = some (.slice (some ⟨b, 0, none⟩) s.h.length c) ∧ W.cell? ⟨g, 1, none⟩ = some (.map (some m)) ∧ ∀ k, k < s.h.length → W.cell? ⟨b, k * 2, none⟩ = some (.int .i64 (s.at k).1) ∧ W.cell? ⟨b, k * 2 + 1, none⟩ = some (.int .i64 (s.at k).2) := by
  obtain ⟨v, h1, h2, _⟩ := h.ex
  obtain ⟨b, c, rfl, hc1, hc2⟩ := row_form h2 hn
  refine ⟨b, c, hc1, hc2, fun W hW => ?_⟩
  have hh := (hW.block g (blk_lt h1)).trans h1
  have ho := own_on h2 hW
  exact ⟨cell_of_row _ g 0 _ _ _ hh, cell_of_row _ g 1 _ _ _ hh, fun k hk => row_cells ho hk⟩
def IdsWf (s : St) : Prop := ∀ j, j < s.h.length → wfId (s.at j)
theorem ids_put_wf {s : St} {k : Nat} {d : Due} (h : IdsWf s) (hd : wfId d) : IdsWf (s.put k d) := fun j hj => by
  rw [put_len] at hj
  by_cases e : j = k
  · subst e
    rw [put_at_same hj]
    exact hd
  · rw [put_at_other e]
    exact h j hj
/-- How far rising, or sinking, has come: d is to come at k. -/
structure Way (w wr : World) (base g : Nat) (u : Option Nat) (m : Nat) (s' : St) (last : Int) (L : Nat) : Prop where
  mem : Mem wr base g u m s' last
  kept : Kept w wr g u m
  len : s'.h.length = L
  ids : IdsWf s'
  sz : s'.sz ≤ L
  slot : wr.heap[g]? = w.heap[g]?
/-- The box of d, ahead of the base of nothing. -/
def Box (w wr : World) (d0 d1 : Int) : Prop := wr.heap[w.heap.size]? = some (.cells #[.int .i64 d0, .int .i64 d1] 38 (0, 0))
theorem box_on {w wr W : World} {d0 d1 : Int} (h : Box w wr d0 d1) (hb : Below wr.heap.size wr W) : Box w W d0 d1 := (hb.block _ (blk_lt h)).trans h
theorem box_cells {w wr : World} {d0 d1 : Int} (h : Box w wr d0 d1) : wr.cell? ⟨w.heap.size, 0, none⟩ = some (.int .i64 d0) ∧ wr.cell? ⟨w.heap.size, 1, none⟩ = some (.int .i64 d1) := ⟨cell_of_row _ _ 0 _ _ _ h, cell_of_row _ _ 1 _ _ _ h⟩
theorem box_kept {w wr W : World} {d0 d1 : Int} {base g : Nat} {u : Option Nat} {m : Nat} {s' : St} {last : Int} (h : Box w wr d0 d1) (hg : g < w.heap.size) (hm : m < w.heap.size) (hu : ∀ i, u = some i → i < w.heap.size) (_hM : Mem wr base g u m s' last) (hk' : Kept wr W g u m) : Box w W d0 d1 :=
  (hk'.block _ (blk_lt h) (by omega) (fun e => Nat.lt_irrefl _ (hu _ e)) (by omega)).trans h
/-- One step: what stands at v comes to k. -/
theorem Way.step {w wr W w3 : World} {base g : Nat} {u : Option Nat} {m : Nat} {s' : St} {last : Int} {L : Nat} (h : Way w wr base g u m s' last L) (hW : Below wr.heap.size wr W) {k v : Nat} (hv : v < L) (hh : ∃ d, Hole s' k d) (hvk : v ≠ k) (hM : Mem w3 base g u m (s'.put k (s'.at v)) last) (hK : Kept W w3 g u m) (hS : w3.heap[g]? = W.heap[g]?) : Way w w3 base g u m (s'.put k (s'.at v)) last L := by
  obtain ⟨d, hd⟩ := hh
  have hl := h.len
  refine ⟨hM, kept_trans (kept_trans h.kept (kept_below hW g u m)) hK, by rw [put_len]; exact hl, ids_put_wf h.ids (h.ids v (by omega)), ?_, hS.trans ((hW.block g h.mem.lt).trans h.slot)⟩
  have hp := hd.at_ v (by omega) hvk
  have hz := h.sz
  simp only [St.put, hp, Option.isSome_some, if_true]
  exact hz

set_option maxHeartbeats 8000000 in
theorem rise_any {w : World} {base g : Nat} {u : Option Nat} {m : Nat} {s : St} {last : Int} (h : Mem w base g u m s last) {k : Nat} {d : Due} (hh : Hole s k d) (hl : s.h.length ≤ 100000) (hi : IdsWf s) (hd : wfId d) :
    Calls Try.prog 36 #[.pointer (some ⟨g, 0, none⟩), .int .i64 k, .agg #[.int .i64 d.1, .int .i64 d.2]] w fun e w' => e = .returned (.tuple #[]) ∧ Mem w' base g u m (riseS d s k) last ∧ Kept w w' g u m ∧ w'.heap[g]? = w.heap[g]? := by
  have hgl := h.lt
  have hml := h.m_lt
  have hul : ∀ i, u = some i → i < w.heap.size := fun i e => (h.u_lt e).2
  have hsz : s.sz ≤ s.h.length := by have := hh.sz; split at this <;> omega
  have HW0 := Lib.hid (show ∀ W, Below w.heap.size w W → Way w W base g u m s last s.h.length from fun W hW => ⟨h.on hW, kept_below hW g u m, rfl, hi, hsz, hW.block g h.lt⟩)
  have HH := Lib.hid hh
  have HD := Lib.hid hd
  have hkL := hh.lt
  obtain ⟨L, hL⟩ : ∃ L, s.h.length = L := ⟨_, rfl⟩
  rw [hL] at hl hkL HW0
  obtain ⟨d0, d1⟩ := d
  show Calls _ _ #[.pointer (some ⟨g, 0, none⟩), .int .i64 k, .agg #[.int .i64 d0, .int .i64 d1]] w _
  have HU := Lib.hid (And.intro hgl (And.intro hml hul))
  clear h hh hi hd hL hsz hgl hml hul
  obtain ⟨R, HR⟩ : ∃ R, Hid (riseS (d0, d1) s k = R) := ⟨_, Lib.hid rfl⟩
  rw [HR.out]
  obtain ⟨n, hn⟩ : ∃ n, w.heap.size = n := ⟨_, rfl⟩
  go_enter Try.func36, Try.ntmps36
  go_wp2
  refine scope_rounds 0 (fun a' wr => ∃ (k : Nat) (s' : St) (u6 u7 u8 u9 u10 u11 u12 u13 u14 u15 u16 u17 u18 u19 u20 u21 u22 u23 u24 u25 u26 u27 u28 u29 u30 u31 u32 u33 u34 u35 u36 : Value), a' = { tmps := #[.pointer (some ⟨g, 0, none⟩), .int .i64 k, .agg #[.int .i64 d0, .int .i64 d1], undef, undef, .pointer (some ⟨n, 0, none⟩), u6, u7, u8, u9, u10, u11, u12, u13, u14, u15, u16, u17, u18, u19, u20, u21, u22, u23, u24, u25, u26, u27, u28, u29, u30, u31, u32, u33, u34, u35, u36], defers := [] } ∧ k < L ∧ Hid (Way w wr base g u m s' last L) ∧ Hid (Hole s' k (d0, d1)) ∧ Hid (Box w wr d0 d1) ∧ Hid (riseS (d0, d1) s' k = R)) (fun a' _ => (intOf (a'.tmps.getD 1 undef)).toNat) rfl ?_ ?_
  · intro Q' hQ
    go_wp2
    go_step3
    have HB := Lib.hid (show Below w.heap.size w (w.alloc (.cells #[.int .i64 d0, .int .i64 d1] 38)) from (Below.refl _ _).alloc (Nat.le_refl _) _)
    have HX := Lib.hid (show Box w (w.alloc (.cells #[.int .i64 d0, .int .i64 d1] 38)) d0 d1 from heap_alloc_new _ _)
    rename_i K hK
    exact hK _ _ (hQ _ _ ⟨k, s, _, _, _, _, _, _, _, _, _, _, _, _, _, _, _, _, _, _, _, _, _, _, _, _, _, _, _, _, _, _, _, rfl, hkL, Lib.hid (HW0.out _ HB.out), HH, HX, HR⟩)
  · clear HW0 HR HH hkL k
    rintro a' wr ⟨k, s', u6, u7, u8, u9, u10, u11, u12, u13, u14, u15, u16, u17, u18, u19, u20, u21, u22, u23, u24, u25, u26, u27, u28, u29, u30, u31, u32, u33, u34, u35, u36, rfl, hkL, HWy, HH, HX, HR⟩
    have HUp := Lib.hid (above_any k (by omega))
    obtain ⟨v, hv⟩ : ∃ v, up k = v := ⟨_, rfl⟩
    rw [hv] at HUp
    have hv1 : v < L := by unfold up at hv; omega
    obtain ⟨b, c, hc1, hc2, hA⟩ := mem_reads HWy.out.mem (by rw [HWy.out.len]; omega)
    rw [HWy.out.len] at hc1 hA
    have HA := Lib.hid (show ∀ W, Below wr.heap.size wr W → (W.cell? ⟨g, 0, none⟩ = some (.slice (some ⟨b, 0, none⟩) L c) ∧ W.cell? ⟨b, v * 2, none⟩ = some (.int .i64 (s'.at v).1) ∧ W.cell? ⟨b, v * 2 + 1, none⟩ = some (.int .i64 (s'.at v).2)) ∧ W.cell? ⟨n, 0, none⟩ = some (.int .i64 d0) ∧ W.cell? ⟨n, 1, none⟩ = some (.int .i64 d1) from fun W hW => by
      obtain ⟨x1, _, x3⟩ := hA W hW
      have x4 := box_cells (box_on HX.out hW)
      rw [hn] at x4
      exact ⟨⟨x1, x3 v hv1⟩, x4⟩)
    clear hA
    obtain ⟨x, hx⟩ : ∃ x, s'.at v = x := ⟨_, rfl⟩
    rw [hx] at HA
    obtain ⟨x0, x1⟩ := x
    dsimp only at HA
    have HAh := Lib.hid (show ∀ W, Calls Try.prog 33 #[.agg #[.int .i64 d0, .int .i64 d1], .agg #[.int .i64 x0, .int .i64 x1]] W fun e' w' => e' = .returned (.bool (aheadB (d0, d1) (x0, x1))) ∧ ∃ q os', w' = grow (W.drewN q) os' from fun W => ahead_any (d0, d1) (x0, x1) W)
    have HXV := Lib.hid (And.intro hv hx)
    obtain ⟨F, HF⟩ : ∃ F, Hid (aheadB (d0, d1) (x0, x1) = F) := ⟨_, Lib.hid rfl⟩
    rw [HF.out] at HAh
    clear hv hx
    go_wp2_with fail
    refine (HUp.out _).mono ?_
    rintro e w1 ⟨rfl, rfl⟩
    clear HUp
    go_wp2_with fail
    have f0 := fun n' os' => (HA.out _ (below_grow wr n' os')).1.1
    have f1 := fun n' os' => (HA.out _ (below_grow wr n' os')).1.2.1
    have f2 := fun n' os' => (HA.out _ (below_grow wr n' os')).1.2.2
    have f3 := fun n' os' => (HA.out _ (below_grow wr n' os')).2.1
    have f4 := fun n' os' => (HA.out _ (below_grow wr n' os')).2.2
    by_cases hk0 : 0 < k
    · have d0' : decide ((0 : Int) < (k : Int)) = true := by simp; omega
      have mixed := mixedT
      have hvk : v < k := by rw [← HXV.out.1]; exact up_lt hk0
      cases F with
      | true =>
        go_quiet_grown ((go_at_call 33; refine Calls.grown_of (HAh.out _)))
        clear f0 f1 f2 f3 f4 HAh
        have HB2 := Lib.hid (below_grow wr nq osq)
        obtain ⟨⟨f0, f1, f2⟩, f3, f4⟩ := HA.out _ HB2.out
        generalize grow (wr.drewN nq) osq = W2 at *
        go_wp2_with fail
        refine (place_any (d := (x0, x1)) (HWy.out.mem.on HB2.out) (k := k) (by rw [HWy.out.len]; exact hkL) (by rw [HWy.out.len]; omega) (by have := HWy.out.sz; omega) (by rw [← HXV.out.2]; exact HWy.out.ids v (by rw [HWy.out.len]; exact hv1))).mono ?_
        rintro e w3 ⟨rfl, hM, hK, hS⟩
        rw [← HXV.out.2] at hM
        have HWy3 := Lib.hid (HWy.out.step HB2.out hv1 ⟨_, HH.out⟩ (by omega) hM hK hS)
        have HX3 := Lib.hid (box_kept (box_on HX.out HB2.out) HU.out.1 HU.out.2.1 HU.out.2.2 (HWy.out.mem.on HB2.out) hK)
        have HH3 := Lib.hid (HH.out.move (u := v) (by rw [HWy.out.len]; exact hv1) (by omega))
        have HR3 := Lib.hid (show riseS (d0, d1) (s'.put k (s'.at v)) v = R by rw [← HR.out, rise_step hk0 (by rw [HXV.out.1, HXV.out.2, HF.out]), HXV.out.1])
        clear hM hK hS
        go_wp2_with fail
        go_step3
        refine ⟨rfl, ⟨v, _, _, _, _, _, _, _, _, _, _, _, _, _, _, _, _, _, _, _, _, _, _, _, _, _, _, _, _, _, _, _, _, rfl, hv1, HWy3, HH3, HX3, HR3⟩, ?_⟩
        simp [intOf, hvk]
      | false =>
        go_quiet_grown ((go_at_call 33; refine Calls.grown_of (HAh.out _)))
        clear f0 f1 f2 f3 f4 HAh
        have HB2 := Lib.hid (below_grow wr nq osq)
        obtain ⟨⟨f0, f1, f2⟩, f3, f4⟩ := HA.out _ HB2.out
        generalize grow (wr.drewN nq) osq = W2 at *
        go_wp2_with fail
        refine (place_any (d := (d0, d1)) (HWy.out.mem.on HB2.out) (k := k) (by rw [HWy.out.len]; exact hkL) (by rw [HWy.out.len]; omega) (by have := HWy.out.sz; omega) HD.out).mono ?_
        rintro e w3 ⟨rfl, hM, hK, hS⟩
        have HE := Lib.hid (show Mem w3 base g u m R last ∧ Kept w w3 g u m ∧ w3.heap[g]? = w.heap[g]? from ⟨by rw [← HR.out, rise_end (by rw [HXV.out.1, HXV.out.2, HF.out]; simp)]; exact hM, kept_trans (kept_trans HWy.out.kept (kept_below HB2.out g u m)) hK, hS.trans ((HB2.out.block g HWy.out.mem.lt).trans HWy.out.slot)⟩)
        clear hM hK hS
        go_wp2_with fail
        simp only [Exit.jump]
        go_end0
        exact ⟨rfl, HE.out⟩
    · have d0' : decide ((0 : Int) < (k : Int)) = false := by simp; omega
      have mixed := mixedT
      go_quiet (fail)
      rename_i nq
      clear f0 f1 f2 f3 f4 HAh
      have HB2 := Lib.hid (below_drewN wr nq)
      obtain ⟨⟨f0, f1, f2⟩, f3, f4⟩ := HA.out _ HB2.out
      generalize wr.drewN nq = W2 at *
      go_wp2_with fail
      refine (place_any (d := (d0, d1)) (HWy.out.mem.on HB2.out) (k := k) (by rw [HWy.out.len]; exact hkL) (by rw [HWy.out.len]; omega) (by have := HWy.out.sz; omega) HD.out).mono ?_
      rintro e w3 ⟨rfl, hM, hK, hS⟩
      have HE := Lib.hid (show Mem w3 base g u m R last ∧ Kept w w3 g u m ∧ w3.heap[g]? = w.heap[g]? from ⟨by rw [← HR.out, rise_end (fun hc => hk0 hc.1)]; exact hM, kept_trans (kept_trans HWy.out.kept (kept_below HB2.out g u m)) hK, hS.trans ((HB2.out.block g HWy.out.mem.lt).trans HWy.out.slot)⟩)
      clear hM hK hS
      go_wp2_with fail
      simp only [Exit.jump]
      go_end0
      exact ⟨rfl, HE.out⟩
end Go.Proofs.Ytpohfcjmjfhdoaa
