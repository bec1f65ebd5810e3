/-
  Contract: end of a chain. Conditions: as each states.
-/
import Derived.Test.YtfdfgnmgpgkknaaMY20
namespace Go.Proofs.Ytfdfgnmgpgkknaa
open Go.RowKit
attribute [local go_sem] Oper.semAt_some

section
variable {w w' : World} {g : Nat} {p : Option Addr} {cap : Nat} {q : List Nd} {c c' : Ch} {M M' : Nat}
theorem four_alloc (w : World) (o0 o1 o2 o3 : Obj) : ∃ W, (((w.alloc o0).alloc o1).alloc o2).alloc o3 = W ∧ Below w.heap.size w W ∧ W.heap[w.heap.size]? = some o0 ∧ W.heap[w.heap.size + 1]? = some o1 ∧ W.heap[w.heap.size + 2]? = some o2 ∧ W.heap[w.heap.size + 3]? = some o3 := by
  have s1 : (w.alloc o0).heap.size = w.heap.size + 1 := by simp
  have s2 : ((w.alloc o0).alloc o1).heap.size = w.heap.size + 2 := by simp
  have s3 : (((w.alloc o0).alloc o1).alloc o2).heap.size = w.heap.size + 3 := by simp
  have b1 : Below w.heap.size w (w.alloc o0) := (Below.refl _ _).alloc (Nat.le_refl _) _
  have b2 : Below (w.alloc o0).heap.size (w.alloc o0) ((w.alloc o0).alloc o1) := (Below.refl _ _).alloc (Nat.le_refl _) _
  have b3 : Below ((w.alloc o0).alloc o1).heap.size ((w.alloc o0).alloc o1) (((w.alloc o0).alloc o1).alloc o2) := (Below.refl _ _).alloc (Nat.le_refl _) _
  have b4 : Below (((w.alloc o0).alloc o1).alloc o2).heap.size (((w.alloc o0).alloc o1).alloc o2) ((((w.alloc o0).alloc o1).alloc o2).alloc o3) := (Below.refl _ _).alloc (Nat.le_refl _) _
  have h0 := heap_alloc_new w o0
  have h1 := heap_alloc_new (w.alloc o0) o1
  have h2 := heap_alloc_new ((w.alloc o0).alloc o1) o2
  have h3 := heap_alloc_new (((w.alloc o0).alloc o1).alloc o2) o3
  rw [s1] at h1
  rw [s2] at h2
  rw [s3] at h3
  exact ⟨_, rfl, ((b1.trans (b2.mono (by omega))).trans (b3.mono (by omega))).trans (b4.mono (by omega)), (b4.block _ (by omega)).trans ((b3.block _ (by omega)).trans ((b2.block _ (by omega)).trans h0)), (b4.block _ (by omega)).trans ((b3.block _ (by omega)).trans h1), (b4.block _ (by omega)).trans h2, h3⟩
/-- Between two rounds of end. -/
def EndI (w : World) (g : Nat) (p : Option Addr) (cap : Nat) (q : List Nd) (M : Nat) (now : Int) (s : Nat) (d : Ch) (j : Nat) (W : World) : Prop :=
  RndI w g p cap q M now (s + 1) (s + 3) d W ∧ W.heap[s]? = some (.cells #[ptr g] 23 (0, 0)) ∧ W.heap[s + 2]? = some (.cells #[.int .i64 (j : Int)] 3 (0, 0))
theorem endI_own {β : Type} {now : Int} {s : Nat} (f : β → Ch) (k : β → Nat) : OwnFrom w.heap.size (fun (x : β) W => EndI w g p cap q M now s (f x) (k x) W) :=
  fun x _ _ _ hs hg hr => ⟨rndI_own f x _ _ _ hs.1 hg hr, obj_turn (w0 := w) hs.2.1 hg hr, obj_turn (w0 := w) hs.2.2 hg hr⟩
set_option maxRecDepth 100000 in
set_option maxHeartbeats 16000000 in
theorem end_c (h : CAt w g p cap q c M) (h2 : 2 ≤ c.L.length) (now : Int) : Calls Try.prog 30 #[ptr g, .int .i64 now] w fun e w' => e = .returned (.tuple #[]) ∧ CPut w g p cap q (c.ends now (c.L.length - 1)) M w' := by
  have h10 := h.ten
  obtain ⟨W0, hW0, hal, hn0, hn1, hn2, hn3⟩ := four_alloc w (.cells #[ptr g] 23) (.cells #[.int .i64 now] 3) (.cells #[.int .i64 0] 3) (.cells #[ptr g] 23)
  obtain ⟨m, hm⟩ : ∃ m, c.L.length = m + 1 := ⟨c.L.length - 1, by omega⟩
  obtain ⟨b, o, rfl, hr, hnc, hmx⟩ := h.rows (by omega)
  have hI0 : EndI w g (some ⟨b, o, none⟩) cap q M now w.heap.size c 0 W0 := ⟨⟨(CPut.refl h).on hal, hn1, hn3⟩, hn0, hn2⟩
  have hbl : b < W0.heap.size := Nat.lt_of_lt_of_le (h.row.lt _ rfl).2 hal.size
  have hgl : g < W0.heap.size := Nat.lt_of_lt_of_le (gb.blk_lt h.blk) hal.size
  have hBl := gb.blk_lt hn3
  have hws := hal.size
  have HSD := Lib.hid (hI0.1.side hm)
  have HI0 := Lib.hid hI0
  have HMM := Lib.hid hm
  have h1m : 1 ≤ m := by omega
  have hm10 : m ≤ 10 := by omega
  have hmc : m + 1 ≤ cap := by omega
  rw [hm, Nat.add_sub_cancel]
  clear h hr hI0 hn0 hn1 hn2 hn3 hal hnc hm h2 h10
  refine (callsIn_wide (n := 3)).1 ?_
  refine callsIn_of_wp_marks Try.func30 rfl trivial ?_ rfl
  simp only [Try.ntmps30, List.size_toArray, List.length_cons, List.length_nil, Nat.reduceAdd, Nat.reduceSub, Array.replicate_succ, Array.replicate_zero, List.push_toArray, List.append_toArray, List.nil_append, List.cons_append]
  gi_wp2_with (refine ⟨trivial, ?_⟩; gi_at_call 48; refine (callsIn_wide.2 (sides_c _ _)).mono ?_; rintro e w' ⟨rfl, rfl⟩)
  try rw [hW0]
  clear hW0
  obtain ⟨s, hs⟩ : ∃ s, w.heap.size = s := ⟨_, rfl⟩
  rw [hs] at hws HSD HI0 hBl
  simp only [hs]
  have HSE := Lib.hid hs
  clear hs
  refine wpIn_rangeFunc_ownG rfl (by omega) (gf := 64) (lb := #[ptr (s + 3)]) rfl trivial (enters_of Try.func64 (by kernel_rfl) rfl)
    (sides_stop _ (s + 3) g b o m cap (fun k => (nd q k).p) h1m hm10 hmc W0 hBl hgl hbl HSD.out) (fun h k x => k (h x)) (fun W l x x' _ hx hc _ hs => side_put hs hx hc) (Below.refl _ _) (fun _ => rfl)
    (fun pre W => EndI w g (some ⟨b, o, none⟩) cap q M now s (endL c now (pre.map (·.1))) pre.length W)
    (fun _ _ _ => False)
    (own_wide (endI_own (fun pre : List (Side m) => endL c now (pre.map (·.1))) (fun pre => pre.length)) (by rw [HSE.out]; exact hws))
    (fun _ _ _ _ _ hs _ _ => hs)
    HI0.out
    (fun x => { tmps := #[ptr g, .int .i64 now, ptr s, ptr (s + 1), ptr (s + 2), ptr (nd q x.1).p, ptr (nd q (x.1 + 1)).p, ptr g, .func (.func 64) #[] #[ptr (s + 3)], ptr (nd q x.1).p, ptr (nd q (x.1 + 1)).p, undef, undef, undef, undef, undef, undef, undef, undef, undef, undef, undef, undef, undef, undef, undef], defers := [] }) ?assign ?body ?done ?stop
  case assign =>
    intro l x W K hK
    gi_wp2
    exact hK
  case done =>
    rintro D xs W hD hxs hI hK
    rw [hxs, endL_range] at hI
    have HC := Lib.hid hI.1.1
    clear hI
    gi_wp2
    refine ⟨by simp, .inl ⟨_, _, rfl, run_takeDeferred hK, ?_⟩⟩
    exact ⟨_, results_none rfl _ _ _, rfl, cput_turn HC.out (grownBy_putObj' _ D (.deferred none)) (fun r e => by cases e; exact ⟨by rw [HSE.out]; exact Nat.le_trans hws hD, _, hK, rfl⟩)⟩
  case stop =>
    rintro D c pre W _ _ h _
    exact h.elim
  case body =>
    rintro l pre x W hI hlt
    have hmx2 : Try.prog.follows .mixedOrders = true := by kernel_rfl
    have hlen : (endL c now (pre.map (·.1))).L.length = m + 1 := (len_endL _ _ _).trans HMM.out
    have hx := x.2
    have HFL := Lib.hid (show endL c now ((pre ++ [x]).map (·.1)) = endX (endL c now (pre.map (·.1))) now pre.length x.1 by rw [List.map_append]; have := endL_snoc c now (pre.map (·.1)) x.1; rw [List.length_map] at this; exact this)
    have HPL := Lib.hid (show (pre ++ [x]).length = pre.length + 1 by simp)
    obtain ⟨x, hxm⟩ := x
    dsimp only at hx HFL ⊢
    generalize endL c now (pre.map (·.1)) = d at *
    obtain ⟨j, hj⟩ : ∃ j, pre.length = j := ⟨_, rfl⟩
    rw [hj] at hI hlt HFL HPL
    have hx1 : x + 1 < d.L.length := by omega
    have hx0 : x < d.L.length := by omega
    obtain ⟨hI1, hI2, hI3⟩ := hI
    have k0 : W.cell? ⟨s + 2, 0, none⟩ = some (.int .i64 (j : Int)) := cell_of_row _ _ 0 _ _ _ hI3
    have f0 : W.frozen? ⟨s + 2, 0, none⟩ = false := gb.frozen_at hI3
    have hji : IntKind.i64.wrap ((j : Int) + 1) = (j : Int) + 1 := wrap_id (by omega) (by omega)
    have hset := hI1.set hI3 (by rw [HSE.out]; omega) (by omega) (by omega) 0 (.int .i64 ((j : Int) + 1))
    have hW2 : (W.setCell ⟨s + 2, 0, none⟩ (.int .i64 ((j : Int) + 1))).heap[s + 2]? = some (.cells #[.int .i64 ((j : Int) + 1)] 3 (0, 0)) := gb.set_heap hI3 _
    have hW1 : (W.setCell ⟨s + 2, 0, none⟩ (.int .i64 ((j : Int) + 1))).heap[s]? = some (.cells #[ptr g] 23 (0, 0)) := (Below.heap_setCell _ _ _ _ (show s ≠ s + 2 by omega)).trans hI2
    have HKS := Lib.hid ((KeepsOthers.setCell W ⟨s + 2, 0, none⟩ (.int .i64 ((j : Int) + 1))).from W0.heap.size)
    obtain ⟨Ws, hWs⟩ : ∃ Ws, W.setCell ⟨s + 2, 0, none⟩ (.int .i64 ((j : Int) + 1)) = Ws := ⟨_, rfl⟩
    rw [hWs] at hset hW1 hW2 HKS
    have hr0 := (Rnd.start hset).on (Below.refl _ Ws).drew
    have HST := Lib.hid (rnd_state hr0 hx0)
    have HS0 := Lib.hid (show ∀ (d' : Ch) W1, d'.L.length = m + 1 → Rnd w g (some ⟨b, o, none⟩) cap q M now (s + 1) (s + 3) Ws d' W1 → (W1.cell? ⟨(nd q x).p, 0, none⟩ = some (ptr (nd q x).g) ∧ W1.cell? ⟨s + 1, 0, none⟩ = some (.int .i64 now)) ∧ (W1.cell? ⟨s, 0, none⟩ = some (ptr g) ∧ W1.cell? ⟨s + 2, 0, none⟩ = some (.int .i64 ((j : Int) + 1))) from
      fun d' W1 hl h => ⟨⟨(h.cells (by omega)).1, (h.cells (x := x) (by omega)).2.1⟩, cell_of_row _ _ 0 _ _ _ (h.2.2 _ _ _ _ (Or.inr rfl) hW1), cell_of_row _ _ 0 _ _ _ (h.2.2 _ _ _ _ (Or.inl rfl) hW2)⟩)
    have hl1 : (d.onC x (Ch.oLook now)).L.length = m + 1 := by rw [Ch.len_on]; exact hlen
    have HS1 := Lib.hid (fun W1 h => (HS0.out (d.onC x (Ch.oLook now)) W1 hl1 h).1)
    have HS2 := Lib.hid (fun W1 h => (HS0.out (d.onC x (Ch.oLook now)) W1 hl1 h).2)
    have hc0 := (HS0.out _ _ hlen hr0).1
    have HEND := Lib.hid (fun (d' : Ch) W1 (hl : d'.L.length = m + 1) (h : Rnd w g (some ⟨b, o, none⟩) cap q M now (s + 1) (s + 3) Ws d' W1) => (⟨HKS.out.trans (keeps_wide h.2.1 (by rw [HSE.out]; exact hws)), fun _ => h.1.side hl, h.1, h.2.2 _ _ _ _ (Or.inr rfl) hW1, h.2.2 _ _ _ _ (Or.inl rfl) hW2⟩ :
      KeepsFrom W0.heap.size W W1 ∧ (SideAt (s + 3) g b o m cap (fun k => (nd q k).p) W → SideAt (s + 3) g b o m cap (fun k => (nd q k).p) W1) ∧ RndI w g (some ⟨b, o, none⟩) cap q M now (s + 1) (s + 3) d' W1 ∧ W1.heap[s]? = some (.cells #[ptr g] 23 (0, 0)) ∧ W1.heap[s + 2]? = some (.cells #[.int .i64 ((j : Int) + 1)] 3 (0, 0))))
    have HNO := Lib.hid (show (d.ansC x (Ch.oLook now)).n ≠ 1 → endX d now j x = d.onC x (Ch.oLook now) from fun hn => by unfold endX; dsimp only; rw [if_neg hn])
    have HYES := Lib.hid (show (d.ansC x (Ch.oLook now)).n = 1 → endX d now j x = ((d.onC x (Ch.oLook now)).lose (j + 1)).onC (x + 1) (Ch.oClose now) from fun hn => by unfold endX; dsimp only; rw [if_pos hn])
    have HLF := Lib.hid ((len_endX d now j x).trans hlen)
    generalize (d.ansC x (Ch.oLook now)).n = X at *
    generalize d.onC x (Ch.oLook now) = d1 at *
    have HLO := Lib.hid (fun W1 (h : Rnd w g (some ⟨b, o, none⟩) cap q M now (s + 1) (s + 3) Ws d1 W1) => rnd_lose h (by omega) (j + 1) (by omega))
    have hl2 : (d1.lose (j + 1)).L.length = m + 1 := by rw [Ch.len_lose]; exact hl1
    have HCL := Lib.hid (fun W1 (h : Rnd w g (some ⟨b, o, none⟩) cap q M now (s + 1) (s + 3) Ws (d1.lose (j + 1)) W1) => rnd_close h (x := x + 1) (by omega))
    have HS3 := Lib.hid (fun W1 h => (HS0.out (d1.lose (j + 1)) W1 hl2 h).1.2)
    have hjc : ((j + 1 : Nat) : Int) = (j : Int) + 1 := by omega
    rw [hjc] at HLO
    generalize (nd q (x + 1)).p = py at *
    generalize hpx : (nd q x).p = px at *
    generalize (nd q x).g = gx at *
    have HC0 := Lib.hid hc0
    clear hI1 hI2 hI3 hset hW1 hW2 hr0 hlen hx hx1 hx0 hl1 hl2 hc0 HS0 HSD HI0 hj hjc
    gi_wp2
    refine round_held (S := fun w' => (w'.cell? ⟨px, 0, none⟩ = some (ptr gx) ∧ w'.cell? ⟨s + 1, 0, none⟩ = some (.int .i64 now)) ∧ True) hmx2 (no_defer (by kernel_rfl)) (fun a w h => h) ⟨HC0.out, trivial⟩ (fun hHeld => ?_)
    refine wpAnyH_take (i := 0) (oi := { dst := some 13, op := Op.move (Operand.tmp 5), type := 49, pos := _, after := #[], guard := none }) (v := ?vc0) rfl (by kernel_rfl) (by kernel_rfl) (by kernel_rfl) (fun _ _ _ h => h) (Or.inl ⟨by rfl, ?hyc0⟩) hHeld ?restc0
    case hyc0 =>
      intro w hSw
      clear hSw
      (go_simp <;> with_reducible rfl)
    simp only [Act.put, List.setIfInBounds_toArray, List.set_cons_zero, List.set_cons_succ]
    refine wpAnyH_take (i := 1) (oi := { dst := some 14, op := Op.nilCheck (Operand.tmp 13), type := 0, pos := _, after := #[{ on := 0, ground := Ground.data }], guard := none }) (v := ?vc1) rfl (by kernel_rfl) (by kernel_rfl) (by kernel_rfl) (fun _ _ _ h => h) (Or.inl ⟨by rfl, ?hyc1⟩) hHeld ?restc1
    case hyc1 =>
      intro w hSw
      clear hSw
      (go_simp <;> with_reducible rfl)
    simp only [Act.put, List.setIfInBounds_toArray, List.set_cons_zero, List.set_cons_succ]
    refine wpAnyH_take (i := 2) (oi := { dst := some 15, op := Op.fieldAddr 59 (Operand.tmp 14) 0, type := 0, pos := _, after := #[{ on := 1, ground := Ground.data }], guard := none }) (v := ?vc2) rfl (by kernel_rfl) (by kernel_rfl) (by kernel_rfl) (fun _ _ _ h => h) (Or.inl ⟨by rfl, ?hyc2⟩) hHeld ?restc2
    case hyc2 =>
      intro w hSw
      clear hSw
      (go_simp <;> with_reducible rfl)
    simp only [Act.put, List.setIfInBounds_toArray, List.set_cons_zero, List.set_cons_succ]
    refine wpAnyH_take (i := 3) (oi := { dst := some 16, op := Op.load 57 (Operand.tmp 15), type := 57, pos := _, after := #[{ on := 2, ground := Ground.data }], guard := none }) (v := ?vc3) rfl (by kernel_rfl) (by kernel_rfl) (by kernel_rfl) (fun _ _ _ h => h) (Or.inl ⟨by rfl, ?hyc3⟩) hHeld ?restc3
    case hyc3 =>
      intro w hSw
      obtain ⟨⟨c0, c1⟩, _⟩ := hSw
      (go_simp <;> with_reducible rfl)
    simp only [Act.put, List.setIfInBounds_toArray, List.set_cons_zero, List.set_cons_succ]
    refine wpAnyH_take (i := 4) (oi := { dst := some 17, op := Op.load 3 (Operand.tmp 3), type := 3, pos := _, after := #[], guard := none }) (v := ?vc4) rfl (by kernel_rfl) (by kernel_rfl) (by kernel_rfl) (fun _ _ _ h => h) (Or.inl ⟨by rfl, ?hyc4⟩) hHeld ?restc4
    case hyc4 =>
      intro w hSw
      obtain ⟨⟨c0, c1⟩, _⟩ := hSw
      (go_simp <;> with_reducible rfl)
    simp only [Act.put, List.setIfInBounds_toArray, List.set_cons_zero, List.set_cons_succ]
    refine wpAnyH_ready (rs := [5]) (by kernel_rfl) (by simp) ?_
    refine AllReadyH.cons (o := { dst := some 18, op := Op.call { callee := Callee.value (Operand.func 32), args := #[Operand.tmp 16, Operand.tmp 17], argTypes := #[57, 3] }, type := 3, pos := _, after := #[{ on := 3, ground := Ground.data }, { on := 4, ground := Ground.data }], guard := none }) rfl (fun K hK => ?_) AllReadyH.nil
    go_simp
    go_at_call 32
    refine Calls.mono HST.out ?_
    rintro e w1 ⟨rfl, hr1⟩
    have HR1 := Lib.hid hr1
    clear hr1 HST
    refine hK.out _ _ ⟨HS1.out w1 HR1.out, trivial⟩ (fun hHeld1 => ?_)
    clear hK K hHeld
    refine wpAnyH_take (i := 6) (oi := { dst := some 19, op := Op.binOp BinOp.eql 3 (Operand.tmp 18) (Operand.const (Value.int IntKind.i64 1)) 3, type := 4, pos := _, after := #[{ on := 5, ground := Ground.data }], guard := none }) (v := ?vc6) rfl (by kernel_rfl) (by kernel_rfl) (by kernel_rfl) (fun _ _ _ h => h) (Or.inl ⟨by rfl, ?hyc6⟩) hHeld1 ?restc6
    case hyc6 =>
      intro w hSw
      clear hSw
      (go_simp <;> with_reducible rfl)
    simp only [Act.put, List.setIfInBounds_toArray, List.set_cons_zero, List.set_cons_succ]
    refine wpAnyH_done (by kernel_rfl) ?_ _
    clear HC0
    by_cases hX : X = 1
    · subst hX
      have y0 := (HS2.out w1 HR1.out).1
      have y1 := (HS2.out w1 HR1.out).2
      clear HNO hHeld1
      gi_wp2_with (first
        | (refine ⟨trivial, ?_⟩; gi_at_call 39; refine (CallsIn.inRound l (callsIn_wide.2 (HLO.out _ HR1.out))).mono ?_; rintro e w2 ⟨rfl, hr2⟩; (have y3 := HS3.out w2 hr2); (have HR2 := Lib.hid hr2); clear hr2)
        | (refine ⟨trivial, ?_⟩; gi_at_call 34; refine (CallsIn.inRound l (callsIn_wide.2 (HCL.out _ HR2.out))).mono ?_; rintro e w3 ⟨rfl, hr3⟩; (have HR3 := Lib.hid hr3); clear hr3))
      have e := HYES.out (by trivial)
      have HZ := HEND.out _ _ (by rw [← e]; exact HLF.out) HR3.out
      refine ⟨HZ.1, HZ.2.1, ?_⟩
      show EndI _ _ _ _ _ _ _ _ (endL c now _) _ _
      rw [HFL.out, HPL.out, e]
      exact ⟨HZ.2.2.1, HZ.2.2.2.1, HZ.2.2.2.2⟩
    · have d1x : decide (X = 1) = false := by simpa using hX
      have d2x : (X == 1) = false := by simpa using hX
      clear HLO HCL HYES HS3
      gi_wp2
      have e := HNO.out hX
      have HZ := HEND.out _ _ (by rw [← e]; exact HLF.out) HR1.out
      refine ⟨HZ.1, HZ.2.1, ?_⟩
      show EndI _ _ _ _ _ _ _ _ (endL c now _) _ _
      rw [HFL.out, HPL.out, e]
      exact ⟨HZ.2.2.1, HZ.2.2.2.1, HZ.2.2.2.2⟩
end
end Go.Proofs.Ytfdfgnmgpgkknaa
