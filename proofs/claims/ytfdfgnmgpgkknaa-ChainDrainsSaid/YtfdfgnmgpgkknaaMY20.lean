/-
  Contract: move of a chain. Conditions: as each states.
-/
import Derived.Test.YtfdfgnmgpgkknaaMY19
namespace Go.Proofs.Ytfdfgnmgpgkknaa
open Go.RowKit
attribute [local go_sem] Oper.semAt_some

section
variable {w w' : World} {g : Nat} {p : Option Addr} {cap : Nat} {q : List Nd} {c c' : Ch} {M M' : Nat}
def isDefer : Go.Op → Bool
  | .defer _ => true
  | _ => false
theorem no_defer {ops : Array Oper} (h : (ops.all fun o => !isDefer o.op) = true) : ∀ o ∈ ops, ∀ c, o.op ≠ .defer c := fun o ho c e => by
  have := Array.all_eq_true_iff_forall_mem.1 h o ho
  rw [e] at this
  cases this
set_option maxRecDepth 100000 in
set_option maxHeartbeats 16000000 in
theorem move_c (h : CAt w g p cap q c M) (h2 : 2 ≤ c.L.length) (now : Int) : Calls Try.prog 29 #[ptr g, .int .i64 now] w fun e w' => e = .returned (.tuple #[]) ∧ CPut w g p cap q (c.flow now (c.L.length - 1)) M w' := by
  have h10 := h.ten
  have hal : Below w.heap.size w ((w.alloc (.cells #[.int .i64 now] 3)).alloc (.cells #[ptr g] 23)) := ((Below.refl _ _).alloc (Nat.le_refl _) _).alloc (by simp) _
  have hn1 : ((w.alloc (.cells #[.int .i64 now] 3)).alloc (.cells #[ptr g] 23)).heap[w.heap.size]? = some (.cells #[.int .i64 now] 3 (0, 0)) := by
    have b2 : Below (w.alloc (.cells #[.int .i64 now] 3)).heap.size (w.alloc (.cells #[.int .i64 now] 3)) ((w.alloc (.cells #[.int .i64 now] 3)).alloc (.cells #[ptr g] 23)) := (Below.refl _ _).alloc (Nat.le_refl _) _
    exact (b2.block _ (by simp)).trans (heap_alloc_new w _)
  have hn2 : ((w.alloc (.cells #[.int .i64 now] 3)).alloc (.cells #[ptr g] 23)).heap[w.heap.size + 1]? = some (.cells #[ptr g] 23 (0, 0)) := by
    have := heap_alloc_new (w.alloc (.cells #[.int .i64 now] 3)) (.cells #[ptr g] 23)
    rw [World.size_alloc] at this
    exact this
  obtain ⟨W0, hW0⟩ : ∃ W0, (w.alloc (.cells #[.int .i64 now] 3)).alloc (.cells #[ptr g] 23) = W0 := ⟨_, rfl⟩
  rw [hW0] at hal hn1 hn2
  obtain ⟨m, hm⟩ : ∃ m, c.L.length = m + 1 := ⟨c.L.length - 1, by omega⟩
  obtain ⟨b, o, rfl, hr, hnc, hmx⟩ := h.rows (by omega)
  have hI0 : RndI W0 g (some ⟨b, o, none⟩) cap q M now w.heap.size (w.heap.size + 1) c W0 := ⟨CPut.refl (h.on hal), hn1, hn2⟩
  have hbl : b < W0.heap.size := Nat.lt_of_lt_of_le (h.row.lt _ rfl).2 hal.size
  have hgl : g < W0.heap.size := Nat.lt_of_lt_of_le (gb.blk_lt h.blk) hal.size
  have hBl := gb.blk_lt hn2
  have HFIN := Lib.hid (fun d W (hp : CPut W0 g (some ⟨b, o, none⟩) cap q d M W) => (show CPut w g (some ⟨b, o, none⟩) cap q d M W from by
    obtain ⟨q9, a1, a2, a3⟩ := hp
    exact ⟨q9, a1, ((Mvd.refl w _).on hal).trans a2, a3⟩))
  have HSD := Lib.hid (hI0.side hm)
  have HI0 := Lib.hid hI0
  have HMM := Lib.hid hm
  have h1m : 1 ≤ m := by omega
  have hm10 : m ≤ 10 := by omega
  have hmc : m + 1 ≤ cap := by omega
  rw [hm, Nat.add_sub_cancel]
  clear h hr hI0 hn1 hn2 hal hnc hm h2 h10
  refine (callsIn_wide (n := 3)).1 ?_
  refine callsIn_of_wp_marks Try.func29 rfl trivial ?_ rfl
  simp only [Try.ntmps29, List.size_toArray, List.length_cons, List.length_nil, Nat.reduceAdd, Nat.reduceSub, Array.replicate_succ, Array.replicate_zero, List.push_toArray, List.append_toArray, List.nil_append, List.cons_append]
  gi_wp2_with (refine ⟨trivial, ?_⟩; gi_at_call 48; refine (callsIn_wide.2 (sides_c _ _)).mono ?_; rintro e w' ⟨rfl, rfl⟩)
  try rw [hW0]
  clear hW0
  generalize w.heap.size = nb at *
  refine wpIn_rangeFunc_ownG rfl (by omega) (gf := 64) (lb := #[ptr (nb + 1)]) rfl trivial (enters_of Try.func64 (by kernel_rfl) rfl)
    (sides_stop _ (nb + 1) g b o m cap (fun k => (nd q k).p) h1m hm10 hmc W0 hBl hgl hbl HSD.out) (fun h k x => k (h x)) (fun W l x x' _ hx hc _ hs => side_put hs hx hc) (Below.refl _ _) (fun _ => rfl)
    (fun pre W => RndI W0 g (some ⟨b, o, none⟩) cap q M now nb (nb + 1) (movX c now (pre.map (·.1))) W)
    (fun _ _ _ => False)
    (rndI_own _)
    (fun _ _ _ _ _ hs _ _ => hs)
    HI0.out
    (fun x => { tmps := #[ptr g, .int .i64 now, undef, ptr nb, ptr (nd q x.1).p, ptr (nd q (x.1 + 1)).p, ptr g, .func (.func 64) #[] #[ptr (nb + 1)], ptr (nd q x.1).p, ptr (nd q (x.1 + 1)).p, undef, undef, undef, undef, undef, undef, undef, undef, undef, undef, undef, undef, undef, undef, undef, undef, undef, undef, undef, undef, undef, undef, undef, undef], defers := [] }) ?assign ?body ?done ?stop
  case assign =>
    intro l x W K hK
    gi_wp2
    exact hK
  case done =>
    rintro D xs W hD hxs hI hK
    rw [hxs, movX_range] at hI
    have HE := Lib.hid (HFIN.out _ _ hI.1)
    have HT := Lib.hid (fun (W' : World) (hp : CPut W0 g (some ⟨b, o, none⟩) cap q (c.flow now m) M W') => HFIN.out _ _ hp)
    have HC := Lib.hid hI.1
    clear hI HE
    gi_wp2
    refine ⟨by simp, .inl ⟨_, _, rfl, run_takeDeferred hK, ?_⟩⟩
    exact ⟨_, results_none rfl _ _ _, rfl, HT.out _ (cput_turn HC.out (grownBy_putObj' _ D (.deferred none)) (fun r e => by cases e; exact ⟨hD, _, hK, rfl⟩))⟩
  case stop =>
    rintro D c pre W _ _ h _
    exact h.elim
  case body =>
    rintro l pre x W hI _
    have hmx2 : Try.prog.follows .mixedOrders = true := by kernel_rfl
    have hlen : (movX c now (pre.map (·.1))).L.length = m + 1 := (len_movX _ _ _).trans HMM.out
    have hx := x.2
    have HFL := Lib.hid (show movX c now ((pre ++ [x]).map (·.1)) = (movX c now (pre.map (·.1))).flow1 now x.1 by rw [List.map_append]; exact movX_snoc _ _ _ _)
    obtain ⟨x, hxm⟩ := x
    dsimp only at hx HFL ⊢
    generalize movX c now (pre.map (·.1)) = d at *
    have hx1 : x + 1 < d.L.length := by omega
    have hr0 := (Rnd.start hI).on (Below.refl _ W).drew
    have HST := Lib.hid (rnd_state hr0 hx1)
    have HS0 := Lib.hid (show ∀ (d' : Ch) W1, d'.L.length = m + 1 → Rnd W0 g (some ⟨b, o, none⟩) cap q M now nb (nb + 1) W d' W1 → W1.cell? ⟨(nd q (x + 1)).p, 0, none⟩ = some (ptr (nd q (x + 1)).g) ∧ W1.cell? ⟨nb, 0, none⟩ = some (.int .i64 now) ∧ W1.cell? ⟨(nd q x).p, 0, none⟩ = some (ptr (nd q x).g) from
      fun d' W1 hl h => ⟨(h.cells (by omega)).1, (h.cells (x := x) (by omega)).2.1, (h.cells (by omega)).1⟩)
    have hl1 : (d.onC (x + 1) (Ch.oLook now)).L.length = m + 1 := by rw [Ch.len_on]; exact hlen
    have HS1 := Lib.hid (fun W1 h => HS0.out (d.onC (x + 1) (Ch.oLook now)) W1 hl1 h)
    have hc0 := HS0.out _ _ hlen hr0
    have HKP := Lib.hid (fun (d' : Ch) W1 (hl : d'.L.length = m + 1) (h : Rnd W0 g (some ⟨b, o, none⟩) cap q M now nb (nb + 1) W d' W1) => (⟨h.2.1, fun _ => h.1.side hl⟩ : KeepsFrom W0.heap.size W W1 ∧ (SideAt (nb + 1) g b o m cap (fun k => (nd q k).p) W → SideAt (nb + 1) g b o m cap (fun k => (nd q k).p) W1)))
    have HNO := Lib.hid (show (d.ansC (x + 1) (Ch.oLook now)).n ≠ 0 → d.flow1 now x = d.onC (x + 1) (Ch.oLook now) from fun hn => by unfold Ch.flow1; dsimp only; rw [if_neg hn])
    have HYES := Lib.hid (show (d.ansC (x + 1) (Ch.oLook now)).n = 0 → d.flow1 now x = ((d.onC (x + 1) (Ch.oLook now)).onC x (Ch.oTake now (freeS ((d.onC (x + 1) (Ch.oLook now)).at' (x + 1)).s))).onC (x + 1) (Ch.oPush now ((d.onC (x + 1) (Ch.oLook now)).ansC x (Ch.oTake now (freeS ((d.onC (x + 1) (Ch.oLook now)).at' (x + 1)).s))).s) from fun hn => by unfold Ch.flow1; dsimp only; rw [if_pos hn])
    have hlf : (d.flow1 now x).L.length = m + 1 := by rw [Ch.len_flow1]; exact hlen
    have HLF := Lib.hid hlf
    generalize (d.ansC (x + 1) (Ch.oLook now)).n = X at *
    generalize d.onC (x + 1) (Ch.oLook now) = d1 at *
    have hx11 : x + 1 < d1.L.length := by omega
    have HFR0 := Lib.hid (fun W1 (h : Rnd W0 g (some ⟨b, o, none⟩) cap q M now nb (nb + 1) W d1 W1) => rnd_free (h.on (Below.refl _ W1).drew) hx11)
    obtain ⟨FF, hF⟩ : ∃ F, freeS (d1.at' (x + 1)).s = F := ⟨_, rfl⟩
    rw [hF] at HFR0 HYES
    obtain ⟨TT, hT⟩ : ∃ T, (d1.ansC x (Ch.oTake now FF)).s = T := ⟨_, rfl⟩
    rw [hT] at HYES
    have HTK := Lib.hid (fun W1 (h : Rnd W0 g (some ⟨b, o, none⟩) cap q M now nb (nb + 1) W d1 W1) => rnd_take h hx11 FF hT)
    have HPU := Lib.hid (fun W1 ta td (h : Mid W0 g (some ⟨b, o, none⟩) cap q M now nb (nb + 1) W d1 x FF TT W1) (hi : Lib.BytesIn W1 ta TT.size (gc.nums TT)) => rnd_push (dd := td) h hx11 hi)
    have HS3 := Lib.hid (fun W1 (h : Mid W0 g (some ⟨b, o, none⟩) cap q M now nb (nb + 1) W d1 x FF TT W1) => HS0.out (d1.onC x (Ch.oTake now FF)) W1 (by rw [Ch.len_on]; exact hl1) h.1)
    have HS4 := Lib.hid (fun W1 h => HS0.out ((d1.onC x (Ch.oTake now FF)).onC (x + 1) (Ch.oPush now TT)) W1 (by rw [Ch.len_on, Ch.len_on]; exact hl1) h)
    generalize TT.size = K at *
    generalize (nd q (x + 1)).p = py at *
    generalize (nd q (x + 1)).g = gy at *
    generalize hpx : (nd q x).p = px at *
    generalize (nd q x).g = gx at *
    have HC0 := Lib.hid hc0
    clear hI hr0 hlen hx hx1 hx11 hl1 hlf hF hT hc0 HS0 HSD HI0 HFIN
    gi_wp2
    refine round_held (S := fun w' => (w'.cell? ⟨py, 0, none⟩ = some (ptr gy) ∧ w'.cell? ⟨nb, 0, none⟩ = some (.int .i64 now) ∧ w'.cell? ⟨px, 0, none⟩ = some (ptr gx)) ∧ True) hmx2 (no_defer (by kernel_rfl)) (fun a w h => h) ⟨HC0.out, trivial⟩ (fun hHeld => ?_)
    refine wpAnyH_take (i := 0) (oi := { dst := some 10, op := Op.move (Operand.tmp 5), type := 49, pos := _, after := #[], guard := none }) (v := ?va0) rfl (by kernel_rfl) (by kernel_rfl) (by kernel_rfl) (fun _ _ _ h => h) (Or.inl ⟨by rfl, ?hya0⟩) hHeld ?resta0
    case hya0 =>
      intro w hSw
      clear hSw
      (go_simp <;> with_reducible rfl)
    simp only [Act.put, List.setIfInBounds_toArray, List.set_cons_zero, List.set_cons_succ]
    refine wpAnyH_take (i := 1) (oi := { dst := some 11, op := Op.nilCheck (Operand.tmp 10), type := 0, pos := _, after := #[{ on := 0, ground := Ground.data }], guard := none }) (v := ?va1) rfl (by kernel_rfl) (by kernel_rfl) (by kernel_rfl) (fun _ _ _ h => h) (Or.inl ⟨by rfl, ?hya1⟩) hHeld ?resta1
    case hya1 =>
      intro w hSw
      clear hSw
      (go_simp <;> with_reducible rfl)
    simp only [Act.put, List.setIfInBounds_toArray, List.set_cons_zero, List.set_cons_succ]
    refine wpAnyH_take (i := 2) (oi := { dst := some 12, op := Op.fieldAddr 59 (Operand.tmp 11) 0, type := 0, pos := _, after := #[{ on := 1, ground := Ground.data }], guard := none }) (v := ?va2) rfl (by kernel_rfl) (by kernel_rfl) (by kernel_rfl) (fun _ _ _ h => h) (Or.inl ⟨by rfl, ?hya2⟩) hHeld ?resta2
    case hya2 =>
      intro w hSw
      clear hSw
      (go_simp <;> with_reducible rfl)
    simp only [Act.put, List.setIfInBounds_toArray, List.set_cons_zero, List.set_cons_succ]
    refine wpAnyH_take (i := 3) (oi := { dst := some 13, op := Op.load 57 (Operand.tmp 12), type := 57, pos := _, after := #[{ on := 2, ground := Ground.data }], guard := none }) (v := ?va3) rfl (by kernel_rfl) (by kernel_rfl) (by kernel_rfl) (fun _ _ _ h => h) (Or.inl ⟨by rfl, ?hya3⟩) hHeld ?resta3
    case hya3 =>
      intro w hSw
      obtain ⟨⟨c0, c1, c2⟩, _⟩ := hSw
      (go_simp <;> with_reducible rfl)
    simp only [Act.put, List.setIfInBounds_toArray, List.set_cons_zero, List.set_cons_succ]
    refine wpAnyH_take (i := 4) (oi := { dst := some 14, op := Op.load 3 (Operand.tmp 3), type := 3, pos := _, after := #[], guard := none }) (v := ?va4) rfl (by kernel_rfl) (by kernel_rfl) (by kernel_rfl) (fun _ _ _ h => h) (Or.inl ⟨by rfl, ?hya4⟩) hHeld ?resta4
    case hya4 =>
      intro w hSw
      obtain ⟨⟨c0, c1, c2⟩, _⟩ := hSw
      (go_simp <;> with_reducible rfl)
    simp only [Act.put, List.setIfInBounds_toArray, List.set_cons_zero, List.set_cons_succ]
    refine wpAnyH_ready (rs := [5]) (by kernel_rfl) (by simp) ?_
    refine AllReadyH.cons (o := { dst := some 15, op := Op.call { callee := Callee.value (Operand.func 32), args := #[Operand.tmp 13, Operand.tmp 14], argTypes := #[57, 3] }, type := 3, pos := _, after := #[{ on := 3, ground := Ground.data }, { on := 4, ground := Ground.data }], guard := none }) rfl (fun K hK => ?_) AllReadyH.nil
    go_simp
    go_at_call 32
    refine Calls.mono HST.out ?_
    rintro e w1 ⟨rfl, hr1⟩
    have HR1 := Lib.hid hr1
    clear hr1 HST
    refine hK.out _ _ ⟨HS1.out w1 HR1.out, trivial⟩ (fun hHeld1 => ?_)
    clear hK K hHeld
    refine wpAnyH_take (i := 6) (oi := { dst := some 16, op := Op.binOp BinOp.eql 3 (Operand.tmp 15) (Operand.const (Value.int IntKind.i64 0)) 3, type := 4, pos := _, after := #[{ on := 5, ground := Ground.data }], guard := none }) (v := ?va6) rfl (by kernel_rfl) (by kernel_rfl) (by kernel_rfl) (fun _ _ _ h => h) (Or.inl ⟨by rfl, ?hya6⟩) hHeld1 ?resta6
    case hya6 =>
      intro w hSw
      clear hSw
      (go_simp <;> with_reducible rfl)
    simp only [Act.put, List.setIfInBounds_toArray, List.set_cons_zero, List.set_cons_succ]
    refine wpAnyH_done (by kernel_rfl) ?_ _
    clear HC0
    by_cases hX : X = 0
    · subst hX
      have HFR := Lib.hid (HFR0.out w1 HR1.out)
      have HC1 := Lib.hid (HS1.out _ (HR1.out.on (Below.refl _ w1).drew))
      clear HNO HFR0 HR1 hHeld1
      gi_wp2
      refine round_held (S := fun w' => (w'.cell? ⟨py, 0, none⟩ = some (ptr gy) ∧ w'.cell? ⟨nb, 0, none⟩ = some (.int .i64 now) ∧ w'.cell? ⟨px, 0, none⟩ = some (ptr gx)) ∧ True) hmx2 (no_defer (by kernel_rfl)) (fun a w h => h) ⟨HC1.out, trivial⟩ (fun hHeld => ?_)
      refine wpAnyH_take (i := 0) (oi := { dst := some 17, op := Op.move (Operand.tmp 5), type := 49, pos := _, after := #[], guard := none }) (v := ?vb0) rfl (by kernel_rfl) (by kernel_rfl) (by kernel_rfl) (fun _ _ _ h => h) (Or.inl ⟨by rfl, ?hyb0⟩) hHeld ?restb0
      case hyb0 =>
        intro w hSw
        clear hSw
        (go_simp <;> with_reducible rfl)
      simp only [Act.put, List.setIfInBounds_toArray, List.set_cons_zero, List.set_cons_succ]
      refine wpAnyH_take (i := 1) (oi := { dst := some 18, op := Op.nilCheck (Operand.tmp 17), type := 0, pos := _, after := #[{ on := 0, ground := Ground.data }], guard := none }) (v := ?vb1) rfl (by kernel_rfl) (by kernel_rfl) (by kernel_rfl) (fun _ _ _ h => h) (Or.inl ⟨by rfl, ?hyb1⟩) hHeld ?restb1
      case hyb1 =>
        intro w hSw
        clear hSw
        (go_simp <;> with_reducible rfl)
      simp only [Act.put, List.setIfInBounds_toArray, List.set_cons_zero, List.set_cons_succ]
      refine wpAnyH_take (i := 2) (oi := { dst := some 19, op := Op.fieldAddr 59 (Operand.tmp 18) 0, type := 0, pos := _, after := #[{ on := 1, ground := Ground.data }], guard := none }) (v := ?vb2) rfl (by kernel_rfl) (by kernel_rfl) (by kernel_rfl) (fun _ _ _ h => h) (Or.inl ⟨by rfl, ?hyb2⟩) hHeld ?restb2
      case hyb2 =>
        intro w hSw
        clear hSw
        (go_simp <;> with_reducible rfl)
      simp only [Act.put, List.setIfInBounds_toArray, List.set_cons_zero, List.set_cons_succ]
      refine wpAnyH_take (i := 3) (oi := { dst := some 20, op := Op.load 57 (Operand.tmp 19), type := 57, pos := _, after := #[{ on := 2, ground := Ground.data }], guard := none }) (v := ?vb3) rfl (by kernel_rfl) (by kernel_rfl) (by kernel_rfl) (fun _ _ _ h => h) (Or.inl ⟨by rfl, ?hyb3⟩) hHeld ?restb3
      case hyb3 =>
        intro w hSw
        obtain ⟨⟨c0, c1, c2⟩, _⟩ := hSw
        (go_simp <;> with_reducible rfl)
      simp only [Act.put, List.setIfInBounds_toArray, List.set_cons_zero, List.set_cons_succ]
      refine wpAnyH_take (i := 4) (oi := { dst := some 21, op := Op.load 3 (Operand.tmp 3), type := 3, pos := _, after := #[], guard := none }) (v := ?vb4) rfl (by kernel_rfl) (by kernel_rfl) (by kernel_rfl) (fun _ _ _ h => h) (Or.inl ⟨by rfl, ?hyb4⟩) hHeld ?restb4
      case hyb4 =>
        intro w hSw
        obtain ⟨⟨c0, c1, c2⟩, _⟩ := hSw
        (go_simp <;> with_reducible rfl)
      simp only [Act.put, List.setIfInBounds_toArray, List.set_cons_zero, List.set_cons_succ]
      refine wpAnyH_take (i := 5) (oi := { dst := some 22, op := Op.move (Operand.tmp 4), type := 49, pos := _, after := #[], guard := none }) (v := ?vb5) rfl (by kernel_rfl) (by kernel_rfl) (by kernel_rfl) (fun _ _ _ h => h) (Or.inl ⟨by rfl, ?hyb5⟩) hHeld ?restb5
      case hyb5 =>
        intro w hSw
        clear hSw
        (go_simp <;> with_reducible rfl)
      simp only [Act.put, List.setIfInBounds_toArray, List.set_cons_zero, List.set_cons_succ]
      refine wpAnyH_take (i := 6) (oi := { dst := some 23, op := Op.nilCheck (Operand.tmp 22), type := 0, pos := _, after := #[{ on := 5, ground := Ground.data }], guard := none }) (v := ?vb6) rfl (by kernel_rfl) (by kernel_rfl) (by kernel_rfl) (fun _ _ _ h => h) (Or.inl ⟨by rfl, ?hyb6⟩) hHeld ?restb6
      case hyb6 =>
        intro w hSw
        clear hSw
        (go_simp <;> with_reducible rfl)
      simp only [Act.put, List.setIfInBounds_toArray, List.set_cons_zero, List.set_cons_succ]
      refine wpAnyH_take (i := 7) (oi := { dst := some 24, op := Op.fieldAddr 59 (Operand.tmp 23) 0, type := 0, pos := _, after := #[{ on := 6, ground := Ground.data }], guard := none }) (v := ?vb7) rfl (by kernel_rfl) (by kernel_rfl) (by kernel_rfl) (fun _ _ _ h => h) (Or.inl ⟨by rfl, ?hyb7⟩) hHeld ?restb7
      case hyb7 =>
        intro w hSw
        clear hSw
        (go_simp <;> with_reducible rfl)
      simp only [Act.put, List.setIfInBounds_toArray, List.set_cons_zero, List.set_cons_succ]
      refine wpAnyH_take (i := 8) (oi := { dst := some 25, op := Op.load 57 (Operand.tmp 24), type := 57, pos := _, after := #[{ on := 7, ground := Ground.data }], guard := none }) (v := ?vb8) rfl (by kernel_rfl) (by kernel_rfl) (by kernel_rfl) (fun _ _ _ h => h) (Or.inl ⟨by rfl, ?hyb8⟩) hHeld ?restb8
      case hyb8 =>
        intro w hSw
        obtain ⟨⟨c0, c1, c2⟩, _⟩ := hSw
        (go_simp <;> with_reducible rfl)
      simp only [Act.put, List.setIfInBounds_toArray, List.set_cons_zero, List.set_cons_succ]
      refine wpAnyH_take (i := 9) (oi := { dst := some 26, op := Op.load 3 (Operand.tmp 3), type := 3, pos := _, after := #[], guard := none }) (v := ?vb9) rfl (by kernel_rfl) (by kernel_rfl) (by kernel_rfl) (fun _ _ _ h => h) (Or.inl ⟨by rfl, ?hyb9⟩) hHeld ?restb9
      case hyb9 =>
        intro w hSw
        obtain ⟨⟨c0, c1, c2⟩, _⟩ := hSw
        (go_simp <;> with_reducible rfl)
      simp only [Act.put, List.setIfInBounds_toArray, List.set_cons_zero, List.set_cons_succ]
      refine wpAnyH_take (i := 10) (oi := { dst := some 27, op := Op.move (Operand.tmp 5), type := 49, pos := _, after := #[], guard := none }) (v := ?vb10) rfl (by kernel_rfl) (by kernel_rfl) (by kernel_rfl) (fun _ _ _ h => h) (Or.inl ⟨by rfl, ?hyb10⟩) hHeld ?restb10
      case hyb10 =>
        intro w hSw
        clear hSw
        (go_simp <;> with_reducible rfl)
      simp only [Act.put, List.setIfInBounds_toArray, List.set_cons_zero, List.set_cons_succ]
      refine wpAnyH_take (i := 11) (oi := { dst := some 28, op := Op.nilCheck (Operand.tmp 27), type := 0, pos := _, after := #[{ on := 10, ground := Ground.data }], guard := none }) (v := ?vb11) rfl (by kernel_rfl) (by kernel_rfl) (by kernel_rfl) (fun _ _ _ h => h) (Or.inl ⟨by rfl, ?hyb11⟩) hHeld ?restb11
      case hyb11 =>
        intro w hSw
        clear hSw
        (go_simp <;> with_reducible rfl)
      simp only [Act.put, List.setIfInBounds_toArray, List.set_cons_zero, List.set_cons_succ]
      refine wpAnyH_take (i := 12) (oi := { dst := some 29, op := Op.fieldAddr 59 (Operand.tmp 28) 0, type := 0, pos := _, after := #[{ on := 11, ground := Ground.data }], guard := none }) (v := ?vb12) rfl (by kernel_rfl) (by kernel_rfl) (by kernel_rfl) (fun _ _ _ h => h) (Or.inl ⟨by rfl, ?hyb12⟩) hHeld ?restb12
      case hyb12 =>
        intro w hSw
        clear hSw
        (go_simp <;> with_reducible rfl)
      simp only [Act.put, List.setIfInBounds_toArray, List.set_cons_zero, List.set_cons_succ]
      refine wpAnyH_take (i := 13) (oi := { dst := some 30, op := Op.load 57 (Operand.tmp 29), type := 57, pos := _, after := #[{ on := 12, ground := Ground.data }], guard := none }) (v := ?vb13) rfl (by kernel_rfl) (by kernel_rfl) (by kernel_rfl) (fun _ _ _ h => h) (Or.inl ⟨by rfl, ?hyb13⟩) hHeld ?restb13
      case hyb13 =>
        intro w hSw
        obtain ⟨⟨c0, c1, c2⟩, _⟩ := hSw
        (go_simp <;> with_reducible rfl)
      simp only [Act.put, List.setIfInBounds_toArray, List.set_cons_zero, List.set_cons_succ]
      refine wpAnyH_ready (rs := [14]) (by kernel_rfl) (by simp) ?_
      refine AllReadyH.cons (o := { dst := some 31, op := Op.call { callee := Callee.value (Operand.func 46), args := #[Operand.tmp 30], argTypes := #[57] }, type := 3, pos := _, after := #[{ on := 13, ground := Ground.data }], guard := none }) rfl (fun K hK => ?_) AllReadyH.nil
      go_simp
      go_at_call 46
      refine Calls.mono HFR.out ?_
      rintro e w2 ⟨rfl, hr2⟩
      have HR2 := Lib.hid hr2
      clear hr2 HFR
      refine hK.out _ _ ⟨HS1.out w2 HR2.out, trivial⟩ (fun hHeld1 => ?_)
      clear hK K hHeld
      refine wpAnyH_ready (rs := [15]) (by kernel_rfl) (by simp) ?_
      refine AllReadyH.cons (o := { dst := some 32, op := Op.call { callee := Callee.value (Operand.func 33), args := #[Operand.tmp 25, Operand.tmp 26, Operand.tmp 31], argTypes := #[57, 3, 3] }, type := 41, pos := _, after := #[{ on := 8, ground := Ground.data }, { on := 9, ground := Ground.data }, { on := 14, ground := Ground.data }, { on := 14, ground := Ground.chain }], guard := none }) rfl (fun K hK => ?_) AllReadyH.nil
      go_simp
      go_at_call 33
      refine Calls.mono (HTK.out w2 HR2.out) ?_
      rintro e w3 ⟨ta, td, rfl, hi3, hm3⟩
      have HM3 := Lib.hid hm3
      have HI3 := Lib.hid hi3
      clear hm3 hi3 HTK HR2
      refine hK.out _ _ ⟨HS3.out w3 HM3.out, trivial⟩ (fun hHeld2 => ?_)
      clear hK K hHeld1
      refine wpAnyH_ready (rs := [16]) (by kernel_rfl) (by simp) ?_
      refine AllReadyH.cons (o := { dst := some 33, op := Op.call { callee := Callee.value (Operand.func 41), args := #[Operand.tmp 20, Operand.tmp 21, Operand.tmp 32], argTypes := #[57, 3, 41] }, type := 0, pos := _, after := #[{ on := 3, ground := Ground.data }, { on := 4, ground := Ground.data }, { on := 15, ground := Ground.data }, { on := 15, ground := Ground.chain }], guard := none }) rfl (fun K hK => ?_) AllReadyH.nil
      go_simp
      go_at_call 41
      refine Calls.mono (HPU.out w3 ta td HM3.out HI3.out) ?_
      rintro e w4 ⟨rfl, hr4⟩
      have HR4 := Lib.hid hr4
      clear hr4 HPU HM3 HI3
      refine hK.out _ _ ⟨HS4.out w4 HR4.out, trivial⟩ (fun hHeld3 => ?_)
      clear hK K hHeld2
      refine wpAnyH_done (by kernel_rfl) ?_ _
      gi_wp2
      have e := HYES.out (by trivial)
      refine ⟨(HKP.out _ _ ?_ HR4.out).1, (HKP.out _ _ ?_ HR4.out).2, ?_⟩
      · rw [← e]; exact HLF.out
      · rw [← e]; exact HLF.out
      · show RndI _ _ _ _ _ _ _ _ _ (movX c now _) _
        rw [HFL.out, e]
        exact HR4.out.1
    · have d1x : decide (X = 0) = false := by simpa using hX
      have d2x : (X == 0) = false := by simpa using hX
      clear HFR0 HTK HPU HS3 HS4 HYES
      gi_wp2
      have e := HNO.out hX
      refine ⟨(HKP.out _ _ ?_ HR1.out).1, (HKP.out _ _ ?_ HR1.out).2, ?_⟩
      · rw [← e]; exact HLF.out
      · rw [← e]; exact HLF.out
      · show RndI _ _ _ _ _ _ _ _ _ (movX c now _) _
        rw [HFL.out, e]
        exact HR1.out.1
end
end Go.Proofs.Ytfdfgnmgpgkknaa
