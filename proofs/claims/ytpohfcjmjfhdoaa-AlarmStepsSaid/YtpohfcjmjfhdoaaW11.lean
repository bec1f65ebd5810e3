/-
  Contract: Take. Conditions: as each states.
-/
import Derived.Test.YtpohfcjmjfhdoaaW10
import Derived.Test.YtpohfcjmjfhdoaaD8
namespace Go.Proofs.Ytpohfcjmjfhdoaa
open Go.RowKit Go.Sort Go.Maps

theorem due_is {ds : List Due} {x : Int} {k : Nat} (hk : k ≤ ds.length) (h : ∀ j, j < k → (ds.getD j (0, 0)).1 ≤ x) (he : k < ds.length → ¬ (ds.getD k (0, 0)).1 ≤ x) : dueN ds x = k := by
  induction ds generalizing k with
  | nil => have : k = 0 := by simpa using hk
           subst this
           rfl
  | cons d r ih =>
    cases k with
    | zero =>
      have := he (by simp)
      have e : ¬ d.1 ≤ x := this
      simp [dueN, e]
    | succ k =>
      have e : d.1 ≤ x := h 0 (by omega)
      have := ih (k := k) (by simpa using hk) (fun j hj => h (j + 1) (by omega)) (fun hj => he (by simpa using hj))
      unfold dueN at this ⊢
      simp [e, this]
theorem own_far {w w' : World} {base T n : Nat} {v : Value} {zs : List Value} (h : w.ownsRow base T 2 v n zs) (hb : ∀ i, base ≤ i → i < w.heap.size → w'.heap[i]? = w.heap[i]?) : w'.ownsRow base T 2 v n zs := by
  obtain ⟨hl, h0 | ⟨g, cap, cur, e1, e2, e3, e4⟩⟩ := h
  · exact ⟨hl, Or.inl h0⟩
  · exact ⟨hl, Or.inr ⟨g, cap, cur, e1, e2, (hb g e2 (blk_lt e3)).trans e3, e4⟩⟩
theorem Mem.grown {w w' : World} {base g : Nat} {u : Option Nat} {m : Nat} {s : St} {last : Int} {row : Option Nat} (h : Mem w base g u m s last) (hg : w.grownBy w' row) (h1 : row ≠ some g) (h2 : row ≠ some m) (h3 : ∀ i, u = some i → row ≠ some i) : Mem w' base g u m s last := by
  obtain ⟨v, a1, a2, a3⟩ := h.ex
  refine ⟨⟨v, (hg.block g (blk_lt a1) (fun e => h1 e.symm)).trans a1, a2.kept hg ?_, a3⟩, map_kept h.map hg (fun e => h2 e.symm), h.base_g, h.base_m⟩
  cases e : v.ownBlock with
  | none => exact Or.inl rfl
  | some i => exact Or.inr (fun e' => h3 i (by rw [← a3, e]) e'.symm)
theorem Al.grown {w w' : World} {base g : Nat} {u : Option Nat} {m : Nat} {L : List Due} {last : Int} {row : Option Nat} (h : Al w base g u m L last) (hg : w.grownBy w' row) (h1 : row ≠ some g) (h2 : row ≠ some m) (h3 : ∀ i, u = some i → row ≠ some i) : Al w' base g u m L last := by
  obtain ⟨s, a1, a2⟩ := h.ex
  exact ⟨⟨s, a1.grown hg h1 h2 h3, a2⟩, h.low, h.top, h.cnt⟩
theorem kept_far {a w w' : World} {g : Nat} {u : Option Nat} {m : Nat} {row : Option Nat} (h : Kept a w g u m) (hg : w.grownBy w' row) (hr : ∀ i, row = some i → a.heap.size ≤ i) : Kept a w' g u m := by
  have hs := h.size
  refine ⟨hg.os.trans h.os, hg.tape.trans h.tape, hg.output.trans h.output, Nat.le_trans h.size hg.size, fun j hj hgj hu hm => (hg.block j (by omega) (fun e => ?_)).trans (h.block j hj hgj hu hm)⟩
  have := hr j e.symm
  omega
/-- How far taking has come. -/
structure Took (w wr : World) (base g : Nat) (u : Option Nat) (m : Nat) (L : List Due) (last : Int) (k : Nat) (v : Value) : Prop where
  al : Al wr base g u m (L.drop k) last
  own : wr.ownsRow w.heap.size 38 2 v k (flat (L.take k))
  kept : Kept w wr g u m
theorem take_step {w wr : World} {base g : Nat} {u : Option Nat} {m : Nat} {L : List Due} {last : Int} {k : Nat} {v : Value} (hw : Al w base g u m L last) (h : Took w wr base g u m L last k v) (hk : k < L.length) {x0 x1 : Int} (hx : L.getD k (0, 0) = (x0, x1)) :
    ∃ q d w2, (∀ ty, (Builtin.append_ #[43, 43] ty #[v, .slice (some ⟨wr.heap.size, 0, none⟩) 1 1]).run Try.prog (wr.alloc (.cells #[.int .i64 x0, .int .i64 x1] 38)) = .ok (.slice q (k + 1) d) w2) ∧
      Calls Try.prog 37 #[.pointer (some ⟨g, 0, none⟩), .int .i64 0] w2 fun e w' => e = .returned (.tuple #[]) ∧ Took w w' base g u m L last (k + 1) (.slice q (k + 1) d) := by
  obtain ⟨⟨b1, b2⟩, ⟨b3, b4⟩, b5⟩ := hw.bounds
  have hcnt := hw.cnt
  have htop := hw.top
  have hws := h.kept.size
  have hlen : (L.take k).length = k := by rw [List.length_take]; omega
  obtain ⟨v', w2, r1, r2, r3, r4⟩ := app_alarm (w := wr.alloc (.cells #[.int .i64 x0, .int .i64 x1] 38)) (h.own.alloc _) (by simp; omega) (p := some ⟨wr.heap.size, 0, none⟩) (n := 1) (c := 1) (ds := [(x0, x1)]) rfl (fun h => by cases h) (made_due wr x0 x1 _ _) (by omega) 43
  have e1 : L.take k ++ [(x0, x1)] = L.take (k + 1) := by
    rw [List.take_add_one, ← hx, List.getD_eq_getElem?_getD, List.getElem?_eq_getElem hk]
    rfl
  rw [e1] at r2
  obtain ⟨q, d, rfl, _⟩ := own_dues r2
  have hrow : ∀ i, v.ownBlock = some i → w.heap.size ≤ i := fun i hi => (h.own.lt i hi).1
  have hal : Al w2 base g u m (L.drop k) last := (h.al.on ((Below.refl _ _).alloc (Nat.le_refl _) _)).grown r3 (fun e => by have := hrow _ e; omega) (fun e => by have := hrow _ e; omega) (fun i hi e => by have := hrow _ e; have := (b5 i hi).2; omega)
  have hk2 : Kept w w2 g u m := kept_far (kept_trans h.kept (kept_below ((Below.refl _ _).alloc (Nat.le_refl _) _) g u m)) r3 hrow
  obtain ⟨s, hM, hL⟩ := hal.ex
  have hdl : 0 < s.h.length := by rw [hL.len, List.length_drop]; omega
  have hcl : s.h.length ≤ 100000 := by rw [hL.len, List.length_drop]; omega
  obtain ⟨r, hr⟩ := hL.head hdl
  have hr' : r = L.drop (k + 1) := by
    have := List.drop_eq_getElem_cons hk
    rw [this] at hr
    injection hr with _ hr
    exact hr.symm
  refine ⟨q, d, w2, fun ty => by rw [← r1]; rfl, (show Calls Try.prog 37 #[.pointer (some ⟨g, 0, none⟩), .int .i64 ((0 : Nat) : Int)] w2 _ from remove_any hM hL.placed hdl hcl (fun j hj => hL.wf (by omega) hj)).mono ?_⟩
  rintro e w3 ⟨he, hM3, hK3⟩
  refine ⟨he, ⟨⟨_, hM3, ?_⟩, hw.low, hw.top, by rw [List.length_drop]; omega⟩, own_far r2 (fun i hi1 hi2 => hK3.block i hi2 (by omega) (fun e => by have := (b5 i e).2; omega) (by omega)), kept_trans hk2 hK3⟩
  rw [← hr']
  exact hL.tail hr
/-- What Take hands back. -/
def OutT (w : World) (base g : Nat) (u : Option Nat) (m : Nat) (L : List Due) (last : Int) (K : Nat) (e : Ending) (w' : World) : Prop := ∃ q d, e = .returned (.slice q K d) ∧ Took w w' base g u m L last K (.slice q K d)
theorem al_head {w : World} {base g : Nat} {u : Option Nat} {m : Nat} {L : List Due} {last : Int} (h : Al w base g u m L last) :
    (∃ p c, w.cell? ⟨g, 0, none⟩ = some (.slice p L.length c)) ∧ (0 < L.length → ∃ b c, w.cell? ⟨g, 0, none⟩ = some (.slice (some ⟨b, 0, none⟩) L.length c) ∧ w.cell? ⟨b, 0, none⟩ = some (.int .i64 (L.getD 0 (0, 0)).1) ∧ w.cell? ⟨b, 1, none⟩ = some (.int .i64 (L.getD 0 (0, 0)).2)) := by
  obtain ⟨s, hM, hL⟩ := h.ex
  obtain ⟨v, h1, h2, _⟩ := hM.ex
  rw [← hL.len]
  obtain ⟨p, c, rfl, _⟩ := own_dues h2
  refine ⟨⟨p, c, cell_of_row _ g 0 _ _ _ h1⟩, fun h0 => ?_⟩
  obtain ⟨b, c', e, _⟩ := row_form h2 h0
  cases e
  obtain ⟨y0, y1⟩ := row_cells h2 h0
  obtain ⟨r, hr⟩ := hL.head h0
  refine ⟨b, c, cell_of_row _ g 0 _ _ _ h1, ?_, ?_⟩
  · rw [hr]
    rw [Nat.zero_mul] at y0
    exact y0
  · rw [hr]
    rw [Nat.zero_mul, Nat.zero_add] at y1
    exact y1
set_option maxHeartbeats 8000000 in
set_option maxRecDepth 10000 in
theorem take_al {w : World} {base g : Nat} {u : Option Nat} {m : Nat} {L : List Due} {last : Int} (h : Al w base g u m L last) (now : Int) :
    Calls Try.prog 21 #[.pointer (some ⟨g, 0, none⟩), .int .i64 now] w (OutT w base g u m L last (dueN L now)) := by
  obtain ⟨N, hN⟩ : ∃ N, L.length = N := ⟨_, rfl⟩
  have hNb : N ≤ 100000 := by rw [← hN]; exact len_int h.cnt h.top
  obtain ⟨K, HK⟩ : ∃ K, Hid (dueN L now = K) := ⟨_, Lib.hid rfl⟩
  rw [HK.out]
  have HH := Lib.hid h
  have HN := Lib.hid hN
  have H0 := Lib.hid (show Took w w base g u m L last 0 (.slice none 0 0) from ⟨by rw [List.drop_zero]; exact h, World.ownsRow_nil _ _ _ _, kept_refl w g u m⟩)
  clear h hN
  go_enter Try.func21, Try.ntmps21
  go_wp2_with fail
  go_loopw [5] (fun i wr => ∃ (k : Nat) (q : Option Addr) (d : Nat), k ≤ N ∧ i = .slice q k d ∧ Hid (Took w wr base g u m L last k (.slice q k d)) ∧ Hid (∀ j, j < k → (L.getD j (0, 0)).1 ≤ now)) (fun i _ => N - (match i with | .slice _ k _ => k | _ => 0))
  case atStart => exact ⟨0, none, 0, by omega, rfl, H0, Lib.hid (fun j hj => absurd hj (by omega))⟩
  case round =>
    obtain ⟨k, q, d, hk, rfl, HT, HS⟩ := hrel
    have hdl : (L.drop k).length = N - k := by rw [List.length_drop, HN.out]
    by_cases hlt : k < N
    · obtain ⟨b, c, g0, y0, y1⟩ := (al_head HT.out.al).2 (by omega)
      rw [hdl] at g0
      rw [show (L.drop k).getD 0 (0, 0) = L.getD k (0, 0) by simp [List.getD_eq_getElem?_getD, List.getElem?_drop]] at y0 y1
      obtain ⟨x, hx⟩ : ∃ x, L.getD k (0, 0) = x := ⟨_, rfl⟩
      rw [hx] at y0 y1
      obtain ⟨x0, x1⟩ := x
      dsimp only at y0 y1
      obtain ⟨n, hn⟩ : ∃ n, N - k = n := ⟨_, rfl⟩
      rw [hn] at g0
      have hn0 : 0 < n := by omega
      have hgl := World.block_lt_of_cell? wr _ g0
      have hbl := World.block_lt_of_cell? wr _ y0
      have HX := Lib.hid hx
      have d1 : decide ((0 : Int) < (n : Int)) = true := by simp; omega
      by_cases hle : x0 ≤ now
      · obtain ⟨q', d', w2, hrun, hcall⟩ := take_step HH.out HT.out (by rw [HN.out]; exact hlt) hx
        have HR := Lib.hid hrun
        have HC := Lib.hid hcall
        have hk1 : k + 1 ≤ N := hlt
        have hkm : N - (k + 1) < N - k := by omega
        clear hrun hcall hx hdl hn
        go_wp2_with (at_builtin; refine Lib.wpList_append_run _ rfl _ _ _ _ rfl _ _ rfl rfl _ _ (HR.out _) ?_)
        refine HC.out.mono ?_
        rintro e w3 ⟨rfl, hT⟩
        have HT3 := Lib.hid hT
        clear hT
        go_wp2_with fail
        go_roundw
        case rel => exact ⟨k + 1, q', d', hk1, rfl, HT3, Lib.hid (fun j hj => by
          rcases Nat.lt_or_ge j k with h | h
          · exact HS.out j h
          · obtain rfl : j = k := by omega
            rw [HX.out]
            exact hle)⟩
        case measure => exact hkm
      · have hK : K = k := by
          rw [← HK.out]
          exact due_is (by rw [HN.out]; exact hk) HS.out (fun _ => by rw [hx]; exact hle)
        have HKK := Lib.hid hK
        clear hK hx hdl hn
        go_wp2_with fail
        go_ret
        rw [HKK.out]
        exact ⟨q, d, rfl, HT.out⟩
    · obtain ⟨p, c, g0⟩ := (al_head HT.out.al).1
      rw [hdl, show N - k = 0 by omega] at g0
      have hK : K = k := by
        rw [← HK.out]
        exact due_is (by rw [HN.out]; exact hk) HS.out (fun h => absurd h (by rw [HN.out]; exact hlt))
      have HKK := Lib.hid hK
      clear hK hdl
      go_wp2_with fail
      go_ret
      rw [HKK.out]
      exact ⟨q, d, rfl, HT.out⟩
end Go.Proofs.Ytpohfcjmjfhdoaa
