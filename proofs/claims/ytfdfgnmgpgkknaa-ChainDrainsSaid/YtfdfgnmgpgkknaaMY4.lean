/-
  Contract: what Take of a stage answers. Conditions: as each states.
  Contracts: Take of a stage. Conditions: as each states.
  Contract: Take of a stage whose kind is given by 'all'. Conditions: as each states.
  Contract: Take of a stage whose kind is given by 'poured'. Conditions: as each states.
  Contract: Take of a stage whose kind is given by 'slice'. Conditions: as each states.
  Contract: Take of a stage whose kind is given by 'none'. Conditions: as each states.
-/
import Derived.Test.YtfdfgnmgpgkknaaMY3
namespace Go.Proofs.Ytfdfgnmgpgkknaa
open Go.RowKit

variable {w w' w'' w0 : World} {base g c M M' : Nat} {u u' u'' : gc.U} {s s' s'' : St}
def fV (f : FuncId) : Value := .func (.func f) #[] #[]
def giveV : Value := .agg #[fV 67, fV 67, fV 68, fV 69, fV 70, fV 67, fV 71, fV 67]
def set8 (w : World) (g : Nat) : World := ((((((((((((((((w).setCell ⟨g, 0, none⟩ (Value.func (.func 67) #[] #[]))).setCell ⟨g, 1, none⟩ (Value.func (.func 67) #[] #[]))).setCell ⟨g, 2, none⟩ (Value.func (.func 68) #[] #[]))).setCell ⟨g, 3, none⟩ (Value.func (.func 69) #[] #[]))).setCell ⟨g, 4, none⟩ (Value.func (.func 70) #[] #[]))).setCell ⟨g, 5, none⟩ (Value.func (.func 67) #[] #[]))).setCell ⟨g, 6, none⟩ (Value.func (.func 71) #[] #[]))).setCell ⟨g, 7, none⟩ (Value.func (.func 67) #[] #[]))
theorem set8_heap {w : World} {g : Nat} {a b c d e f h i : Value} {T : TypeId} (hg : w.heap[g]? = some (.cells #[a, b, c, d, e, f, h, i] T (0, 0))) : (set8 w g).heap[g]? = some (.cells #[(Value.func (.func 67) #[] #[]), (Value.func (.func 67) #[] #[]), (Value.func (.func 68) #[] #[]), (Value.func (.func 69) #[] #[]), (Value.func (.func 70) #[] #[]), (Value.func (.func 67) #[] #[]), (Value.func (.func 71) #[] #[]), (Value.func (.func 67) #[] #[])] T (0, 0)) := by
  unfold set8
  have h0 : _ = some (Obj.cells #[(Value.func (.func 67) #[] #[]), b, c, d, e, f, h, i] T (0, 0)) := gb.set_heap (i := 0) hg (Value.func (.func 67) #[] #[])
  have h1 : _ = some (Obj.cells #[(Value.func (.func 67) #[] #[]), (Value.func (.func 67) #[] #[]), c, d, e, f, h, i] T (0, 0)) := gb.set_heap (i := 1) h0 (Value.func (.func 67) #[] #[])
  have h2 : _ = some (Obj.cells #[(Value.func (.func 67) #[] #[]), (Value.func (.func 67) #[] #[]), (Value.func (.func 68) #[] #[]), d, e, f, h, i] T (0, 0)) := gb.set_heap (i := 2) h1 (Value.func (.func 68) #[] #[])
  have h3 : _ = some (Obj.cells #[(Value.func (.func 67) #[] #[]), (Value.func (.func 67) #[] #[]), (Value.func (.func 68) #[] #[]), (Value.func (.func 69) #[] #[]), e, f, h, i] T (0, 0)) := gb.set_heap (i := 3) h2 (Value.func (.func 69) #[] #[])
  have h4 : _ = some (Obj.cells #[(Value.func (.func 67) #[] #[]), (Value.func (.func 67) #[] #[]), (Value.func (.func 68) #[] #[]), (Value.func (.func 69) #[] #[]), (Value.func (.func 70) #[] #[]), f, h, i] T (0, 0)) := gb.set_heap (i := 4) h3 (Value.func (.func 70) #[] #[])
  have h5 : _ = some (Obj.cells #[(Value.func (.func 67) #[] #[]), (Value.func (.func 67) #[] #[]), (Value.func (.func 68) #[] #[]), (Value.func (.func 69) #[] #[]), (Value.func (.func 70) #[] #[]), (Value.func (.func 67) #[] #[]), h, i] T (0, 0)) := gb.set_heap (i := 5) h4 (Value.func (.func 67) #[] #[])
  have h6 : _ = some (Obj.cells #[(Value.func (.func 67) #[] #[]), (Value.func (.func 67) #[] #[]), (Value.func (.func 68) #[] #[]), (Value.func (.func 69) #[] #[]), (Value.func (.func 70) #[] #[]), (Value.func (.func 67) #[] #[]), (Value.func (.func 71) #[] #[]), i] T (0, 0)) := gb.set_heap (i := 6) h5 (Value.func (.func 71) #[] #[])
  have h7 : _ = some (Obj.cells #[(Value.func (.func 67) #[] #[]), (Value.func (.func 67) #[] #[]), (Value.func (.func 68) #[] #[]), (Value.func (.func 69) #[] #[]), (Value.func (.func 70) #[] #[]), (Value.func (.func 67) #[] #[]), (Value.func (.func 71) #[] #[]), (Value.func (.func 67) #[] #[])] T (0, 0)) := gb.set_heap (i := 7) h6 (Value.func (.func 67) #[] #[])
  exact h7
theorem set8_below {B : Nat} {w0 w : World} {g : Nat} (h : Below B w0 w) (hg : B ≤ g) : Below B w0 (set8 w g) := ((((((((h.setCell (p := ⟨g, 0, none⟩) hg _).setCell (p := ⟨g, 1, none⟩) hg _).setCell (p := ⟨g, 2, none⟩) hg _).setCell (p := ⟨g, 3, none⟩) hg _).setCell (p := ⟨g, 4, none⟩) hg _).setCell (p := ⟨g, 5, none⟩) hg _).setCell (p := ⟨g, 6, none⟩) hg _).setCell (p := ⟨g, 7, none⟩) hg _)
set_option maxRecDepth 100000 in
set_option maxHeartbeats 4000000 in
theorem gives_any (w : World) : Calls Try.prog 52 #[] w fun e w' => e = .returned giveV ∧ Below w.heap.size w w' := by
  have hb0 : Below w.heap.size w (w.alloc (.cells #[Value.nilFunc, Value.nilFunc, Value.nilFunc, Value.nilFunc, Value.nilFunc, Value.nilFunc, Value.nilFunc, Value.nilFunc] 80)) := (Below.refl _ _).alloc (Nat.le_refl _) _
  have hg0 := heap_alloc_new w (.cells #[Value.nilFunc, Value.nilFunc, Value.nilFunc, Value.nilFunc, Value.nilFunc, Value.nilFunc, Value.nilFunc, Value.nilFunc] 80)
  obtain ⟨W0, hW0⟩ : ∃ W0, w.alloc (.cells #[Value.nilFunc, Value.nilFunc, Value.nilFunc, Value.nilFunc, Value.nilFunc, Value.nilFunc, Value.nilFunc, Value.nilFunc] 80) = W0 := ⟨_, rfl⟩
  rw [hW0] at hb0 hg0
  have x0 : W0.cell? ⟨w.heap.size, 0, none⟩ = some Value.nilFunc := cell_of_row _ _ 0 _ _ _ hg0
  have f0 : W0.frozen? ⟨w.heap.size, 0, none⟩ = false := gb.frozen_at hg0
  have x1 : W0.cell? ⟨w.heap.size, 1, none⟩ = some Value.nilFunc := cell_of_row _ _ 1 _ _ _ hg0
  have f1 : W0.frozen? ⟨w.heap.size, 1, none⟩ = false := gb.frozen_at hg0
  have x2 : W0.cell? ⟨w.heap.size, 2, none⟩ = some Value.nilFunc := cell_of_row _ _ 2 _ _ _ hg0
  have f2 : W0.frozen? ⟨w.heap.size, 2, none⟩ = false := gb.frozen_at hg0
  have x3 : W0.cell? ⟨w.heap.size, 3, none⟩ = some Value.nilFunc := cell_of_row _ _ 3 _ _ _ hg0
  have f3 : W0.frozen? ⟨w.heap.size, 3, none⟩ = false := gb.frozen_at hg0
  have x4 : W0.cell? ⟨w.heap.size, 4, none⟩ = some Value.nilFunc := cell_of_row _ _ 4 _ _ _ hg0
  have f4 : W0.frozen? ⟨w.heap.size, 4, none⟩ = false := gb.frozen_at hg0
  have x5 : W0.cell? ⟨w.heap.size, 5, none⟩ = some Value.nilFunc := cell_of_row _ _ 5 _ _ _ hg0
  have f5 : W0.frozen? ⟨w.heap.size, 5, none⟩ = false := gb.frozen_at hg0
  have x6 : W0.cell? ⟨w.heap.size, 6, none⟩ = some Value.nilFunc := cell_of_row _ _ 6 _ _ _ hg0
  have f6 : W0.frozen? ⟨w.heap.size, 6, none⟩ = false := gb.frozen_at hg0
  have x7 : W0.cell? ⟨w.heap.size, 7, none⟩ = some Value.nilFunc := cell_of_row _ _ 7 _ _ _ hg0
  have f7 : W0.frozen? ⟨w.heap.size, 7, none⟩ = false := gb.frozen_at hg0
  have hz := set8_heap hg0
  have HD := Lib.hid (set8_below hb0 (Nat.le_refl _))
  have hlt := gb.blk_lt hg0
  have ks : ∀ (a : Addr) (m : Mode) (f : Fn) (W : World), Sem.run Try.prog (store a (.func f #[] #[]) m) W = stored Try.prog W a (.func f #[] #[]) m := fun a m f W => run_store Try.prog W a _ m rfl
  clear hb0 hg0
  go_enter Try.func52, Try.ntmps52
  go_wp2_with fail
  generalize hW : set8 W0 w.heap.size = W9 at *
  unfold set8 at hW
  rw [hW]
  clear hW
  have z0 : W9.cell? ⟨w.heap.size, 0, none⟩ = some (Value.func (.func 67) #[] #[]) := cell_of_row _ _ 0 _ _ _ hz
  have z1 : W9.cell? ⟨w.heap.size, 1, none⟩ = some (Value.func (.func 67) #[] #[]) := cell_of_row _ _ 1 _ _ _ hz
  have z2 : W9.cell? ⟨w.heap.size, 2, none⟩ = some (Value.func (.func 68) #[] #[]) := cell_of_row _ _ 2 _ _ _ hz
  have z3 : W9.cell? ⟨w.heap.size, 3, none⟩ = some (Value.func (.func 69) #[] #[]) := cell_of_row _ _ 3 _ _ _ hz
  have z4 : W9.cell? ⟨w.heap.size, 4, none⟩ = some (Value.func (.func 70) #[] #[]) := cell_of_row _ _ 4 _ _ _ hz
  have z5 : W9.cell? ⟨w.heap.size, 5, none⟩ = some (Value.func (.func 67) #[] #[]) := cell_of_row _ _ 5 _ _ _ hz
  have z6 : W9.cell? ⟨w.heap.size, 6, none⟩ = some (Value.func (.func 71) #[] #[]) := cell_of_row _ _ 6 _ _ _ hz
  have z7 : W9.cell? ⟨w.heap.size, 7, none⟩ = some (Value.func (.func 67) #[] #[]) := cell_of_row _ _ 7 _ _ _ hz
  exact bodyPost_ret (v := giveV) (by simp [results, Try.results52, go_sem, z0, z1, z2, z3, z4, z5, z6, z7, giveV, fV]) rfl ⟨rfl, HD.out⟩
end Go.Proofs.Ytfdfgnmgpgkknaa
namespace Go.Proofs.Ytfdfgnmgpgkknaa
open Go.RowKit

variable {w w' w'' w0 : World} {base g c M M' : Nat} {u u' u'' : gc.U} {s s' s'' s1 s2 : St}
/-- What a call leaves that hands a row back. -/
def DidQ (w : World) (base g c : Nat) (u : gc.U) (s : St) (M : Nat) (q : Option Addr) (w' : World) : Prop := ∃ u', Raw w' base g c u' s M ∧ Mv w w' g c u u' ∧ gc.Own q c u'
def Tk (w : World) (base g c : Nat) (u : gc.U) (s : St) (M : Nat) (T : ByteArray) (K : Nat) (e : Ending) (w' : World) : Prop := ∃ q d, e = .returned (.slice q K d) ∧ Lib.BytesIn w' q K (gc.nums T) ∧ T.size = K ∧ K ≤ d ∧ d ≤ 9223372036854775807 ∧ DidQ w base g c u s M q w'
theorem Set.thenQ (h : Set w base g c u s M w') {q : Option Addr} (k : DidQ w' base g c u s' M' q w'') : DidQ w base g c u s' M' q w'' := by
  obtain ⟨u', h1, h2, h3⟩ := k
  exact ⟨u', h1, (h.2.mv c u).trans h2, h3⟩
theorem Set.thenT (h : Set w base g c u s M w') {T : ByteArray} {K : Nat} {e : Ending} (k : Tk w' base g c u s' M' T K e w'') : Tk w base g c u s' M' T K e w'' := by
  obtain ⟨q, d, h1, h2, h3, h4, h5, h6⟩ := k
  exact ⟨q, d, h1, h2, h3, h4, h5, h.thenQ h6⟩
/-- The cargo's Take. -/
theorem ctake (h : Raw w base g c u s M) (now most : Int) {K : Nat} (hK : gc.takeK s.A now most = K) :
    Calls Try.prog 53 #[ptr c, .int .i64 now, .int .i64 most] w (Tk w base g c u { s with S := s.S.extract K s.S.size, A := s.A.drop K } M (s.S.extract 0 K) K) := by
  have hz := gc.takeK_size h.car hK
  have h' := h.car
  obtain ⟨ms, G, hr, hl⟩ := h'
  refine (gc.take_raw hr hl now most hK).mono ?_
  rintro e w' ⟨q, d, rfl, h1, h2, h3, h4⟩
  exact ⟨q, d, rfl, h1, hz, h2, h3, h.putq h4⟩
theorem cdrain (h : Raw w base g c u s M) :
    Calls Try.prog 42 #[ptr c] w (Tk w base g c u { s with S := ⟨#[]⟩, A := [] } M s.S s.S.size) := by
  have h' := h.car
  have hlen := h'.inv.len
  obtain ⟨ms, G, hr, hl⟩ := h'
  refine (gc.drain_raw hr hl).mono ?_
  rintro e w' ⟨q, d, rfl, h1, h2, h3, h4⟩
  have e1 : s.S.extract 0 s.S.size = s.S := by simp
  have e2 : s.S.extract s.S.size s.S.size = ⟨#[]⟩ := by
    apply ByteArray.ext
    apply Array.eq_empty_of_size_eq_zero
    have : (s.S.extract s.S.size s.S.size).size = 0 := by rw [ByteArray.size_extract]; omega
    exact this
  have e3 : s.A.drop s.S.size = [] := by rw [← hlen, List.drop_length]
  rw [e1] at h1
  rw [e2, e3] at h4
  exact ⟨q, d, rfl, h1, rfl, h2, h3, h.putq h4⟩
set_option maxRecDepth 100000 in
set_option maxHeartbeats 4000000 in
theorem take_st (h : Raw w base g c u s M) (now most : Int) (hs : (lookS s now).st ≠ 0) :
    Calls Try.prog 33 #[ptr g, .int .i64 now, .int .i64 most] w fun e w' => e = .returned (.slice none 0 0) ∧ Set w base g c u (lookS s now) M w' := by
  have HT := Lib.hid (state_any h now)
  have e1 : ((lookS s now).st != 0) = true := by simpa using hs
  have e2 : decide ((lookS s now).st = 0) = false := by simpa using hs
  clear h hs
  go_enter Try.func33, Try.ntmps33
  go_wp2_with fail
  refine HT.out.mono ?_
  rintro e w1 ⟨rfl, h1⟩
  have H1 := Lib.hid h1
  clear h1 HT
  go_wp2_with fail
  try rw [Exit.noGoto_ret]
  go_ret
  exact ⟨rfl, H1.out⟩
set_option maxRecDepth 100000 in
set_option maxHeartbeats 4000000 in
theorem take_none (h : Raw w base g c u s M) (now most : Int) (hs : (lookS s now).st = 0) {n : Int} (hn : min most (gc.readyN (lookS s now).A (lookS s now).clock : Int) = n) (h1 : n < 1) :
    Calls Try.prog 33 #[ptr g, .int .i64 now, .int .i64 most] w fun e w' => e = .returned (.slice none 0 0) ∧ Set w base g c u (lookS s now) M w' := by
  have HT := Lib.hid (state_any h now)
  rw [hs] at HT
  have hd : decide (n < 1) = true := by simpa using h1
  clear h hs
  go_enter Try.func33, Try.ntmps33
  go_wp2_with fail
  refine HT.out.mono ?_
  rintro e w1 ⟨rfl, hx⟩
  have H1 := Lib.hid hx
  have x0 : w1.cell? ⟨g, 0, none⟩ = some (.pointer (some ⟨c, 0, none⟩)) := hx.1.cell 0
  have x15 : w1.cell? ⟨g, 15, none⟩ = some (.int .i64 (lookS s now).clock) := hx.1.cell 15
  have HR := Lib.hid (gc.ready_al (hx.on (Below.refl _ w1).drew).1.car (lookS s now).clock)
  clear hx HT
  go_wp2_with fail
  go_region_law
    (first
      | (go_simp; go_at_call 51; (with_reducible refine Calls.mono HR.out ?_); rintro e w4 ⟨rfl, hb⟩))
  all_goals (
    have HS := Lib.hid ((H1.out.on (Below.refl _ w1).drew).on hb)
    clear hb x0 x15 H1 HR
    go_wp2_with fail
    try rw [Exit.noGoto_ret]
    go_ret
    exact ⟨rfl, HS.out⟩)
end Go.Proofs.Ytfdfgnmgpgkknaa
namespace Go.Proofs.Ytfdfgnmgpgkknaa
open Go.RowKit

variable {w w' w'' w0 : World} {base g c M M' : Nat} {u u' u'' : gc.U} {s s' s'' s1 s2 : St}
set_option maxRecDepth 100000 in
set_option maxHeartbeats 8000000 in
theorem take_by_all (h : Raw w base g c u s M) (now most : Int) (hs : (lookS s now).st = 0) (hs1 : lookS s now = s1) {n : Int} (hn : min most (gc.readyN s1.A s1.clock : Int) = n) (h1 : 1 ≤ n) {K : Nat} {s2 : St}
    (hix : ∀ W, (Instr.index 80 giveV (.int .i64 s1.tx.k)).run Try.prog W = .ok (.func (.func 67) #[] #[]) W)
    (hg : ∀ W, Raw W base g c u s1 M → Calls Try.prog 67 #[ptr g, .int .i64 n] W fun e w' => e = .returned (.int .i64 (K : Int)) ∧ Set W base g c u s2 M w')
    (hc : s2.clock = s1.clock) (hA : s2.A = s1.A) (hw : IntKind.i64.wrap (s2.passed + (K : Int)) = s2.passed + (K : Int)) (hK : gc.takeK s1.A s1.clock (K : Int) = K) :
    Calls Try.prog 33 #[ptr g, .int .i64 now, .int .i64 most] w (Tk w base g c u (cutS s2 K) M (s2.S.extract 0 K) K) := by
  have HT := Lib.hid (state_any h now)
  rw [hs, hs1] at HT
  have HG := Lib.hid hg
  have HCT := Lib.hid (fun W (hr : Raw W base g c u { s2 with passed := s2.passed + (K : Int) } M) => ctake hr s1.clock (K : Int) (K := K) (by show gc.takeK s2.A s1.clock (K : Int) = K; rw [hA]; exact hK))
  have HC2 := Lib.hid (fun W (hw : Set w base g c u s2 M W) => (⟨hw.1.cell 13, hw.1.frz 13, hw.set (i := 13) (v := .int .i64 (s2.passed + (K : Int))) (s' := { s2 with passed := s2.passed + (K : Int) }) rfl rfl rfl rfl⟩ : W.cell? ⟨g, 13, none⟩ = some (.int .i64 s2.passed) ∧ W.frozen? ⟨g, 13, none⟩ = false ∧ Set w base g c u { s2 with passed := s2.passed + (K : Int) } M (W.setCell ⟨g, 13, none⟩ (.int .i64 (s2.passed + (K : Int))))))
  have HC3 := Lib.hid (fun W (hw : Set w base g c u { s2 with passed := s2.passed + (K : Int) } M W) => (⟨hw.1.cell 0, hc ▸ hw.1.cell 15⟩ : W.cell? ⟨g, 0, none⟩ = some (.pointer (some ⟨c, 0, none⟩)) ∧ W.cell? ⟨g, 15, none⟩ = some (.int .i64 s1.clock)))
  have hd : decide (n < 1) = false := by simpa using h1
  clear h hs h1 hg hs1 hc hA hK
  go_enter Try.func33, Try.ntmps33
  go_wp2_with fail
  refine HT.out.mono ?_
  rintro e w1 ⟨rfl, hx⟩
  have H1 := Lib.hid hx
  have x0 : w1.cell? ⟨g, 0, none⟩ = some (.pointer (some ⟨c, 0, none⟩)) := hx.1.cell 0
  have x15 : w1.cell? ⟨g, 15, none⟩ = some (.int .i64 s1.clock) := hx.1.cell 15
  have HR := Lib.hid (gc.ready_al (hx.on (Below.refl _ w1).drew).1.car s1.clock)
  clear hx HT
  go_wp2_with fail
  go_region_law
    (first
      | (go_simp; go_at_call 51; (with_reducible refine Calls.mono HR.out ?_); rintro e w4 ⟨rfl, hb⟩))
  all_goals (
    have HS := Lib.hid ((H1.out.on (Below.refl _ w1).drew).on hb)
    have x2 : w4.cell? ⟨g, 2, none⟩ = some (.int .i64 s1.tx.k) := HS.out.1.cell 2
    have HGV := Lib.hid (gives_any w4.drew)
    have HX2 := Lib.hid (fun W (hb : Below w4.drew.heap.size w4.drew W) => (⟨((HS.out.on (Below.refl _ w4).drew).on hb).1.cell 2, (HS.out.on (Below.refl _ w4).drew).on hb⟩ : W.cell? ⟨g, 2, none⟩ = some (.int .i64 s1.tx.k) ∧ Set w base g c u s1 M W))
    clear hb x0 x15 H1 HR
    go_wp2_with fail
    go_region_law
      (first
        | (go_simp; go_at_call 52; (with_reducible refine Calls.mono HGV.out ?_); rintro e w5 ⟨rfl, hb⟩; (obtain ⟨y2, hs5⟩ := HX2.out w5 hb); (have hr5 := hs5.1); clear hb)
        | (go_simp; go_at_call 67; (with_reducible refine Calls.mono (HG.out _ hr5) ?_); rintro e w6 ⟨rfl, hs6⟩)))
  all_goals (
    have HS6 := Lib.hid (hs5.trans hs6)
    obtain ⟨z13, g13, hs7⟩ := HC2.out w6 HS6.out
    have HS7 := Lib.hid hs7
    clear hs7 HC2 hs5 hr5 hs6 y2 x2 HGV HX2
    go_wp2_with fail
    obtain ⟨x0, x15⟩ := HC3.out _ HS7.out
    clear HC3 z13 g13
    generalize w6.setCell ⟨g, 13, none⟩ (.int .i64 (s2.passed + (K : Int))) = w7 at *
    have HS8 := Lib.hid (HS7.out.on (Below.refl _ w7).drew)
    have HCT2 := Lib.hid (HCT.out _ HS8.out.1)
    refine wp_region_still_tail 9 (by kernel_rfl) (by kernel_rfl) ?_
    simp only [List.take_succ_cons, List.take_zero, List.drop_succ_cons, List.drop_zero]
    repeat still_step
    refine wpStill_nil ?_
    go_wp2_with fail
    refine HCT2.out.mono ?_
    rintro e w9 hk
    have HK := Lib.hid (HS8.out.thenT hk)
    obtain ⟨q, d, rfl, _⟩ := hk
    go_wp2_with fail
    try rw [Exit.noGoto_ret]
    go_ret
    exact HK.out)
end Go.Proofs.Ytfdfgnmgpgkknaa
namespace Go.Proofs.Ytfdfgnmgpgkknaa
open Go.RowKit

variable {w w' w'' w0 : World} {base g c M M' : Nat} {u u' u'' : gc.U} {s s' s'' s1 s2 : St}
set_option maxRecDepth 100000 in
set_option maxHeartbeats 8000000 in
theorem take_by_poured (h : Raw w base g c u s M) (now most : Int) (hs : (lookS s now).st = 0) (hs1 : lookS s now = s1) {n : Int} (hn : min most (gc.readyN s1.A s1.clock : Int) = n) (h1 : 1 ≤ n) {K : Nat} {s2 : St}
    (hix : ∀ W, (Instr.index 80 giveV (.int .i64 s1.tx.k)).run Try.prog W = .ok (.func (.func 68) #[] #[]) W)
    (hg : ∀ W, Raw W base g c u s1 M → Calls Try.prog 68 #[ptr g, .int .i64 n] W fun e w' => e = .returned (.int .i64 (K : Int)) ∧ Set W base g c u s2 M w')
    (hc : s2.clock = s1.clock) (hA : s2.A = s1.A) (hw : IntKind.i64.wrap (s2.passed + (K : Int)) = s2.passed + (K : Int)) (hK : gc.takeK s1.A s1.clock (K : Int) = K) :
    Calls Try.prog 33 #[ptr g, .int .i64 now, .int .i64 most] w (Tk w base g c u (cutS s2 K) M (s2.S.extract 0 K) K) := by
  have HT := Lib.hid (state_any h now)
  rw [hs, hs1] at HT
  have HG := Lib.hid hg
  have HCT := Lib.hid (fun W (hr : Raw W base g c u { s2 with passed := s2.passed + (K : Int) } M) => ctake hr s1.clock (K : Int) (K := K) (by show gc.takeK s2.A s1.clock (K : Int) = K; rw [hA]; exact hK))
  have HC2 := Lib.hid (fun W (hw : Set w base g c u s2 M W) => (⟨hw.1.cell 13, hw.1.frz 13, hw.set (i := 13) (v := .int .i64 (s2.passed + (K : Int))) (s' := { s2 with passed := s2.passed + (K : Int) }) rfl rfl rfl rfl⟩ : W.cell? ⟨g, 13, none⟩ = some (.int .i64 s2.passed) ∧ W.frozen? ⟨g, 13, none⟩ = false ∧ Set w base g c u { s2 with passed := s2.passed + (K : Int) } M (W.setCell ⟨g, 13, none⟩ (.int .i64 (s2.passed + (K : Int))))))
  have HC3 := Lib.hid (fun W (hw : Set w base g c u { s2 with passed := s2.passed + (K : Int) } M W) => (⟨hw.1.cell 0, hc ▸ hw.1.cell 15⟩ : W.cell? ⟨g, 0, none⟩ = some (.pointer (some ⟨c, 0, none⟩)) ∧ W.cell? ⟨g, 15, none⟩ = some (.int .i64 s1.clock)))
  have hd : decide (n < 1) = false := by simpa using h1
  clear h hs h1 hg hs1 hc hA hK
  go_enter Try.func33, Try.ntmps33
  go_wp2_with fail
  refine HT.out.mono ?_
  rintro e w1 ⟨rfl, hx⟩
  have H1 := Lib.hid hx
  have x0 : w1.cell? ⟨g, 0, none⟩ = some (.pointer (some ⟨c, 0, none⟩)) := hx.1.cell 0
  have x15 : w1.cell? ⟨g, 15, none⟩ = some (.int .i64 s1.clock) := hx.1.cell 15
  have HR := Lib.hid (gc.ready_al (hx.on (Below.refl _ w1).drew).1.car s1.clock)
  clear hx HT
  go_wp2_with fail
  go_region_law
    (first
      | (go_simp; go_at_call 51; (with_reducible refine Calls.mono HR.out ?_); rintro e w4 ⟨rfl, hb⟩))
  all_goals (
    have HS := Lib.hid ((H1.out.on (Below.refl _ w1).drew).on hb)
    have x2 : w4.cell? ⟨g, 2, none⟩ = some (.int .i64 s1.tx.k) := HS.out.1.cell 2
    have HGV := Lib.hid (gives_any w4.drew)
    have HX2 := Lib.hid (fun W (hb : Below w4.drew.heap.size w4.drew W) => (⟨((HS.out.on (Below.refl _ w4).drew).on hb).1.cell 2, (HS.out.on (Below.refl _ w4).drew).on hb⟩ : W.cell? ⟨g, 2, none⟩ = some (.int .i64 s1.tx.k) ∧ Set w base g c u s1 M W))
    clear hb x0 x15 H1 HR
    go_wp2_with fail
    go_region_law
      (first
        | (go_simp; go_at_call 52; (with_reducible refine Calls.mono HGV.out ?_); rintro e w5 ⟨rfl, hb⟩; (obtain ⟨y2, hs5⟩ := HX2.out w5 hb); (have hr5 := hs5.1); clear hb)
        | (go_simp; go_at_call 68; (with_reducible refine Calls.mono (HG.out _ hr5) ?_); rintro e w6 ⟨rfl, hs6⟩)))
  all_goals (
    have HS6 := Lib.hid (hs5.trans hs6)
    obtain ⟨z13, g13, hs7⟩ := HC2.out w6 HS6.out
    have HS7 := Lib.hid hs7
    clear hs7 HC2 hs5 hr5 hs6 y2 x2 HGV HX2
    go_wp2_with fail
    obtain ⟨x0, x15⟩ := HC3.out _ HS7.out
    clear HC3 z13 g13
    generalize w6.setCell ⟨g, 13, none⟩ (.int .i64 (s2.passed + (K : Int))) = w7 at *
    have HS8 := Lib.hid (HS7.out.on (Below.refl _ w7).drew)
    have HCT2 := Lib.hid (HCT.out _ HS8.out.1)
    refine wp_region_still_tail 9 (by kernel_rfl) (by kernel_rfl) ?_
    simp only [List.take_succ_cons, List.take_zero, List.drop_succ_cons, List.drop_zero]
    repeat still_step
    refine wpStill_nil ?_
    go_wp2_with fail
    refine HCT2.out.mono ?_
    rintro e w9 hk
    have HK := Lib.hid (HS8.out.thenT hk)
    obtain ⟨q, d, rfl, _⟩ := hk
    go_wp2_with fail
    try rw [Exit.noGoto_ret]
    go_ret
    exact HK.out)
end Go.Proofs.Ytfdfgnmgpgkknaa
namespace Go.Proofs.Ytfdfgnmgpgkknaa
open Go.RowKit

variable {w w' w'' w0 : World} {base g c M M' : Nat} {u u' u'' : gc.U} {s s' s'' s1 s2 : St}
set_option maxRecDepth 100000 in
set_option maxHeartbeats 8000000 in
theorem take_by_slice (h : Raw w base g c u s M) (now most : Int) (hs : (lookS s now).st = 0) (hs1 : lookS s now = s1) {n : Int} (hn : min most (gc.readyN s1.A s1.clock : Int) = n) (h1 : 1 ≤ n) {K : Nat} {s2 : St}
    (hix : ∀ W, (Instr.index 80 giveV (.int .i64 s1.tx.k)).run Try.prog W = .ok (.func (.func 69) #[] #[]) W)
    (hg : ∀ W, Raw W base g c u s1 M → Calls Try.prog 69 #[ptr g, .int .i64 n] W fun e w' => e = .returned (.int .i64 (K : Int)) ∧ Set W base g c u s2 M w')
    (hc : s2.clock = s1.clock) (hA : s2.A = s1.A) (hw : IntKind.i64.wrap (s2.passed + (K : Int)) = s2.passed + (K : Int)) (hK : gc.takeK s1.A s1.clock (K : Int) = K) :
    Calls Try.prog 33 #[ptr g, .int .i64 now, .int .i64 most] w (Tk w base g c u (cutS s2 K) M (s2.S.extract 0 K) K) := by
  have HT := Lib.hid (state_any h now)
  rw [hs, hs1] at HT
  have HG := Lib.hid hg
  have HCT := Lib.hid (fun W (hr : Raw W base g c u { s2 with passed := s2.passed + (K : Int) } M) => ctake hr s1.clock (K : Int) (K := K) (by show gc.takeK s2.A s1.clock (K : Int) = K; rw [hA]; exact hK))
  have HC2 := Lib.hid (fun W (hw : Set w base g c u s2 M W) => (⟨hw.1.cell 13, hw.1.frz 13, hw.set (i := 13) (v := .int .i64 (s2.passed + (K : Int))) (s' := { s2 with passed := s2.passed + (K : Int) }) rfl rfl rfl rfl⟩ : W.cell? ⟨g, 13, none⟩ = some (.int .i64 s2.passed) ∧ W.frozen? ⟨g, 13, none⟩ = false ∧ Set w base g c u { s2 with passed := s2.passed + (K : Int) } M (W.setCell ⟨g, 13, none⟩ (.int .i64 (s2.passed + (K : Int))))))
  have HC3 := Lib.hid (fun W (hw : Set w base g c u { s2 with passed := s2.passed + (K : Int) } M W) => (⟨hw.1.cell 0, hc ▸ hw.1.cell 15⟩ : W.cell? ⟨g, 0, none⟩ = some (.pointer (some ⟨c, 0, none⟩)) ∧ W.cell? ⟨g, 15, none⟩ = some (.int .i64 s1.clock)))
  have hd : decide (n < 1) = false := by simpa using h1
  clear h hs h1 hg hs1 hc hA hK
  go_enter Try.func33, Try.ntmps33
  go_wp2_with fail
  refine HT.out.mono ?_
  rintro e w1 ⟨rfl, hx⟩
  have H1 := Lib.hid hx
  have x0 : w1.cell? ⟨g, 0, none⟩ = some (.pointer (some ⟨c, 0, none⟩)) := hx.1.cell 0
  have x15 : w1.cell? ⟨g, 15, none⟩ = some (.int .i64 s1.clock) := hx.1.cell 15
  have HR := Lib.hid (gc.ready_al (hx.on (Below.refl _ w1).drew).1.car s1.clock)
  clear hx HT
  go_wp2_with fail
  go_region_law
    (first
      | (go_simp; go_at_call 51; (with_reducible refine Calls.mono HR.out ?_); rintro e w4 ⟨rfl, hb⟩))
  all_goals (
    have HS := Lib.hid ((H1.out.on (Below.refl _ w1).drew).on hb)
    have x2 : w4.cell? ⟨g, 2, none⟩ = some (.int .i64 s1.tx.k) := HS.out.1.cell 2
    have HGV := Lib.hid (gives_any w4.drew)
    have HX2 := Lib.hid (fun W (hb : Below w4.drew.heap.size w4.drew W) => (⟨((HS.out.on (Below.refl _ w4).drew).on hb).1.cell 2, (HS.out.on (Below.refl _ w4).drew).on hb⟩ : W.cell? ⟨g, 2, none⟩ = some (.int .i64 s1.tx.k) ∧ Set w base g c u s1 M W))
    clear hb x0 x15 H1 HR
    go_wp2_with fail
    go_region_law
      (first
        | (go_simp; go_at_call 52; (with_reducible refine Calls.mono HGV.out ?_); rintro e w5 ⟨rfl, hb⟩; (obtain ⟨y2, hs5⟩ := HX2.out w5 hb); (have hr5 := hs5.1); clear hb)
        | (go_simp; go_at_call 69; (with_reducible refine Calls.mono (HG.out _ hr5) ?_); rintro e w6 ⟨rfl, hs6⟩)))
  all_goals (
    have HS6 := Lib.hid (hs5.trans hs6)
    obtain ⟨z13, g13, hs7⟩ := HC2.out w6 HS6.out
    have HS7 := Lib.hid hs7
    clear hs7 HC2 hs5 hr5 hs6 y2 x2 HGV HX2
    go_wp2_with fail
    obtain ⟨x0, x15⟩ := HC3.out _ HS7.out
    clear HC3 z13 g13
    generalize w6.setCell ⟨g, 13, none⟩ (.int .i64 (s2.passed + (K : Int))) = w7 at *
    have HS8 := Lib.hid (HS7.out.on (Below.refl _ w7).drew)
    have HCT2 := Lib.hid (HCT.out _ HS8.out.1)
    refine wp_region_still_tail 9 (by kernel_rfl) (by kernel_rfl) ?_
    simp only [List.take_succ_cons, List.take_zero, List.drop_succ_cons, List.drop_zero]
    repeat still_step
    refine wpStill_nil ?_
    go_wp2_with fail
    refine HCT2.out.mono ?_
    rintro e w9 hk
    have HK := Lib.hid (HS8.out.thenT hk)
    obtain ⟨q, d, rfl, _⟩ := hk
    go_wp2_with fail
    try rw [Exit.noGoto_ret]
    go_ret
    exact HK.out)
end Go.Proofs.Ytfdfgnmgpgkknaa
namespace Go.Proofs.Ytfdfgnmgpgkknaa
open Go.RowKit

variable {w w' w'' w0 : World} {base g c M M' : Nat} {u u' u'' : gc.U} {s s' s'' s1 s2 : St}
set_option maxRecDepth 100000 in
set_option maxHeartbeats 8000000 in
theorem take_by_none (h : Raw w base g c u s M) (now most : Int) (hs : (lookS s now).st = 0) (hs1 : lookS s now = s1) {n : Int} (hn : min most (gc.readyN s1.A s1.clock : Int) = n) (h1 : 1 ≤ n) {K : Nat} {s2 : St}
    (hix : ∀ W, (Instr.index 80 giveV (.int .i64 s1.tx.k)).run Try.prog W = .ok (.func (.func 70) #[] #[]) W)
    (hg : ∀ W, Raw W base g c u s1 M → Calls Try.prog 70 #[ptr g, .int .i64 n] W fun e w' => e = .returned (.int .i64 (K : Int)) ∧ Set W base g c u s2 M w')
    (hc : s2.clock = s1.clock) (hA : s2.A = s1.A) (hw : IntKind.i64.wrap (s2.passed + (K : Int)) = s2.passed + (K : Int)) (hK : gc.takeK s1.A s1.clock (K : Int) = K) :
    Calls Try.prog 33 #[ptr g, .int .i64 now, .int .i64 most] w (Tk w base g c u (cutS s2 K) M (s2.S.extract 0 K) K) := by
  have HT := Lib.hid (state_any h now)
  rw [hs, hs1] at HT
  have HG := Lib.hid hg
  have HCT := Lib.hid (fun W (hr : Raw W base g c u { s2 with passed := s2.passed + (K : Int) } M) => ctake hr s1.clock (K : Int) (K := K) (by show gc.takeK s2.A s1.clock (K : Int) = K; rw [hA]; exact hK))
  have HC2 := Lib.hid (fun W (hw : Set w base g c u s2 M W) => (⟨hw.1.cell 13, hw.1.frz 13, hw.set (i := 13) (v := .int .i64 (s2.passed + (K : Int))) (s' := { s2 with passed := s2.passed + (K : Int) }) rfl rfl rfl rfl⟩ : W.cell? ⟨g, 13, none⟩ = some (.int .i64 s2.passed) ∧ W.frozen? ⟨g, 13, none⟩ = false ∧ Set w base g c u { s2 with passed := s2.passed + (K : Int) } M (W.setCell ⟨g, 13, none⟩ (.int .i64 (s2.passed + (K : Int))))))
  have HC3 := Lib.hid (fun W (hw : Set w base g c u { s2 with passed := s2.passed + (K : Int) } M W) => (⟨hw.1.cell 0, hc ▸ hw.1.cell 15⟩ : W.cell? ⟨g, 0, none⟩ = some (.pointer (some ⟨c, 0, none⟩)) ∧ W.cell? ⟨g, 15, none⟩ = some (.int .i64 s1.clock)))
  have hd : decide (n < 1) = false := by simpa using h1
  clear h hs h1 hg hs1 hc hA hK
  go_enter Try.func33, Try.ntmps33
  go_wp2_with fail
  refine HT.out.mono ?_
  rintro e w1 ⟨rfl, hx⟩
  have H1 := Lib.hid hx
  have x0 : w1.cell? ⟨g, 0, none⟩ = some (.pointer (some ⟨c, 0, none⟩)) := hx.1.cell 0
  have x15 : w1.cell? ⟨g, 15, none⟩ = some (.int .i64 s1.clock) := hx.1.cell 15
  have HR := Lib.hid (gc.ready_al (hx.on (Below.refl _ w1).drew).1.car s1.clock)
  clear hx HT
  go_wp2_with fail
  go_region_law
    (first
      | (go_simp; go_at_call 51; (with_reducible refine Calls.mono HR.out ?_); rintro e w4 ⟨rfl, hb⟩))
  all_goals (
    have HS := Lib.hid ((H1.out.on (Below.refl _ w1).drew).on hb)
    have x2 : w4.cell? ⟨g, 2, none⟩ = some (.int .i64 s1.tx.k) := HS.out.1.cell 2
    have HGV := Lib.hid (gives_any w4.drew)
    have HX2 := Lib.hid (fun W (hb : Below w4.drew.heap.size w4.drew W) => (⟨((HS.out.on (Below.refl _ w4).drew).on hb).1.cell 2, (HS.out.on (Below.refl _ w4).drew).on hb⟩ : W.cell? ⟨g, 2, none⟩ = some (.int .i64 s1.tx.k) ∧ Set w base g c u s1 M W))
    clear hb x0 x15 H1 HR
    go_wp2_with fail
    go_region_law
      (first
        | (go_simp; go_at_call 52; (with_reducible refine Calls.mono HGV.out ?_); rintro e w5 ⟨rfl, hb⟩; (obtain ⟨y2, hs5⟩ := HX2.out w5 hb); (have hr5 := hs5.1); clear hb)
        | (go_simp; go_at_call 70; (with_reducible refine Calls.mono (HG.out _ hr5) ?_); rintro e w6 ⟨rfl, hs6⟩)))
  all_goals (
    have HS6 := Lib.hid (hs5.trans hs6)
    obtain ⟨z13, g13, hs7⟩ := HC2.out w6 HS6.out
    have HS7 := Lib.hid hs7
    clear hs7 HC2 hs5 hr5 hs6 y2 x2 HGV HX2
    go_wp2_with fail
    obtain ⟨x0, x15⟩ := HC3.out _ HS7.out
    clear HC3 z13 g13
    generalize w6.setCell ⟨g, 13, none⟩ (.int .i64 (s2.passed + (K : Int))) = w7 at *
    have HS8 := Lib.hid (HS7.out.on (Below.refl _ w7).drew)
    have HCT2 := Lib.hid (HCT.out _ HS8.out.1)
    refine wp_region_still_tail 9 (by kernel_rfl) (by kernel_rfl) ?_
    simp only [List.take_succ_cons, List.take_zero, List.drop_succ_cons, List.drop_zero]
    repeat still_step
    refine wpStill_nil ?_
    go_wp2_with fail
    refine HCT2.out.mono ?_
    rintro e w9 hk
    have HK := Lib.hid (HS8.out.thenT hk)
    obtain ⟨q, d, rfl, _⟩ := hk
    go_wp2_with fail
    try rw [Exit.noGoto_ret]
    go_ret
    exact HK.out)
end Go.Proofs.Ytfdfgnmgpgkknaa
