/-
  Contracts: what bytes.Clone and slices.Clone of marks hand back. Conditions: as each states.
-/
import Derived.Test.YtmblgpejgdlakaaW3
namespace Go.Proofs.Ytmblgpejgdlakaa
open Go.RowKit

/-- A row of the call's own is handed back. -/
def OutR (T K : Nat) (n : Nat) (zs : List Value) (w : World) (e : Ending) (w' : World) : Prop := ∃ q d, e = .returned (.slice q n d) ∧ ORow w' w.heap.size T K q n d zs ∧ Below w.heap.size w w'
theorem clone_app {w : World} {T K n c : Nat} {a : Addr} {news : List Value} {t : TypeId} {i0 : TypeInfo} {z : Value} {by0 : Nat} (ht : Try.prog.underlying t = some (.slice T)) (hi : Try.prog.info? T = some i0) (hz : i0.zero = some z)
    (h1 : i0.size = K) (h2 : i0.bytes = by0) (h3 : z.cells.size = K) (hK : 0 < K) (hl : news.length = n * K) (hnews : ∀ j u, news[j]? = some u → w.cell? (a.add j) = some u) (hone : ∀ u ∈ news, u.oneCell' = true) (hmax : n ≤ maxLen) (hbytes : n * by0 ≤ 140737488355328) :
    ∃ q d w', (∀ ty, (Builtin.append_ #[t, t] ty #[.slice (some ⟨w.heap.size, 0, none⟩) 0 0, .slice (some a) n c]).run Try.prog (w.alloc (.cells #[] T)) = .ok (.slice q n d) w') ∧ ORow w' w.heap.size T K q n d news ∧ Below w.heap.size w w' := by
  have hal : Below w.heap.size w (w.alloc (.cells #[] T)) := (Below.refl _ _).alloc (Nat.le_refl _) _
  have hb := heap_alloc_new w (.cells #[] T)
  have ho : ORow (w.alloc (.cells #[] T)) w.heap.size T K (some ⟨w.heap.size, 0, none⟩) 0 0 [] :=
    ⟨by simp, Nat.le_refl _, Nat.zero_le _, (fun e => by cases e), fun x e => by
      cases e
      exact ⟨_, _, _, rfl, Nat.le_refl _, hb, by simp, fun j v hj => by simp at hj⟩⟩
  obtain ⟨q, d, w', r1, r2, r3, _⟩ := app_row ho hal.size ht hi hz h1 h2 h3 hK (a := a) (m := n) (d := c) (news := news) hl (fun j u hj => by
    have h := hnews j u hj
    exact (hal.cell (World.block_lt_of_cell? w _ h)).trans h) hone (by omega) (by rw [Nat.zero_add]; exact hbytes)
  rw [Nat.zero_add] at r1 r2
  refine ⟨q, d, w', r1, by simpa using r2, hal.trans ⟨r3.os, r3.tape, r3.output, r3.size, fun i hi => r3.block i (Nat.lt_of_lt_of_le hi hal.size) fun e => ?_⟩⟩
  injection e with e
  simp at e
  omega
set_option maxHeartbeats 2000000 in
theorem bclone_any (p : Option Addr) (n c : Nat) (xs : List Int) (w : World) (hx : xs.length = n) (hpc : p = none → n = 0) (hbig : n ≤ 2000000) (hi : Lib.BytesIn w p n xs) :
    Calls Try.prog 34 #[.slice p n c] w (OutR 5 1 n (xs.map (Value.int .u8)) w) := by
  cases p with
  | none =>
    obtain rfl := hpc rfl
    obtain rfl : xs = [] := List.eq_nil_of_length_eq_zero hx
    clear hi hx hpc
    have hq := fun w => Lib.run_eql_slice_nil (P := Try.prog) w 39 5 none 0 c 0 0 Try.underlying39
    simp only [Option.isNone_none] at hq
    go_enter Try.func34, Try.ntmps34
    go_wp2_with fail
    go_ret
    exact ⟨none, 0, rfl, orow_nil _ _ _ _, Below.refl _ _⟩
  | some a =>
    obtain ⟨i0, hi0, hz0, hz1, hz2⟩ := info_parts info5
    obtain ⟨q, d, w', h1, h2, h3⟩ := clone_app (w := w) (a := a) (n := n) (c := c) (news := xs.map (Value.int .u8)) Try.underlying39 hi0 hz0 hz1 hz2 rfl (by decide) (by simp [hx]) (by
      intro j u hj
      have hj1 : j < xs.length := by have := (List.getElem?_eq_some_iff.mp hj).1; simpa using this
      obtain ⟨b, o, e, hc⟩ := hi.at (by omega)
      cases e
      rw [WideShapes.add_plain, hc j (by omega)]
      rw [List.getElem?_map, List.getElem?_eq_getElem hj1] at hj
      rw [List.getD_eq_getElem?_getD, List.getElem?_eq_getElem hj1]
      exact hj) (by simp [Value.oneCell']) (by unfold maxLen; omega) (by omega)
    have HR := Lib.hid h1
    have HO := Lib.hid h2
    have HB := Lib.hid h3
    clear h1 h2 h3 hi hx hpc hi0 hz0 hz1 hz2
    have hq := fun w => Lib.run_eql_slice_nil (P := Try.prog) w 39 5 (some a) n c 0 0 Try.underlying39
    simp only [Option.isNone_some] at hq
    go_enter Try.func34, Try.ntmps34
    go_wp2_with (at_builtin; refine Lib.wpList_append_run _ rfl _ _ _ _ rfl (.slice (some ⟨w.heap.size, 0, none⟩) 0 0) (.slice (some a) n c) rfl rfl _ _ (HR.out _) ?_)
    go_ret
    exact ⟨q, d, rfl, HO.out, HB.out⟩
set_option maxHeartbeats 2000000 in
theorem mclone_any {base : Nat} (p : Option Addr) (n c : Nat) (ms : List Mk) (w : World) (h : ORow w base 68 2 p n c (flatM ms)) (hbig : n ≤ 1000000) :
    Calls Try.prog 35 #[.slice p n c] w (OutR 68 2 n (flatM ms) w) := by
  have hml : n = ms.length := by have := h.len; rw [flatM_length] at this; omega
  cases p with
  | none =>
    have h0 : n = 0 := by have := h.non rfl; have := h.cap; omega
    subst h0
    obtain rfl : ms = [] := List.eq_nil_of_length_eq_zero hml.symm
    clear h hml
    have hq := fun w => Lib.run_eql_slice_nil (P := Try.prog) w 56 68 none 0 c 0 0 Try.underlying56
    simp only [Option.isNone_none] at hq
    go_enter Try.func35, Try.ntmps35
    go_wp2_with fail
    go_ret
    exact ⟨none, 0, rfl, orow_nil _ _ _ _, Below.refl _ _⟩
  | some a =>
    obtain ⟨i0, hi0, hz0, hz1, hz2⟩ := info_parts infoM
    obtain ⟨q, d, w', h1, h2, h3⟩ := clone_app (w := w) (a := a) (n := n) (c := c) (news := flatM ms) Try.underlying56 hi0 hz0 hz1 hz2 rfl (by decide) (by rw [flatM_length, hml]) (by
      intro j u hj
      obtain ⟨b, o, cur, rfl, _, hh, _, hc⟩ := h.som a rfl
      rw [WideShapes.add_plain]
      simp only [World.cell?, hh]
      exact hc j u hj) (flatM_one _) (by unfold maxLen; omega) (by omega)
    have HR := Lib.hid h1
    have HO := Lib.hid h2
    have HB := Lib.hid h3
    clear h1 h2 h3 h hml hi0 hz0 hz1 hz2
    have hq := fun w => Lib.run_eql_slice_nil (P := Try.prog) w 56 68 (some a) n c 0 0 Try.underlying56
    simp only [Option.isNone_some] at hq
    go_enter Try.func35, Try.ntmps35
    go_wp2_with (at_builtin; refine Lib.wpList_append_run _ rfl _ _ _ _ rfl (.slice (some ⟨w.heap.size, 0, none⟩) 0 0) (.slice (some a) n c) rfl rfl _ _ (HR.out _) ?_)
    go_ret
    exact ⟨q, d, rfl, HO.out, HB.out⟩
end Go.Proofs.Ytmblgpejgdlakaa
