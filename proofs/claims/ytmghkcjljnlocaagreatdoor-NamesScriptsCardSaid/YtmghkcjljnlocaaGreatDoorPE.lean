/-
  Contracts: slices.Clone of toxics, ownProxy, ownList. Conditions: the slices' lengths.
-/
import Derived.Test.YtmghkcjljnlocaaGreatDoorPD
import Derived.Lib.AppendZeros
namespace Go.Proofs.YtmghkcjljnlocaaGreatDoor
open Go.RowKit

theorem clone_app {w : World} {T K n c : Nat} {a : Addr} {news : List Value} {t : TypeId} {i0 : TypeInfo} {z : Value} {by0 : Nat} (ht : Tryz.prog.underlying t = some (.slice T)) (hi : Tryz.prog.info? T = some i0) (hz : i0.zero = some z)
    (h1 : i0.size = K) (h2 : i0.bytes = by0) (h3 : z.cells.size = K) (hK : 0 < K) (hl : news.length = n * K) (hnews : ∀ j u, news[j]? = some u → w.cell? (a.add j) = some u) (hone : ∀ u ∈ news, u.oneCell' = true) (hmax : n ≤ maxLen) (hbytes : n * by0 ≤ 140737488355328) :
    ∃ q d w', (∀ ty, (Builtin.append_ #[t, t] ty #[.slice (some ⟨w.heap.size, 0, none⟩) 0 0, .slice (some a) n c]).run Tryz.prog (w.alloc (.cells #[] T)) = .ok (.slice q n d) w') ∧ gc.ORow w' w.heap.size T K q n d news ∧ Below w.heap.size w w' := by
  have hal : Below w.heap.size w (w.alloc (.cells #[] T)) := (Below.refl _ _).alloc (Nat.le_refl _) _
  have hb := heap_alloc_new w (.cells #[] T)
  have ho : gc.ORow (w.alloc (.cells #[] T)) w.heap.size T K (some ⟨w.heap.size, 0, none⟩) 0 0 [] :=
    ⟨by simp, Nat.le_refl _, Nat.zero_le _, (fun e => by cases e), fun x e => by
      cases e
      exact ⟨_, _, _, rfl, Nat.le_refl _, hb, by simp, fun j v hj => by simp at hj⟩⟩
  obtain ⟨q, d, w', r1, r2, r3, _⟩ := gc.app_row ho hal.size ht hi hz h1 h2 h3 hK (a := a) (m := n) (d := c) (news := news) hl (fun j u hj => by
    have h := hnews j u hj
    exact (hal.cell (World.block_lt_of_cell? w _ h)).trans h) hone (by omega) (by rw [Nat.zero_add]; exact hbytes)
  rw [Nat.zero_add] at r1 r2
  refine ⟨q, d, w', r1, by simpa using r2, hal.trans ⟨r3.os, r3.tape, r3.output, r3.size, fun i hi => r3.block i (Nat.lt_of_lt_of_le hi hal.size) fun e => ?_⟩⟩
  injection e with e
  simp at e
  omega
/-- Toxics of the call's own are handed back. -/
def OutT (n : Nat) (l : List Tox) (w : World) (e : Ending) (w' : World) : Prop := ∃ q d, e = .returned (.slice q n d) ∧ TRow w' w.heap.size q n d l ∧ Below w.heap.size w w'
theorem tox_cells {w : World} {a : Addr} {n : Nat} {l : List Tox} (hl : l.length = n) (h : ToxIn w (some a) n l) : ∀ j u, (flatT l)[j]? = some u → w.cell? (a.add j) = some u := fun j u hj => by
  have hj1 := (List.getElem?_eq_some_iff.mp hj).1
  rw [flatT_len] at hj1
  obtain ⟨b, o, e, hc⟩ := h (by omega)
  cases e
  have hi : j / 6 < l.length := by omega
  have e : j = j / 6 * 6 + j % 6 := by omega
  obtain ⟨c0, c1, c2, c3, c4, c5⟩ := hc (j / 6) (by omega)
  rw [getD_at l noTox hi] at c0 c1 c2 c3 c4 c5
  have h6 : j % 6 < 6 := Nat.mod_lt _ (by decide)
  rw [e] at hj
  unfold flatT at hj
  rw [flat_get tc_len l _ hi _ h6] at hj
  rw [WideShapes.add_plain, e]
  generalize j % 6 = r at *
  rcases (show r = 0 ∨ r = 1 ∨ r = 2 ∨ r = 3 ∨ r = 4 ∨ r = 5 by omega) with rfl | rfl | rfl | rfl | rfl | rfl
  · exact c0.trans hj
  · exact c1.trans hj
  · exact c2.trans hj
  · exact c3.trans hj
  · exact c4.trans hj
  · exact c5.trans hj
theorem orow_low {w : World} {base base' T K n c : Nat} {p : Option Addr} {zs : List Value} (h : gc.ORow w base T K p n c zs) (hb : base' ≤ base) : gc.ORow w base' T K p n c zs :=
  ⟨h.len, h.cap, h.max, h.non, fun a e => by
    obtain ⟨b, o, cur, rfl, hb0, hh, hc⟩ := h.som a e
    exact ⟨b, o, cur, rfl, Nat.le_trans hb hb0, hh, hc⟩⟩
set_option maxHeartbeats 2000000 in
theorem tclone_any (p : Option Addr) (n c : Nat) (l : List Tox) (w : World) (hl : l.length = n) (hn : n ≤ 1000000) (hi : ToxIn w p n l) :
    Calls Tryz.prog 84 #[.slice p n c] w (OutT n l w) := by
  cases p with
  | none =>
    have h0 : n = 0 := by
      rcases Nat.eq_zero_or_pos n with h | h
      · exact h
      · obtain ⟨b, o, e, _⟩ := hi h
        cases e
    subst h0
    obtain rfl : l = [] := List.eq_nil_of_length_eq_zero hl
    clear hi hl
    have hq := fun w => Lib.run_eql_slice_nil (P := Tryz.prog) w 35 24 none 0 c 0 0 Tryz.underlying35
    simp only [Option.isNone_none] at hq
    go_enter Tryz.func84, Tryz.ntmps84
    go_wp2_with fail
    go_ret
    exact ⟨none, 0, rfl, gc.orow_nil _ _ _ _, Below.refl _ _⟩
  | some a =>
    obtain ⟨i0, hi0, hz0, hz1, hz2⟩ := info_parts infoT
    obtain ⟨q, d, w', h1, h2, h3⟩ := clone_app (w := w) (a := a) (n := n) (c := c) (news := flatT l) Tryz.underlying35 hi0 hz0 hz1 hz2 rfl (by decide) (by rw [flatT_len, hl]) (tox_cells hl hi) (flatT_one _) (by unfold maxLen; omega) (by omega)
    have HR := Lib.hid h1
    have HO := Lib.hid h2
    have HB := Lib.hid h3
    clear h1 h2 h3 hi hl hi0 hz0 hz1 hz2
    have hq := fun w => Lib.run_eql_slice_nil (P := Tryz.prog) w 35 24 (some a) n c 0 0 Tryz.underlying35
    simp only [Option.isNone_some] at hq
    go_enter Tryz.func84, Tryz.ntmps84
    go_wp2_with (at_builtin; refine Lib.wpList_append_run _ rfl _ _ _ _ rfl (.slice (some ⟨w.heap.size, 0, none⟩) 0 0) (.slice (some a) n c) rfl rfl _ _ (HR.out _) ?_)
    go_ret
    exact ⟨q, d, rfl, HO.out, HB.out⟩
/-- A proxy with toxics of the call's own. -/
def OutP (s : ByteArray) (on : Bool) (most : Int) (n : Nat) (l : List Tox) (w : World) (e : Ending) (w' : World) : Prop := ∃ q d, e = .returned (.agg #[.string s, .bool on, .int .i64 most, .slice q n d]) ∧ TRow w' w.heap.size q n d l ∧ Below w.heap.size w w'
set_option maxRecDepth 100000 in
set_option maxHeartbeats 4000000 in
theorem ownp_any (s : ByteArray) (on : Bool) (most : Int) (q : Option Addr) (m d : Nat) (ts : List Tox) (w : World) (hl : ts.length = m) (hm : m ≤ 1000000) (hi : ToxIn w q m ts) :
    Calls Tryz.prog 58 #[.agg #[.string s, .bool on, .int .i64 most, .slice q m d]] w (OutP s on most m ts w) := by
  obtain ⟨w1, hw1⟩ : ∃ w1, w.alloc (.cells #[.string s, .bool on, .int .i64 most, .slice q m d] TP) = w1 := ⟨_, rfl⟩
  obtain ⟨w2, hw2⟩ : ∃ w2, w1.alloc (.cells #[.string ⟨#[]⟩, .bool false, .int .i64 0, .slice none 0 0] TP) = w2 := ⟨_, rfl⟩
  have b1 : Below w.heap.size w w1 := by rw [← hw1]; exact (Below.refl _ _).alloc (Nat.le_refl _) _
  have b2 : Below w1.heap.size w1 w2 := by rw [← hw2]; exact (Below.refl _ _).alloc (Nat.le_refl _) _
  have h1 : w1.heap[w.heap.size]? = some (.cells #[.string s, .bool on, .int .i64 most, .slice q m d] TP (0, 0)) := by rw [← hw1]; exact heap_alloc_new _ _
  have h2 : w2.heap[w1.heap.size]? = some (.cells #[.string ⟨#[]⟩, .bool false, .int .i64 0, .slice none 0 0] TP (0, 0)) := by rw [← hw2]; exact heap_alloc_new _ _
  have hs1 : w1.heap.size = w.heap.size + 1 := by rw [← hw1]; exact World.size_alloc _ _
  have hs2 : w2.heap.size = w1.heap.size + 1 := by rw [← hw2]; exact World.size_alloc _ _
  have h1' := (b2.block _ (gc.blk_lt h1)).trans h1
  rw [hs1] at h2
  have HB := Lib.hid (seqB b1 b2)
  have HC := Lib.hid (tclone_any q m d ts w2 hl hm (toxs_on hi HB.out))
  have HW := Lib.hid hw1
  have HW2 := Lib.hid hw2
  have c3 := cell_of_row _ _ 3 _ _ _ h1'
  have HH := Lib.hid (⟨h1', h2, hs2.trans (by rw [hs1])⟩ : w2.heap[w.heap.size]? = some (.cells #[.string s, .bool on, .int .i64 most, .slice q m d] TP (0, 0)) ∧ w2.heap[w.heap.size + 1]? = some (.cells #[.string ⟨#[]⟩, .bool false, .int .i64 0, .slice none 0 0] TP (0, 0)) ∧ w2.heap.size = w.heap.size + 1 + 1)
  clear hi hl b1 b2 h1 h2 h1' hw1 hw2 hs1 hs2
  go_enter Tryz.func58, Tryz.ntmps58
  go_wp2_with fail
  rw [HW.out, HW2.out]
  refine HC.out.mono ?_
  rintro e w3 ⟨q', d', rfl, ht, hb⟩
  obtain ⟨hh1, hh2, hsz⟩ := HH.out
  have k1 := (hb.block _ (gc.blk_lt hh1)).trans hh1
  have k2 := (hb.block _ (gc.blk_lt hh2)).trans hh2
  have HT := Lib.hid ht
  have HB3 := Lib.hid (seqB HB.out hb)
  have HK := Lib.hid k2
  have f1 : w3.frozen? ⟨w.heap.size, 3, none⟩ = false := gc.frozen_at k1
  have f2 : w3.frozen? ⟨w.heap.size + 1, 0, none⟩ = false := gc.frozen_at k2
  have f3 : w3.frozen? ⟨w.heap.size + 1, 1, none⟩ = false := gc.frozen_at k2
  have f4 : w3.frozen? ⟨w.heap.size + 1, 2, none⟩ = false := gc.frozen_at k2
  have f5 : w3.frozen? ⟨w.heap.size + 1, 3, none⟩ = false := gc.frozen_at k2
  have e0 := cell_of_row _ _ 0 _ _ _ k1
  have e1 := cell_of_row _ _ 1 _ _ _ k1
  have e2 := cell_of_row _ _ 2 _ _ _ k1
  have e3 := cell_of_row _ _ 3 _ _ _ k1
  have g0 := cell_of_row _ _ 0 _ _ _ k2
  have g1 := cell_of_row _ _ 1 _ _ _ k2
  have g2 := cell_of_row _ _ 2 _ _ _ k2
  have g3 := cell_of_row _ _ 3 _ _ _ k2
  have HK1 := Lib.hid k1
  clear hb ht hh1 hh2 k1 k2 c3
  go_wp2_with fail
  refine bodyPost_ret (v := .agg #[.string s, .bool on, .int .i64 most, .slice q' m d']) (by simp [results, Tryz.results58, go_sem, *]) rfl ?_
  refine ⟨q', d', rfl, gc.ORow.keep (orow_low HT.out (by rw [HH.out.2.2]; omega)) fun a ha => ?_, ((((HB3.out.setCell (Nat.le_refl _) _).setCell (Nat.le_succ _) _).setCell (Nat.le_succ _) _).setCell (Nat.le_succ _) _).setCell (Nat.le_succ _) _⟩
  have h1 := (gc.ORow.lt HT.out a ha).1
  rw [HH.out.2.2] at h1
  rw [Below.heap_setCell _ _ _ _ (by show a.block ≠ _; simp only; omega), Below.heap_setCell _ _ _ _ (by show a.block ≠ _; simp only; omega), Below.heap_setCell _ _ _ _ (by show a.block ≠ _; simp only; omega), Below.heap_setCell _ _ _ _ (by show a.block ≠ _; simp only; omega), Below.heap_setCell _ _ _ _ (by show a.block ≠ _; simp only; omega)]
/-- Proxies of the call's own are handed back. -/
def OutPs (n : Nat) (l : List Prx) (w : World) (e : Ending) (w' : World) : Prop := ∃ q c, e = .returned (.slice q n c) ∧ POwn w' w.heap.size q n c l ∧ Below w.heap.size w w'
set_option maxRecDepth 100000 in
set_option maxHeartbeats 4000000 in
theorem ownlist_any (p : Option Addr) (n d : Nat) (l : List Prx) (w : World) (hl : l.length = n) (hn : n ≤ 100) (hz : ∀ x ∈ l, x.ts.length ≤ 1000000) (hi : PrxIn w p n l) :
    Calls Tryz.prog 50 #[.slice p n d] w (OutPs n l w) := by
  have HI := Lib.hid hi
  have HL := Lib.hid hl
  have HZ := Lib.hid hz
  clear hi hl hz
  go_enter Tryz.func50, Tryz.ntmps50
  go_wp2_with fail
  go_loopw [3, 5, 8] (fun x y i wr => ∃ k : Nat, k ≤ n ∧ i = .int .i64 k ∧ ∃ q c, x = .slice q k c ∧ Hid (POwn wr w.heap.size q k c (l.take k)) ∧ Hid (Below w.heap.size w wr)) (fun _ _ i _ => n - (intOf i).toNat)
  case atStart => exact ⟨0, by omega, rfl, none, 0, rfl, Lib.hid (pown_nil w w.heap.size), Lib.hid (Below.refl _ _)⟩
  case round =>
    obtain ⟨k, hk, rfl, q, c, rfl, HO, HB⟩ := hrel
    by_cases hlt : k < n
    · obtain ⟨b, o, rfl, hcell⟩ := prxs_on HI.out HB.out (by omega)
      obtain ⟨c0, c1, c2, qt, mt, dt, c3, hmd, hlt2, htx⟩ := hcell k hlt
      rw [← Nat.add_assoc] at c1 c2 c3
      have hkl : k < l.length := by rw [HL.out]; exact hlt
      have hg : l.getD k noPrx = l[k] := getD_at _ _ hkl
      have HT := Lib.hid (show l.take (k + 1) = l.take k ++ [l.getD k noPrx] from by rw [hg]; exact List.take_succ_eq_append_getElem hkl)
      have hzk := HZ.out _ (show l.getD k noPrx ∈ l from by rw [hg]; exact List.getElem_mem _)
      generalize l.getD k noPrx = x at *
      obtain ⟨xs, xon, xm, xt⟩ := x
      simp only at c0 c1 c2 hlt2 htx hzk
      obtain ⟨w1, hw1⟩ : ∃ w1, wr.alloc (.cells #[.string xs, .bool xon, .int .i64 xm, .slice qt mt dt] TP) = w1 := ⟨_, rfl⟩
      have b1 : Below wr.heap.size wr w1 := by rw [← hw1]; exact (Below.refl _ _).alloc (Nat.le_refl _) _
      have HX := Lib.hid (ownp_any xs xon xm qt mt dt xt w1 hlt2 (by omega) (toxs_on htx b1))
      have HW := Lib.hid hw1
      have HB1 := Lib.hid (seqB HB.out b1)
      have HO1 := Lib.hid (HO.out.on b1)
      clear htx b1 hcell hkl hg hw1 hlt2 hzk
      go_wp2_with fail
      rw [HW.out]
      refine HX.out.mono ?_
      rintro e w2 ⟨q2, d2, rfl, ht, hb⟩
      obtain ⟨zs, hz1, hz2, hdis⟩ := HO1.out
      have hdis2 : ∀ y ∈ zs, ∀ a a', y.q = some a → q2 = some a' → a.block ≠ a'.block := fun y hy a a' e e' => by
        have h1 := (gc.ORow.lt (hz2.tox y hy) a e).2
        have h2 := (gc.ORow.lt ht a' e').1
        omega
      have HB2 := Lib.hid (seqB HB1.out hb)
      have hs2 := HB2.out.size
      have hal : Below w2.heap.size w2 (w2.alloc (.cells #[.string xs, .bool xon, .int .i64 xm, .slice q2 mt d2] TP)) := (Below.refl _ _).alloc (Nat.le_refl _) _
      have hnew := heap_alloc_new w2 (.cells #[.string xs, .bool xon, .int .i64 xm, .slice q2 mt d2] TP)
      obtain ⟨q3, c3', w3, r1, r2, r3⟩ := PRow.app ((hz2.on hb).on hal) (Nat.le_trans hs2 hal.size) (by omega) (a := ⟨w2.heap.size, 0, none⟩) (d := 1) ⟨⟨xs, xon, xm, xt⟩, q2, mt, d2⟩ (gc.ORow.on (orow_low ht HB1.out.size) hal) (fun j u hj => by
        rw [WideShapes.add_plain]
        simp only [World.cell?, hnew]
        rw [Nat.zero_add]
        simpa [RP.cells] using hj)
      have HR := Lib.hid r1
      have HO3 := Lib.hid (show POwn w3 w.heap.size q3 (k + 1) c3' (l.take (k + 1)) from ⟨zs ++ [⟨⟨xs, xon, xm, xt⟩, q2, mt, d2⟩], by rw [List.map_append, hz1, HT.out]; rfl, r2, dis_app hdis hdis2⟩)
      have HB3 := Lib.hid ((HB2.out.trans (hal.mono hs2)).trans r3)
      clear r1 r2 r3 hz1 hz2 hdis hdis2 hb hal hnew ht HO1 HX HT
      go_wp2_with (at_builtin; refine Lib.wpList_append_run _ rfl _ _ _ _ rfl (.slice q k c) (.slice (some ⟨w2.heap.size, 0, none⟩) 1 1) rfl rfl _ _ (HR.out _) ?_)
      go_roundw
      case rel => exact ⟨k + 1, by omega, by go_num, q3, c3', rfl, HO3, HB3⟩
      case measure => simp [intOf]; omega
    · obtain rfl : k = n := by omega
      have HE := Lib.hid (show l.take k = l from List.take_of_length_le (by rw [HL.out]; exact Nat.le_refl _))
      go_wp2_with fail
      go_ret
      exact ⟨q, c, rfl, by have h := HO.out; rwa [HE.out] at h, HB.out⟩
end Go.Proofs.YtmghkcjljnlocaaGreatDoor
