/-
  Contract: what the document's own Parse of a toxic answers. Conditions: the text's length.
-/
import Derived.Test.YthlpdhhifjjofaaDoorQ
import Derived.Deep.RegionHeld
import Derived.Deep.RegionLaw
import Derived.Deep.Cut
import Derived.Deep.CutRange
import Derived.Deep.CutBlock
namespace Go.Proofs.YthlpdhhifjjofaaDoor
open Go.RowKit

/-! Rows of numbers. -/
def IntsIn (w : World) (p : Option Addr) (n : Nat) (xs : List Int) : Prop := 0 < n → ∃ b o, p = some ⟨b, o, none⟩ ∧ ∀ i, i < n → w.cell? ⟨b, o + i, none⟩ = some (.int .i64 (xs.getD i 0))
theorem ints_on {w w' : World} {p : Option Addr} {n : Nat} {xs : List Int} (h : IntsIn w p n xs) (hb : Below w.heap.size w w') : IntsIn w' p n xs := fun hn => by
  obtain ⟨b, o, e, hc⟩ := h hn
  exact ⟨b, o, e, fun i hi => (hb.cell (World.block_lt_of_cell? w _ (hc i hi))).trans (hc i hi)⟩
theorem ints_nil (w : World) (p : Option Addr) (xs : List Int) : IntsIn w p 0 xs := fun h => absurd h (Nat.lt_irrefl 0)
theorem own_ints {w : World} {base n : Nat} {v : Value} {xs : List Int} (h : w.ownsRow base 3 1 v n (xs.map (Value.int .i64))) :
    ∃ p c, v = .slice p n c ∧ xs.length = n ∧ IntsIn w p n xs ∧ (p = none → c = 0) ∧ n ≤ c ∧ c ≤ 9223372036854775807 := by
  have hl : xs.length = n := by have := h.1; simpa using this
  obtain ⟨_, ⟨rfl, rfl⟩ | ⟨g, cap, cur, rfl, hb, hh, h1, h2, h3, h4⟩⟩ := id h
  · exact ⟨none, 0, rfl, hl, ints_nil _ _ _, fun _ => rfl, Nat.le_refl _, by omega⟩
  · unfold maxLen at h2
    refine ⟨_, cap, rfl, hl, fun _ => ⟨g, 0, rfl, fun i hi => ?_⟩, (fun h => by cases h), h1, by omega⟩
    rw [Nat.zero_add, h.cellAt i (by omega), List.getElem?_map, List.getD_eq_getElem?_getD, List.getElem?_eq_getElem (by omega)]
    rfl
theorem info3 : (Tryd.prog.info? 3).map (fun i => (i.zero, i.size, i.bytes)) = some (some (.int .i64 0), 1, 8) := by kernel_rfl
theorem made_int (w : World) (x : Int) (T : TypeId) (fr : Nat × Nat) : IntsIn (w.alloc (.cells #[.int .i64 x] T fr)) (some ⟨w.heap.size, 0, none⟩) 1 [x] := fun _ => ⟨_, _, rfl, fun i hi => by
  obtain rfl : i = 0 := by omega
  exact cell_of_row _ _ 0 _ _ _ (heap_alloc_new w (.cells #[.int .i64 x] T fr))⟩
/-- One number more, of a row that was just made. -/
theorem app_int {w w0 : World} {base m : Nat} {v : Value} {zs : List Int} (hown : w.ownsRow base 3 1 v m (zs.map (Value.int .i64))) (hbase : base ≤ w.heap.size) (hb : Below base w0 w) (hbig : m + 1 ≤ 1000000) (x : Int) :
    ∃ q d w', (∀ ty, (Builtin.append_ #[48, 48] ty #[v, .slice (some ⟨w.heap.size, 0, none⟩) 1 1]).run Tryd.prog (w.alloc (.cells #[.int .i64 x] 3)) = .ok (.slice q (m + 1) d) w') ∧ w'.ownsRow base 3 1 (.slice q (m + 1) d) (m + 1) ((zs ++ [x]).map (Value.int .i64)) ∧ Below base w0 w' ∧ (w.alloc (.cells #[.int .i64 x] 3)).grownBy w' v.ownBlock := by
  obtain ⟨i0, hi0, hz0, hz1, hz2⟩ := info_parts info3
  have ho := hown.alloc (.cells #[.int .i64 x] 3)
  have hnew := heap_alloc_new w (.cells #[.int .i64 x] 3)
  obtain ⟨v', w', h1, h2, h3, _⟩ := run_append_own _ base 48 48 3 i0 (.int .i64 0) 1 8 Tryd.underlying48 hi0 hz0 hz1 hz2 rfl (by decide) v m _ ho ⟨w.heap.size, 0, none⟩ 1 1 ([x].map (Value.int .i64)) rfl (by
    intro j u hj
    have hj1 : j < 1 := by have := (List.getElem?_eq_some_iff.mp hj).1; simpa using this
    obtain rfl : j = 0 := by omega
    rw [WideShapes.add_plain, ← hj]
    exact cell_of_row _ _ 0 _ _ _ hnew) (by simp [Value.oneCell']) (by unfold maxLen; omega) (by omega) (by simp; omega)
  rw [← List.map_append] at h2
  obtain ⟨q, d, rfl, _⟩ := own_ints h2
  exact ⟨q, d, w', fun ty => by rw [← h1]; rfl, h2, (hb.alloc hbase _).grown h3 (by simp; omega) (fun j hj => (hown.lt j hj).1), h3⟩
theorem set_heap {w : World} {g i : Nat} {cs : Array Value} {T : TypeId} {fr : Nat × Nat} (hg : w.heap[g]? = some (.cells cs T fr)) (u : Value) : (w.setCell ⟨g, i, none⟩ u).heap[g]? = some (.cells (cs.setIfInBounds i u) T fr) := by
  simp [World.setCell, Array.getElem?_modify, hg]
def set6 (w : World) (g : Nat) (a b c d e f : Value) : World := (((((w.setCell ⟨g, 0, none⟩ a).setCell ⟨g, 1, none⟩ b).setCell ⟨g, 2, none⟩ c).setCell ⟨g, 3, none⟩ d).setCell ⟨g, 4, none⟩ e).setCell ⟨g, 5, none⟩ f
theorem set6_heap {w : World} {g : Nat} {x y z t p q : Value} {T : TypeId} (h : w.heap[g]? = some (.cells #[x, y, z, t, p, q] T (0, 0))) (a b c d e f : Value) : (set6 w g a b c d e f).heap[g]? = some (.cells #[a, b, c, d, e, f] T (0, 0)) := by
  unfold set6
  rw [set_heap (set_heap (set_heap (set_heap (set_heap (set_heap h a) b) c) d) e) f]
  rfl
theorem set6_below {B : Nat} {w0 w : World} {g : Nat} (h : Below B w0 w) (hg : B ≤ g) (a b c d e f : Value) : Below B w0 (set6 w g a b c d e f) :=
  (((((h.setCell (p := ⟨g, 0, none⟩) hg a).setCell (p := ⟨g, 1, none⟩) hg b).setCell (p := ⟨g, 2, none⟩) hg c).setCell (p := ⟨g, 3, none⟩) hg d).setCell (p := ⟨g, 4, none⟩) hg e).setCell (p := ⟨g, 5, none⟩) hg f
/-- The result's own block, while nothing was laid there. -/
def Rb (w0 w : World) (g : Nat) : Prop := w0.heap.size ≤ g ∧ w.heap[g]? = some (.cells #[.string ⟨#[]⟩, .int .i64 0, .bool false, .int .i64 0, .int .i64 0, .int .i64 0] 23 (0, 0)) ∧ Below w0.heap.size w0 w
theorem Rb.on {w0 w w' : World} {g : Nat} (h : Rb w0 w g) (hb : Below w.heap.size w w') : Rb w0 w' g := ⟨h.1, (hb.block _ (blk_lt h.2.1)).trans h.2.1, seqB h.2.2 hb⟩
/-- A toxic's value. -/
def toxV (t : Tox) : Value := .agg #[.string t.s, .int .i64 t.k, .bool t.up, .int .i64 t.o, .int .i64 t.a, .int .i64 t.b]
def Prs (s : ByteArray) (w : World) (e : Ending) (w' : World) : Prop := e = .returned (.tuple #[toxV (parseB s).1, .int .i64 (parseB s).2]) ∧ Below w.heap.size w w'
theorem ints_form {w : World} {B : Nat} {q : Option Addr} {m d : Nat} {ns : List Int} (h : w.ownsRow B 3 1 (.slice q m d) m (ns.map (Value.int .i64))) (hm : 0 < m) : ∃ b, q = some ⟨b, 0, none⟩ ∧ m ≤ d ∧ d ≤ 9223372036854775807 ∧ ns.length = m ∧ ∀ i, i < m → w.cell? ⟨b, i, none⟩ = some (.int .i64 (ns.getD i 0)) := by
  have hl : ns.length = m := by have := h.1; rw [List.length_map] at this; omega
  have h' := h
  obtain ⟨_, ⟨e, h0⟩ | ⟨g, cap, cur, e, hb, hh, h1, h2, h3, h4⟩⟩ := h
  · omega
  · cases e
    unfold maxLen at h2
    refine ⟨g, rfl, h1, by omega, hl, fun i hi => ?_⟩
    rw [World.ownsRow.cellAt h' i (by omega), List.getElem?_map, List.getD_eq_getElem?_getD, List.getElem?_eq_getElem (by omega)]
    rfl
theorem up_beq (t : ByteArray) : (t.toList == [117, 112]) = decide (t = upB) := by
  rw [Bool.eq_iff_iff, beq_iff_eq, decide_eq_true_eq, Lib.toList_data]
  constructor
  · intro h
    exact ByteArray.ext (Array.ext' h)
  · rintro rfl
    rfl
theorem prs_form {ps : List ByteArray} (h : (∃ t ∈ ps, t = ⟨#[]⟩) ∨ (ps.length ≠ 5 ∧ ps.length ≠ 6) ∨ (ps.getD 2 ⟨#[]⟩ ≠ upB ∧ ps.getD 2 ⟨#[]⟩ ≠ downB)) : parseP ps = (noTox, 90) := by
  unfold parseP
  rw [if_pos h]
theorem beq_empty {t : ByteArray} (h : ¬ t = ⟨#[]⟩) : (t.toList.isEmpty) = false := by
  rw [Lib.toList_data]
  cases e : t.data.toList with
  | nil => exact absurd (ByteArray.ext (Array.ext' e)) h
  | cons _ _ => rfl
set_option maxRecDepth 100000 in
set_option maxHeartbeats 16000000 in
theorem rparsex_any (s : ByteArray) (hs : s.size ≤ 1000000) (w : World) : Calls Tryd.prog 18 #[.string s] w (Prs s w) := by
  unfold Prs parseB
  have HSP := Lib.hid (fun W => rsplit_any s hs W)
  have HLN := Lib.hid (splK_len s s.size)
  have HPO := Lib.hid (splK_pos s s.size)
  have HSZ := Lib.hid (splK_size s s.size)
  generalize splK s s.size = ps at *
  have HR1 := Lib.hid (show Rb w (w.alloc (.cells #[.string ⟨#[]⟩, .int .i64 0, .bool false, .int .i64 0, .int .i64 0, .int .i64 0] 23)) w.heap.size from ⟨Nat.le_refl _, heap_alloc_new w _, (Below.refl _ _).alloc (Nat.le_refl _) _⟩)
  go_enter Tryd.func18, Tryd.ntmps18
  go_wp2_with fail
  obtain ⟨rb, hrb⟩ : ∃ rb, w.heap.size = rb := ⟨_, rfl⟩
  rw [hrb] at HR1
  generalize w.alloc (.cells #[.string ⟨#[]⟩, .int .i64 0, .bool false, .int .i64 0, .int .i64 0, .int .i64 0] 23) = w1 at *
  refine (HSP.out _).mono ?_
  rintro e w2 ⟨q, m, d, rfl, ho, hb⟩
  have HO := Lib.hid ho
  have HR2 := Lib.hid (HR1.out.on hb)
  obtain ⟨q, rfl⟩ : ∃ bq, q = some (Addr.mk bq 0 none) := by
    have := List.length_pos_iff.2 HPO.out
    have := ho.len
    obtain ⟨b, e, _⟩ := ho.form (by omega)
    exact ⟨b, e⟩
  have hml := ho.len
  have hmd : m ≤ d := (ho.form (by have := List.length_pos_iff.2 HPO.out; omega)).choose_spec.2.2.2.1
  have hd9 : d ≤ 9223372036854775807 := (ho.form (by have := List.length_pos_iff.2 HPO.out; omega)).choose_spec.2.2.2.2
  have hm9 : m ≤ 1000001 := by have := HLN.out; omega
  have HML := Lib.hid hml
  clear ho hb HSP HR1 hml
  go_wp2_with fail
  go_loopw [5] (fun i wr => ∃ (k : Nat), k ≤ m ∧ i = .int .i64 k ∧ Hid (∀ j, j < k → ps.getD j ⟨#[]⟩ ≠ ⟨#[]⟩) ∧ wr = w2) (fun i _ => m - (intOf i).toNat)
  case atStart => exact ⟨0, by omega, rfl, Lib.hid (fun j h => by omega), rfl⟩
  case round =>
    obtain ⟨k, hk, rfl, HN, rfl⟩ := hrel
    by_cases hlt : k < m
    · have c0 := HO.out.at k hlt
      by_cases ht : ps.getD k ⟨#[]⟩ = ⟨#[]⟩
      · have HV := Lib.hid (prs_form (ps := ps) (Or.inl ⟨_, by
          rw [List.getD_eq_getElem?_getD, List.getElem?_eq_getElem (by have := HML.out; omega)]
          exact List.getElem_mem (by have := HML.out; omega), ht⟩))
        rw [ht] at c0
        clear ht HO
        have hrb := HR2.out
        obtain ⟨x0, x1, x2, x3, x4, x5⟩ := box6 hrb.2.1 (Below.refl _ _)
        have f0 : wr.frozen? ⟨rb, 0, none⟩ = false := frozen_at hrb.2.1
        have f1 : wr.frozen? ⟨rb, 1, none⟩ = false := frozen_at hrb.2.1
        have f2 : wr.frozen? ⟨rb, 2, none⟩ = false := frozen_at hrb.2.1
        have f3 : wr.frozen? ⟨rb, 3, none⟩ = false := frozen_at hrb.2.1
        have f4 : wr.frozen? ⟨rb, 4, none⟩ = false := frozen_at hrb.2.1
        have f5 : wr.frozen? ⟨rb, 5, none⟩ = false := frozen_at hrb.2.1
        have hz := set6_heap hrb.2.1 (.string ⟨#[]⟩) (.int .i64 0) (.bool false) (.int .i64 0) (.int .i64 0) (.int .i64 0)
        have HD := Lib.hid (set6_below hrb.2.2 hrb.1 (.string ⟨#[]⟩) (.int .i64 0) (.bool false) (.int .i64 0) (.int .i64 0) (.int .i64 0))
        clear hrb
        go_wp2_with fail
        generalize hW : set6 wr rb (.string ⟨#[]⟩) (.int .i64 0) (.bool false) (.int .i64 0) (.int .i64 0) (.int .i64 0) = W at *
        unfold set6 at hW
        rw [hW]
        clear hW x0 x1 x2 x3 x4 x5 f0 f1 f2 f3 f4 f5
        have z0 : W.cell? ⟨rb, 0, none⟩ = some (.string ⟨#[]⟩) := cell_of_row W _ 0 _ _ _ hz
        have z1 : W.cell? ⟨rb, 1, none⟩ = some (.int .i64 0) := cell_of_row W _ 1 _ _ _ hz
        have z2 : W.cell? ⟨rb, 2, none⟩ = some (.bool false) := cell_of_row W _ 2 _ _ _ hz
        have z3 : W.cell? ⟨rb, 3, none⟩ = some (.int .i64 0) := cell_of_row W _ 3 _ _ _ hz
        have z4 : W.cell? ⟨rb, 4, none⟩ = some (.int .i64 0) := cell_of_row W _ 4 _ _ _ hz
        have z5 : W.cell? ⟨rb, 5, none⟩ = some (.int .i64 0) := cell_of_row W _ 5 _ _ _ hz
        exact bodyPost_ret (v := .tuple #[.agg #[.string ⟨#[]⟩, .int .i64 0, .bool false, .int .i64 0, .int .i64 0, .int .i64 0], .int .i64 90]) (by simp [results, Tryd.results18, go_sem, z0, z1, z2, z3, z4, z5]) rfl ⟨by rw [HV.out]; rfl, by first | exact HD.out | exact hrb ▸ HD.out⟩
      · have HN1 := Lib.hid (show ∀ j, j < k + 1 → ps.getD j ⟨#[]⟩ ≠ ⟨#[]⟩ from fun j hj => by
          rcases Nat.lt_or_eq_of_le (Nat.le_of_lt_succ hj) with h | h
          · exact HN.out j h
          · rw [h]; exact ht)
        have hbe := beq_empty ht
        generalize ps.getD k ⟨#[]⟩ = t at c0 hbe
        clear ht
        go_wp2_with fail
        go_roundw
        case rel => exact ⟨k + 1, by omega, by go_num, HN1, trivial⟩
        case measure => simp [intOf]; omega
    · obtain rfl : k = m := by omega
      have HNE := Lib.hid HN.out
      clear HN hlt hk
      by_cases h56 : k = 5 ∨ k = 6
      · obtain ⟨T2, hT2⟩ : ∃ T, ps.getD 2 ⟨#[]⟩ = T := ⟨_, rfl⟩
        have c2 := HO.out.at 2 (by omega)
        rw [hT2] at c2
        have hk2 : 2 < k := by omega
        have hall : ¬ ∃ t ∈ ps, t = ⟨#[]⟩ := fun ⟨t, h1, h2⟩ => by
          obtain ⟨j, hj, e⟩ := List.getElem_of_mem h1
          refine HNE.out j (by have := HML.out; omega) ?_
          rw [List.getD_eq_getElem?_getD, List.getElem?_eq_getElem hj, e.trans h2]
          rfl
        by_cases hT : T2 = upB ∨ T2 = downB
        · have hfm : ¬ ((∃ t ∈ ps, t = ⟨#[]⟩) ∨ (ps.length ≠ 5 ∧ ps.length ≠ 6) ∨ (ps.getD 2 ⟨#[]⟩ ≠ upB ∧ ps.getD 2 ⟨#[]⟩ ≠ downB)) := fun h => by
            rcases h with h | h | h
            · exact hall h
            · have := HML.out; omega
            · rw [hT2] at h
              rcases hT with e | e
              · exact h.1 e
              · exact h.2 e
          have HFM := Lib.hid hfm
          have HNP := Lib.hid (show numsP (ps.drop 3) = none → parseP ps = (noTox, 90) from fun hnn => by
            unfold parseP
            rw [if_neg HFM.out, hnn])
          have HT2 := Lib.hid hT2
          have H56 := Lib.hid h56
          have HTT := Lib.hid hT
          have hk5 : 5 ≤ k ∧ k ≤ 6 := by omega
          clear hall hfm hT2 h56 hT
          go_upto_region 7 with fail
          go_cut [33] from 26 to 33 (fun c wc => c = .bool false ∧ wc = wr)
          case first =>
            rcases H56.out with e | e
            · have b5 : ((k : Int) != 5) = false := by simp; omega
              clear e
              go_wp2_with fail
              go_meet
              exact ⟨rfl, rfl⟩
            · have b5 : ((k : Int) != 5) = true := by simp; omega
              have b6 : ((k : Int) != 6) = false := by simp; omega
              clear e
              go_wp2_with fail
              go_meet
              exact ⟨rfl, rfl⟩
          case rest =>
          obtain ⟨rfl, rfl⟩ := hcut
          go_upto_region 9 with fail
          go_cut [44] from 35 to 44 (fun c wd => c = .bool false ∧ wd = wc)
          case first =>
            rcases HTT.out with e | e
            · have hu1 : T2.toList = [117, 112] := by rw [e, Lib.toList_data]; rfl
              clear e
              go_wp2_with fail
              go_meet
              exact ⟨rfl, rfl⟩
            · have hu1 : T2.toList = [100, 111, 119, 110] := by rw [e, Lib.toList_data]; rfl
              clear e
              go_wp2_with fail
              go_meet
              exact ⟨rfl, rfl⟩
          case rest =>
          obtain ⟨rfl, rfl⟩ := hcut
          go_wp2_with fail
          rename World => wC
          go_loopw [6, 7, 8, 9] (fun nv i _ _ wl => ∃ (j : Nat) (qn : Option Addr) (dn : Nat) (ns : List Int), j + 3 ≤ k ∧ i = .int .i64 ((j + 3 : Nat) : Int) ∧ nv = .slice qn j dn ∧ Hid (wl.ownsRow wC.heap.size 3 1 (.slice qn j dn) j (ns.map (Value.int .i64))) ∧ Hid (∀ x, x < j → numP (ps.getD (x + 3) ⟨#[]⟩) = some (ns.getD x 0)) ∧ Hid (Below wC.heap.size wC wl)) (fun _ i _ _ _ => k - (intOf i).toNat)
          case atStart => exact ⟨0, none, 0, [], by omega, rfl, rfl, Lib.hid (World.ownsRow_nil _ _ _ _), Lib.hid (fun x h => by omega), Lib.hid (Below.refl _ _)⟩
          case round =>
          obtain ⟨j, qn, dn, ns, hj3, rfl, rfl, HNO, HNN, HBW⟩ := hrel
          have HR3 := Lib.hid (HR2.out.on HBW.out)
          by_cases hlt : j + 3 < k
          · have c0 := HO.out.at (j + 3) hlt
            have c1 := (HBW.out.cell (World.block_lt_of_cell? wC _ c0)).trans c0
            have hzt : (ps.getD (j + 3) ⟨#[]⟩).size ≤ s.size := by
              refine HSZ.out _ ?_
              rw [List.getD_eq_getElem?_getD, List.getElem?_eq_getElem (by have := HML.out; omega)]
              exact List.getElem_mem _
            have HRP := Lib.hid (fun W => rparse_any (ps.getD (j + 3) ⟨#[]⟩) W (by unfold maxLen; omega))
            clear c0
            cases hn : numP (ps.getD (j + 3) ⟨#[]⟩) with
            | none =>
              have HV := Lib.hid (HNP.out (numsP_stop j (by rw [List.length_drop]; have := HML.out; omega) (by
                rw [List.getD_eq_getElem?_getD, List.getElem?_drop, Nat.add_comm 3 j, ← List.getD_eq_getElem?_getD]
                exact hn)))
              unfold numP at hn
              rw [hn] at HRP
              generalize ps.getD (j + 3) ⟨#[]⟩ = t at c1 HRP
              clear hn hzt HNO HNN
              go_wp2_with fail
              refine (HRP.out _).mono ?_
              rintro e w' ⟨rfl, rfl⟩
              dsimp only [parseEnd]
              have hrb := HR3.out
              obtain ⟨x0, x1, x2, x3, x4, x5⟩ := box6 hrb.2.1 (Below.refl _ _)
              have f0 : wr.frozen? ⟨rb, 0, none⟩ = false := frozen_at hrb.2.1
              have f1 : wr.frozen? ⟨rb, 1, none⟩ = false := frozen_at hrb.2.1
              have f2 : wr.frozen? ⟨rb, 2, none⟩ = false := frozen_at hrb.2.1
              have f3 : wr.frozen? ⟨rb, 3, none⟩ = false := frozen_at hrb.2.1
              have f4 : wr.frozen? ⟨rb, 4, none⟩ = false := frozen_at hrb.2.1
              have f5 : wr.frozen? ⟨rb, 5, none⟩ = false := frozen_at hrb.2.1
              have hz := set6_heap hrb.2.1 (.string ⟨#[]⟩) (.int .i64 0) (.bool false) (.int .i64 0) (.int .i64 0) (.int .i64 0)
              have HD := Lib.hid (set6_below hrb.2.2 hrb.1 (.string ⟨#[]⟩) (.int .i64 0) (.bool false) (.int .i64 0) (.int .i64 0) (.int .i64 0))
              clear hrb
              go_wp2_with fail
              generalize hW : set6 wr rb (.string ⟨#[]⟩) (.int .i64 0) (.bool false) (.int .i64 0) (.int .i64 0) (.int .i64 0) = W at *
              unfold set6 at hW
              rw [hW]
              clear hW x0 x1 x2 x3 x4 x5 f0 f1 f2 f3 f4 f5
              have z0 : W.cell? ⟨rb, 0, none⟩ = some (.string ⟨#[]⟩) := cell_of_row W _ 0 _ _ _ hz
              have z1 : W.cell? ⟨rb, 1, none⟩ = some (.int .i64 0) := cell_of_row W _ 1 _ _ _ hz
              have z2 : W.cell? ⟨rb, 2, none⟩ = some (.bool false) := cell_of_row W _ 2 _ _ _ hz
              have z3 : W.cell? ⟨rb, 3, none⟩ = some (.int .i64 0) := cell_of_row W _ 3 _ _ _ hz
              have z4 : W.cell? ⟨rb, 4, none⟩ = some (.int .i64 0) := cell_of_row W _ 4 _ _ _ hz
              have z5 : W.cell? ⟨rb, 5, none⟩ = some (.int .i64 0) := cell_of_row W _ 5 _ _ _ hz
              exact bodyPost_ret (v := .tuple #[.agg #[.string ⟨#[]⟩, .int .i64 0, .bool false, .int .i64 0, .int .i64 0, .int .i64 0], .int .i64 90]) (by simp [results, Tryd.results18, go_sem, z0, z1, z2, z3, z4, z5]) rfl ⟨by rw [HV.out]; rfl, by first | exact HD.out | exact hrb ▸ HD.out⟩
            | some n =>
              obtain ⟨q', d', w', h1, h2, h3, _⟩ := app_int HNO.out HBW.out.size HBW.out (by omega) n
              have hlen := (own_ints HNO.out).choose_spec.choose_spec.2.1
              have HNN1 := Lib.hid (show ∀ x, x < j + 1 → numP (ps.getD (x + 3) ⟨#[]⟩) = some ((ns ++ [n]).getD x 0) from fun x hx => by
                rcases Nat.lt_or_eq_of_le (Nat.le_of_lt_succ hx) with h | h
                · rw [HNN.out x h, List.getD_eq_getElem?_getD, List.getD_eq_getElem?_getD, List.getElem?_append_left (by omega)]
                · subst h
                  rw [hn, List.getD_eq_getElem?_getD, List.getElem?_append_right (by omega), hlen, Nat.sub_self]
                  rfl)
              have HR := Lib.hid h1
              have HNO1 := Lib.hid h2
              have HBW1 := Lib.hid h3
              unfold numP at hn
              rw [hn] at HRP
              generalize ps.getD (j + 3) ⟨#[]⟩ = t at c1 HRP
              clear hn hzt HNO HNN h1 h2 h3 hlen
              go_wp2_with fail
              refine (HRP.out _).mono ?_
              rintro e w'' ⟨rfl, rfl⟩
              dsimp only [parseEnd]
              go_wp2_with (at_builtin; refine Lib.wpList_append_run _ rfl _ _ _ _ rfl (.slice qn j dn) (.slice (some ⟨wr.heap.size, 0, none⟩) 1 1) rfl rfl _ _ (HR.out _) ?_)
              go_roundw
              case rel => exact ⟨j + 1, q', d', ns ++ [n], by omega, by go_num, rfl, HNO1, HNN1, HBW1⟩
              case measure => simp [intOf]; omega
          · obtain rfl : k = j + 3 := by omega
            have hj2 : 2 ≤ j ∧ j ≤ 3 := by omega
            obtain ⟨bn, rfl, hjd, hdn, hnl, hnc⟩ := ints_form HNO.out (by omega)
            have n0 := hnc 0 (by omega)
            have n1 := hnc 1 (by omega)
            have hns : numsP (ps.drop 3) = some ns := numsP_all (by rw [List.length_drop, hnl]; have := HML.out; omega) fun x hx => by
              rw [List.length_drop] at hx
              rw [List.getD_eq_getElem?_getD, List.getElem?_drop, Nat.add_comm 3 x, ← List.getD_eq_getElem?_getD]
              exact HNN.out x (by have := HML.out; omega)
            have x0 := (HBW.out.cell (World.block_lt_of_cell? wC _ (HO.out.at 0 (by omega)))).trans (HO.out.at 0 (by omega))
            have x1 := (HBW.out.cell (World.block_lt_of_cell? wC _ (HO.out.at 1 (by omega)))).trans (HO.out.at 1 (by omega))
            have x2 := (HBW.out.cell (World.block_lt_of_cell? wC _ (HO.out.at 2 (by omega)))).trans (HO.out.at 2 (by omega))
            rw [HT2.out] at x2
            obtain ⟨U, hU⟩ : ∃ U, (T2.toList == [117, 112]) = U := ⟨_, rfl⟩
            have hU2 := (up_beq T2).symm.trans hU
            have HPP := Lib.hid (show parseP ps = if kindB (ps.getD 1 ⟨#[]⟩) = 0 ∨ (j : Int) ≠ 1 + numsB (kindB (ps.getD 1 ⟨#[]⟩)) then (noTox, 91) else if checkB (ps.getD 0 ⟨#[]⟩) (kindB (ps.getD 1 ⟨#[]⟩)) (ns.getD 0 0) (ns.getD 1 0) (ns.getD 2 0) = 0 then (⟨ps.getD 0 ⟨#[]⟩, kindB (ps.getD 1 ⟨#[]⟩), U, ns.getD 0 0, ns.getD 1 0, ns.getD 2 0⟩, 0) else (noTox, checkB (ps.getD 0 ⟨#[]⟩) (kindB (ps.getD 1 ⟨#[]⟩)) (ns.getD 0 0) (ns.getD 1 0) (ns.getD 2 0)) by
              unfold parseP
              rw [if_neg HFM.out, hns]
              dsimp only
              unfold toxP
              rw [HT2.out, hU2, hnl])
            have HN2 := Lib.hid (show j = 2 → ns.getD 2 0 = 0 from fun e => by rw [List.getD_eq_getElem?_getD, List.getElem?_eq_none (by omega)]; rfl)
            have HNC := Lib.hid (show j = 3 → wr.cell? ⟨bn, 2, none⟩ = some (.int .i64 (ns.getD 2 0)) from fun e => hnc 2 (by omega))
            have HS0 := Lib.hid (show (ps.getD 0 ⟨#[]⟩).size ≤ 1000000 by
              refine Nat.le_trans (HSZ.out _ ?_) hs
              rw [List.getD_eq_getElem?_getD, List.getElem?_eq_getElem (by have := HML.out; omega)]
              exact List.getElem_mem _)
            have HKI := Lib.hid (fun W => rkind_any (ps.getD 1 ⟨#[]⟩) W)
            clear hU2 hns hnc hnl HNN HNO HO HSZ HNE HFM HNP HT2 HTT H56 HML HLN HPO hlt c2 hj3 HBW HR2
            generalize kindB (ps.getD 1 ⟨#[]⟩) = K at *
            generalize ps.getD 1 ⟨#[]⟩ = T1 at *
            generalize ps.getD 0 ⟨#[]⟩ = T0 at *
            generalize ns.getD 0 0 = O at *
            generalize ns.getD 1 0 = A at *
            generalize ns.getD 2 0 = B at *
            have hq9 := World.block_lt_of_cell? wr _ x0
            have hb9 := World.block_lt_of_cell? wr _ n0
            have i0 : (0 : Int) < (j : Int) + 3 := by omega
            have i1 : (1 : Int) < (j : Int) + 3 := by omega
            have i2 : (2 : Int) < (j : Int) + 3 := by omega
            have i3 : (0 : Int) < (j : Int) := by omega
            have i4 : (1 : Int) < (j : Int) := by omega
            have i5 : 0 < j := by omega
            have i6 : 1 < j := by omega
            go_upto_region 19 with fail
            go_cut [10] from 67 to 84 (fun c wc => c = .pointer (some ⟨wr.heap.size, 0, none⟩) ∧ wc = (wr.alloc (.cells #[.string T0, .int .i64 K, .bool U, .int .i64 O, .int .i64 A, .int .i64 0] 23)).drew)
            case first =>
              go_region_held (fun W => W.cell? ⟨q, 0, none⟩ = some (.string T0) ∧ W.cell? ⟨q, 1, none⟩ = some (.string T1) ∧ W.cell? ⟨q, 2, none⟩ = some (.string T2) ∧ W.cell? ⟨bn, 0, none⟩ = some (.int .i64 O) ∧ W.cell? ⟨bn, 1, none⟩ = some (.int .i64 A)) (go_keep)
                (first
                  | (go_at_call 22; (with_reducible refine Calls.mono (HKI.out _) ?_); rintro e w' ⟨rfl, rfl⟩))
              all_goals (go_wp2_with fail; go_meet; exact ⟨rfl, rfl⟩)
            case rest =>
            obtain ⟨rfl, hwc⟩ := hcut
            have hbt : Below wr.heap.size wr wc := by rw [hwc]; exact ((Below.refl _ _).alloc (Nat.le_refl _) _).drew
            have HG := Lib.hid (show wc.heap[wr.heap.size]? = some (.cells #[.string T0, .int .i64 K, .bool U, .int .i64 O, .int .i64 A, .int .i64 0] 23 (0, 0)) by rw [hwc]; exact heap_alloc_new wr _)
            have HR4 := Lib.hid (HR3.out.on hbt)
            have HNC4 := Lib.hid (show j = 3 → wc.cell? ⟨bn, 2, none⟩ = some (.int .i64 B) from fun e => (hbt.cell (World.block_lt_of_cell? wr _ (HNC.out e))).trans (HNC.out e))
            have HRB := Lib.hid HR3.out.1
            have hrt : rb ≠ wr.heap.size := by
              have := blk_lt HR3.out.2.1
              omega
            have hwt : w.heap.size ≤ wr.heap.size := HR3.out.2.2.size
            clear hwc hbt x0 x1 x2 n0 n1 hq9 hb9 i0 i1 i2 i3 i4 i5 i6 HNC HKI HR3 hU
            generalize wr.heap.size = tb at *
            have HCK := Lib.hid (fun W => rcheck_any T0 HS0.out K U O A B W)
            unfold Chk at HCK
            obtain ⟨C, hC⟩ : ∃ C, checkB T0 K O A B = C := ⟨_, rfl⟩
            rw [hC] at HCK HPP
            clear hC
            have HNU := Lib.hid (fun W => rnumbers_any K W)
            have hN02 : 0 ≤ numsB K ∧ numsB K ≤ 2 := by unfold numsB; split <;> (try split) <;> omega
            generalize numsB K = N at *
            have hj23 : j = 2 ∨ j = 3 := by omega
            rcases hj23 with rfl | rfl
            · have hB := HN2.out rfl
              have hg := HG.out
              rw [← hB] at hg
              clear hB
              have HG9 := Lib.hid hg
              have y1 : wc.cell? ⟨tb, 1, none⟩ = some (.int .i64 K) := cell_of_row _ _ 1 _ _ _ hg
              have htl := blk_lt hg
              clear hg
              by_cases hK : K = 0
              · have cK : (K == 0) = true := by simpa using hK
                have HV := Lib.hid (show parseP ps = (noTox, 91) by rw [HPP.out, if_pos (Or.inl hK)])
                clear hK
                have hrb := HR4.out
                obtain ⟨x0, x1, x2, x3, x4, x5⟩ := box6 hrb.2.1 (Below.refl _ _)
                have f0 : wc.frozen? ⟨rb, 0, none⟩ = false := frozen_at hrb.2.1
                have f1 : wc.frozen? ⟨rb, 1, none⟩ = false := frozen_at hrb.2.1
                have f2 : wc.frozen? ⟨rb, 2, none⟩ = false := frozen_at hrb.2.1
                have f3 : wc.frozen? ⟨rb, 3, none⟩ = false := frozen_at hrb.2.1
                have f4 : wc.frozen? ⟨rb, 4, none⟩ = false := frozen_at hrb.2.1
                have f5 : wc.frozen? ⟨rb, 5, none⟩ = false := frozen_at hrb.2.1
                have hz := set6_heap hrb.2.1 (.string ⟨#[]⟩) (.int .i64 0) (.bool false) (.int .i64 0) (.int .i64 0) (.int .i64 0)
                have HD := Lib.hid (set6_below hrb.2.2 hrb.1 (.string ⟨#[]⟩) (.int .i64 0) (.bool false) (.int .i64 0) (.int .i64 0) (.int .i64 0))
                clear hrb
                go_wp2_with fail
                generalize hW : set6 wc rb (.string ⟨#[]⟩) (.int .i64 0) (.bool false) (.int .i64 0) (.int .i64 0) (.int .i64 0) = W at *
                unfold set6 at hW
                rw [hW]
                clear hW x0 x1 x2 x3 x4 x5 f0 f1 f2 f3 f4 f5
                have z0 : W.cell? ⟨rb, 0, none⟩ = some (.string ⟨#[]⟩) := cell_of_row W _ 0 _ _ _ hz
                have z1 : W.cell? ⟨rb, 1, none⟩ = some (.int .i64 0) := cell_of_row W _ 1 _ _ _ hz
                have z2 : W.cell? ⟨rb, 2, none⟩ = some (.bool false) := cell_of_row W _ 2 _ _ _ hz
                have z3 : W.cell? ⟨rb, 3, none⟩ = some (.int .i64 0) := cell_of_row W _ 3 _ _ _ hz
                have z4 : W.cell? ⟨rb, 4, none⟩ = some (.int .i64 0) := cell_of_row W _ 4 _ _ _ hz
                have z5 : W.cell? ⟨rb, 5, none⟩ = some (.int .i64 0) := cell_of_row W _ 5 _ _ _ hz
                exact bodyPost_ret (v := .tuple #[.agg #[.string ⟨#[]⟩, .int .i64 0, .bool false, .int .i64 0, .int .i64 0, .int .i64 0], .int .i64 91]) (by simp [results, Tryd.results18, go_sem, z0, z1, z2, z3, z4, z5]) rfl ⟨by rw [HV.out]; rfl, by first | exact HD.out | exact hrb ▸ HD.out⟩
              · have cK : (K == 0) = false := by simpa using hK
                have hw1 : IntKind.i64.wrap (1 + N) = 1 + N := IntWalk.i64_in _ (by omega)
                by_cases hNJ : (2 : Int) = 1 + N
                · have cN : ((2 : Int) != 1 + N) = false := by simpa using hNJ
                  have HP2 := Lib.hid (HPP.out.trans (if_neg (fun h => by rcases h with h | h; exact hK h; exact h (by simpa using hNJ))))
                  clear hK hNJ
                  go_wp2_with fail
                  refine (HNU.out _).mono ?_
                  rintro e w' ⟨rfl, rfl⟩
                  have y0 : wc.cell? ⟨tb, 0, none⟩ = some (.string T0) := cell_of_row _ _ 0 _ _ _ HG9.out
                  have y2 : wc.cell? ⟨tb, 2, none⟩ = some (.bool U) := cell_of_row _ _ 2 _ _ _ HG9.out
                  have y3 : wc.cell? ⟨tb, 3, none⟩ = some (.int .i64 O) := cell_of_row _ _ 3 _ _ _ HG9.out
                  have y4 : wc.cell? ⟨tb, 4, none⟩ = some (.int .i64 A) := cell_of_row _ _ 4 _ _ _ HG9.out
                  have y5 : wc.cell? ⟨tb, 5, none⟩ = some (.int .i64 B) := cell_of_row _ _ 5 _ _ _ HG9.out
                  go_upto_region 24 with fail
                  go_wp2_with fail
                  refine (HCK.out _).mono ?_
                  rintro e w7 ⟨rfl, hb⟩
                  have HR7 := Lib.hid (HR4.out.on hb)
                  have HG7 := Lib.hid ((hb.block _ (blk_lt HG9.out)).trans HG9.out)
                  clear hb y0 y1 y2 y3 y4 y5 htl
                  by_cases hC : C = 0
                  · have cC : (C != 0) = false := by simpa using hC
                    have HV := Lib.hid (HP2.out.trans (if_pos hC))
                    clear hC
                    have hrb := HR7.out
                    obtain ⟨x0, x1, x2, x3, x4, x5⟩ := box6 hrb.2.1 (Below.refl _ _)
                    obtain ⟨y0, y1, y2, y3, y4, y5⟩ := box6 HG7.out (Below.refl _ _)
                    have f0 : w7.frozen? ⟨rb, 0, none⟩ = false := frozen_at hrb.2.1
                    have f1 : w7.frozen? ⟨rb, 1, none⟩ = false := frozen_at hrb.2.1
                    have f2 : w7.frozen? ⟨rb, 2, none⟩ = false := frozen_at hrb.2.1
                    have f3 : w7.frozen? ⟨rb, 3, none⟩ = false := frozen_at hrb.2.1
                    have f4 : w7.frozen? ⟨rb, 4, none⟩ = false := frozen_at hrb.2.1
                    have f5 : w7.frozen? ⟨rb, 5, none⟩ = false := frozen_at hrb.2.1
                    have hz := set6_heap hrb.2.1 (.string T0) (.int .i64 K) (.bool U) (.int .i64 O) (.int .i64 A) (.int .i64 B)
                    have HD := Lib.hid (set6_below hrb.2.2 hrb.1 (.string T0) (.int .i64 K) (.bool U) (.int .i64 O) (.int .i64 A) (.int .i64 B))
                    clear hrb
                    go_wp2_with fail
                    generalize hW : set6 w7 rb (.string T0) (.int .i64 K) (.bool U) (.int .i64 O) (.int .i64 A) (.int .i64 B) = W at *
                    unfold set6 at hW
                    rw [hW]
                    clear hW x0 x1 x2 x3 x4 x5 f0 f1 f2 f3 f4 f5
                    have z0 : W.cell? ⟨rb, 0, none⟩ = some (.string T0) := cell_of_row W _ 0 _ _ _ hz
                    have z1 : W.cell? ⟨rb, 1, none⟩ = some (.int .i64 K) := cell_of_row W _ 1 _ _ _ hz
                    have z2 : W.cell? ⟨rb, 2, none⟩ = some (.bool U) := cell_of_row W _ 2 _ _ _ hz
                    have z3 : W.cell? ⟨rb, 3, none⟩ = some (.int .i64 O) := cell_of_row W _ 3 _ _ _ hz
                    have z4 : W.cell? ⟨rb, 4, none⟩ = some (.int .i64 A) := cell_of_row W _ 4 _ _ _ hz
                    have z5 : W.cell? ⟨rb, 5, none⟩ = some (.int .i64 B) := cell_of_row W _ 5 _ _ _ hz
                    exact bodyPost_ret (v := .tuple #[.agg #[.string T0, .int .i64 K, .bool U, .int .i64 O, .int .i64 A, .int .i64 B], .int .i64 0]) (by simp [results, Tryd.results18, go_sem, z0, z1, z2, z3, z4, z5]) rfl ⟨by rw [HV.out]; rfl, by first | exact HD.out | exact hrb ▸ HD.out⟩
                  · have cC : (C != 0) = true := by simpa using hC
                    have HV := Lib.hid (HP2.out.trans (if_neg hC))
                    clear hC
                    have hrb := HR7.out
                    obtain ⟨x0, x1, x2, x3, x4, x5⟩ := box6 hrb.2.1 (Below.refl _ _)
                    have f0 : w7.frozen? ⟨rb, 0, none⟩ = false := frozen_at hrb.2.1
                    have f1 : w7.frozen? ⟨rb, 1, none⟩ = false := frozen_at hrb.2.1
                    have f2 : w7.frozen? ⟨rb, 2, none⟩ = false := frozen_at hrb.2.1
                    have f3 : w7.frozen? ⟨rb, 3, none⟩ = false := frozen_at hrb.2.1
                    have f4 : w7.frozen? ⟨rb, 4, none⟩ = false := frozen_at hrb.2.1
                    have f5 : w7.frozen? ⟨rb, 5, none⟩ = false := frozen_at hrb.2.1
                    have hz := set6_heap hrb.2.1 (.string ⟨#[]⟩) (.int .i64 0) (.bool false) (.int .i64 0) (.int .i64 0) (.int .i64 0)
                    have HD := Lib.hid (set6_below hrb.2.2 hrb.1 (.string ⟨#[]⟩) (.int .i64 0) (.bool false) (.int .i64 0) (.int .i64 0) (.int .i64 0))
                    clear hrb
                    go_wp2_with fail
                    generalize hW : set6 w7 rb (.string ⟨#[]⟩) (.int .i64 0) (.bool false) (.int .i64 0) (.int .i64 0) (.int .i64 0) = W at *
                    unfold set6 at hW
                    rw [hW]
                    clear hW x0 x1 x2 x3 x4 x5 f0 f1 f2 f3 f4 f5
                    have z0 : W.cell? ⟨rb, 0, none⟩ = some (.string ⟨#[]⟩) := cell_of_row W _ 0 _ _ _ hz
                    have z1 : W.cell? ⟨rb, 1, none⟩ = some (.int .i64 0) := cell_of_row W _ 1 _ _ _ hz
                    have z2 : W.cell? ⟨rb, 2, none⟩ = some (.bool false) := cell_of_row W _ 2 _ _ _ hz
                    have z3 : W.cell? ⟨rb, 3, none⟩ = some (.int .i64 0) := cell_of_row W _ 3 _ _ _ hz
                    have z4 : W.cell? ⟨rb, 4, none⟩ = some (.int .i64 0) := cell_of_row W _ 4 _ _ _ hz
                    have z5 : W.cell? ⟨rb, 5, none⟩ = some (.int .i64 0) := cell_of_row W _ 5 _ _ _ hz
                    exact bodyPost_ret (v := .tuple #[.agg #[.string ⟨#[]⟩, .int .i64 0, .bool false, .int .i64 0, .int .i64 0, .int .i64 0], .int .i64 C]) (by simp [results, Tryd.results18, go_sem, z0, z1, z2, z3, z4, z5]) rfl ⟨by rw [HV.out]; rfl, by first | exact HD.out | exact hrb ▸ HD.out⟩
                · have cN : ((2 : Int) != 1 + N) = true := by simpa using hNJ
                  have HV := Lib.hid (show parseP ps = (noTox, 91) by rw [HPP.out, if_pos (Or.inr (by simpa using hNJ))])
                  clear hK hNJ
                  go_wp2_with fail
                  refine (HNU.out _).mono ?_
                  rintro e w' ⟨rfl, rfl⟩
                  have hrb := HR4.out
                  obtain ⟨x0, x1, x2, x3, x4, x5⟩ := box6 hrb.2.1 (Below.refl _ _)
                  have f0 : wc.frozen? ⟨rb, 0, none⟩ = false := frozen_at hrb.2.1
                  have f1 : wc.frozen? ⟨rb, 1, none⟩ = false := frozen_at hrb.2.1
                  have f2 : wc.frozen? ⟨rb, 2, none⟩ = false := frozen_at hrb.2.1
                  have f3 : wc.frozen? ⟨rb, 3, none⟩ = false := frozen_at hrb.2.1
                  have f4 : wc.frozen? ⟨rb, 4, none⟩ = false := frozen_at hrb.2.1
                  have f5 : wc.frozen? ⟨rb, 5, none⟩ = false := frozen_at hrb.2.1
                  have hz := set6_heap hrb.2.1 (.string ⟨#[]⟩) (.int .i64 0) (.bool false) (.int .i64 0) (.int .i64 0) (.int .i64 0)
                  have HD := Lib.hid (set6_below hrb.2.2 hrb.1 (.string ⟨#[]⟩) (.int .i64 0) (.bool false) (.int .i64 0) (.int .i64 0) (.int .i64 0))
                  clear hrb
                  go_wp2_with fail
                  generalize hW : set6 wc rb (.string ⟨#[]⟩) (.int .i64 0) (.bool false) (.int .i64 0) (.int .i64 0) (.int .i64 0) = W at *
                  unfold set6 at hW
                  rw [hW]
                  clear hW x0 x1 x2 x3 x4 x5 f0 f1 f2 f3 f4 f5
                  have z0 : W.cell? ⟨rb, 0, none⟩ = some (.string ⟨#[]⟩) := cell_of_row W _ 0 _ _ _ hz
                  have z1 : W.cell? ⟨rb, 1, none⟩ = some (.int .i64 0) := cell_of_row W _ 1 _ _ _ hz
                  have z2 : W.cell? ⟨rb, 2, none⟩ = some (.bool false) := cell_of_row W _ 2 _ _ _ hz
                  have z3 : W.cell? ⟨rb, 3, none⟩ = some (.int .i64 0) := cell_of_row W _ 3 _ _ _ hz
                  have z4 : W.cell? ⟨rb, 4, none⟩ = some (.int .i64 0) := cell_of_row W _ 4 _ _ _ hz
                  have z5 : W.cell? ⟨rb, 5, none⟩ = some (.int .i64 0) := cell_of_row W _ 5 _ _ _ hz
                  exact bodyPost_ret (v := .tuple #[.agg #[.string ⟨#[]⟩, .int .i64 0, .bool false, .int .i64 0, .int .i64 0, .int .i64 0], .int .i64 91]) (by simp [results, Tryd.results18, go_sem, z0, z1, z2, z3, z4, z5]) rfl ⟨by rw [HV.out]; rfl, by first | exact HD.out | exact hrb ▸ HD.out⟩
            · have n2 := HNC4.out rfl
              have hg := HG.out
              have hgt := set_heap (i := 5) hg (.int .i64 B)
              have fz : wc.frozen? ⟨tb, 5, none⟩ = false := frozen_at hg
              have hb9 := World.block_lt_of_cell? wc _ n2
              have htl := blk_lt hg
              have t5 : wc.cell? ⟨tb, 5, none⟩ = some (.int .i64 0) := cell_of_row _ _ 5 _ _ _ hg
              have hrb5 := HR4.out
              have hr5 : Rb w (wc.setCell ⟨tb, 5, none⟩ (.int .i64 B)) rb := ⟨hrb5.1, (Below.heap_setCell _ _ _ _ hrt).trans hrb5.2.1, hrb5.2.2.setCell (p := ⟨tb, 5, none⟩) hwt (.int .i64 B)⟩
              go_upto_region 22 with fail
              have HR5 := Lib.hid hr5
              generalize wc.setCell ⟨tb, 5, none⟩ (.int .i64 B) = wd at *
              have hg : wd.heap[tb]? = some (.cells #[.string T0, .int .i64 K, .bool U, .int .i64 O, .int .i64 A, .int .i64 B] 23 (0, 0)) := hgt
              clear hgt fz n2 hb9 htl t5 hrb5 hr5
              have HG9 := Lib.hid hg
              have y1 : wd.cell? ⟨tb, 1, none⟩ = some (.int .i64 K) := cell_of_row _ _ 1 _ _ _ hg
              have htl := blk_lt hg
              clear hg
              by_cases hK : K = 0
              · have cK : (K == 0) = true := by simpa using hK
                have HV := Lib.hid (show parseP ps = (noTox, 91) by rw [HPP.out, if_pos (Or.inl hK)])
                clear hK
                have hrb := HR5.out
                obtain ⟨x0, x1, x2, x3, x4, x5⟩ := box6 hrb.2.1 (Below.refl _ _)
                have f0 : wd.frozen? ⟨rb, 0, none⟩ = false := frozen_at hrb.2.1
                have f1 : wd.frozen? ⟨rb, 1, none⟩ = false := frozen_at hrb.2.1
                have f2 : wd.frozen? ⟨rb, 2, none⟩ = false := frozen_at hrb.2.1
                have f3 : wd.frozen? ⟨rb, 3, none⟩ = false := frozen_at hrb.2.1
                have f4 : wd.frozen? ⟨rb, 4, none⟩ = false := frozen_at hrb.2.1
                have f5 : wd.frozen? ⟨rb, 5, none⟩ = false := frozen_at hrb.2.1
                have hz := set6_heap hrb.2.1 (.string ⟨#[]⟩) (.int .i64 0) (.bool false) (.int .i64 0) (.int .i64 0) (.int .i64 0)
                have HD := Lib.hid (set6_below hrb.2.2 hrb.1 (.string ⟨#[]⟩) (.int .i64 0) (.bool false) (.int .i64 0) (.int .i64 0) (.int .i64 0))
                clear hrb
                go_wp2_with fail
                generalize hW : set6 wd rb (.string ⟨#[]⟩) (.int .i64 0) (.bool false) (.int .i64 0) (.int .i64 0) (.int .i64 0) = W at *
                unfold set6 at hW
                rw [hW]
                clear hW x0 x1 x2 x3 x4 x5 f0 f1 f2 f3 f4 f5
                have z0 : W.cell? ⟨rb, 0, none⟩ = some (.string ⟨#[]⟩) := cell_of_row W _ 0 _ _ _ hz
                have z1 : W.cell? ⟨rb, 1, none⟩ = some (.int .i64 0) := cell_of_row W _ 1 _ _ _ hz
                have z2 : W.cell? ⟨rb, 2, none⟩ = some (.bool false) := cell_of_row W _ 2 _ _ _ hz
                have z3 : W.cell? ⟨rb, 3, none⟩ = some (.int .i64 0) := cell_of_row W _ 3 _ _ _ hz
                have z4 : W.cell? ⟨rb, 4, none⟩ = some (.int .i64 0) := cell_of_row W _ 4 _ _ _ hz
                have z5 : W.cell? ⟨rb, 5, none⟩ = some (.int .i64 0) := cell_of_row W _ 5 _ _ _ hz
                exact bodyPost_ret (v := .tuple #[.agg #[.string ⟨#[]⟩, .int .i64 0, .bool false, .int .i64 0, .int .i64 0, .int .i64 0], .int .i64 91]) (by simp [results, Tryd.results18, go_sem, z0, z1, z2, z3, z4, z5]) rfl ⟨by rw [HV.out]; rfl, by first | exact HD.out | exact hrb ▸ HD.out⟩
              · have cK : (K == 0) = false := by simpa using hK
                have hw1 : IntKind.i64.wrap (1 + N) = 1 + N := IntWalk.i64_in _ (by omega)
                by_cases hNJ : (3 : Int) = 1 + N
                · have cN : ((3 : Int) != 1 + N) = false := by simpa using hNJ
                  have HP2 := Lib.hid (HPP.out.trans (if_neg (fun h => by rcases h with h | h; exact hK h; exact h (by simpa using hNJ))))
                  clear hK hNJ
                  go_wp2_with fail
                  refine (HNU.out _).mono ?_
                  rintro e w' ⟨rfl, rfl⟩
                  have y0 : wd.cell? ⟨tb, 0, none⟩ = some (.string T0) := cell_of_row _ _ 0 _ _ _ HG9.out
                  have y2 : wd.cell? ⟨tb, 2, none⟩ = some (.bool U) := cell_of_row _ _ 2 _ _ _ HG9.out
                  have y3 : wd.cell? ⟨tb, 3, none⟩ = some (.int .i64 O) := cell_of_row _ _ 3 _ _ _ HG9.out
                  have y4 : wd.cell? ⟨tb, 4, none⟩ = some (.int .i64 A) := cell_of_row _ _ 4 _ _ _ HG9.out
                  have y5 : wd.cell? ⟨tb, 5, none⟩ = some (.int .i64 B) := cell_of_row _ _ 5 _ _ _ HG9.out
                  go_upto_region 24 with fail
                  go_wp2_with fail
                  refine (HCK.out _).mono ?_
                  rintro e w7 ⟨rfl, hb⟩
                  have HR7 := Lib.hid (HR5.out.on hb)
                  have HG7 := Lib.hid ((hb.block _ (blk_lt HG9.out)).trans HG9.out)
                  clear hb y0 y1 y2 y3 y4 y5 htl
                  by_cases hC : C = 0
                  · have cC : (C != 0) = false := by simpa using hC
                    have HV := Lib.hid (HP2.out.trans (if_pos hC))
                    clear hC
                    have hrb := HR7.out
                    obtain ⟨x0, x1, x2, x3, x4, x5⟩ := box6 hrb.2.1 (Below.refl _ _)
                    obtain ⟨y0, y1, y2, y3, y4, y5⟩ := box6 HG7.out (Below.refl _ _)
                    have f0 : w7.frozen? ⟨rb, 0, none⟩ = false := frozen_at hrb.2.1
                    have f1 : w7.frozen? ⟨rb, 1, none⟩ = false := frozen_at hrb.2.1
                    have f2 : w7.frozen? ⟨rb, 2, none⟩ = false := frozen_at hrb.2.1
                    have f3 : w7.frozen? ⟨rb, 3, none⟩ = false := frozen_at hrb.2.1
                    have f4 : w7.frozen? ⟨rb, 4, none⟩ = false := frozen_at hrb.2.1
                    have f5 : w7.frozen? ⟨rb, 5, none⟩ = false := frozen_at hrb.2.1
                    have hz := set6_heap hrb.2.1 (.string T0) (.int .i64 K) (.bool U) (.int .i64 O) (.int .i64 A) (.int .i64 B)
                    have HD := Lib.hid (set6_below hrb.2.2 hrb.1 (.string T0) (.int .i64 K) (.bool U) (.int .i64 O) (.int .i64 A) (.int .i64 B))
                    clear hrb
                    go_wp2_with fail
                    generalize hW : set6 w7 rb (.string T0) (.int .i64 K) (.bool U) (.int .i64 O) (.int .i64 A) (.int .i64 B) = W at *
                    unfold set6 at hW
                    rw [hW]
                    clear hW x0 x1 x2 x3 x4 x5 f0 f1 f2 f3 f4 f5
                    have z0 : W.cell? ⟨rb, 0, none⟩ = some (.string T0) := cell_of_row W _ 0 _ _ _ hz
                    have z1 : W.cell? ⟨rb, 1, none⟩ = some (.int .i64 K) := cell_of_row W _ 1 _ _ _ hz
                    have z2 : W.cell? ⟨rb, 2, none⟩ = some (.bool U) := cell_of_row W _ 2 _ _ _ hz
                    have z3 : W.cell? ⟨rb, 3, none⟩ = some (.int .i64 O) := cell_of_row W _ 3 _ _ _ hz
                    have z4 : W.cell? ⟨rb, 4, none⟩ = some (.int .i64 A) := cell_of_row W _ 4 _ _ _ hz
                    have z5 : W.cell? ⟨rb, 5, none⟩ = some (.int .i64 B) := cell_of_row W _ 5 _ _ _ hz
                    exact bodyPost_ret (v := .tuple #[.agg #[.string T0, .int .i64 K, .bool U, .int .i64 O, .int .i64 A, .int .i64 B], .int .i64 0]) (by simp [results, Tryd.results18, go_sem, z0, z1, z2, z3, z4, z5]) rfl ⟨by rw [HV.out]; rfl, by first | exact HD.out | exact hrb ▸ HD.out⟩
                  · have cC : (C != 0) = true := by simpa using hC
                    have HV := Lib.hid (HP2.out.trans (if_neg hC))
                    clear hC
                    have hrb := HR7.out
                    obtain ⟨x0, x1, x2, x3, x4, x5⟩ := box6 hrb.2.1 (Below.refl _ _)
                    have f0 : w7.frozen? ⟨rb, 0, none⟩ = false := frozen_at hrb.2.1
                    have f1 : w7.frozen? ⟨rb, 1, none⟩ = false := frozen_at hrb.2.1
                    have f2 : w7.frozen? ⟨rb, 2, none⟩ = false := frozen_at hrb.2.1
                    have f3 : w7.frozen? ⟨rb, 3, none⟩ = false := frozen_at hrb.2.1
                    have f4 : w7.frozen? ⟨rb, 4, none⟩ = false := frozen_at hrb.2.1
                    have f5 : w7.frozen? ⟨rb, 5, none⟩ = false := frozen_at hrb.2.1
                    have hz := set6_heap hrb.2.1 (.string ⟨#[]⟩) (.int .i64 0) (.bool false) (.int .i64 0) (.int .i64 0) (.int .i64 0)
                    have HD := Lib.hid (set6_below hrb.2.2 hrb.1 (.string ⟨#[]⟩) (.int .i64 0) (.bool false) (.int .i64 0) (.int .i64 0) (.int .i64 0))
                    clear hrb
                    go_wp2_with fail
                    generalize hW : set6 w7 rb (.string ⟨#[]⟩) (.int .i64 0) (.bool false) (.int .i64 0) (.int .i64 0) (.int .i64 0) = W at *
                    unfold set6 at hW
                    rw [hW]
                    clear hW x0 x1 x2 x3 x4 x5 f0 f1 f2 f3 f4 f5
                    have z0 : W.cell? ⟨rb, 0, none⟩ = some (.string ⟨#[]⟩) := cell_of_row W _ 0 _ _ _ hz
                    have z1 : W.cell? ⟨rb, 1, none⟩ = some (.int .i64 0) := cell_of_row W _ 1 _ _ _ hz
                    have z2 : W.cell? ⟨rb, 2, none⟩ = some (.bool false) := cell_of_row W _ 2 _ _ _ hz
                    have z3 : W.cell? ⟨rb, 3, none⟩ = some (.int .i64 0) := cell_of_row W _ 3 _ _ _ hz
                    have z4 : W.cell? ⟨rb, 4, none⟩ = some (.int .i64 0) := cell_of_row W _ 4 _ _ _ hz
                    have z5 : W.cell? ⟨rb, 5, none⟩ = some (.int .i64 0) := cell_of_row W _ 5 _ _ _ hz
                    exact bodyPost_ret (v := .tuple #[.agg #[.string ⟨#[]⟩, .int .i64 0, .bool false, .int .i64 0, .int .i64 0, .int .i64 0], .int .i64 C]) (by simp [results, Tryd.results18, go_sem, z0, z1, z2, z3, z4, z5]) rfl ⟨by rw [HV.out]; rfl, by first | exact HD.out | exact hrb ▸ HD.out⟩
                · have cN : ((3 : Int) != 1 + N) = true := by simpa using hNJ
                  have HV := Lib.hid (show parseP ps = (noTox, 91) by rw [HPP.out, if_pos (Or.inr (by simpa using hNJ))])
                  clear hK hNJ
                  go_wp2_with fail
                  refine (HNU.out _).mono ?_
                  rintro e w' ⟨rfl, rfl⟩
                  have hrb := HR5.out
                  obtain ⟨x0, x1, x2, x3, x4, x5⟩ := box6 hrb.2.1 (Below.refl _ _)
                  have f0 : wd.frozen? ⟨rb, 0, none⟩ = false := frozen_at hrb.2.1
                  have f1 : wd.frozen? ⟨rb, 1, none⟩ = false := frozen_at hrb.2.1
                  have f2 : wd.frozen? ⟨rb, 2, none⟩ = false := frozen_at hrb.2.1
                  have f3 : wd.frozen? ⟨rb, 3, none⟩ = false := frozen_at hrb.2.1
                  have f4 : wd.frozen? ⟨rb, 4, none⟩ = false := frozen_at hrb.2.1
                  have f5 : wd.frozen? ⟨rb, 5, none⟩ = false := frozen_at hrb.2.1
                  have hz := set6_heap hrb.2.1 (.string ⟨#[]⟩) (.int .i64 0) (.bool false) (.int .i64 0) (.int .i64 0) (.int .i64 0)
                  have HD := Lib.hid (set6_below hrb.2.2 hrb.1 (.string ⟨#[]⟩) (.int .i64 0) (.bool false) (.int .i64 0) (.int .i64 0) (.int .i64 0))
                  clear hrb
                  go_wp2_with fail
                  generalize hW : set6 wd rb (.string ⟨#[]⟩) (.int .i64 0) (.bool false) (.int .i64 0) (.int .i64 0) (.int .i64 0) = W at *
                  unfold set6 at hW
                  rw [hW]
                  clear hW x0 x1 x2 x3 x4 x5 f0 f1 f2 f3 f4 f5
                  have z0 : W.cell? ⟨rb, 0, none⟩ = some (.string ⟨#[]⟩) := cell_of_row W _ 0 _ _ _ hz
                  have z1 : W.cell? ⟨rb, 1, none⟩ = some (.int .i64 0) := cell_of_row W _ 1 _ _ _ hz
                  have z2 : W.cell? ⟨rb, 2, none⟩ = some (.bool false) := cell_of_row W _ 2 _ _ _ hz
                  have z3 : W.cell? ⟨rb, 3, none⟩ = some (.int .i64 0) := cell_of_row W _ 3 _ _ _ hz
                  have z4 : W.cell? ⟨rb, 4, none⟩ = some (.int .i64 0) := cell_of_row W _ 4 _ _ _ hz
                  have z5 : W.cell? ⟨rb, 5, none⟩ = some (.int .i64 0) := cell_of_row W _ 5 _ _ _ hz
                  exact bodyPost_ret (v := .tuple #[.agg #[.string ⟨#[]⟩, .int .i64 0, .bool false, .int .i64 0, .int .i64 0, .int .i64 0], .int .i64 91]) (by simp [results, Tryd.results18, go_sem, z0, z1, z2, z3, z4, z5]) rfl ⟨by rw [HV.out]; rfl, by first | exact HD.out | exact hrb ▸ HD.out⟩
        · have HV := Lib.hid (prs_form (ps := ps) (Or.inr (Or.inr ⟨fun e => hT (Or.inl (by rw [← hT2, e])), fun e => hT (Or.inr (by rw [← hT2, e]))⟩)))
          have hu1 : (T2.toList == [117, 112]) = false := by rw [up_beq, decide_eq_false_iff_not]; exact fun e => hT (Or.inl e)
          have hu2 : (T2.toList == [100, 111, 119, 110]) = false := by
            rw [beq_eq_false_iff_ne, Lib.toList_data]
            intro e
            exact hT (Or.inr (ByteArray.ext (Array.ext' e)))
          have H56 := Lib.hid h56
          clear hT hall hT2 h56
          go_upto_region 7 with fail
          go_cut [33] from 26 to 33 (fun c wc => c = .bool false ∧ wc = wr)
          case first =>
            rcases H56.out with e | e
            · have b5 : ((k : Int) != 5) = false := by simp; omega
              clear e
              go_wp2_with fail
              go_meet
              exact ⟨rfl, rfl⟩
            · have b5 : ((k : Int) != 5) = true := by simp; omega
              have b6 : ((k : Int) != 6) = false := by simp; omega
              clear e
              go_wp2_with fail
              go_meet
              exact ⟨rfl, rfl⟩
          case rest =>
          obtain ⟨rfl, rfl⟩ := hcut
          have hrb := HR2.out
          obtain ⟨x0, x1, x2, x3, x4, x5⟩ := box6 hrb.2.1 (Below.refl _ _)
          have f0 : wc.frozen? ⟨rb, 0, none⟩ = false := frozen_at hrb.2.1
          have f1 : wc.frozen? ⟨rb, 1, none⟩ = false := frozen_at hrb.2.1
          have f2 : wc.frozen? ⟨rb, 2, none⟩ = false := frozen_at hrb.2.1
          have f3 : wc.frozen? ⟨rb, 3, none⟩ = false := frozen_at hrb.2.1
          have f4 : wc.frozen? ⟨rb, 4, none⟩ = false := frozen_at hrb.2.1
          have f5 : wc.frozen? ⟨rb, 5, none⟩ = false := frozen_at hrb.2.1
          have hz := set6_heap hrb.2.1 (.string ⟨#[]⟩) (.int .i64 0) (.bool false) (.int .i64 0) (.int .i64 0) (.int .i64 0)
          have HD := Lib.hid (set6_below hrb.2.2 hrb.1 (.string ⟨#[]⟩) (.int .i64 0) (.bool false) (.int .i64 0) (.int .i64 0) (.int .i64 0))
          clear hrb
          go_wp2_with fail
          generalize hW : set6 wc rb (.string ⟨#[]⟩) (.int .i64 0) (.bool false) (.int .i64 0) (.int .i64 0) (.int .i64 0) = W at *
          unfold set6 at hW
          rw [hW]
          clear hW x0 x1 x2 x3 x4 x5 f0 f1 f2 f3 f4 f5
          have z0 : W.cell? ⟨rb, 0, none⟩ = some (.string ⟨#[]⟩) := cell_of_row W _ 0 _ _ _ hz
          have z1 : W.cell? ⟨rb, 1, none⟩ = some (.int .i64 0) := cell_of_row W _ 1 _ _ _ hz
          have z2 : W.cell? ⟨rb, 2, none⟩ = some (.bool false) := cell_of_row W _ 2 _ _ _ hz
          have z3 : W.cell? ⟨rb, 3, none⟩ = some (.int .i64 0) := cell_of_row W _ 3 _ _ _ hz
          have z4 : W.cell? ⟨rb, 4, none⟩ = some (.int .i64 0) := cell_of_row W _ 4 _ _ _ hz
          have z5 : W.cell? ⟨rb, 5, none⟩ = some (.int .i64 0) := cell_of_row W _ 5 _ _ _ hz
          exact bodyPost_ret (v := .tuple #[.agg #[.string ⟨#[]⟩, .int .i64 0, .bool false, .int .i64 0, .int .i64 0, .int .i64 0], .int .i64 90]) (by simp [results, Tryd.results18, go_sem, z0, z1, z2, z3, z4, z5]) rfl ⟨by rw [HV.out]; rfl, by first | exact HD.out | exact hrb ▸ HD.out⟩
      · have HV := Lib.hid (prs_form (ps := ps) (Or.inr (Or.inl (by have := HML.out; omega))))
        have b5 : ((k : Int) != 5) = true := by simp; omega
        have b6 : ((k : Int) != 6) = true := by simp; omega
        clear h56
        have hrb := HR2.out
        obtain ⟨x0, x1, x2, x3, x4, x5⟩ := box6 hrb.2.1 (Below.refl _ _)
        have f0 : wr.frozen? ⟨rb, 0, none⟩ = false := frozen_at hrb.2.1
        have f1 : wr.frozen? ⟨rb, 1, none⟩ = false := frozen_at hrb.2.1
        have f2 : wr.frozen? ⟨rb, 2, none⟩ = false := frozen_at hrb.2.1
        have f3 : wr.frozen? ⟨rb, 3, none⟩ = false := frozen_at hrb.2.1
        have f4 : wr.frozen? ⟨rb, 4, none⟩ = false := frozen_at hrb.2.1
        have f5 : wr.frozen? ⟨rb, 5, none⟩ = false := frozen_at hrb.2.1
        have hz := set6_heap hrb.2.1 (.string ⟨#[]⟩) (.int .i64 0) (.bool false) (.int .i64 0) (.int .i64 0) (.int .i64 0)
        have HD := Lib.hid (set6_below hrb.2.2 hrb.1 (.string ⟨#[]⟩) (.int .i64 0) (.bool false) (.int .i64 0) (.int .i64 0) (.int .i64 0))
        clear hrb
        go_wp2_with fail
        generalize hW : set6 wr rb (.string ⟨#[]⟩) (.int .i64 0) (.bool false) (.int .i64 0) (.int .i64 0) (.int .i64 0) = W at *
        unfold set6 at hW
        rw [hW]
        clear hW x0 x1 x2 x3 x4 x5 f0 f1 f2 f3 f4 f5
        have z0 : W.cell? ⟨rb, 0, none⟩ = some (.string ⟨#[]⟩) := cell_of_row W _ 0 _ _ _ hz
        have z1 : W.cell? ⟨rb, 1, none⟩ = some (.int .i64 0) := cell_of_row W _ 1 _ _ _ hz
        have z2 : W.cell? ⟨rb, 2, none⟩ = some (.bool false) := cell_of_row W _ 2 _ _ _ hz
        have z3 : W.cell? ⟨rb, 3, none⟩ = some (.int .i64 0) := cell_of_row W _ 3 _ _ _ hz
        have z4 : W.cell? ⟨rb, 4, none⟩ = some (.int .i64 0) := cell_of_row W _ 4 _ _ _ hz
        have z5 : W.cell? ⟨rb, 5, none⟩ = some (.int .i64 0) := cell_of_row W _ 5 _ _ _ hz
        exact bodyPost_ret (v := .tuple #[.agg #[.string ⟨#[]⟩, .int .i64 0, .bool false, .int .i64 0, .int .i64 0, .int .i64 0], .int .i64 90]) (by simp [results, Tryd.results18, go_sem, z0, z1, z2, z3, z4, z5]) rfl ⟨by rw [HV.out]; rfl, by first | exact HD.out | exact hrb ▸ HD.out⟩
end Go.Proofs.YthlpdhhifjjofaaDoor
