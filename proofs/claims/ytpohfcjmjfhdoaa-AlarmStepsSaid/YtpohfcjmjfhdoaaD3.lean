/-
  Contract: what the document's own put answers. Conditions: as each states.
-/
import Derived.Test.YtpohfcjmjfhdoaaD2
namespace Go.Proofs.Ytpohfcjmjfhdoaa
open Go.RowKit

/-- Is d ahead of e? -/
def aheadB (d e : Due) : Bool := decide (d.1 < e.1 ∨ d.1 = e.1 ∧ d.2 < e.2)
/-- A row with one more: ahead of the first one that it is ahead of. -/
def putD (ds : List Due) (d : Due) : List Due := ds.takeWhile (fun e => !aheadB d e) ++ d :: ds.dropWhile (fun e => !aheadB d e)
theorem put_length (ds : List Due) (d : Due) : (putD ds d).length = ds.length + 1 := by
  have h := congrArg List.length (List.takeWhile_append_dropWhile (p := fun e => !aheadB d e) (l := ds))
  rw [List.length_append] at h
  simp only [putD, List.length_append, List.length_cons]
  omega
theorem put_at {ds : List Due} {d : Due} {k : Nat} (hk : k < ds.length) (h : ∀ j, j < k → aheadB d (ds.getD j (0, 0)) = false) (ha : aheadB d (ds.getD k (0, 0)) = true) : putD ds d = ds.take k ++ d :: ds.drop k := by
  induction ds generalizing k with
  | nil => cases hk
  | cons e r ih =>
    cases k with
    | zero =>
      have he : aheadB d e = true := ha
      simp [putD, he]
    | succ k =>
      have he : aheadB d e = false := h 0 (by omega)
      have h' := ih (k := k) (by simpa using hk) (fun j hj => h (j + 1) (by omega)) ha
      simp only [putD, List.takeWhile_cons, List.dropWhile_cons, he, Bool.not_false, if_true, List.cons_append, List.take_succ_cons, List.drop_succ_cons] at h' ⊢
      rw [h']
theorem put_end {ds : List Due} {d : Due} (h : ∀ j, j < ds.length → aheadB d (ds.getD j (0, 0)) = false) : putD ds d = ds ++ [d] := by
  induction ds with
  | nil => rfl
  | cons e r ih =>
    have he : aheadB d e = false := h 0 (by simp)
    have h' := ih (fun j hj => h (j + 1) (by simpa using hj))
    simp only [putD, List.takeWhile_cons, List.dropWhile_cons, he, Bool.not_false, if_true, List.cons_append] at h' ⊢
    rw [h']
/-- How far put has come: z is what it has made of the first k. -/
def Half (ds : List Due) (d : Due) (k : Nat) (done : Bool) (zs : List Due) : Prop :=
  (done = false → zs = ds.take k ∧ ∀ j, j < k → aheadB d (ds.getD j (0, 0)) = false) ∧ (done = true → zs ++ ds.drop k = putD ds d ∧ zs.length = k + 1)
theorem half_start (ds : List Due) (d : Due) : Half ds d 0 false [] := ⟨fun _ => ⟨rfl, fun j hj => absurd hj (by omega)⟩, fun h => by cases h⟩
theorem take_next {ds : List Due} {k : Nat} {x : Due} (hk : k < ds.length) (hx : ds.getD k (0, 0) = x) : ds.take (k + 1) = ds.take k ++ [x] ∧ ds.drop k = x :: ds.drop (k + 1) := by
  rw [List.getD_eq_getElem?_getD, List.getElem?_eq_getElem hk] at hx
  simp only [Option.getD_some] at hx
  subst hx
  exact ⟨by rw [List.take_add_one, List.getElem?_eq_getElem hk]; rfl, List.drop_eq_getElem_cons hk⟩
theorem half_done {ds : List Due} {d x : Due} {k : Nat} {zs : List Due} (h : Half ds d k true zs) (hk : k < ds.length) (hx : ds.getD k (0, 0) = x) : Half ds d (k + 1) true (zs ++ [x]) := by
  refine ⟨fun h => by (cases h), fun _ => ?_⟩
  obtain ⟨h1, h2⟩ := h.2 rfl
  refine ⟨?_, by simp [h2]⟩
  rw [← h1, (take_next hk hx).2]
  simp
theorem half_here {ds : List Due} {d x : Due} {k : Nat} {zs : List Due} (h : Half ds d k false zs) (hk : k < ds.length) (hx : ds.getD k (0, 0) = x) (ha : aheadB d x = true) : Half ds d (k + 1) true (zs ++ [d] ++ [x]) := by
  refine ⟨fun h => by (cases h), fun _ => ?_⟩
  obtain ⟨h1, h2⟩ := h.1 rfl
  subst h1
  refine ⟨?_, by simp; omega⟩
  rw [put_at hk h2 (by rw [hx]; exact ha), (take_next hk hx).2]
  simp
theorem half_on {ds : List Due} {d x : Due} {k : Nat} {zs : List Due} (h : Half ds d k false zs) (hk : k < ds.length) (hx : ds.getD k (0, 0) = x) (ha : aheadB d x = false) : Half ds d (k + 1) false (zs ++ [x]) := by
  refine ⟨fun _ => ?_, fun h => by (cases h)⟩
  obtain ⟨h1, h2⟩ := h.1 rfl
  subst h1
  refine ⟨(take_next hk hx).1.symm, fun j hj => ?_⟩
  rcases Nat.lt_or_ge j k with h | h
  · exact h2 j h
  · obtain rfl : j = k := by omega
    rw [hx]
    exact ha
theorem half_end {ds : List Due} {d : Due} {zs : List Due} {done : Bool} (h : Half ds d ds.length done zs) : putD ds d = if done then zs else zs ++ [d] := by
  cases done with
  | true => 
    obtain ⟨h1, _⟩ := h.2 rfl
    rw [← h1]
    simp
  | false =>
    obtain ⟨h1, h2⟩ := h.1 rfl
    rw [put_end h2, h1]
    simp

set_option maxRecDepth 100000 in
set_option maxHeartbeats 8000000 in
theorem put_any (p : Option Addr) (n c : Nat) (ds : List Due) (a i : Int) (w : World) (hx : ds.length = n) (hbig : n ≤ 100000) (hnc : n ≤ c) (hc : c ≤ 9223372036854775807) (hi : DuesIn w p n ds) :
    Calls Try.prog 28 #[.slice p n c, .agg #[.int .i64 a, .int .i64 i]] w (OutD 46 (putD ds (a, i)) w) := by
  have HX := Lib.hid hx
  have HI := Lib.hid hi
  clear hx hi
  go_enter Try.func28, Try.ntmps28
  go_wp2_with fail
  have HG := Lib.hid (heap_alloc_new w (.cells #[.int .i64 a, .int .i64 i] 46))
  have HB0 := Lib.hid (show Below w.heap.size w (w.alloc (.cells #[.int .i64 a, .int .i64 i] 46)) from (Below.refl _ _).alloc (Nat.le_refl _) _)
  generalize w.alloc (.cells #[.int .i64 a, .int .i64 i] 46) = w1 at *
  generalize w.heap.size = g at HG ⊢
  go_loopw [5, 6, 7] (fun u b i' wr => ∃ (k : Nat) (done : Bool) (zs : List Due) (q : Option Addr) (d : Nat), k ≤ n ∧ i' = .int .i64 k ∧ b = .bool done ∧ u = .slice q zs.length d ∧ Hid (Half ds (a, i) k done zs) ∧ Hid (wr.ownsRow w1.heap.size 46 2 (.slice q zs.length d) zs.length (flat zs)) ∧ Hid (Below w1.heap.size w1 wr)) (fun _ _ i' _ => n - (intOf i').toNat)
  case atStart => exact ⟨0, false, [], none, 0, by omega, rfl, rfl, rfl, Lib.hid (half_start _ _), Lib.hid (World.ownsRow_nil _ _ _ _), Lib.hid (Below.refl _ _)⟩
  case round =>
    obtain ⟨k, done, zs, q, d, hk, rfl, rfl, rfl, HH, HO, HB⟩ := hrel
    have HGr := Lib.hid ((HB.out.block g (blk_lt HG.out)).trans HG.out)
    have gd0 : wr.cell? ⟨g, 0, none⟩ = some (.int .i64 a) := cell_of_row _ g 0 _ _ _ HGr.out
    have gd1 : wr.cell? ⟨g, 1, none⟩ = some (.int .i64 i) := cell_of_row _ g 1 _ _ _ HGr.out
    have hlen : zs.length ≤ n + 1 := by
      cases done with
      | true => have := (HH.out.2 rfl).2; omega
      | false => have := (HH.out.1 rfl).1; rw [this, List.length_take]; omega
    by_cases hlt : k < n
    · obtain ⟨b, o, rfl, hcell⟩ := dues_on HI.out (seqB HB0.out HB.out) (by omega)
      obtain ⟨g0, g1⟩ := hcell k hlt
      obtain ⟨x, hx⟩ : ∃ x, ds.getD k (0, 0) = x := ⟨_, rfl⟩
      rw [hx] at g0 g1
      have HXK := Lib.hid hx
      obtain ⟨x0, x1⟩ := x
      simp only at g0 g1
      rw [← Nat.add_assoc] at g1
      have hbl : b < wr.heap.size := World.block_lt_of_cell? wr _ g0
      have hkd : Hid (k < ds.length) := by rw [HX.out]; exact hlt
      have hgl : g < wr.heap.size := blk_lt HGr.out
      have HCF := Lib.hid (show ∀ w2 : World, Below w1.heap.size w1 w2 → w2.cell? ⟨b, o + k * 2, none⟩ = some (.int .i64 x0) ∧ w2.cell? ⟨b, o + k * 2 + 1, none⟩ = some (.int .i64 x1) from fun w2 hb2 => by
        obtain ⟨b', o', e, hc2⟩ := dues_on HI.out (seqB HB0.out hb2) (by omega)
        cases e
        have h := hc2 k hlt
        rw [HXK.out, ← Nat.add_assoc] at h
        exact h)
      have HCE := Lib.hid (show ∀ w2 : World, Below wr.heap.size wr w2 → w2.cell? ⟨b, o + k * 2, none⟩ = some (.int .i64 x0) ∧ w2.cell? ⟨b, o + k * 2 + 1, none⟩ = some (.int .i64 x1) ∧ w2.cell? ⟨g, 0, none⟩ = some (.int .i64 a) ∧ w2.cell? ⟨g, 1, none⟩ = some (.int .i64 i) ∧ b < w2.heap.size ∧ g < w2.heap.size from fun w2 hb2 => by
        have hs := hb2.size
        exact ⟨(hb2.cell hbl).trans g0, (hb2.cell hbl).trans g1, (hb2.cell hgl).trans gd0, (hb2.cell hgl).trans gd1, by omega, by omega⟩)
      clear hcell hx
      cases done with
      | true =>
        go_wp2_with fail
        go_quiet (fail)
        rename_i nq
        have HO2 := Lib.hid (own_on HO.out (below_drewN wr nq))
        have HB2 := Lib.hid (seqB HB.out (below_drewN wr nq))
        have HL2 := Lib.hid (HCE.out _ (below_drewN wr nq))
        generalize wr.drewN nq = w2 at *
        clear HO HB g0 g1 gd0 gd1 hbl hgl
        obtain ⟨g0, g1, gd0, gd1, hbl, hgl⟩ := HL2.out
        obtain ⟨q', d', w', hrun, ho', hb'⟩ := app_due (w := w2) HO2.out HB2.out.size HB2.out (by omega) x0 x1
        have HR := Lib.hid hrun
        have HO' := Lib.hid ho'
        have HB' := Lib.hid hb'
        clear hrun ho' hb'
        go_wp2_with (at_builtin; refine Lib.wpList_append_run _ rfl _ _ _ _ rfl _ _ rfl rfl _ _ (HR.out _) ?_)
        go_roundw
        case rel => exact ⟨k + 1, true, zs ++ [(x0, x1)], q', d', by omega, by go_num, rfl, by rw [List.length_append]; rfl, Lib.hid (half_done HH.out hkd.out HXK.out), by rw [List.length_append]; exact HO', HB'⟩
        case measure => simp [intOf]; omega
      | false =>
        by_cases e0 : a < x0
        · have HAH := Lib.hid (show aheadB (a, i) (x0, x1) = true by simp [aheadB]; omega)
          have c0 : decide (a < x0) = true := by simpa using e0
          go_wp2_with fail
          go_quiet (fail)
          rename_i nq
          have HO2 := Lib.hid (own_on HO.out (below_drewN wr nq))
          have HB2 := Lib.hid (seqB HB.out (below_drewN wr nq))
          have HL2 := Lib.hid (HCE.out _ (below_drewN wr nq))
          generalize wr.drewN nq = w2 at *
          clear HO HB g0 g1 gd0 gd1 hbl hgl
          obtain ⟨g0, g1, gd0, gd1, hbl, hgl⟩ := HL2.out
          obtain ⟨q', d', w', hrun, ho', hb'⟩ := app_due (w := w2) HO2.out HB2.out.size HB2.out (by omega) a i
          obtain ⟨q3, d3, w3, hrun3, ho3, hb3⟩ := app_due (w := w') ho' hb'.size hb' (by omega) x0 x1
          have HL3 := Lib.hid (HCF.out _ hb')
          have HR := Lib.hid hrun
          have HR3 := Lib.hid hrun3
          have HO3 := Lib.hid ho3
          have HB3 := Lib.hid hb3
          obtain ⟨f0, f1⟩ := HL3.out
          clear hrun ho' hb' hrun3 ho3 hb3
          go_wp2_with (at_builtin; first | (refine Lib.wpList_append_run _ rfl _ _ _ _ rfl (.slice q zs.length d) (.slice (some ⟨w2.heap.size, 0, none⟩) 1 1) rfl rfl _ _ (HR.out _) ?_) | (refine Lib.wpList_append_run _ rfl _ _ _ _ rfl (.slice q' (zs.length + 1) d') (.slice (some ⟨w'.heap.size, 0, none⟩) 1 1) rfl rfl _ _ (HR3.out _) ?_))
          go_roundw
          case rel => exact ⟨k + 1, true, zs ++ [(a, i)] ++ [(x0, x1)], q3, d3, by omega, by go_num, rfl, by simp, Lib.hid (half_here HH.out hkd.out HXK.out HAH.out), by rw [List.length_append, List.length_append]; exact HO3, HB3⟩
          case measure => simp [intOf]; omega
        have c0 : decide (a < x0) = false := by simpa using e0
        by_cases e1 : a = x0
        · subst e1
          by_cases e2 : i < x1
          · have HAH := Lib.hid (show aheadB (a, i) (a, x1) = true by simp [aheadB]; omega)
            have c2 : decide (i < x1) = true := by simpa using e2
            go_wp2_with fail
            go_quiet (fail)
            rename_i nq
            have HO2 := Lib.hid (own_on HO.out (below_drewN wr nq))
            have HB2 := Lib.hid (seqB HB.out (below_drewN wr nq))
            have HL2 := Lib.hid (HCE.out _ (below_drewN wr nq))
            generalize wr.drewN nq = w2 at *
            clear HO HB g0 g1 gd0 gd1 hbl hgl
            obtain ⟨g0, g1, gd0, gd1, hbl, hgl⟩ := HL2.out
            obtain ⟨q', d', w', hrun, ho', hb'⟩ := app_due (w := w2) HO2.out HB2.out.size HB2.out (by omega) a i
            obtain ⟨q3, d3, w3, hrun3, ho3, hb3⟩ := app_due (w := w') ho' hb'.size hb' (by omega) a x1
            have HL3 := Lib.hid (HCF.out _ hb')
            have HR := Lib.hid hrun
            have HR3 := Lib.hid hrun3
            have HO3 := Lib.hid ho3
            have HB3 := Lib.hid hb3
            obtain ⟨f0, f1⟩ := HL3.out
            clear hrun ho' hb' hrun3 ho3 hb3
            go_wp2_with (at_builtin; first | (refine Lib.wpList_append_run _ rfl _ _ _ _ rfl (.slice q zs.length d) (.slice (some ⟨w2.heap.size, 0, none⟩) 1 1) rfl rfl _ _ (HR.out _) ?_) | (refine Lib.wpList_append_run _ rfl _ _ _ _ rfl (.slice q' (zs.length + 1) d') (.slice (some ⟨w'.heap.size, 0, none⟩) 1 1) rfl rfl _ _ (HR3.out _) ?_))
            go_roundw
            case rel => exact ⟨k + 1, true, zs ++ [(a, i)] ++ [(a, x1)], q3, d3, by omega, by go_num, rfl, by simp, Lib.hid (half_here HH.out hkd.out HXK.out HAH.out), by rw [List.length_append, List.length_append]; exact HO3, HB3⟩
            case measure => simp [intOf]; omega
          · have HAH := Lib.hid (show aheadB (a, i) (a, x1) = false by simp [aheadB]; omega)
            have c2 : decide (i < x1) = false := by simpa using e2
            go_wp2_with fail
            go_quiet (fail)
            rename_i nq
            have HO2 := Lib.hid (own_on HO.out (below_drewN wr nq))
            have HB2 := Lib.hid (seqB HB.out (below_drewN wr nq))
            have HL2 := Lib.hid (HCE.out _ (below_drewN wr nq))
            generalize wr.drewN nq = w2 at *
            clear HO HB g0 g1 gd0 gd1 hbl hgl
            obtain ⟨g0, g1, gd0, gd1, hbl, hgl⟩ := HL2.out
            obtain ⟨q', d', w', hrun, ho', hb'⟩ := app_due (w := w2) HO2.out HB2.out.size HB2.out (by omega) a x1
            have HR := Lib.hid hrun
            have HO' := Lib.hid ho'
            have HB' := Lib.hid hb'
            clear hrun ho' hb'
            go_wp2_with (at_builtin; refine Lib.wpList_append_run _ rfl _ _ _ _ rfl _ _ rfl rfl _ _ (HR.out _) ?_)
            go_roundw
            case rel => exact ⟨k + 1, false, zs ++ [(a, x1)], q', d', by omega, by go_num, rfl, by rw [List.length_append]; rfl, Lib.hid (half_on HH.out hkd.out HXK.out HAH.out), by rw [List.length_append]; exact HO', HB'⟩
            case measure => simp [intOf]; omega
        · have HAH := Lib.hid (show aheadB (a, i) (x0, x1) = false by simp [aheadB]; omega)
          have c1 : (a == x0) = false := by simpa using e1
          go_wp2_with fail
          go_quiet (fail)
          rename_i nq
          have HO2 := Lib.hid (own_on HO.out (below_drewN wr nq))
          have HB2 := Lib.hid (seqB HB.out (below_drewN wr nq))
          have HL2 := Lib.hid (HCE.out _ (below_drewN wr nq))
          generalize wr.drewN nq = w2 at *
          clear HO HB g0 g1 gd0 gd1 hbl hgl
          obtain ⟨g0, g1, gd0, gd1, hbl, hgl⟩ := HL2.out
          obtain ⟨q', d', w', hrun, ho', hb'⟩ := app_due (w := w2) HO2.out HB2.out.size HB2.out (by omega) x0 x1
          have HR := Lib.hid hrun
          have HO' := Lib.hid ho'
          have HB' := Lib.hid hb'
          clear hrun ho' hb'
          go_wp2_with (at_builtin; refine Lib.wpList_append_run _ rfl _ _ _ _ rfl _ _ rfl rfl _ _ (HR.out _) ?_)
          go_roundw
          case rel => exact ⟨k + 1, false, zs ++ [(x0, x1)], q', d', by omega, by go_num, rfl, by rw [List.length_append]; rfl, Lib.hid (half_on HH.out hkd.out HXK.out HAH.out), by rw [List.length_append]; exact HO', HB'⟩
          case measure => simp [intOf]; omega
    · have hkn : k = n := by omega
      subst hkn
      have HE := Lib.hid (show putD ds (a, i) = if done then zs else zs ++ [(a, i)] from half_end (by rw [HX.out]; exact HH.out))
      cases done with
      | true =>
        go_wp2_with fail
        go_ret
        rw [HE.out]
        exact ⟨q, d, rfl, own_low HO.out HB0.out.size, seqB HB0.out HB.out⟩
      | false =>
        obtain ⟨q', d', w', hrun, ho', hb'⟩ := app_due (w := wr) HO.out HB.out.size HB.out (by omega) a i
        have HR := Lib.hid hrun
        have HO' := Lib.hid ho'
        have HB' := Lib.hid hb'
        clear hrun ho' hb'
        go_wp2_with (at_builtin; refine Lib.wpList_append_run _ rfl _ _ _ _ rfl _ _ rfl rfl _ _ (HR.out _) ?_)
        go_ret
        rw [HE.out]
        refine ⟨q', d', by simp, ?_, seqB HB0.out HB'.out⟩
        have h := own_low HO'.out HB0.out.size
        rw [show (if false = true then zs else zs ++ [(a, i)]) = zs ++ [(a, i)] from rfl, List.length_append]
        exact h
end Go.Proofs.Ytpohfcjmjfhdoaa
