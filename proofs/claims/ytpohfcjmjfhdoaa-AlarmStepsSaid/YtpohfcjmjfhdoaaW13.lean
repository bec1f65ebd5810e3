/-
  Contracts: slices.Clone and slices.SortFunc at alarms; List. Conditions: as each states.
-/
import Derived.Test.YtpohfcjmjfhdoaaW12
namespace Go.Proofs.Ytpohfcjmjfhdoaa
open Go.RowKit Go.Sort Go.Maps

theorem equalIn_nil {P : Program} (w : World) (d : Nat) (t e : TypeId) (p : Option Addr) (n c : Nat) (h : P.underlying t = some (.slice e)) : (Op.equalIn (d + 1) t (.slice p n c) (.slice none 0 0)).run P w = .ok p.isNone w := by
  cases p <;> simp [Op.equalIn, run_underlying h]
theorem eql_any {P : Program} (w : World) (t e : TypeId) (p : Option Addr) (n c : Nat) (h : P.underlying t = some (.slice e)) : (binOp .eql t (.slice p n c) (.slice none 0 0)).run P w = .ok (.bool p.isNone) w := by
  simp only [binOp]
  simp [show Op.equal t (.slice p n c) (.slice none 0 0) = Op.equalIn (9999 + 1) t (.slice p n c) (.slice none 0 0) from rfl, equalIn_nil w 9999 t e p n c h]
theorem eql_nil (w : World) (p : Option Addr) (n c : Nat) : (binOp .eql 43 (.slice p n c) (.slice none 0 0)).run Try.prog w = .ok (.bool p.isNone) w := eql_any w _ _ p n c Try.underlying43
/-- A row of alarms of the call's own is handed back. -/
def OutA (ds : List Due) (w : World) (e : Ending) (w' : World) : Prop := ∃ q d, e = .returned (.slice q ds.length d) ∧ w'.ownsRow w.heap.size 38 2 (.slice q ds.length d) ds.length (flat ds) ∧ Below w.heap.size w w'
set_option maxHeartbeats 4000000 in
set_option maxRecDepth 10000 in
theorem clone_any (p : Option Addr) (c : Nat) (ds : List Due) (w : World) (hpc : p = none → c = 0 ∧ ds.length = 0) (hi : DuesIn w p ds.length ds) (hbig : ds.length ≤ 100000) :
    Calls Try.prog 30 #[.slice p ds.length c] w (OutA ds w) := by
  cases p with
  | none =>
    obtain ⟨rfl, h0⟩ := hpc rfl
    obtain rfl : ds = [] := List.eq_nil_of_length_eq_zero h0
    have HO := Lib.hid (show OutA [] w (.returned (.slice none 0 0)) w from ⟨none, 0, rfl, World.ownsRow_nil _ _ _ _, Below.refl _ _⟩)
    rw [List.length_nil]
    have he := fun w => eql_nil w none 0 0
    simp only [Option.isNone_none] at he
    clear hi hbig hpc
    go_enter Try.func30, Try.ntmps30
    go_wp2_with fail
    go_ret
    exact HO.out
  | some a =>
    have hb1 : Below w.heap.size w (w.alloc (.cells #[] 38)) := (Below.refl _ _).alloc (Nat.le_refl _) _
    have ho : (w.alloc (.cells #[] 38)).ownsRow w.heap.size 38 2 (.slice (some ⟨w.heap.size, 0, none⟩) 0 0) 0 (flat []) := World.ownsRow_lit w #[] 0 (Nat.le_refl _) (by unfold maxLen; omega) rfl
    obtain ⟨v', w2, r1, r2, r3, _⟩ := app_alarm (w := w.alloc (.cells #[] 38)) ho (by simp) (p := some a) (n := ds.length) (c := c) (ds := ds) rfl (fun h => by cases h) (dues_on hi hb1) (by omega) 43
    rw [Nat.zero_add, List.nil_append] at r2
    obtain ⟨q, d, rfl, _⟩ := own_dues r2
    have HO := Lib.hid (show OutA ds w (.returned (.slice q ds.length d)) w2 from ⟨q, d, rfl, r2, hb1.grown r3 (by simp) (fun j hj => by cases hj; exact Nat.le_refl _)⟩)
    have HR := Lib.hid r1
    generalize ds.length = n at HO HR ⊢
    have he := fun w => eql_nil w (some a) n c
    simp only [Option.isNone_some] at he
    clear hi hb1 ho r1 r2 r3 hpc hbig
    go_enter Try.func30, Try.ntmps30
    go_wp2_with (at_builtin; refine Lib.wpList_append_run _ rfl _ _ _ _ rfl _ _ rfl rfl _ _ HR.out ?_)
    go_ret
    exact HO.out
set_option maxHeartbeats 2000000 in
theorem sort_any {w : World} {base n : Nat} {q : Option Addr} {d : Nat} {ds : List Due} (ho : w.ownsRow base 38 2 (.slice q n d) n (flat ds)) (hbig : n ≤ 100000) :
    Calls Try.prog 31 #[.slice q n d, .func (.func 32) #[] #[]] w fun e w' => e = .returned (.tuple #[]) ∧ w'.ownsRow base 38 2 (.slice q n d) n (flat (sortL ds)) ∧ w.grownBy w' (Value.slice q n d).ownBlock := by
  have hln : ds.length = n := by have := ho.1; rw [flat_length] at this; omega
  rcases Nat.eq_zero_or_pos n with rfl | hn
  · obtain rfl : ds = [] := List.eq_nil_of_length_eq_zero hln
    have hcon := AnyF.slices_SortFunc_none Try.sortD q d (.func (.func 32) #[] #[]) w
    change Calls Try.prog 31 _ _ _ at hcon
    refine hcon.mono ?_
    rintro e w' ⟨rfl, rfl⟩
    exact ⟨rfl, by rw [show sortL [] = [] from List.eq_nil_of_length_eq_zero (sort_len [])]; exact ho, World.grownBy.refl _ _⟩
  · rcases ho.2 with ⟨e, h0⟩ | ⟨b, cap, cur, e, hb, hh, _⟩
    · omega
    · cases e
      have hcon := AnyQ.slices_SortFunc_total Try.sortD 2 Try.isAgg38 Try.sizeOf38 encD (fun _ => rfl) (fun x v hv => by simp [encD] at hv; rcases hv with rfl | rfl <;> rfl) cmpD swoD 32 #[] b 0 d ds.toArray w
        (enters_of Try.func32 (by kernel_rfl) rfl) (fun _ _ _ _ x y => compare_any x y _) (holds_own ho) (blk_lt hh) (by simp; omega) total_ahead
      rw [show ds.toArray.size = n by simpa using hln] at hcon
      change Calls Try.prog 31 _ _ _ at hcon
      refine hcon.mono ?_
      rintro e w' ⟨rfl, m, os, rfl⟩
      have h := own_sorted ho (h' := sortL ds) (sort_len ds) m os
      exact ⟨rfl, h.1, h.2⟩
set_option maxHeartbeats 4000000 in
set_option maxRecDepth 10000 in
theorem list_al {w : World} {base g : Nat} {u : Option Nat} {m : Nat} {L : List Due} {last : Int} (h : Al w base g u m L last) :
    Calls Try.prog 17 #[.pointer (some ⟨g, 0, none⟩)] w (OutA L w) := by
  obtain ⟨s, hM, hL⟩ := h.ex
  obtain ⟨v, h1, h2, _⟩ := hM.ex
  have hlen := hL.len
  have hcnt := len_int h.cnt h.top
  obtain ⟨p, c, rfl, _, hi, hpc, hnc, hc⟩ := own_dues h2
  have g0 := cell_of_row _ g 0 _ _ _ h1
  have HC := Lib.hid (clone_any p c s.h w (fun e => ⟨hpc e, by have := hpc e; omega⟩) hi (by omega))
  have HS := Lib.hid (sort_is hL)
  have HL := Lib.hid (And.intro hlen hcnt)
  obtain ⟨n, hn⟩ : ∃ n, s.h.length = n := ⟨_, rfl⟩
  have HN := Lib.hid hn
  rw [hn] at g0 HC
  clear h hM hL h1 h2 hi hpc hnc hc hlen hcnt hn
  go_enter Try.func17, Try.ntmps17
  go_wp2_with fail
  refine HC.out.mono ?_
  rintro e w1 ⟨q, d, rfl, ho, hb⟩
  have HO := Lib.hid ho
  have HB := Lib.hid hb
  rw [HN.out] at HO
  clear ho hb HC
  rw [HN.out]
  go_wp2_with fail
  refine (sort_any HO.out (by rw [← HN.out, HL.out.1]; exact HL.out.2)).mono ?_
  rintro e w2 ⟨rfl, ho2, hg2⟩
  have HX := Lib.hid (show OutA L w (.returned (.slice q n d)) w2 from by
    have hln : L.length = n := by rw [← HN.out]; exact HL.out.1.symm
    unfold OutA
    rw [hln]
    rw [HS.out] at ho2
    exact ⟨q, d, rfl, ho2, HB.out.grown hg2 HB.out.size (fun j hj => (HO.out.lt j hj).1)⟩)
  clear ho2 hg2 HO
  go_wp2_with fail
  go_ret
  exact HX.out
end Go.Proofs.Ytpohfcjmjfhdoaa
