/-
  Contract: what cargo's List hands back. Conditions: as each states.
-/
import Derived.Test.YtmblgpejgdlakaaW7
namespace Go.Proofs.Ytmblgpejgdlakaa
open Go.RowKit

theorem infoC : (Try.prog.info? 45).map (fun i => (i.zero, i.size, i.bytes)) = some (some (.agg #[.int .i64 0, .string ⟨#[]⟩]), 2, 24) := by kernel_rfl
/-- One piece more, of a row that was just made. -/
theorem app_pcc {w w0 : World} {base m : Nat} {v : Value} {zs : List Pc} (hown : w.ownsRow base 45 2 v m (flatP zs)) (hbase : base ≤ w.heap.size) (hb : Below base w0 w) (hbig : m + 1 ≤ 2000000) (x : Int) (s : ByteArray) :
    ∃ q d w', (∀ ty, (Builtin.append_ #[42, 42] ty #[v, .slice (some ⟨w.heap.size, 0, none⟩) 1 1]).run Try.prog (w.alloc (.cells #[.int .i64 x, .string s] 45)) = .ok (.slice q (m + 1) d) w') ∧ w'.ownsRow base 45 2 (.slice q (m + 1) d) (m + 1) (flatP (zs ++ [(x, s)])) ∧ Below base w0 w' ∧ (w.alloc (.cells #[.int .i64 x, .string s] 45)).grownBy w' v.ownBlock := by
  obtain ⟨i0, hi0, hz0, hz1, hz2⟩ := info_parts infoC
  have ho := hown.alloc (.cells #[.int .i64 x, .string s] 45)
  have hnew := heap_alloc_new w (.cells #[.int .i64 x, .string s] 45)
  obtain ⟨v', w', h1, h2, h3, _⟩ := run_append_own _ base 42 42 45 i0 (.agg #[.int .i64 0, .string ⟨#[]⟩]) 2 24 Try.underlying42 hi0 hz0 hz1 hz2 rfl (by decide) v m _ ho ⟨w.heap.size, 0, none⟩ 1 1 (flatP [(x, s)]) rfl (by
    intro j u hj
    have hj1 : j < 2 := by have := (List.getElem?_eq_some_iff.mp hj).1; simpa [flatP] using this
    rw [WideShapes.add_plain]
    rcases (show j = 0 ∨ j = 1 by omega) with rfl | rfl
    · rw [← hj]; exact cell_of_row _ _ 0 _ _ _ hnew
    · rw [← hj]; exact cell_of_row _ _ 1 _ _ _ hnew) (flatP_one _) (by unfold maxLen; omega) (by omega) (by simp; omega)
  rw [← flatP_append] at h2
  obtain ⟨q, d, rfl, _⟩ := own_pcs h2
  exact ⟨q, d, w', fun ty => by rw [← h1]; rfl, h2, (hb.alloc hbase _).grown h3 (by simp; omega) (fun j hj => (hown.lt j hj).1), h3⟩
/-- The list that is being made: in its box, k pieces; nothing below the box has turned. -/
structure Lst2 (w w' : World) (bx : Nat) (q : Option Addr) (k d : Nat) (ps : List Pc) : Prop where
  box : w'.heap[bx]? = some (.cells #[.slice q k d] 42 (0, 0))
  own : w'.ownsRow bx 45 2 (.slice q k d) k (flatP ps)
  below : Below bx w w'
theorem Lst2.on {w w1 w2 : World} {bx : Nat} {q : Option Addr} {k d : Nat} {ps : List Pc} (h : Lst2 w w1 bx q k d ps) (hb : Below w1.heap.size w1 w2) : Lst2 w w2 bx q k d ps :=
  ⟨(hb.block _ (blk_lt h.box)).trans h.box, own_on h.own hb, h.below.trans (hb.mono (Nat.le_of_lt (blk_lt h.box)))⟩
theorem own_notbox {w : World} {base T n : Nat} {q : Option Addr} {d bx : Nat} {zs : List Value} {cs : Array Value} {T' : TypeId} {fr : Nat × Nat} (ho : w.ownsRow base T 2 (.slice q n d) n zs) (hg : w.heap[bx]? = some (.cells cs T' fr)) (hT : T' ≠ T) : (Value.slice q n d).ownBlock ≠ some bx := by
  rcases ho.2 with ⟨e, _⟩ | ⟨b, cap, cur, e, _, hh, _⟩
  · cases e; simp [Value.ownBlock]
  · cases e
    intro he
    have : b = bx := by simpa [Value.ownBlock] using he
    subst this
    exact hT (two_types hg hh)
/-- The closure that List hands to each: one piece more. -/
def Told2 (w0 : World) (bx k : Nat) (ps : List Pc) (e : Ending) (w' : World) : Prop := e = .returned (.tuple #[]) ∧ ∃ q d, Lst2 w0 w' bx q k d ps
set_option maxHeartbeats 2000000 in
theorem told_any (w0 w : World) (bx : Nat) (q : Option Addr) (k d : Nat) (ps : List Pc) (h : Lst2 w0 w bx q k d ps) (hk : k ≤ 1000000) (x : Int) (p : Option Addr) (n c : Nat) (s : ByteArray) (hi : Lib.BytesIn w p n (nums s)) (hs : s.size = n) :
    Calls Try.prog 33 #[.int .i64 x, .slice p n c, .pointer (some ⟨bx, 0, none⟩)] w (Told2 w0 bx (k + 1) (ps ++ [(x, s)])) := by
  obtain ⟨q', d', w', h1, h2, h3, h4⟩ := app_pcc h.own (Nat.le_of_lt (blk_lt h.box)) h.below (by omega) x s
  have hcv := conv_bytes hi (by rw [nums_length, hs]) c
  rw [str_nums] at hcv
  have k0 : w.cell? ⟨bx, 0, none⟩ = some (.slice q k d) := cell_of_row _ _ 0 _ _ _ h.box
  have hbx2 : w'.heap[bx]? = some (.cells #[.slice q k d] 42 (0, 0)) := by
    have hal : Below w.heap.size w (w.alloc (.cells #[.int .i64 x, .string s] 45)) := (Below.refl _ _).alloc (Nat.le_refl _) _
    exact (h4.block bx (Nat.lt_of_lt_of_le (blk_lt h.box) hal.size) (fun e => own_notbox h.own h.box (by decide) e.symm)).trans ((hal.block _ (blk_lt h.box)).trans h.box)
  have k1 : w'.cell? ⟨bx, 0, none⟩ = some (.slice q k d) := cell_of_row _ _ 0 _ _ _ hbx2
  have kf : w'.frozen? ⟨bx, 0, none⟩ = false := frozen_at hbx2
  have HE := Lib.hid (show Lst2 w0 (w'.setCell ⟨bx, 0, none⟩ (.slice q' (k + 1) d')) bx q' (k + 1) d' (ps ++ [(x, s)]) from
    ⟨by rw [set_heap hbx2]; rfl, ownsRow_setCell_other h2 (own_notbox h2 hbx2 (by decide)) _, h3.setCell (p := ⟨bx, 0, none⟩) (Nat.le_refl _) _⟩)
  have HR := Lib.hid h1
  have hbl := blk_lt h.box
  clear h h1 h2 h3 h4 hi hs hbx2
  go_enter Try.func33, Try.ntmps33
  go_wp2_with (at_builtin; refine Lib.wpList_append_run _ rfl _ _ _ _ rfl (.slice q k d) (.slice (some ⟨w.heap.size, 0, none⟩) 1 1) rfl rfl _ _ (HR.out _) ?_)
  go_end0
  exact ⟨rfl, q', d', HE.out⟩
end Go.Proofs.Ytmblgpejgdlakaa
