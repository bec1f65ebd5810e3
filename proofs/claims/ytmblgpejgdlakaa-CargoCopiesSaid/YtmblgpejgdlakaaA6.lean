/-
  Contract: what the document's own Do answers, all of it. Conditions: as each states.
-/
import Derived.Test.YtmblgpejgdlakaaA5
namespace Go.Proofs.Ytmblgpejgdlakaa
open Go.RowKit

set_option maxRecDepth 100000 in
set_option maxHeartbeats 8000000 in
theorem do_drain (S s : ByteArray) (p : Option Addr) (n c : Nat) (A : List Int) (last a N : Int) (w : World) (hr : RowA w p n c A) :
    Calls Try.prog 13 #[.agg #[.string S, .slice p n c, .int .i64 last], .agg #[.int .i64 3, .int .i64 a, .int .i64 N, .string s]] w (Did ⟨#[]⟩ [] last 0 S w) := by
  have HR := Lib.hid hr
  have HB0 := Lib.hid (below3 w (.cells #[.string S, .slice p n c, .int .i64 last] 29) (.cells #[.int .i64 3, .int .i64 a, .int .i64 N, .string s] 31) (.cells #[.string ⟨#[]⟩, .slice none 0 0, .int .i64 0] 29))
  have h3 := three_blocks (Below.refl _ (((w.alloc (.cells #[.string S, .slice p n c, .int .i64 last] 29)).alloc (.cells #[.int .i64 3, .int .i64 a, .int .i64 N, .string s] 31)).alloc (.cells #[.string ⟨#[]⟩, .slice none 0 0, .int .i64 0] 29)))
  have x0 : (((w.alloc (.cells #[.string S, .slice p n c, .int .i64 last] 29)).alloc (.cells #[.int .i64 3, .int .i64 a, .int .i64 N, .string s] 31)).alloc (.cells #[.string ⟨#[]⟩, .slice none 0 0, .int .i64 0] 29)).cell? ⟨w.heap.size, 0, none⟩ = some (.string S) := cell_of_row _ _ 0 _ _ _ h3.1
  have x1 : (((w.alloc (.cells #[.string S, .slice p n c, .int .i64 last] 29)).alloc (.cells #[.int .i64 3, .int .i64 a, .int .i64 N, .string s] 31)).alloc (.cells #[.string ⟨#[]⟩, .slice none 0 0, .int .i64 0] 29)).cell? ⟨w.heap.size, 1, none⟩ = some (.slice p n c) := cell_of_row _ _ 1 _ _ _ h3.1
  have x2 : (((w.alloc (.cells #[.string S, .slice p n c, .int .i64 last] 29)).alloc (.cells #[.int .i64 3, .int .i64 a, .int .i64 N, .string s] 31)).alloc (.cells #[.string ⟨#[]⟩, .slice none 0 0, .int .i64 0] 29)).cell? ⟨w.heap.size, 2, none⟩ = some (.int .i64 last) := cell_of_row _ _ 2 _ _ _ h3.1
  have o0 : (((w.alloc (.cells #[.string S, .slice p n c, .int .i64 last] 29)).alloc (.cells #[.int .i64 3, .int .i64 a, .int .i64 N, .string s] 31)).alloc (.cells #[.string ⟨#[]⟩, .slice none 0 0, .int .i64 0] 29)).cell? ⟨w.heap.size + 1, 0, none⟩ = some (.int .i64 3) := cell_of_row _ _ 0 _ _ _ h3.2.1
  have o1 : (((w.alloc (.cells #[.string S, .slice p n c, .int .i64 last] 29)).alloc (.cells #[.int .i64 3, .int .i64 a, .int .i64 N, .string s] 31)).alloc (.cells #[.string ⟨#[]⟩, .slice none 0 0, .int .i64 0] 29)).cell? ⟨w.heap.size + 1, 1, none⟩ = some (.int .i64 a) := cell_of_row _ _ 1 _ _ _ h3.2.1
  have o2 : (((w.alloc (.cells #[.string S, .slice p n c, .int .i64 last] 29)).alloc (.cells #[.int .i64 3, .int .i64 a, .int .i64 N, .string s] 31)).alloc (.cells #[.string ⟨#[]⟩, .slice none 0 0, .int .i64 0] 29)).cell? ⟨w.heap.size + 1, 2, none⟩ = some (.int .i64 N) := cell_of_row _ _ 2 _ _ _ h3.2.1
  have o3 : (((w.alloc (.cells #[.string S, .slice p n c, .int .i64 last] 29)).alloc (.cells #[.int .i64 3, .int .i64 a, .int .i64 N, .string s] 31)).alloc (.cells #[.string ⟨#[]⟩, .slice none 0 0, .int .i64 0] 29)).cell? ⟨w.heap.size + 1, 3, none⟩ = some (.string s) := cell_of_row _ _ 3 _ _ _ h3.2.1
  have y0 : (((w.alloc (.cells #[.string S, .slice p n c, .int .i64 last] 29)).alloc (.cells #[.int .i64 3, .int .i64 a, .int .i64 N, .string s] 31)).alloc (.cells #[.string ⟨#[]⟩, .slice none 0 0, .int .i64 0] 29)).cell? ⟨w.heap.size + 1 + 1, 0, none⟩ = some (.string ⟨#[]⟩) := cell_of_row _ _ 0 _ _ _ h3.2.2.1
  have y1 : (((w.alloc (.cells #[.string S, .slice p n c, .int .i64 last] 29)).alloc (.cells #[.int .i64 3, .int .i64 a, .int .i64 N, .string s] 31)).alloc (.cells #[.string ⟨#[]⟩, .slice none 0 0, .int .i64 0] 29)).cell? ⟨w.heap.size + 1 + 1, 1, none⟩ = some (.slice none 0 0) := cell_of_row _ _ 1 _ _ _ h3.2.2.1
  have y2 : (((w.alloc (.cells #[.string S, .slice p n c, .int .i64 last] 29)).alloc (.cells #[.int .i64 3, .int .i64 a, .int .i64 N, .string s] 31)).alloc (.cells #[.string ⟨#[]⟩, .slice none 0 0, .int .i64 0] 29)).cell? ⟨w.heap.size + 1 + 1, 2, none⟩ = some (.int .i64 0) := cell_of_row _ _ 2 _ _ _ h3.2.2.1
  have f0 : (((w.alloc (.cells #[.string S, .slice p n c, .int .i64 last] 29)).alloc (.cells #[.int .i64 3, .int .i64 a, .int .i64 N, .string s] 31)).alloc (.cells #[.string ⟨#[]⟩, .slice none 0 0, .int .i64 0] 29)).frozen? ⟨w.heap.size + 1 + 1, 0, none⟩ = false := frozen_at h3.2.2.1
  have f1 : (((w.alloc (.cells #[.string S, .slice p n c, .int .i64 last] 29)).alloc (.cells #[.int .i64 3, .int .i64 a, .int .i64 N, .string s] 31)).alloc (.cells #[.string ⟨#[]⟩, .slice none 0 0, .int .i64 0] 29)).frozen? ⟨w.heap.size + 1 + 1, 1, none⟩ = false := frozen_at h3.2.2.1
  have f2 : (((w.alloc (.cells #[.string S, .slice p n c, .int .i64 last] 29)).alloc (.cells #[.int .i64 3, .int .i64 a, .int .i64 N, .string s] 31)).alloc (.cells #[.string ⟨#[]⟩, .slice none 0 0, .int .i64 0] 29)).frozen? ⟨w.heap.size + 1 + 1, 2, none⟩ = false := frozen_at h3.2.2.1
  have hz := set3_heap h3.2.2.1 (.string ⟨#[]⟩) (.slice none 0 0) (.int .i64 last)
  have HD := Lib.hid ((set3_below (B := w.heap.size) (w0 := w) HB0.out (show w.heap.size ≤ w.heap.size + 1 + 1 by omega) (.string ⟨#[]⟩) (.slice none 0 0) (.int .i64 last)).drew)
  clear h3
  go_enter Try.func13, Try.ntmps13
  go_wp2_with fail
  generalize (((w.alloc (.cells #[.string S, .slice p n c, .int .i64 last] 29)).alloc (.cells #[.int .i64 3, .int .i64 a, .int .i64 N, .string s] 31)).alloc (.cells #[.string ⟨#[]⟩, .slice none 0 0, .int .i64 0] 29)) = w3 at *
  go_region
  generalize hW : set3 w3 (w.heap.size + 1 + 1) (.string ⟨#[]⟩) (.slice none 0 0) (.int .i64 last) = W at *
  unfold set3 at hW
  rw [hW]
  clear hW x0 x1 x2 y0 y1 y2 f0 f1 f2 o0 o1 o2 o3
  go_wp2_with fail
  have z0 : W.drew.cell? ⟨w.heap.size + 1 + 1, 0, none⟩ = some (.string ⟨#[]⟩) := cell_of_row W.drew _ 0 _ _ _ hz
  have z1 : W.drew.cell? ⟨w.heap.size + 1 + 1, 1, none⟩ = some (.slice none 0 0) := cell_of_row W.drew _ 1 _ _ _ hz
  have z2 : W.drew.cell? ⟨w.heap.size + 1 + 1, 2, none⟩ = some (.int .i64 last) := cell_of_row W.drew _ 2 _ _ _ hz
  exact bodyPost_ret (v := .tuple #[.agg #[.string ⟨#[]⟩, .slice none 0 0, .int .i64 last], .int .i64 0, .string S]) (by simp [results, Try.results13, go_sem, z0, z1, z2]) rfl ⟨_, _, _, rfl, rowA_nil _, HD.out⟩
set_option maxRecDepth 100000 in
set_option maxHeartbeats 8000000 in
theorem do_other (S s : ByteArray) (p : Option Addr) (n c : Nat) (A : List Int) (last kind a N : Int) (w : World) (hr : RowA w p n c A) (h0 : ¬ kind = 0) (h1 : ¬ kind = 1) (h2 : ¬ kind = 2) (h3 : ¬ kind = 3) :
    Calls Try.prog 13 #[.agg #[.string S, .slice p n c, .int .i64 last], .agg #[.int .i64 kind, .int .i64 a, .int .i64 N, .string s]] w (Did S A last 0 ⟨#[]⟩ w) := by
  have HR := Lib.hid hr
  go_enter Try.func13, Try.ntmps13
  go_wp2_with fail
  exact bodyPost_ret (v := .tuple #[.agg #[.string S, .slice p n c, .int .i64 last], .int .i64 0, .string ⟨#[]⟩]) (by simp [results, Try.results13, go_sem]) rfl ⟨_, _, _, rfl, rowA_on HR.out (below3 _ _ _ _), below3 _ _ _ _⟩
/-- What a call makes of the document's cargo: its bytes, their ticks, the last one; a number, a text. -/
structure DoC where
  S : ByteArray
  A : List Int
  last : Int
  n : Int
  t : ByteArray
def doC (S : ByteArray) (A : List Int) (last kind a N : Int) (s : ByteArray) : DoC :=
  if kind = 0 then (if s.size = 0 then ⟨S, A, last, putT last a, ⟨#[]⟩⟩ else ⟨S ++ s, A ++ List.replicate s.size (putT last a), putT last a, putT last a, ⟨#[]⟩⟩)
  else if kind = 1 then ⟨S.extract (takeK A a N) S.size, A.drop (takeK A a N), last, 0, S.extract 0 (takeK A a N)⟩
  else if kind = 2 then ⟨S, lows (near a) A, low (near a) last, 0, ⟨#[]⟩⟩
  else if kind = 3 then ⟨⟨#[]⟩, [], last, 0, S⟩
  else ⟨S, A, last, 0, ⟨#[]⟩⟩
theorem text_none {s : ByteArray} (h : s.size = 0) : s = ⟨#[]⟩ := by
  rw [← str_nums s, List.eq_nil_of_length_eq_zero (by rw [nums_length]; exact h : (nums s).length = 0)]
  rfl
def DidA (x : DoC) (w : World) (e : Ending) (w' : World) : Prop := Did x.S x.A x.last x.n x.t w e w'
theorem do_any (S s : ByteArray) (p : Option Addr) (n c : Nat) (A : List Int) (last kind a N : Int) (w : World) (hr : RowA w p n c A) (hS : S.size = n) (hn : n ≤ 100000) (hs : s.size ≤ 100000) :
    Calls Try.prog 13 #[.agg #[.string S, .slice p n c, .int .i64 last], .agg #[.int .i64 kind, .int .i64 a, .int .i64 N, .string s]] w (DidA (doC S A last kind a N s) w) := by
  unfold DidA doC
  by_cases k0 : kind = 0
  · subst k0
    rw [if_pos rfl]
    by_cases hz : s.size = 0
    · rw [if_pos hz]
      exact do_put0 S s p n c A last a N w hr (text_none hz)
    · rw [if_neg hz]
      exact do_put S s p n c A last a N w hr hS hn hs (by omega)
  · rw [if_neg k0]
    by_cases k1 : kind = 1
    · subst k1
      rw [if_pos rfl]
      have h := do_take S s p n c A last a N w hr hS hn rfl
      rw [← hS] at h
      rw [hS] at h ⊢
      exact h
    · rw [if_neg k1]
      by_cases k2 : kind = 2
      · subst k2
        rw [if_pos rfl]
        exact do_hurry S s p n c A last a N w hr hn
      · rw [if_neg k2]
        by_cases k3 : kind = 3
        · subst k3
          rw [if_pos rfl]
          exact do_drain S s p n c A last a N w hr
        · rw [if_neg k3]
          exact do_other S s p n c A last kind a N w hr k0 k1 k2 k3
end Go.Proofs.Ytmblgpejgdlakaa
