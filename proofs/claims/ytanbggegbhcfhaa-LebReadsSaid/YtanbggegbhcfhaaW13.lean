/-
  Contracts: what the document's own Do answers, call by call, in a reader's words. Conditions: as each states.
-/
import Derived.Test.YtanbggegbhcfhaaW12
namespace Go.Proofs.Ytanbggegbhcfhaa
open Go.RowKit

theorem rest_nums (S : ByteArray) (k : Nat) : nums (S.extract k S.size) = (nums S).drop k := by rw [str_rest, nums_str _ ((nums_all S).drop k)]
theorem rest_size (S : ByteArray) (k : Nat) : (S.extract k S.size).size = S.size - k := by rw [← nums_length, rest_nums, List.length_drop, nums_length]
/-- Do, of Int. -/
theorem do_int (S : ByteArray) (k : Nat) (bad : Bool) (most : Int) (w : World) (hS : S.size ≤ 2000) (hk : k ≤ S.size) :
    Calls Try.prog 20 #[.agg #[.string S, .int .i64 k, .bool bad], .agg #[.int .i64 0, .int .i64 most]] w (Did S (k + (foundI bad (nums S) k most).2) ((foundI bad (nums S) k most).2 == 0) (foundI bad (nums S) k most).1 ⟨#[]⟩ w) := by
  cases bad with
  | true => exact do_bad S k 0 most w
  | false =>
    have hG := fun w => rget_any (S.extract k S.size) (by rw [rest_size]; omega) w
    rw [rest_nums] at hG
    have hfit := get_fit ((nums S).drop k) ((nums_all S).drop k)
    have hz := get_zero ((nums S).drop k)
    show Calls Try.prog 20 _ w (Did S (k + (intL ((nums S).drop k) most).2) ((intL ((nums S).drop k) most).2 == 0) (intL ((nums S).drop k) most).1 ⟨#[]⟩ w)
    unfold intL
    obtain ⟨N, H, e⟩ : ∃ N H : Nat, getL ((nums S).drop k) = (N, H) := ⟨_, _, rfl⟩
    rw [e] at hG hfit hz ⊢
    simp only at hG hfit hz ⊢
    by_cases h2 : most < (N : Int)
    · rw [if_pos h2]
      by_cases h1 : H = 0
      · exact do_int_none S _ k most w hS hk rfl N H hG h1
      · exact do_int_big S _ k most w hS hk rfl N H hG h1 h2
    · rw [if_neg h2]
      by_cases h1 : H = 0
      · have := hz h1
        simp only [Prod.mk.injEq] at this
        obtain ⟨rfl, rfl⟩ := this
        exact do_int_none S _ k most w hS hk rfl 0 0 hG rfl
      · have := do_int_yes S _ k most w hS hk rfl N H hG (by omega) h1 (by omega)
        rw [show (H == 0) = false by simpa using h1]
        exact this
/-- Do, of Str. -/
theorem do_str (S : ByteArray) (k : Nat) (bad : Bool) (most : Int) (w : World) (hS : S.size ≤ 2000) (hk : k ≤ S.size) :
    Calls Try.prog 20 #[.agg #[.string S, .int .i64 k, .bool bad], .agg #[.int .i64 2, .int .i64 most]] w (Did S (k + (foundS bad (nums S) k most).2) ((foundS bad (nums S) k most).2 == 0) 0 (strOfNums (foundS bad (nums S) k most).1) w) := by
  cases bad with
  | true => exact do_bad S k 2 most w
  | false =>
    have hG := fun w => rgetstr_any (S.extract k S.size) (by rw [rest_size]; omega) most w
    rw [rest_nums] at hG
    have hfit := gs_fit ((nums S).drop k) most
    rw [List.length_drop, nums_length] at hfit
    have hz := gsL_zero ((nums S).drop k) most
    show Calls Try.prog 20 _ w (Did S (k + (gsL ((nums S).drop k) most).2) ((gsL ((nums S).drop k) most).2 == 0) 0 (strOfNums (gsL ((nums S).drop k) most).1) w)
    obtain ⟨T, H, e⟩ : ∃ T H, gsL ((nums S).drop k) most = (T, H) := ⟨_, _, rfl⟩
    rw [e] at hG hfit hz ⊢
    simp only at hG hfit hz ⊢
    by_cases h1 : H = 0
    · have := do_str_none S _ k most w hS hk rfl _ H hG h1
      rw [hz h1, h1]
      exact this
    · have := do_str_yes S _ k most w hS hk rfl _ H hG (by omega) h1
      rw [show (H == 0) = false by simpa using h1]
      exact this
/-- Do, of Byte. -/
theorem do_byte (S : ByteArray) (k : Nat) (bad : Bool) (most : Int) (w : World) (hS : S.size ≤ 2000) (hk : k ≤ S.size) :
    Calls Try.prog 20 #[.agg #[.string S, .int .i64 k, .bool bad], .agg #[.int .i64 1, .int .i64 most]] w (Did S (k + (foundB bad (nums S) k most).2) ((foundB bad (nums S) k most).2 == 0) (foundB bad (nums S) k most).1 ⟨#[]⟩ w) := by
  cases bad with
  | true => exact do_bad S k 1 most w
  | false =>
    show Calls Try.prog 20 _ w (Did S (k + (byteL ((nums S).drop k) most).2) ((byteL ((nums S).drop k) most).2 == 0) (byteL ((nums S).drop k) most).1 ⟨#[]⟩ w)
    have hr := rest_size S k
    by_cases h0 : (S.extract k S.size).size = 0
    · have e : byteL ((nums S).drop k) most = (0, 0) := if_pos (Or.inl (by rw [List.length_drop, nums_length]; omega))
      rw [e]
      exact do_byte_none S _ k most w hS hk rfl h0
    · have hpos : 0 < (S.extract k S.size).size := by omega
      have hx := nums_at (S.extract k S.size) 0 hpos
      rw [rest_nums] at hx
      have hb := allB_getD ((nums_all S).drop k) 0
      by_cases h2 : most < ((nums S).drop k).getD 0 0
      · have e : byteL ((nums S).drop k) most = (0, 0) := if_pos (Or.inr h2)
        rw [e]
        exact do_byte_big S _ k most w hS hk rfl _ hpos hx hb.1 hb.2 h2
      · have e : byteL ((nums S).drop k) most = ((((nums S).drop k).getD 0 0).toNat, 1) := if_neg (by rw [List.length_drop, nums_length]; omega)
        rw [e]
        exact do_byte_yes S _ k most w hS hk rfl _ hpos hx hb.1 hb.2 (by omega)
/-- Do, of no call. -/
theorem do_other (S : ByteArray) (k : Nat) (bad : Bool) (kind most : Int) (h : kind < 0 ∨ 2 < kind) (w : World) :
    Calls Try.prog 20 #[.agg #[.string S, .int .i64 k, .bool bad], .agg #[.int .i64 kind, .int .i64 most]] w (Did S k bad 0 ⟨#[]⟩ w) := by
  cases bad with
  | true => exact do_bad S k kind most w
  | false =>
    rcases h with h | h
    · exact do_low S k kind most h w
    · exact do_high S k kind most h w

/-! Blocks of the law's own, beside a reader. -/
theorem blk_set {w : World} {g : Nat} {cs : Array Value} {t : TypeId} (h : w.heap[g]? = some (.cells cs t (0, 0))) (i : Nat) (u : Value) : (w.setCell ⟨g, i, none⟩ u).heap[g]? = some (.cells (cs.setIfInBounds i u) t (0, 0)) := by
  simp [World.setCell, Array.getElem?_modify, h]
theorem blk_lt {w : World} {g : Nat} {o : Obj} (h : w.heap[g]? = some o) : g < w.heap.size := (Array.getElem?_eq_some_iff.1 h).1
theorem blk_ne {w : World} {g g' : Nat} {cs cs' : Array Value} {t t' : TypeId} (h : w.heap[g]? = some (.cells cs t (0, 0))) (h' : w.heap[g']? = some (.cells cs' t' (0, 0))) (ht : t ≠ t') : g ≠ g' := by
  rintro rfl
  rw [h] at h'
  injection h' with h'
  injection h' with _ h'
  exact ht h'
theorem Rd.ne {w : World} {base g : Nat} {xs : List Int} {k : Nat} {bad : Bool} (h : Rd w base g xs k bad) {gq : Nat} {cs : Array Value} {t : TypeId} (hq : w.heap[gq]? = some (.cells cs t (0, 0))) (ht : t ≠ 57) : gq ≠ g := by
  obtain ⟨v, hg, _⟩ := h.ex
  exact blk_ne hq hg ht
theorem Rd.apart {w : World} {base g : Nat} {xs : List Int} {k : Nat} {bad : Bool} (h : Rd w base g xs k bad) {gq : Nat} {cs : Array Value} (hq : w.heap[gq]? = some (.cells cs 40 (0, 0))) (i : Nat) (u : Value) : Rd (w.setCell ⟨gq, i, none⟩ u) base g xs k bad := by
  have hne := h.ne hq (by decide)
  obtain ⟨v, hg, ho⟩ := h.ex
  refine ⟨⟨v, (Below.heap_setCell w ⟨gq, i, none⟩ u g (fun e => hne e.symm)).trans hg, ownsRow_setCell_other ho ?_ u⟩, h.all, h.le, h.base⟩
  rcases ho.2 with ⟨rfl, _⟩ | ⟨b, cap, cur, rfl, _, hh, _⟩
  · simp [Value.ownBlock]
  · intro he
    have : b = gq := by simpa [Value.ownBlock] using he
    subst this
    exact blk_ne hh hq (by decide) rfl
/-- The document's reader is written anew: its three cells. -/
theorem set3 {w : World} {base g : Nat} {xs : List Int} {k : Nat} {bad : Bool} {gq : Nat} {x y z : Value} (h : Rd w base g xs k bad) (hq : w.heap[gq]? = some (.cells #[x, y, z] 40 (0, 0))) (a b c : Value) :
    Rd (((w.setCell ⟨gq, 0, none⟩ a).setCell ⟨gq, 1, none⟩ b).setCell ⟨gq, 2, none⟩ c) base g xs k bad ∧ (((w.setCell ⟨gq, 0, none⟩ a).setCell ⟨gq, 1, none⟩ b).setCell ⟨gq, 2, none⟩ c).heap[gq]? = some (.cells #[a, b, c] 40 (0, 0)) ∧
    ∀ j, j ≠ gq → (((w.setCell ⟨gq, 0, none⟩ a).setCell ⟨gq, 1, none⟩ b).setCell ⟨gq, 2, none⟩ c).heap[j]? = w.heap[j]? := by
  have h1 := blk_set hq 0 a
  have h2 := blk_set h1 1 b
  refine ⟨((h.apart hq 0 a).apart h1 1 b).apart h2 2 c, blk_set h2 2 c, fun j hj => ?_⟩
  rw [Below.heap_setCell _ _ _ _ hj, Below.heap_setCell _ _ _ _ hj, Below.heap_setCell _ _ _ _ hj]
end Go.Proofs.Ytanbggegbhcfhaa
