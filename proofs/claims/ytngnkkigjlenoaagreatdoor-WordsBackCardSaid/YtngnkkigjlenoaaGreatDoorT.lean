/-
  Contracts: Lines of the program, and of the document. Conditions: the text's length; a word of the library holds some number.
-/
import Derived.Test.YtngnkkigjlenoaaGreatDoorS
import Derived.Test.YtngnkkigjlenoaaGreatDoorI
import Derived.Test.YtngnkkigjlenoaaGreatDoorO
namespace Go.Proofs.YtngnkkigjlenoaaGreatDoor
open Go.RowKit

/-- A word of the library's own holds some number. -/
def Big (w : World) : Prop := ∃ m, w.cell? ⟨0, 0, none⟩ = some (.int .i64 m)
theorem big_on {w w' : World} (h : Big w) (hb : Below w.heap.size w w') : Big w' := by
  obtain ⟨m, hm⟩ := h
  exact ⟨m, (hb.cell (World.block_lt_of_cell? w _ hm)).trans hm⟩
theorem lnL_size (l : List UInt8) : ∀ t ∈ lnL l, t.length ≤ l.length := by
  induction l with
  | nil => intro t ht; simp [lnL] at ht; subst ht; exact Nat.le_refl _
  | cons c r ih =>
    intro t ht
    obtain ⟨p, ps, hp⟩ : ∃ p ps, lnL r = p :: ps := by
      cases h : lnL r with
      | nil => exact absurd h (lnL_ne r)
      | cons p ps => exact ⟨p, ps, rfl⟩
    rw [hp] at ih
    unfold lnL at ht
    rw [hp] at ht
    have h0 := ih p List.mem_cons_self
    rw [List.length_cons]
    split at ht
    · rcases List.mem_cons.1 ht with rfl | ht
      · exact Nat.zero_le _
      · have := ih t ht; omega
    · simp only [List.headD_cons, List.tail_cons] at ht
      rcases List.mem_cons.1 ht with rfl | ht
      · rw [List.length_cons]; omega
      · have := ih t (List.mem_cons_of_mem _ ht); omega
theorem ba_size (l : List UInt8) : (ba l).size = l.length := by simp [ba, ByteArray.size]
/-- The lines of a text, the first k of which were trimmed. -/
def trK (L : List (List UInt8)) (k : Nat) : List ByteArray := (L.take k).map (fun l => trB (ba l)) ++ (L.drop k).map ba
theorem trK_len (L : List (List UInt8)) (k : Nat) : (trK L k).length = L.length := by
  unfold trK
  rw [List.length_append, List.length_map, List.length_map, List.length_take, List.length_drop]
  omega
theorem trK_zero (L : List (List UInt8)) : trK L 0 = L.map ba := by simp [trK]
theorem trK_all (L : List (List UInt8)) : trK L L.length = L.map fun l => trB (ba l) := by simp [trK]
theorem trK_at {L : List (List UInt8)} {k : Nat} (hk : k < L.length) : (trK L k).getD k ⟨#[]⟩ = ba (L[k]'hk) := by
  unfold trK
  rw [List.getD_eq_getElem?_getD, List.getElem?_append_right (by simp; omega), List.length_map, List.length_take, Nat.min_eq_left (by omega), Nat.sub_self, List.drop_eq_getElem_cons hk]
  rfl
theorem trK_step {L : List (List UInt8)} {k : Nat} (hk : k < L.length) : (trK L k).set k (trB (ba (L[k]'hk))) = trK L (k + 1) := by
  unfold trK
  rw [List.take_succ_eq_append_getElem hk, List.map_append, List.append_assoc, List.set_append_right _ _ (by simp; omega), List.length_map, List.length_take, Nat.min_eq_left (by omega), Nat.sub_self, List.drop_eq_getElem_cons hk]
  rfl
/-- Texts in a block of their own. -/
def LR (w : World) (b : Nat) (ps : List ByteArray) : Prop := w.heap[b]? = some (.cells (ps.map Value.string).toArray 9 (0, 0))
theorem LR.at {w : World} {b : Nat} {ps : List ByteArray} (h : LR w b ps) {j : Nat} (hj : j < ps.length) : w.cell? ⟨b, j, none⟩ = some (.string (ps.getD j ⟨#[]⟩)) := by
  unfold LR at h
  simp only [World.cell?, h]
  rw [List.getElem?_toArray, List.getElem?_map, List.getD_eq_getElem?_getD, List.getElem?_eq_getElem hj]
  rfl
theorem LR.put {w : World} {b : Nat} {ps : List ByteArray} (h : LR w b ps) (j : Nat) (x : ByteArray) : LR (w.setCell ⟨b, j, none⟩ (.string x)) b (ps.set j x) := by
  unfold LR at h ⊢
  rw [heap_setCell_same w b j _ _ _ h, List.setIfInBounds_toArray, List.map_set]
theorem LR.txt {w : World} {b : Nat} {ps : List ByteArray} (h : LR w b ps) : TxtIn w (some ⟨b, 0, none⟩) ps.length ps := ⟨rfl, fun _ => ⟨b, 0, rfl, fun j hj => by rw [Nat.zero_add]; exact h.at hj⟩⟩
/-- What Lines hands back. -/
def OutL (s : ByteArray) (w : World) (e : Ending) (w' : World) : Prop := ∃ q m d, e = .returned (.slice q m d) ∧ m = (pl s).count 10 + 1 ∧ TxtIn w' q m (linesB s) ∧ Below w.heap.size w w'
set_option maxRecDepth 100000 in
set_option maxHeartbeats 8000000 in
theorem lines_any (s : ByteArray) (hs : s.size ≤ 100000) (w : World) (hg : Big w) : Calls Tryz.prog 15 #[.string s] w (OutL s w) := by
  obtain ⟨mm, hm⟩ := hg
  obtain ⟨h1, h2⟩ := split_ln s
  have HSp := Lib.hid (Tryz.strings_Split s ⟨#[10]⟩ mm w (by omega) hm (by decide))
  rw [h1, h2] at HSp
  have hcl := lnL_len (pl s)
  have hcm : (pl s).count 10 ≤ s.size := by rw [← pl_len s]; exact List.count_le_length
  have HLs := Lib.hid (lnL_size (pl s))
  have HLL := Lib.hid (show linesB s = (lnL (pl s)).map fun l => trB (ba l) from rfl)
  obtain ⟨L, hL⟩ : ∃ L, lnL (pl s) = L := ⟨_, rfl⟩
  rw [hL] at HSp HLs HLL hcl
  obtain ⟨m, hm2⟩ : ∃ m, L.length = m := ⟨_, rfl⟩
  rw [hm2] at HSp hcl
  have HM := Lib.hid hm2
  obtain ⟨C, hC⟩ : ∃ C, ((L.map ba).map Value.string).toArray = C := ⟨_, rfl⟩
  rw [hC] at HSp
  have hba : Below w.heap.size w (w.alloc (.cells C 9)) := (Below.refl _ _).alloc (Nat.le_refl _) _
  have HR0 := Lib.hid (show LR (w.alloc (.cells C 9)) w.heap.size (trK L 0) from by rw [trK_zero]; unfold LR; rw [hC]; exact heap_alloc_new w _)
  have HB0 := Lib.hid hba
  have HC := Lib.hid hcl
  have hm3 : m ≤ 100001 := by omega
  clear hm h1 h2 hcm hL hm2 hba hcl hC
  go_enter Tryz.func15, Tryz.ntmps15
  go_wp2_with fail
  refine HSp.out.mono ?_
  rintro e w1 ⟨rfl, rfl⟩
  clear HSp
  go_wp2_with fail
  go_loopw [4, 5, 10] (fun _ _ i wr => ∃ k : Nat, k ≤ m ∧ i = .int .i64 k ∧ Hid (LR wr w.heap.size (trK L k)) ∧ Hid (Below w.heap.size w wr)) (fun _ _ i _ => m - (intOf i).toNat)
  case atStart => exact ⟨0, Nat.zero_le _, rfl, HR0, HB0⟩
  case round =>
    clear HR0 HB0
    obtain ⟨k, hk, rfl, HR, HB⟩ := hrel
    by_cases hlt : k < m
    · have d3 : decide ((k : Int) < (m : Int)) = true := by simp; omega
      have hkl : k < L.length := by rw [HM.out]; exact hlt
      have c0 := HR.out.at (j := k) (by rw [trK_len]; exact hkl)
      rw [trK_at hkl] at c0
      have hsz : (ba (L[k]'hkl)).size ≤ s.size := by
        rw [ba_size, ← pl_len s]
        exact HLs.out _ (List.getElem_mem hkl)
      have f0 : wr.frozen? ⟨w.heap.size, k, none⟩ = false := frozen_at HR.out
      have HT := Lib.hid (show ∀ W, Calls Tryz.prog 30 #[.string (ba (L[k]'hkl)), .string ⟨#[13]⟩] W fun e w' => e = .returned (.string (trB (ba (L[k]'hkl)))) ∧ w' = W from fun W => Tryz.strings_TrimSuffix (ba (L[k]'hkl)) ⟨#[13]⟩ W (by omega))
      have HR1 := Lib.hid (show LR (wr.setCell ⟨w.heap.size, k, none⟩ (.string (trB (ba (L[k]'hkl))))) w.heap.size (trK L (k + 1)) from by rw [← trK_step hkl]; exact HR.out.put k _)
      have HB1 := Lib.hid (HB.out.setCell (p := ⟨w.heap.size, k, none⟩) (Nat.le_refl _) (.string (trB (ba (L[k]'hkl)))))
      generalize trB (ba (L[k]'hkl)) = Y at *
      generalize ba (L[k]'hkl) = X at *
      clear HR HB hsz hkl
      go_wp2_with (go_at_call 30; refine (HT.out _).mono ?_; rintro e w' ⟨rfl, rfl⟩)
      go_roundw
      case rel => exact ⟨k + 1, by omega, by go_num, HR1, HB1⟩
      case measure => simp [intOf]; omega
    · obtain rfl : k = m := by omega
      have d3 : decide ((k : Int) < (k : Int)) = false := by simp
      have HX := Lib.hid (show LR wr w.heap.size (linesB s) from by rw [HLL.out, ← trK_all, HM.out]; exact HR.out)
      clear HR
      go_wp2_with fail
      go_ret
      exact ⟨_, k, k, rfl, HC.out, by have := HX.out.txt; rw [linesB_len, ← HC.out] at this; exact this, HB.out⟩
end Go.Proofs.YtngnkkigjlenoaaGreatDoor
