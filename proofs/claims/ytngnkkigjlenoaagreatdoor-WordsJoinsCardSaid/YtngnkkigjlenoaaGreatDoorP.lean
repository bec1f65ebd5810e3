/-
  Contract: Join. Conditions: the words' lengths.
-/
import Derived.Test.YtngnkkigjlenoaaGreatDoorO
namespace Go.Proofs.YtngnkkigjlenoaaGreatDoor
open Go.RowKit

theorem wrt_len (w : List Int) : w.length ≤ (wrtL w).length ∧ (wrtL w).length ≤ 2 * w.length + 2 := by
  have := esc_len w
  unfold wrtL
  split
  · omega
  · simp; omega
theorem lin_snoc (l : List (List Int)) (w : List Int) : linL (l ++ [w]) = addL (linL l) w := by unfold linL; rw [List.foldl_append]; rfl
theorem add_len (x w : List Int) : x.length ≤ (addL x w).length ∧ w.length ≤ (addL x w).length ∧ (addL x w).length ≤ x.length + 1 + (2 * w.length + 2) := by
  have := wrt_len w
  unfold addL
  split
  · next h => subst h; simp; omega
  · simp; omega
theorem lin_mem {l : List (List Int)} {w : List Int} (h : w ∈ l) : w.length ≤ (linL l).length := by
  obtain ⟨a, b, rfl⟩ := List.append_of_mem h
  have key : ∀ (b : List (List Int)) (x : List Int), x.length ≤ (b.foldl addL x).length := fun b => by
    induction b with
    | nil => intro x; exact Nat.le_refl _
    | cons v b ih => intro x; exact Nat.le_trans (add_len x v).1 (ih _)
  unfold linL
  rw [List.foldl_append, List.foldl_cons]
  exact Nat.le_trans (add_len _ w).2.1 (key b _)
theorem lin_most (l : List (List Int)) (h : ∀ w ∈ l, w.length ≤ 256) : (linL l).length ≤ 600 * l.length := by
  have key : ∀ (l : List (List Int)) (x : List Int), (∀ w ∈ l, w.length ≤ 256) → (l.foldl addL x).length ≤ x.length + 600 * l.length := fun l => by
    induction l with
    | nil => intro x _; exact Nat.le_refl _
    | cons w l ih =>
      intro x h
      rw [List.foldl_cons, List.length_cons]
      have h1 := ih (addL x w) fun v hv => h v (List.mem_cons_of_mem _ hv)
      have h2 := h w List.mem_cons_self
      have h3 := (add_len x w).2.2
      omega
  have := key l [] h
  rw [List.length_nil, Nat.zero_add] at this
  exact this
theorem wrt_all {w : List Int} (h : AllB w) : AllB (wrtL w) := by
  unfold wrtL
  split
  · exact h
  · intro x hx
    rcases List.mem_cons.1 hx with rfl | hx
    · decide
    rcases List.mem_append.1 hx with hx | hx
    · exact esc_all h x hx
    · rw [List.mem_singleton.1 hx]; decide
theorem add_all {x w : List Int} (hx : AllB x) (hw : AllB w) : AllB (addL x w) := by
  unfold addL
  split
  · exact allB_nil.append (wrt_all hw)
  · exact (hx.append (fun y hy => by rw [List.mem_singleton.1 hy]; decide)).append (wrt_all hw)
theorem lin_all (l : List (List Int)) (h : ∀ w ∈ l, AllB w) : AllB (linL l) := by
  have key : ∀ (l : List (List Int)) (x : List Int), AllB x → (∀ w ∈ l, AllB w) → AllB (l.foldl addL x) := fun l => by
    induction l with
    | nil => intro x hx _; exact hx
    | cons w l ih => intro x hx h; exact ih _ (add_all hx (h w List.mem_cons_self)) fun v hv => h v (List.mem_cons_of_mem _ hv)
  exact key l [] allB_nil h
theorem odd_may (xs : List Int) : hasL (fun k => k == 1) xs = true ↔ ¬ mayL xs := by
  unfold hasL mayL
  rw [List.any_eq_true]
  constructor
  · rintro ⟨x, hx, h⟩ hn
    exact hn x hx (by simpa using h)
  · intro h
    refine Classical.byContradiction fun hn => h fun x hx hk => hn ⟨x, hx, by simpa using hk⟩
theorem bad_iff (s : ByteArray) : badW s = true ↔ 256 < s.size ∨ ¬ mayL (nums s) := by
  unfold badW
  rw [Bool.or_eq_true, odd_may, decide_eq_true_iff]
/-- The line of words is none where a word may not be, or is longer than a line. -/
theorem join_bad {ps : List ByteArray} (h : ps.any badW = true) : joinW (ps.map nums) = [] := by
  rw [List.any_eq_true] at h
  obtain ⟨s, hs, hb⟩ := h
  unfold joinW
  refine if_pos ?_
  rcases (bad_iff s).1 hb with h1 | h1
  · refine Or.inr (Or.inr ?_)
    have := lin_mem (List.mem_map_of_mem (f := nums) hs)
    rw [nums_length] at this
    omega
  · exact Or.inr (Or.inl ⟨_, List.mem_map_of_mem (f := nums) hs, h1⟩)
theorem join_good {ps : List ByteArray} (h : ¬ ps.any badW = true) (hl : ps.length ≤ 16) : (∀ s ∈ ps, s.size ≤ 256) ∧ joinW (ps.map nums) = if 256 < (linL (ps.map nums)).length then [] else linL (ps.map nums) := by
  have hall : ∀ s ∈ ps, ¬ (256 < s.size ∨ ¬ mayL (nums s)) := fun s hs hb => h (List.any_eq_true.2 ⟨s, hs, (bad_iff s).2 hb⟩)
  refine ⟨fun s hs => Nat.le_of_not_lt fun hn => hall s hs (Or.inl hn), ?_⟩
  unfold joinW
  have h1 : ¬ 16 < (ps.map nums).length := by rw [List.length_map]; omega
  have h2 : ¬ ∃ w ∈ ps.map nums, ¬ mayL w := by
    rintro ⟨w, hw, hn⟩
    obtain ⟨s, hs, rfl⟩ := List.mem_map.1 hw
    exact hall s hs (Or.inr hn)
  by_cases h3 : 256 < (linL (ps.map nums)).length
  · rw [if_pos h3, if_pos (Or.inr (Or.inr h3))]
  · rw [if_neg h3, if_neg (by rintro (h | h | h) <;> contradiction)]
theorem join_many {ps : List ByteArray} (h : 16 < ps.length) : joinW (ps.map nums) = [] := if_pos (Or.inl (by rw [List.length_map]; exact h))
/-- A text in a block of its own. -/
def JW (w : World) (B : Nat) (wr : World) (x : ByteArray) : Prop := wr.heap[B]? = some (.cells #[.string x] 9 (0, 0)) ∧ Below B w wr
theorem JW.on {w : World} {B : Nat} {wr w' : World} {x : ByteArray} (h : JW w B wr x) (hb : Below wr.heap.size wr w') : JW w B w' x := ⟨(hb.block _ (blk_lt h.1)).trans h.1, h.2.trans (hb.mono (Nat.le_of_lt (blk_lt h.1)))⟩
set_option maxRecDepth 100000 in
set_option maxHeartbeats 4000000 in
theorem adds_any {w : World} {B : Nat} {wr : World} (x p : List Int) (hxl : x.length ≤ 20000) (hpl : p.length ≤ 20000) (h : JW w B wr (strOfNums x)) :
    Calls Tryz.prog 22 #[.string (strOfNums p), .pointer (some ⟨B, 0, none⟩)] wr fun e w' => e = .returned (.tuple #[]) ∧ JW w B w' (strOfNums ((if x = [] then [] else x ++ [32]) ++ p)) := by
  have c0 := cell0 h.1
  have f0 : wr.frozen? ⟨B, 0, none⟩ = false := frozen_at h.1
  obtain ⟨X, hX⟩ : ∃ X, strOfNums x = X := ⟨_, rfl⟩
  obtain ⟨P, hP⟩ : ∃ P, strOfNums p = P := ⟨_, rfl⟩
  have hXs : X.size = x.length := by rw [← hX, str_size]
  have hPs : P.size = p.length := by rw [← hP, str_size]
  rw [hX] at c0 h
  obtain ⟨R, hR⟩ : ∃ R, (if x = [] then [] else x ++ [32]) ++ p = R := ⟨_, rfl⟩
  rw [hR, hP]
  by_cases he : x = []
  · subst he
    have hX0 : X = ⟨#[]⟩ := hX.symm
    subst hX0
    have hc : (⟨#[]⟩ : ByteArray) ++ P = P := by apply ByteArray.ext; simp
    have r1 := fun W => cat_run hc (by show 0 ≤ _; omega) (by omega) W
    have HX := Lib.hid (show JW w B (wr.setCell ⟨B, 0, none⟩ (.string P)) (strOfNums R) from ⟨by rw [← hR, if_pos rfl, List.nil_append, hP]; exact set_one h.1 _, h.2.setCell (p := ⟨B, 0, none⟩) (Nat.le_refl _) _⟩)
    clear h hX hP hR
    go_enter Tryz.func22, Tryz.ntmps22
    go_wp2_with fail
    go_end0
    exact ⟨rfl, HX.out⟩
  · have hne : ¬ X.size = 0 := by
      rw [hXs]
      exact fun e => he (List.length_eq_zero_iff.1 e)
    have q0 : (X.toList == ([] : List UInt8)) = false := by simpa using size_ne hne
    have q1 : X.toList.isEmpty = false := by simpa using size_ne hne
    have q2 := size_ne hne
    obtain ⟨Y, hY⟩ : ∃ Y, X ++ (⟨#[32]⟩ : ByteArray) = Y := ⟨_, rfl⟩
    have hYs : Y.size ≤ 20001 := by rw [← hY, cat_size, hXs]; show x.length + 1 ≤ _; omega
    obtain ⟨Z, hZ⟩ : ∃ Z, Y ++ P = Z := ⟨_, rfl⟩
    have r1 := fun W => cat_run hY (by omega) (by show 1 ≤ _; omega) W
    have r2 := fun W => cat_run hZ (by omega) (by omega) W
    have e1 := set_one h.1 (.string Y)
    have c1 := cell0 e1
    have f1 : (wr.setCell ⟨B, 0, none⟩ (.string Y)).frozen? ⟨B, 0, none⟩ = false := frozen_at e1
    have HX := Lib.hid (show JW w B ((wr.setCell ⟨B, 0, none⟩ (.string Y)).setCell ⟨B, 0, none⟩ (.string Z)) (strOfNums R) from ⟨by
      rw [← hR, if_neg he, ← str_append, ← str_append, hX, hP]
      show _ = some (Obj.cells #[.string (X ++ (⟨#[32]⟩ : ByteArray) ++ P)] _ _)
      rw [hY, hZ]
      exact set_one e1 _, (h.2.setCell (p := ⟨B, 0, none⟩) (Nat.le_refl _) _).setCell (p := ⟨B, 0, none⟩) (Nat.le_refl _) _⟩)
    clear h hX hP e1 hY hZ he hR
    go_enter Tryz.func22, Tryz.ntmps22
    go_wp2_with fail
    go_end0
    exact ⟨rfl, HX.out⟩
/-- What Join hands back. -/
def joinB (ps : List ByteArray) : ByteArray := strOfNums (joinW (ps.map nums))
set_option maxRecDepth 100000 in
set_option maxHeartbeats 8000000 in
theorem join_any (q : Option Addr) (n d : Nat) (ps : List ByteArray) (w : World) (hnd : n ≤ 9223372036854775807) (hi : TxtIn w q n ps) (hz : ∀ t ∈ ps, t.size ≤ maxLen) :
    Calls Tryz.prog 11 #[.slice q n d] w fun e w' => e = .returned (.string (joinB ps)) ∧ Below w.heap.size w w' := by
  have hmf : ∀ (fn : Fn) (first cap : Array Value) (w : World), (Instr.makeFunc fn first cap).run Tryz.prog w = .ok (.func fn first cap) w := fun _ _ _ _ => rfl
  by_cases h16 : 16 < n
  · have d1 : decide ((n : Int) > 16) = true := by simp; omega
    have d2 : decide ((16 : Int) < (n : Int)) = true := by simp; omega
    have HE := Lib.hid (show joinB ps = ⟨#[]⟩ from by unfold joinB; rw [join_many (by rw [hi.1]; exact h16)]; rfl)
    clear h16 hi hz
    go_enter Tryz.func11, Tryz.ntmps11
    go_wp2_with fail
    go_ret
    exact ⟨by rw [HE.out]; rfl, Below.refl _ _⟩
  · have d1 : decide ((n : Int) > 16) = false := by simp; omega
    have d2 : decide ((16 : Int) < (n : Int)) = false := by simp; omega
    have hn16 : n ≤ 16 := by omega
    have HC := Lib.hid (contains_any q n d ps w hn16 hi hz)
    by_cases hbad : ps.any badW = true
    · rw [hbad] at HC
      have HE := Lib.hid (show joinB ps = ⟨#[]⟩ from by unfold joinB; rw [join_bad hbad]; rfl)
      clear h16 hi hz hbad
      go_enter Tryz.func11, Tryz.ntmps11
      go_wp2_with (go_at_call 20; refine HC.out.mono ?_; rintro e w' ⟨rfl, rfl⟩)
      go_ret
      exact ⟨by rw [HE.out]; rfl, Below.refl _ _⟩
    · have hbad' : ps.any badW = false := by simpa using hbad
      rw [hbad'] at HC
      obtain ⟨hall, hjw⟩ := join_good hbad (by rw [hi.1]; exact hn16)
      have HI := Lib.hid hi
      have HA := Lib.hid hall
      have HJW := Lib.hid hjw
      have hnew := heap_alloc_new w (.cells #[.string ⟨#[]⟩] 9)
      have HJ0 := Lib.hid (show JW w w.heap.size (w.alloc (.cells #[.string ⟨#[]⟩] 9)) (strOfNums (linL ((ps.take 0).map nums))) from ⟨hnew, (Below.refl _ _).alloc (Nat.le_refl _) _⟩)
      clear h16 hi hz hbad hbad' hall hjw hnew
      obtain ⟨B, hB⟩ : ∃ B, w.heap.size = B := ⟨_, rfl⟩
      rw [hB] at HJ0
      go_enter Tryz.func11, Tryz.ntmps11
      go_wp2_with (go_at_call 20; refine HC.out.mono ?_; rintro e w' ⟨rfl, rfl⟩)
      go_loopw [6, 17] (fun _ i wr => ∃ k : Nat, k ≤ n ∧ i = .int .i64 k ∧ Hid (JW w B wr (strOfNums (linL ((ps.take k).map nums))))) (fun _ i _ => n - (intOf i).toNat)
      case atStart => exact ⟨0, Nat.zero_le _, rfl, HJ0⟩
      case round =>
        clear HJ0
        obtain ⟨k, hk, rfl, HJ⟩ := hrel
        have hlk : (ps.take k).length = k := by rw [List.length_take, HI.out.1]; omega
        have hmost := lin_most ((ps.take k).map nums) (fun v hv => by
          obtain ⟨s, hs, rfl⟩ := List.mem_map.1 hv
          rw [nums_length]
          exact HA.out s (List.mem_of_mem_take hs))
        rw [List.length_map, hlk] at hmost
        by_cases hlt : k < n
        · have d3 : decide ((k : Int) < (n : Int)) = true := by simp; omega
          obtain ⟨b, o, rfl, hc⟩ := HI.out.2 (by omega)
          have c0 := (HJ.out.2.cell (by rw [← hB]; exact World.block_lt_of_cell? w _ (hc k hlt))).trans (hc k hlt)
          have hsz := HA.out _ (getD_mem (ps := ps) (j := k) (by rw [HI.out.1]; exact hlt))
          have HW := Lib.hid (fun W => written_any (ps.getD k ⟨#[]⟩) hsz W)
          have hst : linL ((ps.take (k + 1)).map nums) = addL (linL ((ps.take k).map nums)) (nums (ps.getD k ⟨#[]⟩)) := by
            rw [List.take_succ_eq_append_getElem (by rw [HI.out.1]; exact hlt), List.map_append, List.map_singleton, lin_snoc, List.getD_eq_getElem?_getD, List.getElem?_eq_getElem (by rw [HI.out.1]; exact hlt)]
            rfl
          have hwl := (wrt_len (nums (ps.getD k ⟨#[]⟩))).2
          rw [nums_length] at hwl
          have HAd := Lib.hid (fun W hW => adds_any (w := w) (B := B) (wr := W) _ (wrtL (nums (ps.getD k ⟨#[]⟩))) (by omega) (by omega) (HJ.out.on hW))
          have HS := Lib.hid hst
          generalize ps.getD k ⟨#[]⟩ = t at *
          clear hst hmost hlk hwl hsz hc
          go_wp2_with fail
          refine (HW.out _).mono ?_
          rintro e w1 ⟨rfl, hb1⟩
          have HA2 := Lib.hid (HAd.out w1 hb1)
          clear hb1 HAd HW HJ c0
          go_wp2_with fail
          refine HA2.out.mono ?_
          rintro e w2 ⟨rfl, hj2⟩
          have HJ2 := Lib.hid (show JW w B w2 (strOfNums (linL ((ps.take (k + 1)).map nums))) from by rw [HS.out]; exact hj2)
          clear hj2 HA2 HS
          go_wp2_with fail
          go_roundw
          case rel => exact ⟨k + 1, by omega, by go_num, HJ2⟩
          case measure => simp [intOf]; omega
        · obtain rfl : k = n := by omega
          have d3 : decide ((k : Int) < (k : Int)) = false := by simp
          rw [show ps.take k = ps from List.take_of_length_le (by rw [HI.out.1]; omega)] at HJ hmost
          obtain ⟨L, hL⟩ : ∃ L, linL (ps.map nums) = L := ⟨_, rfl⟩
          have hJW := HJW.out
          rw [hL] at HJ hmost hJW
          have c0 := cell0 HJ.out.1
          have hls : (strOfNums L).size = L.length := str_size L
          have HB := Lib.hid (show Below w.heap.size w wr from by rw [hB]; exact HJ.out.2)
          by_cases h256 : 256 < L.length
          · have HE := Lib.hid (show joinB ps = ⟨#[]⟩ from by unfold joinB; rw [hJW, if_pos h256]; rfl)
            obtain ⟨X, hX⟩ : ∃ X, strOfNums L = X := ⟨_, rfl⟩
            rw [hX] at c0 hls
            have d4 : decide ((X.size : Int) > 256) = true := by simp; omega
            have d5 : decide ((256 : Int) < (X.size : Int)) = true := by simp; omega
            clear hJW hL hmost h256 HJ hX hls
            go_wp2_with fail
            go_ret
            exact ⟨by rw [HE.out]; rfl, HB.out⟩
          · have HE := Lib.hid (show joinB ps = strOfNums L from by unfold joinB; rw [hJW, if_neg h256])
            obtain ⟨X, hX⟩ : ∃ X, strOfNums L = X := ⟨_, rfl⟩
            rw [hX] at c0 hls HE
            have d4 : decide ((X.size : Int) > 256) = false := by simp; omega
            have d5 : decide ((256 : Int) < (X.size : Int)) = false := by simp; omega
            clear hJW hL hmost h256 HJ hX hls
            go_wp2_with fail
            go_ret
            exact ⟨by rw [HE.out]; rfl, HB.out⟩
end Go.Proofs.YtngnkkigjlenoaaGreatDoor
