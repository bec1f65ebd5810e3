/-
  Contracts: has, Plain of the program and of the document, fitsNoLine, slices.ContainsFunc. Conditions: as each states.
-/
import Derived.Test.YtngnkkigjlenoaaGreatDoorE
namespace Go.Proofs.YtngnkkigjlenoaaGreatDoor
open Go.RowKit

/-- Is there a byte of a kind that is asked for? -/
def hasL (P : Int → Bool) (xs : List Int) : Bool := xs.any fun x => P (knd x)
theorem has_take {P : Int → Bool} {xs : List Int} {k : Nat} (h : hasL P (xs.take k) = false) (hk : k < xs.length) : hasL P (xs.take (k + 1)) = P (knd (xs.getD k 0)) := by
  unfold hasL at h ⊢
  rw [List.take_succ_eq_append_getElem hk, List.any_append, h, List.getD_eq_getElem?_getD, List.getElem?_eq_getElem hk]
  simp
theorem has_more {P : Int → Bool} {xs : List Int} {k : Nat} (h : hasL P (xs.take k) = true) : hasL P xs = true := by
  unfold hasL at h ⊢
  rw [List.any_eq_true] at h ⊢
  obtain ⟨x, h1, h2⟩ := h
  exact ⟨x, List.mem_of_mem_take h1, h2⟩
theorem list_inj {a b : ByteArray} (h : a.toList = b.toList) : a = b := by
  rw [ByteArray.toList_eq, ByteArray.toList_eq] at h
  exact ByteArray.ext (Array.toList_inj.1 h)
theorem bytes_eq {a b : ByteArray} : (a.toList == b.toList) = decide (a = b) := by
  rw [Bool.eq_iff_iff, beq_iff_eq, decide_eq_true_iff]
  exact ⟨list_inj, fun e => by rw [e]⟩
theorem size_ne {s : ByteArray} (h : ¬ s.size = 0) : ¬ s.toList = [] := fun e => h (by
  rw [ByteArray.toList_eq] at e
  have := congrArg List.length e
  simpa using this)
theorem odd_kind (k : Int) (W : World) : Calls Tryz.prog 32 #[.int .i64 k] W fun e w' => e = .returned (.bool (k == 1)) ∧ W = w' := by
  go_enter Tryz.func32, Tryz.ntmps32
  go_wp2_with fail
  go_ret
  exact ⟨rfl, rfl⟩
theorem word_kind (k : Int) (W : World) : Calls Tryz.prog 19 #[.int .i64 k] W fun e w' => e = .returned (.bool (k != 6 && k != 3)) ∧ W = w' := by
  by_cases h : k = 6
  · subst h
    go_enter Tryz.func19, Tryz.ntmps19
    go_wp2_with fail
    go_ret
    exact ⟨rfl, rfl⟩
  · have h6 : (k != 6) = true := by simpa using h
    go_enter Tryz.func19, Tryz.ntmps19
    go_wp2_with fail
    go_ret
    exact ⟨ret_bool (by rw [h6]; rfl), rfl⟩
set_option maxRecDepth 100000 in
set_option maxHeartbeats 1600000 in
theorem has_odd (s : ByteArray) (hs : s.size ≤ maxLen) (w : World) :
    Calls Tryz.prog 18 #[.string s, .func (.func 32) #[] #[]] w fun e w' => e = .returned (.bool (hasL (fun k => k == 1) (nums s))) ∧ w = w' := by
  obtain ⟨P, hP0⟩ : ∃ P : Int → Bool, (fun k => k == 1) = P := ⟨_, rfl⟩
  rw [hP0]
  have HG := Lib.hid (show ∀ (k : Int) (W : World), Calls Tryz.prog 32 #[.int .i64 k] W fun e w' => e = .returned (.bool (P k)) ∧ W = w' from by rw [← hP0]; exact odd_kind)
  clear hP0
  have HK := Lib.hid (fun (k : Nat) (W : World) => kind_any s k hs W)
  have hs' := hs
  unfold maxLen at hs'
  clear hs
  go_enter Tryz.func18, Tryz.ntmps18
  go_wp2_with fail
  go_loopw [8] (fun i wr => ∃ k : Nat, k ≤ s.size ∧ i = .int .i64 k ∧ w = wr ∧ Hid (hasL P ((nums s).take k) = false)) (fun i _ => s.size - (intOf i).toNat)
  case atStart => exact ⟨0, Nat.zero_le _, rfl, rfl, Lib.hid rfl⟩
  case round =>
    obtain ⟨k, hk, rfl, rfl, HN⟩ := hrel
    by_cases hlt : k < s.size
    · have d1 : decide ((k : Int) < (s.size : Int)) = true := by simp; omega
      have HC := Lib.hid (HK.out k w)
      have hka : kAt (nums s) k = knd ((nums s).getD k 0) := by unfold kAt; rw [if_neg (by rw [nums_length]; omega)]
      rw [hka] at HC
      have hN := has_take HN.out (by rw [nums_length]; exact hlt)
      have HG2 := Lib.hid (HG.out (knd ((nums s).getD k 0)) w)
      generalize knd ((nums s).getD k 0) = c at *
      by_cases hP : P c = true
      · have HF := Lib.hid (has_more (hN.trans hP))
        rw [hP] at HG2
        clear hN HN hka HK HG
        go_wp2_with fail
        refine HC.out.mono ?_
        rintro e w' ⟨rfl, rfl⟩
        go_wp2_with fail
        refine HG2.out.mono ?_
        rintro e w' ⟨rfl, rfl⟩
        go_wp2_with fail
        go_ret
        exact ⟨ret_bool HF.out.symm, rfl⟩
      · have hP' : P c = false := by simpa using hP
        have HF := Lib.hid (hN.trans hP')
        rw [hP'] at HG2
        clear hN HN hka HK HG hP hP'
        go_wp2_with fail
        refine HC.out.mono ?_
        rintro e w' ⟨rfl, rfl⟩
        go_wp2_with fail
        refine HG2.out.mono ?_
        rintro e w' ⟨rfl, rfl⟩
        go_wp2_with fail
        go_roundw
        case rel => exact ⟨k + 1, by omega, by go_num, by first | rfl | trivial, HF⟩
        case measure => simp [intOf]; omega
    · obtain rfl : k = s.size := by omega
      have hN := HN.out
      rw [← nums_length, List.take_length] at hN
      have HF := Lib.hid hN
      clear hN
      go_wp2_with fail
      go_ret
      exact ⟨ret_bool HF.out.symm, rfl⟩
set_option maxRecDepth 100000 in
set_option maxHeartbeats 1600000 in
theorem has_word (s : ByteArray) (hs : s.size ≤ maxLen) (w : World) :
    Calls Tryz.prog 18 #[.string s, .func (.func 19) #[] #[]] w fun e w' => e = .returned (.bool (hasL (fun k => k != 6 && k != 3) (nums s))) ∧ w = w' := by
  obtain ⟨P, hP0⟩ : ∃ P : Int → Bool, (fun k => k != 6 && k != 3) = P := ⟨_, rfl⟩
  rw [hP0]
  have HG := Lib.hid (show ∀ (k : Int) (W : World), Calls Tryz.prog 19 #[.int .i64 k] W fun e w' => e = .returned (.bool (P k)) ∧ W = w' from by rw [← hP0]; exact word_kind)
  clear hP0
  have HK := Lib.hid (fun (k : Nat) (W : World) => kind_any s k hs W)
  have hs' := hs
  unfold maxLen at hs'
  clear hs
  go_enter Tryz.func18, Tryz.ntmps18
  go_wp2_with fail
  go_loopw [8] (fun i wr => ∃ k : Nat, k ≤ s.size ∧ i = .int .i64 k ∧ w = wr ∧ Hid (hasL P ((nums s).take k) = false)) (fun i _ => s.size - (intOf i).toNat)
  case atStart => exact ⟨0, Nat.zero_le _, rfl, rfl, Lib.hid rfl⟩
  case round =>
    obtain ⟨k, hk, rfl, rfl, HN⟩ := hrel
    by_cases hlt : k < s.size
    · have d1 : decide ((k : Int) < (s.size : Int)) = true := by simp; omega
      have HC := Lib.hid (HK.out k w)
      have hka : kAt (nums s) k = knd ((nums s).getD k 0) := by unfold kAt; rw [if_neg (by rw [nums_length]; omega)]
      rw [hka] at HC
      have hN := has_take HN.out (by rw [nums_length]; exact hlt)
      have HG2 := Lib.hid (HG.out (knd ((nums s).getD k 0)) w)
      generalize knd ((nums s).getD k 0) = c at *
      by_cases hP : P c = true
      · have HF := Lib.hid (has_more (hN.trans hP))
        rw [hP] at HG2
        clear hN HN hka HK HG
        go_wp2_with fail
        refine HC.out.mono ?_
        rintro e w' ⟨rfl, rfl⟩
        go_wp2_with fail
        refine HG2.out.mono ?_
        rintro e w' ⟨rfl, rfl⟩
        go_wp2_with fail
        go_ret
        exact ⟨ret_bool HF.out.symm, rfl⟩
      · have hP' : P c = false := by simpa using hP
        have HF := Lib.hid (hN.trans hP')
        rw [hP'] at HG2
        clear hN HN hka HK HG hP hP'
        go_wp2_with fail
        refine HC.out.mono ?_
        rintro e w' ⟨rfl, rfl⟩
        go_wp2_with fail
        refine HG2.out.mono ?_
        rintro e w' ⟨rfl, rfl⟩
        go_wp2_with fail
        go_roundw
        case rel => exact ⟨k + 1, by omega, by go_num, by first | rfl | trivial, HF⟩
        case measure => simp [intOf]; omega
    · obtain rfl : k = s.size := by omega
      have hN := HN.out
      rw [← nums_length, List.take_length] at hN
      have HF := Lib.hid hN
      clear hN
      go_wp2_with fail
      go_ret
      exact ⟨ret_bool HF.out.symm, rfl⟩
theorem plain_eq (xs : List Int) : plainL xs = (decide (xs ≠ []) && (kAt xs 0 != 3) && !hasL (fun k => k != 6 && k != 3) xs) := by
  unfold plainL hasL
  rw [Bool.eq_iff_iff]
  have := kAt_drop xs 0
  rw [List.drop_zero] at this
  rw [this]
  simp
  rw [and_assoc]
  refine and_congr_right fun _ => and_congr_right fun _ => ?_
  constructor
  · intro h x hx hn
    rcases h x hx with h | h
    · exact absurd h hn
    · exact h
  · intro h x hx
    by_cases h6 : knd x = 6
    · exact Or.inl h6
    · exact Or.inr (h x hx h6)
set_option maxHeartbeats 1600000 in
theorem plain_any (s : ByteArray) (hs : s.size ≤ maxLen) (w : World) : Calls Tryz.prog 8 #[.string s] w fun e w' => e = .returned (.bool (plainL (nums s))) ∧ w = w' := by
  rw [plain_eq]
  have HK := Lib.hid (show ∀ W, Calls Tryz.prog 17 #[.string s, .int .i64 0] W fun e w' => e = .returned (.int .i64 (kAt (nums s) 0)) ∧ W = w' from fun W => kind_any s 0 hs W)
  have HH := Lib.hid (fun W => has_word s hs W)
  have hnot : ∀ (x : Bool) (w : World), (Op.unary .not (.bool x)).run Tryz.prog w = .ok (.bool (!x)) w := fun _ _ => rfl
  generalize hasL (fun k => k != 6 && k != 3) (nums s) = h at *
  by_cases he : s.size = 0
  · obtain rfl : s = ⟨#[]⟩ := by
      apply ByteArray.ext
      exact Array.eq_empty_of_size_eq_zero he
    go_enter Tryz.func8, Tryz.ntmps8
    go_wp2_with fail
    go_ret
    exact ⟨rfl, rfl⟩
  · have hne : nums s ≠ [] := fun e => he (by rw [← nums_length, e]; rfl)
    have hl : decide (nums s ≠ []) = true := by simpa using hne
    rw [hl]
    have hsl := size_ne he
    have q0 : (s.toList == ([] : List UInt8)) = false := by simpa using hsl
    have q1 : s.toList.isEmpty = false := by simpa using hsl
    have q2 : decide (s.toList = []) = false := by simpa using hsl
    obtain ⟨c, hc⟩ : ∃ c, kAt (nums s) 0 = c := ⟨_, rfl⟩
    rw [hc] at HK ⊢
    clear hc he hl hne
    by_cases h3 : c = 3
    · subst h3
      go_enter Tryz.func8, Tryz.ntmps8
      go_wp2_with (go_at_call 17; refine (HK.out _).mono ?_; rintro e w' ⟨rfl, rfl⟩)
      all_goals go_ret
      all_goals exact ⟨rfl, rfl⟩
    · have q3 : (c != 3) = true := by simpa using h3
      have q3' : decide (c = 3) = false := by simpa using h3
      clear h3
      go_enter Tryz.func8, Tryz.ntmps8
      go_wp2_with (first | (go_at_call 17; refine (HK.out _).mono ?_; rintro e w' ⟨rfl, rfl⟩) | (go_at_call 18; refine (HH.out _).mono ?_; rintro e w' ⟨rfl, rfl⟩))
      all_goals go_ret
      all_goals exact ⟨ret_bool (by rw [q3]; rfl), rfl⟩
theorem may_any (c : Int) (w : World) : Calls Tryz.prog 24 #[.int .u8 c] w fun e w' => e = .returned (.bool (decide (knd c ≠ 1))) ∧ w = w' := by
  have HR := Lib.hid (show decide (knd c ≠ 1) = decide ((32 ≤ c ∧ c ≤ 126) ∨ c = 9) from by
    rw [decide_eq_decide]
    unfold knd
    (repeat' split) <;> omega)
  rw [HR.out]
  go_enter Tryz.func24, Tryz.ntmps24
  go_wp2_with fail
  all_goals go_ret
  all_goals refine ⟨ret_bool ?_, rfl⟩
  all_goals rw [Bool.eq_iff_iff]
  all_goals simp at *
  all_goals omega
/-- A word that fits no line. -/
def badW (s : ByteArray) : Bool := decide (256 < s.size) || hasL (fun k => k == 1) (nums s)
set_option maxHeartbeats 1600000 in
theorem fits_any (s : ByteArray) (hs : s.size ≤ maxLen) (w : World) : Calls Tryz.prog 21 #[.string s] w fun e w' => e = .returned (.bool (badW s)) ∧ w = w' := by
  have HH := Lib.hid (fun W => has_odd s hs W)
  have hs' := hs
  unfold maxLen at hs'
  by_cases h : 256 < s.size
  · have HR := Lib.hid (show badW s = true from by unfold badW; rw [decide_eq_true h]; rfl)
    have d1 : decide ((s.size : Int) > 256) = true := by simp; omega
    have d2 : decide ((256 : Int) < (s.size : Int)) = true := by simp; omega
    clear h
    go_enter Tryz.func21, Tryz.ntmps21
    go_wp2_with fail
    go_ret
    exact ⟨ret_bool HR.out.symm, rfl⟩
  · have HR := Lib.hid (show badW s = hasL (fun k => k == 1) (nums s) from by unfold badW; rw [decide_eq_false h]; rfl)
    have d1 : decide ((s.size : Int) > 256) = false := by simp; omega
    have d2 : decide ((256 : Int) < (s.size : Int)) = false := by simp; omega
    clear h
    generalize hasL (fun k => k == 1) (nums s) = x at *
    go_enter Tryz.func21, Tryz.ntmps21
    go_wp2_with (go_at_call 18; refine (HH.out _).mono ?_; rintro e w' ⟨rfl, rfl⟩)
    all_goals go_ret
    all_goals exact ⟨ret_bool (by rw [HR.out]), rfl⟩
/-- Texts in a row, wherever it lies. -/
def TxtIn (w : World) (q : Option Addr) (n : Nat) (ps : List ByteArray) : Prop := ps.length = n ∧ (0 < n → ∃ b o, q = some ⟨b, o, none⟩ ∧ ∀ j, j < n → w.cell? ⟨b, o + j, none⟩ = some (.string (ps.getD j ⟨#[]⟩)))
theorem TxtIn.on {w w' : World} {q : Option Addr} {n : Nat} {ps : List ByteArray} (h : TxtIn w q n ps) (hb : Below w.heap.size w w') : TxtIn w' q n ps := ⟨h.1, fun hn => by
  obtain ⟨b, o, e, hc⟩ := h.2 hn
  exact ⟨b, o, e, fun j hj => (hb.cell (World.block_lt_of_cell? w _ (hc j hj))).trans (hc j hj)⟩⟩
theorem Strs.txt {w : World} {B : Nat} {q : Option Addr} {m d : Nat} {ps : List ByteArray} (h : Strs w B q m d ps) : TxtIn w q m ps := ⟨h.len, fun hm => by
  obtain ⟨b, e, _⟩ := h.form hm
  subst e
  exact ⟨b, 0, rfl, fun j hj => by rw [Nat.zero_add]; exact h.at j hj⟩⟩
theorem getD_mem {ps : List ByteArray} {j : Nat} (h : j < ps.length) : ps.getD j ⟨#[]⟩ ∈ ps := by
  rw [List.getD_eq_getElem?_getD, List.getElem?_eq_getElem h]
  exact List.getElem_mem h
theorem any_take {P : ByteArray → Bool} {ps : List ByteArray} {k : Nat} (h : (ps.take k).any P = false) (hk : k < ps.length) : (ps.take (k + 1)).any P = P (ps.getD k ⟨#[]⟩) := by
  rw [List.take_succ_eq_append_getElem hk, List.any_append, h, List.getD_eq_getElem?_getD, List.getElem?_eq_getElem hk]
  simp
theorem any_more {P : ByteArray → Bool} {ps : List ByteArray} {k : Nat} (h : (ps.take k).any P = true) : ps.any P = true := by
  rw [List.any_eq_true] at h ⊢
  obtain ⟨x, h1, h2⟩ := h
  exact ⟨x, List.mem_of_mem_take h1, h2⟩
set_option maxRecDepth 100000 in
set_option maxHeartbeats 4000000 in
theorem idx_any (q : Option Addr) (n d : Nat) (ps : List ByteArray) (w : World) (hn : n ≤ 16) (hi : TxtIn w q n ps) (hz : ∀ t ∈ ps, t.size ≤ maxLen) :
    Calls Tryz.prog 31 #[.slice q n d, .func (.func 21) #[] #[]] w fun e w' => (∃ r : Int, e = .returned (.int .i64 r) ∧ (decide (r ≥ 0) = ps.any badW)) ∧ w = w' := by
  have HI := Lib.hid hi
  have HZ := Lib.hid hz
  obtain ⟨R, hR⟩ : ∃ R, ps.any badW = R := ⟨_, rfl⟩
  have HR := Lib.hid hR
  rw [hR]
  clear hi hz hR
  go_enter Tryz.func31, Tryz.ntmps31
  go_wp2_with fail
  go_loopw [8] (fun i wr => ∃ k : Nat, k ≤ n ∧ i = .int .i64 k ∧ w = wr ∧ Hid ((ps.take k).any badW = false)) (fun i _ => n - (intOf i).toNat)
  case atStart => exact ⟨0, Nat.zero_le _, rfl, rfl, Lib.hid rfl⟩
  case round =>
    obtain ⟨k, hk, rfl, rfl, HN⟩ := hrel
    by_cases hlt : k < n
    · obtain ⟨b, o, rfl, hc⟩ := HI.out.2 (by omega)
      have c0 := hc k hlt
      have d1 : decide ((k : Int) < (n : Int)) = true := by simp; omega
      have hN := any_take HN.out (by rw [HI.out.1]; exact hlt)
      have HF := Lib.hid (fits_any (ps.getD k ⟨#[]⟩) (HZ.out _ (getD_mem (by rw [HI.out.1]; exact hlt))) w)
      generalize ps.getD k ⟨#[]⟩ = t at *
      by_cases hP : badW t = true
      · have HX := Lib.hid (any_more (hN.trans hP))
        rw [hP] at HF
        clear hN HN hP hc
        go_wp2_with fail
        refine HF.out.mono ?_
        rintro e w' ⟨rfl, rfl⟩
        go_wp2_with fail
        go_ret
        exact ⟨⟨_, rfl, by rw [← HR.out, HX.out]; simp⟩, rfl⟩
      · have hP' : badW t = false := by simpa using hP
        have HX := Lib.hid (hN.trans hP')
        rw [hP'] at HF
        clear hN HN hP hP' hc
        go_wp2_with fail
        refine HF.out.mono ?_
        rintro e w' ⟨rfl, rfl⟩
        go_wp2_with fail
        go_roundw
        case rel => exact ⟨k + 1, by omega, by go_num, by first | rfl | trivial, HX⟩
        case measure => simp [intOf]; omega
    · obtain rfl : k = n := by omega
      have hN := HN.out
      rw [← HI.out.1, List.take_length] at hN
      have HX := Lib.hid (HR.out.symm.trans hN)
      clear hN HN
      go_wp2_with fail
      go_ret
      exact ⟨⟨_, rfl, by rw [HX.out]; rfl⟩, rfl⟩
set_option maxRecDepth 100000 in
theorem contains_any (q : Option Addr) (n d : Nat) (ps : List ByteArray) (w : World) (hn : n ≤ 16) (hi : TxtIn w q n ps) (hz : ∀ t ∈ ps, t.size ≤ maxLen) :
    Calls Tryz.prog 20 #[.slice q n d, .func (.func 21) #[] #[]] w fun e w' => e = .returned (.bool (ps.any badW)) ∧ w = w' := by
  have HX := Lib.hid (idx_any q n d ps w hn hi hz)
  generalize ps.any badW = R at *
  clear hi hz
  go_enter Tryz.func20, Tryz.ntmps20
  go_wp2_with fail
  refine HX.out.mono ?_
  rintro e w' ⟨⟨r, rfl, hr⟩, rfl⟩
  go_wp2_with fail
  go_ret
  exact ⟨ret_bool (by first | exact hr | rw [← hr] | simpa using hr), rfl⟩
set_option maxRecDepth 100000 in
set_option maxHeartbeats 4000000 in
theorem rplain_any (s : ByteArray) (hs : s.size ≤ maxLen) (w : World) : Calls Tryz.prog 9 #[.string s] w fun e w' => e = .returned (.bool (plainL (nums s))) ∧ w = w' := by
  have hs' := hs
  unfold maxLen at hs'
  by_cases he : s.size = 0
  · obtain rfl : s = ⟨#[]⟩ := by
      apply ByteArray.ext
      exact Array.eq_empty_of_size_eq_zero he
    go_enter Tryz.func9, Tryz.ntmps9
    go_wp2_with fail
    go_ret
    exact ⟨rfl, rfl⟩
  · have hne : nums s ≠ [] := fun e => he (by rw [← nums_length, e]; rfl)
    have hsl := size_ne he
    have q0 : (s.toList == ([] : List UInt8)) = false := by simpa using hsl
    have hx0 := nums_at s 0 (by omega)
    have hk0 : kL (nums s) = knd ((nums s).getD 0 0) := by
      rw [← List.drop_zero (l := nums s), getD_drop _ _ (by rw [nums_length]; omega)]
      rfl
    have hb0 := allB_getD (nums_all s) 0
    have HP := Lib.hid (show plainL (nums s) = decide (kL (nums s) ≠ 3 ∧ ∀ x ∈ nums s, knd x = 6 ∨ knd x = 3) from by
      unfold plainL
      rw [decide_eq_decide]
      exact ⟨fun h => h.2, fun h => ⟨hne, h⟩⟩)
    obtain ⟨R, hR⟩ : ∃ R, plainL (nums s) = R := ⟨_, rfl⟩
    rw [hR] at HP ⊢
    generalize (nums s).getD 0 0 = c at *
    have q35 : (c == 35) = decide (kL (nums s) = 3) := by
      rw [hk0, Bool.eq_iff_iff]
      simp
      unfold knd
      (repeat' split) <;> omega
    by_cases h3 : kL (nums s) = 3
    · have HF := Lib.hid (show R = false from by rw [HP.out]; simp [h3])
      have q35' : (c == 35) = true := by rw [q35]; simpa using h3
      clear q35 HP hR hk0 h3 hsl hne
      go_enter Tryz.func9, Tryz.ntmps9
      go_wp2_with fail
      go_ret
      exact ⟨ret_bool HF.out.symm, rfl⟩
    · have q35' : (c == 35) = false := by rw [q35]; simpa using h3
      have HP2 := Lib.hid (show R = decide (∀ x ∈ nums s, knd x = 6 ∨ knd x = 3) from by rw [HP.out, decide_eq_decide]; exact ⟨fun h => h.2, fun h => ⟨h3, h⟩⟩)
      clear q35 HP hR hk0 h3 hsl hne
      go_enter Tryz.func9, Tryz.ntmps9
      go_wp2_with fail
      go_loopw [3] (fun i wr => ∃ k : Nat, k ≤ s.size ∧ i = .int .i64 k ∧ w = wr ∧ Hid (∀ x ∈ (nums s).take k, knd x = 6 ∨ knd x = 3)) (fun i _ => s.size - (intOf i).toNat)
      case atStart => exact ⟨0, Nat.zero_le _, rfl, rfl, Lib.hid (fun x hx => by simp at hx)⟩
      case round =>
        obtain ⟨k, hk, rfl, rfl, HN⟩ := hrel
        by_cases hlt : k < s.size
        · have d1 : decide ((k : Int) < (s.size : Int)) = true := by simp; omega
          have hx := nums_at s k hlt
          have hb := allB_getD (nums_all s) k
          have hw1 : IntKind.i64.wrap ((k : Int) + 1) = (k : Int) + 1 := IntWalk.i64_in _ (by omega)
          have hin : (nums s).getD k 0 ∈ nums s := by
            rw [List.getD_eq_getElem?_getD, List.getElem?_eq_getElem (by rw [nums_length]; exact hlt)]
            exact List.getElem_mem _
          have hst : (nums s).take (k + 1) = (nums s).take k ++ [(nums s).getD k 0] := by
            rw [List.take_succ_eq_append_getElem (by rw [nums_length]; exact hlt), List.getD_eq_getElem?_getD, List.getElem?_eq_getElem (by rw [nums_length]; exact hlt)]
            rfl
          have HYes := Lib.hid (fun h : knd ((nums s).getD k 0) = 6 ∨ knd ((nums s).getD k 0) = 3 => show ∀ x ∈ (nums s).take (k + 1), knd x = 6 ∨ knd x = 3 from fun x hx => by
            rw [hst] at hx
            rcases List.mem_append.1 hx with hx | hx
            · exact HN.out x hx
            · rw [List.mem_singleton.1 hx]; exact h)
          have HNo := Lib.hid (fun h : ¬ (knd ((nums s).getD k 0) = 6 ∨ knd ((nums s).getD k 0) = 3) => show R = false from by
            rw [HP2.out]
            exact decide_eq_false fun hall => h (hall _ hin))
          generalize (nums s).getD k 0 = x at *
          clear hin hst HN
          by_cases h63 : knd x = 6 ∨ knd x = 3
          · have HF := Lib.hid (HYes h63)
            have hxx : 33 ≤ x ∧ x ≤ 126 ∧ x ≠ 34 ∧ x ≠ 92 := by
              unfold knd at h63
              (repeat' split at h63) <;> omega
            have e1 : decide (x < 33) = false := by simp; omega
            have e2 : decide (x > 126) = false := by simp; omega
            have e3 : (x == 34) = false := by simp; omega
            have e4 : (x == 92) = false := by simp; omega
            clear HYes HNo h63 hxx
            go_wp2_with fail
            go_roundw
            case rel => exact ⟨k + 1, by omega, by go_num, by first | rfl | trivial, HF⟩
            case measure => simp [intOf]; omega
          · have HF := Lib.hid (HNo h63)
            have hxx : x < 33 ∨ (33 ≤ x ∧ 126 < x) ∨ x = 34 ∨ x = 92 := by
              unfold knd at h63
              (repeat' split at h63) <;> omega
            clear HYes HNo h63
            rcases hxx with h | h | rfl | rfl
            · have e1 : decide (x < 33) = true := by simp; omega
              clear h
              go_wp2_with fail
              go_ret
              exact ⟨ret_bool HF.out.symm, rfl⟩
            · have e1 : decide (x < 33) = false := by simp; omega
              have e2 : decide (x > 126) = true := by simp; omega
              clear h
              go_wp2_with fail
              go_ret
              exact ⟨ret_bool HF.out.symm, rfl⟩
            · go_wp2_with fail
              go_ret
              exact ⟨ret_bool HF.out.symm, rfl⟩
            · go_wp2_with fail
              go_ret
              exact ⟨ret_bool HF.out.symm, rfl⟩
        · obtain rfl : k = s.size := by omega
          have hN := HN.out
          rw [← nums_length, List.take_length] at hN
          have HX := Lib.hid (show R = true from by rw [HP2.out]; exact decide_eq_true hN)
          clear hN HN
          go_wp2_with fail
          go_ret
          exact ⟨ret_bool HX.out.symm, rfl⟩
end Go.Proofs.YtngnkkigjlenoaaGreatDoor
