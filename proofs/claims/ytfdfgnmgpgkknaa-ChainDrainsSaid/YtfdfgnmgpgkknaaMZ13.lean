/-
  What the program's cargo promises: its calls, by its bytes, their ticks, and the last one. Conditions: as each states.
  Contracts: what the program's own Word, Kind, Numbers, Ends and Name answer. Conditions: as each states.
  Contracts: what tick's own nearest, Right, Parse and Text answer. Conditions: as each states.
  Contracts: what the program's own rules of a toxic's numbers answer; Check, Right. Conditions: as each states.
-/
import Derived.Test.YtfdfgnmgpgkknaaMZ12
import Derived.Test.YtfdfgnmgpgkknaaMZ5
import Derived.Laws.RangeString
import Derived.Laws.RangeAny
import Derived.Lib.LaidTab
import Derived.MapKept
import Derived.OwnWalk
import Derived.Deep.RegionHeld
import Derived.Deep.RegionHeldLaw
namespace Go.Proofs.Ytfdfgnmgpgkknaa.gc
open Go.RowKit

variable {w w' w'' w0 : World} {base g base' g' : Nat} {u u' : U} {S S' : ByteArray} {A A' : List Int} {last last' : Int} {M M' : Nat}
theorem Lg.count {G : Nat} {ms : List Mk} (hl : Lg G S ms A last M) : ms.length ≤ 1000000 ∧ G + S.size ≤ 1000000 := by
  have h1 := ends_count hl.ends
  have h2 := hl.top
  have h3 := hl.fit
  exact ⟨by omega, by omega⟩
theorem putT_range (h : 0 ≤ last ∧ last ≤ 1099511627776) (a : Int) : last ≤ putT last a ∧ 0 ≤ putT last a ∧ putT last a ≤ 1099511627776 := by
  have hn := near_range a
  unfold putT
  split <;> omega
theorem low_range (h : 0 ≤ last ∧ last ≤ 1099511627776) (a : Int) : 0 ≤ low (near a) last ∧ low (near a) last ≤ 1099511627776 := by
  have hn := near_range a
  unfold low
  split <;> omega
theorem put_al (h : Al w base g u S A last M) (a : Int) {p : Option Addr} {n c : Nat} {s : ByteArray} (hs : s.size = n) (hi : Lib.BytesIn w p n (nums s)) (hM : M + s.size ≤ M') (hf : M' ≤ 1000000) :
    Calls Try.prog 62 #[.pointer (some ⟨g, 0, none⟩), .int .i64 a, .slice p n c] w fun e w' => e = .returned (.int .i64 (doC S A last 0 a 0 s).n) ∧ Put w base g u (doC S A last 0 a 0 s).S (doC S A last 0 a 0 s).A (doC S A last 0 a 0 s).last M' w' := by
  obtain ⟨ms, G, hr, hl⟩ := h
  obtain ⟨hc1, hc2⟩ := hl.count
  have htop := hl.top
  unfold doC
  rw [if_pos rfl]
  by_cases h0 : s.size = 0
  · rw [if_pos h0]
    obtain rfl : n = 0 := by omega
    refine (put_none hr a p c).mono ?_
    rintro e w' ⟨rfl, u', hc⟩
    exact ⟨rfl, u', ms, G, hc, hl.more (by omega) hf⟩
  · rw [if_neg h0]
    refine (put_some hr hc1 a hs (by omega) hi (by omega) rfl).mono ?_
    rintro e w' ⟨rfl, u', hc⟩
    have hp := putT_range hl.last a
    have hsz : (S ++ s).size = S.size + s.size := append_size' S s
    obtain ⟨l1, l2, l3, l4⟩ := lay_all (t := putT last a) (e := G + (S ++ s).size) hl.ends (by omega) hl.rise (fun m hm => Int.le_trans (hl.rg m hm).2 hp.1)
    refine ⟨rfl, u', _, G, hc, ⟨l1, l3, ?_, fun m hm => ?_, hp.2, (by show G + (S ++ s).size ≤ M'; omega), hf⟩⟩
    · rw [l2, hl.tks, show G + (S ++ s).size - (G + S.size) = s.size by omega]
    · rcases l4 m hm with h5 | h5
      · have := hl.rg m h5
        exact ⟨this.1, Int.le_trans this.2 hp.1⟩
      · rw [h5]
        exact ⟨hp.2.1, Int.le_refl _⟩
/-- Bytes that are handed back, by their number. -/
def GotB (T : ByteArray) (K : Nat) (e : Ending) (w' : World) : Prop := ∃ q d, e = .returned (.slice q K d) ∧ Lib.BytesIn w' q K (nums T) ∧ T.size = K ∧ K ≤ d ∧ d ≤ 9223372036854775807
theorem takeK_size (h : Al w base g u S A last M) {now most : Int} {K : Nat} (hK : takeK A now most = K) : (S.extract 0 K).size = K := by
  have := h.inv.len
  have := takeK_le A now most
  rw [ByteArray.size_extract]
  omega
theorem take_al (h : Al w base g u S A last M) (now most : Int) {K : Nat} (hK : takeK A now most = K) :
    Calls Try.prog 53 #[.pointer (some ⟨g, 0, none⟩), .int .i64 now, .int .i64 most] w fun e w' => GotB (S.extract 0 K) K e w' ∧ Put w base g u (S.extract K S.size) (A.drop K) last M w' := by
  have hz := takeK_size h hK
  obtain ⟨ms, G, hr, hl⟩ := h
  refine (take_raw hr hl now most hK).mono ?_
  rintro e w' ⟨q, d, rfl, h1, h2, h3, h4⟩
  exact ⟨⟨q, d, rfl, h1, hz, h2, h3⟩, putq_put h4⟩
theorem take_alq (h : Al w base g u S A last M) (now most : Int) {K : Nat} (hK : takeK A now most = K) :
    Calls Try.prog 53 #[.pointer (some ⟨g, 0, none⟩), .int .i64 now, .int .i64 most] w fun e w' => ∃ q d, e = .returned (.slice q K d) ∧ Lib.BytesIn w' q K (nums (S.extract 0 K)) ∧ (S.extract 0 K).size = K ∧ PutQ w base g u (S.extract K S.size) (A.drop K) last M q w' := by
  have hz := takeK_size h hK
  obtain ⟨ms, G, hr, hl⟩ := h
  refine (take_raw hr hl now most hK).mono ?_
  rintro e w' ⟨q, d, rfl, h1, h2, h3, h4⟩
  exact ⟨q, d, rfl, h1, hz, h4⟩
theorem drain_al (h : Al w base g u S A last M) :
    Calls Try.prog 42 #[.pointer (some ⟨g, 0, none⟩)] w fun e w' => GotB S S.size e w' ∧ Put w base g u ⟨#[]⟩ [] last M w' := by
  have hlen := h.inv.len
  obtain ⟨ms, G, hr, hl⟩ := h
  refine (drain_raw hr hl).mono ?_
  rintro e w' ⟨q, d, rfl, h1, h2, h3, h4⟩
  have e1 : S.extract 0 S.size = S := by
    apply nums_inj'
    rw [take_nums, ← nums_length, List.take_length]
  have e2 : S.extract S.size S.size = ⟨#[]⟩ := by
    apply nums_inj'
    rw [rest_nums, ← nums_length, List.drop_length]
    rfl
  have e3 : A.drop S.size = [] := by rw [← hlen, List.drop_length]
  rw [e1] at h1
  rw [e2, e3] at h4
  exact ⟨⟨q, d, rfl, h1, rfl, h2, h3⟩, putq_put h4⟩
theorem ready_al (h : Al w base g u S A last M) (now : Int) :
    Calls Try.prog 51 #[.pointer (some ⟨g, 0, none⟩), .int .i64 now] w fun e w' => e = .returned (.int .i64 (readyN A now : Int)) ∧ Below w.heap.size w w' := by
  obtain ⟨ms, G, hr, hl⟩ := h
  obtain ⟨hc1, hc2⟩ := hl.count
  rw [← hl.tks, ready_tks hl.ends]
  exact ready_raw hr hl.rise hc1 hl.ends (by omega) now rfl rfl
theorem len_al (h : Al w base g u S A last M) :
    Calls Try.prog 45 #[.pointer (some ⟨g, 0, none⟩)] w fun e w' => e = .returned (.int .i64 (S.size : Int)) ∧ Below w.heap.size w w' := by
  obtain ⟨ms, G, hr, hl⟩ := h
  refine (len_raw hr).mono ?_
  rintro e w' ⟨rfl, rfl⟩
  exact ⟨rfl, Below.refl _ _⟩
end Go.Proofs.Ytfdfgnmgpgkknaa.gc
namespace Go.Proofs.Ytfdfgnmgpgkknaa.gx
open Go.RowKit

/-! Name: a range over the signs of a text. -/
theorem name_empty {s : ByteArray} (h : s.size = 0) : nameB s = false := by
  unfold nameB
  rw [decide_eq_false (by omega), Bool.and_false]
theorem name_long {s : ByteArray} (h : 16 < s.size) : nameB s = false := by
  unfold nameB
  rw [decide_eq_false (by omega), Bool.and_false]
theorem sign_high {c : Int} (h : 128 ≤ c) : signB c = false := by
  unfold signB
  simp
  omega
set_option maxRecDepth 100000 in
set_option maxHeartbeats 4000000 in
theorem name_any (s : ByteArray) (w : World) (hs : s.size ≤ maxLen) : Calls Try.prog 73 #[.string s] w fun e w' => e = .returned (.bool (nameB s)) ∧ Below w.heap.size w w' := by
  unfold maxLen at hs
  by_cases h0 : s.data.toList = []
  · have HV := Lib.hid (name_empty (s := s) (by have : s.data.toList.length = 0 := by rw [h0]; rfl
                                                simpa using this))
    have hb : s.toList.isEmpty = true := by rw [Lib.toList_data, h0]; rfl
    clear h0
    go_enter Try.func73, Try.ntmps73
    go_wp2_with fail
    go_ret
    exact ⟨ret_bool HV.out.symm, Below.refl _ _⟩
  · have hb : s.toList.isEmpty = false := by rw [Lib.toList_data]; simpa using h0
    have hpos : 0 < s.size := by
      rcases Nat.eq_zero_or_pos s.size with h | h
      · exact absurd (List.eq_nil_of_length_eq_zero (by simpa using h)) h0
      · exact h
    clear h0
    by_cases h16 : 16 < s.size
    · have HV := Lib.hid (name_long h16)
      have hd : decide ((16 : Int) < (s.size : Int)) = true := decide_eq_true (by omega)
      go_enter Try.func73, Try.ntmps73
      go_wp2_with fail
      go_ret
      exact ⟨ret_bool HV.out.symm, Below.refl _ _⟩
    · have hd : decide ((16 : Int) < (s.size : Int)) = false := decide_eq_false (by omega)
      go_enter Try.func73, Try.ntmps73
      go_wp2_with fail
      go_loopw [] (fun w' => ∃ (k : Nat), k ≤ s.size ∧ w' = w.iter s k ∧ Hid (∀ j, j < k → signB ((nums s).getD j 0) = true)) (fun w' => s.size - w'.iterPos w.heap.size)
      case atStart => exact ⟨0, by omega, rfl, Lib.hid (fun j h => by omega)⟩
      case round =>
        obtain ⟨k, hk, rfl, HN⟩ := hrel
        by_cases hp : k < s.size
        · by_cases ha : (s[k]'hp).toNat < 128
          · have hnx : ∀ ty, (Instr.next (.pointer (some ⟨w.heap.size, 0, none⟩)) true ty).run Try.prog (w.iter s k) = _ := fun ty => run_next_ascii w s k ty hp ha
            have hc := nums_at s k hp
            generalize (s[k]'hp) = c at *
            generalize hcn : c.toNat = n at *
            have hn : (n : Int) < 128 := by omega
            cases hsg : signB ((nums s).getD k 0) with
            | false =>
              have HB := Lib.hid (name_bad hp hsg)
              rw [← hc] at hsg
              unfold signB at hsg
              simp only [Bool.or_eq_false_iff, decide_eq_false_iff_not] at hsg
              clear hc HN
              go_wp2_with fail
              all_goals first
                | (go_ret; exact ⟨ret_bool HB.out.symm, (Below.refl _ _).alloc (Nat.le_refl _) _⟩)
                | (exfalso; simp at *; omega)
            | true =>
              have HN1 := Lib.hid (show ∀ j, j < k + 1 → signB ((nums s).getD j 0) = true from fun j hj => by
                rcases Nat.lt_or_eq_of_le (Nat.le_of_lt_succ hj) with h | h
                · exact HN.out j h
                · rw [h]; exact hsg)
              rw [← hc] at hsg
              unfold signB at hsg
              simp only [Bool.or_eq_true, decide_eq_true_eq] at hsg
              clear hc HN
              go_wp2_with fail
              all_goals first
                | exact ⟨⟨k + 1, by omega, rfl, HN1⟩, by simp; omega⟩
                | (exfalso; simp at *; omega)
          · have hnx : ∀ ty, (Instr.next (.pointer (some ⟨w.heap.size, 0, none⟩)) true ty).run Try.prog (w.iter s k) = _ := fun ty => run_next_any w s k ty hp
            have hc := nums_at s k hp
            have hhi := (decode_high s k hp (by omega)).1
            have HB := Lib.hid (name_bad hp (by rw [← hc]; exact sign_high (by omega)))
            have hle := decode_le s k
            clear hc HN ha
            generalize (Utf8.decode s k).1 = c at *
            generalize k + (Utf8.decode s k).2 = k' at *
            have b1 : ¬ ((c : Int) ≤ 122) := by omega
            have b2 : ¬ ((c : Int) ≤ 57) := by omega
            have b3 : (97 : Int) ≤ c := by omega
            have b4 : (48 : Int) ≤ c := by omega
            have b5 : ((c : Int) != 95) = true := by simp; omega
            have b6 : ((c : Int) != 45) = true := by simp; omega
            go_wp2_with fail
            all_goals (go_ret; exact ⟨ret_bool HB.out.symm, (Below.refl _ _).alloc (Nat.le_refl _) _⟩)
        · have hnx : ∀ ty, (Instr.next (.pointer (some ⟨w.heap.size, 0, none⟩)) true ty).run Try.prog (w.iter s k) = _ := fun ty => run_next_end w s k ty hp
          obtain rfl : k = s.size := by omega
          have HV := Lib.hid (show nameB s = true by rw [name_good HN.out]; exact decide_eq_true ⟨hpos, by omega⟩)
          clear HN
          go_wp2_with fail
          go_ret
          exact ⟨ret_bool HV.out.symm, (Below.refl _ _).alloc (Nat.le_refl _) _⟩
end Go.Proofs.Ytfdfgnmgpgkknaa.gx
namespace Go.Proofs.Ytfdfgnmgpgkknaa.gx
open Go.RowKit

set_option maxHeartbeats 400000 in
theorem nearest_any (n : Int) (w : World) : Calls Try.prog 83 #[.int .i64 n] w fun e w' => e = .returned (.int .i64 (near n)) ∧ w = w' := by
  go_enter Try.func83, Try.ntmps83
  go_wp2
  all_goals go_ret
  all_goals exact ⟨ret_int (by unfold near; (repeat' split at *) <;> omega), rfl⟩

set_option maxHeartbeats 400000 in
theorem right_any (n : Int) (w : World) : Calls Try.prog 89 #[.int .i64 n] w fun e w' => e = .returned (.bool (n == near n)) ∧ w = w' := by
  go_enter Try.func89, Try.ntmps89
  go_wp2_with (go_at_call 83; refine (nearest_any _ _).mono ?_; rintro e w' ⟨rfl, rfl⟩)
  go_ret
  exact ⟨rfl, rfl⟩

theorem right_yes (n : Int) (w : World) (h0 : 0 ≤ n) (h1 : n ≤ 1099511627776) : Calls Try.prog 89 #[.int .i64 n] w fun e w' => e = .returned (.bool true) ∧ w = w' :=
  (right_any n w).mono fun _ _ ⟨he, hw⟩ => ⟨by rw [he, near_of n h0 h1, beq_self_eq_true], hw⟩
theorem right_no (n : Int) (w : World) (h1 : n < 0 ∨ 1099511627776 < n) : Calls Try.prog 89 #[.int .i64 n] w fun e w' => e = .returned (.bool false) ∧ w = w' :=
  (right_any n w).mono fun _ _ ⟨he, hw⟩ => ⟨by rw [he, ret_bool]; have := near_range n; simp; omega, hw⟩

theorem below_grow (w : World) (k : Nat) (os : Array Obj) : Below w.heap.size w (Sort.grow (w.drewN k) os) :=
  ⟨rfl, rfl, rfl, by simp [Sort.grow], fun i hi => by
    show (w.heap ++ os)[i]? = w.heap[i]?
    rw [Array.getElem?_append_left hi]⟩
theorem below_drewN {B : Nat} {a w : World} (h : Below B a w) (n : Nat) : Below B a (w.drewN n) := ⟨h.os, h.tape, h.output, h.size, h.block⟩

end Go.Proofs.Ytfdfgnmgpgkknaa.gx
namespace Go.Proofs.Ytfdfgnmgpgkknaa.gx
open Go.RowKit

/-! A function that tells whether a number lies between two. -/
/-- Two blocks that hold a number each. -/
def Lies (w : World) (p q : Nat) (x y : Int) : Prop := w.heap[p]? = some (.cells #[.int .i64 x] 3 (0, 0)) ∧ w.heap[q]? = some (.cells #[.int .i64 y] 3 (0, 0))
theorem Lies.on {w w' : World} {p q : Nat} {x y : Int} (h : Lies w p q x y) (hb : Below w.heap.size w w') : Lies w' p q x y := ⟨(hb.block _ (blk_lt h.1)).trans h.1, (hb.block _ (blk_lt h.2)).trans h.2⟩
/-- Two blocks that hold a function each. -/
def Bears (w : World) (p q : Nat) (f g : Value) : Prop := w.heap[p]? = some (.cells #[f] 61 (0, 0)) ∧ w.heap[q]? = some (.cells #[g] 61 (0, 0))
theorem Bears.on {w w' : World} {p q : Nat} {f g : Value} (h : Bears w p q f g) (hb : Below w.heap.size w w') : Bears w' p q f g := ⟨(hb.block _ (blk_lt h.1)).trans h.1, (hb.block _ (blk_lt h.2)).trans h.2⟩
def fromV (p q : Nat) : Value := .func (.func 96) #[] #[.pointer (some ⟨p, 0, none⟩), .pointer (some ⟨q, 0, none⟩)]
def bothV (p q : Nat) : Value := .func (.func 97) #[] #[.pointer (some ⟨p, 0, none⟩), .pointer (some ⟨q, 0, none⟩)]
def rightV : Value := .func (.func 89) #[] #[]
def FromOut (x y : Int) (w : World) (e : Ending) (w' : World) : Prop := ∃ p q, e = .returned (fromV p q) ∧ Below w.heap.size w w' ∧ Lies w' p q x y
def BothOut (f g : Value) (w : World) (e : Ending) (w' : World) : Prop := ∃ p q, e = .returned (bothV p q) ∧ Below w.heap.size w w' ∧ Bears w' p q f g
theorem size_alloc (w : World) (o : Obj) : (w.alloc o).heap.size = w.heap.size + 1 := by simp
set_option maxHeartbeats 400000 in
theorem from_any (x y : Int) (w : World) : Calls Try.prog 87 #[.int .i64 x, .int .i64 y] w (FromOut x y w) := by
  have hmf : ∀ (fn : Fn) (first cap : Array Value) (w : World), (Instr.makeFunc fn first cap).run Try.prog w = .ok (.func fn first cap) w := fun _ _ _ _ => rfl
  have h1 := heap_alloc_new w (.cells #[.int .i64 x] 3)
  have h2 := heap_alloc_new (w.alloc (.cells #[.int .i64 x] 3)) (.cells #[.int .i64 y] 3)
  have hb : Below w.heap.size w (w.alloc (.cells #[.int .i64 x] 3)) := (Below.refl _ _).alloc (Nat.le_refl _) _
  have hb2 : Below (w.alloc (.cells #[.int .i64 x] 3)).heap.size (w.alloc (.cells #[.int .i64 x] 3)) ((w.alloc (.cells #[.int .i64 x] 3)).alloc (.cells #[.int .i64 y] 3)) := (Below.refl _ _).alloc (Nat.le_refl _) _
  have HO := Lib.hid (show FromOut x y w (.returned (fromV w.heap.size (w.heap.size + 1))) ((w.alloc (.cells #[.int .i64 x] 3)).alloc (.cells #[.int .i64 y] 3)) from
    ⟨_, _, rfl, seqB hb hb2, (hb2.block _ (blk_lt h1)).trans h1, by rw [← h2, size_alloc]⟩)
  clear h1 h2 hb hb2
  go_enter Try.func87, Try.ntmps87
  go_wp2_with fail
  go_ret
  exact HO.out
set_option maxHeartbeats 400000 in
theorem both_any (f1 g1 : Fn) (c d : Array Value) (w : World) : Calls Try.prog 90 #[.func f1 #[] c, .func g1 #[] d] w (BothOut (.func f1 #[] c) (.func g1 #[] d) w) := by
  have hmf : ∀ (fn : Fn) (first cap : Array Value) (w : World), (Instr.makeFunc fn first cap).run Try.prog w = .ok (.func fn first cap) w := fun _ _ _ _ => rfl
  have h1 := heap_alloc_new w (.cells #[.func f1 #[] c] 61)
  have h2 := heap_alloc_new (w.alloc (.cells #[.func f1 #[] c] 61)) (.cells #[.func g1 #[] d] 61)
  have hb : Below w.heap.size w (w.alloc (.cells #[.func f1 #[] c] 61)) := (Below.refl _ _).alloc (Nat.le_refl _) _
  have hb2 : Below (w.alloc (.cells #[.func f1 #[] c] 61)).heap.size (w.alloc (.cells #[.func f1 #[] c] 61)) ((w.alloc (.cells #[.func f1 #[] c] 61)).alloc (.cells #[.func g1 #[] d] 61)) := (Below.refl _ _).alloc (Nat.le_refl _) _
  have HO := Lib.hid (show BothOut (.func f1 #[] c) (.func g1 #[] d) w (.returned (bothV w.heap.size (w.heap.size + 1))) ((w.alloc (.cells #[.func f1 #[] c] 61)).alloc (.cells #[.func g1 #[] d] 61)) from
    ⟨_, _, rfl, seqB hb hb2, (hb2.block _ (blk_lt h1)).trans h1, by rw [← h2, size_alloc]⟩)
  clear h1 h2 hb hb2
  go_enter Try.func90, Try.ntmps90
  go_wp2_with fail
  go_ret
  exact HO.out
def betw (x y n : Int) : Bool := decide (x ≤ n) && decide (n ≤ y)
set_option maxHeartbeats 400000 in
theorem from1_any (x y n : Int) (p q : Nat) (w : World) (h : Lies w p q x y) : Calls Try.prog 96 #[.int .i64 n, .pointer (some ⟨p, 0, none⟩), .pointer (some ⟨q, 0, none⟩)] w fun e w' => e = .returned (.bool (betw x y n)) ∧ w = w' := by
  have c1 : w.cell? ⟨p, 0, none⟩ = some (.int .i64 x) := cell_of_row _ _ 0 _ _ _ h.1
  have c2 : w.cell? ⟨q, 0, none⟩ = some (.int .i64 y) := cell_of_row _ _ 0 _ _ _ h.2
  unfold betw
  clear h
  by_cases hx : x ≤ n
  · have d : decide (x ≤ n) = true := decide_eq_true hx
    go_enter Try.func96, Try.ntmps96
    go_wp2_with fail
    go_ret
    exact ⟨ret_bool (by first | rfl | rw [d, Bool.true_and]), rfl⟩
  · have d : decide (x ≤ n) = false := decide_eq_false hx
    go_enter Try.func96, Try.ntmps96
    go_wp2_with fail
    go_ret
    exact ⟨ret_bool (by first | rfl | rw [d, Bool.false_and]), rfl⟩
/-- A rule of one number. -/
def One (w : World) (v : Value) (r : Int → Bool) : Prop := (v = rightV ∧ r = fun n => n == near n) ∨ ∃ p q x y, v = fromV p q ∧ Lies w p q x y ∧ r = betw x y
theorem One.on {w w' : World} {v : Value} {r : Int → Bool} (h : One w v r) (hb : Below w.heap.size w w') : One w' v r := by
  rcases h with h | ⟨p, q, x, y, h1, h2, h3⟩
  · exact Or.inl h
  · exact Or.inr ⟨p, q, x, y, h1, h2.on hb, h3⟩
set_option maxHeartbeats 1000000 in
theorem both1_any (a b : Int) (p q : Nat) (f g : Value) (r s : Int → Bool) (w : World) (h : Bears w p q f g) (hf : One w f r) (hg : One w g s) :
    Calls Try.prog 97 #[.int .i64 a, .int .i64 b, .pointer (some ⟨p, 0, none⟩), .pointer (some ⟨q, 0, none⟩)] w fun e w' => e = .returned (.bool (r a && s b)) ∧ w = w' := by
  have c1 : w.cell? ⟨p, 0, none⟩ = some f := cell_of_row _ _ 0 _ _ _ h.1
  have c2 : w.cell? ⟨q, 0, none⟩ = some g := cell_of_row _ _ 0 _ _ _ h.2
  clear h
  rcases hf with ⟨rfl, rfl⟩ | ⟨p1, q1, x1, y1, rfl, l1, rfl⟩
  · unfold rightV at c1
    rcases hg with ⟨rfl, rfl⟩ | ⟨p2, q2, x2, y2, rfl, l2, rfl⟩
    · unfold rightV at c2
      have HA := Lib.hid (right_any a w)
      have HB := Lib.hid (right_any b w)
      cases hA : (a == near a) with
      | true =>
        rw [hA] at HA
        go_enter Try.func97, Try.ntmps97
        go_wp2_with fail
        refine HA.out.mono ?_
        rintro e w' ⟨rfl, rfl⟩
        go_wp2_with fail
        refine HB.out.mono ?_
        rintro e w' ⟨rfl, rfl⟩
        go_wp2_with fail
        go_ret
        exact ⟨ret_bool (by first | rfl | simp [hA]), rfl⟩
      | false =>
        rw [hA] at HA
        go_enter Try.func97, Try.ntmps97
        go_wp2_with fail
        refine HA.out.mono ?_
        rintro e w' ⟨rfl, rfl⟩
        go_wp2_with fail
        go_ret
        exact ⟨ret_bool (by first | rfl | simp [hA]), rfl⟩
    · unfold fromV at c2
      have HA := Lib.hid (right_any a w)
      have HB := Lib.hid (from1_any x2 y2 b p2 q2 w l2)
      clear l2
      cases hA : (a == near a) with
      | true =>
        rw [hA] at HA
        go_enter Try.func97, Try.ntmps97
        go_wp2_with fail
        refine HA.out.mono ?_
        rintro e w' ⟨rfl, rfl⟩
        go_wp2_with fail
        refine HB.out.mono ?_
        rintro e w' ⟨rfl, rfl⟩
        go_wp2_with fail
        go_ret
        exact ⟨ret_bool (by first | rfl | simp [hA]), rfl⟩
      | false =>
        rw [hA] at HA
        go_enter Try.func97, Try.ntmps97
        go_wp2_with fail
        refine HA.out.mono ?_
        rintro e w' ⟨rfl, rfl⟩
        go_wp2_with fail
        go_ret
        exact ⟨ret_bool (by first | rfl | simp [hA]), rfl⟩
  · unfold fromV at c1
    have HA := Lib.hid (from1_any x1 y1 a p1 q1 w l1)
    clear l1
    rcases hg with ⟨rfl, rfl⟩ | ⟨p2, q2, x2, y2, rfl, l2, rfl⟩
    · unfold rightV at c2
      have HB := Lib.hid (right_any b w)
      cases hA : betw x1 y1 a with
      | true =>
        rw [hA] at HA
        go_enter Try.func97, Try.ntmps97
        go_wp2_with fail
        refine HA.out.mono ?_
        rintro e w' ⟨rfl, rfl⟩
        go_wp2_with fail
        refine HB.out.mono ?_
        rintro e w' ⟨rfl, rfl⟩
        go_wp2_with fail
        go_ret
        exact ⟨ret_bool (by first | rfl | simp [hA]), rfl⟩
      | false =>
        rw [hA] at HA
        go_enter Try.func97, Try.ntmps97
        go_wp2_with fail
        refine HA.out.mono ?_
        rintro e w' ⟨rfl, rfl⟩
        go_wp2_with fail
        go_ret
        exact ⟨ret_bool (by first | rfl | simp [hA]), rfl⟩
    · unfold fromV at c2
      have HB := Lib.hid (from1_any x2 y2 b p2 q2 w l2)
      clear l2
      cases hA : betw x1 y1 a with
      | true =>
        rw [hA] at HA
        go_enter Try.func97, Try.ntmps97
        go_wp2_with fail
        refine HA.out.mono ?_
        rintro e w' ⟨rfl, rfl⟩
        go_wp2_with fail
        refine HB.out.mono ?_
        rintro e w' ⟨rfl, rfl⟩
        go_wp2_with fail
        go_ret
        exact ⟨ret_bool (by first | rfl | simp [hA]), rfl⟩
      | false =>
        rw [hA] at HA
        go_enter Try.func97, Try.ntmps97
        go_wp2_with fail
        refine HA.out.mono ?_
        rintro e w' ⟨rfl, rfl⟩
        go_wp2_with fail
        go_ret
        exact ⟨ret_bool (by first | rfl | simp [hA]), rfl⟩
set_option maxHeartbeats 1000000 in
theorem rule1_any (a b : Int) (w : World) : Calls Try.prog 88 #[.int .i64 a, .int .i64 b] w fun e w' => e = .returned (.bool ((a == near a) && betw 0 a b)) ∧ Below w.heap.size w w' := by
  have HA := Lib.hid (right_any a w)
  have HF := Lib.hid (from_any 0 a w)
  cases hA : (a == near a) with
  | true =>
    rw [hA] at HA
    go_enter Try.func88, Try.ntmps88
    go_wp2_with fail
    refine HA.out.mono ?_
    rintro e w' ⟨rfl, rfl⟩
    go_wp2_with fail
    refine HF.out.mono ?_
    rintro e w1 ⟨p, q, rfl, hb, hl⟩
    have HB := Lib.hid hb
    have HG := Lib.hid (from1_any 0 a b p q w1 hl)
    clear hb hl
    unfold fromV
    go_wp2_with fail
    refine HG.out.mono ?_
    rintro e w' ⟨rfl, rfl⟩
    go_wp2_with fail
    go_ret
    exact ⟨ret_bool (by first | rfl | simp [hA]), HB.out⟩
  | false =>
    rw [hA] at HA
    go_enter Try.func88, Try.ntmps88
    go_wp2_with fail
    refine HA.out.mono ?_
    rintro e w' ⟨rfl, rfl⟩
    go_wp2_with fail
    go_ret
    exact ⟨ret_bool (by first | rfl | simp [hA]), Below.refl _ _⟩
end Go.Proofs.Ytfdfgnmgpgkknaa.gx
