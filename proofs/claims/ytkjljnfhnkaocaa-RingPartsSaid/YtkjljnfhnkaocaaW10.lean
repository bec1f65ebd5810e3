/-
  Contracts: what the statements' own does answers, and what it does to a ring. Conditions: as each states.
-/
import Derived.Test.YtkjljnfhnkaocaaW7
import Derived.Test.YtkjljnfhnkaocaaW9
namespace Go.Proofs.Ytkjljnfhnkaocaa
open Go.RowKit

/-- '[]byte(s)'. -/
theorem conv_text (s : ByteArray) (hs : s.size ≤ 140737488355328) (w : World) : ∃ c w', (convert 9 40 (.string s)).run Try.prog w = .ok (.slice (some ⟨w.heap.size, 0, none⟩) s.size c) w' ∧
    Lib.BytesIn w' (some ⟨w.heap.size, 0, none⟩) s.size (nums s) ∧ Below w.heap.size w w' ∧ s.size ≤ c ∧ c ≤ 9223372036854775807 ∧ w.heap.size < w'.heap.size ∧ ∃ cs fr, w'.heap[w.heap.size]? = some (.cells cs 5 fr) ∧ ∀ i, i < s.size → w'.frozen? ⟨w.heap.size, i, none⟩ = false := by
  have hge := grownCap_ge w s.size 0 5
  have hle := grownCap_le_maxLen w s.size 0 5 (by unfold maxLen; omega)
  have hsz : (bytesRow s (grownCap w s.size 0 5)).size = grownCap w s.size 0 5 := by
    simp [bytesRow]
    omega
  obtain ⟨C, hC⟩ : ∃ C, bytesRow s (grownCap w s.size 0 5) = C := ⟨_, rfl⟩
  have hrun := run_bytes_of_string (P := Try.prog) w 9 40 5 s Try.underlying9 Try.underlying40 Try.underlying5
  rw [hC] at hrun hsz
  have hblk : (w.drew.alloc (.cells C 5 (C.size, C.size + 1))).heap[w.heap.size]? = some (.cells C 5 (C.size, C.size + 1)) := heap_alloc_new w.drew _
  refine ⟨_, _, hrun, fun _ => ⟨_, _, rfl, fun i hi => ?_⟩, (Below.refl _ _).drew.alloc (Nat.le_refl _) _, hge, hle, by simp, _, _, hblk, fun i hi => ?_⟩
  · rw [cell_of_row _ _ _ _ _ _ hblk, ← hC]
    simp only [bytesRow, Nat.zero_add]
    rw [Array.getElem?_append_left (by simpa using hi)]
    simp [nums, List.getD, hi]
  · simp only [World.frozen?]
    rw [hblk]
    simp [hsz]
    omega

/-- What does hands back: a number, a text; and what becomes of the ring. -/
def Does (n : Nat) (t : ByteArray) (base g : Nat) (u : Option Nat) (room : Int) (xs : List Int) (w : World) (e : Ending) (w' : World) : Prop := e = .returned (.tuple #[.int .i64 n, .string t]) ∧ Put w base g u room xs w'

set_option maxHeartbeats 2000000 in
theorem does_other {base g : Nat} {u : Option Nat} {room : Int} {xs : List Int} {w : World} (h : Rg w base g u room xs) (A : ByteArray) (kind N : Int) (h0 : ¬ kind = 0) (h1 : ¬ kind = 1) (h2 : ¬ kind = 2) (h3 : ¬ kind = 3) (h4 : ¬ kind = 4) (h5 : ¬ kind = 5) :
    Calls Try.prog 15 #[.pointer (some ⟨g, 0, none⟩), .agg #[.int .i64 kind, .int .i64 N, .string A]] w (Does 0 ⟨#[]⟩ base g u room xs w) := by
  have HH := Lib.hid h
  clear h
  go_enter Try.func15, Try.ntmps15
  go_wp2_with fail
  go_ret2
  exact ⟨rfl, put_on HH.out ((Below.refl _ _).alloc (Nat.le_refl _) _)⟩
set_option maxHeartbeats 2000000 in
theorem does_clear {base g : Nat} {u : Option Nat} {room : Int} {xs : List Int} {w : World} (h : Rg w base g u room xs) (A : ByteArray) (N : Int) (n : Nat) (hn : xs.length = n) :
    Calls Try.prog 15 #[.pointer (some ⟨g, 0, none⟩), .agg #[.int .i64 5, .int .i64 N, .string A]] w (Does n ⟨#[]⟩ base g u room [] w) := by
  have hb : Below w.heap.size w (w.alloc (.cells #[.int .i64 5, .int .i64 N, .string A] 33)) := (Below.refl _ _).alloc (Nat.le_refl _) _
  have HC := Lib.hid (clear_any (h.on hb))
  rw [hn] at HC
  have HB := Lib.hid hb
  clear h hb hn
  go_enter Try.func15, Try.ntmps15
  go_wp2_with fail
  refine HC.out.mono ?_
  rintro e w1 ⟨rfl, hp⟩
  have HP := Lib.hid (Put.trans (kept_below HB.out g u) (fun _ hi => Or.inl hi) hp)
  clear hp HC
  go_wp2_with fail
  go_ret2
  exact ⟨rfl, HP.out⟩
set_option maxHeartbeats 2000000 in
theorem does_drop {base g : Nat} {u : Option Nat} {room : Int} {xs : List Int} {w : World} (h : Rg w base g u room xs) (A : ByteArray) (N : Int) (K : Nat) (hK : cut N xs.length = K) :
    Calls Try.prog 15 #[.pointer (some ⟨g, 0, none⟩), .agg #[.int .i64 4, .int .i64 N, .string A]] w (Does K ⟨#[]⟩ base g u room (xs.drop K) w) := by
  have hb : Below w.heap.size w (w.alloc (.cells #[.int .i64 4, .int .i64 N, .string A] 33)) := (Below.refl _ _).alloc (Nat.le_refl _) _
  have HC := Lib.hid (drop_any (h.on hb) N)
  rw [hK] at HC
  have HB := Lib.hid hb
  clear h hb hK
  go_enter Try.func15, Try.ntmps15
  go_wp2_with fail
  refine HC.out.mono ?_
  rintro e w1 ⟨rfl, hp⟩
  have HP := Lib.hid (Cut.trans HB.out hp).put
  clear hp HC
  go_wp2_with fail
  go_ret2
  exact ⟨rfl, HP.out⟩
set_option maxHeartbeats 2000000 in
theorem does_force {base g : Nat} {u : Option Nat} {room : Int} {xs : List Int} {w : World} (h : Rg w base g u room xs) (hbig : xs.length ≤ 100000) (A : ByteArray) (hA : A.size ≤ 100000) (N : Int) :
    Calls Try.prog 15 #[.pointer (some ⟨g, 0, none⟩), .agg #[.int .i64 1, .int .i64 N, .string A]] w (Does 0 ⟨#[]⟩ base g u room (xs ++ nums A) w) := by
  have hb : Below w.heap.size w (w.alloc (.cells #[.int .i64 1, .int .i64 N, .string A] 33)) := (Below.refl _ _).alloc (Nat.le_refl _) _
  obtain ⟨c, w1, hcv, hi, hb1, hc0, hc1, _⟩ := conv_text A (by omega) (w.alloc (.cells #[.int .i64 1, .int .i64 N, .string A] 33))
  have hb2 := seqB hb hb1
  have HC := Lib.hid (force_any (h.on hb2) (c := c) (nums_length A) (nums_all A) (fun h => by cases h) hi (by omega))
  have hsz : (w.alloc (.cells #[.int .i64 1, .int .i64 N, .string A] 33)).heap.size = w.heap.size + 1 := by simp
  rw [hsz] at hcv HC
  have HB := Lib.hid hb2
  clear h hb hi hb1 hb2 hsz
  go_enter Try.func15, Try.ntmps15
  go_wp2_with fail
  refine HC.out.mono ?_
  rintro e w2 ⟨rfl, hp⟩
  have HP := Lib.hid (Put.trans (kept_below HB.out g u) (fun _ hi => Or.inl hi) hp)
  clear hp HC
  go_wp2_with fail
  go_ret2
  exact ⟨rfl, HP.out⟩
set_option maxHeartbeats 2000000 in
theorem does_write {base g : Nat} {u : Option Nat} {room : Int} {xs : List Int} {w : World} (h : Rg w base g u room xs) (hbig : xs.length ≤ 100000) (A : ByteArray) (hA : A.size ≤ 100000) (N : Int) (K : Nat) (hK : min A.size (room.toNat - xs.length) = K) :
    Calls Try.prog 15 #[.pointer (some ⟨g, 0, none⟩), .agg #[.int .i64 0, .int .i64 N, .string A]] w (Does K ⟨#[]⟩ base g u room (xs ++ (nums A).take K) w) := by
  have hb : Below w.heap.size w (w.alloc (.cells #[.int .i64 0, .int .i64 N, .string A] 33)) := (Below.refl _ _).alloc (Nat.le_refl _) _
  obtain ⟨c, w1, hcv, hi, hb1, hc0, hc1, _⟩ := conv_text A (by omega) (w.alloc (.cells #[.int .i64 0, .int .i64 N, .string A] 33))
  have hb2 := seqB hb hb1
  have HC := Lib.hid (write_any (h.on hb2) (c := c) (nums_length A) (nums_all A) (fun h => by cases h) hi hc0 hc1 (by omega) K hK)
  have hsz : (w.alloc (.cells #[.int .i64 0, .int .i64 N, .string A] 33)).heap.size = w.heap.size + 1 := by simp
  rw [hsz] at hcv HC
  have HB := Lib.hid hb2
  clear h hb hi hb1 hb2 hsz hK
  go_enter Try.func15, Try.ntmps15
  go_wp2_with fail
  refine HC.out.mono ?_
  rintro e w2 ⟨rfl, hp⟩
  have HP := Lib.hid (Put.trans (kept_below HB.out g u) (fun _ hi => Or.inl hi) hp)
  clear hp HC
  go_wp2_with fail
  go_ret2
  exact ⟨rfl, HP.out⟩
set_option maxHeartbeats 2000000 in
theorem does_read {base g : Nat} {u : Option Nat} {room : Int} {xs : List Int} {w : World} (h : Rg w base g u room xs) (hbig : xs.length ≤ 100000) (A T : ByteArray) (N : Int) (K : Nat) (hK : cut N xs.length = K) (hT : T = strOfNums (xs.take K)) :
    Calls Try.prog 15 #[.pointer (some ⟨g, 0, none⟩), .agg #[.int .i64 2, .int .i64 N, .string A]] w (Does 0 T base g u room (xs.drop K) w) := by
  have hb : Below w.heap.size w (w.alloc (.cells #[.int .i64 2, .int .i64 N, .string A] 33)) := (Below.refl _ _).alloc (Nat.le_refl _) _
  have hblk := heap_alloc_new w (.cells #[.int .i64 2, .int .i64 N, .string A] 33)
  have hgb := h.g_base
  have hub := fun i => @Rg.u_base _ _ _ _ _ _ h i
  have hKl : K ≤ xs.length := by rw [← hK]; exact cut_le _ _
  have hcell : ∀ w' : World, (∀ i, i < w.heap.size + 1 → i ≠ g → u ≠ some i → w'.heap[i]? = (w.alloc (.cells #[.int .i64 2, .int .i64 N, .string A] 33)).heap[i]?) → w'.cell? ⟨w.heap.size, 1, none⟩ = some (.int .i64 N) := fun w' hh => by
    refine cell_of_row w' _ 1 _ _ _ ((hh w.heap.size (by omega) (by omega) (fun e => ?_)).trans hblk)
    have := (hub _ e).2
    omega
  have HC := Lib.hid (read_any (h.on (w' := (w.alloc (.cells #[.int .i64 2, .int .i64 N, .string A] 33)).drew) hb.drew) (by omega) N K hK)
  have HD := Lib.hid (show ∀ w' e, (∃ q c, e = Ending.returned (.slice q K c) ∧ Lib.BytesIn w' q K (xs.take K) ∧ (q = none → c = 0) ∧ K ≤ c ∧ c ≤ 9223372036854775807 ∧ Cut (w.alloc (.cells #[.int .i64 2, .int .i64 N, .string A] 33)).drew base g u room (xs.drop K) w' ∧ ∀ a, q = some a → a.block ≠ g ∧ u ≠ some a.block) →
      ∃ q c, e = Ending.returned (.slice q K c) ∧ (convert 40 9 (.slice q K c)).run Try.prog w' = .ok (.string T) w' ∧ w'.cell? ⟨w.heap.size, 1, none⟩ = some (.int .i64 N) ∧ Put w base g u room (xs.drop K) w' from by
    rintro w' e ⟨q, c, rfl, hi, _, _, _, hp, _⟩
    refine ⟨q, c, rfl, by rw [hT]; exact conv_bytes hi (by rw [List.length_take]; omega) c, hcell w' ?_, (Cut.trans hb.drew hp).put⟩
    exact fun i hi hg hu => hp.2.block i (by simpa using hi) hg hu)
  have HE := Lib.hid (show (w.alloc (.cells #[.int .i64 2, .int .i64 N, .string A] 33)).drew.cell? ⟨w.heap.size, 1, none⟩ = some (.int .i64 N) from hcell _ (fun i _ _ _ => rfl))
  clear h hb hblk hK hcell hT hgb hub
  go_enter Try.func15, Try.ntmps15
  go_wp2_with fail
  go_region_held (fun w' => w'.cell? ⟨w.heap.size, 1, none⟩ = some (.int .i64 N))
    (first
      | exact HE.out
      | assumption)
    (first
      | (go_at_call 23; refine HC.out.mono ?_; intro e w' hr; obtain ⟨q, c, rfl, cv, hcl, hp⟩ := HD.out w' e hr; (have HP := Lib.hid hp); clear hp hr))
  go_wp2_with fail
  go_ret2
  exact ⟨rfl, HP.out⟩
set_option maxHeartbeats 2000000 in
theorem does_peek {base g : Nat} {u : Option Nat} {room : Int} {xs : List Int} {w : World} (h : Rg w base g u room xs) (hbig : xs.length ≤ 100000) (A T : ByteArray) (N : Int) (K : Nat) (hK : cut N xs.length = K) (hT : T = strOfNums (xs.take K)) :
    Calls Try.prog 15 #[.pointer (some ⟨g, 0, none⟩), .agg #[.int .i64 3, .int .i64 N, .string A]] w (Does 0 T base g u room xs w) := by
  have hb : Below w.heap.size w (w.alloc (.cells #[.int .i64 3, .int .i64 N, .string A] 33)) := (Below.refl _ _).alloc (Nat.le_refl _) _
  have hblk := heap_alloc_new w (.cells #[.int .i64 3, .int .i64 N, .string A] 33)
  have hKl : K ≤ xs.length := by rw [← hK]; exact cut_le _ _
  have hp := peek_any (h.on (w' := (w.alloc (.cells #[.int .i64 3, .int .i64 N, .string A] 33)).drew) hb.drew) (by omega) N
  rw [hK] at hp
  have HC := Lib.hid hp
  have HD := Lib.hid (show ∀ w' e, OutB (xs.take K) (w.alloc (.cells #[.int .i64 3, .int .i64 N, .string A] 33)).drew e w' →
      ∃ q c, e = Ending.returned (.slice q K c) ∧ (convert 40 9 (.slice q K c)).run Try.prog w' = .ok (.string T) w' ∧ w'.cell? ⟨w.heap.size, 1, none⟩ = some (.int .i64 N) ∧ Put w base g u room xs w' from by
    rintro w' e ⟨v, rfl, ho, hb2⟩
    have hl : (xs.take K).length = K := by rw [List.length_take]; omega
    rw [hl] at ho
    obtain ⟨q, c, rfl, _, hi, _⟩ := own_bytes ho
    have hb3 := seqB hb.drew hb2
    exact ⟨q, c, rfl, by rw [hT]; exact conv_bytes hi hl c, cell_of_row w' _ 1 _ _ _ ((hb2.block _ (by simp [-World.drew_eq, World.drew])).trans hblk), put_on h hb3⟩)
  have HE := Lib.hid (show (w.alloc (.cells #[.int .i64 3, .int .i64 N, .string A] 33)).drew.cell? ⟨w.heap.size, 1, none⟩ = some (.int .i64 N) from cell_of_row _ _ 1 _ _ _ hblk)
  clear h hb hblk hK hT hp
  go_enter Try.func15, Try.ntmps15
  go_wp2_with fail
  go_region_held (fun w' => w'.cell? ⟨w.heap.size, 1, none⟩ = some (.int .i64 N))
    (first
      | exact HE.out
      | assumption)
    (first
      | (go_at_call 20; refine HC.out.mono ?_; intro e w' hr; obtain ⟨q, c, rfl, cv, hcl, hp⟩ := HD.out w' e hr; (have HP := Lib.hid hp); clear hp hr))
  go_wp2_with fail
  go_ret2
  exact ⟨rfl, HP.out⟩
end Go.Proofs.Ytkjljnfhnkaocaa
