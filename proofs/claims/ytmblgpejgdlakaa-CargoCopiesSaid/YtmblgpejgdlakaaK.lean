/-
  Contract: what a call of the statements does to the program's cargo. Conditions: as each states.
-/
import Derived.Test.YtmblgpejgdlakaaJ
namespace Go.Proofs.Ytmblgpejgdlakaa
open Go.RowKit

theorem conv_text (s : ByteArray) (hs : s.size ≤ 140737488355328) (w : World) : ∃ c w', (convert 9 39 (.string s)).run Try.prog w = .ok (.slice (some ⟨w.heap.size, 0, none⟩) s.size c) w' ∧
    Lib.BytesIn w' (some ⟨w.heap.size, 0, none⟩) s.size (nums s) ∧ Below w.heap.size w w' ∧ s.size ≤ c ∧ c ≤ 9223372036854775807 ∧ w.heap.size < w'.heap.size := by
  have hge := grownCap_ge w s.size 0 5
  have hle := grownCap_le_maxLen w s.size 0 5 (by unfold maxLen; omega)
  have hsz : (bytesRow s (grownCap w s.size 0 5)).size = grownCap w s.size 0 5 := by
    simp [bytesRow]
    omega
  obtain ⟨C, hC⟩ : ∃ C, bytesRow s (grownCap w s.size 0 5) = C := ⟨_, rfl⟩
  have hrun := run_bytes_of_string (P := Try.prog) w 9 39 5 s Try.underlying9 Try.underlying39 Try.underlying5
  rw [hC] at hrun hsz
  have hblk : (w.drew.alloc (.cells C 5 (C.size, C.size + 1))).heap[w.heap.size]? = some (.cells C 5 (C.size, C.size + 1)) := heap_alloc_new w.drew _
  refine ⟨_, _, hrun, fun _ => ⟨_, _, rfl, fun i hi => ?_⟩, (Below.refl _ _).drew.alloc (Nat.le_refl _) _, hge, hle, by simp⟩
  rw [cell_of_row _ _ _ _ _ _ hblk, ← hC]
  simp only [bytesRow, Nat.zero_add]
  rw [Array.getElem?_append_left (by simpa using hi)]
  simp [nums, List.getD, hi]
theorem got_text {T : ByteArray} {K : Nat} {q : Option Addr} {d : Nat} {w : World} (hi : Lib.BytesIn w q K (nums T)) (hT : T.size = K) : (convert 39 9 (.slice q K d)).run Try.prog w = .ok (.string T) w := by
  rw [conv_bytes hi (by rw [nums_length]; exact hT) d, str_nums]
/-- What does hands back: a number, a text; and what becomes of the cargo. -/
def Told (base g : Nat) (u : U) (x : DoC) (M : Nat) (w : World) (e : Ending) (w' : World) : Prop := e = .returned (.tuple #[.int .i64 x.n, .string x.t]) ∧ Put w base g u x.S x.A x.last M w'
section
variable {base g : Nat} {u : U} {S : ByteArray} {A : List Int} {last : Int} {M M' : Nat} {w : World}
set_option maxHeartbeats 2000000 in
theorem does_put (h : Al w base g u S A last M) (s : ByteArray) (hM : M + s.size ≤ M') (hf : M' ≤ 1000000) (a N : Int) {X : DoC} (hX : doC S A last 0 a 0 s = X) (ht : X.t = ⟨#[]⟩) :
    Calls Try.prog 14 #[.pointer (some ⟨g, 0, none⟩), .agg #[.int .i64 0, .int .i64 a, .int .i64 N, .string s]] w (Told base g u X M' w) := by
  have hb : Below w.heap.size w (w.alloc (.cells #[.int .i64 0, .int .i64 a, .int .i64 N, .string s] 31)) := (Below.refl _ _).alloc (Nat.le_refl _) _
  obtain ⟨c, w1, hcv, hi, hb1, _, _, _⟩ := conv_text s (by omega) (w.alloc (.cells #[.int .i64 0, .int .i64 a, .int .i64 N, .string s] 31))
  have hb2 := seqB hb hb1
  have HC := Lib.hid (put_al (h.on hb2) a (c := c) (s := s) rfl hi hM hf)
  rw [hX] at HC
  have hsz : (w.alloc (.cells #[.int .i64 0, .int .i64 a, .int .i64 N, .string s] 31)).heap.size = w.heap.size + 1 := by simp
  rw [hsz] at hcv HC
  have HB := Lib.hid hb2
  have HH := Lib.hid h
  have HT := Lib.hid ht
  clear h hb hi hb1 hb2 hsz hX ht
  go_enter Try.func14, Try.ntmps14
  go_wp2_with fail
  refine HC.out.mono ?_
  rintro e w2 ⟨rfl, hp⟩
  have HP := Lib.hid (Put.pre HH.out HB.out hp)
  clear hp HC
  go_wp2_with fail
  go_ret2
  exact ⟨by rw [HT.out]; rfl, HP.out⟩
set_option maxHeartbeats 2000000 in
theorem does_take (h : Al w base g u S A last M) (s : ByteArray) (a N : Int) {K : Nat} (hK : takeK A a N = K) {S1 T : ByteArray} {A1 : List Int} (hS1 : S.extract K S.size = S1) (hT : S.extract 0 K = T) (hA1 : A.drop K = A1) :
    Calls Try.prog 14 #[.pointer (some ⟨g, 0, none⟩), .agg #[.int .i64 1, .int .i64 a, .int .i64 N, .string s]] w (Told base g u ⟨S1, A1, last, 0, T⟩ M w) := by
  have hb : Below w.heap.size w (w.alloc (.cells #[.int .i64 1, .int .i64 a, .int .i64 N, .string s] 31)) := (Below.refl _ _).alloc (Nat.le_refl _) _
  have hblk := heap_alloc_new w (.cells #[.int .i64 1, .int .i64 a, .int .i64 N, .string s] 31)
  have hA0 := h.on (w' := (w.alloc (.cells #[.int .i64 1, .int .i64 a, .int .i64 N, .string s] 31)).drew) hb.drew
  have hC := take_al hA0 a N hK
  rw [hS1, hT, hA1] at hC
  have HC := Lib.hid hC
  have HD := Lib.hid (show ∀ w' e, (GotB T K e w' ∧ Put (w.alloc (.cells #[.int .i64 1, .int .i64 a, .int .i64 N, .string s] 31)).drew base g u S1 A1 last M w') →
      ∃ q c, e = Ending.returned (.slice q K c) ∧ (convert 39 9 (.slice q K c)).run Try.prog w' = .ok (.string T) w' ∧ (w'.cell? ⟨w.heap.size, 1, none⟩ = some (.int .i64 a) ∧ w'.cell? ⟨w.heap.size, 2, none⟩ = some (.int .i64 N)) ∧ Put w base g u S1 A1 last M w' from by
    rintro w' e ⟨⟨q, c, rfl, hi, hT2, _⟩, hp⟩
    have hk := keeps_op (keeps_put hA0 hp) (i := w.heap.size) hblk
    exact ⟨q, c, rfl, got_text hi hT2, ⟨cell_of_row _ _ 1 _ _ _ hk, cell_of_row _ _ 2 _ _ _ hk⟩, Put.pre h hb.drew hp⟩)
  have HE := Lib.hid (show (w.alloc (.cells #[.int .i64 1, .int .i64 a, .int .i64 N, .string s] 31)).drew.cell? ⟨w.heap.size, 1, none⟩ = some (.int .i64 a) ∧ (w.alloc (.cells #[.int .i64 1, .int .i64 a, .int .i64 N, .string s] 31)).drew.cell? ⟨w.heap.size, 2, none⟩ = some (.int .i64 N) from ⟨cell_of_row _ _ 1 _ _ _ hblk, cell_of_row _ _ 2 _ _ _ hblk⟩)
  clear h hb hblk hK hT hA1 hS1 hA0 hC
  go_enter Try.func14, Try.ntmps14
  go_wp2_with fail
  go_region_held (fun w' => w'.cell? ⟨w.heap.size, 1, none⟩ = some (.int .i64 a) ∧ w'.cell? ⟨w.heap.size, 2, none⟩ = some (.int .i64 N))
    (first
      | exact HE.out
      | assumption)
    (first
      | (go_at_call 21; refine HC.out.mono ?_; intro e w' hr; obtain ⟨q, c, rfl, cv, hcl, hp⟩ := HD.out w' e hr; (have HP := Lib.hid hp); clear hp hr))
  go_wp2_with fail
  go_ret2
  exact ⟨rfl, HP.out⟩
set_option maxHeartbeats 2000000 in
theorem does_hurry (h : Al w base g u S A last M) (s : ByteArray) (a N : Int) {A1 : List Int} {l1 : Int} (hA1 : lows (near a) A = A1) (hl1 : low (near a) last = l1) :
    Calls Try.prog 14 #[.pointer (some ⟨g, 0, none⟩), .agg #[.int .i64 2, .int .i64 a, .int .i64 N, .string s]] w (Told base g u ⟨S, A1, l1, 0, ⟨#[]⟩⟩ M w) := by
  have hb : Below w.heap.size w (w.alloc (.cells #[.int .i64 2, .int .i64 a, .int .i64 N, .string s] 31)) := (Below.refl _ _).alloc (Nat.le_refl _) _
  have hC := hurry_al (h.on hb) a
  rw [hA1, hl1] at hC
  have HC := Lib.hid hC
  have HB := Lib.hid hb
  have HH := Lib.hid h
  clear h hb hA1 hl1 hC
  go_enter Try.func14, Try.ntmps14
  go_wp2_with fail
  refine HC.out.mono ?_
  rintro e w1 ⟨rfl, hp⟩
  have HP := Lib.hid (Put.pre HH.out HB.out hp)
  clear hp HC
  go_wp2_with fail
  go_ret2
  exact ⟨rfl, HP.out⟩
set_option maxHeartbeats 2000000 in
theorem does_drain (h : Al w base g u S A last M) (s : ByteArray) (a N : Int) :
    Calls Try.prog 14 #[.pointer (some ⟨g, 0, none⟩), .agg #[.int .i64 3, .int .i64 a, .int .i64 N, .string s]] w (Told base g u ⟨⟨#[]⟩, [], last, 0, S⟩ M w) := by
  have hb : Below w.heap.size w (w.alloc (.cells #[.int .i64 3, .int .i64 a, .int .i64 N, .string s] 31)) := (Below.refl _ _).alloc (Nat.le_refl _) _
  obtain ⟨K, hK⟩ : ∃ K, S.size = K := ⟨_, rfl⟩
  have hA0 := h.on (w' := (w.alloc (.cells #[.int .i64 3, .int .i64 a, .int .i64 N, .string s] 31)).drew) hb.drew
  have hC := drain_al hA0
  rw [hK] at hC
  have HC := Lib.hid hC
  have HD := Lib.hid (show ∀ w' e, (GotB S K e w' ∧ Put (w.alloc (.cells #[.int .i64 3, .int .i64 a, .int .i64 N, .string s] 31)).drew base g u ⟨#[]⟩ [] last M w') →
      ∃ q c, e = Ending.returned (.slice q K c) ∧ (convert 39 9 (.slice q K c)).run Try.prog w' = .ok (.string S) w' ∧ Put w base g u ⟨#[]⟩ [] last M w' from by
    rintro w' e ⟨⟨q, c, rfl, hi, hT2, _⟩, hp⟩
    exact ⟨q, c, rfl, got_text hi hT2, Put.pre h hb.drew hp⟩)
  clear h hb hK hA0 hC
  go_enter Try.func14, Try.ntmps14
  go_wp2_with fail
  go_region_held (fun _ => True)
    (trivial)
    (first
      | (go_at_call 18; refine HC.out.mono ?_; intro e w' hr; obtain ⟨q, c, rfl, cv, hp⟩ := HD.out w' e hr; (have HP := Lib.hid hp); clear hp hr))
  go_wp2_with fail
  go_ret2
  exact ⟨rfl, HP.out⟩
set_option maxHeartbeats 2000000 in
theorem does_other (h : Al w base g u S A last M) (s : ByteArray) (kind a N : Int) (h0 : ¬ kind = 0) (h1 : ¬ kind = 1) (h2 : ¬ kind = 2) (h3 : ¬ kind = 3) :
    Calls Try.prog 14 #[.pointer (some ⟨g, 0, none⟩), .agg #[.int .i64 kind, .int .i64 a, .int .i64 N, .string s]] w (Told base g u ⟨S, A, last, 0, ⟨#[]⟩⟩ M w) := by
  have hb : Below w.heap.size w (w.alloc (.cells #[.int .i64 kind, .int .i64 a, .int .i64 N, .string s] 31)) := (Below.refl _ _).alloc (Nat.le_refl _) _
  have HP := Lib.hid (Put.pre h hb (put_same (h.on hb)))
  clear h hb
  go_enter Try.func14, Try.ntmps14
  go_wp2_with fail
  go_ret2
  exact ⟨rfl, HP.out⟩
theorem doC_put (S : ByteArray) (A : List Int) (last a N : Int) (s : ByteArray) : doC S A last 0 a N s = doC S A last 0 a 0 s ∧ (doC S A last 0 a 0 s).t = ⟨#[]⟩ := by
  unfold doC
  rw [if_pos rfl, if_pos rfl]
  refine ⟨rfl, ?_⟩
  split <;> rfl
theorem told_more {X : DoC} (hM : M ≤ M') (hf : M' ≤ 1000000) {e : Ending} {w' : World} (h : Told base g u X M w e w') : Told base g u X M' w e w' := ⟨h.1, h.2.more hM hf⟩
theorem does_al (h : Al w base g u S A last M) {s : ByteArray} (hM : M + s.size ≤ M') (hf : M' ≤ 1000000) {kind a N : Int} :
    Calls Try.prog 14 #[.pointer (some ⟨g, 0, none⟩), .agg #[.int .i64 kind, .int .i64 a, .int .i64 N, .string s]] w (Told base g u (doC S A last kind a N s) M' w) := by
  have hMM : M ≤ M' := by omega
  by_cases k0 : kind = 0
  · subst k0
    rw [(doC_put S A last a N s).1]
    exact does_put h s hM hf a N rfl (doC_put S A last a N s).2
  · unfold doC
    rw [if_neg k0]
    by_cases k1 : kind = 1
    · subst k1
      rw [if_pos rfl]
      exact (does_take h s a N rfl rfl rfl rfl).mono fun _ _ h => told_more hMM hf h
    · rw [if_neg k1]
      by_cases k2 : kind = 2
      · subst k2
        rw [if_pos rfl]
        exact (does_hurry h s a N rfl rfl).mono fun _ _ h => told_more hMM hf h
      · rw [if_neg k2]
        by_cases k3 : kind = 3
        · subst k3
          rw [if_pos rfl]
          exact (does_drain h s a N).mono fun _ _ h => told_more hMM hf h
        · rw [if_neg k3]
          exact (does_other h s kind a N k0 k1 k2 k3).mono fun _ _ h => told_more hMM hf h
/-- How many bytes there are behind a call. -/
theorem doC_size (S : ByteArray) (A : List Int) (last kind a N : Int) (s : ByteArray) : (doC S A last kind a N s).S.size ≤ S.size + s.size := by
  unfold doC
  split
  · split
    · exact Nat.le_add_right _ _
    · show (S ++ s).size ≤ _
      rw [append_size']
      exact Nat.le_refl _
  · split
    · show (S.extract _ _).size ≤ _
      rw [ByteArray.size_extract]
      omega
    · split
      · exact Nat.le_add_right _ _
      · split
        · exact Nat.zero_le _
        · exact Nat.le_add_right _ _
end
section
variable {w0 w : World} {B g : Nat} {S : ByteArray} {A : List Int} {last : Int} {M : Nat} {B' g' : Nat} {S' : ByteArray} {A' : List Int} {last' : Int} {M' M1 : Nat}
theorem does_at (h : At w0 B g S A last M w) {s : ByteArray} (hM : M + s.size ≤ M1) (hf : M1 ≤ 1000000) {kind a N : Int} {X : DoC} (hX : doC S A last kind a N s = X) :
    Calls Try.prog 14 #[.pointer (some ⟨g, 0, none⟩), .agg #[.int .i64 kind, .int .i64 a, .int .i64 N, .string s]] w fun e w' => e = .returned (.tuple #[.int .i64 X.n, .string X.t]) ∧ At w0 B g X.S X.A X.last M1 w' ∧ Keeps w w' := by
  obtain ⟨u, hA, h1, h2⟩ := h
  subst hX
  refine (does_al hA hM hf).mono ?_
  rintro e w' ⟨rfl, hp⟩
  exact ⟨rfl, At.put hA h1 h2 hp, keeps_put hA hp⟩
theorem does_b (h : Both w0 B g S A last M B' g' S' A' last' M' w) {s : ByteArray} (hM : M + s.size ≤ M1) (hf : M1 ≤ 1000000) {kind a N : Int} {X : DoC} (hX : doC S A last kind a N s = X) :
    Calls Try.prog 14 #[.pointer (some ⟨g, 0, none⟩), .agg #[.int .i64 kind, .int .i64 a, .int .i64 N, .string s]] w fun e w' => e = .returned (.tuple #[.int .i64 X.n, .string X.t]) ∧ Both w0 B g X.S X.A X.last M1 B' g' S' A' last' M' w' ∧ Keeps w w' := by
  obtain ⟨u, u', h1, h2, h3, h4, h5, h6⟩ := h
  subst hX
  refine (does_al h1 hM hf).mono ?_
  rintro e w' ⟨rfl, hp⟩
  exact ⟨rfl, both_put h1 h2 h3 h4 h5 h6 hp, keeps_put h1 hp⟩
end
end Go.Proofs.Ytmblgpejgdlakaa
