/-
  Contracts: what cargo's New, Drain and Copy hand back. Conditions: as each states.
-/
import Derived.Test.YtmblgpejgdlakaaW7
namespace Go.Proofs.Ytmblgpejgdlakaa
open Go.RowKit

variable {w : World} {base g : Nat} {u : U} {S : ByteArray} {A : List Int} {last : Int} {M G : Nat} {ms : List Mk}
/-- A new cargo in a block of the call's own. -/
def OutA (S : ByteArray) (A : List Int) (last : Int) (M : Nat) (w : World) (e : Ending) (w' : World) : Prop := ∃ g u, e = .returned (.pointer (some ⟨g, 0, none⟩)) ∧ Al w' w.heap.size g u S A last M ∧ Below w.heap.size w w'
set_option maxHeartbeats 2000000 in
theorem new_al (w : World) : Calls Try.prog 10 #[] w (OutA ⟨#[]⟩ [] 0 0 w) := by
  go_enter Try.func10, Try.ntmps10
  go_wp2_with fail
  go_ret
  exact ⟨w.heap.size, (none, none), rfl, ⟨[], 0, ⟨none, 0, 0, none, 0, 0, ⟨heap_alloc_new w _, orow_nil _ _ _ _, orow_nil _ _ _ _, Nat.le_refl _⟩, rfl⟩, ⟨rfl, List.Pairwise.nil, rfl, (fun _ h => by cases h), by decide, Nat.le_refl _, by decide⟩⟩, (Below.refl _ _).alloc (Nat.le_refl _) _⟩
theorem ready_all (h : Inv S A last) : readyN A last = A.length := ready_is (Nat.le_refl _) (fun j hj => by
  rw [List.getD_eq_getElem?_getD, List.getElem?_eq_getElem hj]
  exact (h.rg _ (List.getElem_mem hj)).2) (fun h => absurd h (Nat.lt_irrefl _))
set_option maxHeartbeats 2000000 in
theorem drain_raw (h : R w base g u S ms G last) (hl : Lg G S ms A last M) :
    Calls Try.prog 18 #[.pointer (some ⟨g, 0, none⟩)] w (TookP w base g u S A last M S.size) := by
  have hK : takeK A last (S.size : Int) = S.size := by
    unfold takeK
    rw [ready_all hl.inv, hl.inv.len]
    omega
  have HL := Lib.hid (len_raw (h.on (Below.refl _ w).drew))
  have HT := Lib.hid (take_raw (h.on (Below.refl _ w).drew) hl last (S.size : Int) hK)
  have HC := Lib.hid (show w.drew.cell? ⟨g, 3, none⟩ = some (.int .i64 last) from (h.on (Below.refl _ w).drew).field.2.2.2.2)
  have HP := Lib.hid (show ∀ e w', TookP w.drew base g u S A last M S.size e w' → w'.cell? ⟨g, 3, none⟩ = some (.int .i64 last) ∧ ∃ q d, e = .returned (.slice q S.size d) ∧ TookP w base g u S A last M S.size (.returned (.slice q S.size d)) w' from fun e w' ⟨q, d, he, h1, h2, h3, u', ms', G', hc, hl', ho⟩ =>
    ⟨hc.r.field.2.2.2.2, q, d, he, q, d, rfl, h1, h2, h3, u', ms', G', hc.pre (Below.refl _ w).drew, hl', ho⟩)
  clear h hl hK
  generalize S.size = n at *
  go_enter Try.func18, Try.ntmps18
  go_wp2_with fail
  go_region_held (fun W => W.cell? ⟨g, 3, none⟩ = some (.int .i64 last))
    (first
      | exact HC.out
      | assumption)
    (first
      | (go_at_call 19; refine Calls.mono HL.out ?_; rintro e w' ⟨rfl, rfl⟩)
      | (go_at_call 21; refine Calls.mono HT.out ?_; intro e w' hr; obtain ⟨hcl, q, d, rfl, hp⟩ := HP.out e w' hr; (have HE := Lib.hid hp); clear hp hr))
  go_wp2_with fail
  go_ret
  exact HE.out
set_option maxHeartbeats 2000000 in
theorem copy_al (h : Al w base g u S A last M) : Calls Try.prog 24 #[.pointer (some ⟨g, 0, none⟩)] w (OutA S A last M w) := by
  obtain ⟨ms, G, ⟨p, n, c, q, m, d, hr, _⟩, hl⟩ := h
  have hn := hr.sizes.1
  have hm := hr.sizes.2.1
  have hSM : G + S.size ≤ 1000000 := Nat.le_trans hl.top hl.fit
  have hmlen : m ≤ 1000000 := by
    have : ∀ (l : List Mk) (f e : Nat), EndsM f l e → f + l.length ≤ e := by
      intro l
      induction l with
      | nil => intro f e he; exact Nat.le_of_eq he
      | cons x r ih => intro f e he; have := ih _ _ he.2; have := he.1; simp only [List.length_cons]; omega
    have := this _ _ _ hl.ends
    omega
  have HC := Lib.hid (show ∀ w', Below w.heap.size w w' → (w'.cell? ⟨g, 0, none⟩ = some (.slice p n c) ∧ w'.cell? ⟨g, 1, none⟩ = some (.slice q m d) ∧ w'.cell? ⟨g, 2, none⟩ = some (.int .i64 (G : Int)) ∧ w'.cell? ⟨g, 3, none⟩ = some (.int .i64 last)) ∧ Below w.heap.size w w' from fun w' hb => ⟨(hr.on hb).cells, hb⟩)
  have HB := Lib.hid (show ∀ w', Below w.heap.size w w' → Calls Try.prog 34 #[.slice p n c] w' fun e w2 => ∃ q d, e = .returned (.slice q n d) ∧ ORow w2 w.heap.size 5 1 q n d ((nums S).map (Value.int .u8)) ∧ Below w'.heap.size w' w2 from fun w' hb => by
    refine (bclone_any p n c (nums S) w' (by rw [nums_length, hn]) (fun e => by have := hr.row.non e; have := hr.row.cap; omega) (by omega) (hr.on hb).bytes).mono ?_
    rintro e w2 ⟨q, d, rfl, ho, hb2⟩
    exact ⟨q, d, rfl, ⟨ho.len, ho.cap, ho.max, ho.non, fun a e => by obtain ⟨b, o, cur, h1, h2, h3⟩ := ho.som a e; exact ⟨b, o, cur, h1, Nat.le_trans hb.size h2, h3⟩⟩, hb2⟩)
  have HM := Lib.hid (show ∀ w', Below w.heap.size w w' → Calls Try.prog 35 #[.slice q m d] w' fun e w2 => ∃ q' d', e = .returned (.slice q' m d') ∧ ORow w2 w.heap.size 68 2 q' m d' (flatM ms) ∧ Below w'.heap.size w' w2 from fun w' hb => by
    refine (mclone_any q m d ms w' (hr.on hb).mks hmlen).mono ?_
    rintro e w2 ⟨q', d', rfl, ho, hb2⟩
    exact ⟨q', d', rfl, ⟨ho.len, ho.cap, ho.max, ho.non, fun a e => by obtain ⟨b, o, cur, h1, h2, h3⟩ := ho.som a e; exact ⟨b, o, cur, h1, Nat.le_trans hb.size h2, h3⟩⟩, hb2⟩)
  have HL := Lib.hid hl
  clear hr hl hn hm hSM
  go_enter Try.func24, Try.ntmps24
  go_wp2_with fail
  go_region_held (fun w' => (w'.cell? ⟨g, 0, none⟩ = some (.slice p n c) ∧ w'.cell? ⟨g, 1, none⟩ = some (.slice q m d) ∧ w'.cell? ⟨g, 2, none⟩ = some (.int .i64 (G : Int)) ∧ w'.cell? ⟨g, 3, none⟩ = some (.int .i64 last)) ∧ Below w.heap.size w w')
    ((refine HC.out _ ?_
      go_split_ands
      first
        | with_reducible exact (Below.refl _ _).drew
        | with_reducible assumption
        | with_reducible exact Below.alloc (by assumption) (Below.size (by assumption)) _))
    (first
      | (go_at_call 34; go_split_ands; (with_reducible refine Calls.mono (HB.out _ (by assumption)) ?_); rintro e w1 ⟨qr, dr, rfl, ho, hb⟩; (have HR1 := Lib.hid ho); (have hb1 := seqB (by assumption) hb); (have HB1 := Lib.hid hb); clear ho hb)
      | (go_at_call 35; go_split_ands; (with_reducible refine Calls.mono (HM.out _ (by assumption)) ?_); rintro e w2 ⟨qm, dm, rfl, ho, hb⟩; (have HR2 := Lib.hid ho); (have hb2 := seqB (by assumption) hb); (have HB2 := Lib.hid hb); (have HBB := Lib.hid hb2); clear ho hb))
  go_split_ands
  go_wp2_with fail
  go_ret
  have hal : Below w2.heap.size w2 (w2.alloc (.cells #[.slice qr n dr, .slice qm m dm, .int .i64 (G : Int), .int .i64 last] 58)) := (Below.refl _ _).alloc (Nat.le_refl _) _
  exact ⟨w2.heap.size, (Go.Proofs.Ytmblgpejgdlakaa.blk qr, Go.Proofs.Ytmblgpejgdlakaa.blk qm), rfl, ⟨ms, G, ⟨qr, n, dr, qm, m, dm, ⟨heap_alloc_new w2 _, (HR1.out.on HB2.out).on hal, HR2.out.on hal, HBB.out.size⟩, rfl⟩, HL.out⟩, seqB HBB.out hal⟩
end Go.Proofs.Ytmblgpejgdlakaa
