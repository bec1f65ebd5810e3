/-
  Contracts since a law began, beside blocks of other kinds. Conditions: as each states.
-/
import Derived.Test.YtpohfcjmjfhdoaaW18
import Derived.Test.YtpohfcjmjfhdoaaO
namespace Go.Proofs.Ytpohfcjmjfhdoaa
open Go.RowKit Go.Sort Go.Maps

theorem do_last (L : List Due) (last kind a id : Int) : last ≤ (doL L last kind a id).last ∧ (doL L last kind a id).last ≤ last + 1 := by
  unfold doL
  repeat' split
  all_goals (simp only [same]; omega)
theorem At.bounds {w0 w : World} {B g : Nat} {L : List Due} {last : Int} (h : At w0 B g L last w) : 0 ≤ last ∧ (L.length : Int) ≤ last := by
  obtain ⟨u, m, hA, _⟩ := h
  exact ⟨hA.low, hA.cnt⟩
theorem At.rg {w0 w : World} {B g : Nat} {L : List Due} {last : Int} (h : At w0 B g L last w) : ∀ d ∈ L, (0 ≤ d.1 ∧ d.1 ≤ 1099511627776) ∧ 1 ≤ d.2 ∧ d.2 ≤ last := by
  obtain ⟨u, m, hA, _⟩ := h
  obtain ⟨s, _, hL⟩ := hA.ex
  exact hL.rg
theorem At.srt {w0 w : World} {B g : Nat} {L : List Due} {last : Int} (h : At w0 B g L last w) : Srt L ∧ (L.map (·.2)).Nodup := by
  obtain ⟨u, m, hA, _⟩ := h
  obtain ⟨s, _, hL⟩ := hA.ex
  exact ⟨hL.srt, hL.nodup⟩
/-- What does hands back, and what becomes of the alarms. -/
def ToldK (w0 w : World) (B g : Nat) (x : Ans) (e : Ending) (w' : World) : Prop := ∃ p n c, e = .returned (.agg #[.int .i64 x.N, .bool x.is, .int .i64 x.E, .slice p n c]) ∧ RowIn w' p n c x.out ∧ At w0 B g x.ds x.last w' ∧ Keeps w w'
theorem does_k {w0 w : World} {B g : Nat} {L : List Due} {last : Int} (h : At w0 B g L last w) (hl : last ≤ 1000) {kind a id : Int} (hi : Wf64 id) :
    Calls Try.prog 13 #[.pointer (some ⟨g, 0, none⟩), .agg #[.int .i64 kind, .int .i64 a, .int .i64 id]] w (ToldK w0 w B g (doL L last kind a id)) := by
  have hb := h.bounds
  obtain ⟨u, m, hA, h1, h2⟩ := h
  refine (does_al hA (by omega) (by omega) hi).mono ?_
  rintro e w' ⟨p, n, c, rfl, hr, hp⟩
  exact ⟨p, n, c, rfl, hr, At.put hA h1 h2 hp, keeps_put hA hp⟩
/-- What Take hands back, beside blocks of other kinds. -/
theorem take_k {w0 w : World} {B g : Nat} {L : List Due} {last : Int} (h : At w0 B g L last w) (now : Int) {K : Nat} (hK : dueN L now = K) {O D : List Due} (hO : L.take K = O) (hD : L.drop K = D) :
    Calls Try.prog 21 #[.pointer (some ⟨g, 0, none⟩), .int .i64 now] w fun e w' => GotT w.heap.size O K e w' ∧ At w0 B g D last w' ∧ Keeps w w' := by
  obtain ⟨u, m, hA, hb, hB⟩ := h
  refine (take_al hA now).mono ?_
  rintro e w' ⟨q, d, rfl, hT⟩
  subst hK hO hD
  have hp := put_here hT.al hT.kept
  exact ⟨⟨q, d, rfl, hT.own⟩, At.put hA hb hB hp, keeps_put hA hp⟩
theorem list_k {w0 w : World} {B g : Nat} {L : List Due} {last : Int} (h : At w0 B g L last w) {n : Nat} (hn : L.length = n) :
    Calls Try.prog 17 #[.pointer (some ⟨g, 0, none⟩)] w fun e w' => GotT w.heap.size L n e w' ∧ Below w.heap.size w w' := by
  obtain ⟨u, m, hA, hb, hB⟩ := h
  refine (list_al hA).mono ?_
  rintro e w' ⟨q, d, rfl, ho, hb'⟩
  subst hn
  exact ⟨⟨q, d, rfl, ho⟩, hb'⟩
theorem due_all {L : List Due} (h : ∀ d ∈ L, d.1 ≤ 1099511627776) : dueN L 1099511627776 = L.length := by
  refine due_is (Nat.le_refl _) (fun j hj => h _ ?_) (fun hj => absurd hj (Nat.lt_irrefl _))
  rw [List.getD_eq_getElem?_getD, List.getElem?_eq_getElem hj]
  exact List.getElem_mem hj
end Go.Proofs.Ytpohfcjmjfhdoaa
