/-
  A cargo since a law began; two of them that share nothing. Conditions: as each states.
-/
import Derived.Test.YtmblgpejgdlakaaI
namespace Go.Proofs.Ytmblgpejgdlakaa
open Go.RowKit

/-- A cargo, since the law began. -/
def At (w0 : World) (B g : Nat) (S : ByteArray) (A : List Int) (last : Int) (M : Nat) (w : World) : Prop := ∃ u, Al w B g u S A last M ∧ Below w0.heap.size w0 w ∧ w0.heap.size ≤ B
theorem At.put {w0 w w' : World} {B g : Nat} {u : U} {S S' : ByteArray} {A A' : List Int} {last last' : Int} {M M' : Nat} (h : Al w B g u S A last M) (hb : Below w0.heap.size w0 w) (hB : w0.heap.size ≤ B) (hp : Put w B g u S' A' last' M' w') : At w0 B g S' A' last' M' w' := by
  obtain ⟨u', ha⟩ := put_ex hp
  exact ⟨u', ha, put_below hb h hp hB, hB⟩
theorem At.on {w0 w w' : World} {B g : Nat} {S : ByteArray} {A : List Int} {last : Int} {M : Nat} (h : At w0 B g S A last M w) (hb : Below w.heap.size w w') : At w0 B g S A last M w' := by
  obtain ⟨u, ha, h1, h2⟩ := h
  exact ⟨u, ha.on hb, seqB h1 hb, h2⟩
theorem At.below {w0 w : World} {B g : Nat} {S : ByteArray} {A : List Int} {last : Int} {M : Nat} (h : At w0 B g S A last M w) : Below w0.heap.size w0 w := by
  obtain ⟨u, _, h1, _⟩ := h
  exact h1
theorem At.inv {w0 w : World} {B g : Nat} {S : ByteArray} {A : List Int} {last : Int} {M : Nat} (h : At w0 B g S A last M w) : Inv S A last := by
  obtain ⟨u, ha, _⟩ := h
  exact ha.inv
theorem new_at (w0 w : World) (hb : Below w0.heap.size w0 w) : Calls Try.prog 10 #[] w fun e w' => ∃ g, e = .returned (.pointer (some ⟨g, 0, none⟩)) ∧ At w0 w.heap.size g ⟨#[]⟩ [] 0 0 w' ∧ Below w.heap.size w w' :=
  (new_al w).mono fun _ _ ⟨g, u, he, ha, hb'⟩ => ⟨g, he, ⟨u, ha, seqB hb hb', hb.size⟩, hb'⟩
theorem put_at {w0 w : World} {B g : Nat} {S : ByteArray} {A : List Int} {last : Int} {M : Nat} {M' : Nat} (h : At w0 B g S A last M w) (a : Int) {p : Option Addr} {n c : Nat} {s : ByteArray} (hs : s.size = n) (hi : Lib.BytesIn w p n (nums s)) (hM : M + s.size ≤ M') (hf : M' ≤ 1000000)
    {X : DoC} (hX : doC S A last 0 a 0 s = X) :
    Calls Try.prog 26 #[.pointer (some ⟨g, 0, none⟩), .int .i64 a, .slice p n c] w fun e w' => e = .returned (.int .i64 X.n) ∧ At w0 B g X.S X.A X.last M' w' := by
  obtain ⟨u, hA, h1, h2⟩ := h
  subst hX
  refine (put_al hA a hs hi hM hf).mono ?_
  rintro e w' ⟨rfl, hp⟩
  exact ⟨rfl, At.put hA h1 h2 hp⟩
theorem take_at {w0 w : World} {B g : Nat} {S : ByteArray} {A : List Int} {last : Int} {M : Nat} (h : At w0 B g S A last M w) (now most : Int) {K : Nat} (hK : takeK A now most = K) {T S' : ByteArray} {A' : List Int} (hT : S.extract 0 K = T) (hS' : S.extract K S.size = S') (hA' : A.drop K = A') :
    Calls Try.prog 21 #[.pointer (some ⟨g, 0, none⟩), .int .i64 now, .int .i64 most] w fun e w' => GotB T K e w' ∧ At w0 B g S' A' last M w' ∧ Keeps w w' := by
  obtain ⟨u, hA, h1, h2⟩ := h
  subst hT hS' hA'
  refine (take_al hA now most hK).mono ?_
  rintro e w' ⟨hg, hp⟩
  exact ⟨hg, At.put hA h1 h2 hp, keeps_put hA hp⟩
theorem hurry_at {w0 w : World} {B g : Nat} {S : ByteArray} {A : List Int} {last : Int} {M : Nat} (h : At w0 B g S A last M w) (a : Int) {A' : List Int} {l' : Int} (hA' : lows (near a) A = A') (hl : low (near a) last = l') :
    Calls Try.prog 25 #[.pointer (some ⟨g, 0, none⟩), .int .i64 a] w fun e w' => e = .returned (.tuple #[]) ∧ At w0 B g S A' l' M w' := by
  obtain ⟨u, hA, h1, h2⟩ := h
  subst hA' hl
  refine (hurry_al hA a).mono ?_
  rintro e w' ⟨rfl, hp⟩
  exact ⟨rfl, At.put hA h1 h2 hp⟩
theorem drain_at {w0 w : World} {B g : Nat} {S : ByteArray} {A : List Int} {last : Int} {M : Nat} (h : At w0 B g S A last M w) {K : Nat} (hK : S.size = K) :
    Calls Try.prog 18 #[.pointer (some ⟨g, 0, none⟩)] w fun e w' => GotB S K e w' ∧ At w0 B g ⟨#[]⟩ [] last M w' := by
  obtain ⟨u, hA, h1, h2⟩ := h
  subst hK
  refine (drain_al hA).mono ?_
  rintro e w' ⟨hg, hp⟩
  exact ⟨hg, At.put hA h1 h2 hp⟩
theorem ready_at {w0 w : World} {B g : Nat} {S : ByteArray} {A : List Int} {last : Int} {M : Nat} (h : At w0 B g S A last M w) (now : Int) {R : Nat} (hR : readyN A now = R) :
    Calls Try.prog 16 #[.pointer (some ⟨g, 0, none⟩), .int .i64 now] w fun e w' => e = .returned (.int .i64 (R : Int)) ∧ Below w.heap.size w w' := by
  obtain ⟨u, hA, h1, h2⟩ := h
  subst hR
  exact ready_al hA now
theorem next_at {w0 w : World} {B g : Nat} {S : ByteArray} {A : List Int} {last : Int} {M : Nat} (h : At w0 B g S A last M w) {t : Int} {f : Bool} (ht : A.getD 0 0 = t) (hf : decide (0 < A.length) = f) :
    Calls Try.prog 22 #[.pointer (some ⟨g, 0, none⟩)] w fun e w' => e = .returned (.tuple #[.int .i64 t, .bool f]) ∧ Below w.heap.size w w' := by
  obtain ⟨u, hA, h1, h2⟩ := h
  subst ht hf
  exact next_al hA
theorem last_at {w0 w : World} {B g : Nat} {S : ByteArray} {A : List Int} {last : Int} {M : Nat} (h : At w0 B g S A last M w) :
    Calls Try.prog 23 #[.pointer (some ⟨g, 0, none⟩)] w fun e w' => e = .returned (.int .i64 last) ∧ Below w.heap.size w w' := by
  obtain ⟨u, hA, h1, h2⟩ := h
  exact last_al hA
theorem len_at {w0 w : World} {B g : Nat} {S : ByteArray} {A : List Int} {last : Int} {M : Nat} (h : At w0 B g S A last M w) {n : Nat} (hn : S.size = n) :
    Calls Try.prog 19 #[.pointer (some ⟨g, 0, none⟩)] w fun e w' => e = .returned (.int .i64 (n : Int)) ∧ Below w.heap.size w w' := by
  obtain ⟨u, hA, h1, h2⟩ := h
  subst hn
  exact len_al hA
theorem list_at {w0 w : World} {B g : Nat} {S : ByteArray} {A : List Int} {last : Int} {M : Nat} (h : At w0 B g S A last M w) {ps : List Pc} (hps : runsK S A S.size = ps) :
    Calls Try.prog 20 #[.pointer (some ⟨g, 0, none⟩)] w (OutP 45 ps w) := by
  obtain ⟨u, hA, h1, h2⟩ := h
  subst hps
  exact list_al hA

/-- Two that share nothing, since the law began. -/
def Both (w0 : World) (B g : Nat) (S : ByteArray) (A : List Int) (last : Int) (M : Nat) (B' g' : Nat) (S' : ByteArray) (A' : List Int) (last' : Int) (M' : Nat) (w : World) : Prop :=
  ∃ u u', Al w B g u S A last M ∧ Al w B' g' u' S' A' last' M' ∧ Two g u g' u' ∧ Below w0.heap.size w0 w ∧ w0.heap.size ≤ B ∧ w0.heap.size ≤ B'
section
variable {w0 w w' : World} {B g : Nat} {S : ByteArray} {A : List Int} {last : Int} {M : Nat} {B' g' : Nat} {S' : ByteArray} {A' : List Int} {last' : Int} {M' : Nat}
theorem Both.left (h : Both w0 B g S A last M B' g' S' A' last' M' w) : At w0 B g S A last M w := by
  obtain ⟨u, u', h1, h2, h3, h4, h5, h6⟩ := h
  exact ⟨u, h1, h4, h5⟩
theorem Both.swap (h : Both w0 B g S A last M B' g' S' A' last' M' w) : Both w0 B' g' S' A' last' M' B g S A last M w := by
  obtain ⟨u, u', h1, h2, h3, h4, h5, h6⟩ := h
  exact ⟨u', u, h2, h1, h3.symm, h4, h6, h5⟩
theorem Both.right (h : Both w0 B g S A last M B' g' S' A' last' M' w) : At w0 B' g' S' A' last' M' w := h.swap.left
theorem Both.on (h : Both w0 B g S A last M B' g' S' A' last' M' w) (hb : Below w.heap.size w w') : Both w0 B g S A last M B' g' S' A' last' M' w' := by
  obtain ⟨u, u', h1, h2, h3, h4, h5, h6⟩ := h
  exact ⟨u, u', h1.on hb, h2.on hb, h3, seqB h4 hb, h5, h6⟩
theorem both_put {u u' : U} (h1 : Al w B g u S A last M) (h2 : Al w B' g' u' S' A' last' M') (h3 : Two g u g' u') (h4 : Below w0.heap.size w0 w) (h5 : w0.heap.size ≤ B) (h6 : w0.heap.size ≤ B') {S1 : ByteArray} {A1 : List Int} {l1 : Int} {M1 : Nat} (hp : Put w B g u S1 A1 l1 M1 w') : Both w0 B g S1 A1 l1 M1 B' g' S' A' last' M' w' := by
  have hb := put_below h4 h1 hp h5
  obtain ⟨ha, u1, hc, ht⟩ := put_other h1 h2 h3 hp
  exact ⟨u1, u', hc, ha, ht, hb, h5, h6⟩
theorem copy_two (h : At w0 B g S A last M w) : Calls Try.prog 24 #[.pointer (some ⟨g, 0, none⟩)] w fun e w' => ∃ g', e = .returned (.pointer (some ⟨g', 0, none⟩)) ∧ Both w0 B g S A last M w.heap.size g' S A last M w' ∧ Below w.heap.size w w' := by
  obtain ⟨u, h1, h4, h5⟩ := h
  refine (copy_al h1).mono ?_
  rintro e w' ⟨g', u', rfl, ha, hb⟩
  exact ⟨g', rfl, ⟨u, u', h1.on hb, ha, two_far h1 hb ha, seqB h4 hb, h5, h4.size⟩, hb⟩
theorem take_b (h : Both w0 B g S A last M B' g' S' A' last' M' w) (now most : Int) {K : Nat} (hK : takeK A now most = K) {T S1 : ByteArray} {A1 : List Int} (hT : S.extract 0 K = T) (hS1 : S.extract K S.size = S1) (hA1 : A.drop K = A1) :
    Calls Try.prog 21 #[.pointer (some ⟨g, 0, none⟩), .int .i64 now, .int .i64 most] w fun e w' => GotB T K e w' ∧ Both w0 B g S1 A1 last M B' g' S' A' last' M' w' ∧ Keeps w w' := by
  obtain ⟨u, u', h1, h2, h3, h4, h5, h6⟩ := h
  subst hT hS1 hA1
  refine (take_al h1 now most hK).mono ?_
  rintro e w' ⟨hg, hp⟩
  exact ⟨hg, both_put h1 h2 h3 h4 h5 h6 hp, keeps_put h1 hp⟩
end
end Go.Proofs.Ytmblgpejgdlakaa
