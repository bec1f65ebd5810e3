/-
  Contracts since a law began; what alive answers. Conditions: as each states.
-/
import Derived.Test.YtpohfcjmjfhdoaaW17
namespace Go.Proofs.Ytpohfcjmjfhdoaa
open Go.RowKit Go.Sort Go.Maps

theorem new_at (w0 w : World) (hb : Below w0.heap.size w0 w) : Calls Try.prog 10 #[] w fun e w' => e = .returned (.pointer (some ⟨w.heap.size + 1, 0, none⟩)) ∧ At w0 w.heap.size (w.heap.size + 1) [] 0 w' :=
  (new_al w).mono fun _ _ ⟨he, ha, hb'⟩ => ⟨he, none, w.heap.size, ha, seqB hb hb', hb.size⟩
theorem set_at {w0 w : World} {B g : Nat} {L : List Due} {last : Int} (h : At w0 B g L last w) (hmax : L.length < 4096) (htop : last + 1 ≤ 100000) {a : Int} (ha : rightB a = true) {L' : List Due} {N : Int} (hN : last + 1 = N) (hL : putD L (a, N) = L') :
    Calls Try.prog 20 #[.pointer (some ⟨g, 0, none⟩), .int .i64 a] w fun e w' => e = .returned (.tuple #[.int .i64 N, .int .i64 0]) ∧ At w0 B g L' N w' := by
  obtain ⟨u, m, hA, hb, hB⟩ := h
  refine (set_al hA hmax htop ha).mono ?_
  rintro e w' ⟨rfl, hp⟩
  subst hN hL
  exact ⟨rfl, At.put hA hb hB hp⟩
theorem bad_at {w0 w : World} {B g : Nat} {L : List Due} {last : Int} (h : At w0 B g L last w) {a : Int} (ha : rightB a = false) :
    Calls Try.prog 20 #[.pointer (some ⟨g, 0, none⟩), .int .i64 a] w fun e w' => e = .returned (.tuple #[.int .i64 0, .int .i64 1]) ∧ At w0 B g L last w' := by
  refine (set_bad g ha).mono ?_
  rintro e w' ⟨rfl, rfl⟩
  exact ⟨rfl, h⟩
theorem cancel_at {w0 w : World} {B g : Nat} {L : List Due} {last : Int} (h : At w0 B g L last w) {id : Int} (hi : -9223372036854775808 ≤ id ∧ id ≤ 9223372036854775807) {F : Bool} (hF : isIn L id = F) {L' : List Due} (hL : (if F = true then L.eraseIdx (findN L id) else L) = L') :
    Calls Try.prog 25 #[.pointer (some ⟨g, 0, none⟩), .int .i64 id] w fun e w' => e = .returned (.bool F) ∧ At w0 B g L' last w' := by
  obtain ⟨u, m, hA, hb, hB⟩ := h
  refine (cancel_al hA hi).mono ?_
  rintro e w' ⟨rfl, hp⟩
  rw [hF, hL] at hp
  rw [hF]
  exact ⟨rfl, At.put hA hb hB hp⟩
/-- What Take hands back is the caller's own. -/
def GotT (B0 : Nat) (O : List Due) (K : Nat) (e : Ending) (w' : World) : Prop := ∃ q d, e = .returned (.slice q K d) ∧ w'.ownsRow B0 38 2 (.slice q K d) K (flat O)
theorem take_at {w0 w : World} {B g : Nat} {L : List Due} {last : Int} (h : At w0 B g L last w) (now : Int) {K : Nat} (hK : dueN L now = K) {O D : List Due} (hO : L.take K = O) (hD : L.drop K = D) :
    Calls Try.prog 21 #[.pointer (some ⟨g, 0, none⟩), .int .i64 now] w fun e w' => GotT w.heap.size O K e w' ∧ At w0 B g D last w' := by
  obtain ⟨u, m, hA, hb, hB⟩ := h
  refine (take_al hA now).mono ?_
  rintro e w' ⟨q, d, rfl, hT⟩
  subst hK hO hD
  exact ⟨⟨q, d, rfl, hT.own⟩, At.put hA hb hB (put_here hT.al hT.kept)⟩
theorem len_at {w0 w : World} {B g : Nat} {L : List Due} {last : Int} (h : At w0 B g L last w) {n : Nat} (hn : L.length = n) :
    Calls Try.prog 18 #[.pointer (some ⟨g, 0, none⟩)] w fun e w' => e = .returned (.int .i64 (n : Int)) ∧ w = w' := by
  obtain ⟨u, m, hA, _⟩ := h
  rw [← hn]
  exact len_al hA
theorem check_at {w0 w : World} {B g : Nat} {L : List Due} {last : Int} (h : At w0 B g L last w) :
    Calls Try.prog 19 #[.pointer (some ⟨g, 0, none⟩)] w fun e w' => e = .returned (.bool true) ∧ Below w.heap.size w w' := by
  obtain ⟨u, m, hA, _⟩ := h
  exact check_al hA
/-- The statements' own rows, of what was handed back. -/
theorem rows_got {w : World} {B0 K : Nat} {q : Option Addr} {d : Nat} {O : List Due} (ho : w.ownsRow B0 38 2 (.slice q K d) K (flat O)) (hbig : K ≤ 100000) :
    Calls Try.prog 16 #[.slice q K d] w fun e w' => ∃ q' d', e = .returned (.slice q' K d') ∧ RowIn w' q' K d' O ∧ Below w.heap.size w w' := by
  obtain ⟨p', c', e', hl', hi', _, hnc', hc'⟩ := own_dues ho
  cases e'
  refine (rows_any q K d O w hl' hbig hnc' hc' hi').mono ?_
  rintro e w' ⟨q', d', rfl, ho', hb⟩
  rw [hl'] at ho' ⊢
  exact ⟨q', d', rfl, row_of_own ho' (fun _ _ => rfl), hb⟩
theorem same_rows {w : World} {p q : Option Addr} {n c m d : Nat} {ds es : List Due} (h : RowIn w p n c ds) (k : RowIn w q m d es) {F : Bool} (hF : sameB ds es = F) :
    Calls Try.prog 15 #[.slice p n c, .slice q m d] w fun e w' => e = .returned (.bool F) ∧ Below w.heap.size w w' := by
  rw [← hF]
  exact same_any p q n c m d ds es w h.1 k.1 h.2.1 h.2.2.1 k.2.1 k.2.2.1 h.2.2.2.1 k.2.2.2.1
theorem same_refl (ds : List Due) : sameB ds ds = true := by simp [sameB]

set_option maxHeartbeats 8000000 in
set_option maxRecDepth 10000 in
theorem alive_any (w : World) : Calls Try.prog 11 #[] w fun e w' => e = .returned (.bool true) ∧ Below w.heap.size w w' := by
  go_enter Try.func11, Try.ntmps11
  go_wp2_with fail
  refine (new_at w _ (Below.refl _ _)).mono ?_
  rintro e w1 ⟨rfl, ha⟩
  have HA1 := Lib.hid ha
  clear ha
  generalize w.heap.size + 1 = g at *
  generalize hB : w.heap.size = B at HA1
  clear hB
  go_wp2_with fail
  refine (set_at HA1.out (a := 5) (N := 1) (L' := [(5, 1)]) (by simp) (by omega) (by decide) (by omega) (by decide)).mono ?_
  rintro e w2 ⟨rfl, ha⟩
  have HA2 := Lib.hid ha
  clear ha HA1
  go_wp2_with fail
  refine (set_at HA2.out (a := 3) (N := 2) (L' := [(3, 2), (5, 1)]) (by simp) (by omega) (by decide) (by omega) (by decide)).mono ?_
  rintro e w3 ⟨rfl, ha⟩
  have HA3 := Lib.hid ha
  clear ha HA2
  go_wp2_with fail
  refine (set_at HA3.out (a := 5) (N := 3) (L' := [(3, 2), (5, 1), (5, 3)]) (by simp) (by omega) (by decide) (by omega) (by decide)).mono ?_
  rintro e w4 ⟨rfl, ha⟩
  have HA4 := Lib.hid ha
  clear ha HA3
  go_wp2_with fail
  refine (bad_at HA4.out (a := -1) (by decide)).mono ?_
  rintro e w5 ⟨rfl, ha⟩
  have HA5 := Lib.hid ha
  clear ha HA4
  go_wp2_with fail
  refine (cancel_at HA5.out (id := 1) (by omega) (F := true) (by decide) (L' := [(3, 2), (5, 3)]) (by decide)).mono ?_
  rintro e w6 ⟨rfl, ha⟩
  have HA6 := Lib.hid ha
  clear ha HA5
  go_wp2_with fail
  refine (take_at HA6.out 9 (K := 2) (by decide) (O := [(3, 2), (5, 3)]) (D := []) (by decide) (by decide)).mono ?_
  rintro e w7 ⟨⟨q, d, rfl, ho⟩, ha⟩
  have HO := Lib.hid ho
  have HA7 := Lib.hid ha
  clear ha ho HA6
  go_wp2_with fail
  refine (rows_got HO.out (by omega)).mono ?_
  rintro e w8 ⟨q', d', rfl, hr, hb⟩
  have HR := Lib.hid hr
  have HA8 := Lib.hid (HA7.out.on hb)
  clear hr hb HA7 HO
  go_wp2_with fail
  have hal : Below w8.heap.size w8 (w8.alloc (.cells #[.int .i64 3, .int .i64 2, .int .i64 5, .int .i64 3] 46)) := (Below.refl _ _).alloc (Nat.le_refl _) _
  have HA9 := Lib.hid (HA8.out.on hal)
  have HR9 := Lib.hid (row_on HR.out hal)
  have HT9 := Lib.hid (show RowIn (w8.alloc (.cells #[.int .i64 3, .int .i64 2, .int .i64 5, .int .i64 3] 46)) (some ⟨w8.heap.size, 0, none⟩) 2 2 [(3, 2), (5, 3)] from ⟨rfl, by omega, by omega, made_two w8 3 2 5 3 _ _, fun _ => ⟨_, _, _, rfl, heap_alloc_new w8 _⟩⟩)
  clear hal HA8 HR
  generalize w8.alloc (.cells #[.int .i64 3, .int .i64 2, .int .i64 5, .int .i64 3] 46) = w9 at *
  refine (same_rows HR9.out HT9.out (same_refl _)).mono ?_
  rintro e w10 ⟨rfl, hb⟩
  have HA10 := Lib.hid (HA9.out.on hb)
  clear hb HA9 HR9 HT9
  go_wp2_with fail
  refine (len_at HA10.out (n := 0) rfl).mono ?_
  rintro e w11 ⟨rfl, rfl⟩
  go_wp2_with fail
  refine (check_at HA10.out).mono ?_
  rintro e w12 ⟨rfl, hb⟩
  have HE := Lib.hid (HA10.out.on hb).below
  clear hb HA10
  go_wp2_with fail
  go_ret
  exact ⟨rfl, HE.out⟩
end Go.Proofs.Ytpohfcjmjfhdoaa
