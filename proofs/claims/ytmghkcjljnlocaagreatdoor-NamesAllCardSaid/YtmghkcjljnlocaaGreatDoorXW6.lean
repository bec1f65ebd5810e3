/-
  Contracts: what the program's own Right and Text of a toxic answer. Conditions: the name's length.
-/
import Derived.Test.YtmghkcjljnlocaaGreatDoorXW5
import Derived.Test.YtmghkcjljnlocaaGreatDoorXS
import Derived.Test.YtmghkcjljnlocaaGreatDoorShelfJ
namespace Go.Proofs.YtmghkcjljnlocaaGreatDoor.gx
open Go.RowKit

set_option maxRecDepth 100000 in
set_option maxHeartbeats 2000000 in
theorem rightT_any (s : ByteArray) (hs : s.size ≤ maxLen) (k : Int) (up : Bool) (o a b : Int) (w : World) : Calls Tryz.prog 70 #[.agg #[.string s, .int .i64 k, .bool up, .int .i64 o, .int .i64 a, .int .i64 b]] w fun e w' => e = .returned (.bool (checkB s k o a b == 0)) ∧ Below w.heap.size w w' := by
  have HB := Lib.hid (show Below w.heap.size w (w.alloc (.cells #[.string s, .int .i64 k, .bool up, .int .i64 o, .int .i64 a, .int .i64 b] 24)) from (Below.refl _ _).alloc (Nat.le_refl _) _)
  have HC := Lib.hid (fun W => check_any s hs k up o a b W)
  unfold Chk at HC
  generalize checkB s k o a b = C at *
  go_enter Tryz.func70, Tryz.ntmps70
  go_wp2_with fail
  refine (HC.out _).mono ?_
  rintro e w2 ⟨rfl, hb⟩
  have HE := Lib.hid (seqB HB.out hb)
  clear hb
  go_wp2_with fail
  go_ret
  exact ⟨rfl, HE.out⟩
def upd (up : Bool) : ByteArray := if up then ⟨#[117, 112]⟩ else ⟨#[100, 111, 119, 110]⟩
theorem join5 (s k u o a : ByteArray) : (⟨(Lib.join ([s, k, u, o, a].map (·.data.toList)) (⟨#[32]⟩ : ByteArray).data.toList).toArray⟩ : ByteArray) = s ++ ⟨#[32]⟩ ++ k ++ (⟨#[32]⟩ ++ u ++ ⟨#[32]⟩) ++ o ++ ⟨#[32]⟩ ++ a := by
  apply ByteArray.ext
  apply Array.ext'
  simp [Lib.join_cons, Lib.joinTail]
theorem join6 (s k u o a b : ByteArray) : (⟨(Lib.join ([s, k, u, o, a, b].map (·.data.toList)) (⟨#[32]⟩ : ByteArray).data.toList).toArray⟩ : ByteArray) = s ++ ⟨#[32]⟩ ++ k ++ (⟨#[32]⟩ ++ u ++ ⟨#[32]⟩) ++ o ++ ⟨#[32]⟩ ++ a ++ ⟨#[32]⟩ ++ b := by
  apply ByteArray.ext
  apply Array.ext'
  simp [Lib.join_cons, Lib.joinTail]
theorem way_eq (up : Bool) : (⟨#[32]⟩ ++ upd up ++ ⟨#[32]⟩ : ByteArray) = wayB up := by cases up <;> rfl
theorem join_len (xs : List ByteArray) (N : Nat) (h : ∀ x ∈ xs, x.size + 1 ≤ N) : (Lib.join (xs.map (·.data.toList)) (⟨#[32]⟩ : ByteArray).data.toList).length ≤ N * xs.length := by
  have key : ∀ r : List ByteArray, (∀ x ∈ r, x.size + 1 ≤ N) → (Lib.joinTail (⟨#[32]⟩ : ByteArray).data.toList (r.map (·.data.toList))).length ≤ N * r.length := by
    intro r
    induction r with
    | nil => intro _; simp [Lib.joinTail]
    | cons y r ih =>
      intro hr
      have h2 := ih fun z hz => hr z (by simp [hz])
      have h3 : y.data.toList.length + 1 ≤ N := by have := hr y (by simp); simpa using this
      rw [List.map_cons]
      unfold Lib.joinTail at h2 ⊢
      rw [List.map_cons, List.flatten_cons, List.length_append, List.length_append, show N * (y :: r).length = N * r.length + N from Nat.mul_succ N r.length]
      have e : (⟨#[32]⟩ : ByteArray).data.toList.length = 1 := rfl
      rw [e]
      omega
  cases xs with
  | nil => simp [Lib.join_nil]
  | cons x r =>
    rw [List.map_cons, Lib.join_cons, List.length_append]
    have h0 : x.data.toList.length + 1 ≤ N := by have := h x (by simp); simpa using this
    have h1 := key r fun y hy => h y (by simp [hy])
    rw [show N * (x :: r).length = N * r.length + N from Nat.mul_succ N r.length]
    omega
theorem row5 (w : World) (B : Nat) (hB : B ≤ w.heap.size) (a b c d e : ByteArray) : Strs (w.alloc (.cells #[.string a, .string b, .string c, .string d, .string e] 9)) B (some ⟨w.heap.size, 0, none⟩) 5 5 [a, b, c, d, e] :=
  ⟨rfl, Or.inr ⟨w.heap.size, 5, _, rfl, hB, heap_alloc_new w _, Nat.le_refl _, by unfold maxLen; omega, rfl, rfl⟩⟩
theorem join_strs {w : World} {B : Nat} {q : Option Addr} {m d n : Nat} {ps : List ByteArray} (h : Strs w B q m d ps) (hm : 0 < m) (hn : ∀ x ∈ ps, x.size ≤ n) (hb : (n + 1) * m ≤ 140737488355328) :
    Calls Tryz.prog 34 #[.slice q m d, .string ⟨#[32]⟩] w fun e w' => e = .returned (.string ⟨(Lib.join (ps.map (·.data.toList)) (⟨#[32]⟩ : ByteArray).data.toList).toArray⟩) ∧ Below w.heap.size w w' := by
  obtain ⟨b, rfl, h1, h2, h3, h4⟩ := h.form hm
  obtain rfl := h.len
  have hmul : ps.length ≤ (n + 1) * ps.length := Nat.le_mul_of_pos_left _ (by omega)
  refine Tryz.strings_Join b 0 d ps ⟨#[32]⟩ w (fun j x hx => ?_) h2 (by omega) h3 (Nat.le_trans (join_len ps (n + 1) fun x hx => Nat.succ_le_succ (hn x hx)) hb)
  have hj : j < ps.length := (List.getElem?_eq_some_iff.mp hx).1
  rw [Nat.zero_add, h.at j hj, List.getD_eq_getElem?_getD, hx]
  rfl
end Go.Proofs.YtmghkcjljnlocaaGreatDoor.gx
