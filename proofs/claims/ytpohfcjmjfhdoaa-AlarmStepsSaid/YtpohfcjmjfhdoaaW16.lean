/-
  Contract: the statements' own does, whole; what alive answers. Conditions: as each states.
-/
import Derived.Test.YtpohfcjmjfhdoaaW15
namespace Go.Proofs.Ytpohfcjmjfhdoaa
open Go.RowKit Go.Sort Go.Maps

set_option maxHeartbeats 8000000 in
set_option maxRecDepth 10000 in
theorem does_other {w : World} {base g : Nat} {u : Option Nat} {m : Nat} {L : List Due} {last : Int} (h : Al w base g u m L last) {kind a id : Int} (h0 : ¬ kind = 0) (h1 : ¬ kind = 1) (h2 : ¬ kind = 2) (h3 : ¬ kind = 3) (h4 : ¬ kind = 4) :
    Calls Try.prog 13 #[.pointer (some ⟨g, 0, none⟩), .agg #[.int .i64 kind, .int .i64 a, .int .i64 id]] w (Told w base g u m ⟨L, last, 0, false, 0, []⟩) := by
  have HH := Lib.hid h
  clear h
  go_enter Try.func13, Try.ntmps13
  go_wp2_with fail
  exact bodyPost_ret (v := .agg #[.int .i64 0, .bool false, .int .i64 0, .slice none 0 0]) (by simp [results, Try.results13, go_sem]) rfl ⟨_, _, _, rfl, row_nil _ _, put_on HH.out (below3 _ _ _ _)⟩
theorem does_al {w : World} {base g : Nat} {u : Option Nat} {m : Nat} {L : List Due} {last : Int} (h : Al w base g u m L last) (hmax : L.length < 4096) (htop : last + 1 ≤ 100000) {kind a id : Int} (hi : -9223372036854775808 ≤ id ∧ id ≤ 9223372036854775807) :
    Calls Try.prog 13 #[.pointer (some ⟨g, 0, none⟩), .agg #[.int .i64 kind, .int .i64 a, .int .i64 id]] w (Told w base g u m (doL L last kind a id)) := by
  by_cases k0 : kind = 0
  · subst k0
    cases hr : rightB a with
    | true => rw [do_0 L last a id hr]; exact does_set h hmax htop hr
    | false => rw [do_0n L last a id hr]; exact does_bad h hr
  by_cases k1 : kind = 1
  · subst k1
    rw [do_1]
    exact does_cancel h hi
  by_cases k2 : kind = 2
  · subst k2
    rw [do_2]
    exact does_move h hi
  by_cases k3 : kind = 3
  · subst k3
    rw [do_3]
    exact does_when h hi
  by_cases k4 : kind = 4
  · subst k4
    rw [do_4]
    exact does_take h
  · rw [do_5 L last kind a id k0 k1 k2 k3 k4]
    exact does_other h k0 k1 k2 k3 k4
end Go.Proofs.Ytpohfcjmjfhdoaa
