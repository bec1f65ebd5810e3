/-
  Contracts: the digits that the document's own Of, To and Times tell, and its fold and Step. Conditions: as each states.
-/
import Derived.Test.YtlfecceleoiafaaW1
import Derived.Deep.RegionHeld3
namespace Go.Proofs.Ytlfecceleoiafaa
open Go.RowKit

theorem set_drewN (w : World) (m : Nat) (a : Addr) (v : Value) : (w.drewN m).setCell a v = (w.setCell a v).drewN m := rfl
theorem set_out (w : World) (cs : Array Value) (t : TypeId) (n j : Nat) (v : Value) (m : Nat) (hn : n = w.heap.size) : ((w.alloc (.cells cs t)).drewN m).setCell ⟨n, j, none⟩ v = (w.alloc (.cells (cs.setIfInBounds j v) t)).drewN m := by
  rw [set_drewN, World.setCell_alloc_at _ _ _ _ _ hn]

theorem below_drewN {B : Nat} {a w : World} (h : Below B a w) (n : Nat) : Below B a (w.drewN n) := ⟨h.os, h.tape, h.output, h.size, h.block⟩

set_option maxHeartbeats 800000 in
theorem of_any (n : Int) (h0 : 0 ≤ n) (h1 : n < 18446744073709551616) (w : World) : Calls Try.prog 29 #[.int .u64 n] w fun e w' => e = .returned (.agg #[.int .u64 (n % 65536), .int .u64 (n / 65536 % 65536), .int .u64 (n / 4294967296 % 65536), .int .u64 (n / 281474976710656)]) ∧ w' = w.alloc (.cells #[.int .u64 (n % 65536), .int .u64 (n / 65536 % 65536), .int .u64 (n / 4294967296 % 65536), .int .u64 (n / 281474976710656)] 49) := by
  go_enter Try.func29, Try.ntmps29
  go_wp2_with fail
  exact bodyPost_ret (v := .agg #[.int .u64 (n % 65536), .int .u64 (n / 65536 % 65536), .int .u64 (n / 4294967296 % 65536), .int .u64 (n / 281474976710656)]) (by simp [results, Try.results29, go_sem]) rfl ⟨rfl, rfl⟩

set_option maxHeartbeats 800000 in
theorem to_any (a b c d : Int) (ha : 0 ≤ a ∧ a < 65536) (hb : 0 ≤ b ∧ b < 65536) (hc : 0 ≤ c ∧ c < 65536) (hd : 0 ≤ d ∧ d < 65536) (w : World) :
    Calls Try.prog 30 #[.agg #[.int .u64 a, .int .u64 b, .int .u64 c, .int .u64 d]] w fun e w' => e = .returned (.int .u64 (a + b * 65536 + c * 4294967296 + d * 281474976710656)) ∧ ∃ o, w' = w.alloc o := by
  go_enter Try.func30, Try.ntmps30
  go_wp2_with fail
  go_ret
  exact ⟨rfl, _, rfl⟩
end Go.Proofs.Ytlfecceleoiafaa
