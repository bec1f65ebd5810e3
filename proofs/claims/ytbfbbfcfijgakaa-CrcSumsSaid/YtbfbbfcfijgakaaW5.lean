/-
  Contracts: what the document's own Tail and Bits answer. Conditions: as each states.
-/
import Derived.Test.YtbfbbfcfijgakaaW4
import Derived.Test.YtbfbbfcfijgakaaN
import Derived.Deep.OwnRows
namespace Go.Proofs.Ytbfbbfcfijgakaa
open Go.RowKit

theorem tail_made (w : World) (a b c d : Int) : (convert 22 9 (.slice (some ⟨w.heap.size, 0, none⟩) 4 4)).run Try.prog (w.alloc (.cells #[.int .u8 a, .int .u8 b, .int .u8 c, .int .u8 d] 5)) =
    .ok (.string (strOfNums [a, b, c, d])) (w.alloc (.cells #[.int .u8 a, .int .u8 b, .int .u8 c, .int .u8 d] 5)) :=
  conv_bytes (made_bytes w [a, b, c, d] 4 (0, 0) rfl) rfl 4

set_option maxHeartbeats 800000 in
theorem rtail_any (s : BitVec 32) (w : World) : Calls Try.prog 19 #[.int .u32 s.toNat] w fun e w' => e = .returned (.string (strOfNums (tailL s))) ∧ Below w.heap.size w w' := by
  have hs := s.isLt
  obtain ⟨n, hn⟩ : ∃ n : Int, (s.toNat : Int) = n := ⟨_, rfl⟩
  have h0 : 0 ≤ n ∧ n < 4294967296 := by omega
  have HT := Lib.hid (show tailL s = [n % 256, n / 256 % 256, n / 65536 % 256, n / 16777216] by rw [← show n / 16777216 % 256 = n / 16777216 by omega, ← hn]; rfl)
  rw [hn]
  clear hs hn
  have tm := tail_made
  go_enter Try.func19, Try.ntmps19
  go_wp2_with fail
  go_ret
  rw [HT.out]
  exact ⟨rfl, (Below.refl _ _).alloc (Nat.le_refl _) _⟩

theorem info4 : (Try.prog.info? 4).map (fun i => (i.zero, i.size, i.bytes)) = some (some (.bool false), 1, 1) := by kernel_rfl
/-- A bool that is appended to a row of the call's own. -/
theorem app_bool {w : World} {base m : Nat} {v : Value} {zs : List Value} (hown : w.ownsRow base 4 1 v m zs) (hbase : base ≤ w.heap.size) (b : Bool) (hbig : m + 1 ≤ 140737488355328) (ty : TypeId) :
    ∃ v' w', (Builtin.append_ #[41, 41] ty #[v, .slice (some ⟨w.heap.size, 0, none⟩) 1 1]).run Try.prog (w.alloc (.cells #[.bool b] 4)) = .ok v' w' ∧ w'.ownsRow base 4 1 v' (m + 1) (zs ++ [.bool b]) ∧ (w.alloc (.cells #[.bool b] 4)).grownBy w' v.ownBlock := by
  obtain ⟨i0, hi0, hz0, hz1, hz2⟩ := info_parts info4
  obtain ⟨v', w', h1, h2, h3, _⟩ := run_append_own (P := Try.prog) (w.alloc (.cells #[.bool b] 4)) base 41 ty 4 i0 (.bool false) 1 1 Try.underlying41 hi0 hz0 hz1 hz2 rfl (by decide) v m zs (hown.alloc _) ⟨w.heap.size, 0, none⟩ 1 1 [.bool b] rfl
    (World.news_of_block (cs := #[.bool b]) (t := 4) (fr := (0, 0)) (heap_alloc_new w _)) (by simp [Value.oneCell']) (by unfold maxLen; omega) (by omega) (by simp; omega)
  exact ⟨v', w', h1, h2, h3⟩

set_option maxHeartbeats 2000000 in
theorem bits_any (s : ByteArray) (hs : s.size ≤ 5000) (w : World) : Calls Try.prog 20 #[.string s] w fun e w' =>
    ∃ v, e = .returned v ∧ w'.ownsRow w.heap.size 4 1 v (8 * s.size) ((bitsL (nums s)).map Value.bool) ∧ Below w.heap.size w w' := by
  go_enter Try.func20, Try.ntmps20
  go_wp2_with fail
  go_loopw [3, 4] (fun v i w' => ∃ (k : Nat), k ≤ s.size ∧ i = .int .i64 k ∧ Hid (w'.ownsRow w.heap.size 4 1 v (8 * k) ((bitsL ((nums s).take k)).map Value.bool)) ∧ Hid (Below w.heap.size w w')) (fun _ i _ => s.size - (intOf i).toNat)
  case atStart => exact ⟨0, by omega, rfl, Lib.hid (World.ownsRow_nil _ _ _ _), Lib.hid (Below.refl _ _)⟩
  case round =>
    obtain ⟨k, hk, rfl, HO, HB⟩ := hrel
    by_cases hlt : k < s.size
    · have hb := allB_getD (nums_all s) k
      have HN := Lib.hid (nums_at s k hlt)
      have HS := Lib.hid (bitsL_succ (nums s) k (by rw [nums_length]; exact hlt))
      obtain ⟨x, hx⟩ : ∃ x, (nums s).getD k 0 = x := ⟨_, rfl⟩
      rw [hx] at hb HN HS
      have HXX := Lib.hid hx
      clear hx
      go_wp2_with fail
      rw [HN.out]
      go_loopw [3, 5, 6] (fun v y i w' => ∃ (j : Nat) (z : Int), j ≤ 8 ∧ i = .int .i64 j ∧ y = .int .u8 z ∧ (0 ≤ z ∧ z < 256) ∧ Hid (z = x / 2 ^ j) ∧ Hid (w'.ownsRow w.heap.size 4 1 v (8 * k + j) ((bitsL ((nums s).take k) ++ bitsN x j).map Value.bool)) ∧ Hid (Below w.heap.size w w')) (fun _ _ i _ => 8 - (intOf i).toNat)
      case atStart => exact ⟨0, x, by omega, rfl, rfl, hb, Lib.hid (by simp), Lib.hid (by simpa [bitsN] using HO.out), HB⟩
      case round =>
        clear HO HB
        obtain ⟨j, z, hj, rfl, rfl, hz, HZ, HO, HB⟩ := hrel
        by_cases hlt2 : j < 8
        · obtain ⟨v', w3, hrun, hown', hg'⟩ := app_bool HO.out HB.out.size (z % 2 == 1) (by omega) 41
          have HR := Lib.hid hrun
          have HO' := Lib.hid hown'
          have HB' := Lib.hid ((HB.out.alloc HB.out.size _).grown hg' (by have := HB.out.size; simp; omega) (fun i hi => (HO.out.lt i hi).1))
          clear hrun hown' hg'
          go_wp2_with (at_builtin; refine Lib.wpList_append_run _ rfl _ _ _ _ rfl _ _ rfl rfl _ _ HR.out ?_)
          go_roundw
          case rel => exact ⟨j + 1, z / 2, by omega, by go_num, rfl, by omega, Lib.hid (by rw [HZ.out, Int.pow_succ, Int.ediv_ediv_of_nonneg (Int.le_of_lt (Int.pow_pos (by omega)))]), Lib.hid (by rw [← Nat.add_assoc]; simp only [bitsN]; rw [← HZ.out]; simpa using HO'.out), HB'⟩
          case measure => simp [intOf]; omega
        · obtain rfl : j = 8 := by omega
          go_wp2_with fail
          go_roundw
          case rel => exact ⟨k + 1, by omega, by go_num, Lib.hid (by rw [HS.out]; exact HO.out), HB⟩
          case measure => simp [intOf]; omega
    · obtain rfl : k = s.size := by omega
      go_wp2_with fail
      go_ret
      exact ⟨_, rfl, by have h := HO.out; rw [List.take_of_length_le (by rw [nums_length]; exact Nat.le_refl _)] at h; exact h, HB.out⟩
end Go.Proofs.Ytbfbbfcfijgakaa
