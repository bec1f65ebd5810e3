/-
  Contract: what the document's own without answers. Conditions: as each states.
-/
import Derived.Test.YtpohfcjmjfhdoaaD2
namespace Go.Proofs.Ytpohfcjmjfhdoaa
open Go.RowKit

/-- append, whose run is known, as one step of a region that draws its order. -/
theorem step_append_eq {P : Program} {ops : Array Oper} {o : Oper} {a : Act} {w : World} {K : Act → World → Prop} {Q : Exit → Act → World → Prop} {E : Prop} (hg : o.guard = none) (d s : Operand) (t t' : TypeId)
    (hop : o.op = .call { callee := .builtin .append, args := #[d, s], argTypes := #[t, t'] }) (x y : Value) (hd : a.eval d = x) (hs : a.eval s = y) {v' : Value} {w' : World} (hr : ∀ ty, (Builtin.append_ #[t, t'] ty #[x, y]).run P w = .ok v' w') (hK : K (a.put o.dst v') w') :
    if Region.wanted o (yielded ops a.tmps) = true then Oper.wp P o a w K Q else E := by
  rw [if_pos (show Region.wanted o (yielded ops a.tmps) = true by simp [Region.wanted, hg])]
  unfold Oper.wp
  have h := hr o.type
  simp [execOp, hop, resolve, invoke, builtin, hd, hs, h, Result.andThen]
  exact hK
theorem app_dues_all {w w0 : World} {base m : Nat} {v : Value} {zs : List Due} (hown : w.ownsRow base 46 2 v m (flat zs)) (hbase : base ≤ w.heap.size) (hb : Below base w0 w) {p : Option Addr} {n c : Nat} {ds : List Due}
    (hx : ds.length = n) (hpc : p = none → c = 0 ∧ n = 0) (hi : DuesIn w p n ds) (hbig : m + n ≤ 1000000) :
    ∃ q d w', (∀ ty, (Builtin.append_ #[26, 26] ty #[v, .slice p n c]).run Try.prog w = .ok (.slice q (m + n) d) w') ∧ w'.ownsRow base 46 2 (.slice q (m + n) d) (m + n) (flat (zs ++ ds)) ∧ Below base w0 w' := by
  obtain ⟨q, d, w', h1, h2, h3⟩ := app_dues hown hbase hb hx hpc hi hbig 26
  exact ⟨q, d, w', fun ty => by rw [← h1]; rfl, h2, h3⟩
theorem erase_at (ds : List Due) (k : Nat) : ds.take k ++ ds.drop (k + 1) = ds.eraseIdx k := by rw [List.eraseIdx_eq_take_drop_succ]
theorem made_none (w : World) : (w.alloc (.cells #[] 46)).ownsRow w.heap.size 46 2 (.slice (some ⟨w.heap.size, 0, none⟩) 0 0) 0 (flat []) :=
  World.ownsRow_made w #[] 0 (Nat.le_refl _) (Nat.zero_le _) rfl

set_option maxHeartbeats 4000000 in
theorem without_any (p : Option Addr) (n c k : Nat) (ds : List Due) (w : World) (hx : ds.length = n) (hbig : n ≤ 100000) (hk : k < n) (hnc : n ≤ c) (hc : c ≤ 9223372036854775807) (hi : DuesIn w p n ds) :
    Calls Try.prog 29 #[.slice p n c, .int .i64 k] w (OutD 46 (ds.eraseIdx k) w) := by
  obtain ⟨b, o, rfl, hcell⟩ := id (hi (by omega))
  have hb0 : Below w.heap.size w (w.drew.alloc (.cells #[] 46)) := (Below.refl _ _).drew.alloc (Nat.le_refl _) _
  obtain ⟨q1, d1, w1, hr1, ho1, hb1⟩ := app_dues_all (c := c) (made_none w.drew) (by simp) hb0 (show (ds.take k).length = k by rw [List.length_take]; omega) (fun h => by cases h) (dues_take (dues_on hi hb0) k (by omega)) (by omega)
  rw [Nat.zero_add, List.nil_append] at ho1
  simp only [Nat.zero_add] at hr1
  have hdr := dues_drop (dues_on hi hb1) (k + 1) (n - (k + 1)) (by omega)
  have hlen : (ds.eraseIdx k).length = k + (n - (k + 1)) := by rw [List.length_eraseIdx]; split <;> omega
  have fin : ∀ (p2 : Option Addr) (c2 : Nat), DuesIn w1 p2 (n - (k + 1)) (ds.drop (k + 1)) → p2 ≠ none → ∃ q2 d2 w2, (∀ ty, (Builtin.append_ #[26, 26] ty #[.slice q1 k d1, .slice p2 (n - (k + 1)) c2]).run Try.prog w1 = .ok (.slice q2 (k + (n - (k + 1))) d2) w2) ∧ OutD 46 (ds.eraseIdx k) w (.returned (.slice q2 (k + (n - (k + 1))) d2)) w2 := fun p2 c2 hd hp => by
    obtain ⟨q2, d2, w2, h1, h2, h3⟩ := app_dues_all (c := c2) ho1 (by have := hb1.size; simpa using this) hb1 (show (ds.drop (k + 1)).length = n - (k + 1) by rw [List.length_drop]; omega) (fun h => absurd h hp) hd (by omega)
    refine ⟨q2, d2, w2, h1, q2, d2, by rw [hlen], ?_, h3⟩
    rw [hlen, ← erase_at]
    exact h2
  have hw : IntKind.i64.wrap ((k : Int) + 1) = (k : Int) + 1 := IntWalk.i64_in _ (by omega)
  have HR1 := Lib.hid hr1
  by_cases hkc : c = k + 1
  · obtain ⟨q2, d2, w2, hr2, hout⟩ := fin (some ⟨b, o, none⟩) (c - (k + 1)) (by rw [show n - (k + 1) = 0 by omega]; exact dues_nil _ _ _) (by simp)
    have HO := Lib.hid hout
    clear fin hr1 hout ho1 hb1 hb0 hdr hcell hi hlen
    obtain rfl : n = k + 1 := by omega
    subst hkc
    rw [Nat.sub_self] at hr2 HO
    have HR2 := Lib.hid hr2
    clear hr2
    go_enter Try.func29, Try.ntmps29
    go_wp2_with fail
    go_region_held_law (fun _ => True)
      (trivial)
      (first
        | (refine step_append_eq rfl (.tmp 5) (.tmp 8) 26 26 rfl (.slice (some ⟨w.heap.size, 0, none⟩) 0 0) (.slice (some ⟨b, o, none⟩) k (k + 1)) rfl rfl HR1.out ?_)
        | (refine step_append_eq rfl (.tmp 9) (.tmp 13) 26 26 rfl (.slice q1 k d1) (.slice (some ⟨b, o, none⟩) 0 0) rfl rfl HR2.out ?_))
    all_goals
      simp only [List.getElem_toArray, List.getElem_cons_succ, List.getElem_cons_zero]
      go_wp2_with fail
      go_ret
      exact HO.out
  · obtain ⟨q2, d2, w2, hr2, hout⟩ := fin (some ⟨b, o + (k + 1) * 2, none⟩) (c - (k + 1)) hdr (by simp)
    have HR2 := Lib.hid hr2
    have HO := Lib.hid hout
    clear fin hr1 hr2 hout ho1 hb1 hb0 hdr hcell hi hlen
    go_enter Try.func29, Try.ntmps29
    go_wp2_with fail
    go_region_held_law (fun _ => True)
      (trivial)
      (first
        | (refine step_append_eq rfl (.tmp 5) (.tmp 8) 26 26 rfl (.slice (some ⟨w.heap.size, 0, none⟩) 0 0) (.slice (some ⟨b, o, none⟩) k c) rfl rfl HR1.out ?_)
        | (refine step_append_eq rfl (.tmp 9) (.tmp 13) 26 26 rfl (.slice q1 k d1) (.slice (some ⟨b, o + (k + 1) * 2, none⟩) (n - (k + 1)) (c - (k + 1))) rfl rfl HR2.out ?_))
    all_goals
      simp only [List.getElem_toArray, List.getElem_cons_succ, List.getElem_cons_zero]
      go_wp2_with fail
      go_ret
      exact HO.out
end Go.Proofs.Ytpohfcjmjfhdoaa
