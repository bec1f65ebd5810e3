/-
  Contracts: what inlet, outlet, many, has, Held, Lost and State of a chain answer. Conditions: as each states.
  Contracts: a part of a chain: its Close; newPart; lose, Break. Conditions: as each states.
  Contracts: lose and Break of a chain. Conditions: as each states.
-/
import Derived.Test.YtfdfgnmgpgkknaaMY14
import Derived.Deep.RegionLaw
import Derived.Deep.RegionHeldLaw
namespace Go.Proofs.Ytfdfgnmgpgkknaa
open Go.RowKit

section
variable {w w' : World} {U : Own} {g M : Nat} {s : St}
theorem free_i (h : Rep w U g s M) : Calls Try.prog 46 #[ptr g] w fun e w' => e = .returned (.int .i64 (freeS s)) ∧ Below w.heap.size w w' := by
  obtain ⟨base, c', u, s', hr, ho, hs, rfl⟩ := h
  rw [← hs.free]
  exact free_any hr ho rfl
theorem rep_ok (h : Rep w U g s M) : s.S.size ≤ M ∧ 0 ≤ s.passed := by
  obtain ⟨base, c', u, s', hr, ho, hs, rfl⟩ := h
  rw [← hs.S, ← hs.passed]
  have := ho.passed
  omega
set_option maxRecDepth 100000 in
set_option maxHeartbeats 4000000 in
theorem toxic_i (h : Rep w U g s M) : Calls Try.prog 38 #[ptr g] w fun e w' => e = .returned s.tx.v ∧ Below w.heap.size w w' := by
  obtain ⟨base, c', u, s', hr, ho, hs, rfl⟩ := h
  rw [← hs.tx]
  have x1 : w.cell? ⟨g, 1, none⟩ = some (.string s'.tx.s) := hr.cell 1
  have x2 : w.cell? ⟨g, 2, none⟩ = some (.int .i64 s'.tx.k) := hr.cell 2
  have x3 : w.cell? ⟨g, 3, none⟩ = some (.bool s'.tx.up) := hr.cell 3
  have x4 : w.cell? ⟨g, 4, none⟩ = some (.int .i64 s'.tx.o) := hr.cell 4
  have x5 : w.cell? ⟨g, 5, none⟩ = some (.int .i64 s'.tx.a) := hr.cell 5
  have x6 : w.cell? ⟨g, 6, none⟩ = some (.int .i64 s'.tx.b) := hr.cell 6
  have hlt := hr.lt
  unfold Tox.v
  clear hr ho hs
  go_enter Try.func38, Try.ntmps38
  go_wp2_with fail
  have hnew := heap_alloc_new w (.cells #[.string s'.tx.s, .int .i64 s'.tx.k, .bool s'.tx.up, .int .i64 s'.tx.o, .int .i64 s'.tx.a, .int .i64 s'.tx.b] 30)
  have hb : Below w.heap.size w (w.alloc (.cells #[.string s'.tx.s, .int .i64 s'.tx.k, .bool s'.tx.up, .int .i64 s'.tx.o, .int .i64 s'.tx.a, .int .i64 s'.tx.b] 30)) := (Below.refl _ _).alloc (Nat.le_refl _) _
  clear x1 x2 x3 x4 x5 x6
  generalize w.alloc (.cells #[.string s'.tx.s, .int .i64 s'.tx.k, .bool s'.tx.up, .int .i64 s'.tx.o, .int .i64 s'.tx.a, .int .i64 s'.tx.b] 30) = W at *
  have z0 := cell_of_row W _ 0 _ _ _ hnew
  have z1 := cell_of_row W _ 1 _ _ _ hnew
  have z2 := cell_of_row W _ 2 _ _ _ hnew
  have z3 := cell_of_row W _ 3 _ _ _ hnew
  have z4 := cell_of_row W _ 4 _ _ _ hnew
  have z5 := cell_of_row W _ 5 _ _ _ hnew
  exact bodyPost_ret (v := .agg #[.string s'.tx.s, .int .i64 s'.tx.k, .bool s'.tx.up, .int .i64 s'.tx.o, .int .i64 s'.tx.a, .int .i64 s'.tx.b]) (by simp [results, Try.results38, go_sem, z0, z1, z2, z3, z4, z5]) rfl ⟨rfl, hb⟩
end
section
variable {w w' : World} {g : Nat} {p : Option Addr} {cap : Nat} {q : List Nd} {c c' : Ch} {M M' : Nat}
theorem CAt.cell (h : CAt w g p cap q c M) (i : Nat) : w.cell? ⟨g, i, none⟩ = (chC p c.L.length cap c)[i]? := by simp [World.cell?, h.blk]
theorem CAt.frz (h : CAt w g p cap q c M) (i : Nat) : w.frozen? ⟨g, i, none⟩ = false := gb.frozen_at h.blk
theorem CAt.rows (h : CAt w g p cap q c M) (h0 : 0 < c.L.length) : ∃ b o, p = some ⟨b, o, none⟩ ∧ (∀ k, k < c.L.length → w.cell? ⟨b, o + k, none⟩ = some (ptr (nd q k).p)) ∧ c.L.length ≤ cap ∧ cap ≤ maxLen := by
  obtain ⟨b, o, hp, hc⟩ := h.row.at h0
  refine ⟨b, o, hp, fun k hk => hc k _ ?_, h.row.cap, h.row.max⟩
  have hk : k < q.length := by rw [h.len]; exact hk
  rw [List.getElem?_map, List.getElem?_eq_getElem hk]
  unfold nd
  rw [List.getD_eq_getElem?_getD, List.getElem?_eq_getElem hk]
  rfl
theorem CAt.pcell (h : CAt w g p cap q c M) {k : Nat} (hk : k < c.L.length) : w.cell? ⟨(nd q k).p, 0, none⟩ = some (ptr (nd q k).g) ∧ w.cell? ⟨(nd q k).p, 1, none⟩ = some (.bool (c.at' k).closed) ∧ w.frozen? ⟨(nd q k).p, 1, none⟩ = false := by
  have h1 := h.prt k hk
  exact ⟨by simp [World.cell?, h1], by simp [World.cell?, h1], gb.frozen_at h1⟩
theorem CAt.size_le (h : CAt w g p cap q c M) {k : Nat} (hk : k < c.L.length) : (c.at' k).s.S.size ≤ (nd q k).m ∧ sumA c.L k + (c.at' k).s.S.size ≤ M := by
  have h1 := (rep_ok (h.stg k hk)).1
  have h2 := h.sum k hk
  omega
theorem sum_succ (c : Ch) {k : Nat} (hk : k < c.L.length) : sumA c.L (k + 1) = sumA c.L k + (c.at' k).s.S.size := by
  unfold sumA Ch.at'
  rw [List.take_succ_eq_append_getElem hk, List.map_append, List.sum_append, List.getD_eq_getElem?_getD, List.getElem?_eq_getElem hk]
  simp
theorem sum_all (c : Ch) : sumA c.L c.L.length = c.held := by
  unfold sumA Ch.held
  rw [List.take_length]
theorem CAt.held_le (h : CAt w g p cap q c M) (h2 : 2 ≤ c.L.length) : c.held ≤ M := by
  obtain ⟨n, hn⟩ : ∃ n, c.L.length = n + 1 := ⟨c.L.length - 1, by omega⟩
  have h1 := h.size_le (k := n) (by omega)
  rw [← sum_all, hn, sum_succ c (by omega)]
  exact h1.2
set_option maxRecDepth 100000 in
set_option maxHeartbeats 4000000 in
theorem inlet_c (h : CAt w g p cap q c M) (h2 : 2 ≤ c.L.length) : Calls Try.prog 26 #[ptr g] w fun e w' => e = .returned (ptr (nd q 0).p) ∧ w = w' := by
  have h10 := h.ten
  obtain ⟨b, o, rfl, hr, hnc, hmx⟩ := h.rows (by omega)
  have x0 : w.cell? ⟨g, 0, none⟩ = some (.slice (some ⟨b, o, none⟩) c.L.length cap) := h.cell 0
  have y0 := hr 0 (by omega)
  rw [Nat.add_zero] at y0
  generalize c.L.length = n at *
  clear h hr
  go_enter Try.func26, Try.ntmps26
  go_wp2_with fail
  try rw [Exit.noGoto_ret]
  go_ret
  exact ⟨rfl, rfl⟩
set_option maxRecDepth 100000 in
set_option maxHeartbeats 4000000 in
theorem outlet_c (h : CAt w g p cap q c M) (h2 : 2 ≤ c.L.length) : Calls Try.prog 31 #[ptr g] w fun e w' => e = .returned (ptr (nd q (c.L.length - 1)).p) ∧ Below w.heap.size w w' := by
  have h10 := h.ten
  obtain ⟨b, o, rfl, hr, hnc, hmx⟩ := h.rows (by omega)
  have x0 : w.cell? ⟨g, 0, none⟩ = some (.slice (some ⟨b, o, none⟩) c.L.length cap) := h.cell 0
  have y0 := hr (c.L.length - 1) (by omega)
  generalize c.L.length = n at *
  obtain ⟨m, rfl⟩ : ∃ m, n = m + 1 := ⟨n - 1, by omega⟩
  rw [Nat.add_sub_cancel] at *
  have e1 : ((m + 1 : Nat) : Int) - 1 = (m : Int) := by omega
  clear h hr
  go_enter Try.func31, Try.ntmps31
  go_wp2_with fail
  go_quiet (fail)
  go_wp2_with fail
  try rw [Exit.noGoto_ret]
  go_ret
  exact ⟨rfl, gc.below_drewN _ _⟩
set_option maxRecDepth 100000 in
set_option maxHeartbeats 4000000 in
theorem many_c (h : CAt w g p cap q c M) (h2 : 2 ≤ c.L.length) : Calls Try.prog 36 #[ptr g] w fun e w' => e = .returned (.int .i64 ((c.L.length : Int) - 2)) ∧ w = w' := by
  have h10 := h.ten
  have x0 : w.cell? ⟨g, 0, none⟩ = some (.slice p c.L.length cap) := h.cell 0
  generalize c.L.length = n at *
  clear h
  go_enter Try.func36, Try.ntmps36
  go_wp2_with fail
  try rw [Exit.noGoto_ret]
  go_ret
  exact ⟨rfl, rfl⟩
set_option maxRecDepth 100000 in
set_option maxHeartbeats 4000000 in
theorem has_c (h : CAt w g p cap q c M) (h2 : 2 ≤ c.L.length) (at' : Int) {b : Bool} (hb : decide (0 ≤ at' ∧ at' < (c.L.length : Int) - 2) = b) : Calls Try.prog 40 #[ptr g, .int .i64 at'] w fun e w' => e = .returned (.bool b) ∧ w = w' := by
  have HM := Lib.hid (many_c h h2)
  have HB := Lib.hid hb
  generalize (c.L.length : Int) - 2 = n at *
  clear h hb
  by_cases h0 : 0 ≤ at'
  · go_enter Try.func40, Try.ntmps40
    go_wp2_with (go_at_call 36; refine HM.out.mono ?_; rintro e w' ⟨rfl, rfl⟩)
    try rw [Exit.noGoto_ret]
    go_ret
    refine ⟨?_, rfl⟩
    rw [← HB.out]
    congr 2
    simp [h0]
  · have hb' : b = false := by rw [← HB.out]; simp; intro h; omega
    subst hb'
    go_enter Try.func40, Try.ntmps40
    go_wp2_with fail
    try rw [Exit.noGoto_ret]
    go_ret
    exact ⟨rfl, rfl⟩
set_option maxRecDepth 100000 in
set_option maxHeartbeats 4000000 in
theorem held_c (h : CAt w g p cap q c M) (h2 : 2 ≤ c.L.length) : Calls Try.prog 12 #[ptr g] w fun e w' => e = .returned (.int .i64 (c.held : Int)) ∧ w = w' := by
  have h10 := h.ten
  have ht := h.top
  obtain ⟨b, o, rfl, hr, hnc, hmx⟩ := h.rows (by omega)
  have x0 : w.cell? ⟨g, 0, none⟩ = some (.slice (some ⟨b, o, none⟩) c.L.length cap) := h.cell 0
  have HR := Lib.hid hr
  have HP := Lib.hid (fun k (hk : k < c.L.length) => (h.pcell hk).1)
  have HH := Lib.hid (fun k (hk : k < c.L.length) => held_i (h.stg k hk))
  have HS := Lib.hid (fun k (hk : k < c.L.length) => (⟨sum_succ c hk, by have := (h.size_le hk).2; omega⟩ : sumA c.L (k + 1) = sumA c.L k + (c.at' k).s.S.size ∧ sumA c.L k + (c.at' k).s.S.size ≤ 400000))
  have HA := Lib.hid (sum_all c)
  generalize c.L.length = n at *
  have HM := Lib.hid (sum_all c)
  clear h hr ht HM
  go_enter Try.func12, Try.ntmps12
  go_wp2_with fail
  go_loopw [3, 11] (fun s i wr => ∃ (k S : Nat), k ≤ n ∧ i = .int .i64 k ∧ s = .int .i64 (S : Int) ∧ Hid (S = sumA c.L k) ∧ wr = w) (fun _ i _ => n - (intOf i).toNat)
  case atStart => exact ⟨0, 0, Nat.zero_le _, rfl, rfl, Lib.hid rfl, rfl⟩
  case round =>
    obtain ⟨k, S, hk, rfl, rfl, HSk, rfl⟩ := hrel
    by_cases hlt : k < n
    · have y0 := HR.out k hlt
      have z0 := HP.out k hlt
      have hs := HS.out k hlt
      have HC := Lib.hid (HH.out k hlt)
      have hSk := HSk.out
      obtain ⟨X, hX⟩ : ∃ X, (c.at' k).s.S.size = X := ⟨_, rfl⟩
      rw [hX] at hs HC
      have hb : S + X ≤ 400000 := by omega
      have HN := Lib.hid (show S + X = sumA c.L (k + 1) by omega)
      clear hs hSk hX HSk
      go_wp2_with (go_at_call 25; refine HC.out.mono ?_; rintro e w' ⟨rfl, rfl⟩)
      go_roundw
      case rel => exact ⟨k + 1, S + X, by omega, by go_num, by go_num, HN, by trivial⟩
      case measure => simp [intOf]; omega
    · obtain rfl : k = n := by omega
      have HE := Lib.hid (show S = c.held by rw [HSk.out]; exact HA.out)
      clear HSk hlt
      go_wp2_with fail
      try rw [Exit.noGoto_ret]
      go_ret
      rw [← HE.out]
      exact ⟨rfl, rfl⟩
set_option maxRecDepth 100000 in
set_option maxHeartbeats 4000000 in
theorem lost_c (h : CAt w g p cap q c M) : Calls Try.prog 13 #[ptr g] w fun e w' => e = .returned (.int .i64 c.lost) ∧ w = w' := by
  have x0 : w.cell? ⟨g, 4, none⟩ = some (.int .i64 c.lost) := h.cell 4
  clear h
  go_enter Try.func13, Try.ntmps13
  go_wp2_with fail
  try rw [Exit.noGoto_ret]
  go_ret
  exact ⟨rfl, rfl⟩
set_option maxRecDepth 100000 in
set_option maxHeartbeats 4000000 in
theorem state_c (h : CAt w g p cap q c M) : Calls Try.prog 14 #[ptr g] w fun e w' => e = .returned (.int .i64 c.state) ∧ w = w' := by
  have x0 : w.cell? ⟨g, 2, none⟩ = some (.int .i64 c.state) := h.cell 2
  clear h
  go_enter Try.func14, Try.ntmps14
  go_wp2_with fail
  try rw [Exit.noGoto_ret]
  go_ret
  exact ⟨rfl, rfl⟩
end
end Go.Proofs.Ytfdfgnmgpgkknaa
namespace Go.Proofs.Ytfdfgnmgpgkknaa
open Go.RowKit

/-- A part alone. -/
structure PAt (w : World) (pp gg : Nat) (U : Own) (s : St) (b : Bool) (m : Nat) : Prop where
  prt : w.heap[pp]? = some (.cells (prtC gg b) 59 (0, 0))
  stg : Rep w U gg s m
def oneU (pp : Nat) (U : Own) : Own := fun i => i = pp ∨ U i
section
variable {w w' : World} {pp gg m : Nat} {U : Own} {s : St} {b : Bool}
theorem PAt.not_p (h : PAt w pp gg U s b m) : ¬ U pp := rep_not h.stg h.prt (by decide) (by decide) (by decide) (by decide)
theorem PAt.keep (h : PAt w pp gg U s b m) (hk : ∀ i, oneU pp U i → w'.heap[i]? = w.heap[i]?) : PAt w' pp gg U s b m :=
  ⟨(hk pp (Or.inl rfl)).trans h.prt, rep_on2 h.stg fun i hi => hk i (Or.inr hi)⟩
theorem PAt.lt (h : PAt w pp gg U s b m) {i : Nat} (hi : oneU pp U i) : i < w.heap.size := by
  rcases hi with rfl | hi
  · exact gb.blk_lt h.prt
  · exact (rep_lt h.stg).2 i hi
theorem PAt.on (h : PAt w pp gg U s b m) (hb : Below w.heap.size w w') : PAt w' pp gg U s b m := h.keep fun i hi => hb.block i (h.lt hi)
/-- What a part's Close leaves. -/
def Shut (w : World) (pp gg : Nat) (U : Own) (s : St) (m : Nat) (e : Ending) (w' : World) : Prop := e = .returned (.tuple #[]) ∧ ∃ w1, Stp w U gg s m w1 ∧ w' = w1.setCell ⟨pp, 1, none⟩ (.bool true)
set_option maxRecDepth 100000 in
set_option maxHeartbeats 4000000 in
theorem shut_p (h : PAt w pp gg U s b m) (now : Int) : Calls Try.prog 34 #[ptr pp, .int .i64 now] w (Shut w pp gg U (closeS s now) m) := by
  have x0 : w.cell? ⟨pp, 0, none⟩ = some (ptr gg) := by simp [World.cell?, h.prt]
  have HC := Lib.hid (close_i h.stg now)
  have HK := Lib.hid (fun W (hs : Stp w U gg (closeS s now) m W) => (show W.heap[pp]? = some (.cells (prtC gg b) 59 (0, 0)) from by
    obtain ⟨U', _, ⟨_, hk⟩, _⟩ := hs
    exact (hk pp (gb.blk_lt h.prt) h.not_p).trans h.prt))
  clear h
  go_enter Try.func34, Try.ntmps34
  go_wp2_with fail
  refine HC.out.mono ?_
  rintro e w1 ⟨rfl, hs⟩
  have hp := HK.out w1 hs
  have x1 : w1.cell? ⟨pp, 1, none⟩ = some (.bool b) := by simp [World.cell?, hp]
  have f1 : w1.frozen? ⟨pp, 1, none⟩ = false := gb.frozen_at hp
  have HS := Lib.hid hs
  clear hs hp HC HK x0
  go_wp2_with fail
  go_end0
  exact ⟨rfl, w1, HS.out, rfl⟩
/-- A part closed, alone. -/
theorem Shut.alone (h : PAt w pp gg U s b m) {s' : St} {e : Ending} (hs : Shut w pp gg U s' m e w') : ∃ U', PAt w' pp gg U' s' true m ∧ Mvd w (oneU pp U) w' (oneU pp U') := by
  obtain ⟨_, w1, ⟨U', hr, ⟨hb, hk⟩, hn⟩, rfl⟩ := hs
  have h1 : w1.heap[pp]? = some (.cells (prtC gg b) 59 (0, 0)) := (hk pp (gb.blk_lt h.prt) h.not_p).trans h.prt
  have hp : ¬ U' pp := rep_not hr h1 (by decide) (by decide) (by decide) (by decide)
  refine ⟨U', ⟨?_, rep_on2 hr fun i hi => Below.heap_setCell _ _ _ _ fun e => hp (by have e : i = pp := e; rw [← e]; exact hi)⟩, Mvd.trans (w' := w1) (U' := oneU pp U') ⟨⟨hb, fun i hi hu => hk i hi fun e => hu (Or.inr e)⟩, fun i hi => ?_⟩ (mvd_set w1 (Or.inl rfl) 1 (.bool true))⟩
  · simp [World.setCell, Array.getElem?_modify, h1]
  · rcases hi with e | e
    · exact Or.inl (Or.inl e)
    · rcases hn i e with e | e
      · exact Or.inl (Or.inr e)
      · exact Or.inr e
end
section
variable {w w' : World} {g : Nat} {p : Option Addr} {cap : Nat} {q : List Nd} {c c' : Ch} {M M' : Nat}
theorem CAt.part (h : CAt w g p cap q c M) {k : Nat} (hk : k < c.L.length) : PAt w (nd q k).p (nd q k).g (nd q k).U (c.at' k).s (c.at' k).closed (nd q k).m := ⟨h.prt k hk, h.stg k hk⟩
theorem on_close (c : Ch) (k : Nat) (now : Int) (_hk : k < c.L.length) : c.onC k (Ch.oClose now) = { setS c k (closeS (c.at' k).s now) with L := (setS c k (closeS (c.at' k).s now)).L.set k ⟨closeS (c.at' k).s now, true⟩ } := by
  unfold Ch.onC setS
  simp only [List.set_set]
  congr 3
  exact Bool.or_true _
/-- .. of a chain's. -/
theorem CAt.shut (h : CAt w g p cap q c M) {k : Nat} (hk : k < c.L.length) (now : Int) {e : Ending} (hs : Shut w (nd q k).p (nd q k).g (nd q k).U (closeS (c.at' k).s now) (nd q k).m e w') :
    CPut w g p cap q (c.onC k (Ch.oClose now)) M w' := by
  obtain ⟨_, w1, hs, rfl⟩ := hs
  obtain ⟨U', h1, h2⟩ := h.stepL hk hs (by rw [close_S]; exact Nat.le_refl _)
  have hk1 : k < (setS c k (closeS (c.at' k).s now)).L.length := by rw [len_setS]; exact hk
  have hq : k < q.length := by rw [h.len]; exact hk
  have h3 := h1.setP hk1 true
  have hA : (setS c k (closeS (c.at' k).s now)).at' k = ⟨closeS (c.at' k).s now, (c.at' k).closed⟩ := at_set_eq _ _ _ hk
  rw [hA, (p_setN q k k U' (nd q k).m hq).1] at h3
  rw [on_close c k now hk]
  exact ⟨_, h3, h2.trans (mvd_set w1 (by rw [← (p_setN q k k U' (nd q k).m hq).1]; exact own_p (by rw [setN_len]; exact hq)) 1 (.bool true)), fun j => p_setN q k j U' _ hq⟩
theorem drain_j {U : Own} {gg m : Nat} {s : St} (h : Rep w U gg s m) : ∃ k, w.cell? ⟨gg, 0, none⟩ = some (ptr k) ∧ Calls Try.prog 42 #[ptr k] w (GotQ w U gg (drainS s).1 m s.S s.S.size) := by
  obtain ⟨base, c', u, s', hr, ho, hs, rfl⟩ := h
  refine ⟨c', hr.cell 0, ?_⟩
  rw [← hs.S]
  have hd : Ok (drainS s').1 m := ⟨ho.tx, ho.name, ho.clock, ⟨ho.passed.1, by have := ho.passed.2; show s'.passed + ((0 : Nat) : Int) ≤ m; omega⟩, ho.room, ho.bk, ho.top⟩
  exact (cdrain hr).mono fun _ _ hh => got_of hh hd hs.drain
end
end Go.Proofs.Ytfdfgnmgpgkknaa
namespace Go.Proofs.Ytfdfgnmgpgkknaa
open Go.RowKit

section
variable {w w' : World} {g : Nat} {p : Option Addr} {cap : Nat} {q : List Nd} {c c' : Ch} {M M' : Nat}
theorem CAt.rowk {b o : Nat} (h : CAt w g (some ⟨b, o, none⟩) cap q c M) {k : Nat} (hk : k < c.L.length) : w.cell? ⟨b, o + k, none⟩ = some (ptr (nd q k).p) := by
  obtain ⟨b', o', e, hr, _⟩ := h.rows (by omega)
  cases e
  exact hr k hk
theorem lose_round {k : Nat} (h : CAt w g p cap q (c.loseN k) M) (hk : k < c.L.length) {w7 : World} (hs : Stp w (nd q k).U (nd q k).g (drainS ((c.loseN k).at' k).s).1 (nd q k).m w7) :
    (∃ q7, CAt w7 g p cap q7 (setS (c.loseN k) k (drainS ((c.loseN k).at' k).s).1) M) ∧ CPut w g p cap q (c.loseN (k + 1)) M (w7.setCell ⟨g, 4, none⟩ (.int .i64 ((c.loseN k).lost + ((c.loseN k).at' k).s.S.size))) := by
  have hk' : k < (c.loseN k).L.length := by rw [Ch.len_loseN]; exact hk
  have h1 := h.putL hk' hs (Nat.zero_le _)
  have e : c.loseN (k + 1) = { setS (c.loseN k) k (drainS ((c.loseN k).at' k).s).1 with lost := (c.loseN k).lost + ((c.loseN k).at' k).s.S.size } := by
    show ({ (c.loseN k).onC k Ch.oDrain with lost := (c.loseN k).lost + ((c.loseN k).at' k).s.S.size } : Ch) = _
    rw [on_set _ _ _ (by decide)]
    rfl
  refine ⟨by obtain ⟨q7, h7, _⟩ := h1; exact ⟨q7, h7⟩, h1.then fun q7 h7 _ => ?_⟩
  rw [e]
  refine h7.putG rfl rfl ⟨by have := h.los.1; show 0 ≤ (c.loseN k).lost + _; omega, ?_⟩
  have e1 := (sum_setS (c.loseN k) k (c.loseN k).L.length (drainS ((c.loseN k).at' k).s).1 hk').1 hk'
  have e2 := h.los.2
  have e3 : (drainS ((c.loseN k).at' k).s).1.S.size = 0 := rfl
  rw [e3] at e1
  rw [len_setS]
  show (c.loseN k).lost + (((c.loseN k).at' k).s.S.size : Int) + _ ≤ _
  omega
set_option maxRecDepth 100000 in
set_option maxHeartbeats 8000000 in
theorem lose_c (h : CAt w g p cap q c M) (h2 : 2 ≤ c.L.length) (N : Nat) (hN : N ≤ c.L.length) : Calls Try.prog 39 #[ptr g, .int .i64 (N : Int)] w fun e w' => e = .returned (.tuple #[]) ∧ CPut w g p cap q (c.lose N) M w' := by
  have h10 := h.ten
  obtain ⟨b, o, rfl, hr, hnc, hmx⟩ := h.rows (by omega)
  have x0 : w.cell? ⟨g, 0, none⟩ = some (.slice (some ⟨b, o, none⟩) c.L.length cap) := h.cell 0
  have H0 := Lib.hid (CPut.refl h)
  have HLN := Lib.hid hN
  have hNc : N ≤ cap := by omega
  have hN10 : N ≤ 10 := by omega
  generalize hn : c.L.length = n at x0 hnc h2 h10 hN
  clear h hr
  go_enter Try.func39, Try.ntmps39
  go_wp2_with fail
  go_loopw [13] (fun i wr => ∃ k : Nat, k ≤ N ∧ i = .int .i64 k ∧ Hid (CPut w g (some ⟨b, o, none⟩) cap q (c.loseN k) M wr)) (fun i _ => N - (intOf i).toNat)
  case atStart => exact ⟨0, Nat.zero_le _, rfl, H0⟩
  case round =>
    clear x0 H0
    obtain ⟨k, hk, rfl, HK⟩ := hrel
    by_cases hlt : k < N
    · obtain ⟨q', hc, hmv, hpp⟩ := HK.out
      have hkc : k < c.L.length := by have := HLN.out; omega
      have hkn : k < (c.loseN k).L.length := by rw [Ch.len_loseN]; exact hkc
      have hd := hc.on (Below.refl _ wr).drew
      obtain ⟨v, z1, hcall⟩ := drain_j (hd.stg k hkn)
      have y0 := hc.rowk hkn
      have z0 := (hc.pcell hkn).1
      have z1 : wr.cell? ⟨(nd q' k).g, 0, none⟩ = some (ptr v) := z1
      have x4 : wr.cell? ⟨g, 4, none⟩ = some (.int .i64 (c.loseN k).lost) := hc.cell 4
      have hb := hc.los
      have hsz := (hc.size_le hkn).1
      have hb2 : (c.loseN k).lost + (((c.loseN k).at' k).s.S.size : Int) ≤ 400000 := by
        have := hc.top
        have := sum_all (c.loseN k)
        have := sum_succ (c.loseN k) hkn
        have e1 := (sum_setS (c.loseN k) k (c.loseN k).L.length (drainS ((c.loseN k).at' k).s).1 hkn).1 hkn
        have e3 : (drainS ((c.loseN k).at' k).s).1.S.size = 0 := rfl
        omega
      have hb1 := hb.1
      have HN := Lib.hid (fun W (hs : Stp wr.drew (nd q' k).U (nd q' k).g (drainS ((c.loseN k).at' k).s).1 (nd q' k).m W) => (show (W.cell? ⟨g, 4, none⟩ = some (.int .i64 (c.loseN k).lost) ∧ W.frozen? ⟨g, 4, none⟩ = false) ∧ CPut w g (some ⟨b, o, none⟩) cap q (c.loseN (k + 1)) M (W.setCell ⟨g, 4, none⟩ (.int .i64 ((c.loseN k).lost + ((c.loseN k).at' k).s.S.size))) from by
        obtain ⟨⟨q7, h7⟩, q9, a1, a2, a3⟩ := lose_round hd hkc hs
        exact ⟨⟨h7.cell 4, h7.frz 4⟩, q9, a1, (hmv.on (Below.refl _ wr).drew).trans a2, a3.trans hpp⟩))
      generalize ((c.loseN k).at' k).s.S.size = K at *
      generalize (c.loseN k).lost = X at *
      have HC := Lib.hid hcall
      generalize (nd q' k).p = pk at *
      generalize (nd q' k).g = gk at *
      clear hcall hd hc hmv hpp hb hsz HK hkn hkc
      go_wp2_with fail
      go_region_law
        (go_simp; go_at_call 42; refine Calls.mono HC.out ?_; rintro e w7 ⟨qq, d, rfl, hi7, hs7, hd7, he7, hst⟩; (obtain ⟨⟨x7, f7⟩, h8⟩ := HN.out w7 hst.stp); (have HF7 := Lib.hid h8); clear h8 hi7 hst)
      all_goals go_wp2_with fail
      all_goals go_roundw
      all_goals first
        | exact ⟨k + 1, by omega, by go_num, HF7⟩
        | (simp [intOf]; omega)
    · obtain rfl : k = N := by omega
      obtain ⟨q', hc, hmv, hpp⟩ := HK.out
      have x3 : wr.cell? ⟨g, 3, none⟩ = some (.bool (c.loseN k).shut) := hc.cell 3
      have f3 : wr.frozen? ⟨g, 3, none⟩ = false := hc.frz 3
      have HE := Lib.hid (show CPut w g (some ⟨b, o, none⟩) cap q (c.lose k) M (wr.setCell ⟨g, 3, none⟩ (.bool true)) from HK.out.then fun q2 h2 _ => h2.putG rfl rfl h2.los)
      clear hc hmv hpp HK
      go_wp2_with fail
      go_end0
      exact ⟨rfl, HE.out⟩
set_option maxRecDepth 100000 in
set_option maxHeartbeats 8000000 in
theorem break_c (h : CAt w g p cap q c M) (h2 : 2 ≤ c.L.length) (now : Int) : Calls Try.prog 22 #[ptr g, .int .i64 now] w fun e w' => e = .returned (.tuple #[]) ∧ CPut w g p cap q c.breakC M w' := by
  have x2 : w.cell? ⟨g, 2, none⟩ = some (.int .i64 c.state) := h.cell 2
  have x0 : w.cell? ⟨g, 0, none⟩ = some (.slice p c.L.length cap) := h.cell 0
  obtain ⟨c1, hc1⟩ : ∃ c1, c.breakC = c1 := ⟨_, rfl⟩
  rw [hc1]
  by_cases h1 : c.state = 1
  · have HE := Lib.hid (show CPut w g p cap q c1 M w from by rw [← hc1]; unfold Ch.breakC; rw [if_pos h1]; exact CPut.refl h)
    rw [h1] at x2
    clear h x0 hc1
    go_enter Try.func22, Try.ntmps22
    go_wp2_with fail
    go_end0
    exact ⟨rfl, HE.out⟩
  · have HL := Lib.hid (lose_c h h2 c.L.length (Nat.le_refl _))
    have hc : c1 = { c.lose c.L.length with state := 2 } := by rw [← hc1]; unfold Ch.breakC; rw [if_neg h1]
    have HC := Lib.hid hc
    clear hc1 hc
    have d1 : decide (c.state = 1) = false := by simpa using h1
    have d2 : (c.state == 1) = false := by simpa using h1
    have d3 : (c.state != 1) = true := by simpa using h1
    have h10 := h.ten
    generalize c.L.length = n at *
    clear h
    go_enter Try.func22, Try.ntmps22
    go_wp2_with fail
    refine HL.out.mono ?_
    rintro e w1 ⟨rfl, hcp⟩
    obtain ⟨q1, hc, hmv, hpp⟩ := id hcp
    have y2 : w1.cell? ⟨g, 2, none⟩ = some (.int .i64 (c.lose n).state) := hc.cell 2
    have f2 : w1.frozen? ⟨g, 2, none⟩ = false := hc.frz 2
    have HE := Lib.hid (show CPut w g p cap q c1 M (w1.setCell ⟨g, 2, none⟩ (.int .i64 2)) from by rw [HC.out]; exact hcp.then fun q2 h2 _ => h2.putG rfl rfl h2.los)
    clear hcp hc hmv hpp HL x0 x2
    go_wp2_with fail
    go_end0
    exact ⟨rfl, HE.out⟩
end
end Go.Proofs.Ytfdfgnmgpgkknaa
