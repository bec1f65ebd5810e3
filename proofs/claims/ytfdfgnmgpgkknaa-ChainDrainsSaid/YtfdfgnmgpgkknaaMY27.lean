/-
  Contract: New of a chain, walked; Toxics. Conditions: as each states.
  Contract: Toxics of a chain. Conditions: as each states.
-/
import Derived.Test.YtfdfgnmgpgkknaaMY25
namespace Go.Proofs.Ytfdfgnmgpgkknaa
open Go.RowKit

section
variable {w w' : World}
abbrev passP (room now : Int) : Prt := ⟨newS noTox 0 room now, false⟩
def mkC (room now : Int) (k : Nat) : Ch := ⟨List.replicate k (passP room now), room, 0, false, 0⟩
theorem mk_len (room now : Int) (k : Nat) : (mkC room now k).L.length = k := by unfold mkC; simp
theorem mk_succ (room now : Int) (k : Nat) : ({ mkC room now k with L := (mkC room now k).L ++ [passP room now] } : Ch) = mkC room now (k + 1) := by
  unfold mkC
  rw [List.replicate_succ']
theorem mk_two (room now : Int) : mkC room now 2 = Ch.newC room now := rfl
theorem made_part {w0 W W1 : World} {g : Nat} {room now : Int} {k pp gg : Nat} {U : Own} (hk : k < 2) (h : Made w0 g (mkC room now k) W) (hp : PAt W1 pp gg U (newS noTox 0 room now) false 0) (hf : Fr W W1 (oneU pp U)) :
    ∃ p cap p' cap' W', W1.cell? ⟨g, 0, none⟩ = some (.slice p k cap) ∧ (∀ ty, (Builtin.append_ #[PS, PS] ty #[.slice p k cap, .slice (some ⟨W1.heap.size, 0, none⟩) 1 1]).run Try.prog (W1.alloc (.cells #[ptr pp] PT)) = .ok (.slice p' (k + 1) cap') W') ∧
      (W'.cell? ⟨g, 0, none⟩ = some (.slice p k cap) ∧ W'.frozen? ⟨g, 0, none⟩ = false) ∧ Made w0 g (mkC room now (k + 1)) (W'.setCell ⟨g, 0, none⟩ (.slice p' (k + 1) cap')) := by
  obtain ⟨p, cap, q, a1, a2⟩ := h
  have hm := made_more (a1.on hf.1) ⟨a2.1.trans (hf.1.mono a2.1.size), a2.2⟩ (by rw [mk_len]; omega) hp (fun i hi => Nat.le_trans a2.1.size (hf.2 i hi)) (fun i hi hb => by
    have := hf.2 i hi
    have := a1.lt hb
    omega) rfl
  rw [mk_succ, mk_len] at hm
  exact ⟨p, cap, hm⟩
set_option maxRecDepth 100000 in
set_option maxHeartbeats 8000000 in
theorem new_c {room now : Int} (hE : newE noTox room = 0) (w : World) : Calls Try.prog 8 #[.int .i64 room, .int .i64 now] w fun e w' => ∃ g, e = .returned (.tuple #[ptr g, .int .i64 0]) ∧ Made w g (Ch.newC room now) w' := by
  have H0 := Lib.hid (show Made w w.heap.size (mkC room now 0) (w.alloc (.cells #[.slice none 0 0, .int .i64 room, .int .i64 0, .bool false, .int .i64 0] 48)) from made_start w room)
  have HN := Lib.hid (fun W => part_yes (seed := 0) (now := now) Ch.noTox_s hE W)
  unfold Tox.v noTox at HN
  obtain ⟨g, hg⟩ : ∃ g, w.heap.size = g := ⟨_, rfl⟩
  rw [hg] at H0
  clear hE
  go_enter Try.func8, Try.ntmps8
  go_wp2_with fail
  go_loopw [12] (fun i wr => ∃ k : Nat, k ≤ 2 ∧ i = .int .i64 k ∧ Hid (Made w g (mkC room now k) wr)) (fun i _ => 2 - (intOf i).toNat)
  case atStart => exact ⟨0, Nat.zero_le _, rfl, H0⟩
  case round =>
    clear H0
    obtain ⟨k, hk, rfl, HK⟩ := hrel
    by_cases hlt : k < 2
    · have HC := Lib.hid (HN.out wr)
      go_wp2_with fail
      refine HC.out.mono ?_
      rintro e w1 ⟨pp, gg, U, rfl, hp, hf⟩
      obtain ⟨p, cap, p', cap', W', x0, happ, ⟨z0, f0⟩, hm⟩ := made_part hlt HK.out hp hf
      have HAP := Lib.hid happ
      have HM := Lib.hid hm
      clear happ hm hp hf HC HK
      go_wp2_with (at_builtin; refine Lib.wpList_append_run _ rfl _ _ _ _ rfl (.slice p k cap) (.slice (some ⟨w1.heap.size, 0, none⟩) 1 1) rfl rfl _ _ (HAP.out _) ?_)
      go_roundw
      case rel => exact ⟨k + 1, by omega, by go_num, HM⟩
      case measure => simp [intOf]; omega
    · obtain rfl : k = 2 := by omega
      clear hlt
      have HE := Lib.hid (show Made w g (Ch.newC room now) wr from HK.out)
      clear HK
      go_wp2_with fail
      go_ret2
      exact ⟨g, rfl, HE.out⟩
set_option maxRecDepth 100000 in
set_option maxHeartbeats 8000000 in
theorem new_c_no {room now : Int} (hE : newE noTox room ≠ 0) (w : World) : Calls Try.prog 8 #[.int .i64 room, .int .i64 now] w fun e w' => e = .returned (.tuple #[.pointer none, .int .i64 (newE noTox room)]) ∧ Below w.heap.size w w' := by
  have hal : Below w.heap.size w (w.alloc (.cells #[.slice none 0 0, .int .i64 room, .int .i64 0, .bool false, .int .i64 0] 48)) := (Below.refl _ _).alloc (Nat.le_refl _) _
  have HN := Lib.hid (part_no (seed := 0) (now := now) Ch.noTox_s hE (w.alloc (.cells #[.slice none 0 0, .int .i64 room, .int .i64 0, .bool false, .int .i64 0] 48)))
  have d1 : decide (newE noTox room = 0) = false := by simpa using hE
  have d2 : (newE noTox room == 0) = false := by simpa using hE
  have d3 : (newE noTox room != 0) = true := by simpa using hE
  generalize newE noTox room = E at *
  unfold Tox.v noTox at HN
  have HA := Lib.hid hal
  clear hE hal
  go_enter Try.func8, Try.ntmps8
  go_wp2_with fail
  go_loopw [12] (fun i wr => i = .int .i64 0 ∧ wr = w.alloc (.cells #[.slice none 0 0, .int .i64 room, .int .i64 0, .bool false, .int .i64 0] 48)) (fun _ _ => 0)
  case atStart => exact ⟨rfl, rfl⟩
  case round =>
    obtain ⟨rfl, rfl⟩ := hrel
    go_wp2_with fail
    refine HN.out.mono ?_
    rintro e w1 ⟨rfl, hb⟩
    have HR := Lib.hid (HA.out.trans (hb.mono HA.out.size))
    clear hb HN HA
    go_wp2_with fail
    go_ret2
    exact ⟨rfl, HR.out⟩
end
end Go.Proofs.Ytfdfgnmgpgkknaa
namespace Go.Proofs.Ytfdfgnmgpgkknaa
open Go.RowKit

def cellsT (t : Tox) : List Value := [.string t.s, .int .i64 t.k, .bool t.up, .int .i64 t.o, .int .i64 t.a, .int .i64 t.b]
def flatT (l : List Tox) : List Value := l.flatMap cellsT
theorem flatT_append (l : List Tox) (t : Tox) : flatT (l ++ [t]) = flatT l ++ cellsT t := by simp [flatT]
theorem cellsT_one (t : Tox) : ∀ u ∈ cellsT t, u.oneCell' = true := by
  intro u hu
  simp [cellsT] at hu
  rcases hu with rfl | rfl | rfl | rfl | rfl | rfl <;> rfl
/-- The toxics of a chain. -/
def txL (c : Ch) (k : Nat) : List Tox := (List.range k).map fun j => (c.at' (j + 1)).s.tx
theorem txL_succ (c : Ch) (k : Nat) : txL c (k + 1) = txL c k ++ [(c.at' (k + 1)).s.tx] := by
  unfold txL
  rw [List.range_succ, List.map_append]
  rfl
theorem infoT : (Try.prog.info? 30).map (fun i => (i.zero, i.size, i.bytes)) = some (some (.agg #[.string ⟨#[]⟩, .int .i64 0, .bool false, .int .i64 0, .int .i64 0, .int .i64 0]), 6, 56) := by kernel_rfl
theorem app_tox {w0 w : World} {base n c : Nat} {p : Option Addr} {zs : List Tox} (ho : gc.ORow w base 30 6 p n c (flatT zs)) (hb : Below base w0 w) (hbase : base ≤ w.heap.size) (hn : n ≤ 20) (t : Tox) :
    ∃ q d w', (∀ ty, (Builtin.append_ #[53, 53] ty #[.slice p n c, .slice (some ⟨w.heap.size, 0, none⟩) 1 1]).run Try.prog (w.alloc (toxObj t)) = .ok (.slice q (n + 1) d) w') ∧ gc.ORow w' base 30 6 q (n + 1) d (flatT (zs ++ [t])) ∧ Below base w0 w' := by
  obtain ⟨i0, hi0, hz0, hz1, hz2⟩ := info_parts infoT
  have hal : Below w.heap.size w (w.alloc (toxObj t)) := (Below.refl _ _).alloc (Nat.le_refl _) _
  have hnew := heap_alloc_new w (toxObj t)
  obtain ⟨q, d, w', h1, h2, h3, h4⟩ := gc.app_row (t := 53) (ho.on hal) (Nat.le_trans hbase hal.size) Try.underlying53 hi0 hz0 hz1 hz2 rfl (by decide) (a := ⟨w.heap.size, 0, none⟩) (m := 1) (d := 1) (news := cellsT t) rfl (fun j u hj => by
    rw [WideShapes.add_plain]
    have hj1 : j < 6 := (List.getElem?_eq_some_iff.1 hj).1
    rcases (show j = 0 ∨ j = 1 ∨ j = 2 ∨ j = 3 ∨ j = 4 ∨ j = 5 by omega) with rfl | rfl | rfl | rfl | rfl | rfl <;> (cases hj; exact cell_of_row _ _ _ _ _ _ hnew)) (cellsT_one t) (by unfold maxLen; omega) (by omega)
  rw [← flatT_append] at h2
  refine ⟨q, d, w', h1, h2, (hb.trans (hal.mono hbase)).grown h3 (by have := hal.size; simp; omega) (fun j hj => ?_)⟩
  cases p with
  | none => cases hj
  | some a =>
    have hj : some a.block = some j := hj
    cases hj
    exact (ho.lt a rfl).1
section
variable {w w' : World} {g : Nat} {p : Option Addr} {cap : Nat} {q : List Nd} {c c' : Ch} {M M' : Nat}
/-- What Toxics hands back. -/
def ToxOut (c : Ch) (w : World) (e : Ending) (w' : World) : Prop := ∃ a d, e = .returned (.slice a (c.L.length - 2) d) ∧ gc.ORow w' w.heap.size 30 6 a (c.L.length - 2) d (flatT (txL c (c.L.length - 2))) ∧ Below w.heap.size w w'
set_option maxRecDepth 100000 in
set_option maxHeartbeats 8000000 in
theorem toxics_c (h : CAt w g p cap q c M) (h2 : 2 ≤ c.L.length) : Calls Try.prog 21 #[ptr g] w (ToxOut c w) := by
  have h10 := h.ten
  obtain ⟨b, o, rfl, hr, hnc, hmx⟩ := h.rows (by omega)
  have x0 : w.cell? ⟨g, 0, none⟩ = some (.slice (some ⟨b, o, none⟩) c.L.length cap) := h.cell 0
  have HC := Lib.hid h
  obtain ⟨m, hm⟩ : ∃ m, c.L.length = m + 2 := ⟨c.L.length - 2, by omega⟩
  unfold ToxOut
  have hm2 : c.L.length - 2 = m := by omega
  rw [hm2]
  rw [hm] at x0 hnc
  have HM := Lib.hid hm
  have hm8 : m ≤ 8 := by omega
  have hc1 : ¬ cap = 1 := by omega
  have hm1 : ((m + 2 : Nat) : Int) - 1 = (m : Int) + 1 := by omega
  have hm3 : (m : Int) + 2 - 1 = (m : Int) + 1 := by omega
  have hiw : IntKind.i64.wrap ((m : Int) + 2 - 1) = (m : Int) + 1 := by rw [hm3]; exact wrap_id (by omega) (by omega)
  have hti : ((m : Int) + 1).toNat = m + 1 := by omega
  have hi0 : (0 : Int) ≤ (m : Int) + 1 := by omega
  have hi1 : (1 : Int) ≤ (m : Int) + 1 := by omega
  have hi2 : (m : Int) + 1 ≤ (cap : Int) := by omega
  have hmc : m + 1 ≤ cap := by omega
  clear h hr hm hm2 h2 h10
  go_enter Try.func21, Try.ntmps21
  go_wp2_with fail
  go_quiet (fail)
  have H0 := Lib.hid (⟨gc.orow_nil (w.drewN nq) w.heap.size 30 6, gc.below_drewN w nq⟩ : gc.ORow (w.drewN nq) w.heap.size 30 6 none 0 0 (flatT (txL c 0)) ∧ Below w.heap.size w (w.drewN nq))
  clear x0
  go_wp2_with fail
  go_loopw [3, 18] (fun s i wr => ∃ (k : Nat) (a : Option Addr) (d : Nat), k ≤ m ∧ i = .int .i64 k ∧ s = .slice a k d ∧ Hid (gc.ORow wr w.heap.size 30 6 a k d (flatT (txL c k)) ∧ Below w.heap.size w wr)) (fun _ i _ => m - (intOf i).toNat)
  case atStart => exact ⟨0, none, 0, Nat.zero_le _, rfl, rfl, H0⟩
  case round =>
    clear H0
    obtain ⟨k, a, d, hk, rfl, rfl, HK⟩ := hrel
    by_cases hlt : k < m
    · have hcr := HC.out.on HK.out.2
      have hk1 : k + 1 < c.L.length := by rw [HM.out]; omega
      have y0 := hcr.rowk hk1
      rw [show o + (k + 1) = o + 1 + k by omega] at y0
      have z0 := (hcr.pcell hk1).1
      have HT := Lib.hid (toxic_i (hcr.stg (k + 1) hk1))
      obtain ⟨t, ht⟩ : ∃ t, (c.at' (k + 1)).s.tx = t := ⟨_, rfl⟩
      have HS := Lib.hid (show txL c (k + 1) = txL c k ++ [t] by rw [txL_succ, ht])
      rw [ht] at HT
      unfold Tox.v at HT
      generalize (nd q (k + 1)).p = pk at *
      generalize (nd q (k + 1)).g = gk at *
      have HA := Lib.hid (fun W (hb : Below wr.heap.size wr W) => app_tox (HK.out.1.on hb) (HK.out.2.trans (hb.mono HK.out.2.size)) (Nat.le_trans HK.out.2.size hb.size) (by omega) t)
      unfold toxObj at HA
      clear hcr hk1 ht HK
      go_wp2_with fail
      refine HT.out.mono ?_
      rintro e w1 ⟨rfl, hb1⟩
      obtain ⟨a', d', w2, happ, ho2, hb2⟩ := HA.out w1 hb1
      have HAP := Lib.hid happ
      have HO := Lib.hid (show gc.ORow w2 w.heap.size 30 6 a' (k + 1) d' (flatT (txL c (k + 1))) ∧ Below w.heap.size w w2 from ⟨by rw [HS.out]; exact ho2, hb2⟩)
      clear happ ho2 hb2 hb1 HA HT y0 z0 HS
      go_wp2_with (at_builtin; refine Lib.wpList_append_run _ rfl _ _ _ _ rfl (.slice a k d) (.slice (some ⟨w1.heap.size, 0, none⟩) 1 1) rfl rfl _ _ (HAP.out _) ?_)
      go_roundw
      case rel => exact ⟨k + 1, a', d', by omega, by go_num, rfl, HO⟩
      case measure => simp [intOf]; omega
    · obtain rfl : k = m := by omega
      clear hlt
      go_wp2_with fail
      try rw [Exit.noGoto_ret]
      go_ret
      exact ⟨a, d, rfl, HK.out.1, HK.out.2⟩
end
end Go.Proofs.Ytfdfgnmgpgkknaa
