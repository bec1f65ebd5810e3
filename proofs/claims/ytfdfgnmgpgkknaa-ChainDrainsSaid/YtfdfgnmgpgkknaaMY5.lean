/-
  Contract: Take of a stage whose kind is given by 'rest'. Conditions: as each states.
-/
import Derived.Test.YtfdfgnmgpgkknaaMY4
namespace Go.Proofs.Ytfdfgnmgpgkknaa
open Go.RowKit

variable {w w' w'' w0 : World} {base g c M M' : Nat} {u u' u'' : gc.U} {s s' s'' s1 s2 : St}
set_option maxRecDepth 100000 in
set_option maxHeartbeats 8000000 in
theorem take_by_rest (h : Raw w base g c u s M) (now most : Int) (hs : (lookS s now).st = 0) (hs1 : lookS s now = s1) {n : Int} (hn : min most (gc.readyN s1.A s1.clock : Int) = n) (h1 : 1 ≤ n) {K : Nat} {s2 : St}
    (hix : ∀ W, (Instr.index 80 giveV (.int .i64 s1.tx.k)).run Try.prog W = .ok (.func (.func 71) #[] #[]) W)
    (hg : ∀ W, Raw W base g c u s1 M → Calls Try.prog 71 #[ptr g, .int .i64 n] W fun e w' => e = .returned (.int .i64 (K : Int)) ∧ Set W base g c u s2 M w')
    (hc : s2.clock = s1.clock) (hA : s2.A = s1.A) (hw : IntKind.i64.wrap (s2.passed + (K : Int)) = s2.passed + (K : Int)) (hK : gc.takeK s1.A s1.clock (K : Int) = K) :
    Calls Try.prog 33 #[ptr g, .int .i64 now, .int .i64 most] w (Tk w base g c u (cutS s2 K) M (s2.S.extract 0 K) K) := by
  have HT := Lib.hid (state_any h now)
  rw [hs, hs1] at HT
  have HG := Lib.hid hg
  have HCT := Lib.hid (fun W (hr : Raw W base g c u { s2 with passed := s2.passed + (K : Int) } M) => ctake hr s1.clock (K : Int) (K := K) (by show gc.takeK s2.A s1.clock (K : Int) = K; rw [hA]; exact hK))
  have HC2 := Lib.hid (fun W (hw : Set w base g c u s2 M W) => (⟨hw.1.cell 13, hw.1.frz 13, hw.set (i := 13) (v := .int .i64 (s2.passed + (K : Int))) (s' := { s2 with passed := s2.passed + (K : Int) }) rfl rfl rfl rfl⟩ : W.cell? ⟨g, 13, none⟩ = some (.int .i64 s2.passed) ∧ W.frozen? ⟨g, 13, none⟩ = false ∧ Set w base g c u { s2 with passed := s2.passed + (K : Int) } M (W.setCell ⟨g, 13, none⟩ (.int .i64 (s2.passed + (K : Int))))))
  have HC3 := Lib.hid (fun W (hw : Set w base g c u { s2 with passed := s2.passed + (K : Int) } M W) => (⟨hw.1.cell 0, hc ▸ hw.1.cell 15⟩ : W.cell? ⟨g, 0, none⟩ = some (.pointer (some ⟨c, 0, none⟩)) ∧ W.cell? ⟨g, 15, none⟩ = some (.int .i64 s1.clock)))
  have hd : decide (n < 1) = false := by simpa using h1
  clear h hs h1 hg hs1 hc hA hK
  go_enter Try.func33, Try.ntmps33
  go_wp2_with fail
  refine HT.out.mono ?_
  rintro e w1 ⟨rfl, hx⟩
  have H1 := Lib.hid hx
  have x0 : w1.cell? ⟨g, 0, none⟩ = some (.pointer (some ⟨c, 0, none⟩)) := hx.1.cell 0
  have x15 : w1.cell? ⟨g, 15, none⟩ = some (.int .i64 s1.clock) := hx.1.cell 15
  have HR := Lib.hid (gc.ready_al (hx.on (Below.refl _ w1).drew).1.car s1.clock)
  clear hx HT
  go_wp2_with fail
  go_region_law
    (first
      | (go_simp; go_at_call 51; (with_reducible refine Calls.mono HR.out ?_); rintro e w4 ⟨rfl, hb⟩))
  all_goals (
    have HS := Lib.hid ((H1.out.on (Below.refl _ w1).drew).on hb)
    have x2 : w4.cell? ⟨g, 2, none⟩ = some (.int .i64 s1.tx.k) := HS.out.1.cell 2
    have HGV := Lib.hid (gives_any w4.drew)
    have HX2 := Lib.hid (fun W (hb : Below w4.drew.heap.size w4.drew W) => (⟨((HS.out.on (Below.refl _ w4).drew).on hb).1.cell 2, (HS.out.on (Below.refl _ w4).drew).on hb⟩ : W.cell? ⟨g, 2, none⟩ = some (.int .i64 s1.tx.k) ∧ Set w base g c u s1 M W))
    clear hb x0 x15 H1 HR
    go_wp2_with fail
    go_region_law
      (first
        | (go_simp; go_at_call 52; (with_reducible refine Calls.mono HGV.out ?_); rintro e w5 ⟨rfl, hb⟩; (obtain ⟨y2, hs5⟩ := HX2.out w5 hb); (have hr5 := hs5.1); clear hb)
        | (go_simp; go_at_call 71; (with_reducible refine Calls.mono (HG.out _ hr5) ?_); rintro e w6 ⟨rfl, hs6⟩)))
  all_goals (
    have HS6 := Lib.hid (hs5.trans hs6)
    obtain ⟨z13, g13, hs7⟩ := HC2.out w6 HS6.out
    have HS7 := Lib.hid hs7
    clear hs7 HC2 hs5 hr5 hs6 y2 x2 HGV HX2
    go_wp2_with fail
    obtain ⟨x0, x15⟩ := HC3.out _ HS7.out
    clear HC3 z13 g13
    generalize w6.setCell ⟨g, 13, none⟩ (.int .i64 (s2.passed + (K : Int))) = w7 at *
    have HS8 := Lib.hid (HS7.out.on (Below.refl _ w7).drew)
    have HCT2 := Lib.hid (HCT.out _ HS8.out.1)
    refine wp_region_still_tail 9 (by kernel_rfl) (by kernel_rfl) ?_
    simp only [List.take_succ_cons, List.take_zero, List.drop_succ_cons, List.drop_zero]
    repeat still_step
    refine wpStill_nil ?_
    go_wp2_with fail
    refine HCT2.out.mono ?_
    rintro e w9 hk
    have HK := Lib.hid (HS8.out.thenT hk)
    obtain ⟨q, d, rfl, _⟩ := hk
    go_wp2_with fail
    try rw [Exit.noGoto_ret]
    go_ret
    exact HK.out)
end Go.Proofs.Ytfdfgnmgpgkknaa
