/-
  The walk of chicanelaw08.BucketWindows: it returns true, whatever rate, burst, and steps. Conditions: as it states.
-/
import Derived.Test.YtidklcjacejkaaaWhen
import Derived.Test.YtidklcjacejkaaaB7
import Derived.Test.YtidklcjacejkaaaQ
import Derived.Deep.RegionHeld
import Derived.Deep.Cut
namespace Go.Proofs.Ytidklcjacejkaaa.bucketWindows
open Go.RowKit

set_option maxRecDepth 100000 in
set_option maxHeartbeats 4000000 in
theorem bad (r u : Int) (p : Option Addr) (n d : Nat) (w : World) (h : rightB r u u 0 = false) :
    Calls Try.prog 4 #[.int .i64 r, .int .i64 u, .slice p n d] w fun e w' => e = .returned (.bool true) ∧ Below w.heap.size w w' := by
  have HN := Lib.hid (new_b0 h w)
  clear h
  go_enter Try.func4, Try.ntmps4
  go_wp2_with fail
  refine HN.out.mono ?_
  rintro e w1 ⟨rfl, hb⟩
  have HX := Lib.hid (bx_new hb 0 0 0 0 24)
  clear hb HN
  go_wp2_with fail
  refine (alive_any _).mono ?_
  rintro e w2 ⟨rfl, hb⟩
  have HE := Lib.hid (HX.out.on hb).2.2
  clear hb HX
  go_wp2_with fail
  go_ret
  exact ⟨rfl, HE.out⟩
set_option maxRecDepth 100000 in
set_option maxHeartbeats 4000000 in
theorem long (r u : Int) (p : Option Addr) (n d : Nat) (w : World) (h : rightB r u u 0 = true) (hn : 60 < n) :
    Calls Try.prog 4 #[.int .i64 r, .int .i64 u, .slice p n d] w fun e w' => e = .returned (.bool true) ∧ Below w.heap.size w w' := by
  have HN := Lib.hid (new_b1 h w)
  have d1 : decide ((60 : Int) < (n : Int)) = true := by simp; omega
  clear h
  go_enter Try.func4, Try.ntmps4
  go_wp2_with fail
  refine HN.out.mono ?_
  rintro e w1 ⟨rfl, hb⟩
  have HX := Lib.hid (bx_new hb r u u 0 24)
  clear hb HN
  go_wp2_with fail
  refine (alive_any _).mono ?_
  rintro e w2 ⟨rfl, hb⟩
  have HE := Lib.hid (HX.out.on hb).2.2
  clear hb HX
  go_wp2_with fail
  go_ret
  exact ⟨rfl, HE.out⟩
/-- Two rows that lie apart. -/
def Far (p q : Option Addr) : Prop := ∀ x y, p = some x → q = some y → x.block ≠ y.block
/-- What stands when k steps were taken. -/
structure Inv (w0 w : World) (g : Nat) (r u L t : Int) (qa qg : Option Addr) (k da dg : Nat) (ats gs : List Int) : Prop where
  bx : Bx w0 w g r u L t 24
  right : rightB r u L t = true
  win : Win r u ats gs L t
  ra : ORow w w0.heap.size 3 1 qa k da (ats.map (Value.int .i64))
  rg : ORow w w0.heap.size 3 1 qg k dg (gs.map (Value.int .i64))
  far : Far qa qg
theorem Inv.on {w0 w w' : World} {g : Nat} {r u L t : Int} {qa qg : Option Addr} {k da dg : Nat} {ats gs : List Int} (h : Inv w0 w g r u L t qa qg k da dg ats gs) (hb : Below w.heap.size w w') : Inv w0 w' g r u L t qa qg k da dg ats gs :=
  ⟨h.bx.on hb, h.right, h.win, h.ra.on hb, h.rg.on hb, h.far⟩
/-- Two numbers put behind the two rows. -/
theorem two_apps {w0 w : World} {g : Nat} {r u L t : Int} {qa qg : Option Addr} {k da dg : Nat} {ats gs : List Int} (hb : Bx w0 w g r u L t 24) (ha : ORow w w0.heap.size 3 1 qa k da (ats.map (Value.int .i64))) (hg : ORow w w0.heap.size 3 1 qg k dg (gs.map (Value.int .i64))) (hf : Far qa qg) (hk : k + 1 ≤ 1000000) (x y : Int) :
    ∃ qa' da' w1 qg' dg' w2, (∀ ty, (Builtin.append_ #[44, 44] ty #[.slice qa k da, .slice (some ⟨w.heap.size, 0, none⟩) 1 1]).run Try.prog (w.alloc (.cells #[.int .i64 x] 3)) = .ok (.slice qa' (k + 1) da') w1) ∧
      (∀ ty, (Builtin.append_ #[44, 44] ty #[.slice qg k dg, .slice (some ⟨w1.heap.size, 0, none⟩) 1 1]).run Try.prog (w1.alloc (.cells #[.int .i64 y] 3)) = .ok (.slice qg' (k + 1) dg') w2) ∧
      Bx w0 w2 g r u L t 24 ∧ ORow w2 w0.heap.size 3 1 qa' (k + 1) da' ((ats ++ [x]).map (Value.int .i64)) ∧ ORow w2 w0.heap.size 3 1 qg' (k + 1) dg' ((gs ++ [y]).map (Value.int .i64)) ∧ Far qa' qg' := by
  have hbs := hb.2.2.size
  obtain ⟨qa', da', w1, r1, o1, g1, l1⟩ := app_num ha hbs hk x
  have hal1 : Below w.heap.size w (w.alloc (.cells #[.int .i64 x] 3)) := (Below.refl _ _).alloc (Nat.le_refl _) _
  have hs1 := g1.size
  have hsz1 := hal1.size
  have hg1 : ORow w1 w0.heap.size 3 1 qg k dg (gs.map (Value.int .i64)) := (hg.on hal1).apart g1 fun a e e' => by
    obtain ⟨b, hb1, hb2⟩ : ∃ b, qa = some b ∧ b.block = a.block := by
      cases qa with
      | none => cases e'
      | some b => exact ⟨b, rfl, by simpa using e'⟩
    exact hf b a hb1 e hb2
  obtain ⟨qg', dg', w2, r2, o2, g2, l2⟩ := app_num hg1 (by omega) hk y
  have hal2 : Below w1.heap.size w1 (w1.alloc (.cells #[.int .i64 y] 3)) := (Below.refl _ _).alloc (Nat.le_refl _) _
  have hbx : ∀ (W W' : World) (q : Option Addr) (n c : Nat) (zs : List Value), Bx w0 W g r u L t 24 → ORow W w0.heap.size 3 1 q n c zs → W.grownBy W' (q.map (·.block)) → Bx w0 W' g r u L t 24 := fun W W' q n c zs hB ho hg => by
    have hne : ∀ a, q = some a → a.block ≠ g := fun a e eg => by
      obtain ⟨cur, hc⟩ := ho.typed a e
      rw [eg, hB.2.1] at hc
      simp at hc
    refine ⟨hB.1, (hg.block g (blk_lt hB.2.1) fun e => ?_).trans hB.2.1, hB.2.2.grown hg hB.2.2.size fun j hj => ?_⟩
    · cases q with
      | none => cases e
      | some a => exact hne a rfl (by simpa using e.symm)
    · cases q with
      | none => cases hj
      | some a =>
        have : a.block = j := by simpa using hj
        rw [← this]
        exact (ho.lt a rfl).1
  have hb1 := hbx _ _ _ _ _ _ (hb.on hal1) (ha.on hal1) g1
  have hb2 := hbx _ _ _ _ _ _ (hb1.on hal2) (hg1.on hal2) g2
  have far1 : ∀ a b, qa' = some a → qg = some b → a.block ≠ b.block := fun a b ea eb => by
    have hlt := (hg.lt b eb).2
    rcases l1 a ea with h | h
    · obtain ⟨c, hc1, hc2⟩ : ∃ c, qa = some c ∧ c.block = a.block := by
        cases qa with
        | none => cases h
        | some c => exact ⟨c, rfl, by simpa using h⟩
      rw [← hc2]
      exact hf c b hc1 eb
    · omega
  refine ⟨qa', da', w1, qg', dg', w2, r1, r2, hb2, (o1.on hal2).apart g2 fun a e e' => ?_, o2, fun a b ea eb => ?_⟩
  · obtain ⟨b, hb3, hb4⟩ : ∃ b, qg = some b ∧ b.block = a.block := by
      cases qg with
      | none => cases e'
      | some b => exact ⟨b, rfl, by simpa using e'⟩
    exact far1 a b e hb3 hb4.symm
  · have hlt := (o1.lt a ea).2
    rcases l2 b eb with h | h
    · obtain ⟨c, hc1, hc2⟩ : ∃ c, qg = some c ∧ c.block = b.block := by
        cases qg with
        | none => cases h
        | some c => exact ⟨c, rfl, by simpa using h⟩
      rw [← hc2]
      exact far1 a c ea hc1
    · omega
set_option maxRecDepth 100000 in
set_option maxHeartbeats 16000000 in
theorem main (r u : Int) (p : Option Addr) (n d : Nat) (os : List Stp) (w : World) (h : rightB r u u 0 = true) (hn : n ≤ 60) (hx : os.length = n) (hnd : n ≤ d) (hd : d ≤ 9223372036854775807) (hz : ∀ o ∈ os, Wf64 o.1 ∧ Wf64 o.2) (hj : StpsIn w p n os) :
    Calls Try.prog 4 #[.int .i64 r, .int .i64 u, .slice p n d] w fun e w' => e = .returned (.bool true) ∧ Below w.heap.size w w' := by
  have HN := Lib.hid (new_b1 h w)
  have HX := Lib.hid hx
  have HJ := Lib.hid hj
  have HZ := Lib.hid hz
  have HH := Lib.hid h
  have hr := (rightB_iff r u u 0).1 h
  have HR := Lib.hid hr
  have d1 : decide ((60 : Int) < (n : Int)) = false := by simp; omega
  clear h hx hz hj hr
  go_enter Try.func4, Try.ntmps4
  go_wp2_with fail
  refine HN.out.mono ?_
  rintro e w1 ⟨rfl, hb⟩
  have HB := Lib.hid (bx_new hb r u u 0 24)
  clear hb HN
  go_wp2_with fail
  clear d1
  generalize w1.alloc (.cells #[.int .i64 r, .int .i64 u, .int .i64 u, .int .i64 0] 24) = w2 at *
  generalize w1.heap.size = g at *
  go_loopw [9, 10, 11, 35] (fun tv av gv i wr => ∃ (k : Nat) (t L : Int) (qa qg : Option Addr) (da dg : Nat) (ats gs : List Int), k ≤ n ∧ i = .int .i64 k ∧ tv = .int .i64 t ∧ av = .slice qa k da ∧ gv = .slice qg k dg ∧ Hid (Inv w wr g r u L t qa qg k da dg ats gs)) (fun _ _ _ i _ => n - (intOf i).toNat)
  case atStart => exact ⟨0, 0, u, none, none, 0, 0, [], [], by omega, rfl, rfl, rfl, rfl, Lib.hid ⟨HB.out, HH.out, win_nil r u u HR.out.2.1.1, orow_nil _ _ _ _, orow_nil _ _ _ _, fun _ _ h => by cases h⟩⟩
  case round =>
    clear HB
    obtain ⟨k, t, L, qa, qg, da, dg, ats, gs, hk, rfl, rfl, rfl, rfl, HI⟩ := hrel
    by_cases hlt : k < n
    · obtain ⟨b, o, rfl, hcell⟩ := stps_on HJ.out HI.out.bx.2.2 (by omega)
      obtain ⟨c0, c1⟩ := hcell k hlt
      have hzk := HZ.out _ (stp_of os k (by rw [HX.out]; exact hlt))
      generalize os.getD k noStp = O at *
      obtain ⟨lat, N⟩ := O
      simp only at c0 c1 hzk
      rw [← Nat.add_assoc] at c1
      have hbl := World.block_lt_of_cell? wr _ c0
      have HI' := HI.out
      have hrt := (rightB_iff _ _ _ _).1 HI'.right
      obtain ⟨t', ht'⟩ : ∃ t', near (near t + near lat) = t' := ⟨_, rfl⟩
      have HA := Lib.hid (fun W => radd_any t lat W)
      rw [ht'] at HA
      have hadd : t ≤ t' ∧ t' ≤ 1099511627776 := by
        rw [← ht', near_of t hrt.2.2.2.1.1 hrt.2.2.2.1.2]
        have := near_range lat
        have h4 := hrt.2.2.2.1
        unfold near at *
        (repeat' split at *) <;> omega
      obtain ⟨L', hL'⟩ : ∃ L', fillL r u L t t' = L' := ⟨_, rfl⟩
      have hnt : near t' = t' := near_of t' (by have := hrt.2.2.2.1; omega) hadd.2
      obtain ⟨T, hT⟩ : ∃ T, fillT r u L t t' = T := ⟨_, rfl⟩
      obtain ⟨hTt, hw1, hw2, hw3⟩ := window_step HI'.right hL' hT (by rw [hnt]; exact hadd.1)
      rw [hnt] at hTt
      subst hTt
      obtain ⟨K, hK⟩ : ∃ K, takeB L' N = K := ⟨_, rfl⟩
      have hkr := take_range (n := N) hw3
      rw [hK] at hkr
      obtain ⟨D, hD⟩ : ∃ D, L' - K = D := ⟨_, rfl⟩
      have hfr := fill_right HI'.right T
      rw [hL', hT] at hfr
      have HT := Lib.hid (fun W => take_b1 HI'.right T N hL' hT hK hD W)
      have HRT := Lib.hid (show rightB r u D T = true by rw [← hD]; exact less_right hfr hkr.1 hkr.2.1)
      have HW := Lib.hid (win_step HI'.win hrt.1.1 hrt.2.2.2.1.1 hadd.1 hw1 hw2 hkr.1 (by omega) hD)
      have e1 : decide (K < 0) = false := by simp; omega
      have e2 : K ≤ if N < 0 then 0 else N := by
        have h1 := hkr.2.2.1
        have h2 := hkr.2.2.2.1
        split <;> omega
      have e3 : decide ((if N < 0 then 0 else N) < K) = false := by simpa using e2
      have hal : Below wr.heap.size wr (wr.alloc (.cells #[.int .i64 lat, .int .i64 N] 46)) := (Below.refl _ _).alloc (Nat.le_refl _) _
      have hnew := heap_alloc_new wr (.cells #[.int .i64 lat, .int .i64 N] 46)
      have HI1 := Lib.hid (HI'.on hal)
      have s0 := cell_of_row _ wr.heap.size 0 _ _ _ hnew
      have s1 := cell_of_row _ wr.heap.size 1 _ _ _ hnew
      have HSB := Lib.hid hnew
      obtain ⟨x0, x1, x2, x3⟩ := HI1.out.bx.cells
      clear hcell hzk HI' hrt ht' hadd hL' hnt hT hw1 hw2 hw3 hK hkr hD hfr hal hnew HI
      go_wp2_with fail
      generalize wr.alloc (.cells #[.int .i64 lat, .int .i64 N] 46) = w3 at *
      generalize wr.heap.size = sb at *
      replace s0 : w3.cell? ⟨sb, 0, none⟩ = some (.int .i64 lat) := s0
      replace s1 : w3.cell? ⟨sb, 1, none⟩ = some (.int .i64 N) := s1
      refine (HA.out _).mono ?_
      rintro e w' ⟨rfl, rfl⟩
      go_wp2_with fail
      refine (HT.out _).mono ?_
      rintro e w4 ⟨rfl, hb⟩
      have HI2 := Lib.hid (HI1.out.on hb)
      have HS4 := Lib.hid ((hb.block _ (blk_lt HSB.out)).trans HSB.out)
      have hgl := blk_lt HI2.out.bx.2.1
      clear x0 x1 x2 x3 s0 s1 c0 c1 hbl HA HT HI1 HSB hb
      obtain ⟨x0, x1, x2, x3⟩ := HI2.out.bx.cells
      have f0 := HI2.out.bx.frozen 0
      have f1 := HI2.out.bx.frozen 1
      have f2 := HI2.out.bx.frozen 2
      have f3 := HI2.out.bx.frozen 3
      have hb4 := HI2.out.bx
      have hfar : ∀ (q : Option Addr) (m c : Nat) (zs : List Value), ORow w4 w.heap.size 3 1 q m c zs → ORow (set4 w4 g (.int .i64 r) (.int .i64 u) (.int .i64 D) (.int .i64 T)) w.heap.size 3 1 q m c zs := fun q m c zs ho => ho.other hb4.2.1 (by decide) fun i hi => set4_far _ _ _ _ hi
      have hal := (Below.refl (set4 w4 g (.int .i64 r) (.int .i64 u) (.int .i64 D) (.int .i64 T)).heap.size (set4 w4 g (.int .i64 r) (.int .i64 u) (.int .i64 D) (.int .i64 T))).alloc (Nat.le_refl _) (.cells #[.int .i64 r, .int .i64 u, .int .i64 D, .int .i64 T] 24)
      have hsg : sb ≠ g := fun e => by
        have h := hb4.2.1
        rw [← e, HS4.out] at h
        simp at h
      have HB5 := Lib.hid ((hb4.set r u D T).on hal)
      have HA5 := Lib.hid ((hfar _ _ _ _ HI2.out.ra).on hal)
      have HG5 := Lib.hid ((hfar _ _ _ _ HI2.out.rg).on hal)
      have hs5 := (hal.block sb (by rw [set4]; simp [World.setCell]; exact blk_lt HS4.out)).trans ((set4_far (.int .i64 r) (.int .i64 u) (.int .i64 D) (.int .i64 T) hsg).trans HS4.out)
      have HS5 := Lib.hid hs5
      have HFA := Lib.hid HI2.out.far
      clear hb4 hfar hal hsg hs5 HI2 HS4
      go_upto_region 12 with fail
      generalize hW : (set4 w4 g (.int .i64 r) (.int .i64 u) (.int .i64 D) (.int .i64 T)).alloc (.cells #[.int .i64 r, .int .i64 u, .int .i64 D, .int .i64 T] 24) = w5 at *
      unfold set4 at hW
      rw [hW]
      clear hW x0 x1 x2 x3 f0 f1 f2 f3 hgl
      have s1 := cell_of_row w5 sb 1 _ _ _ HS5.out
      obtain ⟨qa', da', w6, qg', dg', w7, hr1, hr2, hb7, ha7, hg7, hf7⟩ := two_apps HB5.out HA5.out HG5.out HFA.out (by omega) T K
      have HR1 := Lib.hid hr1
      have HR2 := Lib.hid hr2
      have HE := Lib.hid (show Inv w w7 g r u D T qa' qg' (k + 1) da' dg' (ats ++ [T]) (gs ++ [K]) from ⟨hb7, HRT.out, HW.out, ha7, hg7, hf7⟩)
      clear hr1 hr2 hb7 ha7 hg7 hf7 HB5 HA5 HG5 HFA HS5
      go_wp2_with (first
        | (at_builtin; refine Lib.wpList_append_run _ rfl _ _ _ _ rfl (.slice qa k da) (.slice (some ⟨w5.heap.size, 0, none⟩) 1 1) rfl rfl _ _ (HR1.out _) ?_)
        | (at_builtin; refine Lib.wpList_append_run _ rfl _ _ _ _ rfl (.slice qg k dg) (.slice (some ⟨w6.heap.size, 0, none⟩) 1 1) rfl rfl _ _ (HR2.out _) ?_))
      go_roundw
      case rel => exact ⟨k + 1, T, D, qa', qg', da', dg', ats ++ [T], gs ++ [K], by omega, by go_num, rfl, rfl, rfl, HE⟩
      case measure => simp [intOf]; omega
    · obtain rfl : k = n := by omega
      have hi := HI.out
      have hra := hi.ra.num
      have hrg := hi.rg.num
      have HWN := Lib.hid hi.win
      have HRA := Lib.hid hra.2
      have HRG := Lib.hid hrg.2
      have hla := hra.1
      have hlg := hrg.1
      have HLA := Lib.hid hla
      have HLG := Lib.hid hlg
      have HBW := Lib.hid hi.bx.2.2
      have HTT := Lib.hid ((rightB_iff _ _ _ _).1 hi.right).2.2.2.1
      clear hi hra hrg hla hlg hlt HI
      go_wp2_with fail
      rename World => wC
      go_loopw [72] (fun iv wl => ∃ (i : Nat), i ≤ k ∧ iv = .int .i64 i ∧ Hid (Below wC.heap.size wC wl)) (fun iv _ => k - (intOf iv).toNat)
      case atStart => exact ⟨0, by omega, rfl, Lib.hid (Below.refl _ _)⟩
      case round =>
        obtain ⟨i, hi, rfl, HBi⟩ := hrel
        by_cases hik : i < k
        · go_wp2_with fail
          rename World => wI
          go_loopw [17, 18] (fun sv jv wl => ∃ (j : Nat) (s : Int), i ≤ j ∧ j ≤ k ∧ jv = .int .i64 j ∧ sv = .int .i64 s ∧ Hid (s = near (sm ((gs.drop i).take (j - i)))) ∧ Hid (Below wC.heap.size wC wl)) (fun _ jv _ => k - (intOf jv).toNat)
          case atStart => exact ⟨i, 0, by omega, by omega, rfl, rfl, Lib.hid (by rw [Nat.sub_self, List.take_zero]; rfl), HBi⟩
          case round =>
            clear HBi
            obtain ⟨j, s, hij, hjk, rfl, rfl, HS, HBj⟩ := hrel
            by_cases hj : j < k
            · obtain ⟨ba, oa, rfl, hca⟩ := ints_on HRA.out HBj.out (by omega)
              obtain ⟨bg, og, rfl, hcg⟩ := ints_on HRG.out HBj.out (by omega)
              have ga := hca j hj
              have gi := hca i hik
              have gg := hcg j hj
              have hwin := HWN.out
              have hla := HLA.out
              have hlg := HLG.out
              have hpos : 0 ≤ gs.getD j 0 := by
                rw [List.getD_eq_getElem?_getD, List.getElem?_eq_getElem (by omega)]
                exact hwin.pos _ (List.getElem_mem (by omega))
              have hsn : 0 ≤ sm ((gs.drop i).take (j - i)) := sm_nonneg fun g hg => hwin.pos g (List.mem_of_mem_drop (List.mem_of_mem_take hg))
              have hnx := sm_next gs i j hij (by omega)
              have hpr := hwin.pairs i j hij (by omega)
              have hmo := hwin.mono i j hij (by omega)
              have hai := hwin.atl i (by omega)
              have haj := hwin.atl j (by omega)
              obtain ⟨s', hs'⟩ : ∃ s', near (near s + near (gs.getD j 0)) = s' := ⟨_, rfl⟩
              have hss : s' = near (sm ((gs.drop i).take (j + 1 - i))) := by rw [← hs', HS.out, near_add hsn hpos, hnx]
              have HS1 := Lib.hid hss
              have HA := Lib.hid (fun W => radd_any s (gs.getD j 0) W)
              rw [hs'] at HA
              generalize gs.getD j 0 = gj at *
              generalize ats.getD j 0 = aj at *
              generalize ats.getD i 0 = ai at *
              have hr := HR.out
              have hrt := (rightB_iff _ _ _ _).1 HH.out
              have htt := HTT.out
              have hw : IntKind.i64.wrap (aj - ai) = aj - ai := IntWalk.i64_in _ (by omega)
              have hfit := most_fits (s := sm ((gs.drop i).take (j + 1 - i))) hr.1 hr.2.1 (show 0 ≤ aj - ai ∧ aj - ai ≤ 1099511627776 by omega) (by rw [hnx]; omega) hpr
              rw [← hss] at hfit
              obtain ⟨M, hM⟩ : ∃ M, near (near r * near (aj - ai)) = M := ⟨_, rfl⟩
              obtain ⟨X, hX⟩ : ∃ X, near (near u + near M) = X := ⟨_, rfl⟩
              have HM := Lib.hid (fun W => rmul_any r (aj - ai) W)
              rw [hM] at HM
              have HAX := Lib.hid (fun W => radd_any u M W)
              rw [hX] at HAX
              rw [hM, hX] at hfit
              have d2 : decide (X < s') = false := by simpa using hfit
              have HCK := Lib.hid (show ∀ W, Below wr.heap.size wr W → (W.cell? ⟨ba, oa + j, none⟩ = some (.int .i64 aj) ∧ W.cell? ⟨ba, oa + i, none⟩ = some (.int .i64 ai)) ∧ Below wr.heap.size wr W from fun W hb => ⟨⟨(hb.cell (World.block_lt_of_cell? wr _ ga)).trans ga, (hb.cell (World.block_lt_of_cell? wr _ gi)).trans gi⟩, hb⟩)
              clear hca hcg hwin hla hlg hpos hsn hnx hpr hmo hai haj hs' hss hr hrt htt hfit hM hX
              go_wp2_with fail
              refine (HA.out _).mono ?_
              rintro e w' ⟨rfl, rfl⟩
              go_wp2_with fail
              go_region_held (fun W => (W.cell? ⟨ba, oa + j, none⟩ = some (.int .i64 aj) ∧ W.cell? ⟨ba, oa + i, none⟩ = some (.int .i64 ai)) ∧ Below wr.heap.size wr W)
                ((refine HCK.out _ ?_
                  go_split_ands
                  first
                    | with_reducible exact (Below.refl _ _).drew
                    | with_reducible assumption))
                (first
                  | (go_at_call 22; go_split_ands; (with_reducible refine Calls.mono (HM.out _) ?_); rintro e w8 ⟨rfl, hb⟩; (have hb8 := seqB (by assumption) hb); (have HB8 := Lib.hid hb8); clear hb)
                  | (go_at_call 21; (with_reducible refine Calls.mono (HAX.out _) ?_); rintro e w9 ⟨rfl, rfl⟩))
              go_wp2_with fail
              go_roundw
              case rel => exact ⟨j + 1, s', by omega, by omega, by go_num, rfl, HS1, Lib.hid (seqB HBj.out HB8.out)⟩
              case measure => simp [intOf]; omega
            · obtain rfl : j = k := by omega
              go_wp2_with fail
              go_roundw
              case rel => exact ⟨i + 1, by omega, by go_num, HBj⟩
              case measure => simp [intOf]; omega
        · obtain rfl : i = k := by omega
          go_wp2_with fail
          refine (alive_any _).mono ?_
          rintro e w5 ⟨rfl, hb5⟩
          have HE := Lib.hid (seqB HBW.out (seqB HBi.out hb5))
          clear hb5
          go_wp2_with fail
          go_ret
          exact ⟨rfl, HE.out⟩
theorem walk (r u : Int) (p : Option Addr) (n d : Nat) (os : List Stp) (w : World) (hx : os.length = n) (hnd : n ≤ d) (hd : d ≤ 9223372036854775807) (hz : ∀ o ∈ os, Wf64 o.1 ∧ Wf64 o.2) (hj : StpsIn w p n os) :
    Calls Try.prog 4 #[.int .i64 r, .int .i64 u, .slice p n d] w fun e w' => e = .returned (.bool true) ∧ Below w.heap.size w w' := by
  cases h : rightB r u u 0 with
  | false => exact bad r u p n d w h
  | true =>
    rcases Nat.lt_or_ge 60 n with hn | hn
    · exact long r u p n d w h hn
    · exact main r u p n d os w h hn hx hnd hd hz hj
end Go.Proofs.Ytidklcjacejkaaa.bucketWindows
