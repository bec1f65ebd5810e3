/-
  Contract: what Take of a stage answers, of any kind. Conditions: as each states.
  A stage as the program has it, and as mathematics: but for ticks at which its bucket was filled. Conditions: as each states.
-/
import Derived.Test.YtfdfgnmgpgkknaaMY4
import Derived.Test.YtfdfgnmgpgkknaaMY5
namespace Go.Proofs.Ytfdfgnmgpgkknaa
open Go.RowKit

variable {w w' w'' w0 : World} {base g c M M' : Nat} {u u' u'' : gc.U} {s s' s'' s1 s2 : St}
/-- Take, as the program does it: of nothing nothing is done. -/
def takeC (s : St) (now most : Int) : St × ByteArray :=
  if (lookS s now).st ≠ 0 then (lookS s now, ⟨#[]⟩)
  else if min most (gc.readyN (lookS s now).A (lookS s now).clock : Int) < 1 then (lookS s now, ⟨#[]⟩)
  else
    (cutS (giveS (lookS s now) (min most (gc.readyN (lookS s now).A (lookS s now).clock : Int))).1 (giveS (lookS s now) (min most (gc.readyN (lookS s now).A (lookS s now).clock : Int))).2.toNat,
      (lookS s now).S.extract 0 (giveS (lookS s now) (min most (gc.readyN (lookS s now).A (lookS s now).clock : Int))).2.toNat)
theorem takeK_is {A : List Int} {t : Int} {K : Nat} (h : K ≤ gc.readyN A t) : gc.takeK A t (K : Int) = K := by
  unfold gc.takeK
  omega
theorem not_over (now : Int) (hs : (lookS s now).st = 0) (hk : s.tx.k = 6) : s.passed < s.tx.a := by
  have h0 : s.st = 0 := state_open (by exact hs)
  rw [look_yes s now h0] at hs
  have hf : foundS (heardS s now) = 0 := hs
  unfold foundS at hf
  have e : (heardS s now).tx.k = 6 := hk
  rw [if_neg (by rw [e]; simp), if_neg (by rw [e]; simp)] at hf
  by_cases hp : (heardS s now).tx.k = 6 ∧ (heardS s now).tx.a ≤ (heardS s now).passed
  · rw [if_pos hp] at hf
    omega
  · have : ¬ s.tx.a ≤ s.passed := fun h => hp ⟨e, h⟩
    omega
/-- What is given: by kind. -/
theorem give_is (ho : Ok s M) (n : Int) (h1 : 1 ≤ n) (hl : s.tx.k = 6 → s.passed < s.tx.a) : 0 ≤ (giveS s n).2 ∧ (giveS s n).2 ≤ n := by
  have hab := ho.ab
  unfold giveS
  by_cases h2 : s.tx.k = 2
  · rw [if_pos h2]
    have hr := (gb.rightB_iff _ _ _ _).1 (gb.fill_right (ho.bk h2) s.clock)
    have := gb.take_range (L := gb.fillL s.bk.r s.bk.u s.bk.l s.bk.t s.clock) (n := n) hr.2.2.1.1
    exact ⟨this.1, this.2.2.1 (by omega)⟩
  · rw [if_neg h2]
    by_cases h3 : s.tx.k = 3
    · rw [if_pos h3]
      have := gd.takeZ_range s.d s.tx.a (by have := hab.2.2.2.2 h3; omega)
      split
      · exact ⟨Int.le_refl _, by show (0 : Int) ≤ n; omega⟩
      · show 0 ≤ (if gd.takeZ s.d s.tx.a + 1 < n then gd.takeZ s.d s.tx.a + 1 else n) ∧ (if gd.takeZ s.d s.tx.a + 1 < n then gd.takeZ s.d s.tx.a + 1 else n) ≤ n
        constructor <;> split <;> omega
    · rw [if_neg h3]
      split
      · exact ⟨Int.le_refl _, by show (0 : Int) ≤ n; omega⟩
      · split
        · rename_i h6
          have := hl h6.1
          exact ⟨by show 0 ≤ s.tx.a - s.passed; omega, by show s.tx.a - s.passed ≤ n; omega⟩
        · exact ⟨by show 0 ≤ n; omega, Int.le_refl _⟩
theorem cut_of (ho : Ok s M) {s2 : St} (hS : s2.S = s.S) (ht : s2.tx = s.tx) (hcl : s2.clock = s.clock) (hp : s2.passed = s.passed) (hr : s2.room = s.room) (hb : s2.tx.k = 2 → gb.rightB s2.bk.r s2.bk.u s2.bk.l s2.bk.t = true) {K : Nat} (hK : K ≤ s.S.size) : Ok (cutS s2 K) M := by
  have hpp := ho.passed
  have hsz : (s2.S.extract K s2.S.size).size = s.S.size - K := by rw [ByteArray.size_extract, hS]; omega
  refine ⟨?_, ?_, ?_, ?_, ?_, hb, ho.top⟩
  · show s2.tx = noTox ∨ s2.tx.chk = 0
    rw [ht]; exact ho.tx
  · show s2.tx.s.size ≤ maxLen
    rw [ht]; exact ho.name
  · show 0 ≤ s2.clock ∧ s2.clock ≤ 1099511627776
    rw [hcl]; exact ho.clock
  · show 0 ≤ s2.passed + (K : Int) ∧ s2.passed + (K : Int) + ((s2.S.extract K s2.S.size).size : Int) ≤ M
    rw [hp, hsz]
    omega
  · show 1 ≤ s2.room ∧ s2.room ≤ 4096
    rw [hr]; exact ho.room
theorem give_right (ho : Ok s M) (n : Int) : (giveS s n).1.tx.k = 2 → gb.rightB (giveS s n).1.bk.r (giveS s n).1.bk.u (giveS s n).1.bk.l (giveS s n).1.bk.t = true := by
  intro h2
  have h2 : s.tx.k = 2 := by rw [← (give_keeps s n).2.2.2.2.1]; exact h2
  unfold giveS
  rw [if_pos h2]
  have hf := gb.fill_right (ho.bk h2) s.clock
  have hr := (gb.rightB_iff _ _ _ _).1 hf
  have := gb.take_range (L := gb.fillL s.bk.r s.bk.u s.bk.l s.bk.t s.clock) (n := n) hr.2.2.1.1
  exact gb.less_right hf this.1 this.2.1
theorem Ok.take (h : Ok s M) (hi : gc.Inv s.S s.A s.last) (now most : Int) : Ok (takeC s now most).1 M := by
  unfold takeC
  split
  · exact h.look now
  · rename_i hs
    split
    · exact h.look now
    · rename_i hn
      have hs : (lookS s now).st = 0 := by omega
      have hg := give_is (h.look now) (min most (gc.readyN (lookS s now).A (lookS s now).clock : Int)) (by omega) (fun hk => not_over (s := s) now hs hk)
      have hk := give_keeps (lookS s now) (min most (gc.readyN (lookS s now).A (lookS s now).clock : Int))
      have hr := gc.ready_le (lookS s now).A (lookS s now).clock
      have hl : (lookS s now).A.length = (lookS s now).S.size := hi.len
      exact cut_of (s := lookS s now) (h.look now) hk.1 hk.2.2.2.2.1 hk.2.2.2.1 hk.2.2.2.2.2.1 hk.2.2.2.2.2.2.2.2.2 (give_right (h.look now) _) (by omega)
theorem take_any (h : Raw w base g c u s M) (ho : Ok s M) (now most : Int) {s2 : St} {T : ByteArray} (hT : takeC s now most = (s2, T)) :
    Calls Try.prog 33 #[ptr g, .int .i64 now, .int .i64 most] w (Tk w base g c u s2 M T T.size) := by
  have hnil : ∀ W, Set w base g c u (lookS s now) M W → Tk w base g c u (lookS s now) M ⟨#[]⟩ 0 (.returned (.slice none 0 0)) W := fun W hs =>
    ⟨none, 0, rfl, fun h => absurd h (by omega), rfl, Nat.le_refl _, by omega, u, hs.1, hs.2.mv c u, fun a ha => by cases ha⟩
  unfold takeC at hT
  by_cases hs : (lookS s now).st = 0
  · rw [if_neg (by simpa using hs)] at hT
    obtain ⟨n, hn⟩ : ∃ n, min most (gc.readyN (lookS s now).A (lookS s now).clock : Int) = n := ⟨_, rfl⟩
    rw [hn] at hT
    by_cases h1 : n < 1
    · rw [if_pos h1] at hT
      obtain ⟨rfl, rfl⟩ := Prod.mk.inj hT
      refine (take_none h now most hs hn h1).mono ?_
      rintro e w' ⟨rfl, hx⟩
      exact hnil w' hx
    · rw [if_neg h1] at hT
      have h1 : 1 ≤ n := by omega
      obtain ⟨hg0, hg1⟩ := give_is (ho.look now) n h1 (fun hk => not_over (s := s) now hs hk)
      have hkp := give_keeps (lookS s now) n
      obtain ⟨G, hG⟩ : ∃ G, giveS (lookS s now) n = G := ⟨_, rfl⟩
      rw [hG] at hT hg0 hg1 hkp
      obtain ⟨g1, g2⟩ := G
      obtain ⟨K, hK⟩ : ∃ K : Nat, g2 = (K : Int) := ⟨g2.toNat, by show g2 = _; have : 0 ≤ g2 := hg0; omega⟩
      subst hK
      have e : ((K : Int)).toNat = K := rfl
      dsimp only at hT hg0 hg1 hkp
      rw [e] at hT
      obtain ⟨rfl, rfl⟩ := Prod.mk.inj hT
      have hsz : (lookS s now).S.size = s.S.size := rfl
      have hlen : (lookS s now).A.length = s.S.size := h.car.inv.len
      have hrl := gc.ready_le (lookS s now).A (lookS s now).clock
      have hcs := h.car.size_le
      have hKs : ((lookS s now).S.extract 0 K).size = K := by rw [ByteArray.size_extract]; omega
      have hps := ho.passed
      have hw : IntKind.i64.wrap (g1.passed + (K : Int)) = g1.passed + (K : Int) := by
        have : g1.passed = s.passed := hkp.2.2.2.2.2.1
        have := ho.top
        exact wrap_id (by omega) (by omega)
      have hTK := takeK_is (A := (lookS s now).A) (t := (lookS s now).clock) (K := K) (by omega)
      rw [hKs, show (lookS s now).S = g1.S from hkp.1.symm]
      have hok := ho.look now
      have hkk := hok.ab.2.2.1
      have hcl := hkp.2.2.2.1
      have hA := hkp.2.1
      have hG' := hG
      unfold giveS at hG
      have hall : ((lookS s now).tx.k = 0 ∨ (lookS s now).tx.k = 1 ∨ (lookS s now).tx.k = 5 ∨ (lookS s now).tx.k = 7) → ∀ W, Raw W base g c u (lookS s now) M → Calls Try.prog 67 #[ptr g, .int .i64 n] W fun e w' => e = .returned (.int .i64 (K : Int)) ∧ Set W base g c u g1 M w' := fun hk W hr => by
        rw [if_neg (by omega), if_neg (by omega), if_neg (by omega), if_neg (by omega)] at hG
        obtain ⟨rfl, hnK⟩ := Prod.mk.inj hG
        rw [← hnK]
        refine (all_any g n W).mono ?_
        rintro e w' ⟨rfl, rfl⟩
        exact ⟨rfl, Set.refl hr⟩
      have hk8 : (lookS s now).tx.k = 0 ∨ (lookS s now).tx.k = 1 ∨ (lookS s now).tx.k = 2 ∨ (lookS s now).tx.k = 3 ∨ (lookS s now).tx.k = 4 ∨ (lookS s now).tx.k = 5 ∨ (lookS s now).tx.k = 6 ∨ (lookS s now).tx.k = 7 := by omega
      rcases hk8 with hk | hk | hk | hk | hk | hk | hk | hk
      · exact take_by_all h now most hs rfl hn h1 (fun W => by rw [hk]; kernel_rfl) (hall (by omega)) hcl hA hw hTK
      · exact take_by_all h now most hs rfl hn h1 (fun W => by rw [hk]; kernel_rfl) (hall (by omega)) hcl hA hw hTK
      · refine take_by_poured h now most hs rfl hn h1 (fun W => by rw [hk]; kernel_rfl) (fun W hr => ?_) hcl hA hw hTK
        rw [if_pos hk] at hG
        obtain ⟨rfl, hnK⟩ := Prod.mk.inj hG
        exact poured_any hr n (hok.bk hk) rfl rfl hnK (by rw [← hnK])
      · refine take_by_slice h now most hs rfl hn h1 (fun W => by rw [hk]; kernel_rfl) (fun W hr => ?_) hcl hA hw hTK
        rw [if_neg (by omega), if_pos hk] at hG
        by_cases hp : (lookS s now).clock < (lookS s now).pause
        · rw [if_pos (Or.inr hp)] at hG
          obtain ⟨rfl, hnK⟩ := Prod.mk.inj hG
          rw [← hnK]
          exact slice_wait hr n hp
        · rw [if_neg (by omega)] at hG
          obtain ⟨rfl, hnK⟩ := Prod.mk.inj hG
          exact slice_go hr hok n hp hk rfl rfl rfl (by rw [← hnK]; split <;> omega)
      · refine take_by_none h now most hs rfl hn h1 (fun W => by rw [hk]; kernel_rfl) (fun W hr => ?_) hcl hA hw hTK
        rw [if_neg (by omega), if_neg (by omega), if_pos hk] at hG
        obtain ⟨rfl, hnK⟩ := Prod.mk.inj hG
        rw [← hnK]
        refine (none_any g n W).mono ?_
        rintro e w' ⟨rfl, rfl⟩
        exact ⟨rfl, Set.refl hr⟩
      · exact take_by_all h now most hs rfl hn h1 (fun W => by rw [hk]; kernel_rfl) (hall (by omega)) hcl hA hw hTK
      · refine take_by_rest h now most hs rfl hn h1 (fun W => by rw [hk]; kernel_rfl) (fun W hr => ?_) hcl hA hw hTK
        rw [if_neg (by omega), if_neg (by omega), if_neg (by omega)] at hG
        have hgg : g1 = lookS s now ∧ min n ((lookS s now).tx.a - (lookS s now).passed) = (K : Int) := by
          by_cases h6 : (lookS s now).tx.k = 6 ∧ (lookS s now).tx.a - (lookS s now).passed < n
          · rw [if_pos h6] at hG
            obtain ⟨h7, h8⟩ := Prod.mk.inj hG
            exact ⟨h7.symm, by omega⟩
          · rw [if_neg h6] at hG
            obtain ⟨h7, h8⟩ := Prod.mk.inj hG
            exact ⟨h7.symm, by omega⟩
        obtain ⟨rfl, hm⟩ := hgg
        refine (rest_any hr hok n hm).mono ?_
        rintro e w' ⟨rfl, hb⟩
        exact ⟨rfl, (Set.refl hr).on hb⟩
      · exact take_by_all h now most hs rfl hn h1 (fun W => by rw [hk]; kernel_rfl) (hall (by omega)) hcl hA hw hTK
  · rw [if_pos hs] at hT
    obtain ⟨rfl, rfl⟩ := Prod.mk.inj hT
    refine (take_st h now most hs).mono ?_
    rintro e w' ⟨rfl, hx⟩
    exact hnil w' hx
end Go.Proofs.Ytfdfgnmgpgkknaa
namespace Go.Proofs.Ytfdfgnmgpgkknaa
open Go.RowKit

variable {M M' : Nat} {s s' s'' s1 s2 : St}
/-- Two buckets that are one from some tick on. -/
def Bq (k' k : Bkt) (c : Int) : Prop := k'.r = k.r ∧ k'.u = k.u ∧ ∀ t, c ≤ t → gb.fillL k'.r k'.u k'.l k'.t t = gb.fillL k.r k.u k.l k.t t ∧ gb.fillT k'.r k'.u k'.l k'.t t = gb.fillT k.r k.u k.l k.t t
theorem bq_refl (k : Bkt) (c : Int) : Bq k k c := ⟨rfl, rfl, fun _ _ => ⟨rfl, rfl⟩⟩
/-- The program's stage, and the other one. -/
structure Sim (s' s : St) : Prop where
  eq : s' = { s with bk := s'.bk }
  bk : s.tx.k = 2 → Bq s'.bk s.bk s.clock
theorem sim_refl (s : St) : Sim s s := ⟨rfl, fun _ => bq_refl _ _⟩
theorem tick_ge (c now : Int) : c ≤ tickS c now := by unfold tickS; split <;> omega
theorem Bq.later {k' k : Bkt} {c c' : Int} (h : Bq k' k c) (hc : c ≤ c') : Bq k' k c' := ⟨h.1, h.2.1, fun t ht => h.2.2 t (by omega)⟩
theorem sim_of {s : St} {k : Bkt} (h : s.tx.k = 2 → Bq k s.bk s.clock) : Sim { s with bk := k } s := ⟨rfl, h⟩
theorem Sim.look (h : Sim s' s) (now : Int) : Sim (lookS s' now) (lookS s now) := by
  obtain ⟨he, hb⟩ := h
  rw [he]
  exact ⟨rfl, fun hk => (hb hk).later (tick_ge _ _)⟩
theorem Sim.force (h : Sim s' s) (b : ByteArray) : Sim (forceS s' b) (forceS s b) := by
  obtain ⟨he, hb⟩ := h
  rw [he]
  unfold forceS
  by_cases h0 : b.size = 0
  · rw [if_pos h0, if_pos h0]
    exact ⟨rfl, hb⟩
  · rw [if_neg h0, if_neg h0]
    by_cases hk : s.tx.k = 1
    · rw [if_pos (show ({ s with bk := s'.bk } : St).tx.k = 1 from hk), if_pos hk]
      exact ⟨rfl, hb⟩
    · rw [if_neg (show ¬ ({ s with bk := s'.bk } : St).tx.k = 1 from hk), if_neg hk]
      exact ⟨rfl, hb⟩
theorem Sim.st (h : Sim s' s) : s'.st = s.st := by rw [h.eq]
theorem Sim.S (h : Sim s' s) : s'.S = s.S := by rw [h.eq]
theorem Sim.A (h : Sim s' s) : s'.A = s.A := by rw [h.eq]
theorem Sim.clock (h : Sim s' s) : s'.clock = s.clock := by rw [h.eq]
theorem Sim.closed (h : Sim s' s) : s'.closed = s.closed := by rw [h.eq]
theorem Sim.tx (h : Sim s' s) : s'.tx = s.tx := by rw [h.eq]
theorem Sim.passed (h : Sim s' s) : s'.passed = s.passed := by rw [h.eq]
theorem Sim.free (h : Sim s' s) : freeS s' = freeS s := by rw [h.eq]; rfl
theorem Sim.bring (h : Sim s' s) (now : Int) (b : ByteArray) : Sim (bringS s' now b).1 (bringS s now b).1 ∧ (bringS s' now b).2 = (bringS s now b).2 := by
  have hl := h.look now
  unfold bringS
  dsimp only
  rw [hl.st, hl.closed, hl.free]
  split
  · exact ⟨hl, rfl⟩
  · exact ⟨hl.force _, rfl⟩
theorem Sim.push (h : Sim s' s) (now : Int) (b : ByteArray) : Sim (pushS s' now b) (pushS s now b) := by
  have hl := h.look now
  unfold pushS
  dsimp only
  rw [hl.st]
  split
  · exact hl
  · exact hl.force _
theorem Sim.close (h : Sim s' s) (now : Int) : Sim (closeS s' now) (closeS s now) := by
  obtain ⟨he, hb⟩ := h
  rw [he]
  unfold closeS
  by_cases hc : s.closed = true
  · rw [if_pos (show ({ s with bk := s'.bk } : St).closed = true from hc), if_pos hc]
    exact ⟨rfl, fun hk => (hb hk).later (tick_ge _ _)⟩
  · rw [if_neg (show ¬ ({ s with bk := s'.bk } : St).closed = true from hc), if_neg hc]
    exact ⟨rfl, fun hk => (hb hk).later (tick_ge _ _)⟩
theorem Sim.drain (h : Sim s' s) : Sim (drainS s').1 (drainS s).1 := by
  obtain ⟨he, hb⟩ := h
  rw [he]
  exact ⟨rfl, hb⟩
theorem Sim.upd (h : Sim s' s) (t : Tox) (now : Int) : Sim (updS s' t now).1 (updS s t now).1 ∧ (updS s' t now).2 = (updS s t now).2 := by
  have hl := h.look now
  unfold updS
  rw [h.tx]
  split
  · exact ⟨h, rfl⟩
  · split
    · exact ⟨h, rfl⟩
    · split
      · exact ⟨h, rfl⟩
      · rename_i h1 h2 h3
        refine ⟨?_, rfl⟩
        have hk : t.k = s.tx.k := by omega
        dsimp only
        obtain ⟨he, hb⟩ := hl
        refine ⟨?_, fun h2' => ?_⟩
        · dsimp only
          rw [he]
        · have h2' : t.k = 2 := h2'
          dsimp only
          rw [if_pos h2']
          have hb := hb (by show s.tx.k = 2; omega)
          have e : chgB (lookS s' now).bk t.a t.b (lookS s' now).clock = chgB (lookS s now).bk t.a t.b (lookS s now).clock := by
            unfold chgB
            have hc : (lookS s' now).clock = (lookS s now).clock := by rw [he]
            rw [hc]
            have := hb.2.2 (lookS s now).clock (Int.le_refl _)
            rw [this.1, this.2]
          rw [e, if_pos h2']
          exact bq_refl _ _
theorem cut_zero (s : St) : cutS s 0 = s := by
  unfold cutS
  have e1 : s.S.extract 0 s.S.size = s.S := by simp
  have e2 : s.passed + ((0 : Nat) : Int) = s.passed := Int.add_zero _
  rw [e1, e2, List.drop_zero]
theorem Sim.cut (h : Sim s' s) (K : Nat) : Sim (cutS s' K) (cutS s K) := by
  obtain ⟨he, hb⟩ := h
  rw [he]
  exact ⟨rfl, hb⟩
theorem Sim.give (h : Sim s' s) (n : Int) : Sim (giveS s' n).1 (giveS s n).1 ∧ (giveS s' n).2 = (giveS s n).2 := by
  obtain ⟨he, hb⟩ := h
  unfold giveS
  have ht : s'.tx = s.tx := by rw [he]
  have hc : s'.clock = s.clock := by rw [he]
  rw [ht]
  by_cases h2 : s.tx.k = 2
  · rw [if_pos h2, if_pos h2]
    have hb := hb h2
    have h3 := hb.2.2 s.clock (Int.le_refl _)
    dsimp only
    rw [hc, h3.1, h3.2, hb.1, hb.2.1]
    refine ⟨⟨?_, fun _ => bq_refl _ _⟩, rfl⟩
    dsimp only
    rw [he]
  · rw [if_neg h2, if_neg h2]
    have hS : Sim s' s := ⟨he, hb⟩
    rw [hc, hS.passed, show s'.d = s.d by rw [he], show s'.pause = s.pause by rw [he]]
    split
    · split
      · exact ⟨hS, rfl⟩
      · refine ⟨⟨?_, fun hk => absurd hk h2⟩, rfl⟩
        dsimp only
        rw [he]
    · split
      · exact ⟨hS, rfl⟩
      · split
        · exact ⟨hS, rfl⟩
        · exact ⟨hS, rfl⟩
/-- What is given of nothing. -/
theorem give_none (ho : Ok s M) (hl : s.tx.k = 6 → s.passed < s.tx.a) : Sim s (giveS s 0).1 ∧ (giveS s 0).2 = 0 := by
  unfold giveS
  by_cases h2 : s.tx.k = 2
  · rw [if_pos h2]
    have hf := gb.fill_right (ho.bk h2) s.clock
    have hr := (gb.rightB_iff _ _ _ _).1 hf
    have h0 := gb.take_range (L := gb.fillL s.bk.r s.bk.u s.bk.l s.bk.t s.clock) (n := 0) hr.2.2.1.1
    have h0 := h0.2.2.2.1 (Int.le_refl _)
    refine ⟨⟨rfl, fun _ => ⟨rfl, rfl, fun t ht => ?_⟩⟩, h0⟩
    dsimp only
    rw [h0, Int.sub_zero]
    have := gb.fill_steps (ho.bk h2) ht
    exact ⟨this.1.symm, this.2.symm⟩
  · rw [if_neg h2]
    split
    · rw [if_pos (Or.inl rfl)]
      exact ⟨sim_refl _, rfl⟩
    · split
      · exact ⟨sim_refl _, rfl⟩
      · split
        · rename_i h6
          have := hl h6.1
          omega
        · exact ⟨sim_refl _, rfl⟩
theorem Sim.trans (h : Sim s s') (k : Sim s' s'') : Sim s s'' := by
  obtain ⟨h1, h2⟩ := h
  obtain ⟨k1, k2⟩ := k
  refine ⟨by rw [h1, k1], fun hk => ?_⟩
  have a := h2 (by rw [k1]; exact hk)
  have b := k2 hk
  have hc : s'.clock = s''.clock := by rw [k1]
  refine ⟨a.1.trans b.1, a.2.1.trans b.2.1, fun t ht => ?_⟩
  have a1 := a.2.2 t (by omega)
  have b1 := b.2.2 t ht
  exact ⟨a1.1.trans b1.1, a1.2.trans b1.2⟩
theorem Sim.take (h : Sim s' s) (ho : Ok s' M) (now most : Int) : Sim (takeC s' now most).1 (takeS s now most).1 ∧ (takeC s' now most).2 = (takeS s now most).2 := by
  have hl := h.look now
  have hol := ho.look now
  unfold takeC takeS
  dsimp only
  by_cases hs : (lookS s now).st = 0
  · rw [hl.st, if_neg (show ¬ (lookS s now).st ≠ 0 from fun h => h hs)]
    by_cases hm : most < 1
    · rw [if_pos (show (lookS s now).st ≠ 0 ∨ most < 1 from Or.inr hm), if_pos (show min most (gc.readyN (lookS s' now).A (lookS s' now).clock : Int) < 1 by omega)]
      exact ⟨hl, rfl⟩
    · rw [if_neg (show ¬ ((lookS s now).st ≠ 0 ∨ most < 1) from fun h => h.elim (fun h => h hs) hm)]
      obtain ⟨R, hR⟩ : ∃ R, gc.readyN (lookS s now).A (lookS s now).clock = R := ⟨_, rfl⟩
      rw [hl.A, hl.clock, hl.S, hR]
      by_cases h0 : R = 0
      · subst h0
        rw [if_pos (show min most ((0 : Nat) : Int) < 1 by omega)]
        have e : (if most < ((0 : Nat) : Int) then most else ((0 : Nat) : Int)) = 0 := by split <;> omega
        rw [e]
        have hg := hl.give 0
        have hn := give_none hol (fun hk => not_over (s := s') now (by rw [hl.st]; exact hs) hk)
        rw [← hg.2, hn.2]
        have hz : gc.takeK (lookS s now).A (lookS s now).clock 0 = 0 := by unfold gc.takeK; omega
        rw [hz, cut_zero]
        exact ⟨hn.1.trans hg.1, (extract_none _).symm⟩
      · have e : (if most < (R : Int) then most else (R : Int)) = min most (R : Int) := by split <;> omega
        have h1 : 1 ≤ min most (R : Int) := by omega
        rw [if_neg (show ¬ min most (R : Int) < 1 by omega), e]
        have hg := hl.give (min most (R : Int))
        have hgi := give_is hol (min most (R : Int)) h1 (fun hk => not_over (s := s') now (by rw [hl.st]; exact hs) hk)
        rw [hg.2] at hgi ⊢
        have hK : gc.takeK (lookS s now).A (lookS s now).clock (giveS (lookS s now) (min most (R : Int))).2 = (giveS (lookS s now) (min most (R : Int))).2.toNat := by
          unfold gc.takeK
          rw [hR]
          omega
        rw [hK]
        exact ⟨hg.1.cut _, rfl⟩
  · rw [hl.st, if_pos hs, if_pos (show (lookS s now).st ≠ 0 ∨ most < 1 from Or.inl hs)]
    exact ⟨hl, rfl⟩
end Go.Proofs.Ytfdfgnmgpgkknaa
