/-
  Contract: what Take of a stage answers, of any kind. Conditions: as each states.
  A stage as the program has it, and as mathematics: but for ticks at which its bucket was filled. Conditions: as each states.
  Contract: what the bucket's own Change answers. Conditions: as each states.
-/
import Derived.Test.YtlbihcpglcdmmaaGreatZE
import Derived.Test.YtlbihcpglcdmmaaGreatZF
import Derived.Test.YtlbihcpglcdmmaaGreatZA
namespace Go.Proofs.YtlbihcpglcdmmaaGreat
open Go.RowKit

variable {w w' w'' w0 : World} {base g c M M' : Nat} {u u' u'' : gc.U} {s s' s'' s1 s2 : St}
/-- Take, as the program does it: of nothing nothing is done. -/
def takeC (s : St) (now most : Int) : St × ByteArray :=
  if (lookS s now).st ≠ 0 then (lookS s now, ⟨#[]⟩)
  else if min most (gc.readyN (lookS s now).A (lookS s now).clock : Int) < 1 then (lookS s now, ⟨#[]⟩)
  else
    (cutS (giveS (lookS s now) (min most (gc.readyN (lookS s now).A (lookS s now).clock : Int))).1 (giveS (lookS s now) (min most (gc.readyN (lookS s now).A (lookS s now).clock : Int))).2.toNat,
      (lookS s now).S.extract 0 (giveS (lookS s now) (min most (gc.readyN (lookS s now).A (lookS s now).clock : Int))).2.toNat)
theorem takeK_is {A : List Int} {t : Int} {K : Nat} (h : K ≤ gc.readyN A t) : gc.takeK A t (K : Int) = K := by
  unfold gc.takeK
  omega
theorem not_over (now : Int) (hs : (lookS s now).st = 0) (hk : s.tx.k = 6) : s.passed < s.tx.a := by
  have h0 : s.st = 0 := state_open (by exact hs)
  rw [look_yes s now h0] at hs
  have hf : foundS (heardS s now) = 0 := hs
  unfold foundS at hf
  have e : (heardS s now).tx.k = 6 := hk
  rw [if_neg (by rw [e]; simp), if_neg (by rw [e]; simp)] at hf
  by_cases hp : (heardS s now).tx.k = 6 ∧ (heardS s now).tx.a ≤ (heardS s now).passed
  · rw [if_pos hp] at hf
    omega
  · have : ¬ s.tx.a ≤ s.passed := fun h => hp ⟨e, h⟩
    omega
/-- What is given: by kind. -/
theorem give_is (ho : Ok s M) (n : Int) (h1 : 1 ≤ n) (hl : s.tx.k = 6 → s.passed < s.tx.a) : 0 ≤ (giveS s n).2 ∧ (giveS s n).2 ≤ n := by
  have hab := ho.ab
  unfold giveS
  by_cases h2 : s.tx.k = 2
  · rw [if_pos h2]
    have hr := (gb.rightB_iff _ _ _ _).1 (gb.fill_right (ho.bk h2) s.clock)
    have := gb.take_range (L := gb.fillL s.bk.r s.bk.u s.bk.l s.bk.t s.clock) (n := n) hr.2.2.1.1
    exact ⟨this.1, this.2.2.1 (by omega)⟩
  · rw [if_neg h2]
    by_cases h3 : s.tx.k = 3
    · rw [if_pos h3]
      have := gd.takeZ_range s.d s.tx.a (by have := hab.2.2.2.2 h3; omega)
      split
      · exact ⟨Int.le_refl _, by show (0 : Int) ≤ n; omega⟩
      · show 0 ≤ (if gd.takeZ s.d s.tx.a + 1 < n then gd.takeZ s.d s.tx.a + 1 else n) ∧ (if gd.takeZ s.d s.tx.a + 1 < n then gd.takeZ s.d s.tx.a + 1 else n) ≤ n
        constructor <;> split <;> omega
    · rw [if_neg h3]
      split
      · exact ⟨Int.le_refl _, by show (0 : Int) ≤ n; omega⟩
      · split
        · rename_i h6
          have := hl h6.1
          exact ⟨by show 0 ≤ s.tx.a - s.passed; omega, by show s.tx.a - s.passed ≤ n; omega⟩
        · exact ⟨by show 0 ≤ n; omega, Int.le_refl _⟩
theorem cut_of (ho : Ok s M) {s2 : St} (hS : s2.S = s.S) (ht : s2.tx = s.tx) (hcl : s2.clock = s.clock) (hp : s2.passed = s.passed) (hr : s2.room = s.room) (hb : s2.tx.k = 2 → gb.rightB s2.bk.r s2.bk.u s2.bk.l s2.bk.t = true) {K : Nat} (hK : K ≤ s.S.size) : Ok (cutS s2 K) M := by
  have hpp := ho.passed
  have hsz : (s2.S.extract K s2.S.size).size = s.S.size - K := by rw [ByteArray.size_extract, hS]; omega
  refine ⟨?_, ?_, ?_, ?_, ?_, hb, ho.top⟩
  · show s2.tx = noTox ∨ s2.tx.chk = 0
    rw [ht]; exact ho.tx
  · show s2.tx.s.size ≤ maxLen
    rw [ht]; exact ho.name
  · show 0 ≤ s2.clock ∧ s2.clock ≤ 1099511627776
    rw [hcl]; exact ho.clock
  · show 0 ≤ s2.passed + (K : Int) ∧ s2.passed + (K : Int) + ((s2.S.extract K s2.S.size).size : Int) ≤ M
    rw [hp, hsz]
    omega
  · show 1 ≤ s2.room ∧ s2.room ≤ 4096
    rw [hr]; exact ho.room
theorem give_right (ho : Ok s M) (n : Int) : (giveS s n).1.tx.k = 2 → gb.rightB (giveS s n).1.bk.r (giveS s n).1.bk.u (giveS s n).1.bk.l (giveS s n).1.bk.t = true := by
  intro h2
  have h2 : s.tx.k = 2 := by rw [← (give_keeps s n).2.2.2.2.1]; exact h2
  unfold giveS
  rw [if_pos h2]
  have hf := gb.fill_right (ho.bk h2) s.clock
  have hr := (gb.rightB_iff _ _ _ _).1 hf
  have := gb.take_range (L := gb.fillL s.bk.r s.bk.u s.bk.l s.bk.t s.clock) (n := n) hr.2.2.1.1
  exact gb.less_right hf this.1 this.2.1
theorem Ok.take (h : Ok s M) (hi : gc.Inv s.S s.A s.last) (now most : Int) : Ok (takeC s now most).1 M := by
  unfold takeC
  split
  · exact h.look now
  · rename_i hs
    split
    · exact h.look now
    · rename_i hn
      have hs : (lookS s now).st = 0 := by omega
      have hg := give_is (h.look now) (min most (gc.readyN (lookS s now).A (lookS s now).clock : Int)) (by omega) (fun hk => not_over (s := s) now hs hk)
      have hk := give_keeps (lookS s now) (min most (gc.readyN (lookS s now).A (lookS s now).clock : Int))
      have hr := gc.ready_le (lookS s now).A (lookS s now).clock
      have hl : (lookS s now).A.length = (lookS s now).S.size := hi.len
      exact cut_of (s := lookS s now) (h.look now) hk.1 hk.2.2.2.2.1 hk.2.2.2.1 hk.2.2.2.2.2.1 hk.2.2.2.2.2.2.2.2.2 (give_right (h.look now) _) (by omega)
theorem take_any (h : Raw w base g c u s M) (ho : Ok s M) (now most : Int) {s2 : St} {T : ByteArray} (hT : takeC s now most = (s2, T)) :
    Calls Tryz.prog 22 #[ptr g, .int .i64 now, .int .i64 most] w (Tk w base g c u s2 M T T.size) := by
  have hnil : ∀ W, Set w base g c u (lookS s now) M W → Tk w base g c u (lookS s now) M ⟨#[]⟩ 0 (.returned (.slice none 0 0)) W := fun W hs =>
    ⟨none, 0, rfl, fun h => absurd h (by omega), rfl, Nat.le_refl _, by omega, u, hs.1, hs.2.mv c u, fun a ha => by cases ha⟩
  unfold takeC at hT
  by_cases hs : (lookS s now).st = 0
  · rw [if_neg (by simpa using hs)] at hT
    obtain ⟨n, hn⟩ : ∃ n, min most (gc.readyN (lookS s now).A (lookS s now).clock : Int) = n := ⟨_, rfl⟩
    rw [hn] at hT
    by_cases h1 : n < 1
    · rw [if_pos h1] at hT
      obtain ⟨rfl, rfl⟩ := Prod.mk.inj hT
      refine (take_none h now most hs hn h1).mono ?_
      rintro e w' ⟨rfl, hx⟩
      exact hnil w' hx
    · rw [if_neg h1] at hT
      have h1 : 1 ≤ n := by omega
      obtain ⟨hg0, hg1⟩ := give_is (ho.look now) n h1 (fun hk => not_over (s := s) now hs hk)
      have hkp := give_keeps (lookS s now) n
      obtain ⟨G, hG⟩ : ∃ G, giveS (lookS s now) n = G := ⟨_, rfl⟩
      rw [hG] at hT hg0 hg1 hkp
      obtain ⟨g1, g2⟩ := G
      obtain ⟨K, hK⟩ : ∃ K : Nat, g2 = (K : Int) := ⟨g2.toNat, by show g2 = _; have : 0 ≤ g2 := hg0; omega⟩
      subst hK
      have e : ((K : Int)).toNat = K := rfl
      dsimp only at hT hg0 hg1 hkp
      rw [e] at hT
      obtain ⟨rfl, rfl⟩ := Prod.mk.inj hT
      have hsz : (lookS s now).S.size = s.S.size := rfl
      have hlen : (lookS s now).A.length = s.S.size := h.car.inv.len
      have hrl := gc.ready_le (lookS s now).A (lookS s now).clock
      have hcs := h.car.size_le
      have hKs : ((lookS s now).S.extract 0 K).size = K := by rw [ByteArray.size_extract]; omega
      have hps := ho.passed
      have hw : IntKind.i64.wrap (g1.passed + (K : Int)) = g1.passed + (K : Int) := by
        have : g1.passed = s.passed := hkp.2.2.2.2.2.1
        have := ho.top
        exact wrap_id (by omega) (by omega)
      have hTK := takeK_is (A := (lookS s now).A) (t := (lookS s now).clock) (K := K) (by omega)
      rw [hKs, show (lookS s now).S = g1.S from hkp.1.symm]
      have hok := ho.look now
      have hkk := hok.ab.2.2.1
      have hcl := hkp.2.2.2.1
      have hA := hkp.2.1
      have hG' := hG
      unfold giveS at hG
      have hall : ((lookS s now).tx.k = 0 ∨ (lookS s now).tx.k = 1 ∨ (lookS s now).tx.k = 5 ∨ (lookS s now).tx.k = 7) → ∀ W, Raw W base g c u (lookS s now) M → Calls Tryz.prog 70 #[ptr g, .int .i64 n] W fun e w' => e = .returned (.int .i64 (K : Int)) ∧ Set W base g c u g1 M w' := fun hk W hr => by
        rw [if_neg (by omega), if_neg (by omega), if_neg (by omega), if_neg (by omega)] at hG
        obtain ⟨rfl, hnK⟩ := Prod.mk.inj hG
        rw [← hnK]
        refine (all_any g n W).mono ?_
        rintro e w' ⟨rfl, rfl⟩
        exact ⟨rfl, Set.refl hr⟩
      have hk8 : (lookS s now).tx.k = 0 ∨ (lookS s now).tx.k = 1 ∨ (lookS s now).tx.k = 2 ∨ (lookS s now).tx.k = 3 ∨ (lookS s now).tx.k = 4 ∨ (lookS s now).tx.k = 5 ∨ (lookS s now).tx.k = 6 ∨ (lookS s now).tx.k = 7 := by omega
      rcases hk8 with hk | hk | hk | hk | hk | hk | hk | hk
      · exact take_by_all h now most hs rfl hn h1 (fun W => by rw [hk]; kernel_rfl) (hall (by omega)) hcl hA hw hTK
      · exact take_by_all h now most hs rfl hn h1 (fun W => by rw [hk]; kernel_rfl) (hall (by omega)) hcl hA hw hTK
      · refine take_by_poured h now most hs rfl hn h1 (fun W => by rw [hk]; kernel_rfl) (fun W hr => ?_) hcl hA hw hTK
        rw [if_pos hk] at hG
        obtain ⟨rfl, hnK⟩ := Prod.mk.inj hG
        exact poured_any hr n (hok.bk hk) rfl rfl hnK (by rw [← hnK])
      · refine take_by_slice h now most hs rfl hn h1 (fun W => by rw [hk]; kernel_rfl) (fun W hr => ?_) hcl hA hw hTK
        rw [if_neg (by omega), if_pos hk] at hG
        by_cases hp : (lookS s now).clock < (lookS s now).pause
        · rw [if_pos (Or.inr hp)] at hG
          obtain ⟨rfl, hnK⟩ := Prod.mk.inj hG
          rw [← hnK]
          exact slice_wait hr n hp
        · rw [if_neg (by omega)] at hG
          obtain ⟨rfl, hnK⟩ := Prod.mk.inj hG
          exact slice_go hr hok n hp hk rfl rfl rfl (by rw [← hnK]; split <;> omega)
      · refine take_by_none h now most hs rfl hn h1 (fun W => by rw [hk]; kernel_rfl) (fun W hr => ?_) hcl hA hw hTK
        rw [if_neg (by omega), if_neg (by omega), if_pos hk] at hG
        obtain ⟨rfl, hnK⟩ := Prod.mk.inj hG
        rw [← hnK]
        refine (none_any g n W).mono ?_
        rintro e w' ⟨rfl, rfl⟩
        exact ⟨rfl, Set.refl hr⟩
      · exact take_by_all h now most hs rfl hn h1 (fun W => by rw [hk]; kernel_rfl) (hall (by omega)) hcl hA hw hTK
      · refine take_by_rest h now most hs rfl hn h1 (fun W => by rw [hk]; kernel_rfl) (fun W hr => ?_) hcl hA hw hTK
        rw [if_neg (by omega), if_neg (by omega), if_neg (by omega)] at hG
        have hgg : g1 = lookS s now ∧ min n ((lookS s now).tx.a - (lookS s now).passed) = (K : Int) := by
          by_cases h6 : (lookS s now).tx.k = 6 ∧ (lookS s now).tx.a - (lookS s now).passed < n
          · rw [if_pos h6] at hG
            obtain ⟨h7, h8⟩ := Prod.mk.inj hG
            exact ⟨h7.symm, by omega⟩
          · rw [if_neg h6] at hG
            obtain ⟨h7, h8⟩ := Prod.mk.inj hG
            exact ⟨h7.symm, by omega⟩
        obtain ⟨rfl, hm⟩ := hgg
        refine (rest_any hr hok n hm).mono ?_
        rintro e w' ⟨rfl, hb⟩
        exact ⟨rfl, (Set.refl hr).on hb⟩
      · exact take_by_all h now most hs rfl hn h1 (fun W => by rw [hk]; kernel_rfl) (hall (by omega)) hcl hA hw hTK
  · rw [if_pos hs] at hT
    obtain ⟨rfl, rfl⟩ := Prod.mk.inj hT
    refine (take_st h now most hs).mono ?_
    rintro e w' ⟨rfl, hx⟩
    exact hnil w' hx
end Go.Proofs.YtlbihcpglcdmmaaGreat
namespace Go.Proofs.YtlbihcpglcdmmaaGreat
open Go.RowKit

variable {M M' : Nat} {s s' s'' s1 s2 : St}
/-- Two buckets that are one from some tick on. -/
def Bq (k' k : Bkt) (c : Int) : Prop := k'.r = k.r ∧ k'.u = k.u ∧ ∀ t, c ≤ t → gb.fillL k'.r k'.u k'.l k'.t t = gb.fillL k.r k.u k.l k.t t ∧ gb.fillT k'.r k'.u k'.l k'.t t = gb.fillT k.r k.u k.l k.t t
theorem bq_refl (k : Bkt) (c : Int) : Bq k k c := ⟨rfl, rfl, fun _ _ => ⟨rfl, rfl⟩⟩
/-- The program's stage, and the other one. -/
structure Sim (s' s : St) : Prop where
  eq : s' = { s with bk := s'.bk }
  bk : s.tx.k = 2 → Bq s'.bk s.bk s.clock
theorem sim_refl (s : St) : Sim s s := ⟨rfl, fun _ => bq_refl _ _⟩
theorem tick_ge (c now : Int) : c ≤ tickS c now := by unfold tickS; split <;> omega
theorem Bq.later {k' k : Bkt} {c c' : Int} (h : Bq k' k c) (hc : c ≤ c') : Bq k' k c' := ⟨h.1, h.2.1, fun t ht => h.2.2 t (by omega)⟩
theorem sim_of {s : St} {k : Bkt} (h : s.tx.k = 2 → Bq k s.bk s.clock) : Sim { s with bk := k } s := ⟨rfl, h⟩
theorem Sim.look (h : Sim s' s) (now : Int) : Sim (lookS s' now) (lookS s now) := by
  obtain ⟨he, hb⟩ := h
  rw [he]
  exact ⟨rfl, fun hk => (hb hk).later (tick_ge _ _)⟩
theorem Sim.force (h : Sim s' s) (b : ByteArray) : Sim (forceS s' b) (forceS s b) := by
  obtain ⟨he, hb⟩ := h
  rw [he]
  unfold forceS
  by_cases h0 : b.size = 0
  · rw [if_pos h0, if_pos h0]
    exact ⟨rfl, hb⟩
  · rw [if_neg h0, if_neg h0]
    by_cases hk : s.tx.k = 1
    · rw [if_pos (show ({ s with bk := s'.bk } : St).tx.k = 1 from hk), if_pos hk]
      exact ⟨rfl, hb⟩
    · rw [if_neg (show ¬ ({ s with bk := s'.bk } : St).tx.k = 1 from hk), if_neg hk]
      exact ⟨rfl, hb⟩
theorem Sim.st (h : Sim s' s) : s'.st = s.st := by rw [h.eq]
theorem Sim.S (h : Sim s' s) : s'.S = s.S := by rw [h.eq]
theorem Sim.A (h : Sim s' s) : s'.A = s.A := by rw [h.eq]
theorem Sim.clock (h : Sim s' s) : s'.clock = s.clock := by rw [h.eq]
theorem Sim.closed (h : Sim s' s) : s'.closed = s.closed := by rw [h.eq]
theorem Sim.tx (h : Sim s' s) : s'.tx = s.tx := by rw [h.eq]
theorem Sim.passed (h : Sim s' s) : s'.passed = s.passed := by rw [h.eq]
theorem Sim.free (h : Sim s' s) : freeS s' = freeS s := by rw [h.eq]; rfl
theorem Sim.bring (h : Sim s' s) (now : Int) (b : ByteArray) : Sim (bringS s' now b).1 (bringS s now b).1 ∧ (bringS s' now b).2 = (bringS s now b).2 := by
  have hl := h.look now
  unfold bringS
  dsimp only
  rw [hl.st, hl.closed, hl.free]
  split
  · exact ⟨hl, rfl⟩
  · exact ⟨hl.force _, rfl⟩
theorem Sim.push (h : Sim s' s) (now : Int) (b : ByteArray) : Sim (pushS s' now b) (pushS s now b) := by
  have hl := h.look now
  unfold pushS
  dsimp only
  rw [hl.st]
  split
  · exact hl
  · exact hl.force _
theorem Sim.close (h : Sim s' s) (now : Int) : Sim (closeS s' now) (closeS s now) := by
  obtain ⟨he, hb⟩ := h
  rw [he]
  unfold closeS
  by_cases hc : s.closed = true
  · rw [if_pos (show ({ s with bk := s'.bk } : St).closed = true from hc), if_pos hc]
    exact ⟨rfl, fun hk => (hb hk).later (tick_ge _ _)⟩
  · rw [if_neg (show ¬ ({ s with bk := s'.bk } : St).closed = true from hc), if_neg hc]
    exact ⟨rfl, fun hk => (hb hk).later (tick_ge _ _)⟩
theorem Sim.drain (h : Sim s' s) : Sim (drainS s').1 (drainS s).1 := by
  obtain ⟨he, hb⟩ := h
  rw [he]
  exact ⟨rfl, hb⟩
theorem Sim.upd (h : Sim s' s) (t : Tox) (now : Int) : Sim (updS s' t now).1 (updS s t now).1 ∧ (updS s' t now).2 = (updS s t now).2 := by
  have hl := h.look now
  unfold updS
  rw [h.tx]
  split
  · exact ⟨h, rfl⟩
  · split
    · exact ⟨h, rfl⟩
    · split
      · exact ⟨h, rfl⟩
      · rename_i h1 h2 h3
        refine ⟨?_, rfl⟩
        have hk : t.k = s.tx.k := by omega
        dsimp only
        obtain ⟨he, hb⟩ := hl
        refine ⟨?_, fun h2' => ?_⟩
        · dsimp only
          rw [he]
        · have h2' : t.k = 2 := h2'
          dsimp only
          rw [if_pos h2']
          have hb := hb (by show s.tx.k = 2; omega)
          have e : chgB (lookS s' now).bk t.a t.b (lookS s' now).clock = chgB (lookS s now).bk t.a t.b (lookS s now).clock := by
            unfold chgB
            have hc : (lookS s' now).clock = (lookS s now).clock := by rw [he]
            rw [hc]
            have := hb.2.2 (lookS s now).clock (Int.le_refl _)
            rw [this.1, this.2]
          rw [e, if_pos h2']
          exact bq_refl _ _
theorem cut_zero (s : St) : cutS s 0 = s := by
  unfold cutS
  have e1 : s.S.extract 0 s.S.size = s.S := by simp
  have e2 : s.passed + ((0 : Nat) : Int) = s.passed := Int.add_zero _
  rw [e1, e2, List.drop_zero]
theorem Sim.cut (h : Sim s' s) (K : Nat) : Sim (cutS s' K) (cutS s K) := by
  obtain ⟨he, hb⟩ := h
  rw [he]
  exact ⟨rfl, hb⟩
theorem Sim.give (h : Sim s' s) (n : Int) : Sim (giveS s' n).1 (giveS s n).1 ∧ (giveS s' n).2 = (giveS s n).2 := by
  obtain ⟨he, hb⟩ := h
  unfold giveS
  have ht : s'.tx = s.tx := by rw [he]
  have hc : s'.clock = s.clock := by rw [he]
  rw [ht]
  by_cases h2 : s.tx.k = 2
  · rw [if_pos h2, if_pos h2]
    have hb := hb h2
    have h3 := hb.2.2 s.clock (Int.le_refl _)
    dsimp only
    rw [hc, h3.1, h3.2, hb.1, hb.2.1]
    refine ⟨⟨?_, fun _ => bq_refl _ _⟩, rfl⟩
    dsimp only
    rw [he]
  · rw [if_neg h2, if_neg h2]
    have hS : Sim s' s := ⟨he, hb⟩
    rw [hc, hS.passed, show s'.d = s.d by rw [he], show s'.pause = s.pause by rw [he]]
    split
    · split
      · exact ⟨hS, rfl⟩
      · refine ⟨⟨?_, fun hk => absurd hk h2⟩, rfl⟩
        dsimp only
        rw [he]
    · split
      · exact ⟨hS, rfl⟩
      · split
        · exact ⟨hS, rfl⟩
        · exact ⟨hS, rfl⟩
/-- What is given of nothing. -/
theorem give_none (ho : Ok s M) (hl : s.tx.k = 6 → s.passed < s.tx.a) : Sim s (giveS s 0).1 ∧ (giveS s 0).2 = 0 := by
  unfold giveS
  by_cases h2 : s.tx.k = 2
  · rw [if_pos h2]
    have hf := gb.fill_right (ho.bk h2) s.clock
    have hr := (gb.rightB_iff _ _ _ _).1 hf
    have h0 := gb.take_range (L := gb.fillL s.bk.r s.bk.u s.bk.l s.bk.t s.clock) (n := 0) hr.2.2.1.1
    have h0 := h0.2.2.2.1 (Int.le_refl _)
    refine ⟨⟨rfl, fun _ => ⟨rfl, rfl, fun t ht => ?_⟩⟩, h0⟩
    dsimp only
    rw [h0, Int.sub_zero]
    have := gb.fill_steps (ho.bk h2) ht
    exact ⟨this.1.symm, this.2.symm⟩
  · rw [if_neg h2]
    split
    · rw [if_pos (Or.inl rfl)]
      exact ⟨sim_refl _, rfl⟩
    · split
      · exact ⟨sim_refl _, rfl⟩
      · split
        · rename_i h6
          have := hl h6.1
          omega
        · exact ⟨sim_refl _, rfl⟩
theorem Sim.trans (h : Sim s s') (k : Sim s' s'') : Sim s s'' := by
  obtain ⟨h1, h2⟩ := h
  obtain ⟨k1, k2⟩ := k
  refine ⟨by rw [h1, k1], fun hk => ?_⟩
  have a := h2 (by rw [k1]; exact hk)
  have b := k2 hk
  have hc : s'.clock = s''.clock := by rw [k1]
  refine ⟨a.1.trans b.1, a.2.1.trans b.2.1, fun t ht => ?_⟩
  have a1 := a.2.2 t (by omega)
  have b1 := b.2.2 t ht
  exact ⟨a1.1.trans b1.1, a1.2.trans b1.2⟩
theorem Sim.take (h : Sim s' s) (ho : Ok s' M) (now most : Int) : Sim (takeC s' now most).1 (takeS s now most).1 ∧ (takeC s' now most).2 = (takeS s now most).2 := by
  have hl := h.look now
  have hol := ho.look now
  unfold takeC takeS
  dsimp only
  by_cases hs : (lookS s now).st = 0
  · rw [hl.st, if_neg (show ¬ (lookS s now).st ≠ 0 from fun h => h hs)]
    by_cases hm : most < 1
    · rw [if_pos (show (lookS s now).st ≠ 0 ∨ most < 1 from Or.inr hm), if_pos (show min most (gc.readyN (lookS s' now).A (lookS s' now).clock : Int) < 1 by omega)]
      exact ⟨hl, rfl⟩
    · rw [if_neg (show ¬ ((lookS s now).st ≠ 0 ∨ most < 1) from fun h => h.elim (fun h => h hs) hm)]
      obtain ⟨R, hR⟩ : ∃ R, gc.readyN (lookS s now).A (lookS s now).clock = R := ⟨_, rfl⟩
      rw [hl.A, hl.clock, hl.S, hR]
      by_cases h0 : R = 0
      · subst h0
        rw [if_pos (show min most ((0 : Nat) : Int) < 1 by omega)]
        have e : (if most < ((0 : Nat) : Int) then most else ((0 : Nat) : Int)) = 0 := by split <;> omega
        rw [e]
        have hg := hl.give 0
        have hn := give_none hol (fun hk => not_over (s := s') now (by rw [hl.st]; exact hs) hk)
        rw [← hg.2, hn.2]
        have hz : gc.takeK (lookS s now).A (lookS s now).clock 0 = 0 := by unfold gc.takeK; omega
        rw [hz, cut_zero]
        exact ⟨hn.1.trans hg.1, (extract_none _).symm⟩
      · have e : (if most < (R : Int) then most else (R : Int)) = min most (R : Int) := by split <;> omega
        have h1 : 1 ≤ min most (R : Int) := by omega
        rw [if_neg (show ¬ min most (R : Int) < 1 by omega), e]
        have hg := hl.give (min most (R : Int))
        have hgi := give_is hol (min most (R : Int)) h1 (fun hk => not_over (s := s') now (by rw [hl.st]; exact hs) hk)
        rw [hg.2] at hgi ⊢
        have hK : gc.takeK (lookS s now).A (lookS s now).clock (giveS (lookS s now) (min most (R : Int))).2 = (giveS (lookS s now) (min most (R : Int))).2.toNat := by
          unfold gc.takeK
          rw [hR]
          omega
        rw [hK]
        exact ⟨hg.1.cut _, rfl⟩
  · rw [hl.st, if_pos hs, if_pos (show (lookS s now).st ≠ 0 ∨ most < 1 from Or.inl hs)]
    exact ⟨hl, rfl⟩
end Go.Proofs.YtlbihcpglcdmmaaGreat
namespace Go.Proofs.YtlbihcpglcdmmaaGreat.gb
open Go.RowKit

set_option maxRecDepth 100000 in
set_option maxHeartbeats 8000000 in
theorem change_b {r u l t : Int} (h : rightB r u l t = true) {r2 u2 n : Int} (h2 : rightB r2 u2 u2 n = true) {L T : Int} (hL : fillL r u l t n = L) (hT : fillT r u l t n = T) (w : World) : Calls Tryz.prog 57 #[.agg #[.int .i64 r, .int .i64 u, .int .i64 l, .int .i64 t], .int .i64 r2, .int .i64 u2, .int .i64 n] w fun e w' => e = .returned (.tuple #[.agg #[.int .i64 r2, .int .i64 u2, .int .i64 (trimL u2 L), .int .i64 T], .int .i64 0]) ∧ Below w.heap.size w w' := by
  have HRG := Lib.hid (fun W => show Calls Tryz.prog 39 #[.agg #[.int .i64 r, .int .i64 u, .int .i64 l, .int .i64 t]] W fun e w' => e = .returned (.bool true) ∧ Below W.heap.size W w' from by rw [← h]; exact right_b r u l t W)
  have HNW := Lib.hid (fun W => new_b1 (n := n) h2 W)
  have HFI := Lib.hid (fun W => show Calls Tryz.prog 83 #[.agg #[.int .i64 r, .int .i64 u, .int .i64 l, .int .i64 t], .int .i64 n] W fun e w' => e = .returned (.agg #[.int .i64 r, .int .i64 u, .int .i64 L, .int .i64 T]) ∧ Below W.heap.size W w' from by rw [← hL, ← hT]; exact fill_b r u l t n W)
  have HTR := Lib.hid (fun W => trim_any r2 u2 L T W)
  obtain ⟨W0, hW0⟩ : ∃ W0, (w.alloc (.cells #[.int .i64 r, .int .i64 u, .int .i64 l, .int .i64 t] 56)).alloc (.cells #[.int .i64 0, .int .i64 0, .int .i64 0, .int .i64 0] 56) = W0 := ⟨_, rfl⟩
  have HB0 := Lib.hid (below2 w (.cells #[.int .i64 r, .int .i64 u, .int .i64 l, .int .i64 t] 56) (.cells #[.int .i64 0, .int .i64 0, .int .i64 0, .int .i64 0] 56))
  have hg := two_blocks (w := w) (o0 := (.cells #[.int .i64 r, .int .i64 u, .int .i64 l, .int .i64 t] 56)) (o1 := (.cells #[.int .i64 0, .int .i64 0, .int .i64 0, .int .i64 0] 56)) (w1 := W0) (by rw [hW0]; exact Below.refl _ _)
  rw [hW0] at HB0
  obtain ⟨hg0, hg1, hlt⟩ := hg
  have HG0 := Lib.hid hg0
  have HG1 := Lib.hid hg1
  clear h h2 hL hT hg0 hg1
  generalize trimL u2 L = V at *
  go_enter Tryz.func57, Tryz.ntmps57
  go_wp2_with fail
  refine (HNW.out _).mono ?_
  rintro e w1 ⟨rfl, hb⟩
  have hal : Below w1.heap.size w1 (w1.alloc (.cells #[.int .i64 0, .int .i64 0, .int .i64 0, .int .i64 0] 56)) := (Below.refl _ _).alloc (Nat.le_refl _) _
  have hbl := heap_alloc_new w1 (.cells #[.int .i64 0, .int .i64 0, .int .i64 0, .int .i64 0] 56)
  obtain ⟨W2, hW2⟩ : ∃ W2, w1.alloc (.cells #[.int .i64 0, .int .i64 0, .int .i64 0, .int .i64 0] 56) = W2 := ⟨_, rfl⟩
  rw [hW2] at hal hbl
  have hst := set4_below (w := W2) hal (Nat.le_refl _) (.int .i64 r2) (.int .i64 u2) (.int .i64 u2) (.int .i64 n)
  have x0 : W2.cell? ⟨w1.heap.size, 0, none⟩ = some (.int .i64 0) := cell_of_row _ _ 0 _ _ _ hbl
  have x1 : W2.cell? ⟨w1.heap.size, 1, none⟩ = some (.int .i64 0) := cell_of_row _ _ 1 _ _ _ hbl
  have x2 : W2.cell? ⟨w1.heap.size, 2, none⟩ = some (.int .i64 0) := cell_of_row _ _ 2 _ _ _ hbl
  have x3 : W2.cell? ⟨w1.heap.size, 3, none⟩ = some (.int .i64 0) := cell_of_row _ _ 3 _ _ _ hbl
  have f0 : W2.frozen? ⟨w1.heap.size, 0, none⟩ = false := frozen_at hbl
  have f1 : W2.frozen? ⟨w1.heap.size, 1, none⟩ = false := frozen_at hbl
  have f2 : W2.frozen? ⟨w1.heap.size, 2, none⟩ = false := frozen_at hbl
  have f3 : W2.frozen? ⟨w1.heap.size, 3, none⟩ = false := frozen_at hbl
  have hlt2 := blk_lt hbl
  have HB2 := Lib.hid (seqB HB0.out (seqB hb hst))
  have hg0 := (hst.block _ (blk_lt ((hb.block _ (blk_lt HG0.out)).trans HG0.out))).trans ((hb.block _ (blk_lt HG0.out)).trans HG0.out)
  have hg1 := (hst.block _ (blk_lt ((hb.block _ (blk_lt HG1.out)).trans HG1.out))).trans ((hb.block _ (blk_lt HG1.out)).trans HG1.out)
  clear hb hal hbl hst HG0 HG1 HNW hlt hW0
  go_upto_region 2 with fail
  generalize hW : set4 W2 w1.heap.size (.int .i64 r2) (.int .i64 u2) (.int .i64 u2) (.int .i64 n) = W3 at *
  unfold set4 at hW
  rw [hW]
  clear hW x0 x1 x2 x3 f0 f1 f2 f3 hW2 hlt2
  have hlt := blk_lt hg1
  have x0 : W3.cell? ⟨w.heap.size, 0, none⟩ = some (.int .i64 r) := cell_of_row _ _ 0 _ _ _ hg0
  have x1 : W3.cell? ⟨w.heap.size, 1, none⟩ = some (.int .i64 u) := cell_of_row _ _ 1 _ _ _ hg0
  have x2 : W3.cell? ⟨w.heap.size, 2, none⟩ = some (.int .i64 l) := cell_of_row _ _ 2 _ _ _ hg0
  have x3 : W3.cell? ⟨w.heap.size, 3, none⟩ = some (.int .i64 t) := cell_of_row _ _ 3 _ _ _ hg0
  have HG0 := Lib.hid hg0
  have HG1 := Lib.hid hg1
  clear hg0 hg1
  go_wp2_with fail
  refine (HRG.out _).mono ?_
  rintro e w4 ⟨rfl, hb⟩
  have hg0 := (hb.block _ (blk_lt HG0.out)).trans HG0.out
  have hg1 := (hb.block _ (blk_lt HG1.out)).trans HG1.out
  have HB3 := Lib.hid (seqB HB2.out hb)
  clear hb x0 x1 x2 x3 HG0 HG1 HRG hlt HB2
  have hlt := blk_lt hg1
  have x0 : w4.cell? ⟨w.heap.size, 0, none⟩ = some (.int .i64 r) := cell_of_row _ _ 0 _ _ _ hg0
  have x1 : w4.cell? ⟨w.heap.size, 1, none⟩ = some (.int .i64 u) := cell_of_row _ _ 1 _ _ _ hg0
  have x2 : w4.cell? ⟨w.heap.size, 2, none⟩ = some (.int .i64 l) := cell_of_row _ _ 2 _ _ _ hg0
  have x3 : w4.cell? ⟨w.heap.size, 3, none⟩ = some (.int .i64 t) := cell_of_row _ _ 3 _ _ _ hg0
  have HG0 := Lib.hid hg0
  have HG1 := Lib.hid hg1
  clear hg0 hg1
  go_wp2_with fail
  refine (HFI.out _).mono ?_
  rintro e w5 ⟨rfl, hb⟩
  have hg0 := (hb.block _ (blk_lt HG0.out)).trans HG0.out
  have hg1 := (hb.block _ (blk_lt HG1.out)).trans HG1.out
  have HB4 := Lib.hid (seqB HB3.out hb)
  clear hb x0 x1 x2 x3 HG0 HG1 HFI hlt HB3
  have hlt := blk_lt hg1
  have x0 : w5.cell? ⟨w.heap.size, 0, none⟩ = some (.int .i64 r) := cell_of_row _ _ 0 _ _ _ hg0
  have x1 : w5.cell? ⟨w.heap.size, 1, none⟩ = some (.int .i64 u) := cell_of_row _ _ 1 _ _ _ hg0
  have x2 : w5.cell? ⟨w.heap.size, 2, none⟩ = some (.int .i64 l) := cell_of_row _ _ 2 _ _ _ hg0
  have x3 : w5.cell? ⟨w.heap.size, 3, none⟩ = some (.int .i64 t) := cell_of_row _ _ 3 _ _ _ hg0
  have e0 : w5.frozen? ⟨w.heap.size, 0, none⟩ = false := frozen_at hg0
  have e1 : w5.frozen? ⟨w.heap.size, 1, none⟩ = false := frozen_at hg0
  have e2 : w5.frozen? ⟨w.heap.size, 2, none⟩ = false := frozen_at hg0
  have e3 : w5.frozen? ⟨w.heap.size, 3, none⟩ = false := frozen_at hg0
  go_upto_region 5 with fail
  have hs := set4_heap hg0 (.int .i64 r) (.int .i64 u) (.int .i64 L) (.int .i64 T)
  have hd := set4_below (w := w5) HB4.out (Nat.le_refl _) (.int .i64 r) (.int .i64 u) (.int .i64 L) (.int .i64 T)
  have hf := (set4_far (.int .i64 r) (.int .i64 u) (.int .i64 L) (.int .i64 T) (show w.heap.size + 1 ≠ w.heap.size by omega)).trans hg1
  generalize hW : set4 w5 w.heap.size (.int .i64 r) (.int .i64 u) (.int .i64 L) (.int .i64 T) = W6 at *
  unfold set4 at hW
  rw [hW]
  clear hW x0 x1 x2 x3 e0 e1 e2 e3 hg0 hg1 hlt HB4
  have x0 : W6.cell? ⟨w.heap.size, 0, none⟩ = some (.int .i64 r) := cell_of_row _ _ 0 _ _ _ hs
  have x1 : W6.cell? ⟨w.heap.size, 1, none⟩ = some (.int .i64 u) := cell_of_row _ _ 1 _ _ _ hs
  have x2 : W6.cell? ⟨w.heap.size, 2, none⟩ = some (.int .i64 L) := cell_of_row _ _ 2 _ _ _ hs
  have x3 : W6.cell? ⟨w.heap.size, 3, none⟩ = some (.int .i64 T) := cell_of_row _ _ 3 _ _ _ hs
  have e0 : W6.frozen? ⟨w.heap.size, 0, none⟩ = false := frozen_at hs
  have e1 : W6.frozen? ⟨w.heap.size, 1, none⟩ = false := frozen_at hs
  have e2 : W6.frozen? ⟨w.heap.size, 2, none⟩ = false := frozen_at hs
  have e3 : W6.frozen? ⟨w.heap.size, 3, none⟩ = false := frozen_at hs
  have hlt := blk_lt hf
  have hs2 := set_heap (i := 1) (set_heap (i := 0) hs (.int .i64 r2)) (.int .i64 u2)
  have hd2 := (hd.setCell (p := ⟨w.heap.size, 0, none⟩) (Nat.le_refl _) (.int .i64 r2)).setCell (p := ⟨w.heap.size, 1, none⟩) (Nat.le_refl _) (.int .i64 u2)
  have hf2 := ((Below.heap_setCell (W6.setCell ⟨w.heap.size, 0, none⟩ (.int .i64 r2)) ⟨w.heap.size, 1, none⟩ (.int .i64 u2) (w.heap.size + 1) (by simp)).trans (Below.heap_setCell W6 ⟨w.heap.size, 0, none⟩ (.int .i64 r2) (w.heap.size + 1) (by simp))).trans hf
  have HS2 := Lib.hid hs2
  have HD2 := Lib.hid hd2
  have HF2 := Lib.hid hf2
  clear hs hd hf hs2 hd2 hf2
  go_upto_region 6 with fail
  generalize (W6.setCell ⟨w.heap.size, 0, none⟩ (.int .i64 r2)).setCell ⟨w.heap.size, 1, none⟩ (.int .i64 u2) = W7 at *
  clear x0 x1 x2 x3 e0 e1 e2 e3 hlt
  have hs : W7.heap[w.heap.size]? = some (.cells #[.int .i64 r2, .int .i64 u2, .int .i64 L, .int .i64 T] 56 (0, 0)) := HS2.out
  have hlt := blk_lt HF2.out
  have x0 : W7.cell? ⟨w.heap.size, 0, none⟩ = some (.int .i64 r2) := cell_of_row _ _ 0 _ _ _ hs
  have x1 : W7.cell? ⟨w.heap.size, 1, none⟩ = some (.int .i64 u2) := cell_of_row _ _ 1 _ _ _ hs
  have x2 : W7.cell? ⟨w.heap.size, 2, none⟩ = some (.int .i64 L) := cell_of_row _ _ 2 _ _ _ hs
  have x3 : W7.cell? ⟨w.heap.size, 3, none⟩ = some (.int .i64 T) := cell_of_row _ _ 3 _ _ _ hs
  clear hs
  go_wp2_with fail
  refine (HTR.out _).mono ?_
  rintro e w8 ⟨rfl, hb⟩
  have hg1 := (hb.block _ (blk_lt HF2.out)).trans HF2.out
  have HB8 := Lib.hid (seqB HD2.out hb)
  clear hb x0 x1 x2 x3 HS2 HD2 HF2 hlt HTR
  have hlt := blk_lt hg1
  have y0 : w8.cell? ⟨w.heap.size + 1, 0, none⟩ = some (.int .i64 0) := cell_of_row _ _ 0 _ _ _ hg1
  have y1 : w8.cell? ⟨w.heap.size + 1, 1, none⟩ = some (.int .i64 0) := cell_of_row _ _ 1 _ _ _ hg1
  have y2 : w8.cell? ⟨w.heap.size + 1, 2, none⟩ = some (.int .i64 0) := cell_of_row _ _ 2 _ _ _ hg1
  have y3 : w8.cell? ⟨w.heap.size + 1, 3, none⟩ = some (.int .i64 0) := cell_of_row _ _ 3 _ _ _ hg1
  have f0 : w8.frozen? ⟨w.heap.size + 1, 0, none⟩ = false := frozen_at hg1
  have f1 : w8.frozen? ⟨w.heap.size + 1, 1, none⟩ = false := frozen_at hg1
  have f2 : w8.frozen? ⟨w.heap.size + 1, 2, none⟩ = false := frozen_at hg1
  have f3 : w8.frozen? ⟨w.heap.size + 1, 3, none⟩ = false := frozen_at hg1
  have hz := set4_heap hg1 (.int .i64 r2) (.int .i64 u2) (.int .i64 V) (.int .i64 T)
  have HD := Lib.hid (set4_below (w := w8) (g := w.heap.size + 1) HB8.out (show w.heap.size ≤ w.heap.size + 1 by omega) (.int .i64 r2) (.int .i64 u2) (.int .i64 V) (.int .i64 T))
  clear hg1
  go_wp2_with fail
  generalize hW : set4 w8 (w.heap.size + 1) (.int .i64 r2) (.int .i64 u2) (.int .i64 V) (.int .i64 T) = W9 at *
  unfold set4 at hW
  rw [hW]
  clear hW
  have z0 : W9.cell? ⟨w.heap.size + 1, 0, none⟩ = some (.int .i64 r2) := cell_of_row _ _ 0 _ _ _ hz
  have z1 : W9.cell? ⟨w.heap.size + 1, 1, none⟩ = some (.int .i64 u2) := cell_of_row _ _ 1 _ _ _ hz
  have z2 : W9.cell? ⟨w.heap.size + 1, 2, none⟩ = some (.int .i64 V) := cell_of_row _ _ 2 _ _ _ hz
  have z3 : W9.cell? ⟨w.heap.size + 1, 3, none⟩ = some (.int .i64 T) := cell_of_row _ _ 3 _ _ _ hz
  exact bodyPost_ret (v := .tuple #[.agg #[.int .i64 r2, .int .i64 u2, .int .i64 V, .int .i64 T], .int .i64 0]) (by simp [results, Tryz.results57, go_sem, z0, z1, z2, z3]) rfl ⟨rfl, HD.out⟩
end Go.Proofs.YtlbihcpglcdmmaaGreat.gb
