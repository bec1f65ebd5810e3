/-
  What a ring's Drop, Read, Clear and Copy do. Conditions: as each states.
-/
import Derived.Test.YtkjljnfhnkaocaaW2
import Derived.Test.YtkjljnfhnkaocaaW5
namespace Go.Proofs.Ytkjljnfhnkaocaa
open Go.RowKit

theorem splice_drop (full : List Int) (L G K : Nat) (hL : full.length = L) (h : G + K ≤ L) : (splice full G (List.replicate K 0)).drop (G + K) = full.drop (G + K) ∧ (splice full G (List.replicate K 0)).length = L := by
  refine ⟨?_, by rw [length_splice _ _ _ (by simp; omega)]; exact hL⟩
  unfold splice
  rw [← List.append_assoc, List.drop_append_of_le_length (by simp; omega), List.drop_eq_nil_of_le (by simp; omega)]
  simp

theorem kept_trans {w w1 w2 : World} {g : Nat} {u : Option Nat} (h : Kept w w1 g u) (k : Kept w1 w2 g u) : Kept w w2 g u := by
  have hs := h.size
  exact ⟨k.os.trans h.os, k.tape.trans h.tape, k.output.trans h.output, Nat.le_trans h.size k.size, fun i hi hg hu => (k.block i (by omega) hg hu).trans (h.block i hi hg hu)⟩

set_option maxHeartbeats 2000000 in
theorem drop_mid (base g : Nat) (room : Int) (b : Nat) (full : List Int) (L G K c : Nat) (w : World) (h : Raw w base g room (.slice (some ⟨b, 0, none⟩) L c) full G) (hL : full.length = L) (hck : ¬ c = G) (hnc : L ≤ c) (hc : c ≤ 9223372036854775807) (n : Int) (hK : cut n (L - G) = K) :
    Calls Try.prog 25 #[.pointer (some ⟨g, 0, none⟩), .int .i64 n] w fun e w' => e = .returned (.int .i64 (K : Int)) ∧
      (∃ v' full' G', Raw w' base g room v' full' G' ∧ full'.drop G' = full.drop (G + K) ∧ v'.ownBlock = some b ∧ (G' = 0 ∨ 2 * G' < full'.length)) ∧ Kept w w' g (some b) := by
  have hne := own_other h.own h.blk
  have hle := h.le
  have hKl := cut_le n (L - G)
  rw [hK] at hKl
  rw [hL] at hle
  have HM := Lib.hid (most_any h n)
  rw [hL, hK] at HM
  have hstep : ∀ w0 : World, Below w.heap.size w w0 → ∃ w2, (∀ ty, (Builtin.clear_ #[40] ty #[.slice (some ⟨b, G, none⟩) (G + K - G) (c - G)]).run Try.prog w0 = .ok (.tuple #[]) w2) ∧
      (w0.cell? ⟨g, 1, none⟩ = some (.slice (some ⟨b, 0, none⟩) L c) ∧ w0.cell? ⟨g, 2, none⟩ = some (.int .i64 (G : Int))) ∧
      (w2.cell? ⟨g, 1, none⟩ = some (.slice (some ⟨b, 0, none⟩) L c) ∧ w2.cell? ⟨g, 2, none⟩ = some (.int .i64 (G : Int)) ∧ w2.frozen? ⟨g, 2, none⟩ = false) ∧
      Raw (w2.setCell ⟨g, 2, none⟩ (.int .i64 ((G + K : Nat) : Int))) base g room (.slice (some ⟨b, 0, none⟩) L c) (splice full G (List.replicate K 0)) (G + K) ∧ Kept w (w2.setCell ⟨g, 2, none⟩ (.int .i64 ((G + K : Nat) : Int))) g (some b) := fun w0 hb0 => by
    have h0 := h.on hb0
    have ho := h0.own
    rw [hL] at ho
    obtain ⟨w2, hcl, ho2, hg2⟩ := clear_own ho G K (c - G) (by omega)
    have hb2 : w2.heap[g]? = some (.cells #[.int .i64 room, .slice (some ⟨b, 0, none⟩) L c, .int .i64 (G : Int)] 53 (0, 0)) := (hg2.block g h0.lt (fun e => hne e.symm)).trans h0.blk
    obtain ⟨hs1, hs2⟩ := splice_drop full L G K hL (by omega)
    have hr2 : Raw w2 base g room (.slice (some ⟨b, 0, none⟩) L c) (splice full G (List.replicate K 0)) G := ⟨hb2, by rw [hs2]; exact ho2, by omega, h.base, h.room0, h.room1⟩
    exact ⟨w2, fun ty => by rw [show G + K - G = K by omega]; exact hcl ty, ⟨cell_of_row _ g 1 _ _ _ h0.blk, cell_of_row _ g 2 _ _ _ h0.blk⟩, ⟨cell_of_row _ g 1 _ _ _ hb2, cell_of_row _ g 2 _ _ _ hb2, by simp [World.frozen?, hb2]⟩, hr2.set2 (G + K) (by omega), kept_set (kept_grown (kept_below hb0 g _) hg2) 2 _⟩
  have HS := Lib.hid hstep
  have hw : IntKind.i64.wrap ((G : Int) + (K : Int)) = (G : Int) + (K : Int) := IntWalk.i64_in _ (by omega)
  have HL := Lib.hid hL
  have HSP := Lib.hid (splice_drop full L G K hL (by omega))
  clear h hstep hK hL hne
  go_enter Try.func25, Try.ntmps25
  go_wp2_with fail
  refine HM.out.mono ?_
  rintro e w1 ⟨rfl, m, hm⟩
  have HB1 := Lib.hid (show Below w.heap.size w w1 by rw [hm]; exact below_drewN w m)
  clear hm HM
  obtain ⟨w2, hcl, hc0, ⟨k1, k2, kf2⟩, hr, hk⟩ := HS.out w1.drew HB1.out.drew
  have HC := Lib.hid hcl
  have HD := Lib.hid hc0
  have HE := Lib.hid (And.intro k1 k2)
  rw [Int.natCast_add] at hr hk
  have HR := Lib.hid hr
  have HK := Lib.hid hk
  clear hcl hc0 hr hk HS k1 k2
  go_wp2_with fail
  go_region_held_law (fun w' => w'.cell? ⟨g, 1, none⟩ = some (.slice (some ⟨b, 0, none⟩) L c) ∧ w'.cell? ⟨g, 2, none⟩ = some (.int .i64 (G : Int)))
    (first
        | exact HD.out
        | exact HE.out)
    (first
      | (refine step_clear_eq rfl (.tmp 22) 40 rfl (.slice (some ⟨b, G, none⟩) (G + K - G) (c - G)) rfl HC.out ?_))
  obtain ⟨k1, k2⟩ := HE.out
  clear HD HE HC
  go_wp2_with fail
  clear kf2 k1 k2
  generalize w2.setCell ⟨g, 2, none⟩ (.int .i64 ((G : Int) + (K : Int))) = w3 at *
  have g2 : w3.cell? ⟨g, 2, none⟩ = some (.int .i64 ((G : Int) + (K : Int))) := by
    rw [← Int.natCast_add]
    exact cell_of_row _ g 2 _ _ _ HR.out.blk
  have HLen := Lib.hid (show ∀ m, Calls Try.prog 16 #[.pointer (some ⟨g, 0, none⟩)] (w3.drewN m) fun e w' => e = .returned (.int .i64 ((L : Int) - ((G : Int) + (K : Int)))) ∧ ∃ m', w' = (w3.drewN m).drewN m' from fun m => by
    refine (len_raw base g room _ _ _ _ (HR.out.on (below_drewN w3 m))).mono ?_
    rintro e w' ⟨rfl, hm⟩
    exact ⟨ret_int (by rw [HSP.out.2, Int.natCast_add]), hm⟩)
  go_quiet ((go_at_call 16; exact Calls.quiet_of (HLen.out _)))
  rename_i nq
  clear HLen
  by_cases hT : (L : Int) - ((G : Int) + (K : Int)) ≤ (G : Int) + (K : Int)
  · go_wp2_with fail
    refine (turn_any (HR.out.on (below_drewN w3 nq)) (by rw [HSP.out.2]; omega)).mono ?_
    rintro e w5 ⟨rfl, ⟨v', hr5, hv5⟩, hk5⟩
    have HP := Lib.hid (show (∃ v' full' G', Raw w5 base g room v' full' G' ∧ full'.drop G' = full.drop (G + K) ∧ v'.ownBlock = some b ∧ (G' = 0 ∨ 2 * G' < full'.length)) ∧ Kept w w5 g (some b) from
      ⟨⟨v', _, 0, hr5, by rw [List.drop_zero]; exact HSP.out.1, hv5, Or.inl rfl⟩, kept_trans HK.out (kept_trans (kept_below (below_drewN w3 nq) g _) hk5)⟩)
    clear hr5 hv5 hk5
    go_wp2_with fail
    go_ret
    exact ⟨rfl, HP.out⟩
  · go_wp2_with fail
    go_ret
    exact ⟨rfl, ⟨_, _, _, HR.out.on (below_drewN w3 nq), HSP.out.1, rfl, Or.inr (by rw [HSP.out.2]; omega)⟩, kept_trans HK.out (kept_below (below_drewN w3 nq) g _)⟩

set_option maxHeartbeats 2000000 in
theorem drop_zero (base g : Nat) (room : Int) (q : Option Addr) (w : World) (h : Raw w base g room (.slice q 0 0) [] 0) (n : Int) :
    Calls Try.prog 25 #[.pointer (some ⟨g, 0, none⟩), .int .i64 n] w fun e w' => e = .returned (.int .i64 0) ∧ Raw w' base g room (.slice q 0 0) [] 0 ∧ Kept w w' g (Value.slice q 0 0).ownBlock := by
  have hM0 : cut n 0 = 0 := by have := cut_le n 0; omega
  have hm0 := most_any h n
  rw [show ([] : List Int).length - 0 = 0 from rfl, hM0, show ((0 : Nat) : Int) = 0 from rfl] at hm0
  have HM := Lib.hid hm0
  have HH := Lib.hid h
  clear h hM0 hm0
  go_enter Try.func25, Try.ntmps25
  go_wp2_with fail
  refine HM.out.mono ?_
  rintro e w1 ⟨rfl, m, hm⟩
  have hb1 : Below w.heap.size w w1 := by rw [hm]; exact below_drewN w m
  clear hm HM
  obtain ⟨w2, hw2⟩ : ∃ w2, w1.drew = w2 := ⟨_, rfl⟩
  have hb2 : Below w.heap.size w w2 := by rw [← hw2]; exact hb1.drew
  have hr2 := HH.out.on hb2
  have HC := Lib.hid (show ∀ ty, (Builtin.clear_ #[40] ty #[.slice q 0 0]).run Try.prog w1.drew = .ok (.tuple #[]) w2 from fun ty => by rw [← hw2]; exact run_clear_none w1.drew q 0 ty)
  have HD := Lib.hid (show w1.drew.cell? ⟨g, 1, none⟩ = some (.slice q 0 0) ∧ w1.drew.cell? ⟨g, 2, none⟩ = some (.int .i64 0) from by rw [hw2]; exact ⟨cell_of_row _ g 1 _ _ _ hr2.blk, cell_of_row _ g 2 _ _ _ hr2.blk⟩)
  have HE := Lib.hid (show w2.cell? ⟨g, 1, none⟩ = some (.slice q 0 0) ∧ w2.cell? ⟨g, 2, none⟩ = some (.int .i64 0) from ⟨cell_of_row _ g 1 _ _ _ hr2.blk, cell_of_row _ g 2 _ _ _ hr2.blk⟩)
  have kf2 : w2.frozen? ⟨g, 2, none⟩ = false := by simp [World.frozen?, hr2.blk]
  have HR := Lib.hid (show Raw (w2.setCell ⟨g, 2, none⟩ (.int .i64 0)) base g room (.slice q 0 0) [] 0 from hr2.set2 0 (Nat.zero_le _))
  have HK := Lib.hid (show Kept w (w2.setCell ⟨g, 2, none⟩ (.int .i64 0)) g (Value.slice q 0 0).ownBlock from kept_set (kept_below hb2 g _) 2 _)
  clear hb1 hb2 hr2 HH hw2
  go_wp2_with fail
  go_region_held_law (fun w' => w'.cell? ⟨g, 1, none⟩ = some (.slice q 0 0) ∧ w'.cell? ⟨g, 2, none⟩ = some (.int .i64 0))
    (first
        | exact HD.out
        | exact HE.out)
    (first
      | (refine step_clear_eq rfl (.tmp 22) 40 rfl (.slice q 0 0) rfl HC.out ?_))
  obtain ⟨k1, k2⟩ := HE.out
  clear HD HE HC
  go_wp2_with fail
  clear kf2 k1 k2
  generalize w2.setCell ⟨g, 2, none⟩ (.int .i64 0) = w3 at *
  have g2 : w3.cell? ⟨g, 2, none⟩ = some (.int .i64 0) := cell_of_row _ g 2 _ _ _ HR.out.blk
  have HLen := Lib.hid (show ∀ m, Calls Try.prog 16 #[.pointer (some ⟨g, 0, none⟩)] (w3.drewN m) fun e w' => e = .returned (.int .i64 0) ∧ ∃ m', w' = (w3.drewN m).drewN m' from fun m => by
    refine (len_raw base g room _ _ _ _ (HR.out.on (below_drewN w3 m))).mono ?_
    rintro e w' ⟨rfl, hm⟩
    exact ⟨rfl, hm⟩)
  go_quiet ((go_at_call 16; exact Calls.quiet_of (HLen.out _)))
  rename_i nq
  clear HLen
  go_wp2_with fail
  refine (turn_zero base g room q _ (HR.out.on (below_drewN w3 nq))).mono ?_
  rintro e w5 ⟨rfl, hr5, hk5⟩
  have HP := Lib.hid (And.intro hr5 (kept_trans HK.out (kept_trans (kept_below (below_drewN w3 nq) g _) hk5)))
  clear hr5 hk5
  go_wp2_with fail
  go_ret
  exact ⟨rfl, HP.out⟩

/-- The ring in g has become one of xs, in the row that it had, and nothing else has turned. -/
def Cut (w : World) (base g : Nat) (u : Option Nat) (room : Int) (xs : List Int) (w' : World) : Prop := Rg w' base g u room xs ∧ Kept w w' g u
theorem Cut.put {w w' : World} {base g : Nat} {u : Option Nat} {room : Int} {xs : List Int} (h : Cut w base g u room xs w') : Put w base g u room xs w' := ⟨u, h.1, fun _ hi => Or.inl hi, h.2⟩
theorem Cut.trans {w w1 w2 : World} {base g : Nat} {u : Option Nat} {room : Int} {xs : List Int} (hb : Below w.heap.size w w1) (h : Cut w1 base g u room xs w2) : Cut w base g u room xs w2 := ⟨h.1, kept_trans (kept_below hb g u) h.2⟩
theorem drop_any {base g : Nat} {u : Option Nat} {room : Int} {xs : List Int} {w : World} (h : Rg w base g u room xs) (n : Int) :
    Calls Try.prog 25 #[.pointer (some ⟨g, 0, none⟩), .int .i64 n] w fun e w' => e = .returned (.int .i64 (cut n xs.length : Int)) ∧ Cut w base g u room (xs.drop (cut n xs.length)) w' := by
  obtain ⟨v, full, G, hr, rfl, rfl, hG⟩ := h.ex
  have hle := hr.le
  obtain ⟨q, c, rfl, _, _, _, hnc, hc, _⟩ := own_bytes hr.own
  rw [List.length_drop] at hG ⊢
  by_cases hck : c = G
  · obtain rfl : G = 0 := by omega
    obtain rfl : full = [] := List.eq_nil_of_length_eq_zero (by omega)
    subst hck
    refine (drop_zero base g room q w hr n).mono ?_
    rintro e w' ⟨rfl, hr', hk⟩
    have e0 : cut n (([] : List Int).length - 0) = 0 := by have := cut_le n (([] : List Int).length - 0); simpa using this
    rw [e0]
    exact ⟨rfl, ⟨⟨_, _, _, hr', rfl, rfl, Nat.le_refl _⟩, h.all⟩, hk⟩
  · rcases hr.own.2 with ⟨e, _⟩ | ⟨b, cap, cur, e, _⟩
    · simp only [Value.slice.injEq] at e
      omega
    · cases e
      refine (drop_mid base g room b full _ G _ c w hr rfl hck hnc hc n rfl).mono ?_
      rintro e w' ⟨rfl, ⟨v', full', G', hr', hd, hu, hG'⟩, hk⟩
      have hle' := hr'.le
      refine ⟨rfl, ⟨⟨v', full', G', hr', by rw [hd, List.drop_drop], hu, ?_⟩, by rw [List.drop_drop]; exact fun x hx => h.all x (by rw [← List.drop_drop] at hx; exact List.mem_of_mem_drop hx)⟩, hk⟩
      rw [List.drop_drop, ← hd, List.length_drop]
      omega

set_option maxHeartbeats 2000000 in
theorem read_any {base g : Nat} {u : Option Nat} {room : Int} {xs : List Int} {w : World} (h : Rg w base g u room xs) (hbig : xs.length ≤ 140737488355328) (n : Int) (k : Nat) (hk : cut n xs.length = k) :
    Calls Try.prog 23 #[.pointer (some ⟨g, 0, none⟩), .int .i64 n] w fun e w' => ∃ q c, e = .returned (.slice q k c) ∧ Lib.BytesIn w' q k (xs.take k) ∧ (q = none → c = 0) ∧ k ≤ c ∧ c ≤ 9223372036854775807 ∧ Cut w base g u room (xs.drop k) w' ∧ ∀ a, q = some a → a.block ≠ g ∧ u ≠ some a.block := by
  have hkl : k ≤ xs.length := by rw [← hk]; exact cut_le _ _
  have HP := Lib.hid (peek_any h hbig n)
  have HD := Lib.hid (fun (w' : World) (hb : Below w.heap.size w w') => drop_any (h.on hb) n)
  rw [hk] at HP HD
  have hlen : (xs.take k).length = k := by rw [List.length_take]; omega
  have HH := Lib.hid h
  clear h hk
  go_enter Try.func23, Try.ntmps23
  go_wp2_with fail
  refine HP.out.mono ?_
  rintro e w1 ⟨v, rfl, ho, hb1⟩
  rw [hlen] at ho
  obtain ⟨q, c, rfl, _, hi, hq, hnc, hc, hqb⟩ := own_bytes ho
  have HD1 := Lib.hid (HD.out w1 hb1)
  have HI := Lib.hid hi
  have HB1 := Lib.hid hb1
  have HQ := Lib.hid hqb
  have HQ0 := Lib.hid hq
  have HNC := Lib.hid (And.intro hnc hc)
  clear ho hi hb1 HD HP hlen hqb hq hnc hc
  go_wp2_with fail
  refine HD1.out.mono ?_
  rintro e w2 ⟨rfl, hp⟩
  have hpp := Cut.trans HB1.out hp
  have HF := Lib.hid (show ∃ q' c', Value.slice q k c = .slice q' k c' ∧ Lib.BytesIn w2 q' k (xs.take k) ∧ (q' = none → c' = 0) ∧ k ≤ c' ∧ c' ≤ 9223372036854775807 ∧ Cut w base g u room (xs.drop k) w2 ∧ ∀ a, q' = some a → a.block ≠ g ∧ u ≠ some a.block from by
    have hg := HH.out.g_base
    have hap : ∀ a, q = some a → a.block ≠ g ∧ u ≠ some a.block := fun a ea => by
      have hq1 := (HQ.out _ ea).1
      refine ⟨by omega, fun e => ?_⟩
      have := (HH.out.u_base e).2
      omega
    refine ⟨q, c, rfl, fun hn => ?_, HQ0.out, HNC.out.1, HNC.out.2, hpp, hap⟩
    obtain ⟨b, o, e, hcell⟩ := HI.out hn
    obtain ⟨_, hq2⟩ := HQ.out _ e
    refine ⟨b, o, e, fun i hi => ?_⟩
    rw [← hcell i hi]
    exact World.cell?_of_block (w := w1) (hp.2.block b hq2 (hap _ e).1 (hap _ e).2))
  clear hp hpp HI HQ HQ0 HNC HB1 HH HD1
  go_wp2_with fail
  go_ret
  obtain ⟨q', c', e, hh⟩ := HF.out
  exact ⟨q', c', by rw [e]; rfl, hh⟩
set_option maxHeartbeats 2000000 in
theorem clear_any {base g : Nat} {u : Option Nat} {room : Int} {xs : List Int} {w : World} (h : Rg w base g u room xs) :
    Calls Try.prog 26 #[.pointer (some ⟨g, 0, none⟩)] w fun e w' => e = .returned (.int .i64 (xs.length : Int)) ∧ Put w base g u room [] w' := by
  have HL := Lib.hid (len_any h)
  have HD := Lib.hid (show ∀ (w' : World), Below w.heap.size w w' → Calls Try.prog 25 #[.pointer (some ⟨g, 0, none⟩), .int .i64 (xs.length : Int)] w' fun e w2 => e = .returned (.int .i64 (xs.length : Int)) ∧ Put w base g u room [] w2 from fun w' hb => by
    have hd := drop_any (h.on hb) (xs.length : Int)
    rw [cut_nat _ _ (Nat.le_refl _), List.drop_eq_nil_of_le (Nat.le_refl _)] at hd
    exact hd.mono fun e w2 ⟨he, hp⟩ => ⟨he, (Cut.trans hb hp).put⟩)
  clear h
  go_enter Try.func26, Try.ntmps26
  go_wp2_with fail
  refine HL.out.mono ?_
  rintro e w1 ⟨rfl, m, hm⟩
  have HB1 := Lib.hid (show Below w.heap.size w w1 by rw [hm]; exact below_drewN w m)
  clear hm HL
  go_wp2_with fail
  refine (HD.out w1 HB1.out).mono ?_
  rintro e w2 ⟨rfl, hp⟩
  have HP := Lib.hid hp
  clear hp HD
  go_wp2_with fail
  go_ret
  exact ⟨rfl, HP.out⟩
end Go.Proofs.Ytkjljnfhnkaocaa
