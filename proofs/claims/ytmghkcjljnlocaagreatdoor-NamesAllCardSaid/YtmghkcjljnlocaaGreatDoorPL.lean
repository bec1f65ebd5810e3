/-
  Contract: Add. Conditions: the names' lengths.
-/
import Derived.Test.YtmghkcjljnlocaaGreatDoorPK
namespace Go.Proofs.YtmghkcjljnlocaaGreatDoor
open Go.RowKit
namespace Nm
theorem put_perm (l : List Prx) (p : Prx) : (putL l p).Perm (l ++ [p]) := by
  induction l with
  | nil => exact List.Perm.refl _
  | cons q r ih =>
    unfold putL
    split
    · refine (List.Perm.trans ?_ (List.perm_append_comm (l₁ := [p]) (l₂ := q :: r)))
      exact List.Perm.refl _
    · exact List.Perm.cons q ih
theorem ord_unique : ∀ {a b : List Prx}, a.Perm b → Ord a → Ord b → a = b
  | [], b, h, _, _ => (List.Perm.eq_nil (h.symm)).symm
  | x :: a, [], h, _, _ => by have := h.length_eq; simp at this
  | x :: a, y :: b, h, ha, hb => by
    obtain ⟨ha1, ha2⟩ := List.pairwise_cons.1 ha
    obtain ⟨hb1, hb2⟩ := List.pairwise_cons.1 hb
    have e : x = y := by
      rcases List.mem_cons.1 (h.mem_iff.1 (List.mem_cons_self ..) : x ∈ y :: b) with e | hx
      · exact e
      · rcases List.mem_cons.1 (h.mem_iff.2 (List.mem_cons_self ..) : y ∈ x :: a) with e | hy
        · exact e.symm
        · have h1 := ha1 y hy
          rw [lt_asymm (hb1 x hx)] at h1
          cases h1
    subst e
    rw [ord_unique (List.Perm.cons_inv h) ha2 hb2]
end Nm
theorem srt_put {zs zs' : List RP} {l : List Prx} {z : RP} (hm : zs.map (·.x) = l) (hp : zs'.Perm (zs ++ [z])) (hs : Srt zs') (ho : Nm.Ord l) (hn : ∀ q ∈ l, q.s ≠ z.x.s) : zs'.map (·.x) = Nm.putL l z.x := by
  have hq : (zs'.map (·.x)).Perm (l ++ [z.x]) := by
    have := hp.map (·.x)
    rwa [List.map_append, hm] at this
  have hne : (l ++ [z.x]).Pairwise fun a b => a.s ≠ b.s := by
    rw [List.pairwise_append]
    refine ⟨List.Pairwise.imp (fun h => Nm.lt_ne h) ho, List.pairwise_singleton _ _, fun a ha b hb => ?_⟩
    rw [List.mem_singleton.1 hb]
    exact hn a ha
  have hne' : (zs'.map (·.x)).Pairwise fun a b => a.s ≠ b.s := (hq.pairwise_iff (fun h => Ne.symm h)).2 hne
  refine Nm.ord_unique (hq.trans (Nm.put_perm l z.x).symm) ?_ (Nm.put_ord ho hn)
  unfold Nm.Ord
  unfold Srt at hs
  rw [List.pairwise_map] at hne' ⊢
  refine List.Pairwise.imp₂ (fun a b h1 h2 => ?_) hs hne'
  rcases Nm.lt_or h2 with g | g
  · exact g
  · rw [h1] at g
    cases g
theorem POwn.low {w : World} {base base' n c : Nat} {p : Option Addr} {l : List Prx} (h : POwn w base p n c l) (hb : base' ≤ base) : POwn w base' p n c l := by
  obtain ⟨zs, e1, e2, e3⟩ := h
  exact ⟨zs, e1, ⟨orow_low e2.row hb, fun z hz => orow_low (e2.tox z hz) hb⟩, e3⟩
/-- What a call tells: a list of its own, and an error. -/
def OutDo (l' : List Prx) (er : Int) (w : World) (e : Ending) (w' : World) : Prop := ∃ q n c, e = .returned (.tuple #[.slice q n c, .int .i64 er]) ∧ POwn w' w.heap.size q n c l' ∧ Below w.heap.size w w'
theorem out_same {l : List Prx} {er : Int} {w w' : World} {q : Option Addr} {n c : Nat} (h : POwn w' w.heap.size q n c l) (hb : Below w.heap.size w w') : OutDo l er w (.returned (.tuple #[.slice q n c, .int .i64 er])) w' := ⟨q, n, c, rfl, h, hb⟩
theorem doP_no {l : List Prx} {o : NOp} (h : ¬ Nm.Right l) : Nm.doP l o = if o.kind = 6 then ([], 0) else ([], 1) := by
  unfold Nm.doP
  rw [if_neg h]
theorem doP_yes {l : List Prx} {o : NOp} (h : Nm.Right l) : Nm.doP l o = Nm.doR l o := by
  unfold Nm.doP
  rw [if_pos h]
set_option maxRecDepth 100000 in
set_option maxHeartbeats 8000000 in
theorem add_any (p : Option Addr) (n d : Nat) (l : List Prx) (o : NOp) (w : World) (hk0 : o.kind = 0) (hs : o.s.size ≤ maxLen) (hl : l.length = n) (hn : n ≤ 1000000) (hz : Lean14 l) (hi : PrxIn w p n l) :
    Calls Tryz.prog 24 #[.slice p n d, .string o.s, .int .i64 o.n] w (OutDo (Nm.doP l o).1 (Nm.doP l o).2 w) := by
  have hR := right_any p n d l w hl hn hz hi
  by_cases hr : Nm.Right l
  · rw [right_yes hr] at hR
    have HR := Lib.hid hR
    have h8 : n ≤ 8 := by rw [← hl]; exact hr.few
    have HO := Lib.hid (fun W (hW : Below w.heap.size w W) => ownlist_any p n d l W hl (by omega) (lean_of hz) (prxs_on hi hW))
    have HNM := Lib.hid (fun W => gx.name_any o.s W hs)
    have HWH := Lib.hid (fun W (hW : Below w.heap.size w W) => whereP_any p n d l o.s W hl hn (prxs_on hi hW))
    have HML := Lib.hid (fun W => maylet_any o.n W)
    rw [doP_yes hr]
    unfold Nm.doR
    rw [if_pos hk0]
    obtain ⟨X, hX⟩ : ∃ X, Nm.addL l o = X := ⟨_, rfl⟩
    have HX := Lib.hid hX
    rw [hX]
    have HRT := Lib.hid hr
    have HL := Lib.hid hl
    unfold Nm.addL at HX
    rw [hl] at HX
    clear hR hi hz hl hr hX hk0
    obtain ⟨oK, oN, oS, oX, oOn, oT⟩ := o
    simp only at HNM HWH HML HX ⊢
    go_enter Tryz.func24, Tryz.ntmps24
    go_wp2_with fail
    refine HR.out.mono ?_
    rintro e w1 ⟨rfl, hb⟩
    have HB := Lib.hid hb
    clear hb HR
    go_wp2_with fail
    refine (HO.out _ HB.out).mono ?_
    rintro e w2 ⟨q, c, rfl, ho, hb⟩
    have HB2 := Lib.hid (seqB HB.out hb)
    have HP := Lib.hid (ho.low HB.out.size)
    clear ho hb HO HB
    go_wp2_with fail
    refine (HNM.out _).mono ?_
    rintro e w3 ⟨rfl, hb⟩
    have HB3 := Lib.hid (seqB HB2.out hb)
    have HP3 := Lib.hid (HP.out.on hb)
    clear hb HP HB2 HNM
    cases hB : gx.nameB oS with
    | false =>
      have hx := HX.out
      rw [if_pos hB] at hx
      subst hx
      clear HX HRT
      go_wp2_with fail
      go_ret2
      exact out_same HP3.out HB3.out
    | true =>
      have hx := HX.out
      rw [if_neg (by rw [hB]; decide)] at hx
      clear HX hB
      go_wp2_with fail
      refine (HWH.out _ HB3.out).mono ?_
      rintro e w4 ⟨rfl, hb⟩
      have HB4 := Lib.hid (seqB HB3.out hb)
      have HP4 := Lib.hid (HP3.out.on hb)
      clear hb HP3 HB3 HWH
      by_cases hf : Nm.fP l oS < n
      · rw [if_pos hf] at hx
        subst hx
        have e1 : orNone (Nm.fP l oS) n = (Nm.fP l oS : Int) := if_pos hf
        rw [e1]
        have d1 : decide ((0 : Int) ≤ (Nm.fP l oS : Int)) = true := decide_eq_true (by omega)
        have d2 : (0 : Int) ≤ (Nm.fP l oS : Int) := by omega
        generalize Nm.fP l oS = K at *
        clear hf e1 HRT
        go_wp2_with fail
        go_ret2
        exact out_same HP4.out HB4.out
      · rw [if_neg hf] at hx
        have e1 : orNone (Nm.fP l oS) n = -1 := if_neg hf
        rw [e1]
        have HNO := Lib.hid (show ∀ q ∈ l, q.s ≠ oS from fun q hq e => hf (by rw [← HL.out]; exact Nm.fnd_lt.2 ⟨q, hq, e⟩))
        clear e1 hf
        go_wp2_with fail
        refine (HML.out _).mono ?_
        rintro e w4' ⟨rfl, rfl⟩
        by_cases h1 : oN < 1 ∨ 16 < oN
        · rw [if_pos h1] at hx
          subst hx
          rw [show decide (1 ≤ oN ∧ oN ≤ 16) = false from decide_eq_false (by omega)]
          clear h1 HRT
          go_wp2_with fail
          go_ret2
          exact out_same HP4.out HB4.out
        · rw [if_neg h1] at hx
          rw [show decide (1 ≤ oN ∧ oN ≤ 16) = true from decide_eq_true (by omega)]
          clear h1 HML
          by_cases h9 : 8 ≤ n
          · rw [if_pos h9] at hx
            subst hx
            have d1 : decide ((8 : Int) ≤ (n : Int)) = true := decide_eq_true (by omega)
            clear h9 HRT
            go_wp2_with fail
            go_ret2
            exact out_same HP4.out HB4.out
          · rw [if_neg h9] at hx
            subst hx
            have d1 : decide ((8 : Int) ≤ (n : Int)) = false := decide_eq_false (by omega)
            obtain ⟨zs, hz1, hz2, hdis⟩ := HP4.out
            have hs4 := HB4.out.size
            have hal : Below w4.heap.size w4 (w4.alloc (.cells #[.string oS, .bool true, .int .i64 oN, .slice none 0 0] TP)) := (Below.refl _ _).alloc (Nat.le_refl _) _
            have hnew := heap_alloc_new w4 (.cells #[.string oS, .bool true, .int .i64 oN, .slice none 0 0] TP)
            obtain ⟨q3, c3, w5, r1, r2, r3⟩ := PRow.app (hz2.on hal) (Nat.le_trans hs4 hal.size) (by omega) (a := ⟨w4.heap.size, 0, none⟩) (d := 1) ⟨⟨oS, true, oN, []⟩, none, 0, 0⟩ (gc.orow_nil _ _ _ _) (fun j u hj => by
              rw [WideShapes.add_plain]
              simp only [World.cell?, hnew]
              rw [Nat.zero_add]
              simpa [RP.cells] using hj)
            obtain ⟨b5, o5, cur5, rfl, _⟩ := r2.blk (by omega)
            have HR := Lib.hid r1
            have HB5 := Lib.hid ((HB4.out.trans (hal.mono hs4)).trans r3)
            have HS := Lib.hid (sort_any r2 HB5.out.size (by omega))
            have HZ1 := Lib.hid hz1
            have HDS := Lib.hid (dis_app (z := ⟨⟨oS, true, oN, []⟩, none, 0, 0⟩) hdis fun y hy a a' e e' => by cases e')
            clear r1 r2 r3 hz1 hz2 hdis hal hnew HP4 HB4 h9
            go_wp2_with (at_builtin; refine Lib.wpList_append_run _ rfl _ _ _ _ rfl (.slice q n c) (.slice (some ⟨w4.heap.size, 0, none⟩) 1 1) rfl rfl _ _ (HR.out _) ?_)
            refine HS.out.mono ?_
            rintro e w6 ⟨rfl, zs', hp, hsrt, hrow, hb⟩
            have HB6 := Lib.hid (HB5.out.trans hb)
            have HP6 := Lib.hid (show POwn w6 w.heap.size (some ⟨b5, o5, none⟩) (n + 1) c3 (Nm.putL l ⟨oS, true, oN, []⟩) from ⟨zs', srt_put HZ1.out hp hsrt HRT.out.ord HNO.out, hrow, dis_perm HDS.out hp⟩)
            clear hp hsrt hrow hb HS HR HZ1 HDS HRT HNO HB5
            go_wp2_with fail
            go_ret2
            exact out_same HP6.out HB6.out
  · rw [right_no hr] at hR
    have HR := Lib.hid hR
    rw [doP_no hr, if_neg (by omega)]
    clear hR hi hz hr hl
    go_enter Tryz.func24, Tryz.ntmps24
    go_wp2_with fail
    refine HR.out.mono ?_
    rintro e w1 ⟨rfl, hb⟩
    have HB := Lib.hid hb
    clear hb HR
    go_wp2_with fail
    go_ret2
    exact out_same (pown_nil _ _) HB.out
end Go.Proofs.YtmghkcjljnlocaaGreatDoor
