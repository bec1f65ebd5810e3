/-
  Contracts: Drop; what a row of proxies is behind a change of one's toxics. Conditions: as each states.
-/
import Derived.Test.YtmghkcjljnlocaaGreatDoorPM
namespace Go.Proofs.YtmghkcjljnlocaaGreatDoor
open Go.RowKit
section
variable {w w1 : World} {base n c b o K : Nat} {zs : List RP}
theorem dis_at (h : Dis zs) {i j : Nat} (hi : i < zs.length) (hj : j < zs.length) (hne : i ≠ j) : ∀ a a', zs[i].q = some a → zs[j].q = some a' → a.block ≠ a'.block := by
  have := List.pairwise_iff_getElem.1 h
  rcases Nat.lt_or_ge i j with g | g
  · exact this i j hi hj g
  · exact fun a a' e e' => (this j i hj hi (by omega) a' a e' e).symm
theorem dis_set (h : Dis zs) (hK : K < zs.length) {z : RP} (hq : ∀ a', z.q = some a' → (∃ a, zs[K].q = some a ∧ a.block = a'.block) ∨ ∀ y ∈ zs, ∀ a, y.q = some a → a.block ≠ a'.block) : Dis (zs.set K z) := by
  unfold Dis
  rw [List.pairwise_iff_getElem]
  intro i j hi hj hij a a' e e'
  rw [List.length_set] at hi hj
  rw [List.getElem_set] at e e'
  split at e
  · rename_i h1
    subst h1
    rw [if_neg (by omega)] at e'
    rcases hq a e with ⟨x, hx, hxe⟩ | hx
    · exact fun e2 => dis_at h hi hj (by omega) x a' hx e' (hxe.trans e2)
    · exact (hx _ (List.getElem_mem hj) a' e').symm
  · split at e'
    · rename_i h1 h2
      subst h2
      rcases hq a' e' with ⟨x, hx, hxe⟩ | hx
      · exact fun e2 => dis_at h hi hj (by omega) a x e hx (e2.trans hxe.symm)
      · exact hx _ (List.getElem_mem hi) a e
    · exact dis_at h hi hj (by omega) a a' e e'
/-- One proxy's toxics are changed, and told to the row. -/
theorem PRow.retox (h : PRow w base (some ⟨b, o, none⟩) n c zs) (hd : Dis zs) (hK : K < n) (hg : w.grownBy w1 ((zs.getD K noRP).q.map (·.block))) {q' : Option Addr} {m' d' : Nat} {ts' : List Tox} (ht : TRow w1 base q' m' d' ts') :
    PRow (w1.setCell ⟨b, o + (K * 4 + 3), none⟩ (.slice q' m' d')) base (some ⟨b, o, none⟩) n c (zs.set K ⟨{ (zs.getD K noRP).x with ts := ts' }, q', m', d'⟩) := by
  have hl := h.len
  have hKl : K < zs.length := by omega
  obtain ⟨b', o', cur, e', _, hh, _⟩ := h.row.som _ rfl
  cases e'
  rw [getD_at zs noRP hKl] at hg ⊢
  have htK := h.tox _ (List.getElem_mem hKl)
  have hbn : ∀ a, zs[K].q = some a → a.block ≠ b := fun a ha => orow_ne htK (by decide) hh a ha
  have hb1 : w1.heap[b]? = some (.cells cur TP (0, 0)) := (hg.block b (gc.blk_lt hh) fun e => by
    cases hq : zs[K].q with
    | none => rw [hq] at e; cases e
    | some a => rw [hq] at e; exact hbn a hq (by have e : some b = some a.block := e; injection e with e; exact e.symm)).trans hh
  have hrow : gc.ORow w1 base TP 4 (some ⟨b, o, none⟩) n c (flatP zs) := h.row.keep fun a ha => by cases ha; exact hb1.trans hh.symm
  refine ⟨?_, fun y hy => ?_⟩
  · unfold flatP
    rw [flat_set1 pc_len zs K hKl 3 (by decide) _ (.slice q' m' d') rfl]
    exact orow_one hrow _
  · obtain ⟨i, hi, rfl⟩ := List.getElem_of_mem hy
    rw [List.length_set] at hi
    rw [List.getElem_set]
    split
    · exact gc.ORow.set ht hb1 (by decide) _ _
    · rename_i hne
      have hti := h.tox _ (List.getElem_mem hi)
      refine gc.ORow.set (gc.ORow.keep hti fun a ha => hg.block _ (gc.ORow.lt hti a ha).2 fun e => ?_) hb1 (by decide) _ _
      cases hq : zs[K].q with
      | none => rw [hq] at e; cases e
      | some x =>
        rw [hq] at e
        have e : some a.block = some x.block := e
        injection e with e
        exact dis_at hd hi hKl (Ne.symm hne) a x ha hq e
theorem retox_below (h : PRow w base (some ⟨b, o, none⟩) n c zs) (hK : K < n) (hbase : base ≤ w.heap.size) (hg : w.grownBy w1 ((zs.getD K noRP).q.map (·.block))) (j : Nat) (v : Value) : Below base w (w1.setCell ⟨b, j, none⟩ v) := by
  have hl := h.len
  have hKl : K < zs.length := by omega
  rw [getD_at zs noRP hKl] at hg
  have htK := h.tox _ (List.getElem_mem hKl)
  have hb0 := (h.row.lt _ rfl).1
  have h1 : Below base w w1 := ⟨hg.os, hg.tape, hg.output, hg.size, fun k hk => hg.block k (Nat.lt_of_lt_of_le hk hbase) fun e => by
    cases hq : zs[K].q with
    | none => rw [hq] at e; cases e
    | some x =>
      rw [hq] at e
      have e : some k = some x.block := e
      injection e with e
      have := (gc.ORow.lt htK x hq).1
      omega⟩
  exact h1.setCell (p := ⟨b, j, none⟩) hb0 _
end
theorem drop_map (zs : List RP) (k : Nat) : (zs.take k ++ zs.drop (k + 1)).map (·.x) = (zs.map (·.x)).take k ++ (zs.map (·.x)).drop (k + 1) := by
  rw [List.map_append, List.map_take, List.map_drop]
set_option maxRecDepth 100000 in
set_option maxHeartbeats 8000000 in
theorem drop_any (p : Option Addr) (n d : Nat) (l : List Prx) (o : NOp) (w : World) (hk1 : o.kind = 1) (hl : l.length = n) (hn : n ≤ 1000000) (hz : Lean14 l) (hi : PrxIn w p n l) :
    Calls Tryz.prog 25 #[.slice p n d, .string o.s] w (OutDo (Nm.doP l o).1 (Nm.doP l o).2 w) := by
  by_cases hr : Nm.Right l
  · have h8 : n ≤ 8 := by rw [← hl]; exact hr.few
    have hR := reach_yes p n d l o.s w hl hz hi hr
    rw [doP_yes hr]
    unfold Nm.doR
    rw [if_neg (by omega), if_neg (by omega)]
    dsimp only
    rw [if_pos hk1, hl]
    by_cases hf : Nm.fP l o.s < n
    · rw [if_neg (Decidable.not_not.2 hf)]
      rw [if_pos hf, if_pos hf] at hR
      have HR := Lib.hid hR
      generalize Nm.fP l o.s = K at *
      have hiw : IntKind.i64.wrap ((K : Int) + 1) = (K : Int) + 1 := wrapN_id (by omega) (by omega)
      clear hR hi hz hr hl
      go_enter Tryz.func25, Tryz.ntmps25
      go_wp2_with fail
      refine HR.out.mono ?_
      rintro e w1 ⟨q, c, rfl, ⟨zs, rfl, h1, h2⟩, hb⟩
      obtain ⟨b1, o1, cur1, rfl, hb1, hh1, _⟩ := h1.blk (by omega)
      have hlz := h1.len
      have HD := Lib.hid (delP_any h1.row hf (flatP_one zs))
      have HB := Lib.hid hb
      have HF := Lib.hid (show ∀ w', w1.grownBy w' (some b1) → gc.ORow w' w.heap.size TP 4 (some ⟨b1, o1, none⟩) (n - 1) c ((flatP zs).take (K * 4) ++ (flatP zs).drop ((K + 1) * 4)) → POwn w' w.heap.size (some ⟨b1, o1, none⟩) (n - 1) c ((zs.map (·.x)).take K ++ (zs.map (·.x)).drop (K + 1)) ∧ Below w.heap.size w w' from fun w' hg hrow => by
        refine ⟨⟨zs.take K ++ zs.drop (K + 1), drop_map zs K, ⟨?_, fun z hz => ?_⟩, ?_⟩, hb.trans ⟨hg.os, hg.tape, hg.output, hg.size, fun k hk => hg.block k (Nat.lt_of_lt_of_le hk hb.size) fun e => by injection e with e; omega⟩⟩
        · unfold flatP at hrow ⊢
          rw [List.flatMap_append, ← flat_take pc_len, ← flat_drop pc_len]
          exact hrow
        · have hzm : z ∈ zs := by
            rcases List.mem_append.1 hz with h | h
            · exact List.mem_of_mem_take h
            · exact List.mem_of_mem_drop h
          have ht := h1.tox z hzm
          exact gc.ORow.keep ht fun a ha => hg.block _ (gc.ORow.lt ht a ha).2 fun e => orow_ne ht (by decide) hh1 a ha (by injection e)
        · refine List.Pairwise.sublist ?_ h2
          have := List.Sublist.append (List.Sublist.refl (zs.take K)) (List.drop_sublist_drop_left zs (Nat.le_succ K))
          rwa [List.take_append_drop] at this)
      clear h1 h2 hb hb1 hh1 HR hlz
      go_wp2_with fail
      refine HD.out.mono ?_
      rintro e w2 ⟨rfl, hrow, hg⟩
      obtain ⟨hp, hb⟩ := HF.out _ hg hrow
      have HP := Lib.hid hp
      have HB2 := Lib.hid hb
      clear hp hb hrow hg HD HF
      go_wp2_with fail
      go_ret2
      exact out_same HP.out HB2.out
    · rw [if_pos hf]
      rw [if_neg hf, if_neg hf] at hR
      have HR := Lib.hid hR
      clear hR hi hz hr hl
      go_enter Tryz.func25, Tryz.ntmps25
      go_wp2_with fail
      refine HR.out.mono ?_
      rintro e w1 ⟨q, c, rfl, hp, hb⟩
      have HP := Lib.hid hp
      have HB := Lib.hid hb
      clear hp hb HR
      go_wp2_with fail
      go_ret2
      exact out_same HP.out HB.out
  · have hR := reach_no p n d l o.s w hl hn hz hi hr
    have HR := Lib.hid hR
    rw [doP_no hr, if_neg (by omega)]
    clear hR hi hz hr hl
    go_enter Tryz.func25, Tryz.ntmps25
    go_wp2_with fail
    refine HR.out.mono ?_
    rintro e w1 ⟨rfl, hb⟩
    have HB := Lib.hid hb
    clear hb HR
    go_wp2_with fail
    go_ret2
    exact out_same (pown_nil _ _) HB.out
end Go.Proofs.YtmghkcjljnlocaaGreatDoor
