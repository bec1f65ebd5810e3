/-
  Contracts: what cargo's Put and Hurry do. Conditions: as each states.
-/
import Derived.Test.YtmblgpejgdlakaaW3
namespace Go.Proofs.Ytmblgpejgdlakaa
open Go.RowKit

theorem quiet_left {P : Program} {f : FuncId} {args : Array Value} {w : World} {n : Nat} {v : Value} (h : Calls P f args (w.drewN n) fun e w' => e = .returned v ∧ w.drewN n = w') :
    Calls P f args (w.drewN n) fun e w'' => e = .returned v ∧ ∃ m, w'' = w.drewN m := h.mono fun _ _ ⟨he, hm⟩ => ⟨he, n, hm.symm⟩
theorem max_putT (last a : Int) : max (near a) last = putT last a := by unfold putT; split <;> omega
variable {w : World} {base g : Nat} {u : U} {S : ByteArray} {A : List Int} {last : Int} {M G : Nat} {ms : List Mk}
/-- Bytes put behind the row: what it comes to, at any world since. -/
theorem row_app {p q : Option Addr} {n c m d : Nat} (h : Raw w base g p n c q m d S ms G last) {pa : Option Addr} {na ca N1 : Nat} {s : ByteArray} (hs : s.size = na) (h0 : 0 < na) (hi : Lib.BytesIn w pa na (nums s)) (hN1 : n + na = N1) (hbig : N1 ≤ 2000000) (W : World) (hb : Below w.heap.size w W) :
    ∃ p' c' w', (∀ ty, (Builtin.append_ #[39, 39] ty #[.slice p n c, .slice pa na ca]).run Try.prog W = .ok (.slice p' N1 c') w') ∧ w'.frozen? ⟨g, 0, none⟩ = false ∧ g < w'.heap.size ∧ (∃ v, w'.cell? ⟨g, 0, none⟩ = some v) ∧
      Chg w base g (Go.Proofs.Ytmblgpejgdlakaa.blk p, Go.Proofs.Ytmblgpejgdlakaa.blk q) (Go.Proofs.Ytmblgpejgdlakaa.blk p', Go.Proofs.Ytmblgpejgdlakaa.blk q) (S ++ s) ms G last (w'.setCell ⟨g, 0, none⟩ (.slice p' N1 c')) := by
  subst hN1
  obtain ⟨i0, hi0, hz0, hz1, hz2⟩ := info_parts info5
  have hW := h.on hb
  have hiW := bytes_on hi hb
  obtain ⟨b, o, rfl, hc⟩ := hiW.at h0
  obtain ⟨p', c', w', r1, r2, r3, r4⟩ := app_row hW.row (Nat.le_trans hW.base (Nat.le_of_lt (blk_lt hW.blk))) (t := 39) Try.underlying39 hi0 hz0 hz1 hz2 rfl (by decide) (a := ⟨b, o, none⟩) (m := na) (d := ca) (news := (nums s).map (Value.int .u8)) (by rw [List.length_map, nums_length, hs, Nat.mul_one]) (by
    intro j v hj
    have hj1 : j < (nums s).length := by have := (List.getElem?_eq_some_iff.mp hj).1; simpa using this
    rw [nums_length] at hj1
    rw [WideShapes.add_plain, hc j (by omega)]
    rw [List.getElem?_map, List.getElem?_eq_getElem (by rw [nums_length]; exact hj1)] at hj
    rw [List.getD_eq_getElem?_getD, List.getElem?_eq_getElem (by rw [nums_length]; exact hj1)]
    exact hj) (by simp [Value.oneCell']) (by unfold maxLen; omega) (by omega)
  rw [← List.map_append, ← append_nums'] at r2
  have hblk : w'.heap[g]? = some (.cells #[.slice p n c, .slice q m d, .int .i64 (G : Int), .int .i64 last] 58 (0, 0)) := by
    refine (r3.block g (blk_lt hW.blk) fun e => ?_).trans hW.blk
    obtain ⟨a, ha, hab⟩ := blk_some e.symm
    obtain ⟨cs, h3⟩ := hW.row.typed a ha
    rw [hab] at h3
    have := two_types hW.blk h3
    simp at this
  have hmks : ORow w' base 68 2 q m d (flatM ms) := hW.mks.keep fun a ha => r3.block _ (hW.mks.lt a ha).2 fun e => by
    obtain ⟨a', ha', hab⟩ := blk_some e.symm
    obtain ⟨cs, h3⟩ := hW.row.typed a' ha'
    obtain ⟨cs', h4⟩ := hW.mks.typed a ha
    rw [hab] at h3
    have := two_types h4 h3
    simp at this
  have hsz := hb.size
  refine ⟨p', c', w', r1, frozen_at hblk, blk_lt hblk, ⟨_, cell_of_row _ _ 0 _ _ _ hblk⟩, (Raw.set0 hblk hmks h.base r2).r, ⟨fun i hi => ?_, fun i hi => Or.inl hi⟩, kept_set (kept_row (kept_below hb g _) r3) 0 _⟩
  obtain ⟨x, hx, rfl⟩ := blk_some hi
  rcases r4 x hx with h5 | h5
  · exact Or.inl h5
  · right; omega
/-- What Put hands back: the tick, and bytes s more. -/
def Puts (w : World) (base g : Nat) (u : U) (S : ByteArray) (ms : List Mk) (G : Nat) (last t : Int) (e : Ending) (w' : World) : Prop := e = .returned (.int .i64 t) ∧ ∃ u', Chg w base g u u' S ms G last w'
theorem chg_last {u1 : U} {w' : World} (hc : Chg w base g u u1 S ms G last w') (t : Int) : Chg w base g u u1 S ms G t (w'.setCell ⟨g, 3, none⟩ (.int .i64 t)) := by
  obtain ⟨p, n, c, q, m, d, hr, rfl⟩ := hc.r
  exact ⟨(hr.set3 t).r, hc.n, kept_set hc.k 3 _⟩
theorem R.field (h : R w base g u S ms G last) : (∀ i, w.frozen? ⟨g, i, none⟩ = false) ∧ (∃ v, w.cell? ⟨g, 0, none⟩ = some v) ∧ (∃ v, w.cell? ⟨g, 1, none⟩ = some v) ∧ w.cell? ⟨g, 2, none⟩ = some (.int .i64 (G : Int)) ∧ w.cell? ⟨g, 3, none⟩ = some (.int .i64 last) := by
  obtain ⟨p, n, c, q, m, d, hr, rfl⟩ := h
  obtain ⟨g0, g1, g2, g3⟩ := hr.cells
  exact ⟨fun i => frozen_at hr.blk, ⟨_, g0⟩, ⟨_, g1⟩, g2, g3⟩
set_option maxHeartbeats 4000000 in
theorem put_none (h : R w base g u S ms G last) (a : Int) (pa : Option Addr) (ca : Nat) :
    Calls Try.prog 26 #[.pointer (some ⟨g, 0, none⟩), .int .i64 a, .slice pa 0 ca] w (Puts w base g u S ms G last (putT last a)) := by
  have g3 := h.field.2.2.2.2
  have HX := max_putT last a
  generalize putT last a = X at *
  have HC := Lib.hid (fun j => (chg_same h).post (below_drewN w j))
  clear h
  go_enter Try.func26, Try.ntmps26
  go_wp2_with fail
  go_quiet ((go_at_call 36; exact quiet_left (cnear_any _ _)))
  go_wp2_with fail
  go_ret
  exact ⟨rfl, _, HC.out nq⟩
set_option maxHeartbeats 4000000 in
theorem put_some (h : R w base g u S ms G last) (hm : ms.length ≤ 1000000) (a : Int) {pa : Option Addr} {na ca : Nat} {s : ByteArray} (hs : s.size = na) (h0 : 0 < na) (hi : Lib.BytesIn w pa na (nums s)) (hbig : G + S.size + na ≤ 1000000) {X : Int} (hX : putT last a = X) :
    Calls Try.prog 26 #[.pointer (some ⟨g, 0, none⟩), .int .i64 a, .slice pa na ca] w (Puts w base g u (S ++ s) (layM ms X (G + S.size) (G + (S ++ s).size)) G X X) := by
  have g3 := h.field.2.2.2.2
  have HX := max_putT last a
  rw [hX] at HX
  have HE := Lib.hid (fun W (hW : Below w.heap.size w W) => end_raw (h.on hW) (by omega))
  have hT : (S ++ s).size = S.size + na := by rw [append_size', hs]
  obtain ⟨p, n, c, q, m, d, hr, rfl⟩ := h
  have hn := hr.sizes.1
  have hnc0 := hr.sizes.2.2.1
  have hc0 := hr.sizes.2.2.2.2.1
  have HA := Lib.hid (fun W hW => row_app (ca := ca) hr hs h0 hi (N1 := n + na) rfl (by omega) W hW)
  have HG := Lib.hid (fun W (hW : Below w.heap.size w W) => (⟨(hr.on hW).cells.1, frozen_at (hr.on hW).blk, blk_lt (hr.on hW).blk⟩ : W.cell? ⟨g, 0, none⟩ = some (.slice p n c) ∧ W.frozen? ⟨g, 0, none⟩ = false ∧ g < W.heap.size))
  have HL := Lib.hid (fun (W : World) (u1 : U) (hR : R W base g u1 (S ++ s) ms G last) => lay_raw hR (by omega) hm X (G + S.size))
  generalize G + (S ++ s).size = E1 at *
  obtain ⟨E, hE⟩ : ∃ E, G + S.size = E := ⟨_, rfl⟩
  rw [hE] at HE HL ⊢
  generalize n + na = N1 at HA
  clear hr hi hX hT hs hn hE
  go_enter Try.func26, Try.ntmps26
  go_wp2_with fail
  go_quiet ((go_at_call 36; exact quiet_left (cnear_any _ _)))
  have HB1 := Lib.hid (below_drewN w nq)
  clear g3
  generalize w.drewN nq = w1 at *
  go_wp2_with fail
  refine (HE.out _ HB1.out).mono ?_
  rintro e w2 ⟨rfl, j, hj⟩
  have hb2 : Below w.heap.size w w2 := seqB HB1.out (by rw [hj]; exact below_drewN _ j)
  obtain ⟨g0, gf0, hgl⟩ := HG.out w2 hb2
  obtain ⟨p', c', w3, hrun, hf, hlt, ⟨vv, hcell⟩, hch⟩ := HA.out w2 hb2
  have HR := Lib.hid hrun
  have HCH := Lib.hid hch
  clear hj hb2 hrun hch HA HG HE HB1
  go_wp2_with (at_builtin; refine Lib.wpList_append_run _ rfl _ _ _ _ rfl (.slice p n c) (.slice pa na ca) rfl rfl _ _ (HR.out _) ?_)
  clear hf hlt hcell g0 gf0 hgl
  generalize w3.setCell ⟨g, 0, none⟩ (.slice p' N1 c') = w4 at *
  refine (HL.out _ _ HCH.out.r).mono ?_
  rintro e w5 ⟨rfl, u', hc5⟩
  obtain ⟨f5, _, _, _, g5⟩ := hc5.r.field
  have f53 := f5 3
  have HC5 := Lib.hid (chg_last (HCH.out.seq hc5) X)
  clear hc5 f5 HCH HL
  go_wp2_with fail
  go_ret
  exact ⟨rfl, _, HC5.out⟩
end Go.Proofs.Ytmblgpejgdlakaa
