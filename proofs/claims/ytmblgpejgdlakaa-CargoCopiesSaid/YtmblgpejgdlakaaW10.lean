/-
  Contract: what cargo's each does with List's closure; List. Conditions: as each states.
-/
import Derived.Test.YtmblgpejgdlakaaW9
namespace Go.Proofs.Ytmblgpejgdlakaa
open Go.RowKit

theorem orow_bytes {w : World} {base : Nat} {p : Option Addr} {n c : Nat} {xs : List Int} (h : ORow w base 5 1 p n c (xs.map (Value.int .u8))) : Lib.BytesIn w p n xs := fun hn => by
  obtain ⟨b, o, e, hc⟩ := h.at hn
  have hl := h.len
  rw [List.length_map] at hl
  refine ⟨b, o, e, fun i hi => hc i _ ?_⟩
  rw [List.getElem?_map, List.getD_eq_getElem?_getD, List.getElem?_eq_getElem (by omega)]
  rfl
theorem orow_part {w : World} {base : Nat} {p : Option Addr} {n c : Nat} {S : ByteArray} (h : ORow w base 5 1 p n c ((nums S).map (Value.int .u8))) (F T : Nat) (hF : F ≤ T) (hT : T ≤ n) : Lib.BytesIn w (if c = F then p else p.map (·.add (F * 1))) (T - F) (nums (S.extract F T)) := by
  have h1 := (h.drop F (by omega)).take (T - F) (by omega)
  rw [Nat.mul_one, Nat.mul_one, ← List.map_drop, ← List.map_take, ← ext_nums] at h1
  rw [Nat.mul_one]
  exact orow_bytes h1
variable {w : World} {base g : Nat} {u : U} {S : ByteArray} {A : List Int} {last : Int} {M G : Nat} {ms : List Mk}
/-- All pieces are told. -/
def Each (w0 : World) (bx k : Nat) (ps : List Pc) (e : Ending) (w' : World) : Prop := e = .returned (.tuple #[]) ∧ ∃ q d, Lst2 w0 w' bx q k d ps
set_option maxRecDepth 100000 in
set_option maxHeartbeats 4000000 in
theorem each_raw {p q : Option Addr} {n c m d : Nat} (h : Raw w base g p n c q m d S ms G last) (hl : Lg G S ms A last M) (hm : m ≤ 1000000) (w1 : World) (h1 : Lst2 w w1 w.heap.size none 0 0 []) :
    Calls Try.prog 32 #[.pointer (some ⟨g, 0, none⟩), .func (.func 33) #[] #[.pointer (some ⟨w.heap.size, 0, none⟩)]] w1 (Each w w.heap.size m (pcsM G S G ms)) := by
  have hml := h.sizes.2.1
  have hn := h.sizes.1
  have hnc := h.sizes.2.2.1
  have hcx := h.sizes.2.2.2.2.1
  have hmd := h.sizes.2.2.2.1
  have hdx := h.sizes.2.2.2.2.2
  have hSM : G + S.size ≤ 1000000 := Nat.le_trans hl.top hl.fit
  have HPL := Lib.hid (show (pcsM G S G ms).take m = pcsM G S G ms by rw [hml, ← pcs_len G S G ms, List.take_length])
  have HG := Lib.hid (fun (W : World) (hW : Below w.heap.size w W) => (⟨(h.on hW).cells.1, (h.on hW).cells.2.1, (h.on hW).cells.2.2.1, blk_lt (h.on hW).blk⟩ : W.cell? ⟨g, 0, none⟩ = some (.slice p n c) ∧ W.cell? ⟨g, 1, none⟩ = some (.slice q m d) ∧ W.cell? ⟨g, 2, none⟩ = some (.int .i64 (G : Int)) ∧ g < W.heap.size))
  have HM := Lib.hid (fun (W : World) (hW : Below w.heap.size w W) k hk => (h.on hW).mark (k := k) hk)
  have HB := Lib.hid (fun (W : World) (hW : Below w.heap.size w W) F T hF hT => orow_part (h.on hW).row F T hF hT)
  have HS := Lib.hid (fun k (hk : k < m) => (⟨pcs_step (G := G) (S := S) hl.ends k (by omega), (end_step hl.ends k (by omega)).1, (end_step hl.ends k (by omega)).2, (end_bounds hl.ends k (by omega)).1, (end_bounds hl.ends (k + 1) (by omega)).2⟩ :
    (pcsM G S G ms).take (k + 1) = (pcsM G S G ms).take k ++ [((ms.getD k noMk).1, S.extract (endAt G ms k - G) ((ms.getD k noMk).2 - G))] ∧ endAt G ms (k + 1) = (ms.getD k noMk).2 ∧ endAt G ms k < (ms.getD k noMk).2 ∧ G ≤ endAt G ms k ∧ endAt G ms (k + 1) ≤ G + S.size))
  obtain ⟨_, g1, _, _⟩ := HG.out w1 h1.below
  have H1 := Lib.hid h1
  have HN := Lib.hid hn
  clear h hl hml h1 hn
  go_enter Try.func32, Try.ntmps32
  go_wp2_with fail
  go_loopw [4, 13] (fun f i wr => ∃ (k F : Nat), k ≤ m ∧ i = .int .i64 k ∧ f = .int .i64 (F : Int) ∧ Hid (F = endAt G ms k - G) ∧ Hid (∃ q d, Lst2 w wr w.heap.size q k d ((pcsM G S G ms).take k))) (fun _ i _ => m - (intOf i).toNat)
  case atStart => exact ⟨0, 0, by omega, rfl, rfl, Lib.hid (by unfold endAt; rw [if_pos rfl, Nat.sub_self]), none, 0, H1.out⟩
  case round =>
    clear g1 H1
    obtain ⟨k, F, hk, rfl, rfl, HF, HL⟩ := hrel
    by_cases hlt : k < m
    · obtain ⟨q0, d0, hls⟩ := HL.out
      obtain ⟨s1, s2, s3, s4, s5⟩ := HS.out k hlt
      obtain ⟨b, o, hq, c0, c1⟩ := HM.out wr hls.below k hlt
      generalize (ms.getD k noMk).1 = t at s1 s2 s3 s4 s5 c0 c1
      generalize (ms.getD k noMk).2 = y at s1 s2 s3 s4 s5 c0 c1
      have hF := HF.out
      obtain ⟨T, hT⟩ : ∃ T, y - G = T := ⟨_, rfl⟩
      have hFT : F ≤ T := by omega
      have hTn : T ≤ n := by have := HN.out; omega
      have hyT : (y : Int) - (G : Int) = (T : Int) := by omega
      have hsl := row_part p n c F T hFT (by omega)
      have HBY := Lib.hid (fun W hW => HB.out W hW F T hFT hTn)
      rw [hT, ← hF] at s1
      have HS1 := Lib.hid s1
      have HF2 := Lib.hid (show T = endAt G ms (k + 1) - G by omega)
      have HSZ := Lib.hid (show (S.extract F T).size = T - F by rw [ByteArray.size_extract]; have := HN.out; omega)
      generalize (if c = F then p else p.map (·.add (F * 1))) = p2 at hsl HBY
      generalize T - F = n2 at hsl HBY HSZ
      have HLS := Lib.hid hls
      obtain ⟨g0, _, g2, hgl⟩ := HG.out wr hls.below
      have hbl := World.block_lt_of_cell? wr _ c0
      subst hq
      clear hls s1 s2 s3 s4 s5 hF hT HF HL
      have hal : Below wr.heap.size wr (wr.alloc (.cells #[.int .i64 t, .int .i64 (y : Int)] 68)) := (Below.refl _ _).alloc (Nat.le_refl _) _
      have hnew := heap_alloc_new wr (.cells #[.int .i64 t, .int .i64 (y : Int)] 68)
      have HL5 := Lib.hid (HLS.out.on hal)
      go_wp2_with fail
      have x0 := cell_of_row _ wr.heap.size 0 _ _ _ hnew
      have x1 := cell_of_row _ wr.heap.size 1 _ _ _ hnew
      clear hal hnew HLS g0 g2 hgl c0 c1 hbl
      obtain ⟨g0, _, g2, hgl⟩ := HG.out _ HL5.out.below
      generalize wr.alloc (.cells #[.int .i64 t, .int .i64 (y : Int)] 68) = w5 at *
      generalize wr.heap.size = mb at *
      replace x0 : w5.cell? ⟨mb, 0, none⟩ = some (.int .i64 t) := x0
      replace x1 : w5.cell? ⟨mb, 1, none⟩ = some (.int .i64 (y : Int)) := x1
      go_quiet (fail)
      have HL6 := Lib.hid (HL5.out.on (below_drewN w5 nq))
      replace x0 : (w5.drewN nq).cell? ⟨mb, 0, none⟩ = some (.int .i64 t) := x0
      replace g0 : (w5.drewN nq).cell? ⟨g, 0, none⟩ = some (.slice p n c) := g0
      clear HL5 x1 g2 hgl hyT
      generalize w5.drewN nq = w6 at *
      have HT := Lib.hid (told_any w w6.drew w.heap.size q0 k d0 _ (HL6.out.on (Below.refl _ w6).drew) (by omega) t p2 n2 (c - F) (S.extract F T) (HBY.out _ (HL6.out.on (Below.refl _ w6).drew).below) HSZ.out)
      rw [← HS1.out] at HT
      clear HL6 HS1 HBY HSZ
      go_wp2_with fail
      go_region_law
        (go_simp; go_at_call 33; refine Calls.mono HT.out ?_; rintro e w7 ⟨rfl, q7, d7, hl7⟩; (have HL7 := Lib.hid hl7); clear hl7)
      all_goals go_wp2_with fail
      all_goals go_roundw
      all_goals first
        | exact ⟨k + 1, T, by omega, by go_num, rfl, HF2, Lib.hid ⟨q7, d7, HL7.out⟩⟩
        | (simp [intOf]; omega)
    · obtain rfl : k = m := by omega
      have HL' := Lib.hid (show ∃ q d, Lst2 w wr w.heap.size q k d (pcsM G S G ms) from by
        have := HL.out
        rw [HPL.out] at this
        exact this)
      clear hlt HL HF
      go_wp2_with fail
      go_end0
      exact ⟨rfl, HL'.out⟩
theorem ends_count : ∀ {l : List Mk} {f e : Nat}, EndsM f l e → f + l.length ≤ e := by
  intro l
  induction l with
  | nil => intro f e he; exact Nat.le_of_eq he
  | cons x r ih => intro f e he; have := ih he.2; have := he.1; simp only [List.length_cons]; omega
set_option maxHeartbeats 2000000 in
theorem list_al (h : Al w base g u S A last M) : Calls Try.prog 20 #[.pointer (some ⟨g, 0, none⟩)] w (OutP 45 (runsK S A S.size) w) := by
  obtain ⟨ms, G, ⟨p, n, c, q, m, d, hr, _⟩, hl⟩ := h
  have hSM : G + S.size ≤ 1000000 := Nat.le_trans hl.top hl.fit
  have hm := hr.sizes.2.1
  have hmlen : m ≤ 1000000 := by have := ends_count hl.ends; omega
  have hP := pcs_runs hl.ends hl.rise hl.tks hl.inv.up
  have hpl := pcs_len G S G ms
  rw [hP] at hpl
  have hal : Below w.heap.size w (w.alloc (.cells #[.slice none 0 0] 42)) := (Below.refl _ _).alloc (Nat.le_refl _) _
  have HE := Lib.hid (each_raw hr hl hmlen _ ⟨heap_alloc_new w (.cells #[.slice none 0 0] 42), World.ownsRow_nil _ _ _ _, hal⟩)
  rw [hP] at HE
  have HLN := Lib.hid (show m = (runsK S A S.size).length by rw [hpl, hm])
  clear hr hl hm hP hpl hal
  go_enter Try.func20, Try.ntmps20
  go_wp2_with fail
  refine HE.out.mono ?_
  rintro e w' ⟨rfl, q', d', hls⟩
  have k0 : w'.cell? ⟨w.heap.size, 0, none⟩ = some (.slice q' m d') := cell_of_row _ _ 0 _ _ _ hls.box
  have HL := Lib.hid hls
  clear hls HE
  go_wp2_with fail
  go_ret
  have h := HL.out
  rw [HLN.out] at h ⊢
  exact ⟨q', d', rfl, h.own, h.below⟩
end Go.Proofs.Ytmblgpejgdlakaa
