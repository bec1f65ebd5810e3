/-
  Contract: what the document's own List answers. Conditions: as each states.
-/
import Derived.Test.YtmblgpejgdlakaaM
import Derived.Test.YtmblgpejgdlakaaA6
import Derived.BigRegion
namespace Go.Proofs.Ytmblgpejgdlakaa
open Go.RowKit

theorem flatP_set (h : List Pc) (k : Nat) (d : Pc) : flatP (h.set k d) = ((flatP h).set (k * 2) (.int .i64 d.1)).set (k * 2 + 1) (.string d.2) := by
  induction h generalizing k with
  | nil => simp [flatP]
  | cons e r ih =>
    have e1 : ∀ (x : Pc) (y : List Pc), flatP (x :: y) = .int .i64 x.1 :: .string x.2 :: flatP y := fun _ _ => rfl
    cases k with
    | zero => simp [e1]
    | succ k =>
      rw [List.set_cons_succ, e1, e1, ih, show (k + 1) * 2 = k * 2 + 1 + 1 by omega]
      simp
theorem step_append_eq {P : Program} {ops : Array Oper} {o : Oper} {a : Act} {w : World} {K : Act → World → Prop} {Q : Exit → Act → World → Prop} {E : Prop} (hg : o.guard = none) (d s : Operand) (t t' : TypeId)
    (hop : o.op = .call { callee := .builtin .append, args := #[d, s], argTypes := #[t, t'] }) (x y : Value) (hd : a.eval d = x) (hs : a.eval s = y) {v' : Value} {w' : World} (hr : ∀ ty, (Builtin.append_ #[t, t'] ty #[x, y]).run P w = .ok v' w') (hK : K (a.put o.dst v') w') :
    if Region.wanted o (yielded ops a.tmps) = true then Oper.wp P o a w K Q else E := by
  rw [if_pos (show Region.wanted o (yielded ops a.tmps) = true by simp [Region.wanted, hg])]
  unfold Oper.wp
  have h := hr o.type
  simp [execOp, hop, resolve, invoke, builtin, hd, hs, h, Result.andThen]
  exact hK
theorem set_last {ps : List Pc} {d x : Pc} (h : ps.getLast? = some d) {m : Nat} (hm : ps.length = m + 1) : ps.dropLast ++ [x] = ps.set m x ∧ ps.getD m noPc = d := by
  obtain ⟨ys, rfl⟩ := List.getLast?_eq_some_iff.1 h
  have hl : ys.length = m := by simpa using hm
  subst hl
  refine ⟨by simp, ?_⟩
  rw [List.getD_eq_getElem?_getD]
  simp
theorem byte_step (S : ByteArray) (A : List Int) (k : Nat) {t : Int} (ht : A.getD k 0 = t) : stepR (runsK S A k) t (S.extract k (k + 1)) = runsK S A (k + 1) := by
  show _ = stepR _ _ _
  rw [ht]
theorem mem_size {ps : List Pc} {d : Pc} (h : d ∈ ps) : d.2.size ≤ (bytesOf' ps).length := by
  obtain ⟨a, b, rfl⟩ := List.append_of_mem h
  simp only [bytesOf', List.flatMap_append, List.flatMap_cons, List.length_append, nums_length]
  omega
theorem row_formP {w : World} {base T n d : Nat} {q : Option Addr} {ps : List Pc} (ho : w.ownsRow base T 2 (.slice q n d) n (flatP ps)) (hn : 0 < n) : ∃ b, q = some ⟨b, 0, none⟩ ∧ base ≤ b ∧ b < w.heap.size ∧ n ≤ d := by
  rcases ho.2 with ⟨_, h0⟩ | ⟨b, cap, cur, e, h1, h2, h3, _⟩
  · omega
  · cases e
    exact ⟨b, rfl, h1, blk_lt h2, h3⟩
theorem slice_byte (S : ByteArray) (k : Nat) (h : k + 1 ≤ S.size) (w : World) : (Instr.slice 9 (.string S) (some (.int .i64 (k : Int))) (some (.int .i64 ((k : Int) + 1))) none).run Try.prog w = .ok (.string (S.extract k (k + 1))) w := by
  rw [run_slice_string (P := Try.prog) (w := w) 9 S .i64 .i64 (k : Int) ((k : Int) + 1) Try.underlying9 (by omega) (by omega) (by omega)]
  rfl
/-- What the document's List made of the first bytes. -/
def Lst (wr : World) (B : Nat) (T : TypeId) (q : Option Addr) (m d : Nat) (ps : List Pc) : Prop := wr.ownsRow B T 2 (.slice q m d) m (flatP ps)
theorem Lst.len {wr : World} {B : Nat} {T : TypeId} {q : Option Addr} {m d : Nat} {ps : List Pc} (h : Lst wr B T q m d ps) : ps.length = m := by
  obtain ⟨_, _, e, hl, _⟩ := own_pcs h
  exact hl
set_option maxRecDepth 100000 in
set_option maxHeartbeats 8000000 in
theorem rlist_any (S : ByteArray) (p : Option Addr) (n c : Nat) (A : List Int) (last : Int) (w : World) (hr : RowA w p n c A) (hS : S.size = n) (hn : n ≤ 100000) :
    Calls Try.prog 30 #[.agg #[.string S, .slice p n c, .int .i64 last]] w (OutP 66 (runsK S A n) w) := by
  have HX := Lib.hid hr.1
  have HRA := Lib.hid (runs_all S A n hS hr.1)
  have hal : Below w.heap.size w (w.alloc (.cells #[.string S, .slice p n c, .int .i64 last] 29)) := (Below.refl _ _).alloc (Nat.le_refl _) _
  have HAL := Lib.hid hal
  have HB0 := Lib.hid (heap_alloc_new w (.cells #[.string S, .slice p n c, .int .i64 last] 29))
  have HI := Lib.hid (ints_on hr.2.2.2.1 hal)
  clear hr hal
  go_enter Try.func30, Try.ntmps30
  go_wp2_with fail
  generalize (w.alloc (.cells #[.string S, .slice p n c, .int .i64 last] 29)) = w1 at *
  go_loopw [3, 4] (fun u i wr => ∃ (k : Nat) (q : Option Addr) (m d : Nat), k ≤ n ∧ i = .int .i64 k ∧ u = .slice q m d ∧ Hid (Lst wr w1.heap.size 66 q m d (runsK S A k)) ∧ Hid (Below w1.heap.size w1 wr)) (fun _ i _ => n - (intOf i).toNat)
  case atStart => exact ⟨0, none, 0, 0, by omega, rfl, rfl, Lib.hid (World.ownsRow_nil _ _ _ _), Lib.hid (Below.refl _ _)⟩
  case round =>
    obtain ⟨k, q, m, d, hk, rfl, rfl, HO, HB⟩ := hrel
    obtain ⟨x0, x1, x2⟩ := box_cells HB0.out HB.out
    have hgl : w.heap.size < wr.heap.size := Nat.lt_of_lt_of_le (blk_lt HB0.out) HB.out.size
    have hmm := HO.out.len
    have hra := HRA.out k hk
    have hml : m ≤ k := by rw [← hmm]; exact hra.2.2.1
    by_cases hlt : k < n
    · have dk : decide ((k : Int) < (S.size : Int)) = true := by simp; omega
      obtain ⟨b, o, rfl, hcell⟩ := ints_on HI.out HB.out (by omega)
      have g0 := hcell k hlt
      have hbl : b < wr.heap.size := World.block_lt_of_cell? wr _ g0
      obtain ⟨t, ht⟩ : ∃ t, A.getD k 0 = t := ⟨_, rfl⟩
      have hgk : w1.cell? ⟨b, o + k, none⟩ = some (.int .i64 t) := by
        obtain ⟨b', o', e, hc⟩ := HI.out (by omega)
        cases e
        rw [hc k hlt, ht]
      have HGK := Lib.hid hgk
      clear hgk
      have hst := byte_step S A k ht
      rw [ht] at g0
      have hw1 : IntKind.i64.wrap ((k : Int) + 1) = (k : Int) + 1 := IntWalk.i64_in _ (by omega)
      by_cases hk0 : 0 < k
      · have dk0 : decide ((0 : Int) < (k : Int)) = true := by simp; omega
        have g1 := hcell (k - 1) (by omega)
        obtain ⟨l, hl, hl1⟩ := hra.2.2.2.1 hk0
        rw [← hl1] at g1
        have hw2 : IntKind.i64.wrap ((k : Int) - 1) = ((k - 1 : Nat) : Int) := by rw [IntWalk.i64_in _ (by omega)]; omega
        have hkk : k - 1 < n := by omega
        clear hcell ht
        generalize k - 1 = k1 at g1 hw2 hkk
        have hsz : l.2.size ≤ 100000 := by
          have := mem_size (List.mem_of_getLast? hl)
          rw [hra.1, List.length_take] at this
          omega
        obtain ⟨m1, hm1⟩ : ∃ m1, m = m1 + 1 := ⟨m - 1, by
          have : 0 < m := by
            rw [← hmm]
            cases e : runsK S A k with
            | nil => rw [e] at hl; cases hl
            | cons _ _ => simp
          omega⟩
        have hsl := set_last (x := (l.1, l.2 ++ S.extract k (k + 1))) hl (by rw [hmm]; exact hm1)
        obtain ⟨gq, rfl, hq1, hq2, hq3⟩ := row_formP HO.out (by omega)
        have HHL := Lib.hid hl
        have HST := Lib.hid hst
        have HSL := Lib.hid hsl
        have HLM := Lib.hid hmm
        have hw3 : IntKind.i64.wrap ((m : Int) - 1) = (m1 : Int) := by rw [IntWalk.i64_in _ (by omega)]; omega
        have hm1l : m1 < m := by omega
        have hmb : m ≤ 100000 := by omega
        have hks : k + 1 ≤ S.size := by omega
        have HQ1 := Lib.hid hq1
        have HM1 := Lib.hid hm1
        obtain ⟨l1, l2⟩ := l
        simp only at g1 hsz hl1
        clear hl hst hsl hmm hra hml hm1 hq1
        by_cases htl : l1 = t
        · have dt : (t == l1) = true := by simp [htl]
          have HTL := Lib.hid htl
          clear htl hl1
          go_wp2_with fail
          go_quiet (fail)
          rename_i nq
          have HB2 := Lib.hid (seqB HB.out (below_drewN wr nq))
          have HO2 := Lib.hid (own_on HO.out (below_drewN wr nq))
          have hsq : wr.heap.size ≤ (wr.drewN nq).heap.size := (below_drewN wr nq).size
          have hq2' : gq < (wr.drewN nq).heap.size := by omega
          have hgl' : w.heap.size < (wr.drewN nq).heap.size := by omega
          clear x0 x1 x2 g0 g1 hbl hq2 hgl hsq HO HB
          generalize wr.drewN nq = w5 at *
          obtain ⟨x0, x1, x2⟩ := box_cells HB0.out HB2.out
          have hgd := HSL.out.2
          have c0 : w5.cell? ⟨gq, m1 * 2, none⟩ = some (.int .i64 l1) := by
            rw [HO2.out.cellAt (m1 * 2) (by omega), (flatP_at _ m1 (by rw [HLM.out]; omega)).1, hgd]
          have c1 : w5.cell? ⟨gq, m1 * 2 + 1, none⟩ = some (.string l2) := by
            rw [HO2.out.cellAt (m1 * 2 + 1) (by omega), (flatP_at _ m1 (by rw [HLM.out]; omega)).2, hgd]
          have f0 : w5.frozen? ⟨gq, m1 * 2, none⟩ = false := HO2.out.frozenAt _
          have f1 : w5.frozen? ⟨gq, m1 * 2 + 1, none⟩ = false := HO2.out.frozenAt _
          have hp1 := HO2.out.stored (m1 * 2) (.int .i64 l1)
          have hp2 := hp1.1.stored (m1 * 2 + 1) (.string (l2 ++ S.extract k (k + 1)))
          have e1 := flatP_set (runsK S A k) m1 (l1, l2 ++ S.extract k (k + 1))
          simp only at e1
          have hp3 := hp2.1
          rw [← e1, ← HSL.out.1, ← step_same HHL.out HTL.out, HST.out] at hp3
          have HP := Lib.hid hp3
          have HBP := Lib.hid ((HB2.out.setCell (p := ⟨gq, m1 * 2, none⟩) HQ1.out (.int .i64 l1)).setCell (p := ⟨gq, m1 * 2 + 1, none⟩) HQ1.out (.string (l2 ++ S.extract k (k + 1))))
          have hsr := slice_byte S k hks
          clear hgd hp1 hp2 hp3 e1 dt
          go_wp2_with fail
          go_region
          go_wp2_with fail
          go_roundw
          case rel => exact ⟨k + 1, _, m, d, by omega, by go_num, rfl, Lib.hid HP.out.drew, Lib.hid HBP.out.drew⟩
          case measure => simp [intOf]; omega
        · have dt : (t == l1) = false := by simp; omega
          have HNE := Lib.hid (show ∀ d, (runsK S A k).getLast? = some d → d.1 ≠ t from fun d hd => by rw [HHL.out] at hd; cases hd; exact htl)
          clear htl hl1
          go_wp2_with fail
          go_quiet (fail)
          rename_i nq
          have HB2 := Lib.hid (seqB HB.out (below_drewN wr nq))
          have HO2 := Lib.hid (own_on HO.out (below_drewN wr nq))
          have hsq : wr.heap.size ≤ (wr.drewN nq).heap.size := (below_drewN wr nq).size
          have hgl' : w.heap.size < (wr.drewN nq).heap.size := by omega
          have g0 := show (wr.drewN nq).cell? ⟨b, o + k, none⟩ = some (.int .i64 t) from g0
          have hbl : b < (wr.drewN nq).heap.size := by omega
          clear x0 x1 x2 hgl hsq HO HB g1 hq2
          generalize wr.drewN nq = w5 at *
          obtain ⟨x0, x1, x2⟩ := box_cells HB0.out HB2.out
          have hsr := slice_byte S k hks
          obtain ⟨q', d', w', h1, h2, h3⟩ := app_pc (w := w5.drew) HO2.out.drew HB2.out.size HB2.out.drew (by omega) t (S.extract k (k + 1))
          rw [← step_more HNE.out, HST.out] at h2
          have HR1 := Lib.hid h1
          have HO1 := Lib.hid h2
          have HB1 := Lib.hid h3
          have HSS := Lib.hid (show ∀ w', Below w1.heap.size w1 w' → w'.cell? ⟨w.heap.size, 0, none⟩ = some (.string S) ∧ w'.cell? ⟨w.heap.size, 1, none⟩ = some (.slice (some ⟨b, o, none⟩) n c) ∧ w'.cell? ⟨b, o + k, none⟩ = some (.int .i64 t) from
            fun w' hb => ⟨(box_cells HB0.out hb).1, (box_cells HB0.out hb).2.1, (hb.cell (World.block_lt_of_cell? w1 _ HGK.out)).trans HGK.out⟩)
          clear h1 h2 h3
          go_wp2_with fail
          go_region_held_law (fun w' => w'.cell? ⟨w.heap.size, 0, none⟩ = some (.string S) ∧ w'.cell? ⟨w.heap.size, 1, none⟩ = some (.slice (some ⟨b, o, none⟩) n c) ∧ w'.cell? ⟨b, o + k, none⟩ = some (.int .i64 t))
            ((refine HSS.out _ ?_
              first
                | with_reducible exact HB2.out.drew
                | with_reducible exact (HB2.out.alloc HB2.out.size _).drew
                | with_reducible exact HB1.out))
            (refine step_append_eq rfl (.tmp 53) (.tmp 66) 64 64 rfl (.slice (some ⟨gq, 0, none⟩) m d) (.slice (some ⟨w5.heap.size, 0, none⟩) 1 1) rfl rfl HR1.out ?_)
          go_wp2_with fail
          go_roundw
          case rel => exact ⟨k + 1, q', m + 1, d', by omega, by go_num, rfl, HO1, HB1⟩
          case measure => simp [intOf]; omega
      · obtain rfl : k = 0 := by omega
        obtain rfl : m = 0 := by omega
        have hw0 : IntKind.i64.wrap 1 = 1 := by decide
        have HNE := Lib.hid (show ∀ d, (runsK S A 0).getLast? = some d → d.1 ≠ t from fun d hd => by cases hd)
        have HST := Lib.hid (show stepR (runsK S A 0) t (S.extract 0 1) = runsK S A (0 + 1) from hst)
        have hks : 0 + 1 ≤ S.size := by omega
        have dk0 : decide ((0 : Int) < ((0 : Nat) : Int)) = false := by decide
        clear hcell ht hst hra hml hmm
        go_wp2_with fail
        go_quiet (fail)
        rename_i nq
        have HB2 := Lib.hid (seqB HB.out (below_drewN wr nq))
        have HO2 := Lib.hid (own_on HO.out (below_drewN wr nq))
        have hsq : wr.heap.size ≤ (wr.drewN nq).heap.size := (below_drewN wr nq).size
        have hgl' : w.heap.size < (wr.drewN nq).heap.size := by omega
        have g0 := show (wr.drewN nq).cell? ⟨b, o + 0, none⟩ = some (.int .i64 t) from g0
        have hbl : b < (wr.drewN nq).heap.size := by omega
        clear x0 x1 x2 hgl hsq HO HB 
        generalize wr.drewN nq = w5 at *
        obtain ⟨x0, x1, x2⟩ := box_cells HB0.out HB2.out
        have hsr := fun w => (show (Instr.slice 9 (.string S) (some (.int .i64 0)) (some (.int .i64 1)) none).run Try.prog w = .ok (.string (S.extract 0 1)) w from by simpa using slice_byte S 0 hks w)
        obtain ⟨q', d', w', h1, h2, h3⟩ := app_pc (w := w5.drew) HO2.out.drew HB2.out.size HB2.out.drew (by omega) t (S.extract 0 1)
        rw [← step_more HNE.out, HST.out] at h2
        have HR1 := Lib.hid h1
        have HO1 := Lib.hid h2
        have HB1 := Lib.hid h3
        have HSS := Lib.hid (show ∀ w', Below w1.heap.size w1 w' → w'.cell? ⟨w.heap.size, 0, none⟩ = some (.string S) ∧ w'.cell? ⟨w.heap.size, 1, none⟩ = some (.slice (some ⟨b, o, none⟩) n c) ∧ w'.cell? ⟨b, o, none⟩ = some (.int .i64 t) from
          fun w' hb => ⟨(box_cells HB0.out hb).1, (box_cells HB0.out hb).2.1, (hb.cell (World.block_lt_of_cell? w1 _ HGK.out)).trans HGK.out⟩)
        clear h1 h2 h3
        go_wp2_with fail
        go_region_held_law (fun w' => w'.cell? ⟨w.heap.size, 0, none⟩ = some (.string S) ∧ w'.cell? ⟨w.heap.size, 1, none⟩ = some (.slice (some ⟨b, o, none⟩) n c) ∧ w'.cell? ⟨b, o, none⟩ = some (.int .i64 t))
          ((refine HSS.out _ ?_
            first
              | with_reducible exact HB2.out.drew
              | with_reducible exact (HB2.out.alloc HB2.out.size _).drew
              | with_reducible exact HB1.out))
          (refine step_append_eq rfl (.tmp 53) (.tmp 66) 64 64 rfl (.slice q 0 d) (.slice (some ⟨w5.heap.size, 0, none⟩) 1 1) rfl rfl HR1.out ?_)
        go_wp2_with fail
        go_roundw
        case rel => exact ⟨0 + 1, q', 0 + 1, d', by omega, by go_num, rfl, HO1, HB1⟩
        case measure => simp [intOf]; omega
    · obtain rfl : k = n := by omega
      have dk : decide ((k : Int) < (S.size : Int)) = false := by simp; omega
      go_wp2_with fail
      go_ret
      have h := HO.out
      rw [show m = (runsK S A k).length from hmm.symm] at h ⊢
      exact ⟨q, d, rfl, own_low h HAL.out.size, seqB HAL.out HB.out⟩
end Go.Proofs.Ytmblgpejgdlakaa
