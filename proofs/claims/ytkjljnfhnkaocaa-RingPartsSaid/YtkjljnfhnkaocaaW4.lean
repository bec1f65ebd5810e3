/-
  A row of bytes of the call's own under copy and clear; what a ring's turn and Drop do. Conditions: as each states.
-/
import Derived.Test.YtkjljnfhnkaocaaW3
import Derived.Laws.CopyOwn
import Derived.Deep.RegionHeldLaw
namespace Go.Proofs.Ytkjljnfhnkaocaa
open Go.RowKit

theorem size5 : (Try.prog.info? 5).map (·.size) = some 1 := by kernel_rfl
/-- 'clear' of cells of a row that is known whole. -/
theorem run_clear_row (w : World) (b o n c : Nat) (ty : TypeId) (cur : Array Value) (hg : w.heap[b]? = some (.cells cur 5 (0, 0))) (hn : 0 < n) (hfit : o + n ≤ cur.size) :
    (Builtin.clear_ #[40] ty #[.slice (some ⟨b, o, none⟩) n c]).run Try.prog w = .ok (.tuple #[]) (w.setRow b (cur.toList.take o ++ List.replicate n (Value.int .u8 0) ++ cur.toList.drop (o + n)).toArray) := by
  have hzc : (Builtin.zeroCells #[Value.int .u8 0] n).toList = List.replicate n (.int .u8 0) := by
    simp [Builtin.zeroCells]
    apply List.ext_getElem
    · simp
    · intro i h1 h2
      simp [Nat.mod_one]
  have hst := run_storeCells_at Try.prog b o 5 (List.replicate n (.int .u8 0)) 0 cur w hg (by simpa using hfit) (by intro v hv; rw [List.eq_of_mem_replicate hv]; rfl)
  simp only [Nat.add_zero, List.length_replicate] at hst
  obtain ⟨m, rfl⟩ : ∃ m, n = m + 1 := ⟨n - 1, by omega⟩
  have hz : (Value.int .u8 0).cells = #[Value.int .u8 0] := rfl
  simp [Builtin.clear_, run_underlying Try.underlying40, hz, hzc, hst]
theorem run_clear_none (w : World) (q : Option Addr) (c : Nat) (ty : TypeId) : (Builtin.clear_ #[40] ty #[.slice q 0 c]).run Try.prog w = .ok (.tuple #[]) w := by
  cases q <;> simp [Builtin.clear_, run_underlying Try.underlying40]

/-- A row, some of whose cells were laid anew. -/
theorem own_splice {w : World} {base b L c : Nat} {F : List Value} (h : w.ownsRow base 5 1 (.slice (some ⟨b, 0, none⟩) L c) L F) {cur : Array Value} (hg : w.heap[b]? = some (.cells cur 5 (0, 0))) (o : Nat) (vs : List Value) (hfit : o + vs.length ≤ L) :
    (w.setRow b (cur.toList.take o ++ vs ++ cur.toList.drop (o + vs.length)).toArray).ownsRow base 5 1 (.slice (some ⟨b, 0, none⟩) L c) L (splice F o vs) ∧ w.grownBy (w.setRow b (cur.toList.take o ++ vs ++ cur.toList.drop (o + vs.length)).toArray) (some b) := by
  obtain ⟨hl, ⟨e, _⟩ | ⟨b', cap, cur', e, hb, hh, h1, h2, h3, h4⟩⟩ := h
  · cases e
  · cases e
    rw [hg] at hh
    cases hh
    have hF : F.length = L := by simpa using hl
    refine ⟨⟨by rw [length_splice _ _ _ (by omega)]; simpa using hF, .inr ⟨b, c, _, rfl, hb, setRow_heap w b _ _ _ _ hg, h1, h2, ?_, ?_⟩⟩, ⟨rfl, rfl, rfl, by simp, fun k _ hk => setRow_other w b k _ (fun e => hk (by rw [e]))⟩⟩
    · simp
      omega
    · unfold splice
      rw [← h4]
      apply List.ext_getElem?
      intro j
      simp only [List.getElem?_take, List.getElem?_append, List.getElem?_drop, List.length_take, List.length_append, Array.length_toList, Nat.mul_one]
      have e1 : min o cur.size = o := by omega
      have e2 : min o (min L cur.size) = o := by omega
      rw [e1, e2]
      by_cases hj : j < o
      · simp [hj, show j < L by omega, show j < o + vs.length by omega]
      · by_cases hj2 : j < o + vs.length
        · simp [hj, hj2, show j < L by omega, show j - o < vs.length by omega]
        · by_cases hj3 : j < L
          · have e3 : o + vs.length + (j - (o + vs.length)) = j := by omega
            have e4 : o + vs.length + (j - o - vs.length) = j := by omega
            simp [hj, hj2, hj3, show ¬ j - o < vs.length by omega, e3, e4]
          · have e4 : o + vs.length + (j - o - vs.length) = j := by omega
            simp [hj, hj3, show ¬ j - o < vs.length by omega, e4]

theorem clear_own {w : World} {base b L c : Nat} {full : List Int} (h : w.ownsRow base 5 1 (.slice (some ⟨b, 0, none⟩) L c) L (full.map (Value.int .u8))) (o n cc : Nat) (hfit : o + n ≤ L) :
    ∃ w', (∀ ty, (Builtin.clear_ #[40] ty #[.slice (some ⟨b, o, none⟩) n cc]).run Try.prog w = .ok (.tuple #[]) w') ∧ w'.ownsRow base 5 1 (.slice (some ⟨b, 0, none⟩) L c) L ((splice full o (List.replicate n 0)).map (Value.int .u8)) ∧ w.grownBy w' (some b) := by
  rcases Nat.eq_zero_or_pos n with rfl | hn
  · refine ⟨w, fun ty => run_clear_none w _ cc ty, ?_, World.grownBy.refl w _⟩
    simpa [splice] using h
  · obtain ⟨_, ⟨e, _⟩ | ⟨b', cap, cur, e, hb, hh, h1, h2, h3, h4⟩⟩ := id h
    · cases e
    · cases e
      have hs := own_splice h hh o (List.replicate n (Value.int .u8 0)) (by simpa using hfit)
      simp only [List.length_replicate] at hs
      refine ⟨_, fun ty => run_clear_row w b o n cc ty cur hh hn (by omega), ?_, hs.2⟩
      have hs1 := hs.1
      rw [show (splice full o (List.replicate n 0)).map (Value.int .u8) = splice (full.map (Value.int .u8)) o (List.replicate n (Value.int .u8 0)) by simp [splice, List.map_take, List.map_drop]]
      exact hs1
theorem copy_own {w : World} {base b L c : Nat} {full : List Int} (h : w.ownsRow base 5 1 (.slice (some ⟨b, 0, none⟩) L c) L (full.map (Value.int .u8))) (G cc : Nat) (hG : G ≤ L) :
    ∃ w', (∀ ty, (Builtin.copy_ #[40, 40] ty #[.slice (some ⟨b, 0, none⟩) L c, .slice (some ⟨b, G, none⟩) (L - G) cc]).run Try.prog w = .ok (.int .i64 ((L - G : Nat) : Int)) w') ∧ w'.ownsRow base 5 1 (.slice (some ⟨b, 0, none⟩) L c) L ((splice full 0 (full.drop G)).map (Value.int .u8)) ∧ w.grownBy w' (some b) := by
  obtain ⟨hl, ⟨e, _⟩ | ⟨b', cap, cur, e, hb, hh, h1, h2, h3, h4⟩⟩ := id h
  · cases e
  · cases e
    have hfl : full.length = L := by simpa using hl
    have hd : ((full.drop G).map (Value.int .u8)).length = L - G := by simp [hfl]
    have hs := own_splice h hh 0 ((full.drop G).map (Value.int .u8)) (by omega)
    refine ⟨_, fun ty => ?_, ?_, hs.2⟩
    · have hrun := run_copy_row (P := Try.prog) w 40 40 ty 5 b 0 L c ⟨b, G, none⟩ (L - G) cc cur 5 ((full.drop G).map (Value.int .u8)) Try.underlying40 size5 hh (by rw [hd]; exact (Nat.min_eq_left (by omega)).symm) ?_ (by omega) (fun v hv => by obtain ⟨x, _, rfl⟩ := List.mem_map.mp hv; rfl)
      · rw [hrun, hd]
        rfl
      · intro j v hj
        rw [WideShapes.add_plain, h.cellAt (G + j) (by have := (List.getElem?_eq_some_iff.1 hj).1; omega)]
        rw [List.getElem?_map, List.getElem?_drop] at hj
        rw [List.getElem?_map]
        exact hj
    · have hs1 := hs.1
      rw [show (splice full 0 (full.drop G)).map (Value.int .u8) = splice (full.map (Value.int .u8)) 0 ((full.drop G).map (Value.int .u8)) by simp [splice, List.map_drop]]
      exact hs1
/-- A row cut short: its first m bytes. -/
theorem own_cut {w : World} {base b L c m : Nat} {full : List Int} (h : w.ownsRow base 5 1 (.slice (some ⟨b, 0, none⟩) L c) L (full.map (Value.int .u8))) (hm : m ≤ L) : w.ownsRow base 5 1 (.slice (some ⟨b, 0, none⟩) m c) m ((full.take m).map (Value.int .u8)) := by
  obtain ⟨hl, ⟨e, _⟩ | ⟨b', cap, cur, e, hb, hh, h1, h2, h3, h4⟩⟩ := h
  · cases e
  · cases e
    have hfl : full.length = L := by simpa using hl
    refine ⟨by simp; omega, .inr ⟨b, c, cur, rfl, hb, hh, by omega, h2, h3, ?_⟩⟩
    rw [List.map_take, ← h4, List.take_take]
    congr 1
    omega
/-- A builtin whose run is known, as one step of a region that draws its order. -/
theorem step_copy_eq {P : Program} {ops : Array Oper} {o : Oper} {a : Act} {w : World} {K : Act → World → Prop} {Q : Exit → Act → World → Prop} {E : Prop} (hg : o.guard = none) (d s : Operand) (t t' : TypeId)
    (hop : o.op = .call { callee := .builtin .copy, args := #[d, s], argTypes := #[t, t'] }) (x y : Value) (hd : a.eval d = x) (hs : a.eval s = y) {v' : Value} {w' : World} (hr : ∀ ty, (Builtin.copy_ #[t, t'] ty #[x, y]).run P w = .ok v' w') (hK : K (a.put o.dst v') w') :
    if Region.wanted o (yielded ops a.tmps) = true then Oper.wp P o a w K Q else E := by
  rw [if_pos (show Region.wanted o (yielded ops a.tmps) = true by simp [Region.wanted, hg])]
  unfold Oper.wp
  have h := hr o.type
  simp [execOp, hop, resolve, invoke, builtin, hd, hs, h, Result.andThen]
  exact hK
theorem step_clear_eq {P : Program} {ops : Array Oper} {o : Oper} {a : Act} {w : World} {K : Act → World → Prop} {Q : Exit → Act → World → Prop} {E : Prop} (hg : o.guard = none) (s : Operand) (t : TypeId)
    (hop : o.op = .call { callee := .builtin .clear, args := #[s], argTypes := #[t] }) (y : Value) (hs : a.eval s = y) {v' : Value} {w' : World} (hr : ∀ ty, (Builtin.clear_ #[t] ty #[y]).run P w = .ok v' w') (hK : K (a.put o.dst v') w') :
    if Region.wanted o (yielded ops a.tmps) = true then Oper.wp P o a w K Q else E := by
  rw [if_pos (show Region.wanted o (yielded ops a.tmps) = true by simp [Region.wanted, hg])]
  unfold Oper.wp
  have h := hr o.type
  simp [execOp, hop, resolve, invoke, builtin, hs, h, Result.andThen]
  exact hK
end Go.Proofs.Ytkjljnfhnkaocaa
