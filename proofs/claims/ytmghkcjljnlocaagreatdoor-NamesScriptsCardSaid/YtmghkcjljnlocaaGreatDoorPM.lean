/-
  Contracts: slices.Delete of one proxy, of one toxic. Conditions: as each states.
-/
import Derived.Test.YtmghkcjljnlocaaGreatDoorPL
import Derived.Lib.SlicesDelete
import Derived.Laws.CopyOwn
namespace Go.Proofs.YtmghkcjljnlocaaGreatDoor
open Go.RowKit Go.Lib
theorem run_clear_one {P : Program} (w : World) (t e ty : TypeId) (z : Value) (ht : P.underlying t = some (.slice e)) (hv : ∀ w, (zeroValue e).run P w = .ok z w) (h1 : ∀ v ∈ z.cells.toList, v.oneCell' = true) (_ : 0 < z.cells.size) (b o c : Nat)
    (hc : ∀ j, j < z.cells.size → (w.cell? ⟨b, o + j, none⟩).isSome = true) (hf : ∀ j, j < z.cells.size → w.frozen? ⟨b, o + j, none⟩ = false) :
    (Builtin.clear_ #[t] ty #[.slice (some ⟨b, o, none⟩) 1 c]).run P w = .ok (.tuple #[]) (w.setCells b o z.cells.toList) := by
  have hzc : (Builtin.zeroCells z.cells 1).toList = z.cells.toList := by
    simp [Builtin.zeroCells]
    apply List.ext_getElem
    · simp
    · intro i h1 h2
      have hi : i < z.cells.size := by simpa using h2
      simp [Nat.mod_eq_of_lt hi, getElem!_pos, hi]
  have hst := run_storeCells_cells (P := P) b o z.cells.toList 0 w (by simpa using hc) (by simpa using hf) h1
  simp only [Nat.add_zero] at hst
  simp [Builtin.clear_, run_underlying ht, hv, hzc, hst]
theorem isSome_set {w : World} (b : Nat) (vs : List Value) (o : Nat) (hs : ∀ t, t < vs.length → (w.cell? ⟨b, o + t, none⟩).isSome = true) (k : Nat) (hk : (w.cell? ⟨b, k, none⟩).isSome = true) : ((w.setCells b o vs).cell? ⟨b, k, none⟩).isSome = true := by
  by_cases h : o ≤ k ∧ k < o + vs.length
  · have := World.cell?_setCells_in b vs o w hs (k - o) (by omega)
    rw [show o + (k - o) = k by omega] at this
    rw [this]
    rfl
  · rw [World.cell?_setCells_out _ _ _ _ _ (fun _ _ => by show k < o ∨ o + vs.length ≤ k; omega)]
    exact hk
section
variable {w : World} {b o n c i base : Nat} {cs : List Value}
/-- One Proxy less. -/
def DelP (base : Nat) (w : World) (b o n c i : Nat) (cs : List Value) (e : Ending) (w' : World) : Prop := e = .returned (.slice (some ⟨b, o, none⟩) (n - 1) c) ∧ gc.ORow w' base TP 4 (some ⟨b, o, none⟩) (n - 1) c (cs.take (i * 4) ++ cs.drop ((i + 1) * 4)) ∧ w.grownBy w' (some b)
set_option maxRecDepth 100000 in
set_option maxHeartbeats 8000000 in
theorem delP_run {K : Nat} (hK : 1 ≤ K) (hnc : i + 1 + K ≤ c) (hc : c ≤ maxLen) (hcl : cs.length = (i + 1 + K) * 4) (hcs : ∀ j v, cs[j]? = some v → w.cell? ⟨b, o + j, none⟩ = some v) {cur : Array Value} (hb : w.heap[b]? = some (.cells cur TP (0, 0))) (hsp : o + (i + 1 + K) * 4 ≤ cur.size)
    (h1c : ∀ v ∈ cs, v.oneCell' = true) :
    Calls Tryz.prog 57 #[.slice (some ⟨b, o, none⟩) (i + 1 + K) c, .int .i64 (i : Int), .int .i64 ((i : Int) + 1)] w fun e w' =>
      e = .returned (.slice (some ⟨b, o, none⟩) (i + K) c) ∧ w' = ((w.drew.setCells b (o + i * 4) (cs.drop ((i + 1) * 4))).setCells b (o + (i + K) * 4) [.string ⟨#[]⟩, .bool false, .int .i64 0, .slice none 0 0]) := by
  obtain ⟨i0, hi0, hz0, hzs, hzb⟩ := info_parts infoP
  have hsome : ∀ k, k < (i + 1 + K) * 4 → (w.cell? ⟨b, o + k, none⟩).isSome = true := fun k hk => by
    simp only [World.cell?, hb]
    rw [Array.getElem?_eq_getElem (by omega)]
    rfl
  have hfro : ∀ k, w.frozen? ⟨b, k, none⟩ = false := fun k => by simp [World.frozen?, hb]
  have s1 : Hid ((cs.drop ((i + 1) * 4)).length = K * 4) := Lib.hid (by rw [List.length_drop, hcl]; omega)
  have s2 : Hid (∀ t u, (cs.drop ((i + 1) * 4))[t]? = some u → w.drew.cell? ((⟨b, o + (i + 1) * 4, none⟩ : Addr).add t) = some u) := Lib.hid (fun t u hu => by
    rw [WideShapes.add_plain, Nat.add_assoc]; exact hcs ((i + 1) * 4 + t) u (by rwa [List.getElem?_drop] at hu))
  have s3 : Hid (∀ u ∈ (cs.drop ((i + 1) * 4)), u.oneCell' = true) := Lib.hid (fun u hu => h1c u (List.mem_of_mem_drop hu))
  have s4 : Hid (∀ t, t < (cs.drop ((i + 1) * 4)).length → (w.drew.cell? ⟨b, o + i * 4 + t, none⟩).isSome = true ∧ w.drew.frozen? ⟨b, o + i * 4 + t, none⟩ = false) := Lib.hid (fun t ht => by
    rw [Nat.add_assoc]
    rw [s1.out] at ht
    exact ⟨hsome _ (by omega), hfro _⟩)
  have HI := Lib.hid (⟨hi0, hzs⟩ : Tryz.prog.info? TP = some i0 ∧ i0.size = 4)
  obtain ⟨W1, hW1⟩ : ∃ W1, w.drew.setCells b (o + i * 4) (cs.drop ((i + 1) * 4)) = W1 := ⟨_, rfl⟩
  have hcell1 : ∀ j, j < 4 → (W1.cell? ⟨b, o + (i + K) * 4 + j, none⟩).isSome = true := fun j hj => by
    rw [← hW1]
    refine isSome_set b _ _ (fun t ht => (s4.out t ht).1) _ ?_
    rw [Nat.add_assoc]
    exact hsome _ (by omega)
  have hC : ∀ ty n1 c1, n1 = 1 → (Builtin.clear_ #[22] ty #[.slice (some ⟨b, o + (i + K) * 4, none⟩) n1 c1]).run Tryz.prog W1 = .ok (.tuple #[]) (W1.setCells b (o + (i + K) * 4) [.string ⟨#[]⟩, .bool false, .int .i64 0, .slice none 0 0]) := fun ty n1 c1 h1 => by
    subst h1
    exact run_clear_one W1 22 TP ty (.agg #[.string ⟨#[]⟩, .bool false, .int .i64 0, .slice none 0 0]) Tryz.underlying22 Tryz.zeroValue37 (by simp [Value.cells, Value.oneCell']) (by decide) b (o + (i + K) * 4) c1 hcell1 (fun j _ => by rw [← hW1, World.frozen?_setCells]; exact hfro _)
  have HC := Lib.hid (fun ty c1 => hC ty (i + 1 + K - (i + K)) c1 (by omega))
  have HC2 := Lib.hid (fun ty c1 => hC ty 1 c1 rfl)
  have HC3 := Lib.hid (fun ty c1 => hC ty (i + 1 - i) c1 (by omega))
  have HW := Lib.hid hW1
  have hij : ¬ ((i : Int) = (i : Int) + 1) := by omega
  have hti : ((i : Int) + 1).toNat = i + 1 := by omega
  have hic : ¬ (c = i) := by omega
  have hjc : ¬ (c = i + 1) := by omega
  have hkc : ¬ (c = i + K) := by omega
  have hkc2 : ¬ (i + 1 + K = i) := by omega
  have hi0' : (0 : Int) ≤ (i : Int) + 1 := by omega
  have hin : (i : Int) + 1 ≤ (i : Int) + 1 + (K : Int) := by omega
  have hin2 : (i : Int) + (K : Int) ≤ (i : Int) + 1 + (K : Int) := by omega
  have hin3 : (i : Int) + 1 + (K : Int) ≤ (c : Int) := by omega
  have hK1 : i + 1 + K - (i + 1) = K := by omega
  have hin4 : (i : Int) ≤ (i : Int) + 1 + (K : Int) := by omega
  have hicc : i ≤ c := by omega
  have hicc2 : (i : Int) ≤ (c : Int) := by omega
  have hc63 : c ≤ 9223372036854775807 := by unfold maxLen at hc; omega
  clear hcs hsome hfro hcell1 hC hb hsp hi0 hz0 hzs hzb hcl h1c hW1
  skip
  go_enter Tryz.func57, Tryz.ntmps57
  go_wp2_with fail
  go_region_law (refine step_append_room rfl (.tmp 22) (.tmp 25) 22 rfl TP i0 4 Tryz.underlying22 HI.out.1 HI.out.2 b o i c (by simp [Act.eval, Act.put]) ⟨b, o + (i + 1) * 4, none⟩ K (c - (i + 1)) (cs.drop ((i + 1) * 4)) (by simp [Act.eval, Act.put]) s1.out s2.out s3.out (by omega) s4.out ?_; rw [HW.out])
  all_goals go_wp2_with (first | simp only [HC.out] | simp only [HC2.out] | simp only [HC3.out])
  all_goals go_ret
  all_goals exact ⟨rfl, by rw [HW.out]⟩
set_option maxRecDepth 100000 in
set_option maxHeartbeats 8000000 in
theorem delP_cap (hnc : i + 1 = c) (hc : c ≤ maxLen) {cur : Array Value} (hb : w.heap[b]? = some (.cells cur TP (0, 0))) (hsp : o + (i + 1) * 4 ≤ cur.size) :
    Calls Tryz.prog 57 #[.slice (some ⟨b, o, none⟩) (i + 1) c, .int .i64 (i : Int), .int .i64 ((i : Int) + 1)] w fun e w' =>
      e = .returned (.slice (some ⟨b, o, none⟩) (i) c) ∧ w' = ((w.drew.setCells b (o + i * 4) []).setCells b (o + (i) * 4) [.string ⟨#[]⟩, .bool false, .int .i64 0, .slice none 0 0]) := by
  obtain ⟨i0, hi0, hz0, hzs, hzb⟩ := info_parts infoP
  have hsome : ∀ k, k < (i + 1) * 4 → (w.cell? ⟨b, o + k, none⟩).isSome = true := fun k hk => by
    simp only [World.cell?, hb]
    rw [Array.getElem?_eq_getElem (by omega)]
    rfl
  have hfro : ∀ k, w.frozen? ⟨b, k, none⟩ = false := fun k => by simp [World.frozen?, hb]
  have s1 : Hid (([] : List Value).length = 0 * 4) := Lib.hid (by rfl)
  have s2 : Hid (∀ t u, ([] : List Value)[t]? = some u → w.drew.cell? ((⟨b, o, none⟩ : Addr).add t) = some u) := Lib.hid (fun t u hu => by
    simp at hu)
  have s3 : Hid (∀ u ∈ ([] : List Value), u.oneCell' = true) := Lib.hid (fun u hu => by simp at hu)
  have s4 : Hid (∀ t, t < ([] : List Value).length → (w.drew.cell? ⟨b, o + i * 4 + t, none⟩).isSome = true ∧ w.drew.frozen? ⟨b, o + i * 4 + t, none⟩ = false) := Lib.hid (fun t ht => by
    rw [Nat.add_assoc]
    rw [s1.out] at ht
    exact ⟨hsome _ (by omega), hfro _⟩)
  have HI := Lib.hid (⟨hi0, hzs⟩ : Tryz.prog.info? TP = some i0 ∧ i0.size = 4)
  obtain ⟨W1, hW1⟩ : ∃ W1, w.drew.setCells b (o + i * 4) [] = W1 := ⟨_, rfl⟩
  have hcell1 : ∀ j, j < 4 → (W1.cell? ⟨b, o + (i) * 4 + j, none⟩).isSome = true := fun j hj => by
    rw [← hW1]
    refine isSome_set b _ _ (fun t ht => (s4.out t ht).1) _ ?_
    rw [Nat.add_assoc]
    exact hsome _ (by omega)
  have hC : ∀ ty n1 c1, n1 = 1 → (Builtin.clear_ #[22] ty #[.slice (some ⟨b, o + (i) * 4, none⟩) n1 c1]).run Tryz.prog W1 = .ok (.tuple #[]) (W1.setCells b (o + (i) * 4) [.string ⟨#[]⟩, .bool false, .int .i64 0, .slice none 0 0]) := fun ty n1 c1 h1 => by
    subst h1
    exact run_clear_one W1 22 TP ty (.agg #[.string ⟨#[]⟩, .bool false, .int .i64 0, .slice none 0 0]) Tryz.underlying22 Tryz.zeroValue37 (by simp [Value.cells, Value.oneCell']) (by decide) b (o + (i) * 4) c1 hcell1 (fun j _ => by rw [← hW1, World.frozen?_setCells]; exact hfro _)
  have HC := Lib.hid (fun ty c1 => hC ty (i + 1 - (i)) c1 (by omega))
  have HC2 := Lib.hid (fun ty c1 => hC ty 1 c1 rfl)
  have HC3 := Lib.hid (fun ty c1 => hC ty (i + 1 - i) c1 (by omega))
  have HW := Lib.hid hW1
  have hij : ¬ ((i : Int) = (i : Int) + 1) := by omega
  have hti : ((i : Int) + 1).toNat = i + 1 := by omega
  have hic : ¬ (c = i) := by omega
  have hjc : c = i + 1 := by omega
  have hkc : ¬ (c = i) := by omega
  have hkc2 : ¬ (i + 1 = i) := by omega
  have hi0' : (0 : Int) ≤ (i : Int) + 1 := by omega
  have hin3 : (i : Int) + 1 ≤ (c : Int) := by omega
  have hK1 : i + 1 - (i + 1) = 0 := by omega
  have hin4 : (i : Int) ≤ (i : Int) + 1 := by omega
  have hicc : i ≤ c := by omega
  have hicc2 : (i : Int) ≤ (c : Int) := by omega
  have hc63 : c ≤ 9223372036854775807 := by unfold maxLen at hc; omega
  clear hsome hfro hcell1 hC hb hsp hi0 hz0 hzs hzb hW1
  subst hjc
  go_enter Tryz.func57, Tryz.ntmps57
  go_wp2_with fail
  go_region_law (refine step_append_room rfl (.tmp 22) (.tmp 25) 22 rfl TP i0 4 Tryz.underlying22 HI.out.1 HI.out.2 b o i (i + 1) (by simp [Act.eval, Act.put]) ⟨b, o, none⟩ 0 (i + 1 - (i + 1)) ([] : List Value) (by simp [Act.eval, Act.put]) s1.out s2.out s3.out (by omega) s4.out ?_; rw [HW.out])
  all_goals go_wp2_with (first | simp only [HC.out] | simp only [HC2.out] | simp only [HC3.out])
  all_goals go_ret
  all_goals exact ⟨rfl, by rw [HW.out]⟩
set_option maxRecDepth 100000 in
set_option maxHeartbeats 8000000 in
theorem delP_end (hnc : i + 1 < c) (hc : c ≤ maxLen) {cur : Array Value} (hb : w.heap[b]? = some (.cells cur TP (0, 0))) (hsp : o + (i + 1) * 4 ≤ cur.size) :
    Calls Tryz.prog 57 #[.slice (some ⟨b, o, none⟩) (i + 1) c, .int .i64 (i : Int), .int .i64 ((i : Int) + 1)] w fun e w' =>
      e = .returned (.slice (some ⟨b, o, none⟩) (i) c) ∧ w' = ((w.drew.setCells b (o + i * 4) []).setCells b (o + (i) * 4) [.string ⟨#[]⟩, .bool false, .int .i64 0, .slice none 0 0]) := by
  obtain ⟨i0, hi0, hz0, hzs, hzb⟩ := info_parts infoP
  have hsome : ∀ k, k < (i + 1) * 4 → (w.cell? ⟨b, o + k, none⟩).isSome = true := fun k hk => by
    simp only [World.cell?, hb]
    rw [Array.getElem?_eq_getElem (by omega)]
    rfl
  have hfro : ∀ k, w.frozen? ⟨b, k, none⟩ = false := fun k => by simp [World.frozen?, hb]
  have s1 : Hid (([] : List Value).length = 0 * 4) := Lib.hid (by rfl)
  have s2 : Hid (∀ t u, ([] : List Value)[t]? = some u → w.drew.cell? ((⟨b, o + (i + 1) * 4, none⟩ : Addr).add t) = some u) := Lib.hid (fun t u hu => by
    simp at hu)
  have s3 : Hid (∀ u ∈ ([] : List Value), u.oneCell' = true) := Lib.hid (fun u hu => by simp at hu)
  have s4 : Hid (∀ t, t < ([] : List Value).length → (w.drew.cell? ⟨b, o + i * 4 + t, none⟩).isSome = true ∧ w.drew.frozen? ⟨b, o + i * 4 + t, none⟩ = false) := Lib.hid (fun t ht => by
    rw [Nat.add_assoc]
    rw [s1.out] at ht
    exact ⟨hsome _ (by omega), hfro _⟩)
  have HI := Lib.hid (⟨hi0, hzs⟩ : Tryz.prog.info? TP = some i0 ∧ i0.size = 4)
  obtain ⟨W1, hW1⟩ : ∃ W1, w.drew.setCells b (o + i * 4) [] = W1 := ⟨_, rfl⟩
  have hcell1 : ∀ j, j < 4 → (W1.cell? ⟨b, o + (i) * 4 + j, none⟩).isSome = true := fun j hj => by
    rw [← hW1]
    refine isSome_set b _ _ (fun t ht => (s4.out t ht).1) _ ?_
    rw [Nat.add_assoc]
    exact hsome _ (by omega)
  have hC : ∀ ty n1 c1, n1 = 1 → (Builtin.clear_ #[22] ty #[.slice (some ⟨b, o + (i) * 4, none⟩) n1 c1]).run Tryz.prog W1 = .ok (.tuple #[]) (W1.setCells b (o + (i) * 4) [.string ⟨#[]⟩, .bool false, .int .i64 0, .slice none 0 0]) := fun ty n1 c1 h1 => by
    subst h1
    exact run_clear_one W1 22 TP ty (.agg #[.string ⟨#[]⟩, .bool false, .int .i64 0, .slice none 0 0]) Tryz.underlying22 Tryz.zeroValue37 (by simp [Value.cells, Value.oneCell']) (by decide) b (o + (i) * 4) c1 hcell1 (fun j _ => by rw [← hW1, World.frozen?_setCells]; exact hfro _)
  have HC := Lib.hid (fun ty c1 => hC ty (i + 1 - (i)) c1 (by omega))
  have HC2 := Lib.hid (fun ty c1 => hC ty 1 c1 rfl)
  have HC3 := Lib.hid (fun ty c1 => hC ty (i + 1 - i) c1 (by omega))
  have HW := Lib.hid hW1
  have hij : ¬ ((i : Int) = (i : Int) + 1) := by omega
  have hti : ((i : Int) + 1).toNat = i + 1 := by omega
  have hic : ¬ (c = i) := by omega
  have hjc : ¬ (c = i + 1) := by omega
  have hkc : ¬ (c = i) := by omega
  have hkc2 : ¬ (i + 1 = i) := by omega
  have hi0' : (0 : Int) ≤ (i : Int) + 1 := by omega
  have hin3 : (i : Int) + 1 ≤ (c : Int) := by omega
  have hK1 : i + 1 - (i + 1) = 0 := by omega
  have hin4 : (i : Int) ≤ (i : Int) + 1 := by omega
  have hicc : i ≤ c := by omega
  have hicc2 : (i : Int) ≤ (c : Int) := by omega
  have hc63 : c ≤ 9223372036854775807 := by unfold maxLen at hc; omega
  clear hsome hfro hcell1 hC hb hsp hi0 hz0 hzs hzb hW1
  skip
  go_enter Tryz.func57, Tryz.ntmps57
  go_wp2_with fail
  go_region_law (refine step_append_room rfl (.tmp 22) (.tmp 25) 22 rfl TP i0 4 Tryz.underlying22 HI.out.1 HI.out.2 b o i c (by simp [Act.eval, Act.put]) ⟨b, o + (i + 1) * 4, none⟩ 0 (c - (i + 1)) ([] : List Value) (by simp [Act.eval, Act.put]) s1.out s2.out s3.out (by omega) s4.out ?_; rw [HW.out])
  all_goals go_wp2_with (first | simp only [HC.out] | simp only [HC2.out] | simp only [HC3.out])
  all_goals go_ret
  all_goals exact ⟨rfl, by rw [HW.out]⟩
theorem delP_any (h : gc.ORow w base TP 4 (some ⟨b, o, none⟩) n c cs) (hi : i < n) (h1c : ∀ v ∈ cs, v.oneCell' = true) :
    Calls Tryz.prog 57 #[.slice (some ⟨b, o, none⟩) n c, .int .i64 (i : Int), .int .i64 ((i : Int) + 1)] w (DelP base w b o n c i cs) := by
  have hl := h.len
  have hnc := h.cap
  have hmx := h.max
  obtain ⟨b', o', cur, e, hb0, hb, hsz, hcur⟩ := h.som _ rfl
  cases e
  have hnk : n * 4 ≤ c * 4 := Nat.mul_le_mul_right 4 hnc
  have hcs : ∀ j v, cs[j]? = some v → w.cell? ⟨b, o + j, none⟩ = some v := fun j v hj => by
    simp only [World.cell?, hb]
    exact hcur j v hj
  have fin : ∀ (K : Nat), n = i + 1 + K → ∀ vs : List Value, vs = cs.drop ((i + 1) * 4) → ∀ e w', e = .returned (.slice (some ⟨b, o, none⟩) (i + K) c) ∧ w' = ((w.drew.setCells b (o + i * 4) vs).setCells b (o + (i + K) * 4) [.string ⟨#[]⟩, .bool false, .int .i64 0, .slice none 0 0]) → DelP base w b o n c i cs e w' := by
    rintro K hK vs rfl e w' ⟨rfl, rfl⟩
    have hdl : (cs.drop ((i + 1) * 4)).length = K * 4 := by rw [List.length_drop, hl, hK]; omega
    obtain ⟨cur1, hb1, hs1⟩ := gc.setCells_blk (cs.drop ((i + 1) * 4)) (o + i * 4) w.drew cur hb
    obtain ⟨cur2, hb2, hs2⟩ := gc.setCells_blk [.string ⟨#[]⟩, .bool false, .int .i64 0, .slice none 0 0] (o + (i + K) * 4) (w.drew.setCells b (o + i * 4) (cs.drop ((i + 1) * 4))) cur1 hb1
    have g1 := gc.setCells_grown w.drew b (o + i * 4) (cs.drop ((i + 1) * 4))
    have g2 := gc.setCells_grown (w.drew.setCells b (o + i * 4) (cs.drop ((i + 1) * 4))) b (o + (i + K) * 4) [.string ⟨#[]⟩, .bool false, .int .i64 0, .slice none 0 0]
    have hsA : w.heap.size ≤ (w.drew.setCells b (o + i * 4) (cs.drop ((i + 1) * 4))).heap.size := g1.size
    refine ⟨by rw [show n - 1 = i + K by omega], ⟨?_, by omega, hmx, (fun e => by cases e), fun a e => ?_⟩, ⟨g2.os.trans g1.os, g2.tape.trans g1.tape, g2.output.trans g1.output, Nat.le_trans hsA g2.size, fun k hk hne => (g2.block k (Nat.lt_of_lt_of_le hk hsA) hne).trans (g1.block k hk hne)⟩⟩
    · rw [List.length_append, List.length_take, hdl, hl]; omega
    · cases e
      refine ⟨b, o, cur2, rfl, hb0, hb2, by omega, fun j v hj => ?_⟩
      have hjl := (List.getElem?_eq_some_iff.1 hj).1
      rw [List.length_append, List.length_take, hdl, hl] at hjl
      have key : ((w.drew.setCells b (o + i * 4) (cs.drop ((i + 1) * 4))).setCells b (o + (i + K) * 4) [.string ⟨#[]⟩, .bool false, .int .i64 0, .slice none 0 0]).cell? ⟨b, o + j, none⟩ = some v := by
        rw [World.cell?_setCells_out b _ _ _ _ (fun _ _ => Or.inl (by show o + j < o + (i + K) * 4; omega))]
        have ht : (cs.take (i * 4)).length = i * 4 := by rw [List.length_take, hl]; omega
        rcases Nat.lt_or_ge j (i * 4) with hlt | hge
        · rw [World.cell?_setCells_out b _ _ _ _ (fun _ _ => Or.inl (by show o + j < o + i * 4; omega))]
          rw [List.getElem?_append_left (by omega), List.getElem?_take_of_lt hlt] at hj
          exact hcs j v hj
        · rw [List.getElem?_append_right (by omega), ht] at hj
          have htl := (List.getElem?_eq_some_iff.1 hj).1
          have := World.cell?_setCells_in b (cs.drop ((i + 1) * 4)) (o + i * 4) w.drew (fun u hu => by
            show (w.cell? _).isSome = true
            simp only [World.cell?, hb]
            rw [Array.getElem?_eq_getElem (by omega)]
            rfl) (j - i * 4) htl
          rw [show o + i * 4 + (j - i * 4) = o + j by omega] at this
          rw [this, ← hj, List.getElem?_eq_getElem htl]
      simp only [World.cell?, hb2] at key
      exact key
  rcases Nat.lt_or_ge (i + 1) n with hlt | hge
  · obtain ⟨K, rfl⟩ : ∃ K, n = i + 1 + K := ⟨n - (i + 1), by omega⟩
    exact (delP_run (by omega) hnc hmx hl hcs hb (by omega) h1c).mono (fin K rfl _ rfl)
  · obtain rfl : n = i + 1 := by omega
    have hd : ([] : List Value) = cs.drop ((i + 1) * 4) := (List.drop_eq_nil_of_le (by omega)).symm
    by_cases he : i + 1 = c
    · exact (delP_cap he hmx hb (by omega)).mono (fin 0 rfl _ hd)
    · exact (delP_end (by omega) hmx hb (by omega)).mono (fin 0 rfl _ hd)
end
section
variable {w : World} {b o n c i base : Nat} {cs : List Value}
/-- One Toxic less. -/
def DelT (base : Nat) (w : World) (b o n c i : Nat) (cs : List Value) (e : Ending) (w' : World) : Prop := e = .returned (.slice (some ⟨b, o, none⟩) (n - 1) c) ∧ gc.ORow w' base TT 6 (some ⟨b, o, none⟩) (n - 1) c (cs.take (i * 6) ++ cs.drop ((i + 1) * 6)) ∧ w.grownBy w' (some b)
set_option maxRecDepth 100000 in
set_option maxHeartbeats 8000000 in
theorem delT_run {K : Nat} (hK : 1 ≤ K) (hnc : i + 1 + K ≤ c) (hc : c ≤ maxLen) (hcl : cs.length = (i + 1 + K) * 6) (hcs : ∀ j v, cs[j]? = some v → w.cell? ⟨b, o + j, none⟩ = some v) {cur : Array Value} (hb : w.heap[b]? = some (.cells cur TT (0, 0))) (hsp : o + (i + 1 + K) * 6 ≤ cur.size)
    (h1c : ∀ v ∈ cs, v.oneCell' = true) :
    Calls Tryz.prog 49 #[.slice (some ⟨b, o, none⟩) (i + 1 + K) c, .int .i64 (i : Int), .int .i64 ((i : Int) + 1)] w fun e w' =>
      e = .returned (.slice (some ⟨b, o, none⟩) (i + K) c) ∧ w' = ((w.drew.setCells b (o + i * 6) (cs.drop ((i + 1) * 6))).setCells b (o + (i + K) * 6) [.string ⟨#[]⟩, .int .i64 0, .bool false, .int .i64 0, .int .i64 0, .int .i64 0]) := by
  obtain ⟨i0, hi0, hz0, hzs, hzb⟩ := info_parts infoT
  have hsome : ∀ k, k < (i + 1 + K) * 6 → (w.cell? ⟨b, o + k, none⟩).isSome = true := fun k hk => by
    simp only [World.cell?, hb]
    rw [Array.getElem?_eq_getElem (by omega)]
    rfl
  have hfro : ∀ k, w.frozen? ⟨b, k, none⟩ = false := fun k => by simp [World.frozen?, hb]
  have s1 : Hid ((cs.drop ((i + 1) * 6)).length = K * 6) := Lib.hid (by rw [List.length_drop, hcl]; omega)
  have s2 : Hid (∀ t u, (cs.drop ((i + 1) * 6))[t]? = some u → w.drew.cell? ((⟨b, o + (i + 1) * 6, none⟩ : Addr).add t) = some u) := Lib.hid (fun t u hu => by
    rw [WideShapes.add_plain, Nat.add_assoc]; exact hcs ((i + 1) * 6 + t) u (by rwa [List.getElem?_drop] at hu))
  have s3 : Hid (∀ u ∈ (cs.drop ((i + 1) * 6)), u.oneCell' = true) := Lib.hid (fun u hu => h1c u (List.mem_of_mem_drop hu))
  have s4 : Hid (∀ t, t < (cs.drop ((i + 1) * 6)).length → (w.drew.cell? ⟨b, o + i * 6 + t, none⟩).isSome = true ∧ w.drew.frozen? ⟨b, o + i * 6 + t, none⟩ = false) := Lib.hid (fun t ht => by
    rw [Nat.add_assoc]
    rw [s1.out] at ht
    exact ⟨hsome _ (by omega), hfro _⟩)
  have HI := Lib.hid (⟨hi0, hzs⟩ : Tryz.prog.info? TT = some i0 ∧ i0.size = 6)
  obtain ⟨W1, hW1⟩ : ∃ W1, w.drew.setCells b (o + i * 6) (cs.drop ((i + 1) * 6)) = W1 := ⟨_, rfl⟩
  have hcell1 : ∀ j, j < 6 → (W1.cell? ⟨b, o + (i + K) * 6 + j, none⟩).isSome = true := fun j hj => by
    rw [← hW1]
    refine isSome_set b _ _ (fun t ht => (s4.out t ht).1) _ ?_
    rw [Nat.add_assoc]
    exact hsome _ (by omega)
  have hC : ∀ ty n1 c1, n1 = 1 → (Builtin.clear_ #[35] ty #[.slice (some ⟨b, o + (i + K) * 6, none⟩) n1 c1]).run Tryz.prog W1 = .ok (.tuple #[]) (W1.setCells b (o + (i + K) * 6) [.string ⟨#[]⟩, .int .i64 0, .bool false, .int .i64 0, .int .i64 0, .int .i64 0]) := fun ty n1 c1 h1 => by
    subst h1
    exact run_clear_one W1 35 TT ty (.agg #[.string ⟨#[]⟩, .int .i64 0, .bool false, .int .i64 0, .int .i64 0, .int .i64 0]) Tryz.underlying35 Tryz.zeroValue24 (by simp [Value.cells, Value.oneCell']) (by decide) b (o + (i + K) * 6) c1 hcell1 (fun j _ => by rw [← hW1, World.frozen?_setCells]; exact hfro _)
  have HC := Lib.hid (fun ty c1 => hC ty (i + 1 + K - (i + K)) c1 (by omega))
  have HC2 := Lib.hid (fun ty c1 => hC ty 1 c1 rfl)
  have HC3 := Lib.hid (fun ty c1 => hC ty (i + 1 - i) c1 (by omega))
  have HW := Lib.hid hW1
  have hij : ¬ ((i : Int) = (i : Int) + 1) := by omega
  have hti : ((i : Int) + 1).toNat = i + 1 := by omega
  have hic : ¬ (c = i) := by omega
  have hjc : ¬ (c = i + 1) := by omega
  have hkc : ¬ (c = i + K) := by omega
  have hkc2 : ¬ (i + 1 + K = i) := by omega
  have hi0' : (0 : Int) ≤ (i : Int) + 1 := by omega
  have hin : (i : Int) + 1 ≤ (i : Int) + 1 + (K : Int) := by omega
  have hin2 : (i : Int) + (K : Int) ≤ (i : Int) + 1 + (K : Int) := by omega
  have hin3 : (i : Int) + 1 + (K : Int) ≤ (c : Int) := by omega
  have hK1 : i + 1 + K - (i + 1) = K := by omega
  have hin4 : (i : Int) ≤ (i : Int) + 1 + (K : Int) := by omega
  have hicc : i ≤ c := by omega
  have hicc2 : (i : Int) ≤ (c : Int) := by omega
  have hc63 : c ≤ 9223372036854775807 := by unfold maxLen at hc; omega
  clear hcs hsome hfro hcell1 hC hb hsp hi0 hz0 hzs hzb hcl h1c hW1
  skip
  go_enter Tryz.func49, Tryz.ntmps49
  go_wp2_with fail
  go_region_law (refine step_append_room rfl (.tmp 22) (.tmp 25) 35 rfl TT i0 6 Tryz.underlying35 HI.out.1 HI.out.2 b o i c (by simp [Act.eval, Act.put]) ⟨b, o + (i + 1) * 6, none⟩ K (c - (i + 1)) (cs.drop ((i + 1) * 6)) (by simp [Act.eval, Act.put]) s1.out s2.out s3.out (by omega) s4.out ?_; rw [HW.out])
  all_goals go_wp2_with (first | simp only [HC.out] | simp only [HC2.out] | simp only [HC3.out])
  all_goals go_ret
  all_goals exact ⟨rfl, by rw [HW.out]⟩
set_option maxRecDepth 100000 in
set_option maxHeartbeats 8000000 in
theorem delT_cap (hnc : i + 1 = c) (hc : c ≤ maxLen) {cur : Array Value} (hb : w.heap[b]? = some (.cells cur TT (0, 0))) (hsp : o + (i + 1) * 6 ≤ cur.size) :
    Calls Tryz.prog 49 #[.slice (some ⟨b, o, none⟩) (i + 1) c, .int .i64 (i : Int), .int .i64 ((i : Int) + 1)] w fun e w' =>
      e = .returned (.slice (some ⟨b, o, none⟩) (i) c) ∧ w' = ((w.drew.setCells b (o + i * 6) []).setCells b (o + (i) * 6) [.string ⟨#[]⟩, .int .i64 0, .bool false, .int .i64 0, .int .i64 0, .int .i64 0]) := by
  obtain ⟨i0, hi0, hz0, hzs, hzb⟩ := info_parts infoT
  have hsome : ∀ k, k < (i + 1) * 6 → (w.cell? ⟨b, o + k, none⟩).isSome = true := fun k hk => by
    simp only [World.cell?, hb]
    rw [Array.getElem?_eq_getElem (by omega)]
    rfl
  have hfro : ∀ k, w.frozen? ⟨b, k, none⟩ = false := fun k => by simp [World.frozen?, hb]
  have s1 : Hid (([] : List Value).length = 0 * 6) := Lib.hid (by rfl)
  have s2 : Hid (∀ t u, ([] : List Value)[t]? = some u → w.drew.cell? ((⟨b, o, none⟩ : Addr).add t) = some u) := Lib.hid (fun t u hu => by
    simp at hu)
  have s3 : Hid (∀ u ∈ ([] : List Value), u.oneCell' = true) := Lib.hid (fun u hu => by simp at hu)
  have s4 : Hid (∀ t, t < ([] : List Value).length → (w.drew.cell? ⟨b, o + i * 6 + t, none⟩).isSome = true ∧ w.drew.frozen? ⟨b, o + i * 6 + t, none⟩ = false) := Lib.hid (fun t ht => by
    rw [Nat.add_assoc]
    rw [s1.out] at ht
    exact ⟨hsome _ (by omega), hfro _⟩)
  have HI := Lib.hid (⟨hi0, hzs⟩ : Tryz.prog.info? TT = some i0 ∧ i0.size = 6)
  obtain ⟨W1, hW1⟩ : ∃ W1, w.drew.setCells b (o + i * 6) [] = W1 := ⟨_, rfl⟩
  have hcell1 : ∀ j, j < 6 → (W1.cell? ⟨b, o + (i) * 6 + j, none⟩).isSome = true := fun j hj => by
    rw [← hW1]
    refine isSome_set b _ _ (fun t ht => (s4.out t ht).1) _ ?_
    rw [Nat.add_assoc]
    exact hsome _ (by omega)
  have hC : ∀ ty n1 c1, n1 = 1 → (Builtin.clear_ #[35] ty #[.slice (some ⟨b, o + (i) * 6, none⟩) n1 c1]).run Tryz.prog W1 = .ok (.tuple #[]) (W1.setCells b (o + (i) * 6) [.string ⟨#[]⟩, .int .i64 0, .bool false, .int .i64 0, .int .i64 0, .int .i64 0]) := fun ty n1 c1 h1 => by
    subst h1
    exact run_clear_one W1 35 TT ty (.agg #[.string ⟨#[]⟩, .int .i64 0, .bool false, .int .i64 0, .int .i64 0, .int .i64 0]) Tryz.underlying35 Tryz.zeroValue24 (by simp [Value.cells, Value.oneCell']) (by decide) b (o + (i) * 6) c1 hcell1 (fun j _ => by rw [← hW1, World.frozen?_setCells]; exact hfro _)
  have HC := Lib.hid (fun ty c1 => hC ty (i + 1 - (i)) c1 (by omega))
  have HC2 := Lib.hid (fun ty c1 => hC ty 1 c1 rfl)
  have HC3 := Lib.hid (fun ty c1 => hC ty (i + 1 - i) c1 (by omega))
  have HW := Lib.hid hW1
  have hij : ¬ ((i : Int) = (i : Int) + 1) := by omega
  have hti : ((i : Int) + 1).toNat = i + 1 := by omega
  have hic : ¬ (c = i) := by omega
  have hjc : c = i + 1 := by omega
  have hkc : ¬ (c = i) := by omega
  have hkc2 : ¬ (i + 1 = i) := by omega
  have hi0' : (0 : Int) ≤ (i : Int) + 1 := by omega
  have hin3 : (i : Int) + 1 ≤ (c : Int) := by omega
  have hK1 : i + 1 - (i + 1) = 0 := by omega
  have hin4 : (i : Int) ≤ (i : Int) + 1 := by omega
  have hicc : i ≤ c := by omega
  have hicc2 : (i : Int) ≤ (c : Int) := by omega
  have hc63 : c ≤ 9223372036854775807 := by unfold maxLen at hc; omega
  clear hsome hfro hcell1 hC hb hsp hi0 hz0 hzs hzb hW1
  subst hjc
  go_enter Tryz.func49, Tryz.ntmps49
  go_wp2_with fail
  go_region_law (refine step_append_room rfl (.tmp 22) (.tmp 25) 35 rfl TT i0 6 Tryz.underlying35 HI.out.1 HI.out.2 b o i (i + 1) (by simp [Act.eval, Act.put]) ⟨b, o, none⟩ 0 (i + 1 - (i + 1)) ([] : List Value) (by simp [Act.eval, Act.put]) s1.out s2.out s3.out (by omega) s4.out ?_; rw [HW.out])
  all_goals go_wp2_with (first | simp only [HC.out] | simp only [HC2.out] | simp only [HC3.out])
  all_goals go_ret
  all_goals exact ⟨rfl, by rw [HW.out]⟩
set_option maxRecDepth 100000 in
set_option maxHeartbeats 8000000 in
theorem delT_end (hnc : i + 1 < c) (hc : c ≤ maxLen) {cur : Array Value} (hb : w.heap[b]? = some (.cells cur TT (0, 0))) (hsp : o + (i + 1) * 6 ≤ cur.size) :
    Calls Tryz.prog 49 #[.slice (some ⟨b, o, none⟩) (i + 1) c, .int .i64 (i : Int), .int .i64 ((i : Int) + 1)] w fun e w' =>
      e = .returned (.slice (some ⟨b, o, none⟩) (i) c) ∧ w' = ((w.drew.setCells b (o + i * 6) []).setCells b (o + (i) * 6) [.string ⟨#[]⟩, .int .i64 0, .bool false, .int .i64 0, .int .i64 0, .int .i64 0]) := by
  obtain ⟨i0, hi0, hz0, hzs, hzb⟩ := info_parts infoT
  have hsome : ∀ k, k < (i + 1) * 6 → (w.cell? ⟨b, o + k, none⟩).isSome = true := fun k hk => by
    simp only [World.cell?, hb]
    rw [Array.getElem?_eq_getElem (by omega)]
    rfl
  have hfro : ∀ k, w.frozen? ⟨b, k, none⟩ = false := fun k => by simp [World.frozen?, hb]
  have s1 : Hid (([] : List Value).length = 0 * 6) := Lib.hid (by rfl)
  have s2 : Hid (∀ t u, ([] : List Value)[t]? = some u → w.drew.cell? ((⟨b, o + (i + 1) * 6, none⟩ : Addr).add t) = some u) := Lib.hid (fun t u hu => by
    simp at hu)
  have s3 : Hid (∀ u ∈ ([] : List Value), u.oneCell' = true) := Lib.hid (fun u hu => by simp at hu)
  have s4 : Hid (∀ t, t < ([] : List Value).length → (w.drew.cell? ⟨b, o + i * 6 + t, none⟩).isSome = true ∧ w.drew.frozen? ⟨b, o + i * 6 + t, none⟩ = false) := Lib.hid (fun t ht => by
    rw [Nat.add_assoc]
    rw [s1.out] at ht
    exact ⟨hsome _ (by omega), hfro _⟩)
  have HI := Lib.hid (⟨hi0, hzs⟩ : Tryz.prog.info? TT = some i0 ∧ i0.size = 6)
  obtain ⟨W1, hW1⟩ : ∃ W1, w.drew.setCells b (o + i * 6) [] = W1 := ⟨_, rfl⟩
  have hcell1 : ∀ j, j < 6 → (W1.cell? ⟨b, o + (i) * 6 + j, none⟩).isSome = true := fun j hj => by
    rw [← hW1]
    refine isSome_set b _ _ (fun t ht => (s4.out t ht).1) _ ?_
    rw [Nat.add_assoc]
    exact hsome _ (by omega)
  have hC : ∀ ty n1 c1, n1 = 1 → (Builtin.clear_ #[35] ty #[.slice (some ⟨b, o + (i) * 6, none⟩) n1 c1]).run Tryz.prog W1 = .ok (.tuple #[]) (W1.setCells b (o + (i) * 6) [.string ⟨#[]⟩, .int .i64 0, .bool false, .int .i64 0, .int .i64 0, .int .i64 0]) := fun ty n1 c1 h1 => by
    subst h1
    exact run_clear_one W1 35 TT ty (.agg #[.string ⟨#[]⟩, .int .i64 0, .bool false, .int .i64 0, .int .i64 0, .int .i64 0]) Tryz.underlying35 Tryz.zeroValue24 (by simp [Value.cells, Value.oneCell']) (by decide) b (o + (i) * 6) c1 hcell1 (fun j _ => by rw [← hW1, World.frozen?_setCells]; exact hfro _)
  have HC := Lib.hid (fun ty c1 => hC ty (i + 1 - (i)) c1 (by omega))
  have HC2 := Lib.hid (fun ty c1 => hC ty 1 c1 rfl)
  have HC3 := Lib.hid (fun ty c1 => hC ty (i + 1 - i) c1 (by omega))
  have HW := Lib.hid hW1
  have hij : ¬ ((i : Int) = (i : Int) + 1) := by omega
  have hti : ((i : Int) + 1).toNat = i + 1 := by omega
  have hic : ¬ (c = i) := by omega
  have hjc : ¬ (c = i + 1) := by omega
  have hkc : ¬ (c = i) := by omega
  have hkc2 : ¬ (i + 1 = i) := by omega
  have hi0' : (0 : Int) ≤ (i : Int) + 1 := by omega
  have hin3 : (i : Int) + 1 ≤ (c : Int) := by omega
  have hK1 : i + 1 - (i + 1) = 0 := by omega
  have hin4 : (i : Int) ≤ (i : Int) + 1 := by omega
  have hicc : i ≤ c := by omega
  have hicc2 : (i : Int) ≤ (c : Int) := by omega
  have hc63 : c ≤ 9223372036854775807 := by unfold maxLen at hc; omega
  clear hsome hfro hcell1 hC hb hsp hi0 hz0 hzs hzb hW1
  skip
  go_enter Tryz.func49, Tryz.ntmps49
  go_wp2_with fail
  go_region_law (refine step_append_room rfl (.tmp 22) (.tmp 25) 35 rfl TT i0 6 Tryz.underlying35 HI.out.1 HI.out.2 b o i c (by simp [Act.eval, Act.put]) ⟨b, o + (i + 1) * 6, none⟩ 0 (c - (i + 1)) ([] : List Value) (by simp [Act.eval, Act.put]) s1.out s2.out s3.out (by omega) s4.out ?_; rw [HW.out])
  all_goals go_wp2_with (first | simp only [HC.out] | simp only [HC2.out] | simp only [HC3.out])
  all_goals go_ret
  all_goals exact ⟨rfl, by rw [HW.out]⟩
theorem delT_any (h : gc.ORow w base TT 6 (some ⟨b, o, none⟩) n c cs) (hi : i < n) (h1c : ∀ v ∈ cs, v.oneCell' = true) :
    Calls Tryz.prog 49 #[.slice (some ⟨b, o, none⟩) n c, .int .i64 (i : Int), .int .i64 ((i : Int) + 1)] w (DelT base w b o n c i cs) := by
  have hl := h.len
  have hnc := h.cap
  have hmx := h.max
  obtain ⟨b', o', cur, e, hb0, hb, hsz, hcur⟩ := h.som _ rfl
  cases e
  have hnk : n * 6 ≤ c * 6 := Nat.mul_le_mul_right 6 hnc
  have hcs : ∀ j v, cs[j]? = some v → w.cell? ⟨b, o + j, none⟩ = some v := fun j v hj => by
    simp only [World.cell?, hb]
    exact hcur j v hj
  have fin : ∀ (K : Nat), n = i + 1 + K → ∀ vs : List Value, vs = cs.drop ((i + 1) * 6) → ∀ e w', e = .returned (.slice (some ⟨b, o, none⟩) (i + K) c) ∧ w' = ((w.drew.setCells b (o + i * 6) vs).setCells b (o + (i + K) * 6) [.string ⟨#[]⟩, .int .i64 0, .bool false, .int .i64 0, .int .i64 0, .int .i64 0]) → DelT base w b o n c i cs e w' := by
    rintro K hK vs rfl e w' ⟨rfl, rfl⟩
    have hdl : (cs.drop ((i + 1) * 6)).length = K * 6 := by rw [List.length_drop, hl, hK]; omega
    obtain ⟨cur1, hb1, hs1⟩ := gc.setCells_blk (cs.drop ((i + 1) * 6)) (o + i * 6) w.drew cur hb
    obtain ⟨cur2, hb2, hs2⟩ := gc.setCells_blk [.string ⟨#[]⟩, .int .i64 0, .bool false, .int .i64 0, .int .i64 0, .int .i64 0] (o + (i + K) * 6) (w.drew.setCells b (o + i * 6) (cs.drop ((i + 1) * 6))) cur1 hb1
    have g1 := gc.setCells_grown w.drew b (o + i * 6) (cs.drop ((i + 1) * 6))
    have g2 := gc.setCells_grown (w.drew.setCells b (o + i * 6) (cs.drop ((i + 1) * 6))) b (o + (i + K) * 6) [.string ⟨#[]⟩, .int .i64 0, .bool false, .int .i64 0, .int .i64 0, .int .i64 0]
    have hsA : w.heap.size ≤ (w.drew.setCells b (o + i * 6) (cs.drop ((i + 1) * 6))).heap.size := g1.size
    refine ⟨by rw [show n - 1 = i + K by omega], ⟨?_, by omega, hmx, (fun e => by cases e), fun a e => ?_⟩, ⟨g2.os.trans g1.os, g2.tape.trans g1.tape, g2.output.trans g1.output, Nat.le_trans hsA g2.size, fun k hk hne => (g2.block k (Nat.lt_of_lt_of_le hk hsA) hne).trans (g1.block k hk hne)⟩⟩
    · rw [List.length_append, List.length_take, hdl, hl]; omega
    · cases e
      refine ⟨b, o, cur2, rfl, hb0, hb2, by omega, fun j v hj => ?_⟩
      have hjl := (List.getElem?_eq_some_iff.1 hj).1
      rw [List.length_append, List.length_take, hdl, hl] at hjl
      have key : ((w.drew.setCells b (o + i * 6) (cs.drop ((i + 1) * 6))).setCells b (o + (i + K) * 6) [.string ⟨#[]⟩, .int .i64 0, .bool false, .int .i64 0, .int .i64 0, .int .i64 0]).cell? ⟨b, o + j, none⟩ = some v := by
        rw [World.cell?_setCells_out b _ _ _ _ (fun _ _ => Or.inl (by show o + j < o + (i + K) * 6; omega))]
        have ht : (cs.take (i * 6)).length = i * 6 := by rw [List.length_take, hl]; omega
        rcases Nat.lt_or_ge j (i * 6) with hlt | hge
        · rw [World.cell?_setCells_out b _ _ _ _ (fun _ _ => Or.inl (by show o + j < o + i * 6; omega))]
          rw [List.getElem?_append_left (by omega), List.getElem?_take_of_lt hlt] at hj
          exact hcs j v hj
        · rw [List.getElem?_append_right (by omega), ht] at hj
          have htl := (List.getElem?_eq_some_iff.1 hj).1
          have := World.cell?_setCells_in b (cs.drop ((i + 1) * 6)) (o + i * 6) w.drew (fun u hu => by
            show (w.cell? _).isSome = true
            simp only [World.cell?, hb]
            rw [Array.getElem?_eq_getElem (by omega)]
            rfl) (j - i * 6) htl
          rw [show o + i * 6 + (j - i * 6) = o + j by omega] at this
          rw [this, ← hj, List.getElem?_eq_getElem htl]
      simp only [World.cell?, hb2] at key
      exact key
  rcases Nat.lt_or_ge (i + 1) n with hlt | hge
  · obtain ⟨K, rfl⟩ : ∃ K, n = i + 1 + K := ⟨n - (i + 1), by omega⟩
    exact (delT_run (by omega) hnc hmx hl hcs hb (by omega) h1c).mono (fin K rfl _ rfl)
  · obtain rfl : n = i + 1 := by omega
    have hd : ([] : List Value) = cs.drop ((i + 1) * 6) := (List.drop_eq_nil_of_le (by omega)).symm
    by_cases he : i + 1 = c
    · exact (delT_cap he hmx hb (by omega)).mono (fin 0 rfl _ hd)
    · exact (delT_end (by omega) hmx hb (by omega)).mono (fin 0 rfl _ hd)
end
end Go.Proofs.YtmghkcjljnlocaaGreatDoor
