/-
  Contract: what a replacer of single bytes is built of. Conditions: as each states.
-/
import Derived.Test.YtngnkkigjlenoaaGreatDoorI
import Derived.Laws.Tables
import Derived.Laws.CopyOwn
namespace Go.Proofs.YtngnkkigjlenoaaGreatDoor
open Go.RowKit

def rowR (v : Value) : Array Value := (Array.replicate 256 nilS).push v
theorem rowR_size (v : Value) : (rowR v).size = 257 := by simp [rowR]
theorem rowR_low (v : Value) (i : Nat) (hi : i < 256) : (rowR v)[i]? = some nilS := by
  unfold rowR
  rw [Array.getElem?_push, if_neg (by simp; omega), Array.getElem?_replicate, if_pos hi]
theorem rowR_top (v : Value) : (rowR v)[256]? = some v := by
  unfold rowR
  rw [Array.getElem?_push, if_pos (by simp)]
def bldR (parts : Array (Nat × Value)) : Sem Value := Instr.build TB parts
theorem to_bldR (parts : Array (Nat × Value)) : Instr.build 90 parts = bldR parts := rfl
theorem run_bldR (q : Option Addr) (m d : Nat) (w : World) : (bldR #[(1, .slice q m d)]).run Tryz.prog w = .ok (.agg (rowR (.slice q m d))) w := run_build w _ _ _ (by kernel_rfl)
def allR : Sem Value := Instr.alloc TB true (.tuple #[])
theorem to_allR : Instr.alloc 90 true (.tuple #[]) = allR := rfl
theorem run_allR (w : World) : allR.run Tryz.prog w = .ok (.pointer (some ⟨w.heap.size, 0, none⟩)) (w.alloc (.cells (rowR nilS) TB)) := by
  have hz : Tryz.t90.zero = some (.agg (rowR nilS)) := by kernel_rfl
  unfold allR Instr.alloc zeroValue
  generalize rowR nilS = R at *
  simp [newVar, newRow, Value.cells, go_sem, hz]
def stoR (v x : Value) : Sem Unit := Instr.storeAt TB v x
theorem to_stoR (v x : Value) : Instr.storeAt 90 v x = stoR v x := rfl
theorem okR (q : Option Addr) (m d : Nat) : OkC 257 (rowR (.slice q m d)) := by
  refine ⟨rowR_size _, ?_⟩
  unfold rowR
  rw [Array.all_push, Array.all_replicate]
  rfl
theorem run_stoR {q : Nat} {w : World} {cs : Array Value} (h : IsB TB 257 w q) (hv : OkC 257 cs) : (stoR (.pointer (some ⟨q, 0, none⟩)) (.agg cs)).run Tryz.prog w = .ok () (w.setRow q cs) := run_storeB (by kernel_rfl) h hv
section
attribute [local go_sem ↓] to_bldR to_allR to_stoR
attribute [local go_sem] run_bldR run_allR
theorem make2 : ∀ W : World, (Instr.makeSlice 22 (.int .i64 0) (.int .i64 2)).run Tryz.prog W = .ok (.slice (some ⟨W.heap.size, 0, none⟩) 0 2) (W.alloc (.cells #[.string ⟨#[]⟩, .string ⟨#[]⟩] 9)) := by
  intro W
  obtain ⟨i0, hi0, hz0, hz1, hz2⟩ := info_parts infoS
  have h := run_makeSlice (P := Tryz.prog) (w := W) 22 9 i0 (.string ⟨#[]⟩) Tryz.underlying22 hi0 hz0 .i64 .i64 0 2 (by omega) (by omega) (by rw [hz1]; omega) (by rw [hz2]; decide) (by decide)
  rw [hz1, show madeCells (Value.string ⟨#[]⟩).cells (Int.toNat 2 * 1) = #[.string ⟨#[]⟩, .string ⟨#[]⟩] by kernel_rfl] at h
  exact h
set_option maxRecDepth 100000 in
theorem nil_eq (W : World) : (binOp .eql 40 (.slice none 0 0) (.slice none 0 0)).run Tryz.prog W = .ok (.bool true) W := by rfl
set_option maxRecDepth 100000 in
theorem nil_ne (W : World) : (binOp .neq 40 (.slice none 0 0) (.slice none 0 0)).run Tryz.prog W = .ok (.bool false) W := by rfl
set_option maxRecDepth 100000 in
theorem some_ne (a : Addr) (n c : Nat) (W : World) : (binOp .neq 40 (.slice (some a) n c) (.slice none 0 0)).run Tryz.prog W = .ok (.bool true) W := by rfl
/-- What a replacer is told: two signs, and what is written for them. -/
def OldNew (w : World) (Q : Nat) : Prop := w.cell? ⟨Q, 0, none⟩ = some (.string ⟨#[34]⟩) ∧ w.cell? ⟨Q, 1, none⟩ = some (.string ⟨#[92, 34]⟩) ∧ w.cell? ⟨Q, 2, none⟩ = some (.string ⟨#[92]⟩) ∧ w.cell? ⟨Q, 3, none⟩ = some (.string ⟨#[92, 92]⟩)
theorem OldNew.on {w w' : World} {Q : Nat} (h : OldNew w Q) (hb : Below w.heap.size w w') : OldNew w' Q := by
  obtain ⟨h0, h1, h2, h3⟩ := h
  exact ⟨(hb.cell (World.block_lt_of_cell? w _ h0)).trans h0, (hb.cell (World.block_lt_of_cell? w _ h1)).trans h1, (hb.cell (World.block_lt_of_cell? w _ h2)).trans h2, (hb.cell (World.block_lt_of_cell? w _ h3)).trans h3⟩
def b34 : ByteArray := ⟨#[34]⟩
def b92 : ByteArray := ⟨#[92]⟩
def g1 (i : Nat) : List Int := if i = 92 then nums ⟨#[92, 92]⟩ else []
def g0 (i : Nat) : List Int := if i = 34 then nums ⟨#[92, 34]⟩ else g1 i
def gJ : Nat → Nat → List Int
  | 2 => fun _ => []
  | 1 => g1
  | _ => g0
def tJ : Nat → List ByteArray
  | 2 => []
  | 1 => [b92]
  | _ => [b92, b34]
theorem RB.start (w : World) : RB w (w.heap.size + 1) (((w.alloc (.cells #[.string ⟨#[]⟩, .string ⟨#[]⟩] 9)).alloc (.cells (rowR nilS) TB)).setRow (w.heap.size + 1) (rowR (.slice (some ⟨w.heap.size, 0, none⟩) 0 2))) [] (fun _ => []) := by
  have b0 : Below w.heap.size w (w.alloc (.cells #[.string ⟨#[]⟩, .string ⟨#[]⟩] 9)) := (Below.refl _ _).alloc (Nat.le_refl _) _
  have s0 : (w.alloc (.cells #[.string ⟨#[]⟩, .string ⟨#[]⟩] 9)).heap.size = w.heap.size + 1 := by simp
  have h0 := heap_alloc_new w (.cells #[.string ⟨#[]⟩, .string ⟨#[]⟩] 9)
  have h1 := heap_alloc_new (w.alloc (.cells #[.string ⟨#[]⟩, .string ⟨#[]⟩] 9)) (.cells (rowR nilS) TB)
  have b1 : Below (w.alloc (.cells #[.string ⟨#[]⟩, .string ⟨#[]⟩] 9)).heap.size (w.alloc (.cells #[.string ⟨#[]⟩, .string ⟨#[]⟩] 9)) ((w.alloc (.cells #[.string ⟨#[]⟩, .string ⟨#[]⟩] 9)).alloc (.cells (rowR nilS) TB)) := (Below.refl _ _).alloc (Nat.le_refl _) _
  rw [s0] at h1 b1
  have h2 := (b1.block w.heap.size (by omega)).trans h0
  have h3 := (setRow_other _ (w.heap.size + 1) w.heap.size (rowR (.slice (some ⟨w.heap.size, 0, none⟩) 0 2)) (by omega)).trans h2
  have h4 : BAt TB (((w.alloc (.cells #[.string ⟨#[]⟩, .string ⟨#[]⟩] 9)).alloc (.cells (rowR nilS) TB)).setRow (w.heap.size + 1) (rowR (.slice (some ⟨w.heap.size, 0, none⟩) 0 2))) (w.heap.size + 1) (rowR (.slice (some ⟨w.heap.size, 0, none⟩) 0 2)) := setRow_heap _ (w.heap.size + 1) _ _ _ _ h1
  refine ⟨⟨some ⟨w.heap.size, 0, none⟩, 2, _, h4, rowR_size _, fun i hi => ⟨nilS, rowR_low _ i hi, by unfold SG; rw [if_pos rfl]⟩, rowR_top _, ?_⟩, below_setRow (b0.trans (b1.mono (by omega))) (by omega) _, by omega⟩
  exact ⟨rfl, Or.inr ⟨w.heap.size, 2, _, rfl, Nat.le_refl _, h3, by simp, by unfold maxLen; simp, rfl, rfl⟩⟩
set_option maxRecDepth 100000 in
set_option maxHeartbeats 8000000 in
theorem build_any (G Q c : Nat) (w : World) (hG : w.cell? ⟨G, 4, none⟩ = some (.slice (some ⟨Q, 0, none⟩) 4 c)) (hQ : OldNew w Q) : Calls Tryz.prog 47 #[.pointer (some ⟨G, 0, none⟩)] w fun e w' => e = .returned (.iface 91 (.pointer (some ⟨w.heap.size + 1, 0, none⟩))) ∧ RB w (w.heap.size + 1) w' (tJ 0) g0 := by
  have hmk := make2
  have h1 := hQ
  have HQ := Lib.hid hQ
  clear hQ
  obtain ⟨q0, q1, q2, q3⟩ := h1
  have HB := Lib.hid (RB.start w)
  have isb : IsB TB 257 ((w.alloc (.cells #[.string ⟨#[]⟩, .string ⟨#[]⟩] 9)).alloc (.cells (rowR nilS) TB)) (w.heap.size + 1) := by
    have s0 : (w.alloc (.cells #[.string ⟨#[]⟩, .string ⟨#[]⟩] 9)).heap.size = w.heap.size + 1 := by simp
    have h1 := heap_alloc_new (w.alloc (.cells #[.string ⟨#[]⟩, .string ⟨#[]⟩] 9)) (.cells (rowR nilS) TB)
    rw [s0] at h1
    exact ⟨_, h1, rowR_size _⟩
  have hst := run_stoR isb (okR (some ⟨w.heap.size, 0, none⟩) 0 2)
  go_enter Tryz.func47, Tryz.ntmps47
  go_wp2_with fail
  go_loopw [4, 5] (fun b i wr => ∃ (i' : Int) (b' : Bool), i = .int .i64 i' ∧ b = .bool b' ∧ w = wr ∧ ((i' = 0 ∧ b' = true) ∨ (i' = 2 ∧ b' = false) ∨ (i' = 4 ∧ b' = false))) (fun _ i _ => 4 - (intOf i).toNat)
  case atStart => exact ⟨0, true, rfl, rfl, rfl, Or.inl ⟨rfl, rfl⟩⟩
  case round =>
    obtain ⟨i', b', rfl, rfl, rfl, hkk⟩ := hrel
    rcases hkk with ⟨rfl, rfl⟩ | ⟨rfl, rfl⟩ | ⟨rfl, rfl⟩
    · go_wp2_with fail
      go_roundw
      case rel => exact ⟨2, false, rfl, rfl, by first | rfl | trivial, Or.inr (Or.inl ⟨rfl, rfl⟩)⟩
      case measure => simp [intOf]
    · go_wp2_with fail
      go_roundw
      case rel => exact ⟨4, false, rfl, rfl, by first | rfl | trivial, Or.inr (Or.inr ⟨rfl, rfl⟩)⟩
      case measure => simp [intOf]
    · go_wp2_with fail
      clear hst isb hmk q0 q1 q2 q3 hG
      generalize hH : w.heap.size + 1 = H at *
      go_loopw [12, 13, 14] (fun i _ _ wr => ∃ (i' : Int) (j : Nat), i = .int .i64 i' ∧ Hid (RB w H wr (tJ j) (gJ j)) ∧ ((i' = 2 ∧ j = 2) ∨ (i' = 0 ∧ j = 1) ∨ (i' = -2 ∧ j = 0))) (fun i _ _ _ => (intOf i + 2).toNat)
      case atStart => exact ⟨2, 2, rfl, HB, Or.inl ⟨rfl, rfl⟩⟩
      case round =>
        clear HB
        obtain ⟨i', j, rfl, HB, hjj⟩ := hrel
        obtain ⟨p0, p1, p2, p3⟩ := HQ.out.on (HB.out.low)
        rcases hjj with ⟨rfl, rfl⟩ | ⟨rfl, rfl⟩ | ⟨rfl, rfl⟩
        · obtain ⟨q, d, q', d', w3, cc, w5, r1, r2, r3, r4, r5, r6, r7, r8, r9⟩ := HB.out.round 92 (by decide) rfl (by decide) (strOfNums [((92 : Nat) : Int)]) ⟨#[92, 92]⟩ (by decide) (by decide)
          have HR := Lib.hid r3
          have HN := Lib.hid (show RB w H _ (tJ 1) (gJ 1) from r9)
          have hcv := conv_bytes (made_one wr 92) rfl 1
          obtain ⟨A2, e2⟩ : ∃ A2, (⟨#[92]⟩ : ByteArray) = A2 := ⟨_, rfl⟩
          have z2 : A2.size = 1 := by rw [← e2]; rfl
          have x2 : (A2[0]'(by omega)).toNat = 92 := by subst e2; rfl
          rw [e2] at p2
          replace r1 : wr.cell? ⟨H, 92, none⟩ = some (.slice none 0 0) := r1
          replace r7 : w5.cell? ⟨H, 92, none⟩ = some (.slice none 0 0) := r7
          replace r2 : wr.cell? ⟨H, 256, none⟩ = some (.slice q 0 d) := r2
          have hne := nil_eq
          clear r3 r9 HB e2
          go_wp2_with (at_builtin; refine Lib.wpList_append_run _ rfl _ _ _ _ rfl (.slice q 0 d) (.slice (some ⟨wr.heap.size + 1, 0, none⟩) 1 1) rfl rfl _ _ (HR.out _) ?_)
          go_roundw
          case rel => exact ⟨0, 1, rfl, HN, Or.inr (Or.inl ⟨rfl, rfl⟩)⟩
          case measure => simp [intOf]
        · obtain ⟨q, d, q', d', w3, cc, w5, r1, r2, r3, r4, r5, r6, r7, r8, r9⟩ := HB.out.round 34 (by decide) rfl (by decide) (strOfNums [((34 : Nat) : Int)]) ⟨#[92, 34]⟩ (by decide) (by decide)
          have HR := Lib.hid r3
          have HN := Lib.hid (show RB w H _ (tJ 0) (gJ 0) from r9)
          have hcv := conv_bytes (made_one wr 34) rfl 1
          obtain ⟨A2, e2⟩ : ∃ A2, (⟨#[34]⟩ : ByteArray) = A2 := ⟨_, rfl⟩
          have z2 : A2.size = 1 := by rw [← e2]; rfl
          have x2 : (A2[0]'(by omega)).toNat = 34 := by subst e2; rfl
          rw [e2] at p0
          replace r1 : wr.cell? ⟨H, 34, none⟩ = some (.slice none 0 0) := r1
          replace r7 : w5.cell? ⟨H, 34, none⟩ = some (.slice none 0 0) := r7
          replace r2 : wr.cell? ⟨H, 256, none⟩ = some (.slice q 1 d) := r2
          have hne := nil_eq
          clear r3 r9 HB e2
          go_wp2_with (at_builtin; refine Lib.wpList_append_run _ rfl _ _ _ _ rfl (.slice q 1 d) (.slice (some ⟨wr.heap.size + 1, 0, none⟩) 1 1) rfl rfl _ _ (HR.out _) ?_)
          go_roundw
          case rel => exact ⟨-2, 0, rfl, HN, Or.inr (Or.inr ⟨rfl, rfl⟩)⟩
          case measure => simp [intOf]
        · go_wp2_with fail
          go_ret
          exact ⟨by rw [hH]; rfl, by rw [hH]; exact HB.out⟩
end
end Go.Proofs.YtngnkkigjlenoaaGreatDoor
