/-
  Contracts: NewReplacer, Replace, written. Conditions: the word's length.
-/
import Derived.Test.YtngnkkigjlenoaaGreatDoorN
namespace Go.Proofs.YtngnkkigjlenoaaGreatDoor
open Go.RowKit

theorem cat_size (a b : ByteArray) : (a ++ b).size = a.size + b.size := ByteArray.size_append
/-- A sum of two texts. -/
theorem cat_run {a b c : ByteArray} (h : a ++ b = c) (ha : a.size ≤ 1100000) (hb : b.size ≤ 1100000) (w : World) : (Op.stringOp .add a b).run Tryz.prog w = .ok (.string c) w := by
  rw [← h]
  exact run_string_add w a b (by omega) (by omega)
/-- What NewReplacer hands back. -/
def NewRep (w : World) (e : Ending) (w' : World) : Prop := ∃ G Q d, e = .returned (.pointer (some ⟨G, 0, none⟩)) ∧ BAt TP w' G (repC 0 0 0 .nilIface (.slice (some ⟨Q, 0, none⟩) 4 d)) ∧ OldNew w' Q ∧ Q ≠ G ∧ w.heap.size ≤ G ∧ Below w.heap.size w w'
def w4 : List ByteArray := [⟨#[34]⟩, ⟨#[92, 34]⟩, ⟨#[92]⟩, ⟨#[92, 92]⟩]
set_option maxRecDepth 100000 in
set_option maxHeartbeats 8000000 in
theorem newrep_any (b c : Nat) (w : World) (hq : OldNew w b) : Calls Tryz.prog 33 #[.slice (some ⟨b, 0, none⟩) 4 c] w (NewRep w) := by
  obtain ⟨i0, hi0, hz0, hz1, hz2⟩ := info_parts infoS
  obtain ⟨q0, q1, q2, q3⟩ := hq
  obtain ⟨v', w1, h1, h2, h3, _⟩ := run_append_own w w.heap.size 22 22 9 i0 (.string ⟨#[]⟩) 1 16 Tryz.underlying22 hi0 hz0 hz1 hz2 rfl (by decide) (.slice none 0 0) 0 [] (World.ownsRow_nil _ _ _ _) ⟨b, 0, none⟩ 4 c (w4.map Value.string) rfl (by
    intro j u hj
    have hj4 : j < 4 := by have := (List.getElem?_eq_some_iff.mp hj).1; simpa [w4] using this
    rw [WideShapes.add_plain, Nat.zero_add]
    have : j = 0 ∨ j = 1 ∨ j = 2 ∨ j = 3 := by omega
    rcases this with rfl | rfl | rfl | rfl <;> (simp [w4] at hj; subst hj; assumption)) (by simp [Value.oneCell', w4]) (by unfold maxLen; omega) (by omega) (Nat.le_refl _)
  rw [List.nil_append] at h2
  obtain ⟨q, d, rfl, h4, _⟩ := own_strs h2
  have hb1 : Below w.heap.size w w1 := (Below.refl _ w).grown h3 (Nat.le_refl _) (fun j hj => by cases hj)
  obtain ⟨Q, rfl, hQ1, hQ2, _⟩ := h4.form (by decide)
  have hold : OldNew w1 Q := ⟨h4.at 0 (by decide), h4.at 1 (by decide), h4.at 2 (by decide), h4.at 3 (by decide)⟩
  have HR := Lib.hid (show ∀ ty, (Builtin.append_ #[22, 22] ty #[.slice none 0 0, .slice (some ⟨b, 0, none⟩) 4 c]).run Tryz.prog w = .ok (.slice (some ⟨Q, 0, none⟩) 4 d) w1 from fun ty => h1)
  have hba : Below w1.heap.size w1 (w1.alloc (.cells (repC 0 0 0 .nilIface (.slice (some ⟨Q, 0, none⟩) 4 d)) TP)) := (Below.refl _ _).alloc (Nat.le_refl _) _
  have HN := Lib.hid (show NewRep w (.returned (.pointer (some ⟨w1.heap.size, 0, none⟩))) (w1.alloc (.cells (repC 0 0 0 .nilIface (.slice (some ⟨Q, 0, none⟩) 4 d)) TP)) from ⟨w1.heap.size, Q, d, rfl, heap_alloc_new w1 _, hold.on hba, by omega, hb1.size, hb1.trans (hba.mono hb1.size)⟩)
  clear q0 q1 q2 q3 h1 h2 h3 h4 hold hba hb1
  go_enter Tryz.func33, Tryz.ntmps33
  go_wp2_with (at_builtin; refine Lib.wpList_append_run _ rfl _ _ _ _ rfl (.slice none 0 0) (.slice (some ⟨b, 0, none⟩) 4 c) rfl rfl _ _ (HR.out _) ?_)
  go_ret
  exact HN.out
set_option maxRecDepth 100000 in
theorem meth_any (H : Nat) (W : World) : (method 264 91 (.pointer (some ⟨H, 0, none⟩)) "Replace").run Tryz.prog W = .ok (120, .pointer (some ⟨H, 0, none⟩)) W := by kernel_rfl
set_option maxRecDepth 100000 in
set_option maxHeartbeats 8000000 in
theorem repl_any {G Q cc B : Nat} {w w0 : World} (s : ByteArray) (hs : s.size ≤ 256) (hG : BAt TP w G (repC 0 0 0 .nilIface (.slice (some ⟨Q, 0, none⟩) 4 cc))) (hQ : OldNew w Q) (hB : B ≤ G) (hb : Below B w0 w) (hQG : Q ≠ G) :
    Calls Tryz.prog 34 #[.pointer (some ⟨G, 0, none⟩), .string s] w fun e w' => e = .returned (.string (strOfNums (escL (nums s)))) ∧ Below B w0 w' := by
  have HD := Lib.hid (do_any hG hQ hB hb hQG)
  have hmf : ∀ (fn : Fn) (first cap : Array Value) (w : World), (Instr.makeFunc fn first cap).run Tryz.prog w = .ok (.func fn first cap) w := fun _ _ _ _ => rfl
  clear hG hQ hb
  go_enter Tryz.func34, Tryz.ntmps34
  go_wp2_with (go_at_call 39; refine HD.out.mono ?_; rintro e w1 ⟨rfl, H, g1, g2, g3⟩; (have c3 : w1.cell? ⟨G, 3, none⟩ = some (.iface 91 (.pointer (some ⟨H, 0, none⟩))) := g1.cell 3); (have HX := Lib.hid (brep_any s hs w1 g2)); (have HG := Lib.hid g3); clear g1 g2 g3)
  have hme := meth_any H w1
  have hGl : G < w1.heap.size := World.block_lt_of_cell? w1 _ c3
  go_wp2_with fail
  refine HX.out.mono ?_
  rintro e w2 ⟨rfl, hb2⟩
  have HY := Lib.hid (show Below B w0 w2 from HG.out.trans (hb2.mono (by omega)))
  clear hb2
  go_wp2_with fail
  go_ret
  exact ⟨rfl, HY.out⟩
theorem str_size (xs : List Int) : (strOfNums xs).size = xs.length := by simp [strOfNums, ByteArray.size]
set_option maxRecDepth 100000 in
set_option maxHeartbeats 8000000 in
theorem written_any (s : ByteArray) (hs : s.size ≤ 256) (w : World) : Calls Tryz.prog 23 #[.string s] w fun e w' => e = .returned (.string (strOfNums (wrtL (nums s)))) ∧ Below w.heap.size w w' := by
  have hm : s.size ≤ maxLen := by unfold maxLen; omega
  have HP := Lib.hid (fun W => plain_any s hm W)
  by_cases hp : plainL (nums s) = true
  · have HE := Lib.hid (show strOfNums (wrtL (nums s)) = s from by unfold wrtL; rw [if_pos hp, str_nums])
    rw [hp] at HP
    go_enter Tryz.func23, Tryz.ntmps23
    go_wp2_with (go_at_call 8; refine (HP.out _).mono ?_; rintro e w' ⟨rfl, rfl⟩)
    go_ret
    exact ⟨by rw [HE.out]; rfl, Below.refl _ _⟩
  · have hp' : plainL (nums s) = false := by simpa using hp
    have HE := Lib.hid (show strOfNums (wrtL (nums s)) = strOfNums (34 :: (escL (nums s) ++ [34])) from by unfold wrtL; rw [if_neg hp])
    rw [hp'] at HP
    have hel := (esc_len (nums s)).2
    rw [nums_length] at hel
    obtain ⟨X, hX⟩ : ∃ X, strOfNums (escL (nums s)) = X := ⟨_, rfl⟩
    have hXs : X.size ≤ 512 := by rw [← hX, str_size]; omega
    obtain ⟨Y, hY⟩ : ∃ Y, (⟨#[34]⟩ : ByteArray) ++ X = Y := ⟨_, rfl⟩
    have hYs : Y.size ≤ 513 := by rw [← hY, cat_size]; show 1 + X.size ≤ 513; omega
    obtain ⟨Z, hZ⟩ : ∃ Z, Y ++ (⟨#[34]⟩ : ByteArray) = Z := ⟨_, rfl⟩
    have HZ := Lib.hid (show Z = strOfNums (34 :: (escL (nums s) ++ [34])) from by
      rw [← hZ, ← hY, ← hX]
      show strOfNums [34] ++ strOfNums _ ++ strOfNums [34] = _
      rw [str_append, str_append]
      rfl)
    have r1 := fun W => cat_run hY (by show 1 ≤ _; omega) (by omega) W
    have r2 := fun W => cat_run hZ (by omega) (by show 1 ≤ _; omega) W
    have hnew := heap_alloc_new w (.cells #[.string ⟨#[34]⟩, .string ⟨#[92, 34]⟩, .string ⟨#[92]⟩, .string ⟨#[92, 92]⟩] 9)
    have hba : Below w.heap.size w (w.alloc (.cells #[.string ⟨#[34]⟩, .string ⟨#[92, 34]⟩, .string ⟨#[92]⟩, .string ⟨#[92, 92]⟩] 9)) := (Below.refl _ _).alloc (Nat.le_refl _) _
    have HN := Lib.hid (newrep_any w.heap.size 4 (w.alloc (.cells #[.string ⟨#[34]⟩, .string ⟨#[92, 34]⟩, .string ⟨#[92]⟩, .string ⟨#[92, 92]⟩] 9)) ⟨cell_of_row _ _ 0 _ _ _ hnew, cell_of_row _ _ 1 _ _ _ hnew, cell_of_row _ _ 2 _ _ _ hnew, cell_of_row _ _ 3 _ _ _ hnew⟩)
    have HB := Lib.hid hba
    clear hp hp' hel hXs hYs hnew hba hm hZ hY
    go_enter Tryz.func23, Tryz.ntmps23
    go_wp2_with (go_at_call 8; refine (HP.out _).mono ?_; rintro e w' ⟨rfl, rfl⟩)
    refine HN.out.mono ?_
    rintro e w2 ⟨G, Q, d, rfl, g1, g2, g3, g4, g5⟩
    have hsz := HB.out.size
    have HRp := Lib.hid (repl_any s hs g1 g2 (B := w.heap.size) (w0 := w) (by omega) (HB.out.trans (g5.mono hsz)) g3)
    rw [hX] at HRp
    clear g1 g2 g3 g4 g5 hX
    go_wp2_with fail
    refine HRp.out.mono ?_
    rintro e w3 ⟨rfl, hb3⟩
    have HB3 := Lib.hid hb3
    clear hb3
    go_wp2_with fail
    go_ret
    exact ⟨by rw [HE.out, ← HZ.out]; rfl, HB3.out⟩
end Go.Proofs.YtngnkkigjlenoaaGreatDoor
