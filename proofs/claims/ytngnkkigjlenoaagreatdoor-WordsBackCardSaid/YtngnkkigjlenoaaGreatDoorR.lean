/-
  What the rows of this seat share: the listed tables, a world that holds them; a toxic that came in. Conditions: none.
-/
import Derived.Test.YtngnkkigjlenoaaGreatDoorT
import Derived.Test.YtngnkkigjlenoaaGreatDoorCards
import Derived.Test.YtngnkkigjlenoaaGreatDoorTie
import Derived.ProofKit
import Derived.OpenShut
import Derived.Carry
import Derived.ChangeMaps5
import Derived.Deep.DeepHandedRow
import Derived.Lib.LaidTab
import Derived.Stop.LaidErr
import Derived.Shelf.Vars
import Derived.Deep.Slices
import Derived.Shelf.LaysM
import Derived.SizedLaws
import Derived.Shelf.Strings.Shaped
namespace Go.Proofs.YtngnkkigjlenoaaGreatDoor
open Go.ChangeShapes Go.WideShapes Go.ChangeAt Go.RowKit

theorem own : ownKnob Tryz.prog.godebug = Option.none := by kernel_rfl
theorem laidOut : laidOutB Tryz.prog = true := by kernel_rfl
theorem cells9 : Tryz.prog.cellsOf 9 = 1 := by kernel_rfl
/-- A word of the library's own holds some number. -/
theorem big_of {W : World} (h : W.ShapedOpen Tryz.prog) : Big W :=
  Go.Proofs.cell_of_shapedOpen_int (zero := #[.int .i64 0]) (t := 3) h (of_decide_eq_true (by kernel_rfl)) (by kernel_rfl) rfl (by kernel_rfl) (by kernel_rfl) Tryz.underlying3
/-- A block's cells, laid anew. -/
def relay (cs : Array Value) : Obj → Obj
  | .cells _ t frozen => .cells cs t frozen
  | o => o
def tab0 : Array Value := #[.int .u8 128, .int .u8 191, .int .u8 160, .int .u8 191, .int .u8 128, .int .u8 159, .int .u8 144, .int .u8 191, .int .u8 128, .int .u8 143, .int .u8 0, .int .u8 0, .int .u8 0, .int .u8 0, .int .u8 0, .int .u8 0, .int .u8 0, .int .u8 0, .int .u8 0, .int .u8 0, .int .u8 0, .int .u8 0, .int .u8 0, .int .u8 0, .int .u8 0, .int .u8 0, .int .u8 0, .int .u8 0, .int .u8 0, .int .u8 0, .int .u8 0, .int .u8 0]
def tab1 : Array Value := ((Go.Pinned.utf8FirstZ.map fun (n : Nat) => Value.int .u8 (n : Int)).toArray)
/-- A world for the witness: the settled one, the tables holding what their initialisers lay. -/
noncomputable def laidWorld (os : Os) : World :=
  { World.holding Tryz.prog os ⟨#[], #[], []⟩ with heap := (((World.holding Tryz.prog os ⟨#[], #[], []⟩).heap.modify 2 (relay tab0)).modify 1 (relay tab1)) }
theorem mem_all {H : Type} {P : Program} {e : TypeId} {n : Nat} (d : DataW H) {l : List (DataW H)} (h : d ∈ l) (hn : n ∈ d.weights P e) : n ∈ DataW.weightsAll P e l := by
  induction l with
  | nil => cases h
  | cons x r ih =>
    simp only [DataW.weightsAll, List.mem_append]
    rcases List.mem_cons.mp h with rfl | h'
    · exact Or.inl hn
    · exact Or.inr (ih h')
/-- Texts that came in. -/
theorem openStrs {H : Type} {enc : TypeId × Value → H} {W : World} {a : Option Addr} {len cap : Nat} {d : DataW H} {p : List MemPlace}
    (h : DataW.Trod enc Tryz.prog W 0 (fun _ => true) true 22 (.slice a len cap) d p) (hsz : ∀ n ∈ d.weights Tryz.prog 22, n ≤ reachBytes) :
    ∃ ss : List ByteArray, TxtIn W a len ss ∧ len ≤ 9223372036854775807 ∧ (∀ t ∈ ss, t.size ≤ maxLen) ∧ ∀ t ∈ ss, t.size ≤ 140737488351232 := by
  obtain ⟨fuel, hf⟩ := h
  rcases open_strings Tryz.underlying22 Tryz.underlying9 cells9 hf with ⟨hcs, hx⟩ | ⟨a', len', cap', zs, hcs, _, hl, hm, hz, hxd, hcell, hwz⟩
  · simp [Value.cells] at hcs
    obtain ⟨rfl, rfl, rfl⟩ := hcs
    exact ⟨[], ⟨rfl, fun h => absurd h (by omega)⟩, by omega, (fun _ h => by cases h), fun _ h => by cases h⟩
  · simp [Value.cells] at hcs
    obtain ⟨rfl, rfl, rfl⟩ := hcs
    simp only [if_true] at hz
    unfold maxLen at hm
    refine ⟨zs.take len, ⟨by simp; omega, fun hn => ?_⟩, ?_, fun x hx => hwz x (List.mem_of_mem_take hx), fun x hx => ?_⟩
    · obtain ⟨b, o, s⟩ := a'
      obtain rfl : s = none := by simpa [Addr.add] using World.cell?_spot (hcell 0 (by omega))
      exact ⟨b, o, rfl, fun i hi => by rw [← add_plain, hcell i (by omega)]; simp [List.getD, hi]; rfl⟩
    · omega
    · skip
      have hw : x.data.toList.length ∈ d.weights Tryz.prog 22 := by
        simp only [Prod.mk.injEq] at hxd
        rw [hxd.1]
        simp only [DataW.weights, Tryz.underlying22]
        refine List.mem_cons_of_mem _ (List.mem_append_left _ ?_)
        refine mem_all (.lit (.string x.data.toList)) (List.mem_map.mpr ⟨x, hx, rfl⟩) ?_
        simp [DataW.weights]
      have := hsz _ hw
      simp only [reachBytes, Array.length_toList] at this
      exact this
end Go.Proofs.YtngnkkigjlenoaaGreatDoor
