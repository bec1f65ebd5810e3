/-
  Contracts: what a reader's Int, Byte and Str answer, and where it stands then. Conditions: as each states.
-/
import Derived.Test.YtanbggegbhcfhaaW5
namespace Go.Proofs.Ytanbggegbhcfhaa
open Go.RowKit

/-- What a reader finds: nothing, if it is bad. -/
def foundI (bad : Bool) (xs : List Int) (k : Nat) (most : Int) : Nat × Nat := if bad then (0, 0) else intL (xs.drop k) most
def foundB (bad : Bool) (xs : List Int) (k : Nat) (most : Int) : Nat × Nat := if bad then (0, 0) else byteL (xs.drop k) most
def foundS (bad : Bool) (xs : List Int) (k : Nat) (most : Int) : List Int × Nat := if bad then ([], 0) else gsL (xs.drop k) most
theorem took_trans {u : Value} {L : Nat} {w w0 : World} {base g : Nat} {xs : List Int} {k : Nat} {e : Ending} {w' : World} (h : Took u L w0 base g xs k e w') (hb : w.grownBy w0 (some g)) : Took u L w base g xs k e w' := ⟨h.1, h.2.1, hb.trans h.2.2⟩

theorem takei_any (base g h : Nat) (xs : List Int) (k : Nat) (bad : Bool) (most : Int) (w : World) (hr : Rd w base g xs k bad) (hh : w.cell? ⟨h, 0, none⟩ = some (.int .i64 most)) :
    Calls Try.prog 29 #[.pointer (some ⟨g, 0, none⟩), .func (.func 30) #[] #[.pointer (some ⟨h, 0, none⟩)]] w (Took (tI (foundI bad xs k most).1) (foundI bad xs k most).2 w base g xs k) := by
  cases bad with
  | true => exact takei_bad base g h xs k w hr
  | false =>
    obtain ⟨v, hg, ho⟩ := hr.ex
    obtain ⟨q, c, rfl, _, hi, hqc, hnc, hc, hqb⟩ := own_bytes ho
    by_cases hck : c = k
    · exact takei_end base g h c q xs k most w hr hg hh hc hnc hck
    · obtain ⟨_, ⟨e, _⟩ | ⟨b, cap, cur, e, _⟩⟩ := ho
      · simp only [Value.slice.injEq] at e
        have := hr.le
        omega
      · cases e
        exact takei_mid base g h _ _ xs k most w hr hg hh hc hnc hck b rfl hi
set_option maxHeartbeats 2000000 in
theorem rint_any (base g : Nat) (xs : List Int) (k : Nat) (bad : Bool) (most : Int) (w : World) (hr : Rd w base g xs k bad) :
    Calls Try.prog 21 #[.pointer (some ⟨g, 0, none⟩), .int .i64 most] w (Took (tI (foundI bad xs k most).1) (foundI bad xs k most).2 w base g xs k) := by
  have hmf : ∀ (fn : Fn) (first cap : Array Value) (w : World), (Instr.makeFunc fn first cap).run Try.prog w = .ok (.func fn first cap) w := fun _ _ _ _ => rfl
  have hb : Below w.heap.size w (w.alloc (.cells #[.int .i64 most] 3)) := (Below.refl _ _).alloc (Nat.le_refl _) _
  have HC := Lib.hid (takei_any base g w.heap.size xs k bad most _ (hr.on hb) (World.cell?_alloc_fr _ _ _ _ _))
  have HB := Lib.hid hb
  clear hr hb
  go_enter Try.func21, Try.ntmps21
  go_wp2_with fail
  refine HC.out.mono ?_
  rintro e w1 ⟨rfl, h2, h3⟩
  have H2 := Lib.hid h2
  have H3 := Lib.hid h3
  clear h2 h3 HC
  go_wp2_with fail
  go_ret
  exact ⟨rfl, H2.out, (only_below HB.out _).trans H3.out⟩

theorem takeb_any (base g h : Nat) (xs : List Int) (k : Nat) (bad : Bool) (most : Int) (w : World) (hr : Rd w base g xs k bad) (hh : w.cell? ⟨h, 0, none⟩ = some (.int .i64 most)) :
    Calls Try.prog 29 #[.pointer (some ⟨g, 0, none⟩), .func (.func 31) #[] #[.pointer (some ⟨h, 0, none⟩)]] w (Took (tI (foundB bad xs k most).1) (foundB bad xs k most).2 w base g xs k) := by
  cases bad with
  | true => exact takeb_bad base g h xs k w hr
  | false =>
    obtain ⟨v, hg, ho⟩ := hr.ex
    obtain ⟨q, c, rfl, _, hi, hqc, hnc, hc, hqb⟩ := own_bytes ho
    by_cases hck : c = k
    · exact takeb_end base g h c q xs k most w hr hg hh hc hnc hck
    · obtain ⟨_, ⟨e, _⟩ | ⟨b, cap, cur, e, _⟩⟩ := ho
      · simp only [Value.slice.injEq] at e
        have := hr.le
        omega
      · cases e
        exact takeb_mid base g h _ _ xs k most w hr hg hh hc hnc hck b rfl hi
set_option maxHeartbeats 2000000 in
theorem rbyte_any (base g : Nat) (xs : List Int) (k : Nat) (bad : Bool) (most : Int) (w : World) (hr : Rd w base g xs k bad) :
    Calls Try.prog 22 #[.pointer (some ⟨g, 0, none⟩), .int .i64 most] w (Took (tI (foundB bad xs k most).1) (foundB bad xs k most).2 w base g xs k) := by
  have hmf : ∀ (fn : Fn) (first cap : Array Value) (w : World), (Instr.makeFunc fn first cap).run Try.prog w = .ok (.func fn first cap) w := fun _ _ _ _ => rfl
  have hb : Below w.heap.size w (w.alloc (.cells #[.int .i64 most] 3)) := (Below.refl _ _).alloc (Nat.le_refl _) _
  have HC := Lib.hid (takeb_any base g w.heap.size xs k bad most _ (hr.on hb) (World.cell?_alloc_fr _ _ _ _ _))
  have HB := Lib.hid hb
  clear hr hb
  go_enter Try.func22, Try.ntmps22
  go_wp2_with fail
  refine HC.out.mono ?_
  rintro e w1 ⟨rfl, h2, h3⟩
  have H2 := Lib.hid h2
  have H3 := Lib.hid h3
  clear h2 h3 HC
  go_wp2_with fail
  go_ret
  exact ⟨rfl, H2.out, (only_below HB.out _).trans H3.out⟩

theorem takes_any (base g h : Nat) (xs : List Int) (k : Nat) (bad : Bool) (most : Int) (w : World) (hr : Rd w base g xs k bad) (hh : w.cell? ⟨h, 0, none⟩ = some (.int .i64 most)) :
    Calls Try.prog 32 #[.pointer (some ⟨g, 0, none⟩), .func (.func 33) #[] #[.pointer (some ⟨h, 0, none⟩)]] w (Took (tS (foundS bad xs k most).1) (foundS bad xs k most).2 w base g xs k) := by
  cases bad with
  | true => exact takes_bad base g h xs k w hr
  | false =>
    obtain ⟨v, hg, ho⟩ := hr.ex
    obtain ⟨q, c, rfl, _, hi, hqc, hnc, hc, hqb⟩ := own_bytes ho
    by_cases hck : c = k
    · exact takes_end base g h c q xs k most w hr hg hh hc hnc hck
    · obtain ⟨_, ⟨e, _⟩ | ⟨b, cap, cur, e, _⟩⟩ := ho
      · simp only [Value.slice.injEq] at e
        have := hr.le
        omega
      · cases e
        exact takes_mid base g h _ _ xs k most w hr hg hh hc hnc hck b rfl hi
set_option maxHeartbeats 2000000 in
theorem rstr_any (base g : Nat) (xs : List Int) (k : Nat) (bad : Bool) (most : Int) (w : World) (hr : Rd w base g xs k bad) :
    Calls Try.prog 23 #[.pointer (some ⟨g, 0, none⟩), .int .i64 most] w (Took (tS (foundS bad xs k most).1) (foundS bad xs k most).2 w base g xs k) := by
  have hmf : ∀ (fn : Fn) (first cap : Array Value) (w : World), (Instr.makeFunc fn first cap).run Try.prog w = .ok (.func fn first cap) w := fun _ _ _ _ => rfl
  have hb : Below w.heap.size w (w.alloc (.cells #[.int .i64 most] 3)) := (Below.refl _ _).alloc (Nat.le_refl _) _
  have HC := Lib.hid (takes_any base g w.heap.size xs k bad most _ (hr.on hb) (World.cell?_alloc_fr _ _ _ _ _))
  have HB := Lib.hid hb
  clear hr hb
  go_enter Try.func23, Try.ntmps23
  go_wp2_with fail
  refine HC.out.mono ?_
  rintro e w1 ⟨rfl, h2, h3⟩
  have H2 := Lib.hid h2
  have H3 := Lib.hid h3
  clear h2 h3 HC
  go_wp2_with fail
  go_ret
  exact ⟨rfl, H2.out, (only_below HB.out _).trans H3.out⟩
end Go.Proofs.Ytanbggegbhcfhaa
