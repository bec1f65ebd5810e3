/-
  Contracts: what the document's own right, Find and Same answer, and the statements' own rows. Conditions: as each states.
-/
import Derived.Test.YtpohfcjmjfhdoaaD
namespace Go.Proofs.Ytpohfcjmjfhdoaa
open Go.RowKit

def rightB (at' : Int) : Bool := decide (0 ≤ at' ∧ at' ≤ 1099511627776)
set_option maxHeartbeats 2000000 in
theorem right_any (x : Int) (w : World) : Calls Try.prog 27 #[.int .i64 x] w fun e w' => e = .returned (.bool (rightB x)) ∧ w = w' := by
  by_cases h : 0 ≤ x
  · have d0 : decide (0 ≤ x) = true := by simpa using h
    by_cases h' : x ≤ 1099511627776
    · have hb : rightB x = true := by simp [rightB]; omega
      have d1 : decide (x ≤ 1099511627776) = true := by simpa using h'
      rw [hb]
      clear hb
      go_enter Try.func27, Try.ntmps27
      go_wp2_with fail
      go_ret
      exact ⟨ret_bool (by simp), rfl⟩
    · have hb : rightB x = false := by simp [rightB]; omega
      have d1 : decide (x ≤ 1099511627776) = false := by simpa using h'
      rw [hb]
      clear hb
      go_enter Try.func27, Try.ntmps27
      go_wp2_with fail
      go_ret
      exact ⟨ret_bool (by simp), rfl⟩
  · have hb : rightB x = false := by simp [rightB]; omega
    have d0 : decide (0 ≤ x) = false := by simpa using h
    rw [hb]
    clear hb
    go_enter Try.func27, Try.ntmps27
    go_wp2_with fail
    go_ret
    exact ⟨ret_bool (by simp), rfl⟩

/-- Where an id stands: the length, if nowhere. -/
def findN (ds : List Due) (id : Int) : Nat := ds.findIdx fun d => d.2 == id
def findI (ds : List Due) (id : Int) : Int := if findN ds id < ds.length then (findN ds id : Int) else -1
theorem find_here {ds : List Due} {id : Int} {k : Nat} (hk : k < ds.length) (h : ∀ j, j < k → (ds.getD j (0, 0)).2 ≠ id) (e : (ds.getD k (0, 0)).2 = id) : findI ds id = k := by
  have hf : findN ds id = k := by
    unfold findN
    rw [List.findIdx_eq hk]
    refine ⟨?_, fun j hj => ?_⟩
    · rw [List.getD_eq_getElem?_getD, List.getElem?_eq_getElem hk] at e
      simpa using e
    · have := h j hj
      rw [List.getD_eq_getElem?_getD, List.getElem?_eq_getElem (by omega)] at this
      simpa using this
  unfold findI
  rw [hf, if_pos hk]
theorem find_none {ds : List Due} {id : Int} (h : ∀ j, j < ds.length → (ds.getD j (0, 0)).2 ≠ id) : findI ds id = -1 := by
  have hf : findN ds id = ds.length := by
    unfold findN
    rw [List.findIdx_eq_length]
    intro x hx
    obtain ⟨j, hj, rfl⟩ := List.mem_iff_getElem.1 hx
    have := h j hj
    rw [List.getD_eq_getElem?_getD, List.getElem?_eq_getElem hj] at this
    simpa using this
  unfold findI
  rw [hf, if_neg (by omega)]

set_option maxHeartbeats 4000000 in
theorem find_any (p : Option Addr) (n c : Nat) (ds : List Due) (id : Int) (w : World) (hx : ds.length = n) (hnc : n ≤ c) (hc : c ≤ 9223372036854775807) (hi : DuesIn w p n ds) :
    Calls Try.prog 26 #[.slice p n c, .int .i64 id] w fun e w' => e = .returned (.int .i64 (findI ds id)) ∧ w = w' := by
  have HX := Lib.hid hx
  have HI := Lib.hid hi
  clear hx hi
  obtain ⟨F, HF⟩ : ∃ F, Hid (findI ds id = F) := ⟨_, Lib.hid rfl⟩
  rw [HF.out]
  go_enter Try.func26, Try.ntmps26
  go_wp2_with fail
  go_loopw [5] (fun i wr => ∃ (k : Nat), k ≤ n ∧ i = .int .i64 k ∧ wr = w ∧ Hid (∀ j, j < k → (ds.getD j (0, 0)).2 ≠ id)) (fun i _ => n - (intOf i).toNat)
  case atStart => exact ⟨0, by omega, rfl, rfl, Lib.hid (fun j hj => absurd hj (by omega))⟩
  case round =>
    obtain ⟨k, hk, rfl, rfl, HS⟩ := hrel
    by_cases hlt : k < n
    · obtain ⟨b, o, rfl, hcell⟩ := HI.out (by omega)
      have g1 := (hcell k hlt).2
      rw [← Nat.add_assoc] at g1
      have HD : Hid ((ds.getD k (0, 0)).2 = (ds.getD k (0, 0)).2) := rfl
      obtain ⟨q, hq⟩ : ∃ q, (ds.getD k (0, 0)).2 = q := ⟨_, rfl⟩
      rw [hq] at g1
      have HQ := Lib.hid hq
      clear hcell hq HD
      by_cases he : q = id
      · have HR := Lib.hid (show F = k by rw [← HF.out]; exact find_here (by rw [HX.out]; exact hlt) HS.out (HQ.out.trans he))
        have ce : (q == id) = true := by simpa using he
        go_wp2_with fail
        go_ret
        exact ⟨ret_int HR.out.symm, rfl⟩
      · have ce : (q == id) = false := by simpa using he
        go_wp2_with fail
        go_roundw
        case rel => exact ⟨k + 1, by omega, by go_num, trivial, Lib.hid (fun j hj => by
          rcases Nat.lt_or_ge j k with h | h
          · exact HS.out j h
          · obtain rfl : j = k := by omega
            rw [HQ.out]
            exact he)⟩
        case measure => simp [intOf]; omega
    · have HR := Lib.hid (show F = -1 by rw [← HF.out]; exact find_none (fun j hj => HS.out j (by rw [HX.out] at hj; omega)))
      go_wp2_with fail
      go_ret
      exact ⟨ret_int HR.out.symm, rfl⟩

def sameB (ds es : List Due) : Bool := decide (ds = es)
theorem same_not {ds es : List Due} {k : Nat} (h : ds.getD k (0, 0) ≠ es.getD k (0, 0)) : sameB ds es = false := by
  simp only [sameB, decide_eq_false_iff_not]
  rintro rfl
  exact h rfl
theorem same_yes {ds es : List Due} (hl : ds.length = es.length) (h : ∀ j, j < ds.length → ds.getD j (0, 0) = es.getD j (0, 0)) : sameB ds es = true := by
  simp only [sameB, decide_eq_true_eq]
  apply List.ext_getElem hl
  intro j h1 h2
  have := h j h1
  rw [List.getD_eq_getElem?_getD, List.getD_eq_getElem?_getD, List.getElem?_eq_getElem h1, List.getElem?_eq_getElem h2] at this
  exact this
set_option maxHeartbeats 4000000 in
theorem same_any (p q : Option Addr) (n c m d : Nat) (ds es : List Due) (w : World) (hx : ds.length = n) (hy : es.length = m) (hnc : n ≤ c) (hc : c ≤ 9223372036854775807) (hmd : m ≤ d) (_hd : d ≤ 9223372036854775807) (hi : DuesIn w p n ds) (hj : DuesIn w q m es) :
    Calls Try.prog 15 #[.slice p n c, .slice q m d] w fun e w' => e = .returned (.bool (sameB ds es)) ∧ Below w.heap.size w w' := by
  have HX := Lib.hid hx
  have HY := Lib.hid hy
  have HI := Lib.hid hi
  have HJ := Lib.hid hj
  clear hx hy hi hj
  obtain ⟨F, HF⟩ : ∃ F, Hid (sameB ds es = F) := ⟨_, Lib.hid rfl⟩
  rw [HF.out]
  by_cases hnm : n = m
  · subst hnm
    go_enter Try.func15, Try.ntmps15
    go_wp2_with fail
    go_loopw [5] (fun i wr => ∃ (k : Nat), k ≤ n ∧ i = .int .i64 k ∧ Hid (Below w.heap.size w wr) ∧ Hid (∀ j, j < k → ds.getD j (0, 0) = es.getD j (0, 0))) (fun i _ => n - (intOf i).toNat)
    case atStart => exact ⟨0, by omega, rfl, Lib.hid (Below.refl _ _), Lib.hid (fun j hj => absurd hj (by omega))⟩
    case round =>
      obtain ⟨k, hk, rfl, HB, HS⟩ := hrel
      by_cases hlt : k < n
      · obtain ⟨b, o, rfl, hc1⟩ := dues_on HI.out HB.out (by omega)
        obtain ⟨b', o', rfl, hc2⟩ := dues_on HJ.out HB.out (by omega)
        obtain ⟨g0, g1⟩ := hc1 k hlt
        obtain ⟨f0, f1⟩ := hc2 k hlt
        obtain ⟨x, hx⟩ : ∃ x, ds.getD k (0, 0) = x := ⟨_, rfl⟩
        obtain ⟨y, hy⟩ : ∃ y, es.getD k (0, 0) = y := ⟨_, rfl⟩
        rw [hx] at g0 g1
        rw [hy] at f0 f1
        obtain ⟨x0, x1⟩ := x
        obtain ⟨y0, y1⟩ := y
        simp only at g0 g1 f0 f1
        rw [← Nat.add_assoc] at g1 f1
        have HQ := Lib.hid (And.intro hx hy)
        clear hc1 hc2 hx hy
        go_wp2_with fail
        have HC := Lib.hid (show wr.drew.cell? ⟨b, o + k * 2, none⟩ = some (.int .i64 x0) ∧ wr.drew.cell? ⟨b, o + k * 2 + 1, none⟩ = some (.int .i64 x1) ∧ wr.drew.cell? ⟨b', o' + k * 2, none⟩ = some (.int .i64 y0) ∧ wr.drew.cell? ⟨b', o' + k * 2 + 1, none⟩ = some (.int .i64 y1) from ⟨g0, g1, f0, f1⟩)
        by_cases e0 : x0 = y0
        · subst e0
          by_cases e1 : x1 = y1
          · subst e1
            go_region_held (fun w' => w'.cell? ⟨b, o + k * 2, none⟩ = some (.int .i64 x0) ∧ w'.cell? ⟨b, o + k * 2 + 1, none⟩ = some (.int .i64 x1) ∧ w'.cell? ⟨b', o' + k * 2, none⟩ = some (.int .i64 x0) ∧ w'.cell? ⟨b', o' + k * 2 + 1, none⟩ = some (.int .i64 x1))
              (exact HC.out)
              (fail)
            clear HC
            go_wp2_with fail
            go_roundw
            case rel => exact ⟨k + 1, by omega, by go_num, Lib.hid HB.out.drew, Lib.hid (fun j hj => by
              rcases Nat.lt_or_ge j k with h | h
              · exact HS.out j h
              · obtain rfl : j = k := by omega
                exact HQ.out.1.trans HQ.out.2.symm)⟩
            case measure => simp [intOf]; omega
          · have HR := Lib.hid (show F = false by rw [← HF.out]; exact same_not (k := k) (by rw [HQ.out.1, HQ.out.2]; intro h; exact e1 (congrArg Prod.snd h)))
            have c1 : (x1 == y1) = false := by simpa using e1
            go_region_held (fun w' => w'.cell? ⟨b, o + k * 2, none⟩ = some (.int .i64 x0) ∧ w'.cell? ⟨b, o + k * 2 + 1, none⟩ = some (.int .i64 x1) ∧ w'.cell? ⟨b', o' + k * 2, none⟩ = some (.int .i64 x0) ∧ w'.cell? ⟨b', o' + k * 2 + 1, none⟩ = some (.int .i64 y1))
              (exact HC.out)
              (fail)
            clear HC
            go_wp2_with fail
            go_ret
            exact ⟨ret_bool HR.out.symm, HB.out.drew⟩
        · have HR := Lib.hid (show F = false by rw [← HF.out]; exact same_not (k := k) (by rw [HQ.out.1, HQ.out.2]; intro h; exact e0 (congrArg Prod.fst h)))
          have c0 : (x0 == y0) = false := by simpa using e0
          go_region_held (fun w' => w'.cell? ⟨b, o + k * 2, none⟩ = some (.int .i64 x0) ∧ w'.cell? ⟨b, o + k * 2 + 1, none⟩ = some (.int .i64 x1) ∧ w'.cell? ⟨b', o' + k * 2, none⟩ = some (.int .i64 y0) ∧ w'.cell? ⟨b', o' + k * 2 + 1, none⟩ = some (.int .i64 y1))
            (exact HC.out)
            (fail)
          clear HC
          go_wp2_with fail
          go_ret
          exact ⟨ret_bool HR.out.symm, HB.out.drew⟩
      · have HR := Lib.hid (show F = true by rw [← HF.out]; exact same_yes (by rw [HX.out, HY.out]) (fun j hj => HS.out j (by rw [HX.out] at hj; omega)))
        go_wp2_with fail
        go_ret
        exact ⟨ret_bool HR.out.symm, HB.out⟩
  · have HR := Lib.hid (show F = false by
      rw [← HF.out]
      simp only [sameB, decide_eq_false_iff_not]
      rintro rfl
      have := HX.out
      have := HY.out
      omega)
    have ce : ((n : Int) == (m : Int)) = false := by simp; omega
    go_enter Try.func15, Try.ntmps15
    go_wp2_with fail
    go_ret
    exact ⟨ret_bool HR.out.symm, Below.refl _ _⟩
end Go.Proofs.Ytpohfcjmjfhdoaa
