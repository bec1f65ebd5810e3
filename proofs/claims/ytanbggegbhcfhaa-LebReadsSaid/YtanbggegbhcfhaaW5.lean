/-
  Contracts: what a reader's Int, Byte and Str answer, and where it stands then. Conditions: as each states.
-/
import Derived.Test.YtanbggegbhcfhaaW4
namespace Go.Proofs.Ytanbggegbhcfhaa
open Go.RowKit

theorem Rd.set1 {w : World} {base g : Nat} {xs : List Int} {k : Nat} {bad : Bool} (h : Rd w base g xs k bad) (k' : Nat) (hk : k' ≤ xs.length) : Rd (w.setCell ⟨g, 1, none⟩ (.int .i64 k')) base g xs k' bad := by
  obtain ⟨v, hg, ho⟩ := h.ex
  refine ⟨⟨v, ?_, ownsRow_setCell_other ho (own_other ho hg) _⟩, h.all, hk, h.base⟩
  simp [World.setCell, Array.getElem?_modify, hg]
theorem Rd.set2 {w : World} {base g : Nat} {xs : List Int} {k : Nat} {bad : Bool} (h : Rd w base g xs k bad) (b' : Bool) : Rd (w.setCell ⟨g, 2, none⟩ (.bool b')) base g xs k b' := by
  obtain ⟨v, hg, ho⟩ := h.ex
  refine ⟨⟨v, ?_, ownsRow_setCell_other ho (own_other ho hg) _⟩, h.all, h.le, h.base⟩
  simp [World.setCell, Array.getElem?_modify, hg]
theorem only_set {a w : World} {g : Nat} (h : a.grownBy w (some g)) (i : Nat) (u : Value) : a.grownBy (w.setCell ⟨g, i, none⟩ u) (some g) :=
  ⟨h.os, h.tape, h.output, by simpa [World.setCell] using h.size, fun j hj hne => (Below.heap_setCell w ⟨g, i, none⟩ u j (fun e => hne (by rw [e]))).trans (h.block j hj hne)⟩
theorem only_drewN (w : World) (row : Option Nat) (m : Nat) : w.grownBy (w.drewN m) row := ⟨rfl, rfl, rfl, Nat.le_refl _, fun _ _ _ => rfl⟩
theorem only_below {a w : World} (h : Below a.heap.size a w) (row : Option Nat) : a.grownBy w row := ⟨h.os, h.tape, h.output, h.size, fun i hi _ => h.block i hi⟩

theorem quiet_left {P : Program} {f : FuncId} {args : Array Value} {w : World} {n : Nat} {v : Value} (h : Calls P f args (w.drewN n) fun e w' => e = .returned v ∧ w.drewN n = w') :
    Calls P f args (w.drewN n) fun e w'' => e = .returned v ∧ ∃ m, w'' = w.drewN m := h.mono fun _ _ ⟨he, hm⟩ => ⟨he, n, hm.symm⟩

/-- What a reader tells of what was found, L bytes long, and where it stands then. -/
def Took (u : Value) (L : Nat) (w : World) (base g : Nat) (xs : List Int) (k : Nat) (e : Ending) (w' : World) : Prop := e = .returned u ∧ Rd w' base g xs (k + L) (L == 0) ∧ w.grownBy w' (some g)
def tI (n : Nat) : Value := .int .i64 n
def tS (zs : List Int) : Value := .string (strOfNums zs)
theorem took_set {w : World} {base g : Nat} {xs : List Int} {k L : Nat} (h : Rd w base g xs k false) (hL : ¬ L = 0) (m : Nat) (hk : k + L ≤ xs.length) : Rd ((w.drewN m).setCell ⟨g, 1, none⟩ (.int .i64 ((k : Int) + (L : Int)))) base g xs (k + L) (L == 0) := by
  have e : (L == 0) = false := by simpa using hL
  rw [e]
  exact (h.drewN m).set1 (k + L) hk
theorem intL_fit (xs : List Int) (most : Int) (h : AllB xs) : (intL xs most).2 ≤ xs.length := by
  unfold intL
  split
  · simp
  · exact (get_fit xs h).2.2
theorem intL_zero (xs : List Int) (most : Int) (h : (intL xs most).2 = 0) : (intL xs most).1 = 0 := by
  unfold intL at h ⊢
  split
  · rfl
  · rename_i h1
    rw [if_neg h1] at h
    rw [get_zero xs h]
theorem byteL_fit (xs : List Int) (most : Int) (_ : AllB xs) : (byteL xs most).2 ≤ xs.length := by
  unfold byteL
  split
  · simp
  · simp only
    omega
theorem byteL_zero (xs : List Int) (most : Int) (h : (byteL xs most).2 = 0) : (byteL xs most).1 = 0 := by
  unfold byteL at h ⊢
  split
  · rfl
  · rename_i h1
    rw [if_neg h1] at h
    simp at h
theorem gsL_fit (xs : List Int) (most : Int) (_ : AllB xs) : (gsL xs most).2 ≤ xs.length := (gs_fit xs most).1
theorem gsL_zero (xs : List Int) (most : Int) (h : (gsL xs most).2 = 0) : (gsL xs most).1 = [] := by
  unfold gsL at h ⊢
  split
  · rfl
  · rename_i h1
    rw [if_neg h1] at h
    unfold gsB at h1
    simp at h h1
    omega

set_option maxHeartbeats 2000000 in
theorem takei_bad (base g h : Nat) (xs : List Int) (k : Nat) (w : World) (hr : Rd w base g xs k true) :
    Calls Try.prog 29 #[.pointer (some ⟨g, 0, none⟩), .func (.func 30) #[] #[.pointer (some ⟨h, 0, none⟩)]] w (Took (tI 0) 0 w base g xs k) := by
  obtain ⟨v, hg, _⟩ := hr.ex
  have g1 : w.cell? ⟨g, 2, none⟩ = some (.bool true) := cell_of_row w g 2 _ _ _ hg
  have HR := Lib.hid hr
  clear hr hg
  go_enter Try.func29, Try.ntmps29
  go_wp2_with fail
  go_ret
  exact ⟨rfl, HR.out, World.grownBy.refl w _⟩
set_option maxHeartbeats 2000000 in
theorem takeb_bad (base g h : Nat) (xs : List Int) (k : Nat) (w : World) (hr : Rd w base g xs k true) :
    Calls Try.prog 29 #[.pointer (some ⟨g, 0, none⟩), .func (.func 31) #[] #[.pointer (some ⟨h, 0, none⟩)]] w (Took (tI 0) 0 w base g xs k) := by
  obtain ⟨v, hg, _⟩ := hr.ex
  have g1 : w.cell? ⟨g, 2, none⟩ = some (.bool true) := cell_of_row w g 2 _ _ _ hg
  have HR := Lib.hid hr
  clear hr hg
  go_enter Try.func29, Try.ntmps29
  go_wp2_with fail
  go_ret
  exact ⟨rfl, HR.out, World.grownBy.refl w _⟩
set_option maxHeartbeats 2000000 in
theorem takes_bad (base g h : Nat) (xs : List Int) (k : Nat) (w : World) (hr : Rd w base g xs k true) :
    Calls Try.prog 32 #[.pointer (some ⟨g, 0, none⟩), .func (.func 33) #[] #[.pointer (some ⟨h, 0, none⟩)]] w (Took (tS []) 0 w base g xs k) := by
  obtain ⟨v, hg, _⟩ := hr.ex
  have g1 : w.cell? ⟨g, 2, none⟩ = some (.bool true) := cell_of_row w g 2 _ _ _ hg
  have HR := Lib.hid hr
  clear hr hg
  go_enter Try.func32, Try.ntmps32
  go_wp2_with fail
  go_ret
  exact ⟨rfl, HR.out, World.grownBy.refl w _⟩
set_option maxHeartbeats 2000000 in
theorem takei_end (base g h c : Nat) (q : Option Addr) (xs : List Int) (k : Nat) (most : Int) (w : World) (hr : Rd w base g xs k false) (hg : w.heap[g]? = some (.cells #[.slice q xs.length c, .int .i64 k, .bool false] 57 (0, 0)))
    (hh : w.cell? ⟨h, 0, none⟩ = some (.int .i64 most)) (_hc : c ≤ 9223372036854775807) (hnc : xs.length ≤ c) (hck : c = k) :
    Calls Try.prog 29 #[.pointer (some ⟨g, 0, none⟩), .func (.func 30) #[] #[.pointer (some ⟨h, 0, none⟩)]] w (Took (tI (intL (xs.drop k) most).1) (intL (xs.drop k) most).2 w base g xs k) := by
  have hle := hr.le
  have hfit := intL_fit (xs.drop k) most (hr.all.drop k)
  have hzero := intL_zero (xs.drop k) most
  rw [List.length_drop] at hfit
  have g0 : w.cell? ⟨g, 0, none⟩ = some (.slice q xs.length c) := cell_of_row w g 0 _ _ _ hg
  have g1 : w.cell? ⟨g, 1, none⟩ = some (.int .i64 k) := cell_of_row w g 1 _ _ _ hg
  have g2 : w.cell? ⟨g, 2, none⟩ = some (.bool false) := cell_of_row w g 2 _ _ _ hg
  have gf1 : w.frozen? ⟨g, 1, none⟩ = false := by simp [World.frozen?, hg]
  have gf2 : w.frozen? ⟨g, 2, none⟩ = false := by simp [World.frozen?, hg]
  have hC := fun m => clo_int q (xs.length - k) 0 h (xs.drop k) most (w.drewN m) (by simp) (by omega) (by omega) (hr.all.drop k) (fun h => absurd h (by omega)) hh
  obtain ⟨N, L, e⟩ : ∃ N L, intL (xs.drop k) most = (N, L) := ⟨_, _, rfl⟩
  rw [e] at hC hfit hzero ⊢
  have HC := Lib.hid hC
  have HR := Lib.hid hr
  simp only at HC hfit hzero ⊢
  clear hC hr hg hh e
  by_cases hL : L = 0
  · subst hL
    obtain rfl := hzero rfl
    go_enter Try.func29, Try.ntmps29
    go_wp2_with fail
    go_quiet ((go_at_call 30; exact quiet_left (HC.out _)))
    rename_i nq
    go_wp2_with fail
    go_ret
    exact ⟨rfl, (HR.out.drewN nq).set2 true, only_set (only_drewN w _ nq) 2 _⟩

  · omega

set_option maxHeartbeats 2000000 in
theorem takei_mid (base g h c : Nat) (q : Option Addr) (xs : List Int) (k : Nat) (most : Int) (w : World) (hr : Rd w base g xs k false) (hg : w.heap[g]? = some (.cells #[.slice q xs.length c, .int .i64 k, .bool false] 57 (0, 0)))
    (hh : w.cell? ⟨h, 0, none⟩ = some (.int .i64 most)) (hc : c ≤ 9223372036854775807) (hnc : xs.length ≤ c) (hck : ¬ c = k) (b : Nat) (hqb : q = some ⟨b, 0, none⟩) (hi : Lib.BytesIn w q xs.length xs) :
    Calls Try.prog 29 #[.pointer (some ⟨g, 0, none⟩), .func (.func 30) #[] #[.pointer (some ⟨h, 0, none⟩)]] w (Took (tI (intL (xs.drop k) most).1) (intL (xs.drop k) most).2 w base g xs k) := by
  have hle := hr.le
  have hfit := intL_fit (xs.drop k) most (hr.all.drop k)
  have hzero := intL_zero (xs.drop k) most
  rw [List.length_drop] at hfit
  have g0 : w.cell? ⟨g, 0, none⟩ = some (.slice q xs.length c) := cell_of_row w g 0 _ _ _ hg
  have g1 : w.cell? ⟨g, 1, none⟩ = some (.int .i64 k) := cell_of_row w g 1 _ _ _ hg
  have g2 : w.cell? ⟨g, 2, none⟩ = some (.bool false) := cell_of_row w g 2 _ _ _ hg
  have gf1 : w.frozen? ⟨g, 1, none⟩ = false := by simp [World.frozen?, hg]
  have gf2 : w.frozen? ⟨g, 2, none⟩ = false := by simp [World.frozen?, hg]
  subst hqb
  have hbd := bytes_drop hi k (xs.length - k) (by omega)
  rw [Nat.zero_add] at hbd
  have hC := fun m => clo_int (some ⟨b, k, none⟩) (xs.length - k) (c - k) h (xs.drop k) most (w.drewN m) (by simp) (by omega) (by omega) (hr.all.drop k) hbd hh
  obtain ⟨N, L, e⟩ : ∃ N L, intL (xs.drop k) most = (N, L) := ⟨_, _, rfl⟩
  rw [e] at hC hfit hzero ⊢
  have HC := Lib.hid hC
  have HR := Lib.hid hr
  simp only at HC hfit hzero ⊢
  clear hC hr hg hh e hi hbd
  by_cases hL : L = 0
  · subst hL
    obtain rfl := hzero rfl
    go_enter Try.func29, Try.ntmps29
    go_wp2_with fail
    go_quiet ((go_at_call 30; exact quiet_left (HC.out _)))
    rename_i nq
    go_wp2_with fail
    go_ret
    exact ⟨rfl, (HR.out.drewN nq).set2 true, only_set (only_drewN w _ nq) 2 _⟩

  · have c0 : ((L : Int) == 0) = false := by simp; omega
    clear hzero
    go_enter Try.func29, Try.ntmps29
    go_wp2_with fail
    go_quiet ((go_at_call 30; exact quiet_left (HC.out _)))
    rename_i nq
    go_wp2_with fail
    go_ret
    exact ⟨rfl, took_set HR.out hL nq (by omega), only_set (only_drewN w _ nq) 1 _⟩

set_option maxHeartbeats 2000000 in
theorem takeb_end (base g h c : Nat) (q : Option Addr) (xs : List Int) (k : Nat) (most : Int) (w : World) (hr : Rd w base g xs k false) (hg : w.heap[g]? = some (.cells #[.slice q xs.length c, .int .i64 k, .bool false] 57 (0, 0)))
    (hh : w.cell? ⟨h, 0, none⟩ = some (.int .i64 most)) (_hc : c ≤ 9223372036854775807) (hnc : xs.length ≤ c) (hck : c = k) :
    Calls Try.prog 29 #[.pointer (some ⟨g, 0, none⟩), .func (.func 31) #[] #[.pointer (some ⟨h, 0, none⟩)]] w (Took (tI (byteL (xs.drop k) most).1) (byteL (xs.drop k) most).2 w base g xs k) := by
  have hle := hr.le
  have hfit := byteL_fit (xs.drop k) most (hr.all.drop k)
  have hzero := byteL_zero (xs.drop k) most
  rw [List.length_drop] at hfit
  have g0 : w.cell? ⟨g, 0, none⟩ = some (.slice q xs.length c) := cell_of_row w g 0 _ _ _ hg
  have g1 : w.cell? ⟨g, 1, none⟩ = some (.int .i64 k) := cell_of_row w g 1 _ _ _ hg
  have g2 : w.cell? ⟨g, 2, none⟩ = some (.bool false) := cell_of_row w g 2 _ _ _ hg
  have gf1 : w.frozen? ⟨g, 1, none⟩ = false := by simp [World.frozen?, hg]
  have gf2 : w.frozen? ⟨g, 2, none⟩ = false := by simp [World.frozen?, hg]
  have hC := fun m => clo_byte q (xs.length - k) 0 h (xs.drop k) most (w.drewN m) (by simp) (by omega) (by omega) (hr.all.drop k) (fun h => absurd h (by omega)) hh
  obtain ⟨N, L, e⟩ : ∃ N L, byteL (xs.drop k) most = (N, L) := ⟨_, _, rfl⟩
  rw [e] at hC hfit hzero ⊢
  have HC := Lib.hid hC
  have HR := Lib.hid hr
  simp only at HC hfit hzero ⊢
  clear hC hr hg hh e
  by_cases hL : L = 0
  · subst hL
    obtain rfl := hzero rfl
    go_enter Try.func29, Try.ntmps29
    go_wp2_with fail
    go_quiet ((go_at_call 31; exact Calls.quiet_of (HC.out _)))
    rename_i nq
    go_wp2_with fail
    go_ret
    exact ⟨rfl, (HR.out.drewN nq).set2 true, only_set (only_drewN w _ nq) 2 _⟩

  · omega

set_option maxHeartbeats 2000000 in
theorem takeb_mid (base g h c : Nat) (q : Option Addr) (xs : List Int) (k : Nat) (most : Int) (w : World) (hr : Rd w base g xs k false) (hg : w.heap[g]? = some (.cells #[.slice q xs.length c, .int .i64 k, .bool false] 57 (0, 0)))
    (hh : w.cell? ⟨h, 0, none⟩ = some (.int .i64 most)) (hc : c ≤ 9223372036854775807) (hnc : xs.length ≤ c) (hck : ¬ c = k) (b : Nat) (hqb : q = some ⟨b, 0, none⟩) (hi : Lib.BytesIn w q xs.length xs) :
    Calls Try.prog 29 #[.pointer (some ⟨g, 0, none⟩), .func (.func 31) #[] #[.pointer (some ⟨h, 0, none⟩)]] w (Took (tI (byteL (xs.drop k) most).1) (byteL (xs.drop k) most).2 w base g xs k) := by
  have hle := hr.le
  have hfit := byteL_fit (xs.drop k) most (hr.all.drop k)
  have hzero := byteL_zero (xs.drop k) most
  rw [List.length_drop] at hfit
  have g0 : w.cell? ⟨g, 0, none⟩ = some (.slice q xs.length c) := cell_of_row w g 0 _ _ _ hg
  have g1 : w.cell? ⟨g, 1, none⟩ = some (.int .i64 k) := cell_of_row w g 1 _ _ _ hg
  have g2 : w.cell? ⟨g, 2, none⟩ = some (.bool false) := cell_of_row w g 2 _ _ _ hg
  have gf1 : w.frozen? ⟨g, 1, none⟩ = false := by simp [World.frozen?, hg]
  have gf2 : w.frozen? ⟨g, 2, none⟩ = false := by simp [World.frozen?, hg]
  subst hqb
  have hbd := bytes_drop hi k (xs.length - k) (by omega)
  rw [Nat.zero_add] at hbd
  have hC := fun m => clo_byte (some ⟨b, k, none⟩) (xs.length - k) (c - k) h (xs.drop k) most (w.drewN m) (by simp) (by omega) (by omega) (hr.all.drop k) hbd hh
  obtain ⟨N, L, e⟩ : ∃ N L, byteL (xs.drop k) most = (N, L) := ⟨_, _, rfl⟩
  rw [e] at hC hfit hzero ⊢
  have HC := Lib.hid hC
  have HR := Lib.hid hr
  simp only at HC hfit hzero ⊢
  clear hC hr hg hh e hi hbd
  by_cases hL : L = 0
  · subst hL
    obtain rfl := hzero rfl
    go_enter Try.func29, Try.ntmps29
    go_wp2_with fail
    go_quiet ((go_at_call 31; exact Calls.quiet_of (HC.out _)))
    rename_i nq
    go_wp2_with fail
    go_ret
    exact ⟨rfl, (HR.out.drewN nq).set2 true, only_set (only_drewN w _ nq) 2 _⟩

  · have c0 : ((L : Int) == 0) = false := by simp; omega
    clear hzero
    go_enter Try.func29, Try.ntmps29
    go_wp2_with fail
    go_quiet ((go_at_call 31; exact Calls.quiet_of (HC.out _)))
    rename_i nq
    go_wp2_with fail
    go_ret
    exact ⟨rfl, took_set HR.out hL nq (by omega), only_set (only_drewN w _ nq) 1 _⟩

set_option maxHeartbeats 2000000 in
theorem takes_end (base g h c : Nat) (q : Option Addr) (xs : List Int) (k : Nat) (most : Int) (w : World) (hr : Rd w base g xs k false) (hg : w.heap[g]? = some (.cells #[.slice q xs.length c, .int .i64 k, .bool false] 57 (0, 0)))
    (hh : w.cell? ⟨h, 0, none⟩ = some (.int .i64 most)) (_hc : c ≤ 9223372036854775807) (hnc : xs.length ≤ c) (hck : c = k) :
    Calls Try.prog 32 #[.pointer (some ⟨g, 0, none⟩), .func (.func 33) #[] #[.pointer (some ⟨h, 0, none⟩)]] w (Took (tS (gsL (xs.drop k) most).1) (gsL (xs.drop k) most).2 w base g xs k) := by
  have hle := hr.le
  have hfit := gsL_fit (xs.drop k) most (hr.all.drop k)
  have hzero := gsL_zero (xs.drop k) most
  rw [List.length_drop] at hfit
  have g0 : w.cell? ⟨g, 0, none⟩ = some (.slice q xs.length c) := cell_of_row w g 0 _ _ _ hg
  have g1 : w.cell? ⟨g, 1, none⟩ = some (.int .i64 k) := cell_of_row w g 1 _ _ _ hg
  have g2 : w.cell? ⟨g, 2, none⟩ = some (.bool false) := cell_of_row w g 2 _ _ _ hg
  have gf1 : w.frozen? ⟨g, 1, none⟩ = false := by simp [World.frozen?, hg]
  have gf2 : w.frozen? ⟨g, 2, none⟩ = false := by simp [World.frozen?, hg]
  have hC := fun m => clo_str q (xs.length - k) 0 h (xs.drop k) most (w.drewN m) (by simp) (by omega) (by omega) (hr.all.drop k) (fun h => absurd h (by omega)) hh
  obtain ⟨N, L, e⟩ : ∃ N L, gsL (xs.drop k) most = (N, L) := ⟨_, _, rfl⟩
  rw [e] at hC hfit hzero ⊢
  have HC := Lib.hid hC
  have HR := Lib.hid hr
  simp only at HC hfit hzero ⊢
  clear hC hr hg hh e
  by_cases hL : L = 0
  · subst hL
    obtain rfl := hzero rfl
    go_enter Try.func32, Try.ntmps32
    go_wp2_with fail
    go_quiet ((go_at_call 33; exact quiet_left (HC.out _)))
    rename_i nq
    go_wp2_with fail
    go_ret
    exact ⟨rfl, (HR.out.drewN nq).set2 true, only_set (only_drewN w _ nq) 2 _⟩

  · omega

set_option maxHeartbeats 2000000 in
theorem takes_mid (base g h c : Nat) (q : Option Addr) (xs : List Int) (k : Nat) (most : Int) (w : World) (hr : Rd w base g xs k false) (hg : w.heap[g]? = some (.cells #[.slice q xs.length c, .int .i64 k, .bool false] 57 (0, 0)))
    (hh : w.cell? ⟨h, 0, none⟩ = some (.int .i64 most)) (hc : c ≤ 9223372036854775807) (hnc : xs.length ≤ c) (hck : ¬ c = k) (b : Nat) (hqb : q = some ⟨b, 0, none⟩) (hi : Lib.BytesIn w q xs.length xs) :
    Calls Try.prog 32 #[.pointer (some ⟨g, 0, none⟩), .func (.func 33) #[] #[.pointer (some ⟨h, 0, none⟩)]] w (Took (tS (gsL (xs.drop k) most).1) (gsL (xs.drop k) most).2 w base g xs k) := by
  have hle := hr.le
  have hfit := gsL_fit (xs.drop k) most (hr.all.drop k)
  have hzero := gsL_zero (xs.drop k) most
  rw [List.length_drop] at hfit
  have g0 : w.cell? ⟨g, 0, none⟩ = some (.slice q xs.length c) := cell_of_row w g 0 _ _ _ hg
  have g1 : w.cell? ⟨g, 1, none⟩ = some (.int .i64 k) := cell_of_row w g 1 _ _ _ hg
  have g2 : w.cell? ⟨g, 2, none⟩ = some (.bool false) := cell_of_row w g 2 _ _ _ hg
  have gf1 : w.frozen? ⟨g, 1, none⟩ = false := by simp [World.frozen?, hg]
  have gf2 : w.frozen? ⟨g, 2, none⟩ = false := by simp [World.frozen?, hg]
  subst hqb
  have hbd := bytes_drop hi k (xs.length - k) (by omega)
  rw [Nat.zero_add] at hbd
  have hC := fun m => clo_str (some ⟨b, k, none⟩) (xs.length - k) (c - k) h (xs.drop k) most (w.drewN m) (by simp) (by omega) (by omega) (hr.all.drop k) hbd hh
  obtain ⟨N, L, e⟩ : ∃ N L, gsL (xs.drop k) most = (N, L) := ⟨_, _, rfl⟩
  rw [e] at hC hfit hzero ⊢
  have HC := Lib.hid hC
  have HR := Lib.hid hr
  simp only at HC hfit hzero ⊢
  clear hC hr hg hh e hi hbd
  by_cases hL : L = 0
  · subst hL
    obtain rfl := hzero rfl
    go_enter Try.func32, Try.ntmps32
    go_wp2_with fail
    go_quiet ((go_at_call 33; exact quiet_left (HC.out _)))
    rename_i nq
    go_wp2_with fail
    go_ret
    exact ⟨rfl, (HR.out.drewN nq).set2 true, only_set (only_drewN w _ nq) 2 _⟩

  · have c0 : ((L : Int) == 0) = false := by simp; omega
    clear hzero
    go_enter Try.func32, Try.ntmps32
    go_wp2_with fail
    go_quiet ((go_at_call 33; exact quiet_left (HC.out _)))
    rename_i nq
    go_wp2_with fail
    go_ret
    exact ⟨rfl, took_set HR.out hL nq (by omega), only_set (only_drewN w _ nq) 1 _⟩

end Go.Proofs.Ytanbggegbhcfhaa
