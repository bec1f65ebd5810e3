/-
  Contract: quoted, a word between quotes. Conditions: as each states.
-/
import Derived.Test.YtngnkkigjlenoaaGreatDoorD
namespace Go.Proofs.YtngnkkigjlenoaaGreatDoor
open Go.RowKit

theorem below_drewN (w : World) (m : Nat) : Below w.heap.size w (w.drewN m) := ⟨rfl, rfl, rfl, Nat.le_refl _, fun _ _ => rfl⟩
theorem low_drewN {B : Nat} {a w : World} (h : Below B a w) (n : Nat) : Below B a (w.drewN n) := ⟨h.os, h.tape, h.output, h.size, h.block⟩
theorem QW.move {w : World} {B : Nat} {s : ByteArray} {wr : World} {k : Nat} {acc : List Int} (h : QW w B s wr k acc) (j : Nat) : QW w B s (wr.setCell ⟨B + 1, 0, none⟩ (.int .i64 j)) j acc := by
  obtain ⟨v, h1, h2⟩ := h.wrd
  exact ⟨set_far h.line _ (by omega), set_one h.at' _, ⟨v, set_far h1 _ (by omega), own_far h2 _ (by omega)⟩, h.low.setCell (p := ⟨B + 1, 0, none⟩) (by show B ≤ B + 1; omega) _⟩
/-- What a walk reads of it. -/
theorem QW.reads {w : World} {B : Nat} {s : ByteArray} {wr : World} {k : Nat} {acc : List Int} (h : QW w B s wr k acc) : wr.cell? ⟨B, 0, none⟩ = some (.string s) ∧ wr.cell? ⟨B + 1, 0, none⟩ = some (.int .i64 k) ∧ wr.frozen? ⟨B + 1, 0, none⟩ = false :=
  ⟨cell0 h.line, cell0 h.at', frozen_at h.at'⟩
theorem quo_at {xs : List Int} {k : Nat} {c : Int} (hc : kAt xs k = c) (h : c ≠ 0) : ∃ r, xs.drop k = xs.getD k 0 :: r ∧ xs.drop (k + 1) = r ∧ knd (xs.getD k 0) = c ∧ k < xs.length := by
  have hlt : k < xs.length := Nat.lt_of_not_le fun hn => h (by rw [← hc]; exact if_pos hn)
  refine ⟨_, getD_drop xs k hlt, rfl, ?_, hlt⟩
  rw [← hc]
  unfold kAt
  rw [if_neg (by omega)]
theorem quo_end {xs : List Int} {k : Nat} (hc : kAt xs k = 0) : xs.drop k = [] := by
  refine List.drop_eq_nil_of_le (Nat.le_of_not_lt fun h => ?_)
  unfold kAt at hc
  rw [if_neg (by omega)] at hc
  have := knd_range (xs.getD k 0)
  omega
/-- How the rest of a word hangs together with the whole of it. -/
def QR (xs : List Int) (k : Nat) (acc : List Int) (R : Bool × List Int × List Int) : Prop := (quoL (xs.drop (k + 1))).1 = R.1 ∧ acc ++ (quoL (xs.drop (k + 1))).2.1 = R.2.1 ∧ (quoL (xs.drop (k + 1))).2.2 = R.2.2
theorem QR.sign {xs : List Int} {k : Nat} {acc : List Int} {R : Bool × List Int × List Int} (h : QR xs k acc R) {c : Int} (hc : kAt xs (k + 1) = c) (h2 : c = 2 ∨ c = 3 ∨ c = 6) : QR xs (k + 1) (acc ++ [xs.getD (k + 1) 0]) R ∧ k + 1 < xs.length := by
  obtain ⟨r, h3, h4, h5, h6⟩ := quo_at hc (by omega)
  refine ⟨?_, h6⟩
  unfold QR at h ⊢
  rw [h3, quoL_sign (by rw [h5]; exact h2)] at h
  rw [h4]
  exact ⟨h.1, by rw [← h.2.1]; simp, h.2.2⟩
theorem QR.stroke {xs : List Int} {k : Nat} {acc : List Int} {R : Bool × List Int × List Int} (h : QR xs k acc R) (hc : kAt xs (k + 1) = 5) {d : Int} (hd : kAt xs (k + 2) = d) (h2 : d = 4 ∨ d = 5) : QR xs (k + 2) (acc ++ [xs.getD (k + 2) 0]) R ∧ k + 2 < xs.length := by
  obtain ⟨r, h3, h4, h5, h6⟩ := quo_at hc (by omega)
  obtain ⟨r', h3', h4', h5', h6'⟩ := quo_at hd (by omega)
  refine ⟨?_, h6'⟩
  have e : r = xs.getD (k + 2) 0 :: r' := by rw [← h4]; exact h3'
  unfold QR at h ⊢
  rw [h3, e, quoL_stroke h5 (by rw [h5']; exact h2)] at h
  rw [h4']
  exact ⟨h.1, by rw [← h.2.1]; simp, h.2.2⟩
theorem plc_drop {xs r : List Int} {k n : Nat} (h : xs.drop k = r) (hn : xs.length = n) (hk : k ≤ n) : plc n r = k := by
  unfold plc
  rw [← h, List.length_drop]
  omega
theorem QR.lone {xs : List Int} {k n : Nat} {acc : List Int} {R : Bool × List Int × List Int} (h : QR xs k acc R) (hc : kAt xs (k + 1) = 5) {d : Int} (hd : kAt xs (k + 2) = d) (h2 : ¬ (d = 4 ∨ d = 5)) (hn : xs.length = n) : R.1 = false ∧ plc n R.2.2 = k + 2 := by
  obtain ⟨r, h3, h4, h5, h6⟩ := quo_at hc (by omega)
  have hk := kAt_drop xs (k + 2)
  rw [hd, show xs.drop (k + 2) = r from h4] at hk
  unfold QR at h
  rw [h3, quoL_lone h5 (by rw [← hk]; exact h2)] at h
  exact ⟨h.1.symm, by rw [← h.2.2]; exact plc_drop h4 hn (by omega)⟩
theorem QR.odd {xs : List Int} {k n : Nat} {acc : List Int} {R : Bool × List Int × List Int} (h : QR xs k acc R) (hc : kAt xs (k + 1) = 0 ∨ kAt xs (k + 1) = 1) (hn : xs.length = n) (hk : k + 1 ≤ n) : R.1 = false ∧ plc n R.2.2 = k + 1 := by
  rcases hc with hc | hc
  · have h3 := quo_end hc
    unfold QR at h
    rw [h3, quoL_nil] at h
    exact ⟨h.1.symm, by rw [← h.2.2]; exact plc_drop h3 hn hk⟩
  · obtain ⟨r, h3, h4, h5, h6⟩ := quo_at hc (by omega)
    unfold QR at h
    rw [h3, quoL_odd h5] at h
    exact ⟨h.1.symm, by rw [← h.2.2]; exact plc_drop h3 hn hk⟩
theorem QR.quote {xs : List Int} {k n : Nat} {acc : List Int} {R : Bool × List Int × List Int} (h : QR xs k acc R) (hc : kAt xs (k + 1) = 4) (hn : xs.length = n) : R.1 = true ∧ R.2.1 = acc ∧ plc n R.2.2 = k + 2 ∧ endsAt xs (k + 2) = endsL R.2.2 ∧ k + 1 < n := by
  obtain ⟨r, h3, h4, h5, h6⟩ := quo_at hc (by omega)
  unfold QR at h
  rw [h3, quoL_quote h5] at h
  refine ⟨h.1.symm, by rw [← h.2.1]; simp, by rw [← h.2.2]; exact plc_drop h4 hn (by omega), ?_, by omega⟩
  rw [endsAt_drop, ← h.2.2]
  show endsL (xs.drop (k + 1 + 1)) = _
  rw [h4]
/-- What quoted hands back. -/
def OutQ (s : ByteArray) (R : Bool × List Int × List Int) (w : World) (e : Ending) (w' : World) : Prop := ∃ W : ByteArray, e = .returned (.tuple #[.string W, .int .i64 (plc s.size R.2.2 : Nat), .bool (R.1 && endsL R.2.2)]) ∧ (R.1 = true → W = strOfNums R.2.1) ∧ Below w.heap.size w w'
theorem OutQ.no {s : ByteArray} {R : Bool × List Int × List Int} {w w' : World} {j : Nat} (h : R.1 = false ∧ plc s.size R.2.2 = j) (hb : Below w.heap.size w w') : OutQ s R w (.returned (.tuple #[.string ⟨#[]⟩, .int .i64 j, .bool false])) w' := by
  refine ⟨⟨#[]⟩, ?_, ?_, hb⟩
  · rw [h.2, h.1]; rfl
  · intro e; rw [h.1] at e; cases e
theorem QW.start (w : World) (s : ByteArray) (k : Nat) : QW w w.heap.size s (((w.alloc (.cells #[.string s] 9)).alloc (.cells #[.int .i64 k] 3)).alloc (.cells #[.slice none 0 0] 40)) k [] := by
  have s1 : (w.alloc (.cells #[.string s] 9)).heap.size = w.heap.size + 1 := by simp
  have s2 : ((w.alloc (.cells #[.string s] 9)).alloc (.cells #[.int .i64 k] 3)).heap.size = w.heap.size + 1 + 1 := by simp
  have h0 := heap_alloc_new w (.cells #[.string s] 9)
  have h1 := heap_alloc_new (w.alloc (.cells #[.string s] 9)) (.cells #[.int .i64 k] 3)
  have h2 := heap_alloc_new ((w.alloc (.cells #[.string s] 9)).alloc (.cells #[.int .i64 k] 3)) (.cells #[.slice none 0 0] 40)
  have b0 : Below w.heap.size w (w.alloc (.cells #[.string s] 9)) := (Below.refl _ _).alloc (Nat.le_refl _) _
  have b1 : Below (w.alloc (.cells #[.string s] 9)).heap.size (w.alloc (.cells #[.string s] 9)) ((w.alloc (.cells #[.string s] 9)).alloc (.cells #[.int .i64 k] 3)) := (Below.refl _ _).alloc (Nat.le_refl _) _
  have b2 : Below ((w.alloc (.cells #[.string s] 9)).alloc (.cells #[.int .i64 k] 3)).heap.size ((w.alloc (.cells #[.string s] 9)).alloc (.cells #[.int .i64 k] 3)) (((w.alloc (.cells #[.string s] 9)).alloc (.cells #[.int .i64 k] 3)).alloc (.cells #[.slice none 0 0] 40)) := (Below.refl _ _).alloc (Nat.le_refl _) _
  rw [s1] at h1 b1
  rw [s2] at h2 b2
  exact ⟨(b2.block _ (by omega)).trans ((b1.block _ (by omega)).trans h0), (b2.block _ (by omega)).trans h1, ⟨_, h2, World.ownsRow_nil _ _ _ _⟩, (b0.trans (b1.mono (by omega))).trans (b2.mono (by omega))⟩
set_option maxRecDepth 100000 in
set_option maxHeartbeats 8000000 in
theorem quoted_any (s : ByteArray) (k0 : Nat) (hs : s.size ≤ 100000) (hk0 : k0 < s.size) (w : World) : Calls Tryz.prog 27 #[.string s, .int .i64 k0] w (OutQ s (quoL ((nums s).drop (k0 + 1))) w) := by
  have hKd : s.size ≤ maxLen := by unfold maxLen; omega
  have HK := Lib.hid (fun (k : Nat) (W : World) => kind_any s k hKd W)
  have HE := Lib.hid (fun (k : Nat) (W : World) => ends_any s k hKd W)
  obtain ⟨R, HR⟩ : ∃ R, Hid (quoL ((nums s).drop (k0 + 1)) = R) := ⟨_, Lib.hid rfl⟩
  rw [HR.out]
  have hmf : ∀ (fn : Fn) (first cap : Array Value) (w : World), (Instr.makeFunc fn first cap).run Tryz.prog w = .ok (.func fn first cap) w := fun _ _ _ _ => rfl
  clear hKd
  obtain ⟨B, hB⟩ : ∃ B, w.heap.size = B := ⟨_, rfl⟩
  go_enter Tryz.func27, Tryz.ntmps27
  go_wp2_with fail
  refine scope_rounds 0 (fun a' wr => ∃ (k : Nat) (acc : List Int) (u0 u1 u9 u10 u11 u12 u13 u14 u15 u16 u17 u18 u19 u20 u21 u22 u23 u24 u25 u26 u27 u28 u29 u30 u31 u32 u33 u34 u35 u36 u37 u38 u39 u40 u41 u42 u43 u44 u45 u46 u47 u48 : Value), a' = { tmps := #[u0, u1, .pointer (some ⟨B, 0, none⟩), .pointer (some ⟨B + 1, 0, none⟩), .string ⟨#[]⟩, .int .i64 0, .bool false, .pointer (some ⟨B + 2, 0, none⟩), .func (.func 35) #[] #[.pointer (some ⟨B + 2, 0, none⟩), .pointer (some ⟨B, 0, none⟩), .pointer (some ⟨B + 1, 0, none⟩)], u9, u10, u11, u12, u13, u14, u15, u16, u17, u18, u19, u20, u21, u22, u23, u24, u25, u26, u27, u28, u29, u30, u31, u32, u33, u34, u35, u36, u37, u38, u39, u40, u41, u42, u43, u44, u45, u46, u47, u48], defers := [] } ∧ k < s.size ∧ acc.length ≤ k ∧ Hid (QW w B s wr k acc) ∧ Hid (QR (nums s) k acc R)) (fun _ wr => s.size - (intOf ((wr.cell? ⟨B + 1, 0, none⟩).getD undef)).toNat) rfl ?_ ?_
  · intro Q' hQ
    go_wp2_with fail
    go_step3
    rename_i K hK
    exact hK _ _ (hQ _ _ ⟨k0, [], _, _, _, _, _, _, _, _, _, _, _, _, _, _, _, _, _, _, _, _, _, _, _, _, _, _, _, _, _, _, _, _, _, _, _, _, _, _, _, _, _, _, rfl, hk0, Nat.zero_le _, Lib.hid (by rw [← hB]; exact QW.start w s k0), Lib.hid (by unfold QR; rw [HR.out]; exact ⟨rfl, rfl, rfl⟩)⟩)
  · clear HR hk0 k0
    rintro a' wr ⟨k, acc, u0, u1, u9, u10, u11, u12, u13, u14, u15, u16, u17, u18, u19, u20, u21, u22, u23, u24, u25, u26, u27, u28, u29, u30, u31, u32, u33, u34, u35, u36, u37, u38, u39, u40, u41, u42, u43, u44, u45, u46, u47, u48, rfl, hk, hacc, HQ, HQR⟩
    obtain ⟨c0, c1, f1⟩ := HQ.out.reads
    have HCA := Lib.hid c1
    have HQ1 : QW w B s (wr.setCell ⟨B + 1, 0, none⟩ (.int .i64 ((k : Int) + 1))) (k + 1) acc := HQ.out.move (k + 1)
    obtain ⟨d0, d1, e1⟩ := HQ1.reads
    have HC := Lib.hid (show ∀ W, Calls Tryz.prog 17 #[.string s, .int .i64 ((k : Int) + 1)] W fun e w' => e = .returned (.int .i64 (kAt (nums s) (k + 1))) ∧ W = w' from fun W => HK.out (k + 1) W)
    have hw1 : IntKind.i64.wrap ((k : Int) + 1) = (k : Int) + 1 := IntWalk.i64_in _ (by omega)
    have hrg := kAt_range (nums s) (k + 1)
    obtain ⟨c, hc⟩ : ∃ c, kAt (nums s) (k + 1) = c := ⟨_, rfl⟩
    rw [hc] at HC hrg
    have hcc : c = 6 ∨ c = 3 ∨ c = 2 ∨ c = 5 ∨ c = 4 ∨ c = 0 ∨ c = 1 := by omega
    clear hrg
    rcases hcc with rfl | rfl | rfl | rfl | rfl | rfl | rfl
    · obtain ⟨HQR1, hk1⟩ := HQR.out.sign hc (by decide)
      have HR1 := Lib.hid HQR1
      rw [nums_length] at hk1
      have HP := Lib.hid (put_any HQ1 hk1 (by omega))
      clear HQR1 HQR hc HQ
      go_wp2_with (first | (go_at_call 17; refine (HC.out _).mono ?_; rintro e w' ⟨rfl, rfl⟩) | (go_at_call 35; refine HP.out.mono ?_; rintro e w2 ⟨rfl, HQ2⟩))
      go_step3
      have cQ := HQ2.reads.2.1
      refine ⟨rfl, ⟨k + 1, _, _, _, _, _, _, _, _, _, _, _, _, _, _, _, _, _, _, _, _, _, _, _, _, _, _, _, _, _, _, _, _, _, _, _, _, _, _, _, _, _, _, _, rfl, hk1, by rw [List.length_append, List.length_singleton]; omega, Lib.hid HQ2, HR1⟩, ?_⟩
      rw [cQ, HCA.out]
      simp [intOf]
      omega
    · obtain ⟨HQR1, hk1⟩ := HQR.out.sign hc (by decide)
      have HR1 := Lib.hid HQR1
      rw [nums_length] at hk1
      have HP := Lib.hid (put_any HQ1 hk1 (by omega))
      clear HQR1 HQR hc HQ
      go_wp2_with (first | (go_at_call 17; refine (HC.out _).mono ?_; rintro e w' ⟨rfl, rfl⟩) | (go_at_call 35; refine HP.out.mono ?_; rintro e w2 ⟨rfl, HQ2⟩))
      go_step3
      have cQ := HQ2.reads.2.1
      refine ⟨rfl, ⟨k + 1, _, _, _, _, _, _, _, _, _, _, _, _, _, _, _, _, _, _, _, _, _, _, _, _, _, _, _, _, _, _, _, _, _, _, _, _, _, _, _, _, _, _, _, rfl, hk1, by rw [List.length_append, List.length_singleton]; omega, Lib.hid HQ2, HR1⟩, ?_⟩
      rw [cQ, HCA.out]
      simp [intOf]
      omega
    · obtain ⟨HQR1, hk1⟩ := HQR.out.sign hc (by decide)
      have HR1 := Lib.hid HQR1
      rw [nums_length] at hk1
      have HP := Lib.hid (put_any HQ1 hk1 (by omega))
      clear HQR1 HQR hc HQ
      go_wp2_with (first | (go_at_call 17; refine (HC.out _).mono ?_; rintro e w' ⟨rfl, rfl⟩) | (go_at_call 35; refine HP.out.mono ?_; rintro e w2 ⟨rfl, HQ2⟩))
      go_step3
      have cQ := HQ2.reads.2.1
      refine ⟨rfl, ⟨k + 1, _, _, _, _, _, _, _, _, _, _, _, _, _, _, _, _, _, _, _, _, _, _, _, _, _, _, _, _, _, _, _, _, _, _, _, _, _, _, _, _, _, _, _, rfl, hk1, by rw [List.length_append, List.length_singleton]; omega, Lib.hid HQ2, HR1⟩, ?_⟩
      rw [cQ, HCA.out]
      simp [intOf]
      omega
    · have HC2 := Lib.hid (show ∀ W, Calls Tryz.prog 17 #[.string s, .int .i64 ((k : Int) + 1 + 1)] W fun e w' => e = .returned (.int .i64 (kAt (nums s) (k + 2))) ∧ W = w' from fun W => HK.out (k + 2) W)
      have HQ2 : QW w B s ((wr.setCell ⟨B + 1, 0, none⟩ (.int .i64 ((k : Int) + 1))).setCell ⟨B + 1, 0, none⟩ (.int .i64 ((k : Int) + 1 + 1))) (k + 2) acc := HQ1.move (k + 2)
      obtain ⟨g0, g1, i1⟩ := HQ2.reads
      obtain ⟨d, hd⟩ : ∃ d, kAt (nums s) (k + 2) = d := ⟨_, rfl⟩
      rw [hd] at HC2
      by_cases hdd : d = 4 ∨ d = 5
      · rcases hdd with rfl | rfl
        · have hdd := 0
          obtain ⟨HQR1, hk1⟩ := HQR.out.stroke hc hd (by decide)
          have HR1 := Lib.hid HQR1
          rw [nums_length] at hk1
          have hw2 : IntKind.i64.wrap ((k : Int) + 1 + 1) = (k : Int) + 1 + 1 := IntWalk.i64_in _ (by omega)
          have HP := Lib.hid (put_any HQ2 hk1 (by omega))
          clear HQR1 HQR hc HQ hd hdd
          go_wp2_with fail
          refine (HC.out _).mono ?_
          rintro e w' ⟨rfl, rfl⟩
          go_wp2_with fail
          refine (HC2.out _).mono ?_
          rintro e w' ⟨rfl, rfl⟩
          go_wp2_with (first | (go_at_call 35; refine HP.out.mono ?_; rintro e w2 ⟨rfl, HQ2⟩))
          go_step3
          have cQ := HQ2.reads.2.1
          refine ⟨rfl, ⟨k + 2, _, _, _, _, _, _, _, _, _, _, _, _, _, _, _, _, _, _, _, _, _, _, _, _, _, _, _, _, _, _, _, _, _, _, _, _, _, _, _, _, _, _, _, rfl, hk1, by rw [List.length_append, List.length_singleton]; omega, Lib.hid HQ2, HR1⟩, ?_⟩
          rw [cQ, HCA.out]
          simp [intOf]
          omega
        · have hdd := 0
          obtain ⟨HQR1, hk1⟩ := HQR.out.stroke hc hd (by decide)
          have HR1 := Lib.hid HQR1
          rw [nums_length] at hk1
          have hw2 : IntKind.i64.wrap ((k : Int) + 1 + 1) = (k : Int) + 1 + 1 := IntWalk.i64_in _ (by omega)
          have HP := Lib.hid (put_any HQ2 hk1 (by omega))
          clear HQR1 HQR hc HQ hd hdd
          go_wp2_with fail
          refine (HC.out _).mono ?_
          rintro e w' ⟨rfl, rfl⟩
          go_wp2_with fail
          refine (HC2.out _).mono ?_
          rintro e w' ⟨rfl, rfl⟩
          go_wp2_with (first | (go_at_call 35; refine HP.out.mono ?_; rintro e w2 ⟨rfl, HQ2⟩))
          go_step3
          have cQ := HQ2.reads.2.1
          refine ⟨rfl, ⟨k + 2, _, _, _, _, _, _, _, _, _, _, _, _, _, _, _, _, _, _, _, _, _, _, _, _, _, _, _, _, _, _, _, _, _, _, _, _, _, _, _, _, _, _, _, rfl, hk1, by rw [List.length_append, List.length_singleton]; omega, Lib.hid HQ2, HR1⟩, ?_⟩
          rw [cQ, HCA.out]
          simp [intOf]
          omega
      · have HF := Lib.hid (HQR.out.lone hc hd hdd (nums_length s))
        have hw2 : IntKind.i64.wrap ((k : Int) + 1 + 1) = (k : Int) + 1 + 1 := IntWalk.i64_in _ (by omega)
        have q4 : (d != 4) = true := by simp; omega
        have q5 : (d != 5) = true := by simp; omega
        have HL := Lib.hid (show Below w.heap.size w _ from by rw [hB]; exact HQ2.low)
        clear HQR hc HQ hd hdd
        go_wp2_with fail
        refine (HC.out _).mono ?_
        rintro e w' ⟨rfl, rfl⟩
        go_wp2_with fail
        refine (HC2.out _).mono ?_
        rintro e w' ⟨rfl, rfl⟩
        go_wp2_with fail
        go_quiet (fail)
        go_wp2_with fail
        simp only [Exit.jump]
        go_ret3
        exact OutQ.no HF.out (low_drewN HL.out _)
    · obtain ⟨h1, h2, h3, h4, h5⟩ := HQR.out.quote hc (nums_length s)
      have HQ2 : QW w B s ((wr.setCell ⟨B + 1, 0, none⟩ (.int .i64 ((k : Int) + 1))).setCell ⟨B + 1, 0, none⟩ (.int .i64 ((k : Int) + 1 + 1))) (k + 2) acc := HQ1.move (k + 2)
      obtain ⟨g0, g1, i1⟩ := HQ2.reads
      obtain ⟨v, hv, hown⟩ := HQ2.wrd
      obtain ⟨p', c', rfl, _, hbi, _⟩ := own_bytes hown
      have j0 := cell0 hv
      have hcv := fun (n : Nat) => conv_bytes (w := ((wr.setCell ⟨B + 1, 0, none⟩ (.int .i64 ((k : Int) + 1))).setCell ⟨B + 1, 0, none⟩ (.int .i64 ((k : Int) + 1 + 1))).drewN n) (bytes_on hbi (below_drewN _ n)) rfl c'
      have hw2 : IntKind.i64.wrap ((k : Int) + 1 + 1) = (k : Int) + 1 + 1 := IntWalk.i64_in _ (by omega)
      have HEk := Lib.hid (show ∀ W, Calls Tryz.prog 36 #[.string s, .int .i64 ((k : Int) + 1 + 1)] W fun e w' => e = .returned (.bool (endsL R.2.2)) ∧ W = w' from fun W => by rw [← h4]; exact HE.out (k + 2) W)
      have HL := Lib.hid (show Below w.heap.size w _ from by rw [hB]; exact HQ2.low)
      have HZ := Lib.hid (And.intro h1 (And.intro h2 h3))
      clear HQR hc HQ h1 h2 h3 h4 hbi hown
      go_wp2_with (go_at_call 17; (refine (HC.out _).mono ?_; rintro e w' ⟨rfl, rfl⟩))
      go_quiet ((go_at_call 36; exact quiet_left (HEk.out _)))
      go_wp2_with fail
      simp only [Exit.jump]
      go_ret3
      refine ⟨strOfNums acc, ?_, fun _ => by rw [HZ.out.2.1], low_drewN HL.out _⟩
      rw [HZ.out.2.2, HZ.out.1]
      rfl
    · have HF := Lib.hid (HQR.out.odd (Or.inl hc) (nums_length s) (by omega))
      have HL := Lib.hid (show Below w.heap.size w _ from by rw [hB]; exact HQ1.low)
      clear HQR hc HQ
      go_wp2_with (go_at_call 17; (refine (HC.out _).mono ?_; rintro e w' ⟨rfl, rfl⟩))
      go_quiet (fail)
      go_wp2_with fail
      simp only [Exit.jump]
      go_ret3
      exact OutQ.no HF.out (low_drewN HL.out _)
    · have HF := Lib.hid (HQR.out.odd (Or.inr hc) (nums_length s) (by omega))
      have HL := Lib.hid (show Below w.heap.size w _ from by rw [hB]; exact HQ1.low)
      clear HQR hc HQ
      go_wp2_with (go_at_call 17; (refine (HC.out _).mono ?_; rintro e w' ⟨rfl, rfl⟩))
      go_quiet (fail)
      go_wp2_with fail
      simp only [Exit.jump]
      go_ret3
      exact OutQ.no HF.out (low_drewN HL.out _)
end Go.Proofs.YtngnkkigjlenoaaGreatDoor
