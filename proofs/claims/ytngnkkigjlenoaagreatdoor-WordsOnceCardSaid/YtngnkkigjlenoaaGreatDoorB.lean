/-
  Contracts: remarkEnd and bare, which go through a line by gotos. Conditions: as each states.
-/
import Derived.Test.YtngnkkigjlenoaaGreatDoorM
namespace Go.Proofs.YtngnkkigjlenoaaGreatDoor
open Go.RowKit

theorem scope_rounds {P : Program} {a : Act} {w : World} {Q : Exit → Act → World → Prop} {c c2 : Code} (l : Nat) (J : Act → World → Prop) (μ : Act → World → Nat) (hf : findLabel c l = some (Code.seq .skip c2))
    (start : ∀ Q' : Exit → Act → World → Prop, (∀ a w, J a w → c2.wp P Q' a w) → c.wp P Q' a w)
    (pass : ∀ a w, J a w → c2.wp P (Exit.jump l (fun a' w' => J a' w' ∧ μ a' w' < μ a w) Q) a w) : (Code.scope c).wp P Q a w :=
  wp_scope_jumps l J μ hf (start _ fun a w h => Code.wp_mono (fun e a' w' hq => by
    cases e with
    | goto l' => exact ⟨hq.1, hq.2.1⟩
    | _ => exact hq) (pass a w h)) (fun a w h => wp_seq (wp_skip (pass a w h)))
theorem quiet_left {P : Program} {f : FuncId} {args : Array Value} {w : World} {n : Nat} {v : Value} (h : Calls P f args (w.drewN n) fun e w' => e = .returned v ∧ w.drewN n = w') :
    Calls P f args (w.drewN n) fun e w'' => e = .returned v ∧ ∃ m, w'' = w.drewN m := h.mono fun _ _ ⟨he, hm⟩ => ⟨he, n, hm.symm⟩
def intOf : Value → Int
  | .int _ n => n
  | _ => 0
theorem suf_drop {a : List Int} {xs : List Int} {k : Nat} (h : a <:+ xs.drop k) : a = xs.drop (xs.length - a.length) := by
  have h2 := h.trans (List.drop_suffix k xs)
  exact List.suffix_iff_eq_drop.1 h2
/-- The place at which what is left begins. -/
def plc (n : Nat) (r : List Int) : Nat := n - r.length
set_option maxHeartbeats 1600000 in
theorem rem_any (s : ByteArray) (k : Nat) (hs : s.size ≤ 100000) (hk : k ≤ s.size) (w : World) : Calls Tryz.prog 26 #[.string s, .int .i64 k] w fun e w' => e = .returned (.int .i64 (plc s.size (remL ((nums s).drop k)) : Nat)) ∧ w = w' := by
  have hKd : s.size ≤ maxLen := by unfold maxLen; omega
  have HK := Lib.hid (fun (k : Nat) (W : World) => kind_any s k hKd W)
  obtain ⟨R, HR⟩ : ∃ R, Hid (remL ((nums s).drop k) = R) := ⟨_, Lib.hid rfl⟩
  rw [HR.out]
  clear hKd
  go_enter Tryz.func26, Tryz.ntmps26
  go_wp2
  refine scope_rounds 0 (fun a' wr => w = wr ∧ ∃ (k : Nat) (u2 u3 u5 u6 u7 u8 u9 u10 u11 u12 u13 u14 u15 u16 u17 : Value), a' = { tmps := #[.string s, .int .i64 k, u2, u3, .int .i64 0, u5, u6, u7, u8, u9, u10, u11, u12, u13, u14, u15, u16, u17], defers := [] } ∧ k ≤ s.size ∧ Hid (remL ((nums s).drop k) = R)) (fun a' _ => s.size - (intOf (a'.tmps.getD 1 undef)).toNat) rfl ?_ ?_
  · intro Q' hQ
    go_wp2
    go_step3
    rename_i K hK
    exact hK _ _ (hQ _ _ ⟨rfl, k, _, _, _, _, _, _, _, _, _, _, _, _, _, _, _, rfl, hk, HR⟩)
  · clear HR hk k
    rintro a' wr ⟨rfl, k, u2, u3, u5, u6, u7, u8, u9, u10, u11, u12, u13, u14, u15, u16, u17, rfl, hk, HR⟩
    have HC := Lib.hid (HK.out k w)
    have hkd := kAt_drop (nums s) k
    have hrg := kAt_range (nums s) k
    obtain ⟨c, hc⟩ : ∃ c, kAt (nums s) k = c := ⟨_, rfl⟩
    rw [hc] at HC hkd hrg
    by_cases hgo : c = 0 ∨ c = 1
    · have hR : (nums s).drop k = R := by rw [← HR.out, rem_stop (by omega)]
      have hpl : plc s.size R = k := by
        unfold plc
        rw [← hR, List.length_drop, nums_length]
        omega
      have HP := Lib.hid hpl
      have d0 : (c != 0 && c != 1) = false := by rcases hgo with rfl | rfl <;> rfl
      clear hkd hrg hc HR hR hpl HK
      rcases hgo with rfl | rfl
      · go_wp2_with (go_at_call 17; refine HC.out.mono ?_; rintro e w' ⟨rfl, rfl⟩)
        simp only [Exit.jump]
        go_ret
        exact ⟨ret_int (by rw [HP.out]), rfl⟩
      · go_wp2_with (go_at_call 17; refine HC.out.mono ?_; rintro e w' ⟨rfl, rfl⟩)
        simp only [Exit.jump]
        go_ret
        exact ⟨ret_int (by rw [HP.out]), rfl⟩
    · have hlt : k < (nums s).length := by
        refine Nat.lt_of_not_le fun h => hgo (Or.inl ?_)
        rw [← hc]
        exact if_pos h
      have hR := HR.out
      rw [getD_drop _ _ hlt, rem_go (by rw [getD_drop _ _ hlt] at hkd; show ¬ kL (_ :: (nums s).drop (k + 1)) = 1; rw [← hkd]; omega)] at hR
      have HR1 := Lib.hid hR
      rw [nums_length] at hlt
      have c0 : (c != 0) = true := by simp; omega
      have c1 : (c != 1) = true := by simp; omega
      have hw1 : IntKind.i64.wrap ((k : Int) + 1) = (k : Int) + 1 := IntWalk.i64_in _ (by omega)
      clear hkd hrg hc HR hR HK hgo
      go_wp2_with (go_at_call 17; refine HC.out.mono ?_; rintro e w' ⟨rfl, rfl⟩)
      go_step3
      refine ⟨rfl, ⟨rfl, k + 1, _, _, _, _, _, _, _, _, _, _, _, _, _, _, _, rfl, by omega, HR1⟩, ?_⟩
      simp [intOf]
      omega

set_option maxHeartbeats 3200000 in
theorem bare_any (s : ByteArray) (k0 : Nat) (hs : s.size ≤ 100000) (hk : k0 ≤ s.size) (w : World) : Calls Tryz.prog 28 #[.string s, .int .i64 k0] w fun e w' =>
    e = .returned (.tuple #[.string (strOfNums (bareL ((nums s).drop k0)).1), .int .i64 (plc s.size (bareL ((nums s).drop k0)).2 : Nat), .bool (endsL (bareL ((nums s).drop k0)).2)]) ∧ ∃ n, w' = w.drewN n := by
  have hKd : s.size ≤ maxLen := by unfold maxLen; omega
  have HK := Lib.hid (fun (k : Nat) (W : World) => kind_any s k hKd W)
  have HE := Lib.hid (fun (k : Nat) (W : World) => ends_any s k hKd W)
  obtain ⟨R, HR⟩ : ∃ R, Hid (bareL ((nums s).drop k0) = R) := ⟨_, Lib.hid rfl⟩
  have HJ := Lib.hid (bare_join ((nums s).drop k0))
  rw [HR.out] at HJ ⊢
  have hJ := HJ.out
  clear hKd
  go_enter Tryz.func28, Tryz.ntmps28
  go_wp2
  refine scope_rounds 0 (fun a' wr => w = wr ∧ ∃ (k : Nat) (u2 u3 u8 u9 u10 u11 u12 u13 u14 u15 u16 u17 u18 u19 u20 u21 u22 u23 u24 : Value), a' = { tmps := #[.string s, .int .i64 k, u2, u3, .string ⟨#[]⟩, .int .i64 0, .bool false, .int .i64 k0, u8, u9, u10, u11, u12, u13, u14, u15, u16, u17, u18, u19, u20, u21, u22, u23, u24], defers := [] } ∧ k0 ≤ k ∧ k ≤ s.size ∧ Hid ((bareL ((nums s).drop k)).2 = R.2)) (fun a' _ => s.size - (intOf (a'.tmps.getD 1 undef)).toNat) rfl ?_ ?_
  · intro Q' hQ
    go_wp2
    go_step3
    rename_i K hK
    exact hK _ _ (hQ _ _ ⟨rfl, k0, _, _, _, _, _, _, _, _, _, _, _, _, _, _, _, _, _, _, _, rfl, Nat.le_refl _, hk, Lib.hid (by rw [HR.out])⟩)
  · rintro a' wr ⟨rfl, k, u2, u3, u8, u9, u10, u11, u12, u13, u14, u15, u16, u17, u18, u19, u20, u21, u22, u23, u24, rfl, hk0, hk1, HR2⟩
    have HC := Lib.hid (HK.out k w)
    have hkd := kAt_drop (nums s) k
    have hrg := kAt_range (nums s) k
    obtain ⟨c, hc⟩ : ∃ c, kAt (nums s) k = c := ⟨_, rfl⟩
    rw [hc] at HC hkd hrg
    by_cases hgo : c = 6 ∨ c = 3
    · have hlt : k < (nums s).length := by
        refine Nat.lt_of_not_le fun h => ?_
        have : c = 0 := by rw [← hc]; exact if_pos h
        omega
      have hR := HR2.out
      rw [getD_drop _ _ hlt] at hR hkd
      rw [bare_yes (by show kL (_ :: (nums s).drop (k + 1)) = 6 ∨ kL (_ :: (nums s).drop (k + 1)) = 3; rw [← hkd]; omega)] at hR
      have HR1 := Lib.hid (show (bareL ((nums s).drop (k + 1))).2 = R.2 from hR)
      rw [nums_length] at hlt
      have hw1 : IntKind.i64.wrap ((k : Int) + 1) = (k : Int) + 1 := IntWalk.i64_in _ (by omega)
      clear hkd hrg hc HR hR HK HJ hJ HR2 HE
      rcases hgo with rfl | rfl
      · go_wp2_with (go_at_call 17; refine HC.out.mono ?_; rintro e w' ⟨rfl, rfl⟩)
        go_step3
        refine ⟨rfl, ⟨rfl, k + 1, _, _, _, _, _, _, _, _, _, _, _, _, _, _, _, _, _, _, _, rfl, by omega, by omega, HR1⟩, ?_⟩
        simp [intOf]
        omega
      · go_wp2_with (go_at_call 17; refine HC.out.mono ?_; rintro e w' ⟨rfl, rfl⟩)
        go_step3
        refine ⟨rfl, ⟨rfl, k + 1, _, _, _, _, _, _, _, _, _, _, _, _, _, _, _, _, _, _, _, rfl, by omega, by omega, HR1⟩, ?_⟩
        simp [intOf]
        omega
    · have hR : (nums s).drop k = R.2 := by rw [← HR2.out, bare_stop (by omega)]
      have hlen := congrArg List.length hJ
      have hlR := congrArg List.length hR
      rw [List.length_append, List.length_drop, nums_length] at hlen
      rw [List.length_drop, nums_length] at hlR
      have hpl : plc s.size R.2 = k := by
        unfold plc
        omega
      have hR1 : R.1 = ((nums s).drop k0).take (k - k0) := by
        rw [← hJ, List.take_append_of_le_length (by omega), List.take_of_length_le (by omega)]
      have hst : strOfNums R.1 = s.extract k0 k := by
        rw [hR1]
        refine nums_inj ?_
        rw [nums_str _ ((nums_all s).drop _ |>.take _)]
        simp [nums, List.map_drop, List.map_take]

      have hen : endsL R.2 = endsAt (nums s) k := by rw [endsAt_drop, hR]
      have HP := Lib.hid (And.intro hpl (And.intro hst hen))
      have HEk := Lib.hid (fun W => HE.out k W)
      have hsl := run_slice_string (P := Tryz.prog) (w := w) 9 s .i64 .i64 (k0 : Int) (k : Int) Tryz.underlying9 (by omega) (by omega) (by omega)
      have e6 : (c == 6) = false := by simp; omega
      have e3 : (c == 3) = false := by simp; omega
      clear hkd hrg hc HR hR HJ hJ HR2 HE hlen hlR hpl hR1 hst hen hgo
      go_wp2_with (go_at_call 17; refine HC.out.mono ?_; rintro e w' ⟨rfl, rfl⟩)
      go_quiet ((go_at_call 36; exact quiet_left (HEk.out _)))
      go_wp2_with fail
      simp only [Exit.jump]
      go_ret3
      exact ⟨by rw [HP.out.1, HP.out.2.1, HP.out.2.2]; rfl, _, rfl⟩
end Go.Proofs.YtngnkkigjlenoaaGreatDoor
