/-
  Contract: the document's own Lines. Conditions: the text's length.
-/
import Derived.Test.YtngnkkigjlenoaaGreatDoorT
namespace Go.Proofs.YtngnkkigjlenoaaGreatDoor
open Go.RowKit

theorem ba_app (a b : List UInt8) : ba (a ++ b) = ba a ++ ba b := by
  apply ByteArray.ext
  simp [ba]
theorem pl_take {s : ByteArray} {k : Nat} (hk : k < s.size) : ∃ c : UInt8, (pl s).take (k + 1) = (pl s).take k ++ [c] ∧ ba [c] = s.extract k (k + 1) ∧ (nums s).getD k 0 = (c.toNat : Int) := by
  have hl : k < (pl s).length := by rw [pl_len]; exact hk
  refine ⟨(pl s)[k], List.take_succ_eq_append_getElem hl, ?_, ?_⟩
  · refine nums_inj ?_
    have hk2 : k < (nums s).length := by rw [nums_length]; exact hk
    have e : nums (s.extract k (k + 1)) = ((nums s).drop k).take 1 := by
      simp [nums, List.map_drop, List.map_take]
    rw [e, List.drop_eq_getElem_cons hk2]
    simp [nums, ba, pl]
  · rw [← nums_at s k hk]
    rfl
theorem last_map {L : List (List UInt8)} (h : L ≠ []) (c : UInt8) : (L.dropLast ++ [L.getLastD [] ++ [c]]).map ba = (L.map ba).dropLast ++ [(L.map ba).getLastD ⟨#[]⟩ ++ ba [c]] := by
  obtain ⟨l, d, rfl⟩ : ∃ l d, L = l ++ [d] := ⟨L.dropLast, L.getLast h, (List.dropLast_concat_getLast h).symm⟩
  simp [ba_app]
/-- What the trimming of a line hangs on. -/
theorem trB_by (t : ByteArray) : (t.size = 0 ∧ trB t = t) ∨ (0 < t.size ∧ (nums t).getD (t.size - 1) 0 = 13 ∧ trB t = t.extract 0 (t.size - 1)) ∨ (0 < t.size ∧ (nums t).getD (t.size - 1) 0 ≠ 13 ∧ trB t = t) := by
  have hl := pl_len t
  rcases Nat.eq_zero_or_pos t.size with h0 | h0
  · refine Or.inl ⟨h0, trB_no fun l e => ?_⟩
    rw [e] at hl
    simp at hl
    omega
  · have hsp : pl t = (pl t).dropLast ++ [(pl t).getLast (fun e => by rw [e] at hl; simp at hl; omega)] := (List.dropLast_concat_getLast _).symm
    have hk : t.size - 1 < t.size := by omega
    have hlast : (nums t).getD (t.size - 1) 0 = (((pl t).getLast (fun e => by rw [e] at hl; simp at hl; omega)).toNat : Int) := by
      rw [← nums_at t _ hk, List.getLast_eq_getElem]
      simp only [hl]
      rfl
    generalize (pl t).getLast (fun e => by rw [e] at hl; simp at hl; omega) = c at hsp hlast
    by_cases hc : c = 13
    · subst hc
      exact Or.inr (Or.inl ⟨h0, hlast, trB_snoc hsp⟩)
    · refine Or.inr (Or.inr ⟨h0, fun e => hc ?_, trB_no fun l e => hc ?_⟩)
      · rw [hlast] at e
        exact UInt8.toNat_inj.1 (by have : (13 : UInt8).toNat = 13 := rfl; omega)
      · rw [e] at hsp
        exact ((List.append_inj' hsp rfl).2 |> List.singleton_inj.1).symm
set_option maxRecDepth 100000 in
set_option maxHeartbeats 8000000 in
theorem rlines_any (s : ByteArray) (hs : s.size ≤ 100000) (w : World) : Calls Tryz.prog 16 #[.string s] w (OutL s w) := by
  have HM := Lib.hid (made_str w)
  have HB0 := Lib.hid (show Below w.heap.size w (w.alloc (.cells #[.string ⟨#[]⟩] 9)) from (Below.refl _ _).alloc (Nat.le_refl _) _)
  go_enter Tryz.func16, Tryz.ntmps16
  go_wp2_with fail
  go_loopw [3, 4, 5] (fun u i _ wr => ∃ (k : Nat) (q : Option Addr) (m d : Nat), k ≤ s.size ∧ i = .int .i64 k ∧ u = .slice q m d ∧ Hid (Strs wr w.heap.size q m d ((lnL ((pl s).take k)).map ba)) ∧ Hid (Below w.heap.size w wr)) (fun _ i _ _ => s.size - (intOf i).toNat)
  case atStart => exact ⟨0, _, 1, 1, by omega, rfl, rfl, HM, HB0⟩
  case round =>
    clear HM HB0
    obtain ⟨k, q, m, d, hk, rfl, rfl, HO, HB⟩ := hrel
    have hlen := HO.out.len
    rw [List.length_map, lnL_len] at hlen
    have hcm : ((pl s).take k).count 10 ≤ k := Nat.le_trans List.count_le_length (by rw [List.length_take]; omega)
    have hpo : 0 < m := by omega
    have hmk : m ≤ 100001 := by omega
    obtain ⟨b, rfl, hb1, hb2, hmd, hd9⟩ := HO.out.form hpo
    obtain ⟨m1, hm1⟩ : ∃ m1, m = m1 + 1 := ⟨m - 1, by omega⟩
    have hw2 : IntKind.i64.wrap ((m : Int) - 1) = (m1 : Int) := by rw [IntWalk.i64_in _ (by omega)]; omega
    by_cases hlt : k < s.size
    · have d3 : decide ((k : Int) < (s.size : Int)) = true := by simp; omega
      have hc := nums_at s k hlt
      have hw1 : IntKind.i64.wrap ((k : Int) + 1) = (k : Int) + 1 := IntWalk.i64_in _ (by omega)
      obtain ⟨cu, hst, hex, hcu⟩ := pl_take hlt
      have hsn := lnL_snoc ((pl s).take k) cu
      rw [← hst] at hsn
      rw [hcu] at hc
      by_cases h10 : cu = 10
      · rw [if_pos h10] at hsn
        have hc10 : ((s[k]'hlt).toNat : Int) = 10 := by rw [hc, h10]; rfl
        obtain ⟨q', d', w', h1, h2, h3⟩ := app_str HO.out HB.out.size HB.out (by omega) ⟨#[]⟩
        rw [show (lnL ((pl s).take k)).map ba ++ [⟨#[]⟩] = (lnL ((pl s).take (k + 1))).map ba by rw [hsn, List.map_append]; rfl] at h2
        have HR := Lib.hid h1
        have HO1 := Lib.hid h2
        have HB1 := Lib.hid h3
        clear h1 h2 h3 hst hex hcu hsn hc h10 hlen hcm HO HB hm1
        go_wp2_with (at_builtin; refine Lib.wpList_append_run _ rfl _ _ _ _ rfl (.slice (some ⟨b, 0, none⟩) m d) (.slice (some ⟨wr.heap.size, 0, none⟩) 1 1) rfl rfl _ _ (HR.out _) ?_)
        go_roundw
        case rel => exact ⟨k + 1, q', m + 1, d', by omega, by go_num, rfl, HO1, HB1⟩
        case measure => simp [intOf]; omega
      · rw [if_neg h10] at hsn
        have hcn : ¬ (cu.toNat : Int) = 10 := fun e => h10 (UInt8.toNat_inj.1 (by have : (10 : UInt8).toNat = 10 := rfl; omega))
        obtain ⟨c, hcc⟩ : ∃ c : Int, (cu.toNat : Int) = c := ⟨_, rfl⟩
        rw [hcc] at hc hcn
        have hb10 : (c == 10) = false := by simpa using hcn
        have hlm := last_map (lnL_ne ((pl s).take k)) cu
        rw [← hsn, hex] at hlm
        obtain ⟨ps, hps⟩ : ∃ ps, (lnL ((pl s).take k)).map ba = ps := ⟨_, rfl⟩
        have hpl : ps.length = m1 + 1 := by rw [← hps, List.length_map, lnL_len]; omega
        rw [hps] at hlm HO
        have hls := last_set (ps := ps) (m := m1) (ps.getLastD ⟨#[]⟩ ++ s.extract k (k + 1)) hpl
        rw [hls.1, hls.2] at hlm
        have hsz : (ps.getD m1 ⟨#[]⟩).size ≤ 100000 := by
          have hmem := getD_mem (ps := ps) (j := m1) (by omega)
          rw [← hps] at hmem
          obtain ⟨l, hl, he⟩ := List.mem_map.1 hmem
          rw [hps] at he
          rw [← he, ba_size]
          have := lnL_size _ l hl
          rw [List.length_take] at this
          omega
        have hexs : (s.extract k (k + 1)).size ≤ 1 := by rw [ByteArray.size_extract]; omega
        obtain ⟨X, hX⟩ : ∃ X, ps.getD m1 ⟨#[]⟩ ++ s.extract k (k + 1) = X := ⟨_, rfl⟩
        have r1 := fun W => cat_run hX (by omega) (by omega) W
        rw [hX] at hlm
        have c0 := HO.out.at m1 (by omega)
        have f0 : wr.frozen? ⟨b, m1, none⟩ = false := World.ownsRow.frozenAt HO.out _
        have hp1 := World.ownsRow.stored HO.out m1 (.string X)
        have hsr := slice_byte s k hlt
        have hm1l : m1 < m := by omega
        have hp2 := hp1.1
        rw [show (List.map Value.string ps).set m1 (Value.string X) = ((ps.set m1 X)).map Value.string by rw [List.map_set], ← hlm] at hp2
        have HP := Lib.hid hp2
        have HBP := Lib.hid (HB.out.setCell (p := ⟨b, m1, none⟩) hb1 (.string X))
        generalize ps.getD m1 ⟨#[]⟩ = Y at *
        generalize s.extract k (k + 1) = Z at *
        clear hp1 hp2 hst hls hX hsz hexs hlen hcm hsn hlm hps hpl h10 hcn hcc hcu hex HO hm1
        go_wp2_with fail
        go_region
        go_wp2_with fail
        go_roundw
        case rel => exact ⟨k + 1, _, m, d, by omega, by go_num, rfl, Lib.hid (own_on HP.out (Below.refl _ _).drew), Lib.hid HBP.out.drew⟩
        case measure => simp [intOf]; omega
    · obtain rfl : k = s.size := by omega
      have d3 : decide ((s.size : Int) < (s.size : Int)) = false := by simp
      rw [← pl_len s, List.take_length] at hlen
      have hO := HO.out
      rw [← pl_len s, List.take_length] at hO
      have HLs := Lib.hid (lnL_size (pl s))
      have HLL := Lib.hid (show linesB s = (lnL (pl s)).map fun l => trB (ba l) from rfl)
      obtain ⟨L, hL⟩ : ∃ L, lnL (pl s) = L := ⟨_, rfl⟩
      have hLm : L.length = m := by rw [← hL, lnL_len]; omega
      rw [hL] at hO HLs HLL
      have HR0 := Lib.hid (show Strs wr w.heap.size (some ⟨b, 0, none⟩) m d (trK L 0) from by rw [trK_zero]; exact hO)
      have HLn := Lib.hid hLm
      have HC := Lib.hid hlen
      obtain ⟨v, hv⟩ : ∃ v, v = wr := ⟨_, rfl⟩
      subst hv
      clear hL hLm hO HO hlen hcm hw2 hm1
      go_wp2_with fail
      go_loopw [6, 7] (fun i _ wr => ∃ k : Nat, k ≤ m ∧ i = .int .i64 k ∧ Hid (Strs wr w.heap.size (some ⟨b, 0, none⟩) m d (trK L k)) ∧ Hid (Below w.heap.size w wr)) (fun i _ _ => m - (intOf i).toNat)
      case atStart => exact ⟨0, Nat.zero_le _, rfl, HR0, HB⟩
      case round =>
        clear HR0 HB
        obtain ⟨k, hk, rfl, HR, HB⟩ := hrel
        by_cases hlt : k < m
        · have d4 : decide ((k : Int) < (m : Int)) = true := by simp; omega
          have hkl : k < L.length := by rw [HLn.out]; exact hlt
          have hw1 : IntKind.i64.wrap ((k : Int) + 1) = (k : Int) + 1 := IntWalk.i64_in _ (by omega)
          have c0 := HR.out.at k hlt
          rw [trK_at hkl] at c0
          have hstep := trK_step hkl
          have hsz : (ba (L[k]'hkl)).size ≤ s.size := by
            rw [ba_size, ← pl_len s]
            exact HLs.out _ (List.getElem_mem hkl)
          have htr := trB_by (ba (L[k]'hkl))
          have hget := trK_at hkl
          generalize ba (L[k]'hkl) = t at *
          have HSame := Lib.hid (fun (h : trB t = t) => show trK L (k + 1) = trK L k from by
            rw [← hstep, h]
            have hl : k < (trK L k).length := by rw [trK_len]; exact hkl
            rw [← hget, List.getD_eq_getElem?_getD, List.getElem?_eq_getElem hl]
            exact List.set_getElem_self hl)
          rcases htr with ⟨h0, h1⟩ | ⟨h0, h13, h1⟩ | ⟨h0, h13, h1⟩
          · have HR1 := Lib.hid (show Strs wr w.heap.size (some ⟨b, 0, none⟩) m d (trK L (k + 1)) from by rw [HSame.out h1]; exact HR.out)
            clear HSame hstep hget h1 hsz HR hkl
            go_wp2_with fail
            go_roundw
            case rel => exact ⟨k + 1, by omega, by go_num, HR1, HB⟩
            case measure => simp [intOf]; omega
          · have e0 : decide ((t.size : Int) > 0) = true := decide_eq_true (by omega)
            have e1 : decide ((0 : Int) < (t.size : Int)) = true := decide_eq_true (by omega)
            obtain ⟨z, hz⟩ : ∃ z, t.size = z + 1 := ⟨t.size - 1, by omega⟩
            have hz1 : t.size - 1 = z := by omega
            rw [hz1] at h13 h1
            have hzl : z < t.size := by omega
            have hi := nums_at t z hzl
            rw [h13] at hi
            have hw3 : IntKind.i64.wrap ((t.size : Int) - 1) = (z : Int) := by rw [IntWalk.i64_in _ (by omega)]; omega
            have f0 : wr.frozen? ⟨b, k, none⟩ = false := World.ownsRow.frozenAt HR.out _
            have hp1 := (World.ownsRow.stored HR.out k (.string (t.extract 0 z))).1
            rw [show (List.map Value.string (trK L k)).set k (Value.string (t.extract 0 z)) = (((trK L k).set k (t.extract 0 z))).map Value.string by rw [List.map_set], ← h1, hstep] at hp1
            have HR1 := Lib.hid (show Strs (wr.setCell ⟨b, k, none⟩ (.string (t.extract 0 z))) w.heap.size (some ⟨b, 0, none⟩) m d (trK L (k + 1)) from by rw [← h1]; exact hp1)
            have HB1 := Lib.hid (HB.out.setCell (p := ⟨b, k, none⟩) hb1 (.string (t.extract 0 z)))
            have hsl : ∀ W, (Instr.slice 9 (.string t) none (some (.int .i64 (z : Int))) none).run Tryz.prog W = .ok (.string (t.extract 0 z)) W := fun W => by
              rw [run_slice_string_h (P := Tryz.prog) (w := W) 9 t Tryz.underlying9 .i64 (z : Int) (by omega) (by omega)]
              rfl
            clear HSame hstep hget h1 h0 h13 hsz HR hkl hp1 HB hz hz1
            go_wp2_with fail
            go_roundw
            case rel => exact ⟨k + 1, by omega, by go_num, HR1, HB1⟩
            case measure => simp [intOf]; omega
          · have e0 : decide ((t.size : Int) > 0) = true := decide_eq_true (by omega)
            have e1 : decide ((0 : Int) < (t.size : Int)) = true := decide_eq_true (by omega)
            obtain ⟨z, hz⟩ : ∃ z, t.size = z + 1 := ⟨t.size - 1, by omega⟩
            have hz1 : t.size - 1 = z := by omega
            rw [hz1] at h13
            have hzl : z < t.size := by omega
            have hi := nums_at t z hzl
            obtain ⟨c, hc⟩ : ∃ c, (nums t).getD z 0 = c := ⟨_, rfl⟩
            rw [hc] at hi h13
            have q13 : (c == 13) = false := by simpa using h13
            have hw3 : IntKind.i64.wrap ((t.size : Int) - 1) = (z : Int) := by rw [IntWalk.i64_in _ (by omega)]; omega
            have HR1 := Lib.hid (show Strs wr w.heap.size (some ⟨b, 0, none⟩) m d (trK L (k + 1)) from by rw [HSame.out h1]; exact HR.out)
            clear HSame hstep hget h1 h0 h13 hsz HR hkl hz hz1 hc
            go_wp2_with fail
            go_roundw
            case rel => exact ⟨k + 1, by omega, by go_num, HR1, HB⟩
            case measure => simp [intOf]; omega
        · obtain rfl : k = m := by omega
          have d4 : decide ((k : Int) < (k : Int)) = false := by simp
          have HX := Lib.hid (show Strs wr w.heap.size (some ⟨b, 0, none⟩) k d (linesB s) from by rw [HLL.out, ← trK_all, HLn.out]; exact HR.out)
          clear HR
          go_wp2_with fail
          go_ret
          exact ⟨_, k, d, rfl, HC.out.symm, HX.out.txt, HB.out⟩
end Go.Proofs.YtngnkkigjlenoaaGreatDoor
