/-
  The walk of chicanelaw10.StageLatency: it returns true, whatever numbers, seed and puts. Conditions: as each states.
-/
import Derived.Test.YtlbihcpglcdmmaaZN
namespace Go.Proofs.Ytlbihcpglcdmmaa.stageLatency
open Go.RowKit

theorem one_byte (n : Nat) (h : n ≤ 60) : (⟨#[UInt8.ofNat n]⟩ : ByteArray).size = 1 ∧ gc.nums ⟨#[UInt8.ofNat n]⟩ = [((n : Nat) : Int)] := by
  refine ⟨rfl, ?_⟩
  show [(((UInt8.ofNat n).toNat : Nat) : Int)] = _
  rw [UInt8.toNat_ofNat', show n % 2 ^ 8 = n by omega]
theorem law_size (k a b : Int) : (lawTox k a b).s.size ≤ maxLen := by show (1 : Nat) ≤ maxLen; decide
/-- Nothing to be shown: the law says true at once. -/
def Alive (w : World) (e : Ending) (w' : World) : Prop := e = .returned (.bool true) ∧ Below w.heap.size w w'
set_option maxRecDepth 100000 in
set_option maxHeartbeats 8000000 in
theorem no_new (lag jit seed : Int) (h : newE (lawTox 1 lag jit) 100 ≠ 0) (p : Option Addr) (m d : Nat) (w : World) :
    Calls Try.prog 4 #[.agg #[.int .i64 lag, .int .i64 jit], .int .u64 seed, .slice p m d] w (Alive w) := by
  unfold Alive
  have HN := Lib.hid (fun W => new_no (seed := seed) (now := 0) (t := lawTox 1 lag jit) (law_size _ _ _) h W)
  have hE : (newE (lawTox 1 lag jit) 100 != 0) = true := by simpa using h
  generalize newE (lawTox 1 lag jit) 100 = E at *
  unfold Tox.v lawTox at HN
  simp only at HN
  have HB := Lib.hid (show Below w.heap.size w (w.alloc (.cells #[.int .i64 lag, .int .i64 jit] 48)).drew from ((Below.refl _ _).alloc (Nat.le_refl _) _).drew)
  clear h
  go_enter Try.func4, Try.ntmps4
  go_wp2_with fail
  go_region
  go_wp2_with fail
  generalize (w.alloc (.cells #[.int .i64 lag, .int .i64 jit] 48)).drew = w1 at *
  refine (HN.out _).mono ?_
  rintro e w2 ⟨rfl, hb⟩
  have HB2 := Lib.hid (HB.out.trans (hb.mono HB.out.size))
  clear hb
  go_wp2_with fail
  refine (alive_any _).mono ?_
  rintro e w3 ⟨rfl, hb⟩
  have HB3 := Lib.hid (HB2.out.trans (hb.mono HB2.out.size))
  clear hb
  go_wp2_with fail
  go_ret
  exact ⟨rfl, HB3.out⟩
set_option maxRecDepth 100000 in
set_option maxHeartbeats 8000000 in
theorem long (lag jit seed : Int) (h : newE (lawTox 1 lag jit) 100 = 0) (p : Option Addr) (m d : Nat) (hm : 60 < m) (w : World) :
    Calls Try.prog 4 #[.agg #[.int .i64 lag, .int .i64 jit], .int .u64 seed, .slice p m d] w (Alive w) := by
  unfold Alive
  have HN := Lib.hid (fun W => new_ok (seed := seed) (now := 0) (t := lawTox 1 lag jit) (law_size _ _ _) h W)
  have d1 : decide ((60 : Int) < (m : Int)) = true := decide_eq_true (by omega)
  unfold Tox.v lawTox at HN
  simp only at HN
  have HB := Lib.hid (show Below w.heap.size w (w.alloc (.cells #[.int .i64 lag, .int .i64 jit] 48)).drew from ((Below.refl _ _).alloc (Nat.le_refl _) _).drew)
  clear h
  go_enter Try.func4, Try.ntmps4
  go_wp2_with fail
  go_region
  go_wp2_with fail
  generalize (w.alloc (.cells #[.int .i64 lag, .int .i64 jit] 48)).drew = w1 at *
  refine (HN.out _).mono ?_
  rintro e w2 ⟨g, U, rfl, hr, hu, hb⟩
  have HB2 := Lib.hid (HB.out.trans (hb.mono HB.out.size))
  clear hb hr hu
  go_wp2_with fail
  refine (alive_any _).mono ?_
  rintro e w3 ⟨rfl, hb⟩
  have HB3 := Lib.hid (HB2.out.trans (hb.mono HB2.out.size))
  clear hb
  go_wp2_with fail
  go_ret
  exact ⟨rfl, HB3.out⟩
set_option maxRecDepth 100000 in
set_option maxHeartbeats 8000000 in
theorem far (lag jit seed : Int) (h : newE (lawTox 1 lag jit) 100 = 0) (hl : 1000000 < lag) (p : Option Addr) (m d : Nat) (w : World) :
    Calls Try.prog 4 #[.agg #[.int .i64 lag, .int .i64 jit], .int .u64 seed, .slice p m d] w (Alive w) := by
  unfold Alive
  have HN := Lib.hid (fun W => new_ok (seed := seed) (now := 0) (t := lawTox 1 lag jit) (law_size _ _ _) h W)
  have d2 : decide ((1000000 : Int) < lag) = true := decide_eq_true hl
  unfold Tox.v lawTox at HN
  simp only at HN
  have HB := Lib.hid (show Below w.heap.size w (w.alloc (.cells #[.int .i64 lag, .int .i64 jit] 48)).drew from ((Below.refl _ _).alloc (Nat.le_refl _) _).drew)
  clear h
  go_enter Try.func4, Try.ntmps4
  go_wp2_with fail
  go_region
  go_wp2_with fail
  generalize (w.alloc (.cells #[.int .i64 lag, .int .i64 jit] 48)).drew = w1 at *
  refine (HN.out _).mono ?_
  rintro e w2 ⟨g, U, rfl, hr, hu, hb⟩
  have HB2 := Lib.hid (HB.out.trans (hb.mono HB.out.size))
  clear hb hr hu
  by_cases hm : 60 < m
  · have d1 : decide ((60 : Int) < (m : Int)) = true := decide_eq_true (by omega)
    go_wp2_with fail
    refine (alive_any _).mono ?_
    rintro e w3 ⟨rfl, hb⟩
    have HB3 := Lib.hid (HB2.out.trans (hb.mono HB2.out.size))
    clear hb
    go_wp2_with fail
    go_ret
    exact ⟨rfl, HB3.out⟩
  have d1 : decide ((60 : Int) < (m : Int)) = false := decide_eq_false (by omega)
  go_wp2_with fail
  refine (alive_any _).mono ?_
  rintro e w3 ⟨rfl, hb⟩
  have HB3 := Lib.hid (HB2.out.trans (hb.mono HB2.out.size))
  clear hb
  go_wp2_with fail
  go_ret
  exact ⟨rfl, HB3.out⟩
set_option maxRecDepth 100000 in
set_option maxHeartbeats 16000000 in
theorem walk (lag jit seed : Int) (p : Option Addr) (m d : Nat) (os : List Pt) (w : World) (hx : os.length = m) (_hmd : m ≤ d) (_hd : d ≤ 9223372036854775807) (hj : PutsIn w p m os) :
    Calls Try.prog 4 #[.agg #[.int .i64 lag, .int .i64 jit], .int .u64 seed, .slice p m d] w (Alive w) := by
  by_cases h : newE (lawTox 1 lag jit) 100 = 0
  case neg => exact no_new lag jit seed h p m d w
  by_cases hm : 60 < m
  · exact long lag jit seed h p m d hm w
  by_cases hl : 1000000 < lag
  · exact far lag jit seed h hl p m d w
  unfold Alive
  have hck := lat_chk ((law_newE 1 lag jit 100 (by omega) (by omega)).symm.trans h)
  have HN := Lib.hid (fun W => new_ok (seed := seed) (now := 0) (t := lawTox 1 lag jit) (law_size _ _ _) h W)
  have HL0 := Lib.hid (lat_new (seed := seed) hck.1 hck.2.1 (show lag ≤ 1000000 by omega) (lawTox 1 lag jit) rfl rfl rfl)
  have HJ := Lib.hid hj
  have HX := Lib.hid hx
  have HCK := Lib.hid hck
  have d1 : decide ((60 : Int) < (m : Int)) = false := decide_eq_false (by omega)
  have d2 : decide ((1000000 : Int) < lag) = false := decide_eq_false (by omega)
  generalize newS (lawTox 1 lag jit) seed 100 0 = s0 at *
  unfold Tox.v lawTox at HN
  simp only at HN
  have HB := Lib.hid (show Below w.heap.size w (w.alloc (.cells #[.int .i64 lag, .int .i64 jit] 48)).drew from ((Below.refl _ _).alloc (Nat.le_refl _) _).drew)
  have hm60 : m ≤ 60 := by omega
  have hlag : lag ≤ 1000000 := by omega
  clear h hm hl hck hj hx
  go_enter Try.func4, Try.ntmps4
  go_wp2_with fail
  go_region
  go_wp2_with fail
  generalize (w.alloc (.cells #[.int .i64 lag, .int .i64 jit] 48)).drew = w1 at *
  refine (HN.out _).mono ?_
  rintro e w2 ⟨g, U, rfl, hr, hu, hb⟩
  have HA2 := Lib.hid (show Hd w w2 U g s0 0 from ⟨hr, fun i hi => Nat.le_trans HB.out.size (hu i hi), HB.out.trans (hb.mono HB.out.size)⟩)
  clear hr hu hb HB HN
  go_wp2_with fail
  go_loopw [11, 12, 47] (fun vn va i wr => ∃ (k : Nat) (now : Int) (q : Option Addr) (n d' : Nat) (ats : List Int) (s : St) (U' : Own) (c : Nat), k ≤ m ∧ i = .int .i64 k ∧ vn = .int .i64 now ∧ va = .slice q n d' ∧ n ≤ k ∧ Hid (Hd w wr U' g s n) ∧ Hid (LatI lag jit s now ats c) ∧ Hid (Row w wr U' q n d' ats)) (fun _ _ i _ => m - (intOf i).toNat)
  case atStart => exact ⟨0, 0, none, 0, 0, [], s0, U, 0, by omega, rfl, rfl, rfl, by omega, HA2, HL0, Lib.hid (row_nil _ _ _)⟩
  case round =>
    clear HA2 HL0
    obtain ⟨k, now, q, n, d', ats, s, U1, c, hk, rfl, rfl, rfl, hnk, HA, HL, HR⟩ := hrel
    have hlen := HR.out.len
    by_cases hlt : k < m
    · obtain ⟨b, o, rfl, hcell⟩ := puts_on HJ.out HA.out.2.2 (by omega)
      obtain ⟨c0, c1, c2⟩ := hcell k hlt
      generalize os.getD k noPt = op at *
      obtain ⟨lt, tk, N⟩ := op
      simp only at c0 c1 c2
      rw [← Nat.add_assoc] at c1 c2
      have hal : Below wr.heap.size wr (wr.alloc (.cells #[.int .i64 lt, .bool tk, .int .i64 N] 52)) := (Below.refl _ _).alloc (Nat.le_refl _) _
      have HA4 := Lib.hid (HA.out.on hal)
      have HR4 := Lib.hid (HR.out.on hal)
      have HP4 := Lib.hid (heap_alloc_new wr (.cells #[.int .i64 lt, .bool tk, .int .i64 N] 52))
      have HAD := Lib.hid (fun W => add_any now lt W)
      have hn0 := HL.out.now0
      have hn1 := HL.out.now1
      have hnn := addT_le (b := lt) hn0 hn1
      have hnr := addT_range now lt
      generalize addT now lt = now' at *
      clear hcell hal HA HR
      go_upto_region 10 with fail
      generalize wr.alloc (.cells #[.int .i64 lt, .bool tk, .int .i64 N] 52) = w4 at *
      generalize wr.heap.size = go at *
      have y0 := cell_of_row w4 go 0 _ _ _ HP4.out
      have y1 := cell_of_row w4 go 1 _ _ _ HP4.out
      have y2 := cell_of_row w4 go 2 _ _ _ HP4.out
      clear c0 c1 c2
      cases tk with
      | false =>
        go_wp2_with fail
        refine (HAD.out _).mono ?_
        rintro e w5 ⟨rfl, rfl⟩
        have hob := one_byte n (by omega)
        have hpt := lat_put HL.out hnn hnr.2 (by omega) hob.1 (by rw [hlen]; exact hob.2)
        have hu8 : IntKind.u8.wrap (n : Int) = (n : Int) := by rw [show IntKind.u8.wrap (n : Int) = (n : Int) % 256 from rfl]; omega
        have hal : Below w4.heap.size w4 (w4.alloc (.cells #[.int .u8 (n : Int)] 5)) := (Below.refl _ _).alloc (Nat.le_refl _) _
        have HPU := Lib.hid (put_i (HA4.out.on hal).1 now' (p := some ⟨w4.heap.size, 0, none⟩) (n := 1) (c := 1) hob.1 (by rw [hob.2]; exact made_bytes w4 [(n : Int)] 1 (0, 0) rfl) (M' := n + 1) (by rw [hob.1]; exact Nat.le_refl _) (by omega))
        rw [hpt.1] at HPU
        have HL5 := Lib.hid hpt.2
        have HA5 := Lib.hid (HA4.out.on hal)
        have HR5 := Lib.hid (HR4.out.on hal)
        clear hob hpt hal HA4 HR4 HL HAD y0 y2 HP4
        generalize (⟨#[UInt8.ofNat n]⟩ : ByteArray) = bb at *
        go_wp2_with fail
        generalize w4.alloc (.cells #[.int .u8 (n : Int)] 5) = w5 at *
        generalize w4.heap.size = r5 at *
        refine HPU.out.mono ?_
        rintro e w6 ⟨rfl, hs⟩
        obtain ⟨U6, h6, hr6⟩ := HA5.out.step hs
        have HA6 := Lib.hid h6
        have HR6 := Lib.hid (HR5.out.rest hr6)
        clear hs h6 hr6 HA5 HR5 HPU
        obtain ⟨q', d'', w7, r1, rr, hh, _, _⟩ := HR6.out.app HA6.out (by omega) now'
        have HRUN := Lib.hid r1
        have HA7 := Lib.hid hh
        have HR7 := Lib.hid rr
        clear r1 rr hh HA6 HR6
        go_wp2_with (at_builtin; refine Lib.wpList_append_run _ rfl _ _ _ _ rfl (.slice q n d') (.slice (some ⟨w6.heap.size, 0, none⟩) 1 1) rfl rfl _ _ (HRUN.out _) ?_)
        go_roundw
        case rel => exact ⟨k + 1, now', q', n + 1, d'', ats ++ [now'], _, U6, c, by omega, by go_num, rfl, rfl, by omega, HA7, HL5, HR7⟩
        case measure => simp [intOf]; omega
      | true =>
        go_wp2_with fail
        refine (HAD.out _).mono ?_
        rintro e w5 ⟨rfl, rfl⟩
        obtain ⟨K, hK, hT, hL, hB, _⟩ := lat_take HL.out hnn hnr.2 N
        have hTK : (takeS s now' N).2.size = K := by rw [hT, ByteArray.size_extract]; omega
        have HTI := Lib.hid (take_i HA4.out.1 now' N (T := (takeS s now' N).2) rfl)
        have HL5 := Lib.hid hL
        have HBB := Lib.hid hB
        have hKl : K ≤ 60 := by have := HL.out.len; omega
        clear hL hB hT hK HL
        rw [hTK] at HTI
        generalize (takeS s now' N).1 = s1 at *
        generalize (takeS s now' N).2 = T at *
        go_wp2_with fail
        refine HTI.out.mono ?_
        rintro e w6 ⟨q2, d2, rfl, hi, hTs, hd1, hd2, hs⟩
        obtain ⟨U6, h6, hr6, hf6⟩ := HA4.out.stepq hs
        have HA6 := Lib.hid h6
        have HR6 := Lib.hid (HR4.out.rest hr6)
        have HI6 := Lib.hid hi
        clear hs h6 hr6 hf6 hi HA4 HR4 HTI y0 y1 y2 HP4
        go_wp2_with fail
        go_loopw [76] (fun jv w8 => ∃ (j : Nat), j ≤ K ∧ jv = .int .i64 j ∧ w8 = w6) (fun jv _ => K - (intOf jv).toNat)
        case atStart => exact ⟨0, by omega, rfl, rfl⟩
        case round =>
          obtain ⟨j, hj, rfl, rfl⟩ := hrel
          by_cases hjl : j < K
          · obtain ⟨bq, oq, rfl, hcq⟩ := HI6.out (by omega)
            obtain ⟨e1, e2, e3⟩ := HBB.out j hjl
            have cq := hcq j hjl
            rw [e1] at cq
            have hcl : c + j < n := by omega
            obtain ⟨b3, o3, rfl, hc3⟩ := HR6.out.row.num.2 (by omega)
            have c3 := hc3 (c + j) hcl
            have HA2 := Lib.hid (fun W => add_any (ats.getD (c + j) 0) (lag - jit) W)
            have hlj := HCK.out
            have hv : wrap64 (lag - jit) = lag - jit := IntWalk.i64_left _ |>.symm.trans (IntWalk.i64_in _ (by omega))
            generalize ats.getD (c + j) 0 = at' at *
            generalize addT at' (lag - jit) = lim at *
            have hcc : ((c + j : Nat) : Int) < 256 := by omega
            have dn : decide ((n : Int) ≤ ((c + j : Nat) : Int)) = false := decide_eq_false (by omega)
            have dl : decide (now' < lim) = false := decide_eq_false (by omega)
            clear e1 e2 hcq hc3
            generalize c + j = cj at *
            go_wp2_with fail
            refine (HA2.out _).mono ?_
            rintro e w9 ⟨rfl, rfl⟩
            go_wp2_with fail
            go_roundw
            case rel => exact ⟨j + 1, by omega, by go_num, by first | rfl | trivial⟩
            case measure => simp [intOf]; omega
          · obtain rfl : j = K := by omega
            go_wp2_with fail
            go_roundw
            case rel => exact ⟨k + 1, now', q, n, d', ats, s1, U6, c + j, by omega, by go_num, rfl, rfl, by omega, HA6, HL5, HR6⟩
            case measure => simp [intOf]; omega
    · by_cases hn : n = 0
      · subst hn
        go_wp2_with fail
        refine (alive_any _).mono ?_
        rintro e w5 ⟨rfl, hb⟩
        have HE := Lib.hid (HA.out.on hb).2.2
        clear hb
        go_wp2_with fail
        go_ret
        exact ⟨rfl, HE.out⟩
      · have dn : ((n : Int) == 0) = false := by simpa using hn
        by_cases hnow : 1000000000 < now
        · have d3 : decide ((1000000000 : Int) < now) = true := decide_eq_true hnow
          go_wp2_with fail
          refine (alive_any _).mono ?_
          rintro e w5 ⟨rfl, hb⟩
          have HE := Lib.hid (HA.out.on hb).2.2
          clear hb
          go_wp2_with fail
          go_ret
          exact ⟨rfl, HE.out⟩
        · have d3 : decide ((1000000000 : Int) < now) = false := decide_eq_false hnow
          have hck := HCK.out
          have hnow0 := HL.out.now0
          obtain ⟨K, hK, hT, hL, hB, hall⟩ := lat_take HL.out (now' := now + lag + jit) (by omega) (by omega) 100
          have hz := hall HL.out.last (by have := HL.out.len; omega) (by omega)
          have hs0 : (takeS s (now + lag + jit) 100).1.S.size = 0 := by
            have h1 := hL.len
            have h2 := HL.out.len
            omega
          have HTI := Lib.hid (take_i HA.out.1 (now + lag + jit) 100 (T := (takeS s (now + lag + jit) 100).2) rfl)
          have hw1 : wrap64 (now + lag) = now + lag := IntWalk.i64_left _ |>.symm.trans (IntWalk.i64_in _ (by omega))
          have hw2 : wrap64 (now + lag + jit) = now + lag + jit := IntWalk.i64_left _ |>.symm.trans (IntWalk.i64_in _ (by omega))
          generalize (takeS s (now + lag + jit) 100).1 = s1 at *
          generalize (takeS s (now + lag + jit) 100).2 = T at *
          clear hL hB hall hT hK hz hck
          go_wp2_with fail
          refine HTI.out.mono ?_
          rintro e w6 ⟨q2, d2, rfl, hi, hTs, hd1, hd2, hs⟩
          obtain ⟨U6, h6, hr6, hf6⟩ := HA.out.stepq hs
          have HA6 := Lib.hid h6
          clear hs h6 hr6 hf6 hi HTI
          go_wp2_with fail
          refine (alive_any _).mono ?_
          rintro e w7 ⟨rfl, hb⟩
          have HA7 := Lib.hid (HA6.out.on hb)
          clear hb HA6
          go_wp2_with fail
          have hh := held_i HA7.out.1
          rw [hs0] at hh
          refine hh.mono ?_
          rintro e w' ⟨rfl, rfl⟩
          clear hh
          go_wp2_with fail
          go_ret
          exact ⟨rfl, HA7.out.2.2⟩
end Go.Proofs.Ytlbihcpglcdmmaa.stageLatency
