/-
  What the program's cargo promises: its calls, by its bytes, their ticks, and the last one. Conditions: as each states.
-/
import Derived.Test.YtmblgpejgdlakaaW8
import Derived.Test.YtmblgpejgdlakaaW10
import Derived.Test.YtmblgpejgdlakaaF
namespace Go.Proofs.Ytmblgpejgdlakaa
open Go.RowKit

variable {w w' w'' w0 : World} {base g base' g' : Nat} {u u' : U} {S S' : ByteArray} {A A' : List Int} {last last' : Int} {M M' : Nat}
theorem Lg.count {G : Nat} {ms : List Mk} (hl : Lg G S ms A last M) : ms.length ≤ 1000000 ∧ G + S.size ≤ 1000000 := by
  have h1 := ends_count hl.ends
  have h2 := hl.top
  have h3 := hl.fit
  exact ⟨by omega, by omega⟩
theorem putT_range (h : 0 ≤ last ∧ last ≤ 1099511627776) (a : Int) : last ≤ putT last a ∧ 0 ≤ putT last a ∧ putT last a ≤ 1099511627776 := by
  have hn := near_range a
  unfold putT
  split <;> omega
theorem low_range (h : 0 ≤ last ∧ last ≤ 1099511627776) (a : Int) : 0 ≤ low (near a) last ∧ low (near a) last ≤ 1099511627776 := by
  have hn := near_range a
  unfold low
  split <;> omega
theorem put_al (h : Al w base g u S A last M) (a : Int) {p : Option Addr} {n c : Nat} {s : ByteArray} (hs : s.size = n) (hi : Lib.BytesIn w p n (nums s)) (hM : M + s.size ≤ M') (hf : M' ≤ 1000000) :
    Calls Try.prog 26 #[.pointer (some ⟨g, 0, none⟩), .int .i64 a, .slice p n c] w fun e w' => e = .returned (.int .i64 (doC S A last 0 a 0 s).n) ∧ Put w base g u (doC S A last 0 a 0 s).S (doC S A last 0 a 0 s).A (doC S A last 0 a 0 s).last M' w' := by
  obtain ⟨ms, G, hr, hl⟩ := h
  obtain ⟨hc1, hc2⟩ := hl.count
  have htop := hl.top
  unfold doC
  rw [if_pos rfl]
  by_cases h0 : s.size = 0
  · rw [if_pos h0]
    obtain rfl : n = 0 := by omega
    refine (put_none hr a p c).mono ?_
    rintro e w' ⟨rfl, u', hc⟩
    exact ⟨rfl, u', ms, G, hc, hl.more (by omega) hf⟩
  · rw [if_neg h0]
    refine (put_some hr hc1 a hs (by omega) hi (by omega) rfl).mono ?_
    rintro e w' ⟨rfl, u', hc⟩
    have hp := putT_range hl.last a
    have hsz : (S ++ s).size = S.size + s.size := append_size' S s
    obtain ⟨l1, l2, l3, l4⟩ := lay_all (t := putT last a) (e := G + (S ++ s).size) hl.ends (by omega) hl.rise (fun m hm => Int.le_trans (hl.rg m hm).2 hp.1)
    refine ⟨rfl, u', _, G, hc, ⟨l1, l3, ?_, fun m hm => ?_, hp.2, (by show G + (S ++ s).size ≤ M'; omega), hf⟩⟩
    · rw [l2, hl.tks, show G + (S ++ s).size - (G + S.size) = s.size by omega]
    · rcases l4 m hm with h5 | h5
      · have := hl.rg m h5
        exact ⟨this.1, Int.le_trans this.2 hp.1⟩
      · rw [h5]
        exact ⟨hp.2.1, Int.le_refl _⟩
/-- Bytes that are handed back, by their number. -/
def GotB (T : ByteArray) (K : Nat) (e : Ending) (w' : World) : Prop := ∃ q d, e = .returned (.slice q K d) ∧ Lib.BytesIn w' q K (nums T) ∧ T.size = K ∧ K ≤ d ∧ d ≤ 9223372036854775807
theorem takeK_size (h : Al w base g u S A last M) {now most : Int} {K : Nat} (hK : takeK A now most = K) : (S.extract 0 K).size = K := by
  have := h.inv.len
  have := takeK_le A now most
  rw [ByteArray.size_extract]
  omega
theorem take_al (h : Al w base g u S A last M) (now most : Int) {K : Nat} (hK : takeK A now most = K) :
    Calls Try.prog 21 #[.pointer (some ⟨g, 0, none⟩), .int .i64 now, .int .i64 most] w fun e w' => GotB (S.extract 0 K) K e w' ∧ Put w base g u (S.extract K S.size) (A.drop K) last M w' := by
  have hz := takeK_size h hK
  obtain ⟨ms, G, hr, hl⟩ := h
  refine (take_raw hr hl now most hK).mono ?_
  rintro e w' ⟨q, d, rfl, h1, h2, h3, h4⟩
  exact ⟨⟨q, d, rfl, h1, hz, h2, h3⟩, putq_put h4⟩
theorem take_alq (h : Al w base g u S A last M) (now most : Int) {K : Nat} (hK : takeK A now most = K) :
    Calls Try.prog 21 #[.pointer (some ⟨g, 0, none⟩), .int .i64 now, .int .i64 most] w fun e w' => ∃ q d, e = .returned (.slice q K d) ∧ Lib.BytesIn w' q K (nums (S.extract 0 K)) ∧ (S.extract 0 K).size = K ∧ PutQ w base g u (S.extract K S.size) (A.drop K) last M q w' := by
  have hz := takeK_size h hK
  obtain ⟨ms, G, hr, hl⟩ := h
  refine (take_raw hr hl now most hK).mono ?_
  rintro e w' ⟨q, d, rfl, h1, h2, h3, h4⟩
  exact ⟨q, d, rfl, h1, hz, h4⟩
theorem hurry_al (h : Al w base g u S A last M) (a : Int) :
    Calls Try.prog 25 #[.pointer (some ⟨g, 0, none⟩), .int .i64 a] w fun e w' => e = .returned (.tuple #[]) ∧ Put w base g u S (lows (near a) A) (low (near a) last) M w' := by
  obtain ⟨ms, G, hr, hl⟩ := h
  obtain ⟨hc1, hc2⟩ := hl.count
  have hlr := low_range hl.last a
  have hmm : ∀ m : Mk, m.1 ≤ near a → m.1 ≤ last → m.1 ≤ low (near a) last := fun m h1 h2 => by unfold low; split <;> omega
  by_cases hk : readyN (ms.map Prod.fst) (near a) = ms.length
  · refine (hurry_no hr hl.rise hc1 a hk).mono ?_
    rintro e w' ⟨rfl, u', hc⟩
    have ht := take_le_t (ms := ms) (t := near a)
    rw [hk, List.take_length] at ht
    refine ⟨rfl, u', ms, G, hc, ⟨hl.ends, hl.rise, ?_, fun m hm => ⟨(hl.rg m hm).1, hmm m (ht m hm) (hl.rg m hm).2⟩, hlr, hl.top, hl.fit⟩⟩
    rw [← hl.tks, hurry_none hk]
  · have hle := ready_le (ms.map Prod.fst) (near a)
    rw [List.length_map] at hle
    have hlt : readyN (ms.map Prod.fst) (near a) < ms.length := by omega
    refine (hurry_yes hr hl.ends hl.rise hc2 hc1 a rfl rfl hlt rfl).mono ?_
    rintro e w' ⟨rfl, u', hc⟩
    obtain ⟨_, l1, l2, l3, l4⟩ := hurry_some (t := near a) hl.ends hl.rise rfl hlt rfl
    have ht := take_le_t (ms := ms) (t := near a)
    have hd := drop_gt_t (t := near a) hl.rise
    refine ⟨rfl, u', _, G, hc, ⟨l1, l3, by rw [l2, hl.tks], fun m hm => ?_, hlr, hl.top, hl.fit⟩⟩
    rcases l4 m hm with h5 | h5
    · have := hl.rg m (List.mem_of_mem_take h5)
      exact ⟨this.1, hmm m (ht m h5) this.2⟩
    · rw [h5]
      have h6 : near a < (ms.getD (readyN (ms.map Prod.fst) (near a)) noMk).1 := hd _ (by rw [mk_split ms _ hlt]; simp)
      have h7 := (hl.rg (ms.getD (readyN (ms.map Prod.fst) (near a)) noMk) (by rw [List.getD_eq_getElem?_getD, List.getElem?_eq_getElem hlt]; exact List.getElem_mem hlt)).2
      refine ⟨(near_range a).1, ?_⟩
      show near a ≤ low (near a) last
      unfold low
      split <;> omega
theorem drain_al (h : Al w base g u S A last M) :
    Calls Try.prog 18 #[.pointer (some ⟨g, 0, none⟩)] w fun e w' => GotB S S.size e w' ∧ Put w base g u ⟨#[]⟩ [] last M w' := by
  have hlen := h.inv.len
  obtain ⟨ms, G, hr, hl⟩ := h
  refine (drain_raw hr hl).mono ?_
  rintro e w' ⟨q, d, rfl, h1, h2, h3, h4⟩
  have e1 : S.extract 0 S.size = S := by
    apply nums_inj'
    rw [take_nums, ← nums_length, List.take_length]
  have e2 : S.extract S.size S.size = ⟨#[]⟩ := by
    apply nums_inj'
    rw [rest_nums, ← nums_length, List.drop_length]
    rfl
  have e3 : A.drop S.size = [] := by rw [← hlen, List.drop_length]
  rw [e1] at h1
  rw [e2, e3] at h4
  exact ⟨⟨q, d, rfl, h1, rfl, h2, h3⟩, putq_put h4⟩
theorem ready_al (h : Al w base g u S A last M) (now : Int) :
    Calls Try.prog 16 #[.pointer (some ⟨g, 0, none⟩), .int .i64 now] w fun e w' => e = .returned (.int .i64 (readyN A now : Int)) ∧ Below w.heap.size w w' := by
  obtain ⟨ms, G, hr, hl⟩ := h
  obtain ⟨hc1, hc2⟩ := hl.count
  rw [← hl.tks, ready_tks hl.ends]
  exact ready_raw hr hl.rise hc1 hl.ends (by omega) now rfl rfl
theorem next_al (h : Al w base g u S A last M) :
    Calls Try.prog 22 #[.pointer (some ⟨g, 0, none⟩)] w fun e w' => e = .returned (.tuple #[.int .i64 (A.getD 0 0), .bool (decide (0 < A.length))]) ∧ Below w.heap.size w w' := by
  obtain ⟨ms, G, hr, hl⟩ := h
  obtain ⟨h1, h2⟩ := tks_first hl.ends
  rw [hl.tks] at h1 h2
  refine (next_raw hr).mono ?_
  rintro e w' ⟨rfl, rfl⟩
  refine ⟨?_, Below.refl _ _⟩
  rw [h1, decide_eq_decide.2 h2]
theorem last_al (h : Al w base g u S A last M) :
    Calls Try.prog 23 #[.pointer (some ⟨g, 0, none⟩)] w fun e w' => e = .returned (.int .i64 last) ∧ Below w.heap.size w w' := by
  obtain ⟨ms, G, hr, hl⟩ := h
  refine (last_raw hr).mono ?_
  rintro e w' ⟨rfl, rfl⟩
  exact ⟨rfl, Below.refl _ _⟩
theorem len_al (h : Al w base g u S A last M) :
    Calls Try.prog 19 #[.pointer (some ⟨g, 0, none⟩)] w fun e w' => e = .returned (.int .i64 (S.size : Int)) ∧ Below w.heap.size w w' := by
  obtain ⟨ms, G, hr, hl⟩ := h
  refine (len_raw hr).mono ?_
  rintro e w' ⟨rfl, rfl⟩
  exact ⟨rfl, Below.refl _ _⟩
end Go.Proofs.Ytmblgpejgdlakaa
