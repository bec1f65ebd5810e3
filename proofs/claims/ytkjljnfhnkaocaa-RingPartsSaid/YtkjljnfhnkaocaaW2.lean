/-
  What a ring's Peek, Force and New do. Conditions: as each states.
-/
import Derived.Test.YtkjljnfhnkaocaaW1
import Derived.Lib.SmallJoins
namespace Go.Proofs.Ytkjljnfhnkaocaa
open Go.RowKit

theorem out_below {zs : List Int} {w w1 : World} {e : Ending} {w' : World} (hb : Below w.heap.size w w1) (h : OutB zs w1 e w') : OutB zs w e w' := by
  obtain ⟨u, rfl, ho, hb'⟩ := h
  exact ⟨u, rfl, own_low ho hb.size, seqB hb hb'⟩
theorem cut_fits (n : Int) (L : Nat) (h : L ≤ 9223372036854775807) : (cut n L : Int) ≤ 9223372036854775807 := by
  have := cut_le n L
  omega

set_option maxHeartbeats 2000000 in
theorem peek_end (base g : Nat) (room : Int) (q : Option Addr) (full : List Int) (L G c : Nat) (w : World) (h : Raw w base g room (.slice q L c) full G) (hL : full.length = L) (hck : c = G) (hnc : L ≤ c) (hc : c ≤ 9223372036854775807) (n : Int) :
    Calls Try.prog 20 #[.pointer (some ⟨g, 0, none⟩), .int .i64 n] w (OutB [] w) := by
  have hle := h.le
  have hM : cut n (full.length - G) = 0 := by have := cut_le n (full.length - G); omega
  rw [hL] at hle hM
  obtain rfl : L = G := by omega
  obtain rfl : c = L := by omega
  have HC := Lib.hid (show ∀ w', Below w.heap.size w w' → w'.cell? ⟨g, 1, none⟩ = some (.slice q c c) ∧ w'.cell? ⟨g, 2, none⟩ = some (.int .i64 (c : Int)) ∧ Below w.heap.size w w' from
    fun w' hb => ⟨cell_of_row w' g 1 _ _ _ (h.on hb).blk, cell_of_row w' g 2 _ _ _ (h.on hb).blk, hb⟩)
  have HM := Lib.hid (fun (w' : World) (hb : Below w.heap.size w w') => most_any (h.on hb) n)
  rw [hL, hM, show (((0 : Nat) : Int)) = 0 from rfl] at HM
  have hw : IntKind.i64.wrap (c : Int) = (c : Int) := IntWalk.i64_in _ (by omega)
  clear h hM
  go_enter Try.func20, Try.ntmps20
  go_wp2_with fail
  go_region_held (fun w' => w'.cell? ⟨g, 1, none⟩ = some (.slice q c c) ∧ w'.cell? ⟨g, 2, none⟩ = some (.int .i64 (c : Int)) ∧ Below w.heap.size w w')
    ((refine HC.out _ ?_
      go_split_ands
      first
        | with_reducible exact (Below.refl _ _).drew
        | with_reducible assumption))
    (first
      | (go_at_call 29; go_split_ands; (with_reducible refine Calls.mono (HM.out _ (by assumption)) ?_); rintro e w' ⟨rfl, m, hm⟩; (have hb' := seqB (by assumption) (show Below _ _ w' by rw [hm]; exact below_drewN _ m)); clear hm)
      | (go_at_call 28; go_split_ands; (with_reducible refine Calls.mono (clone_any _ _ _ [] _ rfl (by omega) (Lib.BytesIn.nil _ _ _)) ?_); rintro e w' ⟨v', rfl, hown, hb2⟩; (have hb' := seqB (by assumption) hb2)))
  go_split_ands
  go_wp2_with fail
  go_ret
  exact ⟨_, rfl, own_low (by assumption) (Below.size (by assumption)), by assumption⟩

set_option maxHeartbeats 2000000 in
theorem peek_mid (base g : Nat) (room : Int) (b : Nat) (full : List Int) (L G c : Nat) (w : World) (h : Raw w base g room (.slice (some ⟨b, 0, none⟩) L c) full G) (hL : full.length = L) (hck : ¬ c = G) (hnc : L ≤ c) (hc : c ≤ 9223372036854775807) (hi : Lib.BytesIn w (some ⟨b, 0, none⟩) L full) (n : Int) (K : Nat) (hK : cut n (L - G) = K) (hbig : L - G ≤ 140737488355328) :
    Calls Try.prog 20 #[.pointer (some ⟨g, 0, none⟩), .int .i64 n] w (OutB ((full.drop G).take K) w) := by
  have hle := h.le
  have hKl := cut_le n (L - G)
  rw [hK] at hKl
  rw [hL] at hle
  have HC := Lib.hid (show ∀ w', Below w.heap.size w w' → w'.cell? ⟨g, 1, none⟩ = some (.slice (some ⟨b, 0, none⟩) L c) ∧ w'.cell? ⟨g, 2, none⟩ = some (.int .i64 (G : Int)) ∧ Below w.heap.size w w' from
    fun w' hb => ⟨cell_of_row w' g 1 _ _ _ (h.on hb).blk, cell_of_row w' g 2 _ _ _ (h.on hb).blk, hb⟩)
  have HM := Lib.hid (fun (w' : World) (hb : Below w.heap.size w w') => most_any (h.on hb) n)
  rw [hL, hK] at HM
  have hbd := bytes_drop hi G (L - G) (by omega)
  rw [Nat.zero_add] at hbd
  have hlen : ((full.drop G).take K).length = K := by rw [List.length_take, List.length_drop]; omega
  have HP := Lib.hid (fun (w' : World) (hb : Below w.heap.size w w') => clone_any (some ⟨b, G, none⟩) K (c - G) ((full.drop G).take K) w' hlen (by omega) (bytes_on (bytes_take hbd K hKl) hb))
  have HLEN := Lib.hid hlen
  have hw : IntKind.i64.wrap ((G : Int) + (K : Int)) = (G : Int) + (K : Int) := IntWalk.i64_in _ (by omega)
  clear h hi hbd hK hlen
  go_enter Try.func20, Try.ntmps20
  go_wp2_with fail
  go_region_held (fun w' => w'.cell? ⟨g, 1, none⟩ = some (.slice (some ⟨b, 0, none⟩) L c) ∧ w'.cell? ⟨g, 2, none⟩ = some (.int .i64 (G : Int)) ∧ Below w.heap.size w w')
    ((refine HC.out _ ?_
      go_split_ands
      first
        | with_reducible exact (Below.refl _ _).drew
        | with_reducible assumption))
    (first
      | (go_at_call 29; go_split_ands; (with_reducible refine Calls.mono (HM.out _ (by assumption)) ?_); rintro e w' ⟨rfl, m, hm⟩; (have hb' := seqB (by assumption) (show Below _ _ w' by rw [hm]; exact below_drewN _ m)); clear hm)
      | (go_at_call 28; go_split_ands; (with_reducible refine Calls.mono (HP.out _ (by assumption)) ?_); rintro e w' ⟨v', rfl, hown, hb2⟩; (have hb' := seqB (by assumption) hb2)))
  go_split_ands
  go_wp2_with fail
  go_ret
  refine ⟨_, rfl, ?_, by assumption⟩
  rw [HLEN.out]
  exact own_low (by assumption) (Below.size (by assumption))
theorem peek_any {base g : Nat} {u : Option Nat} {room : Int} {xs : List Int} {w : World} (h : Rg w base g u room xs) (hbig : xs.length ≤ 140737488355328) (n : Int) :
    Calls Try.prog 20 #[.pointer (some ⟨g, 0, none⟩), .int .i64 n] w (OutB (xs.take (cut n xs.length)) w) := by
  obtain ⟨v, full, G, hr, rfl, _⟩ := h.ex
  obtain ⟨q, c, rfl, _, hi, _, hnc, hc, _⟩ := own_bytes hr.own
  rw [List.length_drop] at hbig ⊢
  by_cases hck : c = G
  · have hle := hr.le
    have e : cut n (full.length - G) = 0 := by have := cut_le n (full.length - G); omega
    rw [e]
    exact peek_end base g room q full _ G c w hr rfl hck hnc hc n
  · have hle := hr.le
    rcases hr.own.2 with ⟨e, _⟩ | ⟨b, cap, cur, e, _⟩
    · simp only [Value.slice.injEq] at e
      omega
    · cases e
      exact peek_mid base g room b full _ G c w hr rfl hck hnc hc hi n _ rfl hbig
end Go.Proofs.Ytkjljnfhnkaocaa
