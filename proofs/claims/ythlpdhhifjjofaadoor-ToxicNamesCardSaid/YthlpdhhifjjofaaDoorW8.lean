/-
  Contract: what the program's own ticks (the numbers of texts) answer. Conditions: none.
-/
import Derived.Test.YthlpdhhifjjofaaDoorK
import Derived.Test.YthlpdhhifjjofaaDoorR9
namespace Go.Proofs.YthlpdhhifjjofaaDoor
open Go.RowKit

/-- Texts in a row, wherever it lies. -/
def StrIn (w : World) (b o : Nat) (ps : List ByteArray) : Prop := ∀ j, j < ps.length → w.cell? ⟨b, o + j, none⟩ = some (.string (ps.getD j ⟨#[]⟩))
theorem StrIn.on {w w' : World} {b o : Nat} {ps : List ByteArray} (h : StrIn w b o ps) (hb : Below w.heap.size w w') : StrIn w' b o ps := fun j hj => (hb.cell (World.block_lt_of_cell? w _ (h j hj))).trans (h j hj)
theorem StrIn.drop {w : World} {b o : Nat} {ps : List ByteArray} (h : StrIn w b o ps) (k : Nat) : StrIn w b (o + k) (ps.drop k) := fun j hj => by
  rw [List.length_drop] at hj
  rw [Nat.add_assoc, h (k + j) (by omega), List.getD_eq_getElem?_getD, List.getD_eq_getElem?_getD, List.getElem?_drop]
/-- What ticks hands back. -/
def TickEnd (ps : List ByteArray) (w : World) (e : Ending) (w' : World) : Option (List Int) → Prop
  | none => e = .returned (.tuple #[.slice none 0 0, .bool false]) ∧ Below w.heap.size w w'
  | some ns => ∃ q d, e = .returned (.tuple #[.slice q ps.length d, .bool true]) ∧ w'.ownsRow w.heap.size 3 1 (.slice q ps.length d) ps.length (ns.map (Value.int .i64)) ∧ Below w.heap.size w w'
def TicksOut (ps : List ByteArray) (w : World) (e : Ending) (w' : World) : Prop := TickEnd ps w e w' (numsP ps)
theorem numsP_take {ps : List ByteArray} {k : Nat} {ns : List Int} (hk : k < ps.length) (h : numsP (ps.take k) = some ns) {n : Int} (hn : numP (ps.getD k ⟨#[]⟩) = some n) : numsP (ps.take (k + 1)) = some (ns ++ [n]) := by
  induction ps generalizing k ns with
  | nil => cases hk
  | cons t r ih =>
    cases k with
    | zero =>
      have e : ns = [] := by simp [numsP] at h; exact h
      subst e
      have hn' : numP t = some n := hn
      simp [numsP, hn']
    | succ k =>
      rw [List.take_succ_cons] at h ⊢
      unfold numsP at h ⊢
      cases h1 : numP t with
      | none => rw [h1] at h; simp at h
      | some m =>
        cases h2 : numsP (r.take k) with
        | none => rw [h1, h2] at h; simp at h
        | some l =>
          rw [h1, h2] at h
          simp at h
          rw [ih (by simpa using hk) h2 hn, ← h]
          rfl
set_option maxRecDepth 100000 in
set_option maxHeartbeats 4000000 in
theorem ticks_any (b o c : Nat) (ps : List ByteArray) (hps : ps.length ≤ 100) (hsz : ∀ t ∈ ps, t.size ≤ maxLen) (w : World) (hin : StrIn w b o ps) : Calls Tryd.prog 33 #[.slice (some ⟨b, o, none⟩) ps.length c] w (TicksOut ps w) := by
  have HIN := Lib.hid hin
  have HSZ := Lib.hid hsz
  obtain ⟨m, hm⟩ : ∃ m, ps.length = m := ⟨_, rfl⟩
  have HM := Lib.hid hm
  have HP := Lib.hid hps
  have HF := Lib.hid (show ∀ r, numsP ps = r → ∀ e w', TickEnd ps w e w' r → TicksOut ps w e w' from fun r h e w' hx => by
    unfold TicksOut
    rw [h]
    exact hx)
  rw [hm]
  rw [hm] at hps
  clear hin hsz hm
  go_enter Tryd.func33, Tryd.ntmps33
  go_wp2_with fail
  go_loopw [4, 11] (fun v i wr => ∃ (k : Nat) (ns : List Int) (q : Option Addr) (d : Nat), k ≤ m ∧ i = .int .i64 k ∧ v = .slice q k d ∧ Hid (numsP (ps.take k) = some ns) ∧ Hid (wr.ownsRow w.heap.size 3 1 (.slice q k d) k (ns.map (Value.int .i64))) ∧ Hid (Below w.heap.size w wr)) (fun _ i _ => m - (intOf i).toNat)
  case atStart => exact ⟨0, [], none, 0, by omega, rfl, rfl, Lib.hid rfl, Lib.hid ⟨rfl, Or.inl ⟨rfl, rfl⟩⟩, Lib.hid (Below.refl _ _)⟩
  case round =>
    obtain ⟨k, ns, q, d, hk, rfl, rfl, HN, HO, HB⟩ := hrel
    by_cases hlt : k < m
    · have hcell := (HIN.out.on HB.out) k (by have := HM.out; omega)
      have HPS := Lib.hid (fun W => parse_any (ps.getD k ⟨#[]⟩) W (HSZ.out _ (by
        rw [List.getD_eq_getElem?_getD, List.getElem?_eq_getElem (by have := HM.out; omega)]
        exact List.getElem_mem _)))
      have HST := Lib.hid (fun h => numsP_stop (l := ps) k (by have := HM.out; omega) h)
      have HGO := Lib.hid (fun n h => numsP_take (ps := ps) (k := k) (by have := HM.out; omega) HN.out (n := n) h)
      unfold numP at HST HGO
      generalize ps.getD k ⟨#[]⟩ = t at *
      cases hpf : parseF t.data.toList with
      | none =>
        rw [hpf] at HPS
        have HV := Lib.hid (HST.out hpf)
        clear hpf HGO
        unfold parseEnd at HPS
        go_wp2_with fail
        refine (HPS.out _).mono ?_
        rintro e w1 ⟨rfl, hb⟩
        have HE := Lib.hid (seqB HB.out hb)
        clear hb
        go_wp2_with fail
        go_ret2
        exact HF.out none HV.out _ _ ⟨rfl, HE.out⟩
      | some n =>
        rw [hpf] at HPS
        have HV := Lib.hid (HGO.out n hpf)
        clear hpf HST
        unfold parseEnd at HPS
        go_wp2_with fail
        refine (HPS.out _).mono ?_
        rintro e w1 ⟨rfl, hb⟩
        obtain ⟨q', d', w2, h1, h2, h3, _⟩ := app_int (own_on HO.out hb) (seqB HB.out hb).size (seqB HB.out hb) (by have := HP.out; have := HM.out; omega) n
        have HR := Lib.hid h1
        have HO1 := Lib.hid h2
        have HB1 := Lib.hid h3
        clear hb h1 h2 h3 hcell
        go_wp2_with (at_builtin; refine Lib.wpList_append_run _ rfl _ _ _ _ rfl (.slice q k d) (.slice (some ⟨w1.heap.size, 0, none⟩) 1 1) rfl rfl _ _ (HR.out _) ?_)
        go_roundw
        case rel => exact ⟨k + 1, ns ++ [n], q', d', by omega, by go_num, rfl, HV, HO1, HB1⟩
        case measure => simp [intOf]; omega
    · obtain rfl : k = m := by omega
      have HV := Lib.hid (show numsP ps = some ns by rw [← HN.out, ← HM.out, List.take_length])
      go_wp2_with fail
      go_ret2
      exact HF.out (some ns) HV.out _ _ ⟨q, d, by rw [HM.out]; rfl, by rw [HM.out]; exact HO.out, HB.out⟩
end Go.Proofs.YthlpdhhifjjofaaDoor
