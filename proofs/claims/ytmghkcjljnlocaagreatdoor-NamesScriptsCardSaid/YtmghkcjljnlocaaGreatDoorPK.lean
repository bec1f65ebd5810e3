/-
  Contract: slices.SortFunc of proxies by their names, a few of them. Conditions: as it states.
-/
import Derived.Test.YtmghkcjljnlocaaGreatDoorPJ
import Derived.Test.YtmghkcjljnlocaaGreatDoorShelfK
namespace Go.Proofs.YtmghkcjljnlocaaGreatDoor
open Go.RowKit Go.Sort Go.Lib
instance : Inhabited RP := ⟨noRP⟩
def cmpP (x y : RP) : Int := Lib.compareBytes x.x.s.data.toList y.x.s.data.toList
theorem cmp_less : ∀ a b : List UInt8, decide (Lib.compareBytes a b < 0) = Op.bytesLess a b
  | [], [] => rfl
  | [], _ :: _ => rfl
  | _ :: _, [] => rfl
  | a :: x, b :: y => by
    show decide ((if a < b then (-1 : Int) else if b < a then 1 else Lib.compareBytes x y) < 0) = (decide (a < b) || (a == b && Op.bytesLess x y))
    by_cases h1 : a < b
    · rw [if_pos h1, decide_eq_true h1]
      rfl
    · rw [if_neg h1, decide_eq_false h1]
      by_cases h2 : b < a
      · rw [if_pos h2]
        have : (a == b) = false := by
          rw [beq_eq_false_iff_ne]
          exact fun e => UInt8.ne_of_lt h2 e.symm
        rw [this]
        rfl
      · rw [if_neg h2]
        have : a = b := by
          rcases Decidable.em (a = b) with e | e
          · exact e
          · rcases UInt8.lt_or_lt_of_ne e with g | g
            · exact absurd g h1
            · exact absurd g h2
        subst this
        rw [cmp_less x y]
        simp
theorem cmp_lt (x y : RP) : ltOf cmpP x y = Nm.ltB x.x.s y.x.s := by
  unfold ltOf cmpP Nm.ltB
  rw [cmp_less, ByteArray.toList_eq, ByteArray.toList_eq]
theorem cmp_swo : SWO (ltOf cmpP) := by
  refine ⟨fun x => ?_, fun x y z h1 h2 => ?_, fun x y z h1 h2 => ?_⟩
  · rw [cmp_lt]; exact Nm.lt_irrefl _
  · rw [cmp_lt] at *; exact Nm.lt_trans h1 h2
  · rw [cmp_lt] at *
    cases h3 : Nm.ltB x.x.s z.x.s with
    | false => rfl
    | true =>
      by_cases e : x.x.s = y.x.s
      · rw [e, h2] at h3
        cases h3
      · rcases Nm.lt_or e with g | g
        · rw [h1] at g; cases g
        · rw [Nm.lt_trans g h3] at h2; cases h2
set_option maxRecDepth 100000 in
set_option maxHeartbeats 4000000 in
theorem cmpc_any (x y : RP) (W : World) : Calls Tryz.prog 54 #[.agg x.cells.toArray, .agg y.cells.toArray] W fun e w' => e = .returned (.int .i64 (cmpP x y)) ∧ ∃ q os', w' = grow (W.drewN q) os' := by
  have HC := Lib.hid (fun W => Tryz.strings_Compare x.x.s y.x.s W)
  unfold cmpP
  generalize Lib.compareBytes x.x.s.data.toList y.x.s.data.toList = R at *
  obtain ⟨⟨xs, xon, xm, xt⟩, xq, xmm, xd⟩ := x
  obtain ⟨⟨ys, yon, ym, yt⟩, yq, ymm, yd⟩ := y
  simp only [RP.cells] at HC ⊢
  go_enter Tryz.func54, Tryz.ntmps54
  go_wp2_with fail
  refine (HC.out _).mono ?_
  rintro e w' ⟨rfl, rfl⟩
  go_wp2_with fail
  go_ret
  exact ⟨rfl, 0, _, by rw [alloc_eq_grow, alloc_eq_grow, grow_grow]; rfl⟩
theorem cmp_lays (blk off size : Nat) (w : World) : CmpLays Tryz.prog 54 #[] RP.cells 4 cmpP blk off size w := fun _ _ _ _ x y => cmpc_any x y _
theorem hlen14 (n : Nat) (W : World) (h : n ≤ 12) : Calls Tryz.prog 82 #[.int .u64 n] W fun e w' => (∃ l : Int, e = .returned (.int .i64 l)) ∧ w' = W :=
  (Tryz.bits_Len n W (by omega) (by omega)).mono fun _ _ ⟨he, hw⟩ => ⟨⟨_, he⟩, hw⟩
theorem flatK_get (l : List RP) (t : Nat) (h : t < l.length * 4) : (flatK RP.cells 4 l.toArray)[t]! = (flatP l)[t]! := by
  rw [get_flatK _ _ _ _ (by simpa using h)]
  have hi : t / 4 < l.length := by omega
  have hj : t % 4 < 4 := Nat.mod_lt _ (by decide)
  have e : (flatP l)[t]? = (l[t / 4]).cells[t % 4]? := by
    have := flat_get pc_len l (t / 4) hi (t % 4) hj
    rwa [show t / 4 * 4 + t % 4 = t by omega] at this
  have e2 : l.toArray[t / 4]! = l[t / 4] := by
    rw [getElem!_pos _ _ (by simpa using hi)]
    simp
  rw [e2]
  simp only [List.getElem!_eq_getElem?_getD, e]
theorem sort_blk {w : World} {blk : Nat} {cur : Array Value} {T : TypeId} (hb : w.heap[blk]? = some (.cells cur T (0, 0))) (off n : Nat) (F : Array Value) (os : Array Obj) :
    (∃ cur', (grow (putRow id (Sort.ahead w n) blk off F) os).heap[blk]? = some (.cells cur' T (0, 0)) ∧ cur'.size = cur.size) ∧ (∀ k, k < w.heap.size → k ≠ blk → (grow (putRow id (Sort.ahead w n) blk off F) os).heap[k]? = w.heap[k]?) ∧ w.heap.size ≤ (grow (putRow id (Sort.ahead w n) blk off F) os).heap.size := by
  have hlt := gc.blk_lt hb
  have hs : (putRow id (Sort.ahead w n) blk off F).heap.size = w.heap.size := by simp [putRow, mapBlock, Sort.ahead]
  refine ⟨⟨putCells id off F cur, ?_, by simp [putCells]⟩, fun k hk hne => ?_, by simp [hs]⟩
  · show ((putRow id (Sort.ahead w n) blk off F).heap ++ os)[blk]? = _
    rw [Array.getElem?_append_left (by rw [hs]; exact hlt)]
    simp [putRow, mapBlock, Sort.ahead, Array.getElem?_modify, hb, onCells]
  · show ((putRow id (Sort.ahead w n) blk off F).heap ++ os)[k]? = _
    rw [Array.getElem?_append_left (by rw [hs]; exact hk)]
    simp [putRow, mapBlock, Sort.ahead, Array.getElem?_modify, Ne.symm hne]
/-- Sorted: none of the later ones is less. -/
def Srt (zs : List RP) : Prop := zs.Pairwise fun x y => Nm.ltB y.x.s x.x.s = false
def OutS (base : Nat) (p : Option Addr) (n c : Nat) (zs : List RP) (w : World) (e : Ending) (w' : World) : Prop := e = .returned (.tuple #[]) ∧ ∃ zs', zs'.Perm zs ∧ Srt zs' ∧ PRow w' base p n c zs' ∧ Below base w w'
theorem sort_any {w : World} {base n c b o : Nat} {zs : List RP} (h : PRow w base (some ⟨b, o, none⟩) n c zs) (hbase : base ≤ w.heap.size) (hn : n ≤ 12) :
    Calls Tryz.prog 53 #[.slice (some ⟨b, o, none⟩) n c, .func (.func 54) #[] #[]] w (OutS base (some ⟨b, o, none⟩) n c zs w) := by
  have hl := h.len
  obtain ⟨b', o', cur, e', hb0, hh, hsz, hcur⟩ := h.row.som _ rfl
  cases e'
  have hlt := gc.blk_lt hh
  have hcap := h.row.cap
  have h4 : n * 4 ≤ c * 4 := Nat.mul_le_mul_right 4 hcap
  have hH : HoldsK RP.cells 4 w b o zs.toArray := fun j hj => by
    rw [size_flatK] at hj
    have hj : j < zs.length * 4 := by simpa using hj
    refine ⟨?_, gc.frozen_at hh⟩
    rw [flatK_get _ _ hj]
    have hjl : j < (flatP zs).length := by rw [flatP_len]; exact hj
    have : (flatP zs)[j]? = some (flatP zs)[j]! := by
      rw [List.getElem?_eq_getElem hjl, List.getElem!_eq_getElem?_getD, List.getElem?_eq_getElem hjl]
      rfl
    simp only [World.cell?, hh]
    exact hcur j _ this
  have eg : ∀ args w, (callFunc 54 args).run Tryz.prog w = .ok (.enter 54 args) w := enters_of Tryz.func54 (by kernel_rfl) rfl
  have hcon := AnyQ.slices_SortFunc_small_sorted Tryz.sortPrx 4 Tryz.isAgg37 Tryz.sizeOf37 RP.cells pc_len (fun x v hv => flatP_one [x] v (by unfold flatP; simpa using hv)) cmpP 54 #[] cmp_swo b o c zs.toArray w eg (cmp_lays b o _ w) hH hlt (by simpa [hl] using hn) hlen14
  rw [show zs.toArray.size = n by simpa using hl] at hcon
  change Calls Tryz.prog 53 _ _ _ at hcon
  refine hcon.mono ?_
  rintro e w' ⟨rfl, d', m, os, hperm, hsort, rfl⟩
  obtain ⟨hsize, _, hp⟩ := hperm
  have hsize : d'.size = n := by rw [hsize]; simpa using hl
  have hp : d'.toList.Perm zs := by
    have e1 : d'.extract 0 n = d' := by rw [← hsize]; simp
    have e2 : zs.toArray.extract 0 n = zs.toArray := by rw [← hl]; simp
    rwa [e1, e2] at hp
  obtain ⟨⟨cur', hb', hs'⟩, hoth, hsz'⟩ := sort_blk hh o m (flatK RP.cells 4 d') os
  have hH' : HoldsK RP.cells 4 (sortWorldK RP.cells 4 w b o m d' os) b o d' := holdsK_sortWorldK_c RP.cells 4 w b o zs.toArray d' m os hH hlt (by rw [hsize]; simpa using hl.symm)
  refine ⟨rfl, d'.toList, hp, ?_, ⟨?_, fun z hz => ?_⟩, ⟨rfl, rfl, rfl, hsz', fun k hk => hoth k (Nat.lt_of_lt_of_le hk hbase) (by omega)⟩⟩
  · unfold Srt
    rw [List.pairwise_iff_getElem]
    intro i j hi hj hij
    have := hsort i j (Nat.zero_le _) hij (by rw [← hsize]; simpa using hj)
    rw [cmp_lt] at this
    rw [getElem!_pos d' i (by simpa using hi), getElem!_pos d' j (by simpa using hj)] at this
    simpa using this
  · have hlen' : d'.toList.length = n := by simpa using hsize
    refine orow_same h.row (by rw [flatP_len, flatP_len, hlen', hl]) hb' (fun cur0 h0 => by rw [hh] at h0; cases h0; exact hs') fun j v hj => ?_
    have hjl := (List.getElem?_eq_some_iff.1 hj).1
    rw [flatP_len] at hjl
    have := (hH' j (by rw [size_flatK]; simpa using hjl)).1
    have e3 := flatK_get d'.toList j hjl
    rw [Array.toArray_toList] at e3
    rw [e3, List.getElem!_eq_getElem?_getD, hj] at this
    have hb'' : (sortWorldK RP.cells 4 w b o m d' os).heap[b]? = some (.cells cur' TP (0, 0)) := hb'
    simp only [World.cell?, hb''] at this
    exact this
  · have hz := h.tox z (hp.mem_iff.1 hz)
    exact gc.ORow.keep hz fun a ha => hoth _ (gc.ORow.lt hz a ha).2 (orow_ne hz (by decide) hh a ha)
end Go.Proofs.YtmghkcjljnlocaaGreatDoor
