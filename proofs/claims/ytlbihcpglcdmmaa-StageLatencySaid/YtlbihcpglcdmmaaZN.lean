/-
  Rows of numbers beside a stage; slices of puts, as lists; sums of ticks. Conditions: as each states.
  Mathematics of a stage of Bandwidth or Slicer whose source stays open: what Put and Take leave. Conditions: as each states.
  Mathematics of a stage of Bandwidth whose source stays open: what is taken of it in any window. Conditions: as each states.
  Two rows of numbers beside a stage; an append whose run is known, as one step of a region. Conditions: as each states.
-/
import Derived.Test.YtlbihcpglcdmmaaKeeps
import Derived.Test.YtlbihcpglcdmmaaL1
import Derived.Test.YtlbihcpglcdmmaaZM
import Derived.Deep.RegionHeld
import Derived.Deep.Cut
import Derived.Laws.MakeOwn
import Derived.Test.YtlbihcpglcdmmaaZ1
import Derived.Deep.RegionHeldLaw
namespace Go.Proofs.Ytlbihcpglcdmmaa
open Go.RowKit

/-- A row of numbers of the law's own, that is not the stage's. -/
structure Row (w0 w : World) (U : Own) (q : Option Addr) (n d : Nat) (xs : List Int) : Prop where
  row : gb.ORow w w0.heap.size 3 1 q n d (xs.map (Value.int .i64))
  far : ∀ a, q = some a → ¬ U a.block
section
variable {w0 w w' : World} {U U' : Own} {g : Nat} {s : St} {M : Nat} {q : Option Addr} {n d : Nat} {xs : List Int}
theorem row_nil (w0 w : World) (U : Own) : Row w0 w U none 0 0 [] := ⟨gb.orow_nil _ _ _ _, fun a h => by cases h⟩
theorem Row.on (h : Row w0 w U q n d xs) (hb : Below w.heap.size w w') : Row w0 w' U q n d xs := ⟨h.row.on hb, h.far⟩
theorem Row.rest (h : Row w0 w U q n d xs) (hr : Rest w U w' U') : Row w0 w' U' q n d xs :=
  ⟨h.row.keep fun a e => (hr a.block (h.row.lt a e).2 (h.far a e)).1, fun a e => (hr a.block (h.row.lt a e).2 (h.far a e)).2⟩
theorem Row.len (h : Row w0 w U q n d xs) : xs.length = n := h.row.num.1
/-- A block of the law's own grows: the stage stays. -/
theorem Hd.grown (h : Hd w0 w U g s M) {b : Option Nat} (hg : w.grownBy w' b) (hb : ∀ j, b = some j → w0.heap.size ≤ j ∧ ¬ U j) : Hd w0 w' U g s M :=
  ⟨rep_on h.1 hg.size (fun i hi => hg.block i ((rep_lt h.1).2 i hi) fun e => (hb i e.symm).2 hi), h.2.1, h.2.2.grown hg h.2.2.size fun j hj => (hb j hj).1⟩
/-- One number more. -/
theorem Row.app (h : Row w0 w U q n d xs) (hh : Hd w0 w U g s M) (hn : n + 1 ≤ 1000000) (x : Int) :
    ∃ q' d' w', (∀ ty, (Builtin.append_ #[50, 50] ty #[.slice q n d, .slice (some ⟨w.heap.size, 0, none⟩) 1 1]).run Try.prog (w.alloc (.cells #[.int .i64 x] 3)) = .ok (.slice q' (n + 1) d') w') ∧ Row w0 w' U q' (n + 1) d' (xs ++ [x]) ∧ Hd w0 w' U g s M ∧
      (w.alloc (.cells #[.int .i64 x] 3)).grownBy w' (q.map (·.block)) ∧ ∀ y, q' = some y → q.map (·.block) = some y.block ∨ w.heap.size ≤ y.block := by
  obtain ⟨q', d', w1, r1, o1, g1, l1⟩ := gb.app_num h.row hh.2.2.size hn x
  have hal : Below w.heap.size w (w.alloc (.cells #[.int .i64 x] 3)) := (Below.refl _ _).alloc (Nat.le_refl _) _
  refine ⟨q', d', w1, r1, ⟨o1, fun a ea => ?_⟩, (hh.on hal).grown g1 fun j hj => ?_, g1, l1⟩
  · rcases l1 a ea with h1 | h1
    · cases hq : q with
      | none => rw [hq] at h1; cases h1
      | some c =>
        rw [hq] at h1
        have e : c.block = a.block := by simpa using h1
        rw [← e]
        exact h.far c hq
    · exact hh.new h1
  · cases hq : q with
    | none => rw [hq] at hj; cases hj
    | some c =>
      rw [hq] at hj
      have e : c.block = j := by simpa using hj
      rw [← e]
      exact ⟨(h.row.lt c hq).1, h.far c hq⟩
end
/-- A put. -/
structure Pt where
  later : Int
  take : Bool
  n : Int
def noPt : Pt := ⟨0, false, 0⟩
def PutsIn (w : World) (p : Option Addr) (n : Nat) (os : List Pt) : Prop := 0 < n → ∃ b o, p = some ⟨b, o, none⟩ ∧ ∀ i, i < n →
  w.cell? ⟨b, o + i * 3, none⟩ = some (.int .i64 (os.getD i noPt).later) ∧ w.cell? ⟨b, o + (i * 3 + 1), none⟩ = some (.bool (os.getD i noPt).take) ∧ w.cell? ⟨b, o + (i * 3 + 2), none⟩ = some (.int .i64 (os.getD i noPt).n)
theorem puts_on {w w' : World} {p : Option Addr} {n : Nat} {os : List Pt} (h : PutsIn w p n os) (hb : Below w.heap.size w w') : PutsIn w' p n os := fun hn => by
  obtain ⟨b, o, e, hc⟩ := h hn
  refine ⟨b, o, e, fun i hi => ?_⟩
  obtain ⟨h0, h1, h2⟩ := hc i hi
  exact ⟨(hb.cell (World.block_lt_of_cell? w _ h0)).trans h0, (hb.cell (World.block_lt_of_cell? w _ h1)).trans h1, (hb.cell (World.block_lt_of_cell? w _ h2)).trans h2⟩
theorem add_any (a b : Int) (w : World) : Calls Try.prog 14 #[.int .i64 a, .int .i64 b] w fun e w' => e = .returned (.int .i64 (addT a b)) ∧ w = w' := gb.radd_any a b w
/-- The toxic of the law's own. -/
def lawTox (k a b : Int) : Tox := ⟨⟨#[97]⟩, k, false, 1, a, b⟩
theorem law_ne (k a b : Int) : lawTox k a b ≠ noTox := fun e => by
  have h : (1 : Int) = 0 := congrArg Tox.o e
  exact absurd h (by decide)
theorem law_newE (k a b room : Int) (h1 : 1 ≤ room) (h2 : room ≤ 4096) : newE (lawTox k a b) room = (lawTox k a b).chk := by
  unfold newE
  by_cases h : (lawTox k a b).chk = 0
  · rw [if_neg (fun hx => hx.2 h), if_neg (by omega), h]
  · rw [if_pos ⟨law_ne k a b, h⟩]
theorem law_chk {k a b : Int} (h : (lawTox k a b).chk = 0) : gx.partsB k a b = true ∧ 1 ≤ k ∧ k ≤ 7 := by
  unfold Tox.chk gx.checkB lawTox at h
  dsimp only at h
  split at h
  · omega
  · split at h
    · omega
    · rename_i hk
      split at h
      · omega
      · rename_i hp
        refine ⟨?_, by omega, by omega⟩
        cases e : gx.partsB k a b with
        | true => rfl
        | false => exact absurd (Or.inr (Or.inr e)) hp
theorem near_fix {a : Int} (h : (gx.near a == a) = true) : 0 ≤ a ∧ a ≤ 1099511627776 := by
  have h1 := gx.near_range a
  have h2 : gx.near a = a := by simpa using h
  omega
theorem lat_chk {a b : Int} (h : (lawTox 1 a b).chk = 0) : 0 ≤ b ∧ b ≤ a ∧ a ≤ 1099511627776 := by
  obtain ⟨hp, _⟩ := law_chk h
  unfold gx.partsB at hp
  rw [if_pos rfl] at hp
  simp only [Bool.and_eq_true, decide_eq_true_eq] at hp
  have h1 := near_fix hp.1.1
  have h2 := near_fix hp.1.2
  omega
theorem band_chk {a b : Int} (h : (lawTox 2 a b).chk = 0) : 0 ≤ a ∧ a ≤ 1099511627776 ∧ 1 ≤ b ∧ b ≤ 4096 := by
  obtain ⟨hp, _⟩ := law_chk h
  unfold gx.partsB at hp
  rw [if_neg (by omega), if_pos rfl] at hp
  simp only [Bool.and_eq_true, decide_eq_true_eq] at hp
  have h1 := near_fix hp.1.1
  omega
theorem slice_chk {a b : Int} (h : (lawTox 3 a b).chk = 0) : 1 ≤ a ∧ a ≤ 4096 ∧ 0 ≤ b ∧ b ≤ 1099511627776 := by
  obtain ⟨hp, _⟩ := law_chk h
  unfold gx.partsB at hp
  rw [if_neg (by omega), if_neg (by omega), if_pos rfl] at hp
  simp only [Bool.and_eq_true, decide_eq_true_eq] at hp
  have h1 := near_fix hp.1.2
  omega
end Go.Proofs.Ytlbihcpglcdmmaa
namespace Go.Proofs.Ytlbihcpglcdmmaa
open Go.RowKit

/-- A stage that runs, told a tick. -/
structure Base (k a b room : Int) (s : St) (now : Int) : Prop where
  runs : Runs s
  kind : s.tx.k = k
  fa : s.tx.a = a
  fb : s.tx.b = b
  room : s.room = room
  clock : s.clock = now
  now0 : 0 ≤ now
  now1 : now ≤ 1099511627776
  size : s.A.length = s.S.size
section
variable {k a b room : Int} {s : St} {now now' : Int}
theorem base_new {seed : Int} (hk : k = 2 ∨ k = 3) : Base k a b room (newS (lawTox k a b) seed room 0) 0 := by
  refine ⟨⟨?_, rfl, rfl⟩, rfl, rfl, rfl, rfl, ?_, by omega, by omega, rfl⟩
  · show k = 1 ∨ k = 2 ∨ k = 3
    omega
  · show gb.near 0 = 0
    exact gb.near_of 0 (by omega) (by omega)
theorem Base.look (h : Base k a b room s now) (hn : now ≤ now') (h1 : now' ≤ 1099511627776) : lookS s now' = { s with clock := now' } ∧ Base k a b room { s with clock := now' } now' := by
  have hc : tickS s.clock now' = now' := tick_to (by rw [h.clock]; exact hn) (by have := h.now0; omega) h1
  have hl := look_runs h.runs now'
  rw [hc] at hl
  exact ⟨hl, h.runs.clock _, h.kind, h.fa, h.fb, h.room, rfl, by have := h.now0; omega, h1, h.size⟩
/-- Bytes are put: nothing else turns. -/
theorem base_put (h : Base k a b room s now) (hk : k = 2 ∨ k = 3) (hn : now ≤ now') (h1 : now' ≤ 1099511627776) (x : ByteArray) :
    Base k a b room (bringS s now' x).1 now' ∧ (bringS s now' x).1.pause = s.pause ∧ (bringS s now' x).1.bk = s.bk := by
  obtain ⟨hl, hb⟩ := h.look hn h1
  have hop : ({ s with clock := now' } : St).st = 0 := h.runs.open_
  have hcl : ({ s with clock := now' } : St).closed = false := h.runs.closed
  unfold bringS
  dsimp only
  rw [hl, if_neg (by rw [hop, hcl]; simp)]
  dsimp only
  generalize (x.extract 0 (if freeS { s with clock := now' } < (x.size : Int) then freeS { s with clock := now' } else (x.size : Int)).toNat) = y
  unfold forceS
  split
  · exact ⟨hb, rfl, rfl⟩
  · rw [if_neg (by rw [show ({ s with clock := now' } : St).tx.k = k from h.kind]; omega)]
    unfold putS
    dsimp only
    refine ⟨⟨⟨h.runs.kind, h.runs.closed, h.runs.open_⟩, h.kind, h.fa, h.fb, h.room, rfl, hb.now0, h1, ?_⟩, rfl, rfl⟩
    show (s.A ++ List.replicate y.size _).length = (s.S ++ y).size
    rw [List.length_append, List.length_replicate, ByteArray.size_append, h.size]
theorem base_cut {g : St} (h : Base k a b room g now) (K : Nat) (hK : K ≤ g.S.size) : Base k a b room (cutS g K) now := by
  refine ⟨⟨h.runs.kind, h.runs.closed, h.runs.open_⟩, h.kind, h.fa, h.fb, h.room, h.clock, h.now0, h.now1, ?_⟩
  show (g.A.drop K).length = (g.S.extract K g.S.size).size
  rw [List.length_drop, ByteArray.size_extract, h.size]
  omega
end
/-- A stage of Slicer. -/
structure PieI (a b : Int) (s : St) (now last : Int) (any : Bool) : Prop where
  base : Base 3 a b 4096 s now
  a1 : 1 ≤ a
  a2 : a ≤ 4096
  pause : any = true → s.pause = addT last b
theorem pie_take {a b : Int} {s : St} {now now' last : Int} {any : Bool} (h : PieI a b s now last any) (hn : now ≤ now') (h1 : now' ≤ 1099511627776) (most : Int) :
    (((takeS s now' most).2.size : Nat) : Int) ≤ a ∧ (0 < (takeS s now' most).2.size → any = true → addT last b ≤ now') ∧
      (if 0 < (takeS s now' most).2.size then PieI a b (takeS s now' most).1 now' now' true else PieI a b (takeS s now' most).1 now' last any) := by
  obtain ⟨hl, hb⟩ := h.base.look hn h1
  have ha1 := h.a1
  unfold takeS
  dsimp only
  rw [hl]
  have hop : ({ s with clock := now' } : St).st = 0 := h.base.runs.open_
  by_cases hm : most < 1
  · rw [if_pos (Or.inr hm)]
    dsimp only
    rw [show (⟨#[]⟩ : ByteArray).size = 0 from rfl]
    refine ⟨by omega, fun hx => absurd hx (Nat.lt_irrefl 0), ?_⟩
    rw [if_neg (Nat.lt_irrefl 0)]
    exact ⟨hb, ha1, h.a2, h.pause⟩
  · rw [if_neg (by rw [hop]; simp [hm])]
    dsimp only
    obtain ⟨R, hR⟩ : ∃ R, gc.readyN s.A now' = R := ⟨_, rfl⟩
    rw [hR]
    have hRl : R ≤ s.A.length := by rw [← hR]; exact gc.ready_le _ _
    obtain ⟨n, hnn⟩ : ∃ n : Int, (if most < (R : Int) then most else (R : Int)) = n := ⟨_, rfl⟩
    rw [hnn]
    have hn0 : 0 ≤ n ∧ n ≤ R := by rw [← hnn]; split <;> omega
    have hS := h.base.size
    unfold giveS
    rw [if_neg (by rw [show ({ s with clock := now' } : St).tx.k = 3 from h.base.kind]; decide), if_pos (show ({ s with clock := now' } : St).tx.k = 3 from h.base.kind)]
    by_cases hz : n = 0 ∨ ({ s with clock := now' } : St).clock < ({ s with clock := now' } : St).pause
    · rw [if_pos hz]
      dsimp only
      have hK : gc.takeK s.A now' 0 = 0 := by unfold gc.takeK; simp
      rw [hK]
      have he : (s.S.extract 0 0).size = 0 := by rw [ByteArray.size_extract]; omega
      rw [he]
      refine ⟨by omega, fun hx => absurd hx (Nat.lt_irrefl 0), ?_⟩
      rw [if_neg (Nat.lt_irrefl 0)]
      exact ⟨base_cut hb 0 (Nat.zero_le _), ha1, h.a2, h.pause⟩
    · rw [if_neg hz]
      dsimp only
      have hz1 : n ≠ 0 := fun e => hz (Or.inl e)
      have hz2 : ¬ now' < s.pause := fun e => hz (Or.inr e)
      have htz := gd.takeZ_range s.d a ha1
      rw [show s.tx.a = a from h.base.fa, show s.tx.b = b from h.base.fb]
      obtain ⟨v, hv⟩ : ∃ v : Int, (if gd.takeZ s.d a + 1 < n then gd.takeZ s.d a + 1 else n) = v := ⟨_, rfl⟩
      rw [hv]
      have hv0 : 1 ≤ v ∧ v ≤ a ∧ v ≤ n := by rw [← hv]; split <;> omega
      obtain ⟨K, hK⟩ : ∃ K, gc.takeK s.A now' v = K := ⟨_, rfl⟩
      have hKv : (K : Int) = v := by rw [← hK]; unfold gc.takeK; rw [hR]; omega
      rw [hK]
      have he : (s.S.extract 0 K).size = K := by rw [ByteArray.size_extract]; omega
      rw [he]
      have hKp : 0 < K := by omega
      refine ⟨by omega, fun _ hany => ?_, ?_⟩
      · rw [← h.pause hany]
        omega
      · rw [if_pos hKp]
        refine ⟨base_cut (g := { { s with clock := now' } with d := gd.stepZ s.d, pause := addT now' b }) ⟨⟨h.base.runs.kind, h.base.runs.closed, h.base.runs.open_⟩, h.base.kind, h.base.fa, h.base.fb, h.base.room, rfl, hb.now0, h1, hS⟩ K (by show K ≤ s.S.size; omega), ha1, h.a2, fun _ => rfl⟩
/-! A row of noughts, made. -/
theorem infoU : (Try.prog.info? 5).map (fun i => (i.zero, i.size, i.bytes)) = some (some (.int .u8 0), 1, 1) := by kernel_rfl
def zeros (n : Nat) : ByteArray := ⟨(List.replicate n 0).toArray⟩
theorem zeros_size (n : Nat) : (zeros n).size = n := by show (List.replicate n (0 : UInt8)).toArray.size = n; simp
theorem zeros_nums (n : Nat) : gc.nums (zeros n) = List.replicate n 0 := by
  unfold gc.nums zeros
  simp
theorem make_zeros (w : World) (n : Nat) (h : n ≤ 200) : ∃ w', (Instr.makeSlice 40 (.int .i64 (n : Int)) (.int .i64 (n : Int))).run Try.prog w = .ok (.slice (some ⟨w.heap.size, 0, none⟩) n n) w' ∧
    Lib.BytesIn w' (some ⟨w.heap.size, 0, none⟩) n (gc.nums (zeros n)) ∧ Below w.heap.size w w' := by
  obtain ⟨i0, hi0, hz0, hz1, hz2⟩ := info_parts infoU
  have hr := run_makeSlice (P := Try.prog) (w := w) 40 5 i0 (.int .u8 0) Try.underlying40 hi0 hz0 .i64 .i64 (n : Int) (n : Int) (by omega) (by omega) (by rw [hz1]; omega) (by rw [hz2]; omega) (by omega)
  refine ⟨_, hr, fun _ => ⟨_, _, rfl, fun i hi => ?_⟩, (Below.refl _ _).alloc (Nat.le_refl _) _⟩
  have hc := heap_alloc_new w (.cells (madeCells (Value.int .u8 0).cells ((n : Int).toNat * i0.size)) 5)
  rw [Nat.zero_add]
  unfold World.cell?
  rw [hc, zeros_nums, hz1]
  simp [madeCells, Value.cells, hi, Nat.mod_one]
end Go.Proofs.Ytlbihcpglcdmmaa
namespace Go.Proofs.Ytlbihcpglcdmmaa
open Go.RowKit

theorem win_later {r u L L' t t' : Int} {ats gs : List Int} (h : gb.Win r u ats gs L t) (ht : t ≤ t') (h1 : L' ≤ L + r * (t' - t)) (h2 : 0 ≤ L') : gb.Win r u ats gs L' t' :=
  ⟨h.len, h.pos, h2, fun i hi => by have := h.atl i hi; omega, h.mono, fun i hi => by
    have h3 := h.tail i hi
    have h4 : r * (t' - ats.getD i 0) = r * (t - ats.getD i 0) + r * (t' - t) := by rw [← Int.mul_add]; congr 1; omega
    omega, h.pairs⟩
/-- A stage of Bandwidth, and what was taken when. -/
structure WinI (r u : Int) (s : St) (now : Int) (ats gs : List Int) : Prop where
  base : Base 2 r u 4096 s now
  r0 : 0 ≤ r
  u0 : 0 ≤ u
  bkr : s.bk.r = r
  bku : s.bk.u = u
  right : gb.rightB r u s.bk.l s.bk.t = true
  tle : s.bk.t ≤ now
  win : gb.Win r u ats gs (gb.fillL r u s.bk.l s.bk.t now) now
section
variable {r u : Int} {s : St} {now now' : Int} {ats gs : List Int}
/-- The bucket's level, later. -/
theorem WinI.later (h : WinI r u s now ats gs) (hn : now ≤ now') (h1 : now' ≤ 1099511627776) :
    gb.Win r u ats gs (gb.fillL r u s.bk.l s.bk.t now') now' ∧ gb.fillT r u s.bk.l s.bk.t now' = now' ∧ gb.fillL r u s.bk.l s.bk.t now' ≤ u ∧ 0 ≤ gb.fillL r u s.bk.l s.bk.t now' ∧
      gb.fillL r u s.bk.l s.bk.t now' ≤ gb.fillL r u s.bk.l s.bk.t now + r * (now' - now) := by
  have n0 := h.base.now0
  have e0 : gb.near now = now := gb.near_of now n0 h.base.now1
  have e1 : gb.near now' = now' := gb.near_of now' (by omega) h1
  have hT0 : gb.fillT r u s.bk.l s.bk.t now = now := by
    have := (gb.window_step (now := now) h.right rfl rfl (by rw [e0]; exact h.tle)).1
    rw [this, e0]
  have hR := gb.fill_right h.right now
  rw [hT0] at hR
  have hst := gb.fill_steps h.right hn
  rw [hT0] at hst
  have hw := gb.window_step (now := now') hR hst.1 hst.2 (by rw [e1]; exact hn)
  have hT : gb.fillT r u s.bk.l s.bk.t now' = now' := by rw [hw.1, e1]
  rw [hT] at hw
  exact ⟨win_later h.win hn hw.2.1 hw.2.2.2, hT, hw.2.2.1, hw.2.2.2, hw.2.1⟩
theorem win_put (h : WinI r u s now ats gs) (hn : now ≤ now') (h1 : now' ≤ 1099511627776) (x : ByteArray) : WinI r u (bringS s now' x).1 now' ats gs := by
  obtain ⟨hb, _, hk⟩ := base_put h.base (Or.inl rfl) hn h1 x
  have hl := h.later hn h1
  exact ⟨hb, h.r0, h.u0, by rw [hk]; exact h.bkr, by rw [hk]; exact h.bku, by rw [hk]; exact h.right, by rw [hk]; have := h.tle; omega, by rw [hk]; exact hl.1⟩
/-- Bytes are taken. -/
theorem win_take (h : WinI r u s now ats gs) (hn : now ≤ now') (h1 : now' ≤ 1099511627776) (most : Int) :
    WinI r u (takeS s now' most).1 now' (ats ++ [now']) (gs ++ [(((takeS s now' most).2.size : Nat) : Int)]) ∧ (((takeS s now' most).2.size : Nat) : Int) ≤ u := by
  obtain ⟨hlk, hb⟩ := h.base.look hn h1
  obtain ⟨hw, hT, hLu, hL0, hLr⟩ := h.later hn h1
  have hn0 := h.base.now0
  obtain ⟨V, hV⟩ : ∃ V, gb.fillL r u s.bk.l s.bk.t now = V := ⟨_, rfl⟩
  have hwn := h.win
  rw [hV] at hwn hLr
  obtain ⟨L, hL⟩ : ∃ L, gb.fillL r u s.bk.l s.bk.t now' = L := ⟨_, rfl⟩
  rw [hL] at hw hLu hL0 hLr
  have hop : ({ s with clock := now' } : St).st = 0 := h.base.runs.open_
  unfold takeS
  dsimp only
  rw [hlk]
  by_cases hm : most < 1
  · rw [if_pos (Or.inr hm)]
    dsimp only
    rw [show (⟨#[]⟩ : ByteArray).size = 0 from rfl]
    refine ⟨⟨hb, h.r0, h.u0, h.bkr, h.bku, h.right, by have := h.tle; show s.bk.t ≤ now'; omega, ?_⟩, h.u0⟩
    show gb.Win r u _ _ (gb.fillL r u s.bk.l s.bk.t now') now'
    rw [hL]
    exact gb.win_step hwn h.r0 hn0 hn hLr hLu (Int.le_refl 0) hL0 (by omega)
  · rw [if_neg (by rw [hop]; simp [hm])]
    dsimp only
    obtain ⟨R, hR⟩ : ∃ R, gc.readyN s.A now' = R := ⟨_, rfl⟩
    rw [hR]
    have hRl : R ≤ s.A.length := by rw [← hR]; exact gc.ready_le _ _
    obtain ⟨n, hnn⟩ : ∃ n : Int, (if most < (R : Int) then most else (R : Int)) = n := ⟨_, rfl⟩
    rw [hnn]
    have hnr : 0 ≤ n ∧ n ≤ R := by rw [← hnn]; split <;> omega
    have hS := h.base.size
    unfold giveS
    rw [if_pos (show ({ s with clock := now' } : St).tx.k = 2 from h.base.kind)]
    dsimp only
    rw [h.bkr, h.bku, hL, hT]
    have htr := gb.take_range (n := n) hL0
    obtain ⟨v, hv⟩ : ∃ v, gb.takeB L n = v := ⟨_, rfl⟩
    rw [hv] at htr
    rw [hv]
    obtain ⟨K, hK⟩ : ∃ K, gc.takeK s.A now' v = K := ⟨_, rfl⟩
    have hvn := htr.2.2.1 hnr.1
    have hKv : (K : Int) = v := by rw [← hK]; unfold gc.takeK; rw [hR]; omega
    rw [hK]
    have he : (s.S.extract 0 K).size = K := by rw [ByteArray.size_extract]; omega
    rw [he, hKv]
    have hfr := gb.fill_right h.right now'
    rw [hL, hT] at hfr
    have hlr := gb.less_right hfr htr.1 htr.2.1
    have hbd : Base 2 r u 4096 { { s with clock := now' } with bk := ⟨r, u, L - v, now'⟩ } now' := ⟨⟨h.base.runs.kind, h.base.runs.closed, h.base.runs.open_⟩, h.base.kind, h.base.fa, h.base.fb, h.base.room, rfl, hb.now0, h1, hS⟩
    refine ⟨⟨base_cut hbd K (by show K ≤ s.S.size; omega), h.r0, h.u0, rfl, rfl, hlr, Int.le_refl _, ?_⟩, by omega⟩
    show gb.Win r u _ _ (gb.fillL r u (L - v) now' now') now'
    rw [(gb.fill_same (r := r) (u := u) (l := L - v) (t := now') (now := now') (by rw [gb.near_of now' (by omega) h1]; omega)).1]
    exact gb.win_step hwn h.r0 hn0 hn hLr hLu htr.1 (by omega) rfl
end
theorem win_new {r u seed : Int} (hr : 0 ≤ r ∧ r ≤ 1099511627776) (hu : 1 ≤ u ∧ u ≤ 4096) : WinI r u (newS (lawTox 2 r u) seed 4096 0) 0 [] [] := by
  have hz : gb.near 0 = 0 := gb.near_of 0 (by omega) (by omega)
  have hR : gb.rightB r u u 0 = true := by
    rw [gb.rightB_iff]
    omega
  refine ⟨base_new (Or.inl rfl), hr.1, by omega, rfl, rfl, ?_, ?_, ?_⟩
  · show gb.rightB r u u (gb.near 0) = true
    rw [hz]
    exact hR
  · show gb.near 0 ≤ 0
    omega
  · show gb.Win r u [] [] (gb.fillL r u u (gb.near 0) 0) 0
    rw [hz, (gb.fill_same (r := r) (u := u) (l := u) (t := 0) (now := 0) (by omega)).1]
    exact gb.win_nil r u u (by omega)
end Go.Proofs.Ytlbihcpglcdmmaa
namespace Go.Proofs.Ytlbihcpglcdmmaa
open Go.RowKit

theorem step_append_eq {P : Program} {ops : Array Oper} {o : Oper} {a : Act} {w : World} {K : Act → World → Prop} {Q : Exit → Act → World → Prop} {E : Prop} (hg : o.guard = none) (d s : Operand) (t t' : TypeId)
    (hop : o.op = .call { callee := .builtin .append, args := #[d, s], argTypes := #[t, t'] }) (x y : Value) (hd : a.eval d = x) (hs : a.eval s = y) {v' : Value} {w' : World} (hr : ∀ ty, (Builtin.append_ #[t, t'] ty #[x, y]).run P w = .ok v' w') (hK : K (a.put o.dst v') w') :
    if Region.wanted o (yielded ops a.tmps) = true then Oper.wp P o a w K Q else E := by
  rw [if_pos (show Region.wanted o (yielded ops a.tmps) = true by simp [Region.wanted, hg])]
  unfold Oper.wp
  have h := hr o.type
  simp [execOp, hop, resolve, invoke, builtin, hd, hs, h, Result.andThen]
  exact hK
def Apart (p q : Option Addr) : Prop := ∀ x y, p = some x → q = some y → x.block ≠ y.block
theorem Apart.symm {p q : Option Addr} (h : Apart p q) : Apart q p := fun x y hx hy => (h y x hy hx).symm
/-- One number more in the first of two rows. -/
theorem app_two {w0 w : World} {U : Own} {g : Nat} {s : St} {M : Nat} {qa qg : Option Addr} {na da ng dg : Nat} {xs ys : List Int} (ha : Row w0 w U qa na da xs) (hgr : Row w0 w U qg ng dg ys) (hf : Apart qa qg) (hh : Hd w0 w U g s M) (hn : na + 1 ≤ 1000000) (x : Int) :
    ∃ q' d' w', (∀ ty, (Builtin.append_ #[50, 50] ty #[.slice qa na da, .slice (some ⟨w.heap.size, 0, none⟩) 1 1]).run Try.prog (w.alloc (.cells #[.int .i64 x] 3)) = .ok (.slice q' (na + 1) d') w') ∧
      Row w0 w' U q' (na + 1) d' (xs ++ [x]) ∧ Row w0 w' U qg ng dg ys ∧ Apart q' qg ∧ Hd w0 w' U g s M ∧ ∀ (go : Nat) (cs : Array Value) (T : TypeId), T ≠ 3 → w.heap[go]? = some (Obj.cells cs T (0, 0)) → w'.heap[go]? = some (Obj.cells cs T (0, 0)) := by
  obtain ⟨q', d', w1, r1, rr, hh1, g1, l1⟩ := ha.app hh hn x
  have hal : Below w.heap.size w (w.alloc (.cells #[.int .i64 x] 3)) := (Below.refl _ _).alloc (Nat.le_refl _) _
  refine ⟨q', d', w1, r1, rr, ⟨(hgr.row.on hal).apart g1 fun b e e' => ?_, hgr.far⟩, fun a b ea eb => ?_, hh1, fun go cs T hT hgo => ?_⟩
  · cases hq : qa with
    | none => rw [hq] at e'; cases e'
    | some c =>
      rw [hq] at e'
      exact hf c b hq e (by simpa using e')
  · have hlt := (hgr.row.lt b eb).2
    rcases l1 a ea with h1 | h1
    · cases hq : qa with
      | none => rw [hq] at h1; cases h1
      | some c =>
        rw [hq] at h1
        have e : c.block = a.block := by simpa using h1
        rw [← e]
        exact hf c b hq eb
    · omega
  · have hlt := blk_lt hgo
    refine (g1.block go (by have := hal.size; omega) fun e => ?_).trans ((hal.block go hlt).trans hgo)
    cases hq : qa with
    | none => rw [hq] at e; cases e
    | some c =>
      rw [hq] at e
      have e2 : c.block = go := by simpa using e.symm
      obtain ⟨cur, hc⟩ := ha.row.typed c hq
      rw [e2, hgo] at hc
      have := Option.some.inj hc
      injection this with _ h3
      exact hT h3
theorem isB (n : Int) (w : World) : Calls Try.prog 36 #[.int .i64 n] w fun e w' => e = .returned (.bool (gb.near n == n)) ∧ w = w' := by
  go_enter Try.func36, Try.ntmps36
  go_wp2_with fail
  refine (gb.rnear_any _ _).mono ?_
  rintro e w' ⟨rfl, rfl⟩
  go_wp2_with fail
  go_ret
  exact ⟨rfl, rfl⟩
/-- What the document's New of a bucket hands back. -/
def NewB (r u : Int) (w : World) (e : Ending) (w' : World) : Prop := ∃ a b c d n, e = .returned (.tuple #[.agg #[.int .i64 a, .int .i64 b, .int .i64 c, .int .i64 d], .int .i64 n]) ∧ Below w.heap.size w w' ∧ (0 ≤ r ∧ r ≤ 1099511627776 → 1 ≤ u ∧ u ≤ 4096 → a = r ∧ b = u ∧ c = u ∧ d = 0 ∧ n = 0)
set_option maxRecDepth 100000 in
set_option maxHeartbeats 4000000 in
theorem rnew_any (r u : Int) (w : World) : Calls Try.prog 18 #[.int .i64 r, .int .i64 u, .int .i64 0] w (NewB r u w) := by
  have HR := Lib.hid (isB r)
  have HU := Lib.hid (isB u)
  have H0 := Lib.hid (isB 0)
  have nr : (0 ≤ r ∧ r ≤ 1099511627776) → (gb.near r == r) = true := fun h => by rw [gb.near_of r h.1 h.2, beq_self_eq_true]
  have nu : (1 ≤ u ∧ u ≤ 4096) → (gb.near u == u) = true := fun h => by rw [gb.near_of u (by omega) (by omega), beq_self_eq_true]
  rw [gb.near_of 0 (by omega) (by omega), beq_self_eq_true] at H0
  cases hR : (gb.near r == r) with
  | false =>
    rw [hR] at HR
    have HN := Lib.hid (show ¬ (0 ≤ r ∧ r ≤ 1099511627776) from fun h => by have := nr h; rw [hR] at this; cases this)
    clear nr nu hR HU H0
    go_enter Try.func18, Try.ntmps18
    go_wp2_with fail
    refine (HR.out _).mono ?_
    rintro e w' ⟨rfl, rfl⟩
    go_wp2_with fail
    have hz := heap_alloc_new w (.cells #[.int .i64 0, .int .i64 0, .int .i64 0, .int .i64 0] 58)
    have HB := Lib.hid (show Below w.heap.size w (w.alloc (.cells #[.int .i64 0, .int .i64 0, .int .i64 0, .int .i64 0] 58)) from (Below.refl _ _).alloc (Nat.le_refl _) _)
    generalize w.alloc (.cells #[.int .i64 0, .int .i64 0, .int .i64 0, .int .i64 0] 58) = W at *
    have z0 := cell_of_row W w.heap.size 0 _ _ _ hz
    have z1 := cell_of_row W w.heap.size 1 _ _ _ hz
    have z2 := cell_of_row W w.heap.size 2 _ _ _ hz
    have z3 := cell_of_row W w.heap.size 3 _ _ _ hz
    exact bodyPost_ret (v := .tuple #[.agg #[.int .i64 0, .int .i64 0, .int .i64 0, .int .i64 0], .int .i64 1]) (by simp [results, Try.results18, go_sem, z0, z1, z2, z3]) rfl ⟨0, 0, 0, 0, 1, rfl, HB.out, fun h _ => absurd h HN.out⟩
  | true =>
    rw [hR] at HR
    cases hU : (gb.near u == u) with
    | false =>
      rw [hU] at HU
      have HN := Lib.hid (show ¬ (1 ≤ u ∧ u ≤ 4096) from fun h => by have := nu h; rw [hU] at this; cases this)
      clear nr nu hR hU H0
      go_enter Try.func18, Try.ntmps18
      go_wp2_with fail
      refine (HR.out _).mono ?_
      rintro e w' ⟨rfl, rfl⟩
      go_wp2_with fail
      refine (HU.out _).mono ?_
      rintro e w' ⟨rfl, rfl⟩
      go_wp2_with fail
      have hz := heap_alloc_new w (.cells #[.int .i64 0, .int .i64 0, .int .i64 0, .int .i64 0] 58)
      have HB := Lib.hid (show Below w.heap.size w (w.alloc (.cells #[.int .i64 0, .int .i64 0, .int .i64 0, .int .i64 0] 58)) from (Below.refl _ _).alloc (Nat.le_refl _) _)
      generalize w.alloc (.cells #[.int .i64 0, .int .i64 0, .int .i64 0, .int .i64 0] 58) = W at *
      have z0 := cell_of_row W w.heap.size 0 _ _ _ hz
      have z1 := cell_of_row W w.heap.size 1 _ _ _ hz
      have z2 := cell_of_row W w.heap.size 2 _ _ _ hz
      have z3 := cell_of_row W w.heap.size 3 _ _ _ hz
      exact bodyPost_ret (v := .tuple #[.agg #[.int .i64 0, .int .i64 0, .int .i64 0, .int .i64 0], .int .i64 1]) (by simp [results, Try.results18, go_sem, z0, z1, z2, z3]) rfl ⟨0, 0, 0, 0, 1, rfl, HB.out, fun _ h => absurd h HN.out⟩
    | true =>
      rw [hU] at HU
      by_cases hu0 : u = 0
      · have d0 : (u == 0) = true := by simpa using hu0
        have HN := Lib.hid (show ¬ (1 ≤ u ∧ u ≤ 4096) by omega)
        clear nr nu hR hU hu0
        go_enter Try.func18, Try.ntmps18
        go_wp2_with fail
        refine (HR.out _).mono ?_
        rintro e w' ⟨rfl, rfl⟩
        go_wp2_with fail
        refine (HU.out _).mono ?_
        rintro e w' ⟨rfl, rfl⟩
        go_wp2_with fail
        refine (H0.out _).mono ?_
        rintro e w' ⟨rfl, rfl⟩
        go_wp2_with fail
        have hz := heap_alloc_new w (.cells #[.int .i64 0, .int .i64 0, .int .i64 0, .int .i64 0] 58)
        have HB := Lib.hid (show Below w.heap.size w (w.alloc (.cells #[.int .i64 0, .int .i64 0, .int .i64 0, .int .i64 0] 58)) from (Below.refl _ _).alloc (Nat.le_refl _) _)
        generalize w.alloc (.cells #[.int .i64 0, .int .i64 0, .int .i64 0, .int .i64 0] 58) = W at *
        have z0 := cell_of_row W w.heap.size 0 _ _ _ hz
        have z1 := cell_of_row W w.heap.size 1 _ _ _ hz
        have z2 := cell_of_row W w.heap.size 2 _ _ _ hz
        have z3 := cell_of_row W w.heap.size 3 _ _ _ hz
        exact bodyPost_ret (v := .tuple #[.agg #[.int .i64 0, .int .i64 0, .int .i64 0, .int .i64 0], .int .i64 1]) (by simp [results, Try.results18, go_sem, z0, z1, z2, z3]) rfl ⟨0, 0, 0, 0, 1, rfl, HB.out, fun _ h => absurd h HN.out⟩
      · have d0 : (u == 0) = false := by simpa using hu0
        clear nr nu hR hU hu0
        go_enter Try.func18, Try.ntmps18
        go_wp2_with fail
        refine (HR.out _).mono ?_
        rintro e w' ⟨rfl, rfl⟩
        go_wp2_with fail
        refine (HU.out _).mono ?_
        rintro e w' ⟨rfl, rfl⟩
        go_wp2_with fail
        refine (H0.out _).mono ?_
        rintro e w' ⟨rfl, rfl⟩
        go_wp2_with fail
        have hz := heap_alloc_new w (.cells #[.int .i64 r, .int .i64 u, .int .i64 u, .int .i64 0] 58)
        have HB := Lib.hid (show Below w.heap.size w (w.alloc (.cells #[.int .i64 r, .int .i64 u, .int .i64 u, .int .i64 0] 58)) from (Below.refl _ _).alloc (Nat.le_refl _) _)
        generalize w.alloc (.cells #[.int .i64 r, .int .i64 u, .int .i64 u, .int .i64 0] 58) = W at *
        have z0 := cell_of_row W w.heap.size 0 _ _ _ hz
        have z1 := cell_of_row W w.heap.size 1 _ _ _ hz
        have z2 := cell_of_row W w.heap.size 2 _ _ _ hz
        have z3 := cell_of_row W w.heap.size 3 _ _ _ hz
        exact bodyPost_ret (v := .tuple #[.agg #[.int .i64 r, .int .i64 u, .int .i64 u, .int .i64 0], .int .i64 0]) (by simp [results, Try.results18, go_sem, z0, z1, z2, z3]) rfl ⟨r, u, u, 0, 0, rfl, HB.out, fun _ _ => ⟨rfl, rfl, rfl, rfl, rfl⟩⟩
end Go.Proofs.Ytlbihcpglcdmmaa
