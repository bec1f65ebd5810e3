/-
  Contract: what lays one more word of a line; Split. Conditions: as each states.
-/
import Derived.Test.YtngnkkigjlenoaaGreatDoorE
namespace Go.Proofs.YtngnkkigjlenoaaGreatDoor
open Go.RowKit

/-- The blocks of a Split: the words so far, the place, whether all was right. -/
structure SW (w : World) (B : Nat) (w' : World) (ws : List ByteArray) (k : Nat) (ok : Bool) : Prop where
  wrd : ∃ q d, w'.heap[B]? = some (.cells #[.slice q ws.length d] 22 (0, 0)) ∧ Strs w' (B + 3) q ws.length d ws
  at' : w'.heap[B + 1]? = some (.cells #[.int .i64 k] 3 (0, 0))
  ok' : w'.heap[B + 2]? = some (.cells #[.bool ok] 4 (0, 0))
  low : Below B w w'
theorem SW.sz {w : World} {B : Nat} {w' : World} {ws : List ByteArray} {k : Nat} {ok : Bool} (h : SW w B w' ws k ok) : B + 3 ≤ w'.heap.size := by
  have := blk_lt h.ok'
  omega
theorem SW.on {w : World} {B : Nat} {w' w2 : World} {ws : List ByteArray} {k : Nat} {ok : Bool} (h : SW w B w' ws k ok) (hb : Below w'.heap.size w' w2) : SW w B w2 ws k ok := by
  have hs := h.sz
  obtain ⟨q, d, h1, h2⟩ := h.wrd
  exact ⟨⟨q, d, (hb.block _ (blk_lt h1)).trans h1, own_on h2 hb⟩, (hb.block _ (blk_lt h.at')).trans h.at', (hb.block _ (blk_lt h.ok')).trans h.ok', h.low.trans (hb.mono (by omega))⟩
theorem SW.reads {w : World} {B : Nat} {w' : World} {ws : List ByteArray} {k : Nat} {ok : Bool} (h : SW w B w' ws k ok) : (∃ q d, w'.cell? ⟨B, 0, none⟩ = some (.slice q ws.length d)) ∧ w'.cell? ⟨B + 1, 0, none⟩ = some (.int .i64 k) ∧ w'.cell? ⟨B + 2, 0, none⟩ = some (.bool ok) ∧ w'.frozen? ⟨B + 1, 0, none⟩ = false :=
  ⟨by obtain ⟨q, d, h1, _⟩ := h.wrd; exact ⟨q, d, cell0 h1⟩, cell0 h.at', cell0 h.ok', frozen_at h.at'⟩
theorem SW.move {w : World} {B : Nat} {w' : World} {ws : List ByteArray} {k : Nat} {ok : Bool} (h : SW w B w' ws k ok) (j : Nat) : SW w B (w'.setCell ⟨B + 1, 0, none⟩ (.int .i64 j)) ws j ok := by
  obtain ⟨q, d, h1, h2⟩ := h.wrd
  exact ⟨⟨q, d, set_far h1 _ (by omega), own_far h2 _ (by omega)⟩, set_one h.at' _, set_far h.ok' _ (by omega), h.low.setCell (p := ⟨B + 1, 0, none⟩) (by show B ≤ B + 1; omega) _⟩
set_option maxHeartbeats 4000000 in
theorem add_any {w : World} {B : Nat} {wr : World} {ws : List ByteArray} {k : Nat} {ok : Bool} (h : SW w B wr ws k ok) (hl : ws.length ≤ 1000) (W : ByteArray) (j : Nat) (ok' : Bool) :
    Calls Tryz.prog 25 #[.string W, .int .i64 j, .bool ok', .pointer (some ⟨B, 0, none⟩), .pointer (some ⟨B + 1, 0, none⟩), .pointer (some ⟨B + 2, 0, none⟩)] wr fun e w' => e = .returned (.tuple #[]) ∧ SW w B w' (ws ++ [W]) j ok' := by
  have hsz := h.sz
  obtain ⟨q, d, hv, hown⟩ := h.wrd
  have c0 := cell0 hv
  obtain ⟨q', d', w1, r1, r2, r3⟩ := app_str (w0 := wr) hown (by omega) (Below.refl (B + 3) wr) (by omega) W
  have HR := Lib.hid r1
  have e0 := (r3.block B (by omega)).trans hv
  have e1 := (r3.block (B + 1) (by omega)).trans h.at'
  have e2 := (r3.block (B + 2) (by omega)).trans h.ok'
  have i0 := cell0 e0
  have i1 := cell0 e1
  have i2 := cell0 e2
  have f0 : w1.frozen? ⟨B, 0, none⟩ = false := frozen_at e0
  have f1 : w1.frozen? ⟨B + 1, 0, none⟩ = false := frozen_at e1
  have f2 : w1.frozen? ⟨B + 2, 0, none⟩ = false := frozen_at e2
  have HQ : Hid (SW w B (((w1.setCell ⟨B, 0, none⟩ (.slice q' (ws.length + 1) d')).setCell ⟨B + 1, 0, none⟩ (.int .i64 j)).setCell ⟨B + 2, 0, none⟩ (.bool ok')) (ws ++ [W]) j ok') := by
    refine Lib.hid ⟨⟨q', d', ?_, ?_⟩, ?_, ?_, ?_⟩
    · rw [List.length_append, List.length_singleton]
      exact set_far (set_far (set_one e0 _) _ (by omega)) _ (by omega)
    · rw [List.length_append, List.length_singleton]
      exact own_far (own_far (own_far r2 _ (by omega)) _ (by omega)) _ (by omega)
    · exact set_far (set_one (set_far e1 _ (by omega)) _) _ (by omega)
    · exact set_one (set_far (set_far e2 _ (by omega)) _ (by omega)) _
    · exact (((h.low.trans (r3.mono (by omega))).setCell (p := ⟨B, 0, none⟩) (Nat.le_refl _) _).setCell (p := ⟨B + 1, 0, none⟩) (by show B ≤ B + 1; omega) _).setCell (p := ⟨B + 2, 0, none⟩) (by show B ≤ B + 2; omega) _
  clear r1 r2 r3 e0 e1 e2 hv hown h
  go_enter Tryz.func25, Tryz.ntmps25
  go_wp2_with (at_builtin; refine Lib.wpList_append_run _ rfl _ _ _ _ rfl (.slice q ws.length d) (.slice (some ⟨wr.heap.size, 0, none⟩) 1 1) rfl rfl _ _ (HR.out _) ?_)
  go_end0
  exact ⟨rfl, HQ.out⟩
def rk : Value → Nat
  | .bool true => 1
  | _ => 0
/-- What Split hands back. -/
def OutS (s : ByteArray) (w : World) (e : Ending) (w' : World) : Out → Prop
  | .ok wl => ∃ q d, e = .returned (.tuple #[.slice q wl.length d, .int .i64 s.size, .int .i64 0]) ∧ Strs w' w.heap.size q wl.length d (wl.map strOfNums) ∧ Below w.heap.size w w'
  | .bad r c => e = .returned (.tuple #[.slice none 0 0, .int .i64 (plc s.size r : Nat), .int .i64 c]) ∧ Below w.heap.size w w'
/-- How the words so far hang together with the whole. -/
def SR (xs : List Int) (ws : List ByteArray) (k : Nat) (ok : Bool) (R : Out) : Prop := if ok then ∃ wl : List (List Int), ws = wl.map strOfNums ∧ wl.length ≤ 16 ∧ spS wl (xs.drop k) = R else R = .bad (xs.drop k) 150
theorem SR.words {xs : List Int} {ws : List ByteArray} {k : Nat} {R : Out} (h : SR xs ws k true R) : ∃ wl : List (List Int), ws = wl.map strOfNums ∧ wl.length ≤ 16 ∧ spS wl (xs.drop k) = R := h
theorem SR.few {xs : List Int} {ws : List ByteArray} {k : Nat} {R : Out} (h : SR xs ws k true R) : ws.length ≤ 16 := by
  obtain ⟨wl, rfl, h1, _⟩ := h.words
  rw [List.length_map]
  exact h1
theorem SR.odd {xs : List Int} {ws : List ByteArray} {k : Nat} {R : Out} (h : SR xs ws k true R) (hc : kAt xs k = 1) : R = .bad (xs.drop k) 150 := by
  obtain ⟨wl, _, _, h3⟩ := h.words
  obtain ⟨r, e1, e2, e3, e4⟩ := quo_at hc (by omega)
  rw [← h3, e1]
  exact spS_odd e3
theorem SR.done {xs : List Int} {ws : List ByteArray} {k : Nat} {R : Out} (h : SR xs ws k true R) (hc : kAt xs k = 0) (hk : k ≤ xs.length) : k = xs.length ∧ ∃ wl : List (List Int), ws = wl.map strOfNums ∧ R = .ok wl := by
  obtain ⟨wl, h1, _, h3⟩ := h.words
  have e1 := quo_end hc
  rw [e1] at h3
  refine ⟨?_, wl, h1, h3.symm⟩
  have := congrArg List.length e1
  rw [List.length_drop] at this
  simp at this
  omega
theorem SR.gap {xs : List Int} {ws : List ByteArray} {k : Nat} {R : Out} (h : SR xs ws k true R) (hc : kAt xs k = 2) : SR xs ws (k + 1) true R ∧ k < xs.length := by
  obtain ⟨wl, h1, h2, h3⟩ := h.words
  obtain ⟨r, e1, e2, e3, e4⟩ := quo_at hc (by omega)
  refine ⟨⟨wl, h1, h2, ?_⟩, e4⟩
  rw [← h3, e1, spS_gap e3, e2]
theorem suf_place {a xs : List Int} {k n : Nat} (h : a <:+ xs.drop k) (hn : xs.length = n) (hk : k ≤ n) : xs.drop (plc n a) = a ∧ k ≤ plc n a ∧ plc n a ≤ n := by
  have h1 := suf_drop h
  have h2 := suf_len h
  rw [List.length_drop] at h2
  subst hn
  unfold plc
  exact ⟨h1.symm, by omega, by omega⟩
theorem SR.hash {xs : List Int} {ws : List ByteArray} {k n : Nat} {R : Out} (h : SR xs ws k true R) (hc : kAt xs k = 3) (hn : xs.length = n) : SR xs ws (plc n (remL (xs.drop k))) true R ∧ k < plc n (remL (xs.drop k)) ∧ plc n (remL (xs.drop k)) ≤ n := by
  obtain ⟨wl, h1, h2, h3⟩ := h.words
  obtain ⟨r, e1, e2, e3, e4⟩ := quo_at hc (by omega)
  have hr := rem_suffix r
  rw [← e2] at hr
  obtain ⟨p1, p2, p3⟩ := suf_place hr hn (by omega)
  have e5 : remL (xs.drop k) = remL (xs.drop (k + 1)) := by rw [e1, rem_go (by omega), e2]
  rw [e5]
  refine ⟨⟨wl, h1, h2, ?_⟩, by omega, p3⟩
  rw [← h3, p1, ← e5, e1, spS_hash e3, ← e1]
theorem SR.many {xs : List Int} {ws : List ByteArray} {k : Nat} {R : Out} (h : SR xs ws k true R) (hc : kAt xs k = 4 ∨ kAt xs k = 5 ∨ kAt xs k = 6) (hl : ws.length = 16) : R = .bad (xs.drop k) 151 := by
  obtain ⟨wl, h1, h2, h3⟩ := h.words
  obtain ⟨r, e1, e2, e3, e4⟩ := quo_at (c := kAt xs k) rfl (by omega)
  rw [← h3, e1]
  refine spS_many (by omega) ?_
  rw [h1, List.length_map] at hl
  exact hl
theorem SR.quote {xs : List Int} {ws : List ByteArray} {k n : Nat} {R : Out} (h : SR xs ws k true R) (hc : kAt xs k = 4) (hl : ¬ ws.length = 16) (hn : xs.length = n) {W : ByteArray} (hW : (quoL (xs.drop (k + 1))).1 = true → W = strOfNums (quoL (xs.drop (k + 1))).2.1) :
    SR xs (ws ++ [W]) (plc n (quoL (xs.drop (k + 1))).2.2) ((quoL (xs.drop (k + 1))).1 && endsL (quoL (xs.drop (k + 1))).2.2) R ∧ k < plc n (quoL (xs.drop (k + 1))).2.2 ∧ plc n (quoL (xs.drop (k + 1))).2.2 ≤ n := by
  obtain ⟨wl, h1, h2, h3⟩ := h.words
  obtain ⟨r, e1, e2, e3, e4⟩ := quo_at hc (by omega)
  obtain ⟨p1, p2, p3⟩ := suf_place (quo_suffix (xs.drop (k + 1))) hn (by omega)
  refine ⟨?_, by omega, p3⟩
  rw [h1, List.length_map] at hl
  rw [e1, spS_quote e3 hl, ← e2] at h3
  generalize quoL (xs.drop (k + 1)) = Q at *
  by_cases hq : (Q.1 && endsL Q.2.2) = true
  · rw [if_pos hq] at h3
    have hq' := hq
    rw [Bool.and_eq_true] at hq'
    unfold SR
    rw [if_pos hq]
    refine ⟨wl ++ [Q.2.1], by rw [h1, hW hq'.1]; simp, by rw [List.length_append, List.length_singleton]; omega, ?_⟩
    rw [p1]
    exact h3
  · rw [if_neg hq] at h3
    unfold SR
    rw [if_neg hq, p1]
    exact h3.symm
theorem SR.bare {xs : List Int} {ws : List ByteArray} {k n : Nat} {R : Out} (h : SR xs ws k true R) (hc : kAt xs k = 5 ∨ kAt xs k = 6) (hl : ¬ ws.length = 16) (hn : xs.length = n) :
    SR xs (ws ++ [strOfNums (bareL (xs.drop k)).1]) (plc n (bareL (xs.drop k)).2) (endsL (bareL (xs.drop k)).2) R ∧ k ≤ plc n (bareL (xs.drop k)).2 ∧ plc n (bareL (xs.drop k)).2 ≤ n ∧ (endsL (bareL (xs.drop k)).2 = true → k < plc n (bareL (xs.drop k)).2) := by
  obtain ⟨wl, h1, h2, h3⟩ := h.words
  obtain ⟨r, e1, e2, e3, e4⟩ := quo_at (c := kAt xs k) rfl (by omega)
  have hs : (bareL (xs.drop k)).2 <:+ xs.drop k := ⟨_, bare_join (xs.drop k)⟩
  obtain ⟨p1, p2, p3⟩ := suf_place hs hn (by omega)
  have hlt : endsL (bareL (xs.drop k)).2 = true → k < plc n (bareL (xs.drop k)).2 := fun he => by
    rw [e1] at he ⊢
    have h5 := bare_len he (by omega)
    have h6 := congrArg List.length e2
    rw [List.length_drop] at h6
    unfold plc
    omega
  refine ⟨?_, p2, p3, hlt⟩
  rw [h1, List.length_map] at hl
  rw [e1, spS_bare (by omega) hl, ← e1] at h3
  clear hlt
  generalize bareL (xs.drop k) = Q at *
  by_cases hq : endsL Q.2 = true
  · rw [if_pos hq] at h3
    unfold SR
    rw [if_pos hq]
    refine ⟨wl ++ [Q.1], by rw [h1]; simp, by rw [List.length_append, List.length_singleton]; omega, ?_⟩
    rw [p1]
    exact h3
  · rw [if_neg hq] at h3
    unfold SR
    rw [if_neg hq, p1]
    exact h3.symm
theorem OutS.no {s : ByteArray} {w w' : World} {R : Out} {r : List Int} {c : Int} {j : Nat} (h : R = .bad r c) (hj : plc s.size r = j) (hb : Below w.heap.size w w') : OutS s w (.returned (.tuple #[.slice none 0 0, .int .i64 j, .int .i64 c])) w' R := by
  subst h
  subst hj
  exact ⟨rfl, hb⟩
theorem OutS.yes {s : ByteArray} {w w' : World} {R : Out} {wl : List (List Int)} {ws : List ByteArray} {q : Option Addr} {d : Nat} {j : Nat} (h : R = .ok wl) (hw : ws = wl.map strOfNums) (hj : j = s.size) (hs : Strs w' w.heap.size q ws.length d ws) (hb : Below w.heap.size w w') : OutS s w (.returned (.tuple #[.slice q ws.length d, .int .i64 j, .int .i64 0])) w' R := by
  subst h
  subst hj
  have hl : ws.length = wl.length := by rw [hw, List.length_map]
  rw [hl] at hs ⊢
  rw [hw] at hs
  exact ⟨q, d, rfl, hs, hb⟩
theorem strs_low {w : World} {B B' : Nat} {q : Option Addr} {m d : Nat} {ps : List ByteArray} (h : Strs w B q m d ps) (hb : B' ≤ B) : Strs w B' q m d ps := by
  obtain ⟨hl, h0 | ⟨g, cap, cur, e1, e2, e3⟩⟩ := h
  · exact ⟨hl, Or.inl h0⟩
  · exact ⟨hl, Or.inr ⟨g, cap, cur, e1, by omega, e3⟩⟩
theorem SW.start (w : World) : SW w w.heap.size (((w.alloc (.cells #[.slice none 0 0] 22)).alloc (.cells #[.int .i64 0] 3)).alloc (.cells #[.bool true] 4)) [] 0 true := by
  have s1 : (w.alloc (.cells #[.slice none 0 0] 22)).heap.size = w.heap.size + 1 := by simp
  have s2 : ((w.alloc (.cells #[.slice none 0 0] 22)).alloc (.cells #[.int .i64 0] 3)).heap.size = w.heap.size + 1 + 1 := by simp
  have h0 := heap_alloc_new w (.cells #[.slice none 0 0] 22)
  have h1 := heap_alloc_new (w.alloc (.cells #[.slice none 0 0] 22)) (.cells #[.int .i64 0] 3)
  have h2 := heap_alloc_new ((w.alloc (.cells #[.slice none 0 0] 22)).alloc (.cells #[.int .i64 0] 3)) (.cells #[.bool true] 4)
  have b0 : Below w.heap.size w (w.alloc (.cells #[.slice none 0 0] 22)) := (Below.refl _ _).alloc (Nat.le_refl _) _
  have b1 : Below (w.alloc (.cells #[.slice none 0 0] 22)).heap.size _ ((w.alloc (.cells #[.slice none 0 0] 22)).alloc (.cells #[.int .i64 0] 3)) := (Below.refl _ _).alloc (Nat.le_refl _) _
  have b2 : Below ((w.alloc (.cells #[.slice none 0 0] 22)).alloc (.cells #[.int .i64 0] 3)).heap.size _ (((w.alloc (.cells #[.slice none 0 0] 22)).alloc (.cells #[.int .i64 0] 3)).alloc (.cells #[.bool true] 4)) := (Below.refl _ _).alloc (Nat.le_refl _) _
  rw [s1] at h1 b1
  rw [s2] at h2 b2
  exact ⟨⟨none, 0, (b2.block _ (by omega)).trans ((b1.block _ (by omega)).trans h0), World.ownsRow_nil _ _ _ _⟩, (b2.block _ (by omega)).trans h1, h2, (b0.trans (b1.mono (by omega))).trans (b2.mono (by omega))⟩
set_option maxRecDepth 100000 in
set_option maxHeartbeats 8000000 in
theorem split_any (s : ByteArray) (hs : s.size ≤ 256) (w : World) : Calls Tryz.prog 13 #[.string s] w fun e w' => OutS s w e w' (spS [] (nums s)) := by
  have hKd : s.size ≤ maxLen := by unfold maxLen; omega
  have HK := Lib.hid (fun (k : Nat) (W : World) => kind_any s k hKd W)
  obtain ⟨R, HR⟩ : ∃ R, Hid (spS [] (nums s) = R) := ⟨_, Lib.hid rfl⟩
  rw [HR.out]
  have hmf : ∀ (fn : Fn) (first cap : Array Value) (w : World), (Instr.makeFunc fn first cap).run Tryz.prog w = .ok (.func fn first cap) w := fun _ _ _ _ => rfl
  have hnot : ∀ (x : Bool) (w : World), (Op.unary .not (.bool x)).run Tryz.prog w = .ok (.bool (!x)) w := fun _ _ => rfl
  have hd0 : decide ((s.size : Int) > 256) = false := by simp; omega
  clear hKd
  obtain ⟨B, hB⟩ : ∃ B, w.heap.size = B := ⟨_, rfl⟩
  go_enter Tryz.func13, Tryz.ntmps13
  go_wp2_with fail
  refine scope_rounds 0 (fun a' wr => ∃ (ws : List ByteArray) (k : Nat) (ok : Bool) (u1 u9 u10 u11 u12 u13 u14 u15 u16 u17 u18 u19 u20 u21 u22 u23 u24 u25 u26 u27 u28 u29 u30 u31 u32 u33 u34 u35 u36 u37 u38 u39 u40 u41 u42 u43 u44 u45 u46 u47 u48 u49 u50 u51 u52 u53 u54 u55 u56 u57 u58 u59 u60 u61 u62 u63 u64 : Value), a' = { tmps := #[.string s, u1, .slice none 0 0, .int .i64 0, .int .i64 0, .pointer (some ⟨B, 0, none⟩), .pointer (some ⟨B + 1, 0, none⟩), .pointer (some ⟨B + 2, 0, none⟩), .func (.func 25) #[] #[.pointer (some ⟨B, 0, none⟩), .pointer (some ⟨B + 1, 0, none⟩), .pointer (some ⟨B + 2, 0, none⟩)], u9, u10, u11, u12, u13, u14, u15, u16, u17, u18, u19, u20, u21, u22, u23, u24, u25, u26, u27, u28, u29, u30, u31, u32, u33, u34, u35, u36, u37, u38, u39, u40, u41, u42, u43, u44, u45, u46, u47, u48, u49, u50, u51, u52, u53, u54, u55, u56, u57, u58, u59, u60, u61, u62, u63, u64], defers := [] } ∧ k ≤ s.size ∧ Hid (SW w B wr ws k ok) ∧ Hid (ws.length ≤ 17) ∧ Hid (SR (nums s) ws k ok R)) (fun _ wr => 2 * (s.size - (intOf ((wr.cell? ⟨B + 1, 0, none⟩).getD undef)).toNat) + rk ((wr.cell? ⟨B + 2, 0, none⟩).getD undef)) rfl ?_ ?_
  · intro Q' hQ
    go_wp2_with fail
    go_step3
    rename_i K hK
    exact hK _ _ (hQ _ _ ⟨[], 0, true, _, _, _, _, _, _, _, _, _, _, _, _, _, _, _, _, _, _, _, _, _, _, _, _, _, _, _, _, _, _, _, _, _, _, _, _, _, _, _, _, _, _, _, _, _, _, _, _, _, _, _, _, _, _, _, _, _, rfl, Nat.zero_le _, Lib.hid (by rw [← hB]; exact SW.start w), Lib.hid (by decide), Lib.hid ⟨[], rfl, by decide, HR.out⟩⟩)
  · clear HR hd0
    rintro a' wr ⟨ws, k, ok, u1, u9, u10, u11, u12, u13, u14, u15, u16, u17, u18, u19, u20, u21, u22, u23, u24, u25, u26, u27, u28, u29, u30, u31, u32, u33, u34, u35, u36, u37, u38, u39, u40, u41, u42, u43, u44, u45, u46, u47, u48, u49, u50, u51, u52, u53, u54, u55, u56, u57, u58, u59, u60, u61, u62, u63, u64, rfl, hk, HQ, HL, HS⟩
    obtain ⟨⟨q, d, g0⟩, g1, g2, f1⟩ := HQ.out.reads
    have HCA := Lib.hid (And.intro g1 g2)
    have HC := Lib.hid (fun W => HK.out k W)
    have hrg := kAt_range (nums s) k
    obtain ⟨c, hc⟩ : ∃ c, kAt (nums s) k = c := ⟨_, rfl⟩
    rw [hc] at HC hrg
    have HLow := Lib.hid (show Below w.heap.size w wr from by rw [hB]; exact HQ.out.low)
    have hdone : ∃ b0, b0 = (c == 0) := ⟨_, rfl⟩
    clear hdone
    cases ok with
    | false =>
      have hc := 0
      have HB := Lib.hid (show R = .bad ((nums s).drop k) 150 from HS.out)
      clear HQ HS hc
      go_wp2_with (go_at_call 17; refine (HC.out _).mono ?_; rintro e w' ⟨rfl, rfl⟩)
      go_quiet (fail)
      go_wp2_with fail
      simp only [Exit.jump]
      go_ret3
      exact OutS.no HB.out (plc_drop rfl (nums_length s) hk) (low_drewN HLow.out _)
    | true =>
    have hfew := HS.out.few
    have hcc : c = 1 ∨ c = 0 ∨ c = 2 ∨ c = 3 ∨ c = 4 ∨ c = 5 ∨ c = 6 := by omega
    clear hrg
    rcases hcc with rfl | rfl | rfl | rfl | hcw
    · skip
      have HB := Lib.hid (HS.out.odd hc)
      clear HQ HS hc
      go_wp2_with (go_at_call 17; refine (HC.out _).mono ?_; rintro e w' ⟨rfl, rfl⟩)
      go_quiet (fail)
      go_wp2_with fail
      simp only [Exit.jump]
      go_ret3
      exact OutS.no HB.out (plc_drop rfl (nums_length s) hk) (low_drewN HLow.out _)
    · obtain ⟨hkn, wl, hw, hR⟩ := HS.out.done hc (by rw [nums_length]; exact hk)
      rw [nums_length] at hkn
      obtain ⟨q1, d1, i1, i2⟩ := HQ.out.wrd
      have g0' := cell0 i1
      rw [g0] at g0'
      injection g0' with g0'
      injection g0' with e1 _ e2
      subst e1
      subst e2
      have HB := Lib.hid (And.intro hR (And.intro hw (And.intro hkn (strs_low i2 (show w.heap.size ≤ B + 3 by omega)))))
      clear HQ HS hc i1 i2 hR hw hkn
      go_wp2_with (go_at_call 17; refine (HC.out _).mono ?_; rintro e w' ⟨rfl, rfl⟩)
      go_quiet (fail)
      go_wp2_with fail
      simp only [Exit.jump]
      go_ret3
      exact OutS.yes HB.out.1 HB.out.2.1 HB.out.2.2.1 (own_on HB.out.2.2.2 (below_drewN _ _)) (low_drewN HLow.out _)
    · obtain ⟨hF, hlt⟩ := HS.out.gap hc
      rw [nums_length] at hlt
      have hw1 : IntKind.i64.wrap ((k : Int) + 1) = (k : Int) + 1 := IntWalk.i64_in _ (by omega)
      have HN : Hid (SW w B (wr.setCell ⟨B + 1, 0, none⟩ (.int .i64 ((k : Int) + 1))) ws (k + 1) true) := Lib.hid (HQ.out.move (k + 1))
      have HF := Lib.hid hF
      have HLE := Lib.hid (show k + 1 ≤ s.size from hlt)
      have HLT := Lib.hid (show k < k + 1 from Nat.lt_succ_self k)
      have HT := HL
      clear HQ HS hc hF HLow
      go_wp2_with (go_at_call 17; refine (HC.out _).mono ?_; rintro e w' ⟨rfl, rfl⟩)
      go_step3
      obtain ⟨_, cQ, cR, _⟩ := HN.out.reads
      refine ⟨rfl, ⟨_, _, _, _, _, _, _, _, _, _, _, _, _, _, _, _, _, _, _, _, _, _, _, _, _, _, _, _, _, _, _, _, _, _, _, _, _, _, _, _, _, _, _, _, _, _, _, _, _, _, _, _, _, _, _, _, _, _, _, _, rfl, HLE.out, HN, HT, HF⟩, ?_⟩
      rw [cQ, cR, HCA.out.1, HCA.out.2]
      have hlt := HLT.out
      have hle := HLE.out
      simp only [Option.getD_some, intOf, Int.toNat_natCast, rk]
      omega
    · obtain ⟨hF, hlt, hle⟩ := HS.out.hash hc (nums_length s)
      have HRm := Lib.hid (fun W => rem_any s k (by omega) hk W)
      have HN : Hid (SW w B (wr.setCell ⟨B + 1, 0, none⟩ (.int .i64 (plc s.size (remL ((nums s).drop k)) : Nat))) ws (plc s.size (remL ((nums s).drop k))) true) := Lib.hid (HQ.out.move _)
      generalize plc s.size (remL ((nums s).drop k)) = j at *
      have HF := Lib.hid hF
      have HLE := Lib.hid hle
      have HLT := Lib.hid hlt
      have HT := HL
      clear HQ HS hc hF HLow hlt hle
      go_wp2_with (first | (go_at_call 17; refine (HC.out _).mono ?_; rintro e w' ⟨rfl, rfl⟩) | (go_at_call 26; refine (HRm.out _).mono ?_; rintro e w' ⟨rfl, rfl⟩))
      go_step3
      obtain ⟨_, cQ, cR, _⟩ := HN.out.reads
      refine ⟨rfl, ⟨_, _, _, _, _, _, _, _, _, _, _, _, _, _, _, _, _, _, _, _, _, _, _, _, _, _, _, _, _, _, _, _, _, _, _, _, _, _, _, _, _, _, _, _, _, _, _, _, _, _, _, _, _, _, _, _, _, _, _, _, rfl, HLE.out, HN, HT, HF⟩, ?_⟩
      rw [cQ, cR, HCA.out.1, HCA.out.2]
      have hlt := HLT.out
      have hle := HLE.out
      simp only [Option.getD_some, intOf, Int.toNat_natCast, rk]
      omega
    · have q1 : (c == 1) = false := by simp; omega
      have q0 : (c == 0) = false := by simp; omega
      have q2 : (c == 2) = false := by simp; omega
      have q3 : (c == 3) = false := by simp; omega
      by_cases h16 : ws.length = 16
      · have q16 : ((ws.length : Int) == 16) = true := by simp; omega
        have HB := Lib.hid (HS.out.many (by rw [hc]; exact hcw) h16)
        clear HQ HS hc h16 hfew
        go_wp2_with (go_at_call 17; refine (HC.out _).mono ?_; rintro e w' ⟨rfl, rfl⟩)
        go_quiet (fail)
        go_wp2_with fail
        simp only [Exit.jump]
        go_ret3
        exact OutS.no HB.out (plc_drop rfl (nums_length s) hk) (low_drewN HLow.out _)
      · have q16 : ((ws.length : Int) == 16) = false := by simp; omega
        by_cases h4 : c = 4
        · subst h4
          have hlt : k < s.size := by
            obtain ⟨_, _, _, _, e4⟩ := quo_at hc (by omega)
            rw [nums_length] at e4
            exact e4
          have HQd := Lib.hid (quoted_any s k (by omega) hlt wr)
          have HQR := Lib.hid (fun W hW => HS.out.quote hc h16 (nums_length s) (W := W) hW)
          have HT := Lib.hid (fun W : ByteArray => show (ws ++ [W]).length ≤ 17 by rw [List.length_append, List.length_singleton]; omega)
          have HA := Lib.hid (fun W2 (hW : Below wr.heap.size wr W2) W j ok' => add_any (HQ.out.on hW) (by omega) W j ok')
          generalize quoL ((nums s).drop (k + 1)) = Q at *
          clear HQ HS hc h16 hfew HLow HL
          go_wp2_with (go_at_call 17; refine (HC.out _).mono ?_; rintro e w' ⟨rfl, rfl⟩)
          refine HQd.out.mono ?_
          rintro e w2 ⟨W, rfl, hW, hb2⟩
          have HN0 := Lib.hid (HQR.out W hW)
          have HA2 := Lib.hid (HA.out w2 hb2 W (plc s.size Q.2.2) (Q.1 && endsL Q.2.2))
          have HT2 := Lib.hid (HT.out W)
          clear hW hb2 HQd HQR HA HT
          generalize plc s.size Q.2.2 = j at *
          generalize (Q.1 && endsL Q.2.2) = okv at *
          go_wp2_with fail
          refine HA2.out.mono ?_
          rintro e w3 ⟨rfl, hN⟩
          have HN := Lib.hid hN
          have HF := Lib.hid HN0.out.1
          have HLE := Lib.hid HN0.out.2.2
          have HLT := Lib.hid HN0.out.2.1
          have HT := HT2
          clear hN HA2 HN0
          go_wp2_with fail
          go_step3
          obtain ⟨_, cQ, cR, _⟩ := HN.out.reads
          refine ⟨rfl, ⟨_, _, _, _, _, _, _, _, _, _, _, _, _, _, _, _, _, _, _, _, _, _, _, _, _, _, _, _, _, _, _, _, _, _, _, _, _, _, _, _, _, _, _, _, _, _, _, _, _, _, _, _, _, _, _, _, _, _, _, _, rfl, HLE.out, HN, HT, HF⟩, ?_⟩
          rw [cQ, cR, HCA.out.1, HCA.out.2]
          have hlt := HLT.out
          have hle := HLE.out
          simp only [Option.getD_some, intOf, Int.toNat_natCast]
          cases okv <;> simp only [rk] <;> omega
        · have q4 : (c == 4) = false := by simp; omega
          have HBr := Lib.hid (fun W => bare_any s k (by omega) hk W)
          have HN0 := Lib.hid (HS.out.bare (by rw [hc]; omega) h16 (nums_length s))
          have HT := Lib.hid (fun W : ByteArray => show (ws ++ [W]).length ≤ 17 by rw [List.length_append, List.length_singleton]; omega)
          have HA := Lib.hid (fun W2 (hW : Below wr.heap.size wr W2) W j ok' => add_any (HQ.out.on hW) (by omega) W j ok')
          generalize bareL ((nums s).drop k) = Q at *
          clear HQ HS hc h16 hfew HLow HL hcw h4
          generalize plc s.size Q.2 = j at *
          generalize endsL Q.2 = okv at *
          generalize strOfNums Q.1 = W at *
          go_wp2_with (go_at_call 17; refine (HC.out _).mono ?_; rintro e w' ⟨rfl, rfl⟩)
          refine (HBr.out _).mono ?_
          rintro e w2 ⟨rfl, n2, rfl⟩
          have HA2 := Lib.hid (HA.out _ (below_drewN wr n2) W j okv)
          have HT2 := Lib.hid (HT.out W)
          clear HBr HA HT
          go_wp2_with fail
          refine HA2.out.mono ?_
          rintro e w3 ⟨rfl, hN⟩
          have HN := Lib.hid hN
          have HF := Lib.hid HN0.out.1
          have HLE := Lib.hid HN0.out.2.2.1
          have HLT := Lib.hid (And.intro HN0.out.2.1 HN0.out.2.2.2)
          have HT := HT2
          clear hN HA2 HN0
          go_wp2_with fail
          go_step3
          obtain ⟨_, cQ, cR, _⟩ := HN.out.reads
          refine ⟨rfl, ⟨_, _, _, _, _, _, _, _, _, _, _, _, _, _, _, _, _, _, _, _, _, _, _, _, _, _, _, _, _, _, _, _, _, _, _, _, _, _, _, _, _, _, _, _, _, _, _, _, _, _, _, _, _, _, _, _, _, _, _, _, rfl, HLE.out, HN, HT, HF⟩, ?_⟩
          rw [cQ, cR, HCA.out.1, HCA.out.2]
          have hlt := HLT.out
          have hle := HLE.out
          simp only [Option.getD_some, intOf, Int.toNat_natCast]
          cases okv
          · simp only [rk]
            omega
          · have := hlt.2 rfl
            simp only [rk]
            omega
end Go.Proofs.YtngnkkigjlenoaaGreatDoor
