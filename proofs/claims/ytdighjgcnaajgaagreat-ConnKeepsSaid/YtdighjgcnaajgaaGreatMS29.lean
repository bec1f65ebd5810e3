import Derived.Test.YtdighjgcnaajgaaGreatMS27
import Derived.Test.YtdighjgcnaajgaaGreatMS28
namespace Go.Proofs.YtdighjgcnaajgaaGreat
open Go.RowKit
abbrev Own:=Nat→Prop
def blkU (g c:Nat) (u:gc.U):Own:=λ i=>i=g∨i=c∨u.1=some i∨u.2=some i
def Rep (w:World) (U:Own) (g:Nat) (s:St) (M:Nat):Prop:=∃base c u s',Raw w base g c u s' M∧Ok s' M∧Sim s' s∧U=blkU g c u
theorem rep_lt {w:World} {U:Own} {g:Nat} {s:St} {M:Nat} (h:Rep w U g s M):U g∧∀i,U i→i<w.heap.size:=by
 obtain⟨base,c,u,s',hr,_,_,rfl⟩:=h
 refine⟨Or.inl rfl,λ i hi=>?_⟩
 have hu:=hr.car.u_base
 rcases hi with rfl|rfl|h|h
 ·exact hr.lt
 ·obtain⟨ms,G,h1,_⟩:=hr.car
  exact h1.lt.2
 ·exact(hu.1 i h).2
 ·exact(hu.2 i h).2
theorem rep_on {w w':World} {U:Own} {g:Nat} {s:St} {M:Nat} (h:Rep w U g s M) (_hs:w.heap.size≤w'.heap.size) (hb:∀i,U i→w'.heap[i]?=w.heap[i]?):Rep w' U g s M:=by
 obtain⟨base,c,u,s',hr,ho,hs,rfl⟩:=h
 obtain⟨ms,G,h1,h2⟩:=hr.car
 exact⟨base,c,u,s',⟨(hb g (Or.inl rfl)).trans hr.blk,⟨ms,G,h1.keep (hb c (Or.inr (Or.inl rfl))) (λ i e=>hb i (Or.inr (Or.inr (Or.inl e)))) (λ i e=>hb i (Or.inr (Or.inr (Or.inr e)))),h2⟩,hr.base⟩,ho,hs,rfl⟩
theorem rep_mono {w:World} {U:Own} {g:Nat} {s:St} {M M':Nat} (h:Rep w U g s M) (hM:M≤M') (hf:M'≤1000000):Rep w U g s M':=by
 obtain⟨base,c,u,s',hr,ho,hs,e⟩:=h
 exact⟨base,c,u,s',hr.more hM hf,ho.more hM hf,hs,e⟩
def Kp (w:World) (U:Own) (w':World):Prop:=Below 0 w w'∧∀i,i<w.heap.size→¬U i→w'.heap[i]?=w.heap[i]?
def Stp (w:World) (U:Own) (g:Nat) (s:St) (M:Nat) (w':World):Prop:=∃U',Rep w' U' g s M∧Kp w U w'∧∀i,U' i→U i∨w.heap.size≤i
def Far (q:Option Addr) (K:Nat) (U:Own) (w:World):Prop:=0<K→∀a,q=some a→¬U a.block∧a.block<w.heap.size
def StpQ (w:World) (U:Own) (g:Nat) (s:St) (M:Nat) (q:Option Addr) (K:Nat) (w':World):Prop:=∃U',Rep w' U' g s M∧Kp w U w'∧(∀i,U' i→U i∨w.heap.size≤i)∧Far q K U' w'∧∀a,q=some a→w.heap.size≤a.block
def GotQ (w:World) (U:Own) (g:Nat) (s:St) (M:Nat) (T:ByteArray) (K:Nat) (e:Ending) (w':World):Prop:=∃q d,e=.returned (.slice q K d)∧Lib.BytesIn w' q K (gc.nums T)∧T.size=K∧K≤d∧d≤9223372036854775807∧StpQ w U g s M q K w'
theorem StpQ.stp {w:World} {U:Own} {g:Nat} {s:St} {M:Nat} {q:Option Addr} {K:Nat} {w':World} (h:StpQ w U g s M q K w'):Stp w U g s M w':=by
 obtain⟨U',h1,h2,h3,_⟩:=h
 exact⟨U',h1,h2,h3⟩
theorem Stp.size {w:World} {U:Own} {g:Nat} {s:St} {M:Nat} {w':World} (h:Stp w U g s M w'):w.heap.size≤w'.heap.size:=by
 obtain⟨U',_,⟨hb,_⟩,_⟩:=h
 exact hb.size
def Hd (w0 w:World) (U:Own) (g:Nat) (s:St) (M:Nat):Prop:=Rep w U g s M∧(∀i,U i→w0.heap.size≤i)∧Below w0.heap.size w0 w
section
variable {w0 w w':World} {U:Own} {g:Nat} {s s':St} {M M':Nat}
theorem Hd.on (h:Hd w0 w U g s M) (hb:Below w.heap.size w w'):Hd w0 w' U g s M:=
 ⟨rep_on h.1 hb.size (λ i hi=>hb.block i ((rep_lt h.1).2 i hi)),h.2.1,h.2.2.trans (hb.mono h.2.2.size)⟩
theorem Hd.new (h:Hd w0 w U g s M) {i:Nat} (hi:w.heap.size≤i):¬U i:=λ hu=>by
 have:=(rep_lt h.1).2 i hu
 omega
def Rest (w:World) (U:Own) (w':World) (U':Own):Prop:=∀i,i<w.heap.size→¬U i→w'.heap[i]?=w.heap[i]?∧¬U' i
theorem Hd.step (h:Hd w0 w U g s M) (hs:Stp w U g s' M' w'):∃U',Hd w0 w' U' g s' M'∧Rest w U w' U':=by
 obtain⟨U',hr,⟨hb,hk⟩,hn⟩:=hs
 refine⟨U',⟨hr,λ i hi=>?_,?_⟩,λ i hi hu=>⟨hk i hi hu,λ hu'=>?_⟩⟩
 ·rcases hn i hi with h1|h1
  ·exact h.2.1 i h1
  ·exact Nat.le_trans h.2.2.size h1
 ·exact⟨hb.os.trans h.2.2.os,hb.tape.trans h.2.2.tape,hb.output.trans h.2.2.output,Nat.le_trans h.2.2.size hb.size,λ i hi=>by
   rw[hk i (Nat.lt_of_lt_of_le hi h.2.2.size) (λ hu=>Nat.not_lt.2 (h.2.1 i hu) hi)]
   exact h.2.2.block i hi⟩
 ·rcases hn i hu' with h1|h1
  ·exact hu h1
  ·omega
theorem Hd.stepq (h:Hd w0 w U g s M) {q:Option Addr} {K:Nat} (hs:StpQ w U g s' M' q K w'):∃U',Hd w0 w' U' g s' M'∧Rest w U w' U'∧Far q K U' w':=by
 obtain⟨U',hr,⟨hb,hk⟩,hn,hq,_⟩:=hs
 refine⟨U',⟨hr,λ i hi=>?_,?_⟩,λ i hi hu=>⟨hk i hi hu,λ hu'=>?_⟩,hq⟩
 ·rcases hn i hi with h1|h1
  ·exact h.2.1 i h1
  ·exact Nat.le_trans h.2.2.size h1
 ·exact⟨hb.os.trans h.2.2.os,hb.tape.trans h.2.2.tape,hb.output.trans h.2.2.output,Nat.le_trans h.2.2.size hb.size,λ i hi=>by
   rw[hk i (Nat.lt_of_lt_of_le hi h.2.2.size) (λ hu=>Nat.not_lt.2 (h.2.1 i hu) hi)]
   exact h.2.2.block i hi⟩
 ·rcases hn i hu' with h1|h1
  ·exact hu h1
  ·omega
theorem Hd.mono (h:Hd w0 w U g s M) (hM:M≤M') (hf:M'≤1000000):Hd w0 w U g s M':=⟨rep_mono h.1 hM hf,h.2⟩
theorem bytes_rest {q:Option Addr} {n:Nat} {xs:List Int} {U':Own} (hi:Lib.BytesIn w q n xs) (hq:Far q n U w) (hr:Rest w U w' U') (hz:w.heap.size≤w'.heap.size):Lib.BytesIn w' q n xs∧Far q n U' w':=by
 refine⟨λ hn=>?_,λ hn a ha=>?_⟩
 ·obtain⟨b,o,rfl,hc⟩:=hi hn
  have h1:=hq hn _ rfl
  have h2:=(hr b h1.2 h1.1).1
  refine⟨b,o,rfl,λ i hi=>?_⟩
  rw[←hc i hi]
  simp only[World.cell?]
  rw[h2]
 ·have h1:=hq hn a ha
  exact⟨(hr a.block h1.2 h1.1).2,Nat.lt_of_lt_of_le h1.2 hz⟩
theorem far_on {q:Option Addr} {K:Nat} (hq:Far q K U w) (hb:w.heap.size≤w'.heap.size):Far q K U w':=λ hK a ha=>⟨(hq hK a ha).1,Nat.lt_of_lt_of_le (hq hK a ha).2 hb⟩
theorem Hd.set (h:Hd w0 w U g s M) {c k:Nat} (hc:¬U c) (h0:w0.heap.size≤c) (v:Value):Hd w0 (w.setCell ⟨c,k,none⟩ v) U g s M:=
 ⟨rep_on h.1 (by simp[World.setCell]) (λ i hi=>Below.heap_setCell _ _ _ _ (λ e=>hc (by have e':i=c:=e;rw[←e'];exact hi))),h.2.1,h.2.2.setCell (p:=⟨c,k,none⟩) h0 v⟩
end
section
variable {w w':World} {base g c:Nat} {u u':gc.U} {s s':St} {M M':Nat}
theorem kp_of (h:Mv w w' g c u u'):Kp w (blkU g c u) w':=⟨⟨h.os,h.tape,h.output,Nat.le_trans (Nat.zero_le _) h.size|>λ _=>h.size,λ i hi=>absurd hi (Nat.not_lt_zero i)⟩,λ i hi hu=>h.block i hi (λ e=>hu (Or.inl e)) (λ e=>hu (Or.inr (Or.inl e))) (λ e=>hu (Or.inr (Or.inr (Or.inl e)))) (λ e=>hu (Or.inr (Or.inr (Or.inr e))))⟩
theorem new_of (h:Mv w w' g c u u'):∀i,blkU g c u' i→blkU g c u i∨w.heap.size≤i:=λ i hi=>by
 rcases hi with e|e|e|e
 ·exact Or.inl (Or.inl e)
 ·exact Or.inl (Or.inr (Or.inl e))
 ·rcases h.newer.1 i e with h1|h1
  ·exact Or.inl (Or.inr (Or.inr (Or.inl h1)))
  ·exact Or.inr h1
 ·rcases h.newer.2 i e with h1|h1
  ·exact Or.inl (Or.inr (Or.inr (Or.inr h1)))
  ·exact Or.inr h1
theorem stp_of {s2:St} (h:Did w base g c u s2 M' w') (ho:Ok s2 M') (hs:Sim s2 s):Stp w (blkU g c u) g s M' w':=by
 obtain⟨u',h1,h2⟩:=h
 exact⟨blkU g c u',⟨base,c,u',s2,h1,ho,hs,rfl⟩,kp_of h2,new_of h2⟩
theorem got_of {s2:St} {T:ByteArray} {K:Nat} {e:Ending} (h:Tk w base g c u s2 M' T K e w') (ho:Ok s2 M') (hs:Sim s2 s):GotQ w (blkU g c u) g s M' T K e w':=by
 obtain⟨q,d,h1,h2,h3,h4,h5,u',h6,h7,h8⟩:=h
 refine⟨q,d,h1,h2,h3,h4,h5,blkU g c u',⟨base,c,u',s2,h6,ho,hs,rfl⟩,kp_of h7,new_of h7,λ hK a ha=>?_,h8.2⟩
 obtain⟨b,o,hq,hc⟩:=h2 hK
 have h0:=hc 0 hK
 have hg:=h6.not_u8 h0
 have ho':=h8.1 a ha
 rw[hq]at ha
 injection ha with ha
 subst ha
 refine⟨λ hu=>?_,?_⟩
 ·rcases hu with e|e|e|e
  ·exact hg e
  ·exact ho'.1 e
  ·exact ho'.2.1 e
  ·exact ho'.2.2 e
 ·rcases Nat.lt_or_ge b w'.heap.size with hl|hl
  ·exact hl
  ·simp[World.cell?,Array.getElem?_eq_none hl]at h0
end
theorem ok_new {t:Tox} {seed room now:Int} (ht:t.s.size≤maxLen) (hx:t=noTox∨t.chk=0) (h1:1≤room) (h2:room≤4096):Ok (newS t seed room now) 0:=by
 refine⟨hx,ht,near_rg now,⟨Int.le_refl _,Int.le_refl _⟩,⟨h1,h2⟩,λ hk=>?_,by decide⟩
 have hk:t.k=2:=hk
 rcases hx with e|e
 ·rw[e]at hk
  exact absurd hk (by decide)
 ·have hb:=bw_right e hk now
  rw[tick_zero]at hb
  unfold newS
  dsimp only
  rw[if_pos hk]
  exact hb
theorem new_yes {t:Tox} {seed room now:Int} {w w':World} {e:Ending} (ho:Ok (newS t seed room now) 0) (h:NewYes (newS t seed room now) w e w'):
  ∃g U,e=.returned (.tuple #[ptr g,.int .i64 0])∧Rep w' U g (newS t seed room now) 0∧(∀i,U i→w.heap.size≤i)∧Below w.heap.size w w':=by
 obtain⟨g,c,u,he,hr,hb⟩:=h
 refine⟨g,blkU g c u,he,⟨w.heap.size,c,u,_,hr,ho,sim_refl _,rfl⟩,λ i hi=>?_,hb⟩
 have hu:=hr.car.u_base
 rcases hi with rfl|rfl|h|h
 ·exact hr.base
 ·obtain⟨ms,G,h1,_⟩:=hr.car
  exact h1.lt.1
 ·exact(hu.1 i h).1
 ·exact(hu.2 i h).1
theorem newE_ok {t:Tox} {room:Int} (h:newE t room=0):(t=noTox∨t.chk=0)∧1≤room∧room≤4096:=by
 unfold newE at h
 by_cases h1:t≠noTox∧t.chk≠0
 ·rw[if_pos h1]at h
  exact absurd h h1.2
 ·rw[if_neg h1]at h
  refine⟨?_,?_⟩
  ·by_cases e:t=noTox
   ·exact Or.inl e
   ·by_cases e2:t.chk=0
    ·exact Or.inr e2
    ·exact absurd ⟨e,e2⟩ h1
  ·split at h<;>omega
theorem new_ok {t:Tox} {seed room now:Int} (ht:t.s.size≤maxLen) (h:newE t room=0) (w:World):Calls Tryz.prog 136 #[t.v,.int .u64 seed,.int .i64 room,.int .i64 now] w λ e w'=>
  ∃g U,e=.returned (.tuple #[ptr g,.int .i64 0])∧Rep w' U g (newS t seed room now) 0∧(∀i,U i→w.heap.size≤i)∧Below w.heap.size w w':=by
 obtain⟨hx,h1,h2⟩:=newE_ok h
 have ho:=ok_new (seed:=seed) (now:=now) ht hx h1 h2
 by_cases h0:t=noTox
 ·exact(new_ok_f t seed room now h0 h1 h2 w).mono λ _ _ hh=>new_yes ho hh
 ·have hc:t.chk=0:=hx.resolve_left h0
  by_cases hk:t.k=2
  ·exact(new_bw t ht seed room now hc h0 h1 h2 hk w).mono λ _ _ hh=>new_yes ho hh
  ·exact(new_ok_t t ht seed room now hc h0 h1 h2 hk w).mono λ _ _ hh=>new_yes ho hh
theorem new_no {t:Tox} {seed room now:Int} (ht:t.s.size≤maxLen) (h:newE t room≠0) (w:World):Calls Tryz.prog 136 #[t.v,.int .u64 seed,.int .i64 room,.int .i64 now] w λ e w'=>
  e=.returned (.tuple #[.pointer none,.int .i64 (newE t room)])∧Below w.heap.size w w':=by
 unfold newE at h⊢
 by_cases h1:t≠noTox∧t.chk≠0
 ·rw[if_pos h1]
  exact new_chk t ht seed room now rfl h1.2 h1.1 w
 ·rw[if_neg h1]at h⊢
  have hr:room<1∨4096<room:=by
   rcases Decidable.em (room<1∨4096<room)with h2|h2
   ·exact h2
   ·rw[if_neg h2]at h
    exact absurd rfl h
  rw[if_pos hr]
  by_cases h0:t=noTox
  ·exact new_room_f t seed room now h0 hr w
  ·have hc:t.chk=0:=by
    rcases Decidable.em (t.chk=0)with e|e
    ·exact e
    ·exact absurd ⟨h0,e⟩ h1
   exact new_room_t t ht seed room now hc h0 hr w
section
variable {w:World} {U:Own} {g:Nat} {s:St} {M M':Nat}
theorem put_i (h:Rep w U g s M) (now:Int) {p:Option Addr} {n c:Nat} {b:ByteArray} (hb:b.size=n) (hi:Lib.BytesIn w p n (gc.nums b)) (hM:M+b.size≤M') (hf:M'≤1000000) (hnc:n≤c:=by omega):
  Calls Tryz.prog 130 #[ptr g,.int .i64 now,.slice p n c] w λ e w'=>e=.returned (.int .i64 (bringS s now b).2)∧Stp w U g (bringS s now b).1 M' w':=by
 obtain⟨base,c',u,s',hr,ho,hs,rfl⟩:=h
 have hsb:=hs.bring now b
 rw[←hsb.2]
 refine(put_any hr ho now hb hi hnc hM hf).mono ?_
 rintro e w' ⟨rfl,hd⟩
 exact⟨rfl,stp_of hd (ho.bring now hM hf) hsb.1⟩
theorem force_i (h:Rep w U g s M) (now:Int) {p:Option Addr} {n c:Nat} {b:ByteArray} (hb:b.size=n) (hi:Lib.BytesIn w p n (gc.nums b)) (hM:M+b.size≤M') (hf:M'≤1000000):
  Calls Tryz.prog 125 #[ptr g,.int .i64 now,.slice p n c] w λ e w'=>e=.returned (.tuple #[])∧Stp w U g (pushS s now b) M' w':=by
 obtain⟨base,c',u,s',hr,ho,hs,rfl⟩:=h
 refine(force_any hr ho now hb hi hM hf).mono ?_
 rintro e w' ⟨rfl,hd⟩
 exact⟨rfl,stp_of hd (ho.push now hM hf) (hs.push now b)⟩
theorem take_i (h:Rep w U g s M) (now most:Int) {T:ByteArray} (hT:(takeS s now most).2=T):
  Calls Tryz.prog 135 #[ptr g,.int .i64 now,.int .i64 most] w (GotQ w U g (takeS s now most).1 M T T.size):=by
 obtain⟨base,c',u,s',hr,ho,hs,rfl⟩:=h
 have hst:=hs.take ho now most
 rw[hT]at hst
 exact(take_any hr ho now most (s2:=(takeC s' now most).1) (T:=T) (by rw[←hst.2])).mono λ _ _ hh=>got_of hh (ho.take hr.car.inv now most) hst.1
theorem close_i (h:Rep w U g s M) (now:Int):Calls Tryz.prog 162 #[ptr g,.int .i64 now] w λ e w'=>e=.returned (.tuple #[])∧Stp w U g (closeS s now) M w':=by
 obtain⟨base,c',u,s',hr,ho,hs,rfl⟩:=h
 refine(close_any hr now).mono ?_
 rintro e w' ⟨rfl,hd⟩
 exact⟨rfl,stp_of hd.did (ho.close now) (hs.close now)⟩
theorem state_i (h:Rep w U g s M) (now:Int):Calls Tryz.prog 123 #[ptr g,.int .i64 now] w λ e w'=>e=.returned (.int .i64 (lookS s now).st)∧Stp w U g (lookS s now) M w':=by
 obtain⟨base,c',u,s',hr,ho,hs,rfl⟩:=h
 rw[←(hs.look now).st]
 refine(state_any hr now).mono ?_
 rintro e w' ⟨rfl,hd⟩
 exact⟨rfl,stp_of hd.did (ho.look now) (hs.look now)⟩
theorem Ok.upd (h:Ok s M) (t:Tox) (ht:t.s.size≤maxLen) (now:Int):Ok (updS s t now).1 M:=by
 unfold updS
 split
 ·exact h
 ·split
  ·exact h
  ·split
   ·exact h
   ·rename_i h1 h2 h3
    have hc:t.chk=0:=by
     rcases Decidable.em (t.chk=0)with e|e
     ·exact e
     ·exact absurd e h3
    have hck:=tick_rg (now:=now) h.clock
    refine⟨Or.inr hc,ht,hck,h.passed,h.room,λ hk=>?_,h.top⟩
    have hk:t.k=2:=hk
    dsimp only
    rw[if_pos hk]
    have hs2:s.tx.k=2:=by omega
    have hf:=gb.fill_right (h.bk hs2) (lookS s now).clock
    have hfr:=(gb.rightB_iff _ _ _ _).1 hf
    have hr:=(gb.rightB_iff _ _ _ _).1 (bw_right hc hk now)
    unfold chgB
    dsimp only
    refine(gb.rightB_iff _ _ _ _).2 ⟨hr.1,hr.2.1,?_,hfr.2.2.2.1,hr.2.2.2.2.1,?_⟩
    ·show 0≤(if _ then _ else _:Int)∧(if _ then _ else _:Int)≤_
     split
     ·exact hr.2.1
     ·exact hfr.2.2.1
    ·show(if _ then _ else _:Int)≤_
     split
     ·exact Int.le_refl _
     ·omega
theorem upd_any {w:World} {base g c:Nat} {u:gc.U} (h:Raw w base g c u s M) (ho:Ok s M) (t:Tox) (ht:t.s.size≤maxLen) (now:Int):Calls Tryz.prog 148 #[ptr g,t.v,.int .i64 now] w λ e w'=>e=.returned (.int .i64 (updS s t now).2)∧Set w base g c u (updS s t now).1 M w':=by
 unfold updS
 by_cases h1:t.k=s.tx.k
 ·rw[if_neg (by omega)]
  by_cases h2:t.k=0
  ·rw[if_pos h2]
   exact upd_0 h t now h1 h2
  ·rw[if_neg h2]
   by_cases h3:t.chk=0
   ·rw[if_neg (by omega)]
    dsimp only
    by_cases h4:t.k=2
    ·rw[if_pos h4]
     exact upd_bw h t ht now h1 h2 h3 h4 (ho.bk (by omega)) ho.clock
    ·rw[if_neg h4]
     exact upd_ok h t ht now h1 h2 h3 h4
   ·rw[if_pos h3]
    exact upd_e h t ht now h1 h2 rfl h3
 ·rw[if_pos h1]
  exact upd_91 h t now h1
theorem update_i (h:Rep w U g s M) (t:Tox) (ht:t.s.size≤maxLen) (now:Int):Calls Tryz.prog 148 #[ptr g,t.v,.int .i64 now] w λ e w'=>e=.returned (.int .i64 (updS s t now).2)∧Stp w U g (updS s t now).1 M w':=by
 obtain⟨base,c',u,s',hr,ho,hs,rfl⟩:=h
 have hsu:=hs.upd t now
 rw[←hsu.2]
 refine(upd_any hr ho t ht now).mono ?_
 rintro e w' ⟨rfl,hd⟩
 exact⟨rfl,stp_of hd.did (ho.upd t ht now) hsu.1⟩
theorem drain_i (h:Rep w U g s M):∃v,w.cell? ⟨g,0,none⟩=some v∧Calls Tryz.prog 126 #[v] w (GotQ w U g (drainS s).1 M s.S s.S.size):=by
 obtain⟨base,c',u,s',hr,ho,hs,rfl⟩:=h
 refine⟨ptr c',hr.cell 0,?_⟩
 rw[←hs.S]
 have hd:Ok (drainS s').1 M:=⟨ho.tx,ho.name,ho.clock,⟨ho.passed.1,by have:=ho.passed.2;show s'.passed+((0:Nat):Int)≤M;omega⟩,ho.room,ho.bk,ho.top⟩
 exact(cdrain hr).mono λ _ _ hh=>got_of hh hd hs.drain
theorem held_i (h:Rep w U g s M):Calls Tryz.prog 114 #[ptr g] w λ e w'=>e=.returned (.int .i64 (s.S.size:Int))∧w=w':=by
 obtain⟨base,c',u,s',hr,ho,hs,rfl⟩:=h
 rw[←hs.S]
 exact held_any hr
end
end Go.Proofs.YtdighjgcnaajgaaGreat
