import Derived.Test.YtdighjgcnaajgaaGreatMS33
import Derived.Deep.RegionLaw
import Derived.Deep.RegionHeldLaw
namespace Go.Proofs.YtdighjgcnaajgaaGreat
open Go.RowKit
structure PAt (w:World) (pp gg:Nat) (U:Own) (s:St) (b:Bool) (m:Nat):Prop where
 prt:w.heap[pp]?=some (.cells (prtC gg b) 183 (0,0))
 stg:Rep w U gg s m
def oneU (pp:Nat) (U:Own):Own:=λ i=>i=pp∨U i
section
variable {w w':World} {pp gg m:Nat} {U:Own} {s:St} {b:Bool}
theorem PAt.not_p (h:PAt w pp gg U s b m):¬U pp:=rep_not h.stg h.prt (by decide) (by decide) (by decide) (by decide)
theorem PAt.keep (h:PAt w pp gg U s b m) (hk:∀i,oneU pp U i→w'.heap[i]?=w.heap[i]?):PAt w' pp gg U s b m:=
 ⟨(hk pp (Or.inl rfl)).trans h.prt,rep_on2 h.stg λ i hi=>hk i (Or.inr hi)⟩
theorem PAt.lt (h:PAt w pp gg U s b m) {i:Nat} (hi:oneU pp U i):i<w.heap.size:=by
 rcases hi with rfl|hi
 ·exact gb.blk_lt h.prt
 ·exact(rep_lt h.stg).2 i hi
theorem PAt.on (h:PAt w pp gg U s b m) (hb:Below w.heap.size w w'):PAt w' pp gg U s b m:=h.keep λ i hi=>hb.block i (h.lt hi)
def Shut (w:World) (pp gg:Nat) (U:Own) (s:St) (m:Nat) (e:Ending) (w':World):Prop:=e=.returned (.tuple #[])∧∃w1,Stp w U gg s m w1∧w'=w1.setCell ⟨pp,1,none⟩ (.bool true)
set_option maxRecDepth 100000 in
set_option maxHeartbeats 4000000 in
theorem shut_p (h:PAt w pp gg U s b m) (now:Int):Calls Tryz.prog 127 #[ptr pp,.int .i64 now] w (Shut w pp gg U (closeS s now) m):=by
 have x0:w.cell? ⟨pp,0,none⟩=some (ptr gg):=by simp[World.cell?,h.prt]
 have HC:=Lib.hid (close_i h.stg now)
 have HK:=Lib.hid (λ W (hs:Stp w U gg (closeS s now) m W)=>(show W.heap[pp]?=some (.cells (prtC gg b) 183 (0,0))from by
  obtain⟨U',_,⟨_,hk⟩,_⟩:=hs
  exact(hk pp (gb.blk_lt h.prt) h.not_p).trans h.prt))
 clear h
 go_enter Tryz.func127,Tryz.ntmps127
 go_wp2_with fail
 refine HC.out.mono ?_
 rintro e w1 ⟨rfl,hs⟩
 have hp:=HK.out w1 hs
 have x1:w1.cell? ⟨pp,1,none⟩=some (.bool b):=by simp[World.cell?,hp]
 have f1:w1.frozen? ⟨pp,1,none⟩=false:=gb.frozen_at hp
 have HS:=Lib.hid hs
 clear hs hp HC HK x0
 go_wp2_with fail
 go_end0
 exact⟨rfl,w1,HS.out,rfl⟩
theorem Shut.alone (h:PAt w pp gg U s b m) {s':St} {e:Ending} (hs:Shut w pp gg U s' m e w'):∃U',PAt w' pp gg U' s' true m∧Mvd w (oneU pp U) w' (oneU pp U'):=by
 obtain⟨_,w1,⟨U',hr,⟨hb,hk⟩,hn⟩,rfl⟩:=hs
 have h1:w1.heap[pp]?=some (.cells (prtC gg b) 183 (0,0)):=(hk pp (gb.blk_lt h.prt) h.not_p).trans h.prt
 have hp:¬U' pp:=rep_not hr h1 (by decide) (by decide) (by decide) (by decide)
 refine⟨U',⟨?_,rep_on2 hr λ i hi=>Below.heap_setCell _ _ _ _ λ e=>hp (by have e:i=pp:=e;rw[←e];exact hi)⟩,Mvd.trans (w':=w1) (U':=oneU pp U') ⟨⟨hb,λ i hi hu=>hk i hi λ e=>hu (Or.inr e)⟩,λ i hi=>?_⟩ (mvd_set w1 (Or.inl rfl) 1 (.bool true))⟩
 ·simp[World.setCell,Array.getElem?_modify,h1]
 ·rcases hi with e|e
  ·exact Or.inl (Or.inl e)
  ·rcases hn i e with e|e
   ·exact Or.inl (Or.inr e)
   ·exact Or.inr e
end
section
variable {w w':World} {g:Nat} {p:Option Addr} {cap:Nat} {q:List Nd} {c c':Ch} {M M':Nat}
theorem CAt.part (h:CAt w g p cap q c M) {k:Nat} (hk:k<c.L.length):PAt w (nd q k).p (nd q k).g (nd q k).U (c.at' k).s (c.at' k).closed (nd q k).m:=⟨h.prt k hk,h.stg k hk⟩
theorem on_close (c:Ch) (k:Nat) (now:Int) (_hk:k<c.L.length):c.onC k (Ch.oClose now)={setS c k (closeS (c.at' k).s now)with L:=(setS c k (closeS (c.at' k).s now)).L.set k ⟨closeS (c.at' k).s now,true⟩}:=by
 unfold Ch.onC setS
 simp only[List.set_set]
 congr 3
 exact Bool.or_true _
theorem CAt.shut (h:CAt w g p cap q c M) {k:Nat} (hk:k<c.L.length) (now:Int) {e:Ending} (hs:Shut w (nd q k).p (nd q k).g (nd q k).U (closeS (c.at' k).s now) (nd q k).m e w'):
  CPut w g p cap q (c.onC k (Ch.oClose now)) M w':=by
 obtain⟨_,w1,hs,rfl⟩:=hs
 obtain⟨U',h1,h2⟩:=h.stepL hk hs (by rw[close_S];exact Nat.le_refl _)
 have hk1:k<(setS c k (closeS (c.at' k).s now)).L.length:=by rw[len_setS];exact hk
 have hq:k<q.length:=by rw[h.len];exact hk
 have h3:=h1.setP hk1 true
 have hA:(setS c k (closeS (c.at' k).s now)).at' k=⟨closeS (c.at' k).s now,(c.at' k).closed⟩:=at_set_eq _ _ _ hk
 rw[hA,(p_setN q k k U' (nd q k).m hq).1]at h3
 rw[on_close c k now hk]
 exact⟨_,h3,h2.trans (mvd_set w1 (by rw[←(p_setN q k k U' (nd q k).m hq).1];exact own_p (by rw[setN_len];exact hq)) 1 (.bool true)),λ j=>p_setN q k j U' _ hq⟩
theorem drain_j {U:Own} {gg m:Nat} {s:St} (h:Rep w U gg s m):∃k,w.cell? ⟨gg,0,none⟩=some (ptr k)∧Calls Tryz.prog 126 #[ptr k] w (GotQ w U gg (drainS s).1 m s.S s.S.size):=by
 obtain⟨base,c',u,s',hr,ho,hs,rfl⟩:=h
 refine⟨c',hr.cell 0,?_⟩
 rw[←hs.S]
 have hd:Ok (drainS s').1 m:=⟨ho.tx,ho.name,ho.clock,⟨ho.passed.1,by have:=ho.passed.2;show s'.passed+((0:Nat):Int)≤m;omega⟩,ho.room,ho.bk,ho.top⟩
 exact(cdrain hr).mono λ _ _ hh=>got_of hh hd hs.drain
end
end Go.Proofs.YtdighjgcnaajgaaGreat
namespace Go.Proofs.YtdighjgcnaajgaaGreat
open Go.RowKit
section
variable {w w':World} {g:Nat} {p:Option Addr} {cap:Nat} {q:List Nd} {c c':Ch} {M M':Nat}
theorem CAt.rowk {b o:Nat} (h:CAt w g (some ⟨b,o,none⟩) cap q c M) {k:Nat} (hk:k<c.L.length):w.cell? ⟨b,o+k,none⟩=some (ptr (nd q k).p):=by
 obtain⟨b',o',e,hr,_⟩:=h.rows (by omega)
 cases e
 exact hr k hk
theorem lose_round {k:Nat} (h:CAt w g p cap q (c.loseN k) M) (hk:k<c.L.length) {w7:World} (hs:Stp w (nd q k).U (nd q k).g (drainS ((c.loseN k).at' k).s).1 (nd q k).m w7):
  (∃q7,CAt w7 g p cap q7 (setS (c.loseN k) k (drainS ((c.loseN k).at' k).s).1) M)∧CPut w g p cap q (c.loseN (k+1)) M (w7.setCell ⟨g,4,none⟩ (.int .i64 ((c.loseN k).lost+((c.loseN k).at' k).s.S.size))):=by
 have hk':k<(c.loseN k).L.length:=by rw[Ch.len_loseN];exact hk
 have h1:=h.putL hk' hs (Nat.zero_le _)
 have e:c.loseN (k+1)={setS (c.loseN k) k (drainS ((c.loseN k).at' k).s).1 with lost:=(c.loseN k).lost+((c.loseN k).at' k).s.S.size}:=by
  show({(c.loseN k).onC k Ch.oDrain with lost:=(c.loseN k).lost+((c.loseN k).at' k).s.S.size}:Ch)=_
  rw[on_set _ _ _ (by decide)]
  rfl
 refine⟨by obtain⟨q7,h7,_⟩:=h1;exact⟨q7,h7⟩,h1.then λ q7 h7 _=>?_⟩
 rw[e]
 refine h7.putG rfl rfl ⟨by have:=h.los.1;show 0≤(c.loseN k).lost+_;omega,?_⟩
 have e1:=(sum_setS (c.loseN k) k (c.loseN k).L.length (drainS ((c.loseN k).at' k).s).1 hk').1 hk'
 have e2:=h.los.2
 have e3:(drainS ((c.loseN k).at' k).s).1.S.size=0:=rfl
 rw[e3]at e1
 rw[len_setS]
 show(c.loseN k).lost+(((c.loseN k).at' k).s.S.size:Int)+_≤_
 omega
set_option maxRecDepth 100000 in
set_option maxHeartbeats 8000000 in
theorem lose_c (h:CAt w g p cap q c M) (h2:2≤c.L.length) (N:Nat) (hN:N≤c.L.length):Calls Tryz.prog 124 #[ptr g,.int .i64 (N:Int)] w λ e w'=>e=.returned (.tuple #[])∧CPut w g p cap q (c.lose N) M w':=by
 have h10:=h.ten
 obtain⟨b,o,rfl,hr,hnc,hmx⟩:=h.rows (by omega)
 have x0:w.cell? ⟨g,0,none⟩=some (.slice (some ⟨b,o,none⟩) c.L.length cap):=h.cell 0
 have H0:=Lib.hid (CPut.refl h)
 have HLN:=Lib.hid hN
 have hNc:N≤cap:=by omega
 have hN10:N≤10:=by omega
 generalize hn:c.L.length=n at x0 hnc h2 h10 hN
 clear h hr
 go_enter Tryz.func124,Tryz.ntmps124
 go_wp2_with fail
 go_loopw [13] (λ i wr=>∃k:Nat,k≤N∧i=.int .i64 k∧Hid (CPut w g (some ⟨b,o,none⟩) cap q (c.loseN k) M wr)) (λ i _=>N -(intOf i).toNat)
 case atStart=>exact⟨0,Nat.zero_le _,rfl,H0⟩
 case round=>
  clear x0 H0
  obtain⟨k,hk,rfl,HK⟩:=hrel
  by_cases hlt:k<N
  ·obtain⟨q',hc,hmv,hpp⟩:=HK.out
   have hkc:k<c.L.length:=by have:=HLN.out;omega
   have hkn:k<(c.loseN k).L.length:=by rw[Ch.len_loseN];exact hkc
   have hd:=hc.on (Below.refl _ wr).drew
   obtain⟨v,z1,hcall⟩:=drain_j (hd.stg k hkn)
   have y0:=hc.rowk hkn
   have z0:=(hc.pcell hkn).1
   have z1:wr.cell? ⟨(nd q' k).g,0,none⟩=some (ptr v):=z1
   have x4:wr.cell? ⟨g,4,none⟩=some (.int .i64 (c.loseN k).lost):=hc.cell 4
   have hb:=hc.los
   have hsz:=(hc.size_le hkn).1
   have hb2:(c.loseN k).lost+(((c.loseN k).at' k).s.S.size:Int)≤400000:=by
    have:=hc.top
    have:=sum_all (c.loseN k)
    have:=sum_succ (c.loseN k) hkn
    have e1:=(sum_setS (c.loseN k) k (c.loseN k).L.length (drainS ((c.loseN k).at' k).s).1 hkn).1 hkn
    have e3:(drainS ((c.loseN k).at' k).s).1.S.size=0:=rfl
    omega
   have hb1:=hb.1
   have HN:=Lib.hid (λ W (hs:Stp wr.drew (nd q' k).U (nd q' k).g (drainS ((c.loseN k).at' k).s).1 (nd q' k).m W)=>(show(W.cell? ⟨g,4,none⟩=some (.int .i64 (c.loseN k).lost)∧W.frozen? ⟨g,4,none⟩=false)∧CPut w g (some ⟨b,o,none⟩) cap q (c.loseN (k+1)) M (W.setCell ⟨g,4,none⟩ (.int .i64 ((c.loseN k).lost+((c.loseN k).at' k).s.S.size)))from by
    obtain⟨⟨q7,h7⟩,q9,a1,a2,a3⟩:=lose_round hd hkc hs
    exact⟨⟨h7.cell 4,h7.frz 4⟩,q9,a1,(hmv.on (Below.refl _ wr).drew).trans a2,a3.trans hpp⟩))
   generalize((c.loseN k).at' k).s.S.size=K at*
   generalize(c.loseN k).lost=X at*
   have HC:=Lib.hid hcall
   generalize(nd q' k).p=pk at*
   generalize(nd q' k).g=gk at*
   clear hcall hd hc hmv hpp hb hsz HK hkn hkc
   go_wp2_with fail
   go_region_law
    (go_simp;go_at_call 126;refine Calls.mono HC.out ?_;rintro e w7 ⟨qq,d,rfl,hi7,hs7,hd7,he7,hst⟩;(obtain⟨⟨x7,f7⟩,h8⟩:=HN.out w7 hst.stp);(have HF7:=Lib.hid h8);clear h8 hi7 hst)
   all_goals go_wp2_with fail
   all_goals go_roundw
   all_goals first
    |exact⟨k+1,by omega,by go_num,HF7⟩
    |(simp[intOf];omega)
  ·obtain rfl:k=N:=by omega
   obtain⟨q',hc,hmv,hpp⟩:=HK.out
   have x3:wr.cell? ⟨g,3,none⟩=some (.bool (c.loseN k).shut):=hc.cell 3
   have f3:wr.frozen? ⟨g,3,none⟩=false:=hc.frz 3
   have HE:=Lib.hid (show CPut w g (some ⟨b,o,none⟩) cap q (c.lose k) M (wr.setCell ⟨g,3,none⟩ (.bool true))from HK.out.then λ q2 h2 _=>h2.putG rfl rfl h2.los)
   clear hc hmv hpp HK
   go_wp2_with fail
   go_end0
   exact⟨rfl,HE.out⟩
set_option maxRecDepth 100000 in
set_option maxHeartbeats 8000000 in
theorem break_c (h:CAt w g p cap q c M) (h2:2≤c.L.length) (now:Int):Calls Tryz.prog 110 #[ptr g,.int .i64 now] w λ e w'=>e=.returned (.tuple #[])∧CPut w g p cap q c.breakC M w':=by
 have x2:w.cell? ⟨g,2,none⟩=some (.int .i64 c.state):=h.cell 2
 have x0:w.cell? ⟨g,0,none⟩=some (.slice p c.L.length cap):=h.cell 0
 obtain⟨c1,hc1⟩:∃c1,c.breakC=c1:=⟨_,rfl⟩
 rw[hc1]
 by_cases h1:c.state=1
 ·have HE:=Lib.hid (show CPut w g p cap q c1 M w from by rw[←hc1];unfold Ch.breakC;rw[if_pos h1];exact CPut.refl h)
  rw[h1]at x2
  clear h x0 hc1
  go_enter Tryz.func110,Tryz.ntmps110
  go_wp2_with fail
  go_end0
  exact⟨rfl,HE.out⟩
 ·have HL:=Lib.hid (lose_c h h2 c.L.length (Nat.le_refl _))
  have hc:c1={c.lose c.L.length with state:=2}:=by rw[←hc1];unfold Ch.breakC;rw[if_neg h1]
  have HC:=Lib.hid hc
  clear hc1 hc
  have d1:decide (c.state=1)=false:=by simpa using h1
  have d2:(c.state==1)=false:=by simpa using h1
  have d3:(c.state !=1)=true:=by simpa using h1
  have h10:=h.ten
  generalize c.L.length=n at*
  clear h
  go_enter Tryz.func110,Tryz.ntmps110
  go_wp2_with fail
  refine HL.out.mono ?_
  rintro e w1 ⟨rfl,hcp⟩
  obtain⟨q1,hc,hmv,hpp⟩:=id hcp
  have y2:w1.cell? ⟨g,2,none⟩=some (.int .i64 (c.lose n).state):=hc.cell 2
  have f2:w1.frozen? ⟨g,2,none⟩=false:=hc.frz 2
  have HE:=Lib.hid (show CPut w g p cap q c1 M (w1.setCell ⟨g,2,none⟩ (.int .i64 2))from by rw[HC.out];exact hcp.then λ q2 h2 _=>h2.putG rfl rfl h2.los)
  clear hcp hc hmv hpp HL x0 x2
  go_wp2_with fail
  go_end0
  exact⟨rfl,HE.out⟩
end
end Go.Proofs.YtdighjgcnaajgaaGreat
namespace Go.Proofs.YtdighjgcnaajgaaGreat
open Go.RowKit
section
variable {w w':World} {g:Nat} {p:Option Addr} {cap:Nat} {q:List Nd} {c c':Ch} {M M':Nat}
theorem any_more (c:Ch) (now:Int) {k n:Nat} (hk:k≤n) (h:c.anyB now k=true):c.anyB now n=true:=by
 induction n with
 |zero=>
  obtain rfl:k=0:=by omega
  exact h
 |succ n ih=>
  rcases Nat.lt_or_ge k (n+1)with hl|hl
  ·show(c.anyB now n||_)=true
   rw[ih (by omega)]
   rfl
  ·obtain rfl:k=n+1:=by omega
   exact h
theorem look_set (c:Ch) (k:Nat) (now:Int):c.onC k (Ch.oLook now)=setS c k (lookS (c.at' k).s now):=on_set c k _ (by show((4:Int)≠3);decide)
theorem looks_succ (c:Ch) (now:Int) (k:Nat):c.looks now (k+1)=setS (c.looks now k) k (lookS ((c.looks now k).at' k).s now):=look_set _ _ _
def Rst (w:World) (g:Nat) (p:Option Addr) (cap:Nat) (q:List Nd) (c:Ch) (now:Int) (M:Nat) (e:Ending) (w':World):Prop:=
 ∃i,i≤c.L.length∧CPut w g p cap q (c.looks now i) M w'∧((e=.returned (.bool true)∧c.anyB now c.L.length=true)∨(e=.returned (.bool false)∧c.anyB now c.L.length=false∧i=c.L.length))
set_option maxRecDepth 100000 in
set_option maxHeartbeats 8000000 in
theorem reset_c (h:CAt w g p cap q c M) (h2:2≤c.L.length) (now:Int):Calls Tryz.prog 131 #[ptr g,.int .i64 now] w (Rst w g p cap q c now M):=by
 have h10:=h.ten
 obtain⟨b,o,rfl,hr,hnc,hmx⟩:=h.rows (by omega)
 have x0:w.cell? ⟨g,0,none⟩=some (.slice (some ⟨b,o,none⟩) c.L.length cap):=h.cell 0
 have H0:=Lib.hid (CPut.refl h)
 obtain⟨n,hn⟩:∃n,c.L.length=n:=⟨_,rfl⟩
 unfold Rst
 rw[hn]at x0 hnc h2 h10⊢
 have HN:=Lib.hid hn
 clear h hr hn
 go_enter Tryz.func131,Tryz.ntmps131
 go_wp2_with fail
 go_loopw [12] (λ i wr=>∃k:Nat,k≤n∧i=.int .i64 k∧Hid (CPut w g (some ⟨b,o,none⟩) cap q (c.looks now k) M wr∧c.anyB now k=false)) (λ i _=>n -(intOf i).toNat)
 case atStart=>exact⟨0,Nat.zero_le _,rfl,Lib.hid ⟨H0.out,rfl⟩⟩
 case round=>
  clear x0 H0
  obtain⟨k,hk,rfl,HK⟩:=hrel
  by_cases hlt:k<n
  ·obtain⟨⟨q',hc,hmv,hpp⟩,hany⟩:=HK.out
   have hkn:k<(c.looks now k).L.length:=by rw[Ch.len_looks,HN.out];exact hlt
   have y0:=hc.rowk hkn
   have z0:=(hc.pcell hkn).1
   have HS:=Lib.hid (state_i (hc.stg k hkn) now)
   have HR:=Lib.hid (λ W (hs:Stp wr (nd q' k).U (nd q' k).g (lookS ((c.looks now k).at' k).s now) (nd q' k).m W)=>(show CPut w g (some ⟨b,o,none⟩) cap q (c.looks now (k+1)) M W from by
    obtain⟨q9,a1,a2,a3⟩:=hc.putL hkn hs (Nat.le_refl _)
    rw[looks_succ]
    exact⟨q9,a1,hmv.trans a2,a3.trans hpp⟩))
   have hnx:c.anyB now (k+1)=decide ((lookS ((c.looks now k).at' k).s now).st=2):=by
    show(c.anyB now k||_)=_
    rw[hany,Bool.false_or]
    rfl
   generalize(lookS ((c.looks now k).at' k).s now).st=X at*
   generalize(nd q' k).p=pk at*
   by_cases hX:X=2
   ·subst hX
    have HA:=Lib.hid (any_more c now (show k+1≤n by omega) (by rw[hnx];decide))
    clear hc hmv hpp hany hnx HK hkn
    go_wp2_with (go_at_call 123;refine HS.out.mono ?_;rintro e w1 ⟨rfl,hs⟩;(have HF:=Lib.hid (HR.out w1 hs));clear hs)
    try rw[Exit.noGoto_ret]
    go_ret
    exact⟨k+1,by omega,HF.out,Or.inl ⟨rfl,HA.out⟩⟩
   ·have d1:decide (X=2)=false:=by simpa using hX
    have d2:(X==2)=false:=by simpa using hX
    rw[d1]at hnx
    have HA:=Lib.hid hnx
    clear hc hmv hpp hany hnx HK hkn
    go_wp2_with (go_at_call 123;refine HS.out.mono ?_;rintro e w1 ⟨rfl,hs⟩;(have HF:=Lib.hid (HR.out w1 hs));clear hs)
    go_roundw
    case rel=>exact⟨k+1,by omega,by go_num,Lib.hid ⟨HF.out,HA.out⟩⟩
    case measure=>simp[intOf];omega
  ·obtain rfl:k=n:=by omega
   go_wp2_with fail
   try rw[Exit.noGoto_ret]
   go_ret
   exact⟨k,Nat.le_refl _,HK.out.1,Or.inr ⟨rfl,HK.out.2,rfl⟩⟩
def putCh (c:Ch) (now:Int) (b:ByteArray):Ch:=if c.shut=true∨c.state≠0 then c else c.onC 0 (Ch.oPut now b)
def putV (c:Ch) (now:Int) (b:ByteArray):Int:=if c.shut=true∨c.state≠0 then 0 else(c.ansC 0 (Ch.oPut now b)).n
set_option maxRecDepth 100000 in
set_option maxHeartbeats 4000000 in
theorem put_shut_c (h:CAt w g p cap q c M) (now:Int) (pb:Option Addr) (nb cb:Nat) (hs:c.shut=true):Calls Tryz.prog 92 #[ptr g,.int .i64 now,.slice pb nb cb] w λ e w'=>e=.returned (.int .i64 0)∧w=w':=by
 have x3:w.cell? ⟨g,3,none⟩=some (.bool c.shut):=h.cell 3
 rw[hs]at x3
 clear h hs
 go_enter Tryz.func92,Tryz.ntmps92
 go_wp2_with fail
 try rw[Exit.noGoto_ret]
 go_ret
 exact⟨rfl,rfl⟩
set_option maxRecDepth 100000 in
set_option maxHeartbeats 4000000 in
theorem put_state_c (h:CAt w g p cap q c M) (now:Int) (pb:Option Addr) (nb cb:Nat) (hs:c.shut=false) (h0:c.state≠0):Calls Tryz.prog 92 #[ptr g,.int .i64 now,.slice pb nb cb] w λ e w'=>e=.returned (.int .i64 0)∧w=w':=by
 have x3:w.cell? ⟨g,3,none⟩=some (.bool c.shut):=h.cell 3
 have x2:w.cell? ⟨g,2,none⟩=some (.int .i64 c.state):=h.cell 2
 rw[hs]at x3
 have d1:decide (c.state=0)=false:=by simpa using h0
 have d2:(c.state==0)=false:=by simpa using h0
 have d3:(c.state !=0)=true:=by simpa using h0
 generalize c.state=X at*
 clear h hs
 go_enter Tryz.func92,Tryz.ntmps92
 go_wp2_with fail
 try rw[Exit.noGoto_ret]
 go_ret
 exact⟨rfl,rfl⟩
set_option maxRecDepth 100000 in
set_option maxHeartbeats 4000000 in
theorem put_open_c (h:CAt w g p cap q c M) (h2:2≤c.L.length) (now:Int) {pb:Option Addr} {nb cb:Nat} {b:ByteArray} (hb:b.size=nb) (hi:Lib.BytesIn w pb nb (gc.nums b)) (hnc:nb≤cb) (hM:M+b.size≤M') (hf:M'≤400000) (hs:c.shut=false) (h0:c.state=0):
  Calls Tryz.prog 92 #[ptr g,.int .i64 now,.slice pb nb cb] w λ e w'=>e=.returned (.int .i64 (c.ansC 0 (Ch.oPut now b)).n)∧CPut w g p cap q (c.onC 0 (Ch.oPut now b)) M' w':=by
 have x3:w.cell? ⟨g,3,none⟩=some (.bool c.shut):=h.cell 3
 have x2:w.cell? ⟨g,2,none⟩=some (.int .i64 c.state):=h.cell 2
 rw[hs]at x3
 rw[h0]at x2
 have hk:0<c.L.length:=by omega
 have z0:=(h.pcell hk).1
 have hm:=(h.sum 0 hk)
 have HP:=Lib.hid (put_i (M':=(nd q 0).m+b.size) (h.stg 0 hk) now hb hi (Nat.le_refl _) (by omega) hnc)
 have HI:=Lib.hid (inlet_c h h2)
 have HF:=Lib.hid (λ W (hst:Stp w (nd q 0).U (nd q 0).g (bringS (c.at' 0).s now b).1 ((nd q 0).m+b.size) W)=>(show CPut w g p cap q (c.onC 0 (Ch.oPut now b)) M' W from by
  have h3:=h.putM (M':=M') hk hst (by have e1:((bringS (c.at' 0).s now b).1.S.size:Int)=(c.at' 0).s.S.size+(bringS (c.at' 0).s now b).2:=Ch.sz_put _ now b;have e2:=bring_n (c.at' 0).s now b;omega) (λ j _ hj=>by have:=h.sum j hj;omega) (by have:=h.los.2;omega) (by omega) hf
  rw[on_set _ _ _ (by show(0:Int)≠3;decide)]
  exact h3))
 have HV:(c.ansC 0 (Ch.oPut now b)).n=(bringS (c.at' 0).s now b).2:=rfl
 rw[HV]
 clear h hm hi HV
 generalize(bringS (c.at' 0).s now b).2=V at*
 generalize(nd q 0).p=pk at*
 go_enter Tryz.func92,Tryz.ntmps92
 go_wp2_with (first
  |(go_at_call 129;refine HI.out.mono ?_;rintro e w1 ⟨rfl,rfl⟩)
  |(go_at_call 130;refine HP.out.mono ?_;rintro e w1 ⟨rfl,hst⟩;(have HE:=Lib.hid (HF.out w1 hst));clear hst))
 try rw[Exit.noGoto_ret]
 go_ret
 exact⟨rfl,HE.out⟩
theorem put_c (h:CAt w g p cap q c M) (h2:2≤c.L.length) (now:Int) {pb:Option Addr} {nb cb:Nat} {b:ByteArray} (hb:b.size=nb) (hi:Lib.BytesIn w pb nb (gc.nums b)) (hnc:nb≤cb) (hM:M+b.size≤M') (hf:M'≤400000):
  Calls Tryz.prog 92 #[ptr g,.int .i64 now,.slice pb nb cb] w λ e w'=>e=.returned (.int .i64 (putV c now b))∧CPut w g p cap q (putCh c now b) M' w':=by
 unfold putV putCh
 have hm:=h.more (show M≤M' by omega) hf
 cases hs:c.shut with
 |true=>
  rw[if_pos (Or.inl rfl),if_pos (Or.inl rfl)]
  refine(put_shut_c h now pb nb cb hs).mono ?_
  rintro e w' ⟨rfl,rfl⟩
  exact⟨rfl,CPut.refl hm⟩
 |false=>
  by_cases h0:c.state=0
  ·rw[if_neg (by rw[h0];simp),if_neg (by rw[h0];simp)]
   exact put_open_c h h2 now hb hi hnc hM hf hs h0
  ·rw[if_pos (Or.inr h0),if_pos (Or.inr h0)]
   refine(put_state_c h now pb nb cb hs h0).mono ?_
   rintro e w' ⟨rfl,rfl⟩
   exact⟨rfl,CPut.refl hm⟩
theorem far_all (h:CAt w g p cap q c M) {k:Nat} {U':Own} {m:Nat} {a:Option Addr} {K:Nat} (hf:Far a K U' w') (hn:∀x,a=some x→w.heap.size≤x.block):Far a K (blkC g p (setN q k U' m)) w':=λ hK x hx=>by
 refine⟨λ hu=>?_,(hf hK x hx).2⟩
 have hn:=hn x hx
 have old:∀{i},blkC g p q i→i=x.block→False:=λ hi e=>by have:=h.lt hi;omega
 rcases hu with e|e|⟨y,hy,e⟩
 ·exact old (Or.inl rfl) e.symm
 ·obtain⟨z,hz,e⟩:=e
  exact old (Or.inr (Or.inl ⟨z,hz,rfl⟩)) e
 ·obtain⟨j,hj,rfl⟩:=nd_of_mem hy
  rw[setN_len]at hj
  by_cases ej:k=j
  ·subst ej
   unfold setN at e
   rw[nd_set_eq _ _ _ hj]at e
   rcases e with e|e
   ·exact old (own_p hj) e.symm
   ·exact(hf hK x hx).1 e
  ·unfold setN at e
   rw[nd_set_ne _ _ _ _ ej]at e
   rcases e with e|e
   ·exact old (own_p hj) e.symm
   ·exact old (own_U hj e) rfl
def GotC (w:World) (g:Nat) (p:Option Addr) (cap:Nat) (q:List Nd) (c:Ch) (M:Nat) (T:ByteArray) (e:Ending) (w':World):Prop:=∃a d,e=.returned (.slice a T.size d)∧Lib.BytesIn w' a T.size (gc.nums T)∧T.size≤d∧d≤9223372036854775807∧∃q',CAt w' g p cap q' c M∧Mvd w (blkC g p q) w' (blkC g p q')∧Far a T.size (blkC g p q') w'∧∀x,a=some x→w.heap.size≤x.block
set_option maxRecDepth 100000 in
set_option maxHeartbeats 4000000 in
theorem take_none_c (h:CAt w g p cap q c M) (now most:Int) (hs:c.state=2):Calls Tryz.prog 95 #[ptr g,.int .i64 now,.int .i64 most] w (GotC w g p cap q c M ⟨#[]⟩):=by
 have x2:w.cell? ⟨g,2,none⟩=some (.int .i64 c.state):=h.cell 2
 rw[hs]at x2
 have HE:=Lib.hid (show GotC w g p cap q c M ⟨#[]⟩ (.returned (.slice none 0 0)) w from⟨none,0,rfl,λ hn=>absurd hn (Nat.lt_irrefl 0),Nat.le_refl _,by decide,q,h,Mvd.refl _ _,(λ _ x e=>by cases e),λ x e=>by cases e⟩)
 clear h hs
 go_enter Tryz.func95,Tryz.ntmps95
 go_wp2_with fail
 try rw[Exit.noGoto_ret]
 go_ret
 exact HE.out
set_option maxRecDepth 100000 in
set_option maxHeartbeats 4000000 in
theorem take_some_c (h:CAt w g p cap q c M) (h2:2≤c.L.length) (now most:Int) (hs:c.state≠2) {T:ByteArray} (hT:(c.ansC (c.L.length -1) (Ch.oTake now most)).s=T):
  Calls Tryz.prog 95 #[ptr g,.int .i64 now,.int .i64 most] w (GotC w g p cap q (c.onC (c.L.length -1) (Ch.oTake now most)) M T):=by
 have x2:w.cell? ⟨g,2,none⟩=some (.int .i64 c.state):=h.cell 2
 have d1:decide (c.state=2)=false:=by simpa using hs
 have d2:(c.state==2)=false:=by simpa using hs
 generalize c.state=X at*
 have hk:c.L.length -1<c.L.length:=by omega
 have HZ:=Lib.hid (λ W (hb:Below w.heap.size w W)=>((h.on hb).pcell hk).1)
 have HO:=Lib.hid (outlet_c h h2)
 have HT:=Lib.hid (λ W (hb:Below w.heap.size w W)=>take_i ((h.on hb).stg _ hk) now most (T:=T) hT)
 have HF:=Lib.hid (λ W W' e (hb:Below w.heap.size w W) (hg:GotQ W (nd q (c.L.length -1)).U (nd q (c.L.length -1)).g (takeS (c.at' (c.L.length -1)).s now most).1 (nd q (c.L.length -1)).m T T.size e W')=>(show GotC w g p cap q (c.onC (c.L.length -1) (Ch.oTake now most)) M T e W' from by
  obtain⟨a,d,he,hi,_,hd,hd9,hst⟩:=hg
  obtain⟨V,v1,v2,v3,v4,v5⟩:=hst
  obtain⟨U',h3,h4,h5⟩:=(h.on hb).stepLP (λ V=>Far a T.size V W') hk ⟨V,v1,v2,v3,v4⟩ (by have e1:(takeS (c.at' (c.L.length -1)).s now most).1.S.size+(takeS (c.at' (c.L.length -1)).s now most).2.size=(c.at' (c.L.length -1)).s.S.size:=Ch.sz_take _ now most;omega)
  rw[on_set _ _ _ (by show(2:Int)≠3;decide)]
  exact⟨a,d,he,hi,hd,hd9,_,h3,((Mvd.refl w _).on hb).trans h4,far_all (h.on hb) h5 v5,λ x e=>Nat.le_trans hb.size (v5 x e)⟩))
 generalize c.onC (c.L.length -1) (Ch.oTake now most)=c1 at*
 clear h hT
 generalize(nd q (c.L.length -1)).p=pk at*
 generalize(nd q (c.L.length -1)).g=gk at*
 go_enter Tryz.func95,Tryz.ntmps95
 go_wp2_with fail
 refine HO.out.mono ?_
 rintro e w1 ⟨rfl,hb⟩
 have z0:=HZ.out w1 hb
 have HC:=Lib.hid (HT.out w1 hb)
 have HG:=Lib.hid (λ W' e=>HF.out w1 W' e hb)
 clear hb HZ HT HF HO x2
 go_wp2_with fail
 refine HC.out.mono ?_
 rintro e w2 hg
 have HR:=Lib.hid (HG.out _ _ hg)
 obtain⟨a,d,rfl,_⟩:=hg
 clear HG HC z0
 go_wp2_with fail
 try rw[Exit.noGoto_ret]
 go_ret
 exact HR.out
set_option maxRecDepth 100000 in
set_option maxHeartbeats 4000000 in
theorem close_c (h:CAt w g p cap q c M) (h2:2≤c.L.length) (now:Int):Calls Tryz.prog 93 #[ptr g,.int .i64 now] w λ e w'=>e=.returned (.tuple #[])∧CPut w g p cap q (if c.state=0 then{c.onC 0 (Ch.oClose now)with shut:=true}else c) M w':=by
 have x2:w.cell? ⟨g,2,none⟩=some (.int .i64 c.state):=h.cell 2
 by_cases h0:c.state=0
 ·rw[if_pos h0]
  rw[h0]at x2
  have x3:w.cell? ⟨g,3,none⟩=some (.bool c.shut):=h.cell 3
  have f3:w.frozen? ⟨g,3,none⟩=false:=h.frz 3
  have hk:0<c.L.length:=by omega
  have h1:CAt (w.setCell ⟨g,3,none⟩ (.bool true)) g p cap q {c with shut:=true} M:=h.set rfl rfl h.los
  have HI:=Lib.hid (inlet_c h1 h2)
  have HP:=Lib.hid (shut_p (h1.part (k:=0) hk) now)
  have HF:=Lib.hid (λ e W (hs:Shut (w.setCell ⟨g,3,none⟩ (.bool true)) (nd q 0).p (nd q 0).g (nd q 0).U (closeS (({c with shut:=true}:Ch).at' 0).s now) (nd q 0).m e W)=>(show CPut w g p cap q {c.onC 0 (Ch.oClose now)with shut:=true} M W from by
   obtain⟨q9,a1,a2,a3⟩:=h1.shut (k:=0) hk now hs
   exact⟨q9,a1,(mvd_set w (Or.inl rfl) _ _).trans a2,a3⟩))
  clear h h1
  generalize(nd q 0).p=pk at*
  go_enter Tryz.func93,Tryz.ntmps93
  go_wp2_with fail
  generalize w.setCell ⟨g,3,none⟩ (.bool true)=w1 at*
  refine HI.out.mono ?_
  rintro e w2 ⟨rfl,rfl⟩
  go_wp2_with fail
  refine HP.out.mono ?_
  rintro e w2 hs
  have HE:=Lib.hid (HF.out _ _ hs)
  obtain⟨rfl,_⟩:=hs
  clear HF HP HI
  go_wp2_with fail
  go_end0
  exact⟨rfl,HE.out⟩
 ·rw[if_neg h0]
  have HE:=Lib.hid (CPut.refl h)
  have d1:decide (c.state=0)=false:=by simpa using h0
  have d2:(c.state==0)=false:=by simpa using h0
  generalize c.state=X at*
  clear h
  go_enter Tryz.func93,Tryz.ntmps93
  go_wp2_with fail
  go_end0
  exact⟨rfl,HE.out⟩
end
end Go.Proofs.YtdighjgcnaajgaaGreat
namespace Go.Proofs.YtdighjgcnaajgaaGreat
open Go.RowKit
section
variable {w w':World} {g:Nat} {p:Option Addr} {cap:Nat} {q:List Nd} {c c':Ch} {M M':Nat}
abbrev toxObj (t:Tox):Obj:=.cells #[.string t.s,.int .i64 t.k,.bool t.up,.int .i64 t.o,.int .i64 t.a,.int .i64 t.b] 46
set_option maxRecDepth 100000 in
set_option maxHeartbeats 4000000 in
theorem update_no (h:CAt w g p cap q c M) (h2:2≤c.L.length) (at':Int) (t:Tox) (now:Int) (hn:¬(0≤at'∧at'<(c.L.length:Int) -2)):
  Calls Tryz.prog 111 #[ptr g,.int .i64 at',t.v,.int .i64 now] w λ e w'=>e=.returned (.int .i64 110)∧Below w.heap.size w w':=by
 have hal:Below w.heap.size w (w.alloc (toxObj t)):=(Below.refl _ _).alloc (Nat.le_refl _) _
 have HH:=Lib.hid (has_c (h.on hal) h2 at' (b:=false) (decide_eq_false hn))
 have HA:=Lib.hid hal
 unfold toxObj at HH HA
 unfold Tox.v
 clear h hn hal
 go_enter Tryz.func111,Tryz.ntmps111
 go_wp2_with fail
 generalize w.alloc (.cells #[.string t.s,.int .i64 t.k,.bool t.up,.int .i64 t.o,.int .i64 t.a,.int .i64 t.b] 46)=W at*
 refine HH.out.mono ?_
 rintro e w2 ⟨rfl,rfl⟩
 go_wp2_with fail
 try rw[Exit.noGoto_ret]
 go_ret
 exact⟨rfl,HA.out⟩
set_option maxRecDepth 100000 in
set_option maxHeartbeats 8000000 in
theorem update_yes (h:CAt w g p cap q c M) (h2:2≤c.L.length) (k:Nat) (t:Tox) (ht:t.s.size≤maxLen) (now:Int) (hk:k+2<c.L.length):
  Calls Tryz.prog 111 #[ptr g,.int .i64 (k:Int),t.v,.int .i64 now] w λ e w'=>e=.returned (.int .i64 (updS (c.at' (k+1)).s t now).2)∧CPut w g p cap q (c.onC (k+1) (Ch.oUpd now t)) M w':=by
 have h10:=h.ten
 have hal:Below w.heap.size w (w.alloc (toxObj t)):=(Below.refl _ _).alloc (Nat.le_refl _) _
 have hnew:=heap_alloc_new w (toxObj t)
 have HH:=Lib.hid (has_c (h.on hal) h2 (k:Int) (b:=true) (by simp only[decide_eq_true_eq];omega))
 have hk1:k+1<c.L.length:=by omega
 have h1:=h.on hal
 obtain⟨b,o,rfl,hr,hnc,hmx⟩:=h1.rows (by omega)
 have x0:(w.alloc (toxObj t)).cell? ⟨g,0,none⟩=some (.slice (some ⟨b,o,none⟩) c.L.length cap):=h1.cell 0
 have y0:=hr (k+1) hk1
 have z0:=(h1.pcell hk1).1
 have HU:=Lib.hid (update_i ((h1.on (Below.refl _ _).drew).stg (k+1) hk1) t ht now)
 have HF:=Lib.hid (λ W (hs:Stp (w.alloc (toxObj t)).drew (nd q (k+1)).U (nd q (k+1)).g (updS (c.at' (k+1)).s t now).1 (nd q (k+1)).m W)=>(show CPut w g (some ⟨b,o,none⟩) cap q (c.onC (k+1) (Ch.oUpd now t)) M W from by
  have a0:=(h1.on (Below.refl _ _).drew).putL hk1 hs (by rw[upd_S];exact Nat.le_refl _)
  rw[on_set _ _ _ (by show(5:Int)≠3;decide)]
  obtain⟨q9,a1,a2,a3⟩:=a0
  exact⟨q9,a1,(((Mvd.refl w _).on hal).on (Below.refl _ _).drew).trans a2,a3⟩))
 have hti:((k:Int)+1).toNat=k+1:=by omega
 have hk10:k≤10:=by omega
 have hi0:(0:Int)≤(k:Int)+1:=by omega
 have hi1:(k:Int)+1<(c.L.length:Int):=by omega
 have hiw:IntKind.i64.wrap ((k:Int)+1)=(k:Int)+1:=wrap_id (by omega) (by omega)
 generalize(updS (c.at' (k+1)).s t now).2=V at*
 generalize(nd q (k+1)).p=pk at*
 generalize hn:c.L.length=n at x0 hnc h2 hk hk1 HH h10 hi1
 unfold toxObj at*
 unfold Tox.v at*
 clear h hal h1 hr hn
 go_enter Tryz.func111,Tryz.ntmps111
 go_wp2_with fail
 have u0:=cell_of_row _ w.heap.size 0 _ _ _ hnew
 have u1:=cell_of_row _ w.heap.size 1 _ _ _ hnew
 have u2:=cell_of_row _ w.heap.size 2 _ _ _ hnew
 have u3:=cell_of_row _ w.heap.size 3 _ _ _ hnew
 have u4:=cell_of_row _ w.heap.size 4 _ _ _ hnew
 have u5:=cell_of_row _ w.heap.size 5 _ _ _ hnew
 clear hnew
 generalize w.alloc (.cells #[.string t.s,.int .i64 t.k,.bool t.up,.int .i64 t.o,.int .i64 t.a,.int .i64 t.b] 46)=W at*
 generalize w.heap.size=tb at*
 refine HH.out.mono ?_
 rintro e w2 ⟨rfl,rfl⟩
 go_wp2_with fail
 go_region_law
  (go_simp;go_at_call 148;refine Calls.mono HU.out ?_;rintro e w7 ⟨rfl,hs⟩;(have HF7:=Lib.hid (HF.out w7 hs));clear hs)
 all_goals go_wp2_with fail
 all_goals try rw[Exit.noGoto_ret]
 all_goals go_ret
 all_goals exact⟨rfl,HF7.out⟩
end
end Go.Proofs.YtdighjgcnaajgaaGreat
