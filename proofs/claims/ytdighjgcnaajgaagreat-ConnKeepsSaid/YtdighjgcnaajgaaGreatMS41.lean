import Derived.Test.YtdighjgcnaajgaaGreatMS39
import Derived.Test.YtdighjgcnaajgaaGreatMS40
namespace Go.Proofs.YtdighjgcnaajgaaGreat
open Go.RowKit
section
variable {w w' W W':World} {g:Nat} {p:Option Addr} {cap:Nat} {q:List Nd} {c c' d:Ch} {M M':Nat}
theorem cput_held (h:CPut w g p cap q d M W) {x:Nat} (hx:x<d.L.length):Calls Tryz.prog 114 #[ptr (nd q x).g] W λ e w'=>e=.returned (.int .i64 ((d.at' x).s.S.size:Int))∧W=w':=by
 obtain⟨q',a1,a2,a3⟩:=h
 rw[←(a3 x).2]
 exact held_i (a1.stg x hx)
theorem cput_state (h:CPut w g p cap q d M W) {x:Nat} (hx:x<d.L.length) (now:Int):Calls Tryz.prog 123 #[ptr (nd q x).g,.int .i64 now] W λ e w'=>e=.returned (.int .i64 (lookS (d.at' x).s now).st)∧CPut w g p cap q (d.onC x (Ch.oLook now)) M w':=by
 obtain⟨q',a1,a2,a3⟩:=h
 rw[←(a3 x).2]
 refine(state_i (a1.stg x hx) now).mono ?_
 rintro e w' ⟨rfl,hs⟩
 rw[look_set]
 obtain⟨q2,b1,b2,b3⟩:=a1.putL hx hs (Nat.le_refl _)
 exact⟨rfl,q2,b1,a2.trans b2,b3.trans a3⟩
theorem cput_lose (h:CPut w g p cap q d M W) (h2:2≤d.L.length) (N:Nat) (hN:N≤d.L.length):Calls Tryz.prog 124 #[ptr g,.int .i64 (N:Int)] W λ e w'=>e=.returned (.tuple #[])∧CPut w g p cap q (d.lose N) M w':=by
 obtain⟨q',a1,a2,a3⟩:=h
 refine(lose_c a1 h2 N hN).mono ?_
 rintro e w' ⟨rfl,q2,b1,b2,b3⟩
 exact⟨rfl,q2,b1,a2.trans b2,b3.trans a3⟩
theorem cput_close (h:CPut w g p cap q d M W) {x:Nat} (hx:x<d.L.length) (now:Int):Calls Tryz.prog 127 #[ptr (nd q x).p,.int .i64 now] W λ e w'=>e=.returned (.tuple #[])∧CPut w g p cap q (d.onC x (Ch.oClose now)) M w':=by
 obtain⟨q',a1,a2,a3⟩:=h
 rw[←(a3 x).1]
 refine(shut_p (a1.part hx) now).mono ?_
 intro e w' hs
 obtain⟨q2,b1,b2,b3⟩:=a1.shut hx now hs
 exact⟨hs.1,q2,b1,a2.trans b2,b3.trans a3⟩
def RmWay (w:World) (g:Nat) (p:Option Addr) (cap:Nat) (q:List Nd) (d:Ch) (M:Nat) (x:Nat) (T:ByteArray) (W:World):Prop:=
 ∃q',CAt W g p cap q' (d.onC x Ch.oDrain) M∧Mvd w (blkC g p q) W (blkC g p q')∧Pg q' q∧(∀j,x+1≤j→j<d.L.length→(nd q' j).m+sumA (d.onC x Ch.oDrain).L j+T.size≤M)∧d.lost+(sumA (d.onC x Ch.oDrain).L d.L.length:Nat)+T.size≤M
theorem cput_drain (h:CPut w g p cap q d M W) {x:Nat} (hx:x+1<d.L.length):∃v,W.cell? ⟨(nd q x).g,0,none⟩=some (ptr v)∧Calls Tryz.prog 126 #[ptr v] W λ e w'=>
  ∃a dd,e=.returned (.slice a (d.at' x).s.S.size dd)∧Lib.BytesIn w' a (d.at' x).s.S.size (gc.nums (d.at' x).s.S)∧RmWay w g p cap q d M x (d.at' x).s.S w':=by
 obtain⟨q',a1,a2,a3⟩:=h
 have hx0:x<d.L.length:=by omega
 obtain⟨v,h1,h2⟩:=drain_j (a1.stg x hx0)
 rw[(a3 x).2]at h1
 refine⟨v,h1,h2.mono ?_⟩
 rintro e w' ⟨a,dd,rfl,hi,_,_,_,hs⟩
 obtain⟨U',b1,b2⟩:=a1.stepL hx0 hs.stp (Nat.zero_le _)
 have hq:x<q'.length:=by rw[a1.len];exact hx0
 have e:d.onC x Ch.oDrain=setS d x (drainS (d.at' x).s).1:=on_set _ _ _ (by show(6:Int)≠3;decide)
 have hsum:∀j,x<j→sumA (setS d x (drainS (d.at' x).s).1).L j+(d.at' x).s.S.size=sumA d.L j:=λ j hj=>by
  have h:=(sum_setS d x j (drainS (d.at' x).s).1 hx0).1 hj
  have e3:(drainS (d.at' x).s).1.S.size=0:=rfl
  omega
 refine⟨a,dd,rfl,hi,?_⟩
 unfold RmWay
 rw[e]
 refine⟨_,b1,a2.trans b2,Pg.trans (λ j=>p_setN q' x j U' _ hq) a3,λ j hj hj'=>?_,?_⟩
 ·rw[m_setN]
  have:=hsum j (by omega)
  have:=a1.sum j hj'
  omega
 ·have:=hsum d.L.length hx0
  have:=a1.los.2
  omega
theorem rm_cells {x:Nat} {T:ByteArray} (h:RmWay w g p cap q d M x T W) {y:Nat} (hy:y<d.L.length):W.cell? ⟨(nd q y).p,0,none⟩=some (ptr (nd q y).g):=by
 obtain⟨q',a1,_,a3,_⟩:=h
 have:=(a1.pcell (k:=y) (by rw[Ch.len_on];exact hy)).1
 rw[(a3 y).1,(a3 y).2]at this
 exact this
theorem rm_push {x:Nat} {T:ByteArray} (h:RmWay w g p cap q d M x T W) (hx:x+1<d.L.length) (now:Int) {a:Option Addr} {dd:Nat} (hi:Lib.BytesIn W a T.size (gc.nums T)):
  Calls Tryz.prog 125 #[ptr (nd q (x+1)).g,.int .i64 now,.slice a T.size dd] W λ e w'=>e=.returned (.tuple #[])∧CPut w g p cap q ((d.onC x Ch.oDrain).onC (x+1) (Ch.oPush now T)) M w':=by
 obtain⟨q',a1,a2,a3,h4,h5⟩:=h
 have hl:(d.onC x Ch.oDrain).L.length=d.L.length:=Ch.len_on _ _ _
 have hx1:x+1<(d.onC x Ch.oDrain).L.length:=by omega
 have ht:=a1.top
 have hm:=h4 (x+1) (Nat.le_refl _) hx
 rw[←(a3 (x+1)).2]
 refine(force_i (a1.stg (x+1) hx1) now (b:=T) rfl hi (M':=(nd q' (x+1)).m+T.size) (Nat.le_refl _) (by omega)).mono ?_
 rintro e w' ⟨rfl,hs⟩
 have hz:(pushS ((d.onC x Ch.oDrain).at' (x+1)).s now T).S.size≤((d.onC x Ch.oDrain).at' (x+1)).s.S.size+T.size:=by
  have e1:(pushS ((d.onC x Ch.oDrain).at' (x+1)).s now T).S.size=_:=Ch.sz_push ((d.onC x Ch.oDrain).at' (x+1)).s now T
  rw[e1]
  split<;>omega
 have hp:CPut W g p cap q' ((d.onC x Ch.oDrain).onC (x+1) (Ch.oPush now T)) M w':=by
  rw[on_set _ _ _ (show(Ch.oPush now T).kind≠3 by show(1:Int)≠3;decide)]
  exact a1.putM hx1 hs hz (λ j hj hj'=>h4 j (by omega) (by omega)) (by rw[hl];exact h5) (Nat.le_refl _) ht
 obtain⟨q2,b1,b2,b3⟩:=hp
 exact⟨rfl,q2,b1,a2.trans b2,b3.trans a3⟩
theorem cput_del {b o k:Nat} (h:CPut w g (some ⟨b,o,none⟩) cap q d M W) (hk:k+3≤d.L.length):
  Calls Tryz.prog 128 #[.slice (some ⟨b,o,none⟩) d.L.length cap,.int .i64 ((k:Int)+1),.int .i64 ((k:Int)+2)] W λ e w'=>
   ∃a cap',e=.returned (.slice (some a) (d.L.length -1) cap')∧(w'.cell? ⟨g,0,none⟩=some (.slice (some ⟨b,o,none⟩) d.L.length cap)∧w'.frozen? ⟨g,0,none⟩=false)∧CNew w g (some ⟨b,o,none⟩) q (d.rem1 k) M (w'.setCell ⟨g,0,none⟩ (.slice (some a) (d.L.length -1) cap')):=by
 obtain⟨q',a1,a2,a3⟩:=h
 have hi:((k:Int)+1)=((k+1:Nat):Int):=by omega
 have hi2:((k:Int)+2)=((k+1:Nat):Int)+1:=by omega
 rw[hi2,hi]
 refine(del_row a1.row (i:=k+1) (by omega) (λ v hv=>?_)).mono ?_
 ·obtain⟨x,_,rfl⟩:=List.mem_map.1 hv
  rfl
 ·rintro e w' ⟨a,cap',rfl,hr,hg,ha⟩
  obtain⟨b1,b2⟩:=a1.del hk hr hg ha
  have hgb:g≠b:=λ e=>a1.r_ne_g rfl e.symm
  have hblk:w'.heap[g]?=some (.cells (chC (some ⟨b,o,none⟩) d.L.length cap d) 160 (0,0)):=(hg.block g (gb.blk_lt a1.blk) (λ e=>by cases e;exact hgb rfl)).trans a1.blk
  exact⟨a,cap',rfl,⟨cell_of_row _ _ 0 _ _ _ hblk,gb.frozen_at hblk⟩,_,_,_,b1,a2.trans b2⟩
theorem cput_cells {b o:Nat} (h:CPut w g (some ⟨b,o,none⟩) cap q d M W) {x:Nat} (hx:x<d.L.length):W.cell? ⟨(nd q x).p,0,none⟩=some (ptr (nd q x).g)∧W.cell? ⟨(nd q x).p,1,none⟩=some (.bool (d.at' x).closed)∧W.cell? ⟨b,o+x,none⟩=some (ptr (nd q x).p)∧W.cell? ⟨g,0,none⟩=some (.slice (some ⟨b,o,none⟩) d.L.length cap):=by
 obtain⟨q',a1,a2,a3⟩:=h
 have h1:=a1.pcell hx
 have h2:=a1.rowk hx
 rw[(a3 x).1,(a3 x).2]at h1
 rw[(a3 x).1]at h2
 exact⟨h1.1,h1.2.1,h2,a1.cell 0⟩
set_option maxRecDepth 100000 in
set_option maxHeartbeats 4000000 in
theorem remove_no (h:CAt w g p cap q c M) (h2:2≤c.L.length) (at' now:Int) (hn:¬(0≤at'∧at'<(c.L.length:Int) -2)):
  Calls Tryz.prog 91 #[ptr g,.int .i64 at',.int .i64 now] w λ e w'=>e=.returned (.int .i64 110)∧w=w':=by
 have HH:=Lib.hid (has_c h h2 at' (b:=false) (decide_eq_false hn))
 clear h hn
 go_enter Tryz.func91,Tryz.ntmps91
 go_wp2_with fail
 refine HH.out.mono ?_
 rintro e w2 ⟨rfl,rfl⟩
 go_wp2_with fail
 try rw[Exit.noGoto_ret]
 go_ret
 exact⟨rfl,rfl⟩
set_option maxRecDepth 100000 in
set_option maxHeartbeats 16000000 in
theorem remove_none (h:CAt w g p cap q c M) (h2:2≤c.L.length) (k:Nat) (now:Int) (hk:k+2<c.L.length) (hz:(c.at' (k+1)).s.S.size=0):
  Calls Tryz.prog 91 #[ptr g,.int .i64 (k:Int),.int .i64 now] w λ e w'=>e=.returned (.int .i64 0)∧CNew w g p q (c.remC k now) M w':=by
 have h10:=h.ten
 obtain⟨b,o,rfl,hr,hnc,hmx⟩:=h.rows (by omega)
 have HH:=Lib.hid (has_c h h2 (k:Int) (b:=true) (by simp only[decide_eq_true_eq];omega))
 have hp0:=CPut.refl h
 have hk1:k+1<c.L.length:=by omega
 have hk2:k+2<c.L.length:=by omega
 have x0:w.cell? ⟨g,0,none⟩=some (.slice (some ⟨b,o,none⟩) c.L.length cap):=h.cell 0
 have y1:=hr (k+1) hk1
 have y2:=hr (k+2) hk2
 have HHD:=Lib.hid (λ W (hp:CPut w g (some ⟨b,o,none⟩) cap q c M W)=>cput_held hp hk1)
 have hld:c.L.length=c.L.length:=rfl
 have hcl:(c.at' (k+1)).closed=(c.at' (k+1)).closed:=rfl
 have HMT:=Lib.hid (Ch.remP_none c k now (by omega) hz)
 have HLD:=Lib.hid hld
 have HZ:=Lib.hid (λ W (hp:CPut w g (some ⟨b,o,none⟩) cap q c M W)=>(show W.cell? ⟨(nd q (k+1)).p,0,none⟩=some (ptr (nd q (k+1)).g)∧W.cell? ⟨(nd q (k+2)).p,0,none⟩=some (ptr (nd q (k+2)).g)from⟨(cput_cells hp (by omega)).1,(cput_cells hp (by omega)).1⟩))
 have HDR:=Lib.hid (λ W (hp:CPut w g (some ⟨b,o,none⟩) cap q c M W)=>cput_drain (hp.on (Below.refl _ W).drew) (x:=k+1) (by omega))
 have HRC:=Lib.hid (λ W (hp:RmWay w g (some ⟨b,o,none⟩) cap q c M (k+1) (c.at' (k+1)).s.S W)=>rm_cells hp (y:=k+2) (by omega))
 have HPU:=Lib.hid (λ W a dd (hp:RmWay w g (some ⟨b,o,none⟩) cap q c M (k+1) (c.at' (k+1)).s.S W) hi=>rm_push (a:=a) (dd:=dd) hp (by omega) now hi)
 have hat:((c.onC (k+1) Ch.oDrain).onC (k+2) (Ch.oPush now (c.at' (k+1)).s.S)).at' (k+1)=⟨(drainS (c.at' (k+1)).s).1,(c.at' (k+1)).closed⟩:=by
  rw[Ch.at_other _ _ _ _ (by omega),Ch.at_on _ _ _ (by omega),hcl]
  show(⟨_,(c.at' (k+1)).closed||false⟩:Prt)=_
  rw[Bool.or_false]
  rfl
 have HDE:Hid (((c.onC (k+1) Ch.oDrain).onC (k+2) (Ch.oPush now (c.at' (k+1)).s.S)).L.length=c.L.length):=Lib.hid (((Ch.len_on _ _ _).trans (Ch.len_on _ _ _)).trans hld)
 have HRM:=Lib.hid (show c.remC k now=if(c.at' (k+1)).closed=true then(((c.onC (k+1) Ch.oDrain).onC (k+2) (Ch.oPush now (c.at' (k+1)).s.S)).onC (k+2) (Ch.oClose now)).rem1 k else((c.onC (k+1) Ch.oDrain).onC (k+2) (Ch.oPush now (c.at' (k+1)).s.S)).rem1 k from HMT.out.symm)
 obtain⟨E,hE⟩:∃E,(c.onC (k+1) Ch.oDrain).onC (k+2) (Ch.oPush now (c.at' (k+1)).s.S)=E:=⟨_,rfl⟩
 rw[hE]at hat HDE HRM
 have HEE:=Lib.hid hE
 obtain⟨T,hT⟩:∃T,(c.at' (k+1)).s.S=T:=⟨_,rfl⟩
 rw[hT]at HDR HRC HPU HEE
 obtain⟨cl,hclv⟩:∃cl,(c.at' (k+1)).closed=cl:=⟨_,rfl⟩
 rw[hclv]at hat HRM
 have HCE:=Lib.hid (λ W (hp:CPut w g (some ⟨b,o,none⟩) cap q E M W)=>(show W.cell? ⟨(nd q (k+1)).p,1,none⟩=some (.bool cl)∧W.cell? ⟨g,0,none⟩=some (.slice (some ⟨b,o,none⟩) c.L.length cap)from by
  have h1:=(cput_cells hp (x:=k+1) (by rw[HDE.out];exact hk1))
  rw[hat,HDE.out]at h1
  exact⟨h1.2.1,h1.2.2.2⟩))
 have HSH:=Lib.hid (λ W (hp:CPut w g (some ⟨b,o,none⟩) cap q E M W)=>cput_close hp (x:=k+2) (by rw[HDE.out];exact hk2) now)
 have HCF:=Lib.hid (λ W (hp:CPut w g (some ⟨b,o,none⟩) cap q (E.onC (k+2) (Ch.oClose now)) M W)=>(show W.cell? ⟨g,0,none⟩=some (.slice (some ⟨b,o,none⟩) c.L.length cap)from by
  have h1:=(cput_cells hp (x:=k+1) (by rw[Ch.len_on,HDE.out];exact hk1)).2.2.2
  rw[Ch.len_on,HDE.out]at h1
  exact h1))
 have HDL:=Lib.hid (λ W (hp:CPut w g (some ⟨b,o,none⟩) cap q E M W)=>(show _ from by
  have h1:=cput_del hp (k:=k) (by rw[HDE.out];omega)
  rw[HDE.out]at h1
  exact h1))
 have HDC:=Lib.hid (λ W (hp:CPut w g (some ⟨b,o,none⟩) cap q (E.onC (k+2) (Ch.oClose now)) M W)=>(show _ from by
  have h1:=cput_del hp (k:=k) (by rw[Ch.len_on,HDE.out];omega)
  rw[Ch.len_on,HDE.out]at h1
  exact h1))
 have HP0:=Lib.hid hp0
 have HZC:=Lib.hid (λ W (hp:CPut w g (some ⟨b,o,none⟩) cap q c M W)=>(show W.cell? ⟨(nd q (k+1)).p,0,none⟩=some (ptr (nd q (k+1)).g)∧W.cell? ⟨(nd q (k+2)).p,0,none⟩=some (ptr (nd q (k+2)).g)from⟨(cput_cells hp hk1).1,(cput_cells hp hk2).1⟩))
 have hti1:((k:Int)+1).toNat=k+1:=by omega
 have hti2:((k:Int)+2).toNat=k+2:=by omega
 have hi0:(0:Int)≤(k:Int)+1:=by omega
 have hi2:(0:Int)≤(k:Int)+2:=by omega
 have hi1:(k:Int)+1<(c.L.length:Int):=by omega
 have hi3:(k:Int)+2<(c.L.length:Int):=by omega
 have hiw:IntKind.i64.wrap ((k:Int)+1)=(k:Int)+1:=wrap_id (by omega) (by omega)
 have hiw2:IntKind.i64.wrap ((k:Int)+2)=(k:Int)+2:=wrap_id (by omega) (by omega)
 have hk10:k≤10:=by omega
 rw[hz]at HHD
 generalize hn:c.L.length=n at x0 hnc h2 hk hk1 hk2 HH hi1 hi3 h10 HCE HCF HDL HDC
 generalize(nd q (k+1)).p=p1 at*
 generalize(nd q (k+1)).g=g1 at*
 generalize(nd q (k+2)).p=p2 at*
 generalize(nd q (k+2)).g=g2 at*
 clear h hr hp0 hld hcl hat hE hT hclv hn
 go_enter Tryz.func91,Tryz.ntmps91
 go_wp2_with fail
 refine HH.out.mono ?_
 rintro e w2 ⟨rfl,rfl⟩
 go_wp2_with fail
 go_quiet (fail)
 have HP1:=Lib.hid (HP0.out.on (gc.below_drewN w nq))
 generalize w.drewN nq=W0 at*
 have z1:=(HZC.out W0 HP1.out).1
 have z2:=(HZC.out W0 HP1.out).2
 all_goals
  go_wp2_with fail
  refine(HHD.out _ HP1.out).mono ?_
  rintro e w2 ⟨rfl,rfl⟩
  have HC1:=HP1
  skip
  go_wp2_with fail
  obtain⟨v,zc,hcd⟩:=HDR.out _ HC1.out
  have za:=(HZ.out _ HC1.out).1
  have zb:=(HZ.out _ HC1.out).2
  skip
  have HCD:=Lib.hid hcd
  clear hcd x0 y1 y2 z1 z2 HDR HZ
  generalize T.size=K at*
  go_region_law (first
   |(go_simp;go_at_call 126;refine Calls.mono HCD.out ?_;rintro e w7 ⟨a,dd,rfl,hi7,hw7⟩;(have zb7:=HRC.out w7 hw7);(have HI7:=Lib.hid hi7);(have HW7:=Lib.hid hw7);clear hi7 hw7)
   |(go_simp;go_at_call 125;refine Calls.mono (HPU.out w7 a dd HW7.out HI7.out) ?_;rintro e w8 ⟨rfl,hp8⟩;(have hp9:CPut w g (some ⟨b,o,none⟩) cap q E M w8:=by rw[←HEE.out];exact hp8);(have HP8:=Lib.hid hp9);clear hp8 hp9))
  all_goals
   have r1:=(HCE.out w8 HP8.out).1
   have r0:=(HCE.out w8 HP8.out).2
   clear za zb zc zb7 HCD HI7 HW7
   cases cl with
   |true=>
    go_wp2_with (first
     |(go_at_call 127;refine(HSH.out w8 HP8.out).mono ?_;rintro e w9 ⟨rfl,hp9⟩;(have r9:=HCF.out w9 hp9);(have HP9:=Lib.hid hp9);clear hp9 r0 r1)
     |(go_at_call 128;refine(HDC.out w9 HP9.out).mono ?_;rintro e wa ⟨aa,cap',rfl,⟨t0,tf⟩,hc⟩;(have HC9:=Lib.hid hc);clear hc r9))
    try rw[Exit.noGoto_ret]
    go_ret
    refine⟨rfl,?_⟩
    rw[HRM.out]
    first|rw[if_pos rfl]|rw[if_pos trivial]
    exact HC9.out
   |false=>
    go_wp2_with (go_at_call 128;refine(HDL.out w8 HP8.out).mono ?_;rintro e wa ⟨aa,cap',rfl,⟨t0,tf⟩,hc⟩;(have HC9:=Lib.hid hc);clear hc r0 r1)
    try rw[Exit.noGoto_ret]
    go_ret
    refine⟨rfl,?_⟩
    rw[HRM.out]
    first|rw[if_neg (by decide)]|rw[if_neg not_false]
    exact HC9.out
set_option maxRecDepth 100000 in
set_option maxHeartbeats 16000000 in
theorem remove_open (h:CAt w g p cap q c M) (h2:2≤c.L.length) (k:Nat) (now:Int) (hk:k+2<c.L.length) (hz:0<(c.at' (k+1)).s.S.size) (h0:(lookS (c.at' (k+2)).s now).st=0):
  Calls Tryz.prog 91 #[ptr g,.int .i64 (k:Int),.int .i64 now] w λ e w'=>e=.returned (.int .i64 0)∧CNew w g p q (c.remC k now) M w':=by
 have h10:=h.ten
 obtain⟨b,o,rfl,hr,hnc,hmx⟩:=h.rows (by omega)
 have HH:=Lib.hid (has_c h h2 (k:Int) (b:=true) (by simp only[decide_eq_true_eq];omega))
 have hp0:=CPut.refl h
 have hk1:k+1<c.L.length:=by omega
 have hk2:k+2<c.L.length:=by omega
 have x0:w.cell? ⟨g,0,none⟩=some (.slice (some ⟨b,o,none⟩) c.L.length cap):=h.cell 0
 have y1:=hr (k+1) hk1
 have y2:=hr (k+2) hk2
 have HHD:=Lib.hid (λ W (hp:CPut w g (some ⟨b,o,none⟩) cap q c M W)=>cput_held hp hk1)
 have HST:=Lib.hid (λ W (hp:CPut w g (some ⟨b,o,none⟩) cap q c M W)=>cput_state hp hk2 now)
 have hld:(c.onC (k+2) (Ch.oLook now)).L.length=c.L.length:=Ch.len_on _ _ _
 have hcl:((c.onC (k+2) (Ch.oLook now)).at' (k+1)).closed=(c.at' (k+1)).closed:=congrArg Prt.closed (Ch.at_other c (k+2) (k+1) (Ch.oLook now) (by omega))
 have HMT:=Lib.hid (Ch.remP_open c k now (by omega) h0)
 have HLD:=Lib.hid hld
 have HZ:=Lib.hid (λ W (hp:CPut w g (some ⟨b,o,none⟩) cap q (c.onC (k+2) (Ch.oLook now)) M W)=>(show W.cell? ⟨(nd q (k+1)).p,0,none⟩=some (ptr (nd q (k+1)).g)∧W.cell? ⟨(nd q (k+2)).p,0,none⟩=some (ptr (nd q (k+2)).g)from⟨(cput_cells hp (by omega)).1,(cput_cells hp (by omega)).1⟩))
 have HDR:=Lib.hid (λ W (hp:CPut w g (some ⟨b,o,none⟩) cap q (c.onC (k+2) (Ch.oLook now)) M W)=>cput_drain (hp.on (Below.refl _ W).drew) (x:=k+1) (by omega))
 have HRC:=Lib.hid (λ W (hp:RmWay w g (some ⟨b,o,none⟩) cap q (c.onC (k+2) (Ch.oLook now)) M (k+1) ((c.onC (k+2) (Ch.oLook now)).at' (k+1)).s.S W)=>rm_cells hp (y:=k+2) (by omega))
 have HPU:=Lib.hid (λ W a dd (hp:RmWay w g (some ⟨b,o,none⟩) cap q (c.onC (k+2) (Ch.oLook now)) M (k+1) ((c.onC (k+2) (Ch.oLook now)).at' (k+1)).s.S W) hi=>rm_push (a:=a) (dd:=dd) hp (by omega) now hi)
 have hat:(((c.onC (k+2) (Ch.oLook now)).onC (k+1) Ch.oDrain).onC (k+2) (Ch.oPush now ((c.onC (k+2) (Ch.oLook now)).at' (k+1)).s.S)).at' (k+1)=⟨(drainS ((c.onC (k+2) (Ch.oLook now)).at' (k+1)).s).1,(c.at' (k+1)).closed⟩:=by
  rw[Ch.at_other _ _ _ _ (by omega),Ch.at_on _ _ _ (by omega),hcl]
  show(⟨_,(c.at' (k+1)).closed||false⟩:Prt)=_
  rw[Bool.or_false]
  rfl
 have HDE:Hid ((((c.onC (k+2) (Ch.oLook now)).onC (k+1) Ch.oDrain).onC (k+2) (Ch.oPush now ((c.onC (k+2) (Ch.oLook now)).at' (k+1)).s.S)).L.length=c.L.length):=Lib.hid (((Ch.len_on _ _ _).trans (Ch.len_on _ _ _)).trans hld)
 have HRM:=Lib.hid (show c.remC k now=if(c.at' (k+1)).closed=true then((((c.onC (k+2) (Ch.oLook now)).onC (k+1) Ch.oDrain).onC (k+2) (Ch.oPush now ((c.onC (k+2) (Ch.oLook now)).at' (k+1)).s.S)).onC (k+2) (Ch.oClose now)).rem1 k else(((c.onC (k+2) (Ch.oLook now)).onC (k+1) Ch.oDrain).onC (k+2) (Ch.oPush now ((c.onC (k+2) (Ch.oLook now)).at' (k+1)).s.S)).rem1 k from HMT.out.symm)
 obtain⟨E,hE⟩:∃E,((c.onC (k+2) (Ch.oLook now)).onC (k+1) Ch.oDrain).onC (k+2) (Ch.oPush now ((c.onC (k+2) (Ch.oLook now)).at' (k+1)).s.S)=E:=⟨_,rfl⟩
 rw[hE]at hat HDE HRM
 have HEE:=Lib.hid hE
 obtain⟨T,hT⟩:∃T,((c.onC (k+2) (Ch.oLook now)).at' (k+1)).s.S=T:=⟨_,rfl⟩
 rw[hT]at HDR HRC HPU HEE
 obtain⟨cl,hclv⟩:∃cl,(c.at' (k+1)).closed=cl:=⟨_,rfl⟩
 rw[hclv]at hat HRM
 have HCE:=Lib.hid (λ W (hp:CPut w g (some ⟨b,o,none⟩) cap q E M W)=>(show W.cell? ⟨(nd q (k+1)).p,1,none⟩=some (.bool cl)∧W.cell? ⟨g,0,none⟩=some (.slice (some ⟨b,o,none⟩) c.L.length cap)from by
  have h1:=(cput_cells hp (x:=k+1) (by rw[HDE.out];exact hk1))
  rw[hat,HDE.out]at h1
  exact⟨h1.2.1,h1.2.2.2⟩))
 have HSH:=Lib.hid (λ W (hp:CPut w g (some ⟨b,o,none⟩) cap q E M W)=>cput_close hp (x:=k+2) (by rw[HDE.out];exact hk2) now)
 have HCF:=Lib.hid (λ W (hp:CPut w g (some ⟨b,o,none⟩) cap q (E.onC (k+2) (Ch.oClose now)) M W)=>(show W.cell? ⟨g,0,none⟩=some (.slice (some ⟨b,o,none⟩) c.L.length cap)from by
  have h1:=(cput_cells hp (x:=k+1) (by rw[Ch.len_on,HDE.out];exact hk1)).2.2.2
  rw[Ch.len_on,HDE.out]at h1
  exact h1))
 have HDL:=Lib.hid (λ W (hp:CPut w g (some ⟨b,o,none⟩) cap q E M W)=>(show _ from by
  have h1:=cput_del hp (k:=k) (by rw[HDE.out];omega)
  rw[HDE.out]at h1
  exact h1))
 have HDC:=Lib.hid (λ W (hp:CPut w g (some ⟨b,o,none⟩) cap q (E.onC (k+2) (Ch.oClose now)) M W)=>(show _ from by
  have h1:=cput_del hp (k:=k) (by rw[Ch.len_on,HDE.out];omega)
  rw[Ch.len_on,HDE.out]at h1
  exact h1))
 have HP0:=Lib.hid hp0
 have HZC:=Lib.hid (λ W (hp:CPut w g (some ⟨b,o,none⟩) cap q c M W)=>(show W.cell? ⟨(nd q (k+1)).p,0,none⟩=some (ptr (nd q (k+1)).g)∧W.cell? ⟨(nd q (k+2)).p,0,none⟩=some (ptr (nd q (k+2)).g)from⟨(cput_cells hp hk1).1,(cput_cells hp hk2).1⟩))
 have hti1:((k:Int)+1).toNat=k+1:=by omega
 have hti2:((k:Int)+2).toNat=k+2:=by omega
 have hi0:(0:Int)≤(k:Int)+1:=by omega
 have hi2:(0:Int)≤(k:Int)+2:=by omega
 have hi1:(k:Int)+1<(c.L.length:Int):=by omega
 have hi3:(k:Int)+2<(c.L.length:Int):=by omega
 have hiw:IntKind.i64.wrap ((k:Int)+1)=(k:Int)+1:=wrap_id (by omega) (by omega)
 have hiw2:IntKind.i64.wrap ((k:Int)+2)=(k:Int)+2:=wrap_id (by omega) (by omega)
 have hk10:k≤10:=by omega
 have hzd:decide ((0:Int)<((c.at' (k+1)).s.S.size:Int))=true:=by simpa using hz
 have hzd2:decide (0<(c.at' (k+1)).s.S.size)=true:=by simpa using hz
 generalize hSz:(c.at' (k+1)).s.S.size=Sz at HHD hzd hzd2 hz
 rw[h0]at HST
 generalize hD:(c.onC (k+2) (Ch.oLook now))=D at*
 generalize hn:c.L.length=n at x0 hnc h2 hk hk1 hk2 HH hi1 hi3 h10 HCE HCF HDL HDC
 generalize(nd q (k+1)).p=p1 at*
 generalize(nd q (k+1)).g=g1 at*
 generalize(nd q (k+2)).p=p2 at*
 generalize(nd q (k+2)).g=g2 at*
 clear h hr hp0 hld hcl hat hE hT hclv hn hD hSz
 go_enter Tryz.func91,Tryz.ntmps91
 go_wp2_with fail
 refine HH.out.mono ?_
 rintro e w2 ⟨rfl,rfl⟩
 go_wp2_with fail
 go_quiet (fail)
 have HP1:=Lib.hid (HP0.out.on (gc.below_drewN w nq))
 generalize w.drewN nq=W0 at*
 have z1:=(HZC.out W0 HP1.out).1
 have z2:=(HZC.out W0 HP1.out).2
 all_goals
  go_wp2_with fail
  refine(HHD.out _ HP1.out).mono ?_
  rintro e w2 ⟨rfl,rfl⟩
  go_wp2_with fail
  refine(HST.out _ HP1.out).mono ?_
  rintro e W1 ⟨rfl,hp3⟩
  have HC1:=Lib.hid hp3
  clear hp3
  go_wp2_with fail
  obtain⟨v,zc,hcd⟩:=HDR.out _ HC1.out
  have za:=(HZ.out _ HC1.out).1
  have zb:=(HZ.out _ HC1.out).2
  skip
  have HCD:=Lib.hid hcd
  clear hcd x0 y1 y2 z1 z2 HDR HZ
  generalize T.size=K at*
  go_region_law (first
   |(go_simp;go_at_call 126;refine Calls.mono HCD.out ?_;rintro e w7 ⟨a,dd,rfl,hi7,hw7⟩;(have zb7:=HRC.out w7 hw7);(have HI7:=Lib.hid hi7);(have HW7:=Lib.hid hw7);clear hi7 hw7)
   |(go_simp;go_at_call 125;refine Calls.mono (HPU.out w7 a dd HW7.out HI7.out) ?_;rintro e w8 ⟨rfl,hp8⟩;(have hp9:CPut w g (some ⟨b,o,none⟩) cap q E M w8:=by rw[←HEE.out];exact hp8);(have HP8:=Lib.hid hp9);clear hp8 hp9))
  all_goals
   have r1:=(HCE.out w8 HP8.out).1
   have r0:=(HCE.out w8 HP8.out).2
   clear za zb zc zb7 HCD HI7 HW7
   cases cl with
   |true=>
    go_wp2_with (first
     |(go_at_call 127;refine(HSH.out w8 HP8.out).mono ?_;rintro e w9 ⟨rfl,hp9⟩;(have r9:=HCF.out w9 hp9);(have HP9:=Lib.hid hp9);clear hp9 r0 r1)
     |(go_at_call 128;refine(HDC.out w9 HP9.out).mono ?_;rintro e wa ⟨aa,cap',rfl,⟨t0,tf⟩,hc⟩;(have HC9:=Lib.hid hc);clear hc r9))
    try rw[Exit.noGoto_ret]
    go_ret
    refine⟨rfl,?_⟩
    rw[HRM.out]
    first|rw[if_pos rfl]|rw[if_pos trivial]
    exact HC9.out
   |false=>
    go_wp2_with (go_at_call 128;refine(HDL.out w8 HP8.out).mono ?_;rintro e wa ⟨aa,cap',rfl,⟨t0,tf⟩,hc⟩;(have HC9:=Lib.hid hc);clear hc r0 r1)
    try rw[Exit.noGoto_ret]
    go_ret
    refine⟨rfl,?_⟩
    rw[HRM.out]
    first|rw[if_neg (by decide)]|rw[if_neg not_false]
    exact HC9.out
set_option maxRecDepth 100000 in
set_option maxHeartbeats 16000000 in
theorem remove_lost (h:CAt w g p cap q c M) (h2:2≤c.L.length) (k:Nat) (now:Int) (hk:k+2<c.L.length) (hz:0<(c.at' (k+1)).s.S.size) (h0:(lookS (c.at' (k+2)).s now).st≠0):
  Calls Tryz.prog 91 #[ptr g,.int .i64 (k:Int),.int .i64 now] w λ e w'=>e=.returned (.int .i64 0)∧CNew w g p q (c.remC k now) M w':=by
 have h10:=h.ten
 obtain⟨b,o,rfl,hr,hnc,hmx⟩:=h.rows (by omega)
 have HH:=Lib.hid (has_c h h2 (k:Int) (b:=true) (by simp only[decide_eq_true_eq];omega))
 have hp0:=CPut.refl h
 have hk1:k+1<c.L.length:=by omega
 have hk2:k+2<c.L.length:=by omega
 have x0:w.cell? ⟨g,0,none⟩=some (.slice (some ⟨b,o,none⟩) c.L.length cap):=h.cell 0
 have y1:=hr (k+1) hk1
 have y2:=hr (k+2) hk2
 have HHD:=Lib.hid (λ W (hp:CPut w g (some ⟨b,o,none⟩) cap q c M W)=>cput_held hp hk1)
 have HST:=Lib.hid (λ W (hp:CPut w g (some ⟨b,o,none⟩) cap q c M W)=>cput_state hp hk2 now)
 have HLO:=Lib.hid (λ W (hp:CPut w g (some ⟨b,o,none⟩) cap q (c.onC (k+2) (Ch.oLook now)) M W)=>cput_lose hp (by rw[Ch.len_on];exact h2) (k+2) (by rw[Ch.len_on];omega))
 have hkl:((k+2:Nat):Int)=(k:Int)+2:=by omega
 rw[hkl]at HLO
 have hld:((c.onC (k+2) (Ch.oLook now)).lose (k+2)).L.length=c.L.length:=(Ch.len_lose _ _).trans (Ch.len_on _ _ _)
 have hcl:(((c.onC (k+2) (Ch.oLook now)).lose (k+2)).at' (k+1)).closed=(c.at' (k+1)).closed:=(Ch.lose_same (c.onC (k+2) (Ch.oLook now)) (k+2) (by rw[Ch.len_on];omega) (k+1) (by rw[Ch.len_on];omega)).1.trans (congrArg Prt.closed (Ch.at_other c (k+2) (k+1) (Ch.oLook now) (by omega)))
 have HMT:=Lib.hid (Ch.remP_lost c k now (by omega) hz h0)
 have HLD:=Lib.hid hld
 have HZ:=Lib.hid (λ W (hp:CPut w g (some ⟨b,o,none⟩) cap q ((c.onC (k+2) (Ch.oLook now)).lose (k+2)) M W)=>(show W.cell? ⟨(nd q (k+1)).p,0,none⟩=some (ptr (nd q (k+1)).g)∧W.cell? ⟨(nd q (k+2)).p,0,none⟩=some (ptr (nd q (k+2)).g)from⟨(cput_cells hp (by omega)).1,(cput_cells hp (by omega)).1⟩))
 have HDR:=Lib.hid (λ W (hp:CPut w g (some ⟨b,o,none⟩) cap q ((c.onC (k+2) (Ch.oLook now)).lose (k+2)) M W)=>cput_drain (hp.on (Below.refl _ W).drew) (x:=k+1) (by omega))
 have HRC:=Lib.hid (λ W (hp:RmWay w g (some ⟨b,o,none⟩) cap q ((c.onC (k+2) (Ch.oLook now)).lose (k+2)) M (k+1) (((c.onC (k+2) (Ch.oLook now)).lose (k+2)).at' (k+1)).s.S W)=>rm_cells hp (y:=k+2) (by omega))
 have HPU:=Lib.hid (λ W a dd (hp:RmWay w g (some ⟨b,o,none⟩) cap q ((c.onC (k+2) (Ch.oLook now)).lose (k+2)) M (k+1) (((c.onC (k+2) (Ch.oLook now)).lose (k+2)).at' (k+1)).s.S W) hi=>rm_push (a:=a) (dd:=dd) hp (by omega) now hi)
 have hat:((((c.onC (k+2) (Ch.oLook now)).lose (k+2)).onC (k+1) Ch.oDrain).onC (k+2) (Ch.oPush now (((c.onC (k+2) (Ch.oLook now)).lose (k+2)).at' (k+1)).s.S)).at' (k+1)=⟨(drainS (((c.onC (k+2) (Ch.oLook now)).lose (k+2)).at' (k+1)).s).1,(c.at' (k+1)).closed⟩:=by
  rw[Ch.at_other _ _ _ _ (by omega),Ch.at_on _ _ _ (by omega),hcl]
  show(⟨_,(c.at' (k+1)).closed||false⟩:Prt)=_
  rw[Bool.or_false]
  rfl
 have HDE:Hid (((((c.onC (k+2) (Ch.oLook now)).lose (k+2)).onC (k+1) Ch.oDrain).onC (k+2) (Ch.oPush now (((c.onC (k+2) (Ch.oLook now)).lose (k+2)).at' (k+1)).s.S)).L.length=c.L.length):=Lib.hid (((Ch.len_on _ _ _).trans (Ch.len_on _ _ _)).trans hld)
 have HRM:=Lib.hid (show c.remC k now=if(c.at' (k+1)).closed=true then(((((c.onC (k+2) (Ch.oLook now)).lose (k+2)).onC (k+1) Ch.oDrain).onC (k+2) (Ch.oPush now (((c.onC (k+2) (Ch.oLook now)).lose (k+2)).at' (k+1)).s.S)).onC (k+2) (Ch.oClose now)).rem1 k else((((c.onC (k+2) (Ch.oLook now)).lose (k+2)).onC (k+1) Ch.oDrain).onC (k+2) (Ch.oPush now (((c.onC (k+2) (Ch.oLook now)).lose (k+2)).at' (k+1)).s.S)).rem1 k from HMT.out.symm)
 obtain⟨E,hE⟩:∃E,(((c.onC (k+2) (Ch.oLook now)).lose (k+2)).onC (k+1) Ch.oDrain).onC (k+2) (Ch.oPush now (((c.onC (k+2) (Ch.oLook now)).lose (k+2)).at' (k+1)).s.S)=E:=⟨_,rfl⟩
 rw[hE]at hat HDE HRM
 have HEE:=Lib.hid hE
 obtain⟨T,hT⟩:∃T,(((c.onC (k+2) (Ch.oLook now)).lose (k+2)).at' (k+1)).s.S=T:=⟨_,rfl⟩
 rw[hT]at HDR HRC HPU HEE
 obtain⟨cl,hclv⟩:∃cl,(c.at' (k+1)).closed=cl:=⟨_,rfl⟩
 rw[hclv]at hat HRM
 have HCE:=Lib.hid (λ W (hp:CPut w g (some ⟨b,o,none⟩) cap q E M W)=>(show W.cell? ⟨(nd q (k+1)).p,1,none⟩=some (.bool cl)∧W.cell? ⟨g,0,none⟩=some (.slice (some ⟨b,o,none⟩) c.L.length cap)from by
  have h1:=(cput_cells hp (x:=k+1) (by rw[HDE.out];exact hk1))
  rw[hat,HDE.out]at h1
  exact⟨h1.2.1,h1.2.2.2⟩))
 have HSH:=Lib.hid (λ W (hp:CPut w g (some ⟨b,o,none⟩) cap q E M W)=>cput_close hp (x:=k+2) (by rw[HDE.out];exact hk2) now)
 have HCF:=Lib.hid (λ W (hp:CPut w g (some ⟨b,o,none⟩) cap q (E.onC (k+2) (Ch.oClose now)) M W)=>(show W.cell? ⟨g,0,none⟩=some (.slice (some ⟨b,o,none⟩) c.L.length cap)from by
  have h1:=(cput_cells hp (x:=k+1) (by rw[Ch.len_on,HDE.out];exact hk1)).2.2.2
  rw[Ch.len_on,HDE.out]at h1
  exact h1))
 have HDL:=Lib.hid (λ W (hp:CPut w g (some ⟨b,o,none⟩) cap q E M W)=>(show _ from by
  have h1:=cput_del hp (k:=k) (by rw[HDE.out];omega)
  rw[HDE.out]at h1
  exact h1))
 have HDC:=Lib.hid (λ W (hp:CPut w g (some ⟨b,o,none⟩) cap q (E.onC (k+2) (Ch.oClose now)) M W)=>(show _ from by
  have h1:=cput_del hp (k:=k) (by rw[Ch.len_on,HDE.out];omega)
  rw[Ch.len_on,HDE.out]at h1
  exact h1))
 have HP0:=Lib.hid hp0
 have HZC:=Lib.hid (λ W (hp:CPut w g (some ⟨b,o,none⟩) cap q c M W)=>(show W.cell? ⟨(nd q (k+1)).p,0,none⟩=some (ptr (nd q (k+1)).g)∧W.cell? ⟨(nd q (k+2)).p,0,none⟩=some (ptr (nd q (k+2)).g)from⟨(cput_cells hp hk1).1,(cput_cells hp hk2).1⟩))
 have hti1:((k:Int)+1).toNat=k+1:=by omega
 have hti2:((k:Int)+2).toNat=k+2:=by omega
 have hi0:(0:Int)≤(k:Int)+1:=by omega
 have hi2:(0:Int)≤(k:Int)+2:=by omega
 have hi1:(k:Int)+1<(c.L.length:Int):=by omega
 have hi3:(k:Int)+2<(c.L.length:Int):=by omega
 have hiw:IntKind.i64.wrap ((k:Int)+1)=(k:Int)+1:=wrap_id (by omega) (by omega)
 have hiw2:IntKind.i64.wrap ((k:Int)+2)=(k:Int)+2:=wrap_id (by omega) (by omega)
 have hk10:k≤10:=by omega
 have hzd:decide ((0:Int)<((c.at' (k+1)).s.S.size:Int))=true:=by simpa using hz
 have hzd2:decide (0<(c.at' (k+1)).s.S.size)=true:=by simpa using hz
 generalize hSz:(c.at' (k+1)).s.S.size=Sz at HHD hzd hzd2 hz
 have d1:decide ((lookS (c.at' (k+2)).s now).st=0)=false:=by simpa using h0
 have d2:((lookS (c.at' (k+2)).s now).st==0)=false:=by simpa using h0
 have d3:((lookS (c.at' (k+2)).s now).st !=0)=true:=by simpa using h0
 generalize(lookS (c.at' (k+2)).s now).st=X at*
 generalize hD:((c.onC (k+2) (Ch.oLook now)).lose (k+2))=D at*
 generalize hn:c.L.length=n at x0 hnc h2 hk hk1 hk2 HH hi1 hi3 h10 HCE HCF HDL HDC
 generalize(nd q (k+1)).p=p1 at*
 generalize(nd q (k+1)).g=g1 at*
 generalize(nd q (k+2)).p=p2 at*
 generalize(nd q (k+2)).g=g2 at*
 clear h hr hp0 hld hcl hat hE hT hclv hn hD hSz
 go_enter Tryz.func91,Tryz.ntmps91
 go_wp2_with fail
 refine HH.out.mono ?_
 rintro e w2 ⟨rfl,rfl⟩
 go_wp2_with fail
 go_quiet (fail)
 have HP1:=Lib.hid (HP0.out.on (gc.below_drewN w nq))
 generalize w.drewN nq=W0 at*
 have z1:=(HZC.out W0 HP1.out).1
 have z2:=(HZC.out W0 HP1.out).2
 all_goals
  go_wp2_with fail
  refine(HHD.out _ HP1.out).mono ?_
  rintro e w2 ⟨rfl,rfl⟩
  go_wp2_with fail
  refine(HST.out _ HP1.out).mono ?_
  rintro e W1 ⟨rfl,hp3⟩
  have HC0:=Lib.hid (HLO.out _ hp3)
  clear hp3
  go_wp2_with fail
  refine HC0.out.mono ?_
  rintro e W1 ⟨rfl,hp4⟩
  have HC1:=Lib.hid hp4
  clear hp4 HC0
  go_wp2_with fail
  obtain⟨v,zc,hcd⟩:=HDR.out _ HC1.out
  have za:=(HZ.out _ HC1.out).1
  have zb:=(HZ.out _ HC1.out).2
  skip
  have HCD:=Lib.hid hcd
  clear hcd x0 y1 y2 z1 z2 HDR HZ
  generalize T.size=K at*
  go_region_law (first
   |(go_simp;go_at_call 126;refine Calls.mono HCD.out ?_;rintro e w7 ⟨a,dd,rfl,hi7,hw7⟩;(have zb7:=HRC.out w7 hw7);(have HI7:=Lib.hid hi7);(have HW7:=Lib.hid hw7);clear hi7 hw7)
   |(go_simp;go_at_call 125;refine Calls.mono (HPU.out w7 a dd HW7.out HI7.out) ?_;rintro e w8 ⟨rfl,hp8⟩;(have hp9:CPut w g (some ⟨b,o,none⟩) cap q E M w8:=by rw[←HEE.out];exact hp8);(have HP8:=Lib.hid hp9);clear hp8 hp9))
  all_goals
   have r1:=(HCE.out w8 HP8.out).1
   have r0:=(HCE.out w8 HP8.out).2
   clear za zb zc zb7 HCD HI7 HW7
   cases cl with
   |true=>
    go_wp2_with (first
     |(go_at_call 127;refine(HSH.out w8 HP8.out).mono ?_;rintro e w9 ⟨rfl,hp9⟩;(have r9:=HCF.out w9 hp9);(have HP9:=Lib.hid hp9);clear hp9 r0 r1)
     |(go_at_call 128;refine(HDC.out w9 HP9.out).mono ?_;rintro e wa ⟨aa,cap',rfl,⟨t0,tf⟩,hc⟩;(have HC9:=Lib.hid hc);clear hc r9))
    try rw[Exit.noGoto_ret]
    go_ret
    refine⟨rfl,?_⟩
    rw[HRM.out]
    first|rw[if_pos rfl]|rw[if_pos trivial]
    exact HC9.out
   |false=>
    go_wp2_with (go_at_call 128;refine(HDL.out w8 HP8.out).mono ?_;rintro e wa ⟨aa,cap',rfl,⟨t0,tf⟩,hc⟩;(have HC9:=Lib.hid hc);clear hc r0 r1)
    try rw[Exit.noGoto_ret]
    go_ret
    refine⟨rfl,?_⟩
    rw[HRM.out]
    first|rw[if_neg (by decide)]|rw[if_neg not_false]
    exact HC9.out
theorem remove_yes (h:CAt w g p cap q c M) (h2:2≤c.L.length) (k:Nat) (now:Int) (hk:k+2<c.L.length):
  Calls Tryz.prog 91 #[ptr g,.int .i64 (k:Int),.int .i64 now] w λ e w'=>e=.returned (.int .i64 0)∧CNew w g p q (c.remC k now) M w':=by
 by_cases hz:(c.at' (k+1)).s.S.size=0
 ·exact remove_none h h2 k now hk hz
 ·by_cases h0:(lookS (c.at' (k+2)).s now).st=0
  ·exact remove_open h h2 k now hk (by omega) h0
  ·exact remove_lost h h2 k now hk (by omega) h0
end
end Go.Proofs.YtdighjgcnaajgaaGreat
