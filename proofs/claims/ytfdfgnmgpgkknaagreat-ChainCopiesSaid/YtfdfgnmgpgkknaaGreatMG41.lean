import Derived.Test.YtfdfgnmgpgkknaaGreatMG40
set_option maxRecDepth 100000
set_option maxHeartbeats 8000000
open Go.Proofs.Tryz renaming prog→zf
open Go.Lib renaming hid→zd
open Nat renaming le_refl→zg
open Go renaming bodyPost_ret→zk,heap_alloc_new→zo
open List renaming getD_eq_getElem?_getD→zi,length_take→zw,getElem?_eq_getElem→zj
open Go.RowKit.Below renaming refl→zh
open Go.Calls renaming mono→zr
open Go.Proofs.Tryz
namespace Go.Proofs.YtfdfgnmgpgkknaaGreat
section
open Go.RowKit
attribute [local go_sem ↓] ZY ZD Xy Z3 Xx Z2 Jb XP Z4
attribute [local go_sem] Z0 ZK ZF Zu Z5 ZQ Xj ZZ okC okN okS Yk
structure Kok (k:Ch) (M:Nat):Prop where
 fine:Ch.Fine k M
 top:M≤100000
 lost:0≤k.lost
 bal:k.bal≤1000000
theorem Kok.of {k k':Ch} {M:Nat} (h:Kok k M) (hf:Ch.Fine k' M) (hl:k.lost≤k'.lost) (hb:k'.bal=k.bal):Kok k' M:=⟨hf,h.top,by have:=h.lost;omega,by rw[hb];exact h.bal⟩
theorem Kok.qg {k:Ch} {M:Nat} (h:Kok k M) (m:Nat) (hm:m≤k.L.length):Kok (k.qg m) M:=h.of (h.fine.qg m hm) (Ch.Yb k m) (Ch.Kv k m hm)
theorem Kok.Za {k:Ch} {M:Nat} (h:Kok k M) (m:Nat) (hm:m≤k.L.length):Kok (k.Za m) M:=h.of (h.fine.Za m hm) (Ch.Yb k m) (Ch.Vv k m hm)
theorem Kok.sum {k:Ch} {M:Nat} (h:Kok k M) (i:Nat) (hi:i<k.L.length):0≤k.lost∧k.lost+((k.at' i).s.S.size:Int)≤1000000:=by
 have h1:=h.bal
 have h2:((k.L.take (i+1)).map λ p=>p.s.S.size).sum≤(k.L.map λ p=>p.s.S.size).sum:=by
  conv=>rhs;rw[←List.take_append_drop (i+1) k.L,List.map_append,List.sum_append]
  omega
 have h3:(k.at' i).s.S.size≤((k.L.take (i+1)).map λ p=>p.s.S.size).sum:=Ch.Xq k i hi
 have h4:k.bal=(k.held:Int)+k.lost:=rfl
 have h5:k.held=(k.L.map λ p=>p.s.S.size).sum:=rfl
 exact⟨h.lost,by omega⟩
theorem NJ (p:Option Addr) (n c:Nat) (k:Ch) (x:Int):(kC p n c k).setIfInBounds 2 (.int .i64 x)=kC p n c {k with lost:=x}:=by simp[kC]
theorem NI (p:Option Addr) (n c:Nat) (k:Ch) (x:Bool):(kC p n c k).setIfInBounds 3 (.bool x)=kC p n c {k with shut:=x}:=by simp[kC]
theorem Ms (p:Option Addr) (n c:Nat) (k:Ch) (x:Int):(kC p n c k).setIfInBounds 4 (.int .i64 x)=kC p n c {k with state:=x}:=by simp[kC]
theorem GV (p p':Option Addr) (n c n' c':Nat) (k:Ch) (L:List Prt):(kC p n c k).setIfInBounds 0 (.slice p' n' c')=kC p' n' c' {k with L:=L}:=by simp[kC]
abbrev XD (w:World) (q:Nat) (p:Option Addr) (n c:Nat) (k:Ch):Prop:=BAt 31 w q (kC p n c k)
theorem Qc {w:World} {p:Option Addr} {n c:Nat} {k:Ch} {l:List Pc} {M:Nat} (h:DAt w p n c k l) (hF:Kok k M) (m:Nat) (hm:m≤n):
  Calls zf 56 #[.agg (kC p n c k),.int .i64 (m:Int)] w (Nl (k.Za m) n w):=by
 have hkn:=h.ZT
 obtain⟨W,hW,hk0,hk1,hb0,hlt⟩:=Mr w p n c k
 have hW:(w.alloc (.cells (kC p n c k) 31)).alloc (.cells #[.slice none 0 0,.int .i64 0,.int .i64 0,.bool false,.int .i64 0] 31)=W:=hW
 have HK:=zd hkn
 have HF:=zd hF
 have HD0:=zd (show DAt W p n c (k.qg 0) l from h.on hb0)
 have HA0:=zd (show XD W w.heap.size p n c (k.qg 0)from hk0)
 have HR0:=zd hk1
 have HB0:=zd hb0
 have hm10:m≤10:=by have:=hF.fine.len;omega
 clear h hF hk0 hk1 hb0 hkn hlt
 go_enter func56,ntmps56
 go_wp2_with fail
 clear hW
 go_loopw [5] (λ i wr=>∃(j:Nat) (p':Option Addr) (c':Nat) (l':List Pc),j≤m∧i=.int .i64 j∧Hid (DAt wr p' n c' (k.qg j) l')∧Hid (XD wr w.heap.size p' n c' (k.qg j))∧Hid (IsC wr (w.heap.size+1))∧Hid (Below w.heap.size w wr)) (λ i _=>m -(intOf i).toNat)
 case atStart=>exact⟨0,p,c,l,by omega,rfl,HD0,HA0,HR0,HB0⟩
 case round=>
  clear HD0 HA0 HR0 HB0
  obtain⟨j,p',c',l',hj,rfl,HD,HA,HR,HB⟩:=hrel
  by_cases hlt:j<m
  ·have HFj:=zd (HF.out.qg j (by rw[HK.out];omega))
   have HSU:=zd (HFj.out.sum j (by rw[HD.out.ZT];omega))
   have HD1:=zd (Mq HD.out HFj.out.fine HFj.out.top j (by omega))
   have HSZ:=zd (show((k.qg j).ql j Ch.qv).s.size=((k.qg j).at' j).s.S.size from(Ch.Uf _).2)
   have HE:=zd (show k.qg (j+1)={(k.qg j).onC j Ch.qv with lost:=(k.qg j).lost+((k.qg j).ql j Ch.qv).s.size}from rfl)
   obtain⟨kj,hkj⟩:∃kj,k.qg j=kj:=⟨_,rfl⟩
   rw[hkj]at HFj HSU HD1 HSZ HE HD HA
   obtain⟨k1,hk1⟩:∃k1,kj.onC j Ch.qv=k1:=⟨_,rfl⟩
   obtain⟨a1,ha1⟩:∃a1,kj.ql j Ch.qv=a1:=⟨_,rfl⟩
   have HL1:=zd (show k1.lost=kj.lost from by rw[←hk1];rfl)
   rw[hk1,ha1]at HD1 HE
   rw[ha1]at HSZ
   have i0:=HA.out.is (K:=5) rfl
   have c0:=HA.out.cells
   clear hkj hk1 ha1
   go_wp2_with fail
   refine HD1.out.mono ?_
   rintro e w1 ⟨p1,c1,l1,rfl,hd1,hb1⟩
   have hA1:=HA.out.on hb1
   have hR1:=HR.out.on hb1
   obtain⟨W2,hW2,i2,i3,z2,z3,hb2,hs2⟩:=jd w1 p1 n c1 k1 a1
   have hW2:(w1.alloc (.cells #[.slice none 0 0,.int .i64 0,.int .i64 0,.bool false,.int .i64 0] 31)).alloc (.cells #[.int .i64 0,.string ⟨#[]⟩,.int .i64 0] 73)=W2:=hW2
   have HD2:=zd (hd1.on hb2)
   have HA2:=zd (hA1.on hb2)
   have HR2:=zd (hR1.on hb2)
   have HB2:=zd (HB.out.trans ((gb.seqB hb1 hb2).mono HB.out.size))
   have HZ2:=zd z2
   have HZ3:=zd z3
   have hls:=hR1.lt
   clear HD1 HD HA HR HB i0 c0 hA1 hR1 hb1 hb2 hd1 z2 z3
   go_upto_region 5 with fail
   generalize(W2.setRow w1.heap.size (kC p1 n c1 k1)).setRow (w1.heap.size+1) (ql a1)=w3 at*
   clear hW2 i2 i3 hs2
   have e0:IsC w3 w1.heap.size:=HZ2.out.is rfl
   have e1:qE w3 w1.heap.size=kC p1 n c1 k1:=HZ2.out.cells
   have e2:IsC w3 w.heap.size:=HA2.out.is rfl
   have HD4:=zd (HD2.out.setRow e2 (by decide) (by decide) (kC p1 n c1 k1))
   have HA4:=zd (e2.row (kC p1 n c1 k1))
   have HR4:=zd (HR2.out.other (show w.heap.size+1≠w.heap.size by omega) (kC p1 n c1 k1))
   have HB4:=zd (below_setRow HB2.out (zg _) (kC p1 n c1 k1))
   have HZ4:=zd (HZ3.out.other (show w1.heap.size+1≠w.heap.size by omega) (kC p1 n c1 k1))
   go_upto_region 6 with fail
   generalize w3.setRow w.heap.size (kC p1 n c1 k1)=w4 at*
   clear e0 e1 e2 HZ2 HZ3 HD2 HA2 HR2 HB2
   have e3:w4.cell? ⟨w.heap.size,2,none⟩=some (.int .i64 k1.lost):=HA4.out.cell 2
   rw[HL1.out]at e3
   have e4:w4.cell? ⟨w1.heap.size+1,1,none⟩=some (.string a1.s):=HZ4.out.cell 1
   have e5:w4.frozen? ⟨w.heap.size,2,none⟩=false:=HA4.out.frz 2
   have e6:IntKind.i64.wrap (kj.lost+(a1.s.size:Int))=kj.lost+(a1.s.size:Int):=by
    have:=HSU.out
    rw[HSZ.out]
    exact qs (by omega) (by omega)
   have HA5:=zd (show XD (w4.setCell ⟨w.heap.size,2,none⟩ (.int .i64 (kj.lost+(a1.s.size:Int)))) w.heap.size p1 n c1 (k.qg (j+1)) by
    rw[HE.out]
    have:=HA4.out.set 2 (.int .i64 (kj.lost+(a1.s.size:Int)))
    rwa[NJ]at this)
   have HD5:=zd (show DAt (w4.setCell ⟨w.heap.size,2,none⟩ (.int .i64 (kj.lost+(a1.s.size:Int)))) p1 n c1 (k.qg (j+1)) l1 from(HD4.out.setCell (HA4.out.is (K:=5) rfl) (by decide) (by decide) 2 _).as (by rw[HE.out]))
   have HR5:=zd (show IsC (w4.setCell ⟨w.heap.size,2,none⟩ (.int .i64 (kj.lost+(a1.s.size:Int)))) (w.heap.size+1)from HR4.out.far (show w.heap.size+1≠w.heap.size by omega) 2 _)
   have HB5:=zd (HB4.out.setCell (p:=⟨w.heap.size,2,none⟩) (zg _) (.int .i64 (kj.lost+(a1.s.size:Int))))
   clear HD4 HA4 HR4 HB4 HZ4
   go_wp2_with fail
   go_roundw
   case rel=>exact⟨j+1,p1,c1,l1,by omega,by go_num,HD5,HA5,HR5,HB5⟩
   case measure=>simp[intOf];omega
  ·obtain rfl:m=j:=by omega
   have i0:=HA.out.cell 3
   have i1:=HA.out.frz 3
   have HA1:=zd (show XD (wr.setCell ⟨w.heap.size,3,none⟩ (.bool true)) w.heap.size p' n c' (k.Za m) by
    have:=HA.out.set 3 (.bool true)
    rwa[NI]at this)
   have HD1:=zd (show DAt (wr.setCell ⟨w.heap.size,3,none⟩ (.bool true)) p' n c' (k.Za m) l' from(HD.out.setCell (HA.out.is (K:=5) rfl) (by decide) (by decide) 3 _).as rfl)
   have HR1:=zd (show IsC (wr.setCell ⟨w.heap.size,3,none⟩ (.bool true)) (w.heap.size+1)from HR.out.far (show w.heap.size+1≠w.heap.size by omega) 3 _)
   have HB1:=zd (HB.out.setCell (p:=⟨w.heap.size,3,none⟩) (zg _) (.bool true))
   clear HA HD HR HB
   go_upto_region 8 with fail
   generalize wr.setCell ⟨w.heap.size,3,none⟩ (.bool true)=w2 at*
   clear i0 i1
   generalize k.Za m=kz at*
   have i0:=HA1.out.is (K:=5) rfl
   have c0:=HA1.out.cells
   have i1:=HR1.out
   have HZ:=zd (HR1.out.row (kC p' n c' kz))
   have HZB:=zd (below_setRow HB1.out (show w.heap.size≤w.heap.size+1 by omega) (kC p' n c' kz))
   have HZD:=zd (HD1.out.setRow HR1.out (by decide) (by decide) (kC p' n c' kz))
   go_wp2_with fail
   exact zk (v:=.agg (kC p' n c' kz)) (by simp[results,results56,asAddr,qt HZ.out]) rfl ⟨p',c',l',rfl,HZD.out,HZB.out⟩
end
section
open Go.RowKit
attribute [local go_sem ↓] ZY ZD Xy Z3 Xx Z2 Jb XP Z4
attribute [local go_sem] Z0 ZK ZF Zu Z5 ZQ Xj ZZ okC okN okS Yk
theorem ji {w:World} {p:Option Addr} {n c:Nat} {k:Ch} {l:List Pc} {M:Nat} (h:DAt w p n c k l) (hF:Kok k M):
  Calls zf 23 #[.agg (kC p n c k)] w (Nl k.qX n w):=by
 have hkn:=h.ZT
 obtain⟨W,hW,hk0,hk1,hb0,hlt⟩:=Mr w p n c k
 have hW:(w.alloc (.cells (kC p n c k) 31)).alloc (.cells #[.slice none 0 0,.int .i64 0,.int .i64 0,.bool false,.int .i64 0] 31)=W:=hW
 have i0:=hk0.is (K:=5) rfl
 have c0:=hk0.cells
 have x0:W.cell? ⟨w.heap.size,0,none⟩=some (.slice p n c):=hk0.cell 0
 have x4:W.cell? ⟨w.heap.size,4,none⟩=some (.int .i64 k.state):=hk0.cell 4
 have HL:=zd (Qc (h.on hb0) hF n (zg _))
 have HD:=zd (h.on hb0)
 have HR0:=zd hk1
 have HB0:=zd hb0
 by_cases hs:k.state=1
 ·have hs':(k.state==1)=true:=by simp[hs]
  have e:k.qX=k:=by unfold Ch.qX;rw[if_pos hs]
  rw[e]
  have HZ:=zd (hk1.row (kC p n c k))
  have HZB:=zd (below_setRow hb0 (show w.heap.size≤w.heap.size+1 by omega) (kC p n c k))
  have HZD:=zd ((h.on hb0).setRow hk1 (by decide) (by decide) (kC p n c k))
  have i1:=hk1
  clear h hF hk0 hk1 hb0 hkn HL HD e hs
  go_enter func23,ntmps23
  go_wp2_with fail
  exact zk (v:=.agg (kC p n c k)) (by simp[results,results23,asAddr,qt HZ.out]) rfl ⟨p,c,l,rfl,HZD.out,HZB.out⟩
 ·have hs':(k.state==1)=false:=by simpa using hs
  have e:k.qX={k.Za n with state:=2}:=by unfold Ch.qX;rw[if_neg hs,hkn]
  obtain⟨ky,hky⟩:∃ky,({k.Za n with state:=2}:Ch)=ky:=⟨_,rfl⟩
  rw[e,hky]
  have HKY:=zd hky
  have HK0:=zd hk0
  clear h hF hk0 hk1 hb0 hkn e hs hky
  generalize k.Za n=kz at*
  go_enter func23,ntmps23
  go_wp2_with fail
  refine HL.out.mono ?_
  rintro e w1 ⟨p1,c1,l1,rfl,hd1,hb1⟩
  have i1:IsC w1 w.heap.size:=(HK0.out.on hb1).is rfl
  have hR1:=HR0.out.on hb1
  have HA2:=zd (i1.row (kC p1 n c1 kz))
  have HD2:=zd (hd1.setRow i1 (by decide) (by decide) (kC p1 n c1 kz))
  have HR2:=zd (hR1.other (show w.heap.size+1≠w.heap.size by omega) (kC p1 n c1 kz))
  have HB2:=zd (below_setRow (gb.seqB HB0.out hb1) (zg _) (kC p1 n c1 kz))
  clear i0 c0 x0 x4 HL HD HR0 HB0 hR1 hb1 hd1 HK0
  go_upto_region 4 with fail
  generalize w1.setRow w.heap.size (kC p1 n c1 kz)=w2 at*
  clear i1 hW
  have f4:w2.frozen? ⟨w.heap.size,4,none⟩=false:=HA2.out.frz 4
  have y4:w2.cell? ⟨w.heap.size,4,none⟩=some (.int .i64 kz.state):=HA2.out.cell 4
  have HA3:=zd (show XD (w2.setCell ⟨w.heap.size,4,none⟩ (.int .i64 2)) w.heap.size p1 n c1 {kz with state:=2} by
   have:=HA2.out.set 4 (.int .i64 2)
   rwa[Ms]at this)
  have HD3:=zd (show DAt (w2.setCell ⟨w.heap.size,4,none⟩ (.int .i64 2)) p1 n c1 {kz with state:=2} l1 from(HD2.out.setCell (HA2.out.is (K:=5) rfl) (by decide) (by decide) 4 _).as rfl)
  have HR3:=zd (HR2.out.far (show w.heap.size+1≠w.heap.size by omega) 4 (.int .i64 2))
  have HB3:=zd (HB2.out.setCell (p:=⟨w.heap.size,4,none⟩) (zg _) (.int .i64 2))
  go_upto_region 5 with fail
  generalize w2.setCell ⟨w.heap.size,4,none⟩ (.int .i64 2)=w3 at*
  clear f4 y4
  rw[HKY.out]at HA3 HD3
  have i0:=HA3.out.is (K:=5) rfl
  have c0:=HA3.out.cells
  have i1:=HR3.out
  have HZ:=zd (HR3.out.row (kC p1 n c1 ky))
  have HZB:=zd (below_setRow HB3.out (show w.heap.size≤w.heap.size+1 by omega) (kC p1 n c1 ky))
  have HZD:=zd (HD3.out.setRow HR3.out (by decide) (by decide) (kC p1 n c1 ky))
  go_wp2_with fail
  exact zk (v:=.agg (kC p1 n c1 ky)) (by simp[results,results23,asAddr,qt HZ.out]) rfl ⟨p1,c1,l1,rfl,HZD.out,HZB.out⟩
end
section
open Go.RowKit
attribute [local go_sem ↓] ZY ZD Xy Z3 Xx Z2 Jb XP Z4
attribute [local go_sem] Z0 ZK Xc ZF Zu Z5 ZQ Xj ZZ okC okN okS Yk
theorem Uz (w:World):IsC (w.alloc (.cells #[.slice none 0 0,.int .i64 0,.int .i64 0,.bool false,.int .i64 0] 31)) w.heap.size:=Yn w
theorem Uv (w:World):IsN (w.alloc (.cells #[.int .i64 0,.string ⟨#[]⟩,.int .i64 0] 73)) w.heap.size:=Ym w
theorem Uy (w:World) (o:Obj):IsC ((w.alloc o).alloc (.cells #[.slice none 0 0,.int .i64 0,.int .i64 0,.bool false,.int .i64 0] 31)) (w.heap.size+1):=Mu w o
theorem Uu (w:World) (o:Obj):IsN ((w.alloc o).alloc (.cells #[.int .i64 0,.string ⟨#[]⟩,.int .i64 0] 73)) (w.heap.size+1):=Uw w o
theorem Ux (w:World) (o:Obj):IsC ((w.alloc (.cells #[.slice none 0 0,.int .i64 0,.int .i64 0,.bool false,.int .i64 0] 31)).alloc o) w.heap.size:=(Yn w).alloc o
theorem Ut (w:World) (o:Obj):IsN ((w.alloc (.cells #[.int .i64 0,.string ⟨#[]⟩,.int .i64 0] 73)).alloc o) w.heap.size:=(Ym w).alloc o
theorem G0 {w:World} {q:Nat} {o:Obj} (h:IsC w q):IsC (w.alloc o) q:=h.alloc o
theorem GY {w:World} {q:Nat} {o:Obj} (h:IsN w q):IsN (w.alloc o) q:=h.alloc o
theorem GZ (w:World) (q:Nat):IsC w.drew q=IsC w q:=rfl
theorem GX (w:World) (q:Nat):IsN w.drew q=IsN w q:=rfl
theorem NL {w:World} {q g:Nat} {cs:Array Value} (h:IsN w q) (k:IsC w g):IsN (w.setRow g cs) q:=h.apart k (by decide) cs
theorem Ai {w0 w6 X:World} {q g n c:Nat} {p:Option Addr} {k:Ch} {l:List Pc} (hd:DAt w6 p n c k l) (hk:Below w0.heap.size w0 w6) (hx:Below w6.heap.size w6 X) (h:IsC X q) (i:IsN X g) (hq:w0.heap.size≤q) (hg:w0.heap.size≤g) (x:Ans):
  XD ((X.setRow q (kC p n c k)).setRow g (ql x)) q p n c k∧BAt 73 ((X.setRow q (kC p n c k)).setRow g (ql x)) g (ql x)∧DAt ((X.setRow q (kC p n c k)).setRow g (ql x)) p n c k l∧Below w0.heap.size w0 ((X.setRow q (kC p n c k)).setRow g (ql x)):=by
 obtain⟨h1,h2,h3⟩:=XZ h i (by decide) (hk.trans (hx.mono hk.size)) hq hg (kC p n c k) (ql x)
 exact⟨h1,h2,((hd.on hx).setRow h (by decide) (by decide) _).setRow (i.apart h (by decide) _) (by decide) (by decide) _,h3⟩
theorem DAt.part {w:World} {p:Option Addr} {n c:Nat} {k:Ch} {l:List Pc} (h:DAt w p n c k l) {i:Nat} {z:Pc} (hz:l[i]?=some z):k.at' i=z.x:=by
 unfold Ch.at'
 rw[zi,←h.is,List.getElem?_map,hz]
 rfl
theorem Kok.size {k:Ch} {M:Nat} (h:Kok k M) (i:Nat) (hi:i<k.L.length):(k.at' i).s.S.size≤100000:=by
 have h1:=h.fine.pre i hi
 have h2:=Ch.Xq k i hi
 have h3:=(h.fine.ok i hi).1.passed
 have h4:=h.top
 omega
attribute [local go_sem] Ux Ut Uz Uv Uy Uu G0 GY GZ GX NL
theorem Jh {w0 W w5:World} (hb:Below W.heap.size W w5) (h:Hid (Below w0.heap.size w0 W)):Hid (Below w0.heap.size w0 w5):=zd (gb.seqB h.out hb)
theorem jG (w:World) (p:Option Addr) (n c:Nat) (k:Ch):∃W,w.alloc Ji=W∧IsC W w.heap.size∧BAt 31 (W.setRow w.heap.size (kC p n c k)) w.heap.size (kC p n c k)∧Below w.heap.size w (W.setRow w.heap.size (kC p n c k)):=
 ⟨_,rfl,Yn w,(Yn w).row _,below_setRow ((zh _ _).alloc (zg _) _) (zg _) _⟩
theorem SS {w wr w3:World} {g n0 c0 n c:Nat} {p0 p:Option Addr} {k0 k:Ch} {l:List Pc} (ha:XD wr g p0 n0 c0 k0) (hr:IsC wr (g+1)) (hb:Below g w wr) (hb3:Below wr.heap.size wr w3) (hd:DAt w3 p n c k l):
  IsC w3 g∧DAt (w3.setRow g (kC p n c k)) p n c k l∧XD (w3.setRow g (kC p n c k)) g p n c k∧IsC (w3.setRow g (kC p n c k)) (g+1)∧Below g w (w3.setRow g (kC p n c k)):=by
 have i:=(ha.on hb3).is (K:=5) rfl
 have:=ha.lt
 exact⟨i,hd.setRow i (by decide) (by decide) _,i.row _,(hr.on hb3).other (by omega) _,below_setRow (hb.trans (hb3.mono (by omega))) (zg _) _⟩
theorem Kok.looks {k:Ch} {M:Nat} (h:Kok k M) (now:Int) (m:Nat) (hm:m≤k.L.length):Kok (k.looks now m) M:=h.of (h.fine.looks now m hm) (Int.le_of_eq (Ch.Jo k now m).symm) (Ch.Qh k now m hm)
theorem Kok.look {k:Ch} {M:Nat} (h:Kok k M) (i:Nat) (hi:i<k.L.length) (now:Int):Kok (k.onC i (Ch.qh now)) M:=h.of (h.fine.look i hi now) (Int.le_refl _) (Ch.YW k i now hi)
theorem Kok.Xf {k:Ch} {M:Nat} (h:Kok k M) (now:Int) (m:Nat) (hm:m<k.L.length):Kok (k.Xf now m) M:=h.of (h.fine.Xf now m hm) (Int.le_of_eq (Ch.U7 k now m).symm) (Ch.MN k now m hm)
theorem Kok.ends {k:Ch} {M:Nat} (h:Kok k M) (now:Int) (m:Nat) (hm:m<k.L.length):Kok (k.ends now m) M:=h.of (h.fine.ends now m hm) (Ch.Kd k now m) (Ch.MO k now m hm)
end
section
open Go.RowKit
attribute [local go_sem ↓] ZY ZD Xy Z3 Xx Z2 Jb XP Z4
attribute [local go_sem] Z0 ZK Xc ZF Zu Z5 ZQ Xj ZZ okC okN okS Yk
theorem GU (w:World) (p:Option Addr) (n c:Nat) (k:Ch) (t:Tox):∃W,((w.alloc (.cells (kC p n c k) 31)).alloc (.cells #[.string t.s,.int .i64 t.k,.bool t.up,.int .i64 t.o,.int .i64 t.a,.int .i64 t.b] 35)).alloc Ji=W∧BAt 31 W w.heap.size (kC p n c k)∧
  BAt 35 W (w.heap.size+1) #[.string t.s,.int .i64 t.k,.bool t.up,.int .i64 t.o,.int .i64 t.a,.int .i64 t.b]∧IsC W (w.heap.size+2)∧Below w.heap.size w W∧w.heap.size+2<W.heap.size:=by
 obtain⟨h0,h1,h2⟩:=K9 w (.cells (kC p n c k) 31) (.cells #[.string t.s,.int .i64 t.k,.bool t.up,.int .i64 t.o,.int .i64 t.a,.int .i64 t.b] 35) Ji
 have i2:IsC _ (w.heap.size+2):=⟨_,h2,rfl⟩
 exact⟨_,rfl,h0,h1,i2,(((zh _ _).alloc (zg _) _).alloc (by simp) _).alloc (by simp;omega) _,i2.lt⟩
section
variable {w:World} {p:Option Addr} {n c:Nat} {k:Ch} {l:List Pc} {M:Nat}
theorem SV (h:DAt w p n c k l) (hn:n≤10) (h2:2≤n) (a:Int) (t:Tox) (seed now:Int) (hp:a<0∨(n:Int) -2<a∨8≤(n:Int) -2):
  Calls zf 25 #[.agg (kC p n c k),.int .i64 a,.agg #[.string t.s,.int .i64 t.k,.bool t.up,.int .i64 t.o,.int .i64 t.a,.int .i64 t.b],.int .u64 seed,.int .i64 now] w (jC k 110 n w):=by
 obtain⟨W,hW,hk0,hk1,hk2,hb0,hlt⟩:=GU w p n c k t
 have hW:((w.alloc (.cells (kC p n c k) 31)).alloc (.cells #[.string t.s,.int .i64 t.k,.bool t.up,.int .i64 t.o,.int .i64 t.a,.int .i64 t.b] 35)).alloc (.cells #[.slice none 0 0,.int .i64 0,.int .i64 0,.bool false,.int .i64 0] 31)=W:=hW
 have i0:=hk0.is (K:=5) rfl
 have c0:=hk0.cells
 have x0:W.cell? ⟨w.heap.size,0,none⟩=some (.slice p n c):=hk0.cell 0
 have hw:IntKind.i64.wrap ((n:Int) -2)=(n:Int) -2:=qs (by omega) (by omega)
 have i2:IsC W (w.heap.size+1+1):=hk2
 have HZ:=zd (hk2.row (kC p n c k))
 have HZB:=zd (below_setRow hb0 (show w.heap.size≤w.heap.size+2 by omega) (kC p n c k))
 have HZD:=zd ((h.on hb0).setRow hk2 (by decide) (by decide) (kC p n c k))
 clear hk0 hk1 hk2 hb0 h
 by_cases h1:a<0
 ·have d1:decide (a<0)=true:=decide_eq_true h1
  clear hp h1
  go_enter func25,ntmps25
  go_wp2_with fail
  exact zk (v:=.tuple #[.agg (kC p n c k),.int .i64 110]) (by simp[results,results25,asAddr,qt HZ.out]) rfl ⟨p,c,l,rfl,HZD.out,HZB.out⟩
 ·have d1:decide (a<0)=false:=decide_eq_false h1
  by_cases h3:(n:Int) -2<a
  ·have d2:decide ((n:Int) -2<a)=true:=decide_eq_true h3
   have d3:decide (a>(n:Int) -2)=true:=decide_eq_true h3
   clear hp h1 h3
   go_enter func25,ntmps25
   go_wp2_with fail
   exact zk (v:=.tuple #[.agg (kC p n c k),.int .i64 110]) (by simp[results,results25,asAddr,qt HZ.out]) rfl ⟨p,c,l,rfl,HZD.out,HZB.out⟩
  ·have d2:decide ((n:Int) -2<a)=false:=decide_eq_false h3
   have d3:decide (a>(n:Int) -2)=false:=decide_eq_false h3
   have d4:decide ((8:Int)≤(n:Int) -2)=true:=decide_eq_true (by omega)
   have d5:decide ((n:Int) -2≥8)=true:=d4
   clear hp h1 h3
   go_enter func25,ntmps25
   go_wp2_with fail
   exact zk (v:=.tuple #[.agg (kC p n c k),.int .i64 110]) (by simp[results,results25,asAddr,qt HZ.out]) rfl ⟨p,c,l,rfl,HZD.out,HZB.out⟩
theorem EK (h:DAt w p n c k l) (hn:n<10) (h2:2≤n) (i:Nat) (hi:i+2≤n) (t:Tox) (ht:t.s.size≤maxLen) (seed now:Int) (hE:Zx t k.room≠0):
  Calls zf 25 #[.agg (kC p n c k),.int .i64 (i:Int),.agg #[.string t.s,.int .i64 t.k,.bool t.up,.int .i64 t.o,.int .i64 t.a,.int .i64 t.b],.int .u64 seed,.int .i64 now] w (jC k (Zx t k.room) n w):=by
 obtain⟨W,hW,hk0,hk1,hk2,hb0,hlt⟩:=GU w p n c k t
 have hW:((w.alloc (.cells (kC p n c k) 31)).alloc (.cells #[.string t.s,.int .i64 t.k,.bool t.up,.int .i64 t.o,.int .i64 t.a,.int .i64 t.b] 35)).alloc (.cells #[.slice none 0 0,.int .i64 0,.int .i64 0,.bool false,.int .i64 0] 31)=W:=hW
 have i0:=hk0.is (K:=5) rfl
 have c0:=hk0.cells
 have x0:W.cell? ⟨w.heap.size,0,none⟩=some (.slice p n c):=hk0.cell 0
 have x1:W.cell? ⟨w.heap.size,1,none⟩=some (.int .i64 k.room):=hk0.cell 1
 have y0:W.cell? ⟨w.heap.size+1,0,none⟩=some (.string t.s):=hk1.cell 0
 have y1:W.cell? ⟨w.heap.size+1,1,none⟩=some (.int .i64 t.k):=hk1.cell 1
 have y2:W.cell? ⟨w.heap.size+1,2,none⟩=some (.bool t.up):=hk1.cell 2
 have y3:W.cell? ⟨w.heap.size+1,3,none⟩=some (.int .i64 t.o):=hk1.cell 3
 have y4:W.cell? ⟨w.heap.size+1,4,none⟩=some (.int .i64 t.a):=hk1.cell 4
 have y5:W.cell? ⟨w.heap.size+1,5,none⟩=some (.int .i64 t.b):=hk1.cell 5
 have hw:IntKind.i64.wrap ((n:Int) -2)=(n:Int) -2:=qs (by omega) (by omega)
 have d1:decide ((i:Int)<0)=false:=decide_eq_false (by omega)
 have d2:decide ((n:Int) -2<(i:Int))=false:=decide_eq_false (by omega)
 have d3:decide ((i:Int)>(n:Int) -2)=false:=d2
 have d4:decide ((8:Int)≤(n:Int) -2)=false:=decide_eq_false (by omega)
 have d5:decide ((n:Int) -2≥8)=false:=d4
 have HN:=zd (Ns t ht seed k.room now W hE)
 have he:(Zx t k.room !=0)=true:=by simpa using hE
 generalize Zx t k.room=E at*
 have HK0:=zd hk0
 have HK2:=zd hk2
 have HB:=zd hb0
 have HD:=zd h
 clear hk0 hk1 hk2 hb0 h hE
 go_enter func25,ntmps25
 go_wp2_with fail
 refine HN.out.mono ?_
 rintro e w1 ⟨rfl,hb1⟩
 obtain⟨W2,hW2,i2,hq2,hb2,hl2⟩:=j5 w1 none 0 0 qZ
 have hW2:w1.alloc (.cells #[.string ⟨#[]⟩,.int .i64 0,.bool false,.int .i64 0,.int .i64 0,.int .i64 0,.int .u64 0,.int .i64 0,.int .i64 0,.int .i64 0,.int .i64 0,.string ⟨#[]⟩,.slice none 0 0,.int .i64 0,.int .i64 0,.int .i64 0,.int .i64 0,.int .i64 0,.int .i64 0,.bool false,.int .i64 0,.int .i64 0] 68)=W2:=hW2
 have i2:IsS W2 w1.heap.size:=by rw[←hW2];exact Jt w1
 have hb12:=gb.seqB hb1 hb2
 have hk0:=HK0.out.on hb12
 have hk2:=HK2.out.on hb12
 have hb3:=gb.seqB HB.out hb12
 have hd3:=HD.out.on hb3
 clear HN x0 x1 y0 y1 y2 y3 y4 y5 i0 c0 d1 d2 d3 d4 d5 hw
 go_upto_region 5 with fail
 generalize W2.setRow w1.heap.size (rC none 0 0 qZ)=w3 at*
 have i0:=hk0.is (K:=5) rfl
 have c0:=hk0.cells
 have i3:IsC w3 (w.heap.size+1+1):=hk2
 have HZ:=zd (hk2.row (kC p n c k))
 have HZB:=zd (below_setRow hb3 (show w.heap.size≤w.heap.size+2 by omega) (kC p n c k))
 have HZD:=zd (hd3.setRow hk2 (by decide) (by decide) (kC p n c k))
 clear hk0 hk2 hb3 hd3 hb12 hb1 hb2 hq2 hl2 i2 hW2
 go_wp2_with fail
 exact zk (v:=.tuple #[.agg (kC p n c k),.int .i64 E]) (by simp[results,results25,asAddr,qt HZ.out]) rfl ⟨p,c,l,rfl,HZD.out,HZB.out⟩
end
end
section
open Go.RowKit
attribute [local go_sem ↓] ZY ZD Xy Z3 Xx Z2 Jb XP Z4
attribute [local go_sem] Z0 ZK Xc ZF Zu Z5 ZQ Xj ZZ okC okN okS Yk
def Tj (m:Nat) (parts:Array (Nat×Value)):Sem Value:=Instr.buildSlice 29 m parts
theorem YB (m:Nat) (parts:Array (Nat×Value)):Instr.buildSlice 29 m parts=Tj m parts:=rfl
theorem Yj (w:World):(Tj 0 #[]).run zf w=.ok (.slice (some ⟨w.heap.size,0,none⟩) 0 0) (w.alloc (.cells #[] 72)):=by kernel_rfl
theorem Yi (z:Pc) (w:World):(Tj 1 #[(0,.agg (pC z))]).run zf w=.ok (.slice (some ⟨w.heap.size,0,none⟩) 1 1) (w.alloc (.cells (pC z) 72)):=by kernel_rfl
theorem Vm (z y:Pc) (w:World):(Tj 2 #[(0,.agg (pC z)),(1,.agg (pC y))]).run zf w=.ok (.slice (some ⟨w.heap.size,0,none⟩) 2 2) (w.alloc (.cells (pC z++pC y) 72)):=by kernel_rfl
attribute [local go_sem ↓] YB
attribute [local go_sem] Yj Yi Vm
theorem jq (l:List Pc) (m:Nat):ZB (l.take m)=(ZB l).take (m*23):=NR J9 l m
theorem jr (l:List Pc) (m:Nat):ZB (l.drop m)=(ZB l).drop (m*23):=NS J9 l m
theorem Ah {w wr w3:World} {g n0 c0 n c:Nat} {p0 p:Option Addr} {k0 k:Ch} {l:List Pc} (ha:XD wr g p0 n0 c0 k0) (hr:IsC wr (g+1+1)) (hb:Below g w wr) (hb3:Below wr.heap.size wr w3) (hd:DAt w3 p n c k l):
  IsC w3 g∧DAt (w3.setRow g (kC p n c k)) p n c k l∧XD (w3.setRow g (kC p n c k)) g p n c k∧IsC (w3.setRow g (kC p n c k)) (g+1+1)∧Below g w (w3.setRow g (kC p n c k)):=by
 have i:=(ha.on hb3).is (K:=5) rfl
 have:=ha.lt
 exact⟨i,hd.setRow i (by decide) (by decide) _,i.row _,(hr.on hb3).other (by omega) _,below_setRow (hb.trans (hb3.mono (by omega))) (zg _) _⟩
theorem VG {w:World} {B T K:Nat} {p:Option Addr} {n c:Nat} {zs:List Value} (h:gc.ORow w B T K p n c zs):gc.ORow w 0 T K p n c zs:=⟨h.len,h.cap,h.max,h.non,λ a e=>by
 obtain⟨b',o',cur,e',hbb,hh⟩:=h.som a e
 exact⟨b',o',cur,e',Nat.zero_le _,hh⟩⟩
theorem O0 (w:World) (z:Pc):gc.ORow (w.alloc (.cells (pC z) 72)) 0 72 23 (some ⟨w.heap.size,0,none⟩) 1 1 (ZB [z]):=
 ⟨by simp[ZB,J9],zg _,by decide,(λ e=>by cases e),λ a e=>by
  cases e
  refine⟨w.heap.size,0,pC z,rfl,Nat.zero_le _,zo w _,by rw[Uk];decide,λ j v hj=>?_⟩
  rw[Nat.zero_add]
  simpa[ZB,pL]using hj⟩
section
variable {w:World} {p:Option Addr} {n c:Nat} {k:Ch} {l:List Pc} {M:Nat}
theorem GK (h:DAt w p n c k l) (hF:Kok k M) (hn:n<10) (h2:2≤n) (i:Nat) (hi:i+2≤n) (t:Tox) (ht:t.s.size≤maxLen) (seed now:Int) (hE:Zx t k.room=0):
  Calls zf 25 #[.agg (kC p n c k),.int .i64 (i:Int),.agg #[.string t.s,.int .i64 t.k,.bool t.up,.int .i64 t.o,.int .i64 t.a,.int .i64 t.b],.int .u64 seed,.int .i64 now] w (jC (k.X9 i t seed now) 0 (n+1) w):=by
 obtain⟨W,hW,hk0,hk1,hk2,hb0,hlt⟩:=GU w p n c k t
 have hW:((w.alloc (.cells (kC p n c k) 31)).alloc (.cells #[.string t.s,.int .i64 t.k,.bool t.up,.int .i64 t.o,.int .i64 t.a,.int .i64 t.b] 35)).alloc (.cells #[.slice none 0 0,.int .i64 0,.int .i64 0,.bool false,.int .i64 0] 31)=W:=hW
 have i0:=hk0.is (K:=5) rfl
 have c0:=hk0.cells
 have x0:W.cell? ⟨w.heap.size,0,none⟩=some (.slice p n c):=hk0.cell 0
 have x1:W.cell? ⟨w.heap.size,1,none⟩=some (.int .i64 k.room):=hk0.cell 1
 have y0:W.cell? ⟨w.heap.size+1,0,none⟩=some (.string t.s):=hk1.cell 0
 have y1:W.cell? ⟨w.heap.size+1,1,none⟩=some (.int .i64 t.k):=hk1.cell 1
 have y2:W.cell? ⟨w.heap.size+1,2,none⟩=some (.bool t.up):=hk1.cell 2
 have y3:W.cell? ⟨w.heap.size+1,3,none⟩=some (.int .i64 t.o):=hk1.cell 3
 have y4:W.cell? ⟨w.heap.size+1,4,none⟩=some (.int .i64 t.a):=hk1.cell 4
 have y5:W.cell? ⟨w.heap.size+1,5,none⟩=some (.int .i64 t.b):=hk1.cell 5
 have hw:IntKind.i64.wrap ((n:Int) -2)=(n:Int) -2:=qs (by omega) (by omega)
 have d1:decide ((i:Int)<0)=false:=decide_eq_false (by omega)
 have d2:decide ((n:Int) -2<(i:Int))=false:=decide_eq_false (by omega)
 have d3:decide ((i:Int)>(n:Int) -2)=false:=d2
 have d4:decide ((8:Int)≤(n:Int) -2)=false:=decide_eq_false (by omega)
 have d5:decide ((n:Int) -2≥8)=false:=d4
 have HEE:=zd hE
 have HN:=zd (TM t ht seed k.room now W hE)
 obtain⟨s,hs⟩:∃s,Zh t seed k.room now=s:=⟨_,rfl⟩
 have HSA:=zd (show s.A=[]∧s.S.size=0 from by rw[←hs];exact⟨rfl,rfl⟩)
 rw[hs]at HN
 have HK0:=zd hk0
 have HK2:=zd hk2
 have HB:=zd hb0
 have HD:=zd h
 clear hk0 hk1 hk2 hb0 h hE
 go_enter func25,ntmps25
 go_wp2_with fail
 refine HN.out.mono ?_
 rintro e w1 ⟨rfl,hb1⟩
 obtain⟨W2,hW2,i2,hq2,hb2,hl2⟩:=j5 w1 none 0 0 s
 have hW2:w1.alloc (.cells #[.string ⟨#[]⟩,.int .i64 0,.bool false,.int .i64 0,.int .i64 0,.int .i64 0,.int .u64 0,.int .i64 0,.int .i64 0,.int .i64 0,.int .i64 0,.string ⟨#[]⟩,.slice none 0 0,.int .i64 0,.int .i64 0,.int .i64 0,.int .i64 0,.int .i64 0,.int .i64 0,.bool false,.int .i64 0,.int .i64 0] 68)=W2:=hW2
 have i2:IsS W2 w1.heap.size:=by rw[←hW2];exact Jt w1
 have hb12:=gb.seqB hb1 hb2
 have hk0:=HK0.out.on hb12
 have hk2:=HK2.out.on hb12
 have hb3:=gb.seqB HB.out hb12
 have hd3:=HD.out.on hb3
 clear HN x0 x1 y0 y1 y2 y3 y4 y5 i0 c0 d1 d2 d3 d4 d5
 go_upto_region 5 with fail
 generalize W2.setRow w1.heap.size (rC none 0 0 s)=w3 at*
 have hz3:BAt 68 w3 w1.heap.size (rC none 0 0 s):=hq2
 have hlk:l.length=n:=hd3.len
 have ht1:=hd3.row.take (i+1) (by omega)
 rw[←jq]at ht1
 have ht2:=hd3.row.drop (i+1) (by omega)
 rw[←jr]at ht2
 obtain⟨b,o,rfl,_⟩:=hd3.row.at (by omega)
 rw[if_neg (by have:=hd3.row.cap;omega)]at ht2
 have ht2:gc.ORow w3 0 72 23 (some ⟨b,o+(i+1)*23,none⟩) (n -(i+1)) (c -(i+1)) (ZB (l.drop (i+1))):=ht2
 obtain⟨q1,d1,w4,happ1,ho1,hb4,hf4,hsz4⟩:=J0 (w0:=w3) (w:=w3.alloc (.cells #[] 72)) (l1:=l.take (i+1)) (Q6 w3) ((zh _ _).alloc (zg _) _) (by simp) (ht1.on ((zh _ _).alloc (zg _) _)) (by omega) (by omega)
 rw[Nat.zero_add,List.nil_append]at ho1
 simp only[Nat.zero_add]at happ1
 have HAP1:=zd happ1
 have x0:(w3.alloc (.cells #[] 72)).cell? ⟨w.heap.size,0,none⟩=some (.slice (some ⟨b,o,none⟩) n c):=(hk0.alloc _).cell 0
 have x0':w3.cell? ⟨w.heap.size,0,none⟩=some (.slice (some ⟨b,o,none⟩) n c):=hk0.cell 0
 have hw1:IntKind.i64.wrap ((i:Int)+1)=(i:Int)+1:=qs (by omega) (by omega)
 have hn1:((i:Int)+1).toNat=i+1:=by omega
 have hcap:=hd3.row.cap
 have hmax:=hd3.row.max
 have hk4:=hk0.on hb4
 have hr4:=hk2.on hb4
 have hz4:=hz3.on hb4
 have hd4:=hd3.on hb4
 have i4:=hz4.is (K:=22) rfl
 have k4:=hz4.cells
 go_upto_region 8 with(at_builtin;refine Lib.wpList_append_run _ rfl _ _ _ _ rfl (.slice (some ⟨w3.heap.size,0,none⟩) 0 0) (.slice (some ⟨b,o,none⟩) (i+1) c) rfl rfl _ _ (HAP1.out _) ?_)
 clear HAP1
 obtain⟨z0,hz0⟩:∃z0:Pc,z0=⟨none,0,0,⟨s,false⟩⟩:=⟨_,rfl⟩
 obtain⟨q2,d2,w5,happ2,ho2,hb5,hf5,hsz5⟩:=J0 (w0:=w3) (w:=w4.alloc (.cells (pC z0) 72)) (l1:=[z0]) (ho1.on ((zh _ _).alloc (zg _) _)) (hb4.alloc hb4.size _) (by have:=hb4.size;simp;omega) (O0 w4 z0) (by omega) (by omega)
 have HAP2:=zd happ2
 obtain⟨q3,d3,w6,happ3,ho3,hb6,hf6,hsz6⟩:=J0 (w0:=w3) (w:=w5) (l1:=l.drop (i+1)) ho2 hb5 hb5.size (ht2.on hb5) (by omega) (by omega)
 rw[show i+1+1+(n -(i+1))=n+1 by omega]at happ3 ho3
 have HAP3:=zd happ3
 subst hz0
 go_upto_region 9 with(at_builtin;refine Lib.wpList_append_run _ rfl _ _ _ _ rfl (.slice q1 (i+1) d1) (.slice (some ⟨w4.heap.size,0,none⟩) 1 1) rfl rfl _ _ (HAP2.out _) ?_)
 have x5:w5.cell? ⟨w.heap.size,0,none⟩=some (.slice (some ⟨b,o,none⟩) n c):=(hk0.on hb5).cell 0
 have hk6:=hk0.on hb6
 have x6:w6.cell? ⟨w.heap.size,0,none⟩=some (.slice (some ⟨b,o,none⟩) n c):=hk6.cell 0
 have f6:=hk6.frz 0
 clear HAP2
 go_upto_region 10 with(at_builtin;refine Lib.wpList_append_run _ rfl _ _ _ _ rfl (.slice q2 (i+1+1) d2) (.slice (some ⟨b,o+(i+1)*23,none⟩) (n -(i+1)) (c -(i+1))) rfl rfl _ _ (HAP3.out _) ?_)
 obtain⟨k1,hk1⟩:∃k1,({k with L:=Ch.Zb k.L i ⟨s,false⟩}:Ch)=k1:=⟨_,rfl⟩
 obtain⟨l1,hl1⟩:∃l1,l.take (i+1)++[(⟨none,0,0,⟨s,false⟩⟩:Pc)]++l.drop (i+1)=l1:=⟨_,rfl⟩
 rw[hl1]at ho3
 have hll1:l1.length=n+1:=by rw[←hl1,List.length_append,List.length_append,zw,List.length_drop,hlk];simp;omega
 have hls1:l1.map (·.x)=k1.L:=by
  rw[←hl1,←hk1,List.map_append,List.map_append,List.map_take,List.map_drop,hd3.is]
  show _=k.L.take (i+1)++⟨s,false⟩::k.L.drop (i+1)
  rw[List.append_assoc]
  rfl
 have hd6:DAt w6 q3 (n+1) d3 k1 l1:=⟨VG ho3,hll1,hls1,λ z hz=>by
  rw[←hl1]at hz
  rcases List.mem_append.1 hz with hz|hz
  ·rcases List.mem_append.1 hz with hz|hz
   ·have:=hd3.rows z (List.mem_of_mem_take hz)
    exact⟨gc.Zc this.1 hb6,this.2⟩
   ·rw[List.mem_singleton]at hz
    subst hz
    refine⟨?_,HSA.out.2⟩
    show gc.qQ w6 none 0 0 s.A
    rw[HSA.out.1]
    exact gc.QX w6
  ·have:=hd3.rows z (List.mem_of_mem_drop hz)
   exact⟨gc.Zc this.1 hb6,this.2⟩⟩
 have hF1:Ch.Fine k1 M:=by
  rw[←hk1]
  have hkn:=hd3.ZT
  refine hF.fine.OT i (by rw[hkn];omega) (by rw[hkn];omega) ⟨s,false⟩ (by rw[←hs];have ho:=Ur HEE.out;exact KT ht ho.1 ho.2.1 ho.2.2) (by rw[HSA.out.1,HSA.out.2];rfl) HSA.out.2 (by rw[←hs];rfl)
 have hIN:k.X9 i t seed now=if(k1.at' (i+2)).closed=true then k1.onC (i+1) (Ch.qA now)else k1:=by
  rw[←hk1]
  unfold Ch.X9
  rw[hs]
  rfl
 have HIN:=zd hIN
 clear hIN
 have hi6:IsC w6 w.heap.size:=hk6.is (K:=5) rfl
 have HD7:=zd (hd6.setCell hi6 (by decide) (by decide) 0 (.slice q3 (n+1) d3))
 have HA7:=zd (show XD (w6.setCell ⟨w.heap.size,0,none⟩ (.slice q3 (n+1) d3)) w.heap.size q3 (n+1) d3 k1 by
  have:=hk6.set 0 (.slice q3 (n+1) d3)
  rw[GV _ q3 _ _ (n+1) d3 k (Ch.Zb k.L i ⟨s,false⟩),hk1]at this
  exact this)
 have HR7:=zd (show IsC (w6.setCell ⟨w.heap.size,0,none⟩ (.slice q3 (n+1) d3)) (w.heap.size+1+1)from(hk2.on hb6).far (show w.heap.size+2≠w.heap.size by omega) 0 _)
 have HB7:=zd ((gb.seqB hb3 hb6).setCell (p:=⟨w.heap.size,0,none⟩) (zg _) (.slice q3 (n+1) d3))
 have HF1:=zd hF1
 have HTOP:=zd hF.top
 go_upto_region 11 with fail
 generalize w6.setCell ⟨w.heap.size,0,none⟩ (.slice q3 (n+1) d3)=w7 at*
 clear happ1 happ2 happ3 HAP3 ho1 ho2 ho3 hb4 hb5 hb6 hf4 hf5 hf6 hsz4 hsz5 hsz6 hd6 hd4 hd3 hk4 hr4 hz4 i4 k4 x5 x6 f6 hk6 hi6 hF1 hk0 hk2 hb3 hz3 x0 x0' ht1 ht2 hk1 hll1 hls1 hs hb12 hb1 hb2 hq2 hl2 i2 hW2
 obtain⟨b3,o3,rfl,_⟩:=HD7.out.row.at (by omega)
 obtain⟨z,hzl⟩:∃z,l1[i+2]?=some z:=⟨_,zj (by rw[HD7.out.len];omega)⟩
 have hzx:(k1.at' (i+2))=z.x:=HD7.out.part hzl
 have hsh:=HD7.out.shut (by omega) hzl
 rw[hzx]at HIN
 have x7:w7.cell? ⟨w.heap.size,0,none⟩=some (.slice (some ⟨b3,o3,none⟩) (n+1) d3):=HA7.out.cell 0
 have hw2:IntKind.i64.wrap ((i:Int)+2)=(i:Int)+2:=qs (by omega) (by omega)
 have hn2:((i:Int)+2).toNat=i+2:=by omega
 have hd2':decide ((i:Int)+2<((n+1:Nat):Int))=true:=decide_eq_true (by omega)
 cases hcl:z.x.closed
 case false=>
  rw[hcl]at hsh
  have HE9:=zd (HIN.out.trans (if_neg (by rw[hcl];decide)))
  have i0:=HA7.out.is (K:=5) rfl
  have c0:=HA7.out.cells
  have i9:=HR7.out
  have HZ:=zd (HR7.out.row (kC (some ⟨b3,o3,none⟩) (n+1) d3 k1))
  have HZB:=zd (below_setRow HB7.out (show w.heap.size≤w.heap.size+1+1 by omega) (kC (some ⟨b3,o3,none⟩) (n+1) d3 k1))
  have HZD:=zd (HD7.out.setRow HR7.out (by decide) (by decide) (kC (some ⟨b3,o3,none⟩) (n+1) d3 k1))
  go_wp2_with fail
  exact zk (v:=.tuple #[.agg (kC (some ⟨b3,o3,none⟩) (n+1) d3 k1),.int .i64 0]) (by simp[results,results25,asAddr,qt HZ.out]) rfl ⟨_,_,l1,by rw[HE9.out],by rw[HE9.out];exact HZD.out,HZB.out⟩
 case true=>
  rw[hcl]at hsh
  have HE9:=zd (HIN.out.trans (if_pos (by rw[hcl])))
  have i0:=HA7.out.is (K:=5) rfl
  have c0:=HA7.out.cells
  have HDP:=zd (show Calls zf 22 #[.agg (kC (some ⟨b3,o3,none⟩) (n+1) d3 k1),.int .i64 ((i:Int)+1),.agg #[.int .i64 3,.int .i64 now,.int .i64 0,.string ⟨#[]⟩,.string ⟨#[]⟩,.int .i64 0,.bool false,.int .i64 0,.int .i64 0,.int .i64 0]] w7 (JS (k1.onC (i+1) (Ch.qA now)) (k1.ql (i+1) (Ch.qA now)) (n+1) w7)from JD HD7.out HF1.out HTOP.out (i+1) (by omega) now)
  generalize k1.ql (i+1) (Ch.qA now)=ay at HDP
  generalize k1.onC (i+1) (Ch.qA now)=k2 at HDP HE9
  go_upto_region 12 with fail
  clear x7 hw2 hn2 hd2' hsh
  go_wp2_with fail
  refine HDP.out.mono ?_
  rintro e w8 ⟨p8,c8,l8,rfl,hd8,hb8⟩
  obtain⟨W9,hW9,i9,j9,z9,y9,hb9,hs9⟩:=jd w8 p8 (n+1) c8 k2 ay
  have hW9:(w8.alloc (.cells #[.slice none 0 0,.int .i64 0,.int .i64 0,.bool false,.int .i64 0] 31)).alloc (.cells #[.int .i64 0,.string ⟨#[]⟩,.int .i64 0] 73)=W9:=hW9
  have hb89:=gb.seqB hb8 hb9
  obtain⟨q10,hd10,ha10,hr10,hb10⟩:=Ah HA7.out HR7.out HB7.out hb89 (hd8.on hb9)
  have e0:=z9.is (K:=5) rfl
  have e1:=z9.cells
  have HD10:=zd hd10
  have HA10:=zd ha10
  have HR10:=zd hr10
  have HB10:=zd hb10
  clear HDP i0 c0 hd8 hb8 hb9 hb89 hd10 ha10 hr10 hb10 z9 y9 HD7 HA7 HR7 HB7
  go_upto_region 13 with fail
  generalize(W9.setRow w8.heap.size (kC p8 (n+1) c8 k2)).setRow (w8.heap.size+1) (ql ay)=w9 at*
  go_upto_region 14 with fail
  generalize w9.setRow w.heap.size (kC p8 (n+1) c8 k2)=w10 at*
  clear q10 e0 e1 hW9 i9 j9 hs9
  have i0:=HA10.out.is (K:=5) rfl
  have c0:=HA10.out.cells
  have i11:=HR10.out
  have HZ:=zd (HR10.out.row (kC p8 (n+1) c8 k2))
  have HZB:=zd (below_setRow HB10.out (show w.heap.size≤w.heap.size+1+1 by omega) (kC p8 (n+1) c8 k2))
  have HZD:=zd (HD10.out.setRow HR10.out (by decide) (by decide) (kC p8 (n+1) c8 k2))
  go_wp2_with fail
  exact zk (v:=.tuple #[.agg (kC p8 (n+1) c8 k2),.int .i64 0]) (by simp[results,results25,asAddr,qt HZ.out]) rfl ⟨p8,c8,l8,by rw[HE9.out],by rw[HE9.out];exact HZD.out,HZB.out⟩
end
end
section
open Go.RowKit
def Gx (v:Value):Sem Value:=Instr.loadAt 72 v
def Np (v x:Value):Sem Unit:=Instr.storeAt 72 v x
theorem N9 (v:Value):Instr.loadAt 72 v=Gx v:=rfl
theorem MV (v x:Value):Instr.storeAt 72 v x=Np v x:=rfl
abbrev IsP (w:World) (q:Nat):Prop:=IsB 72 23 w q
theorem TL {q:Nat} {w:World} {cs:Array Value} (h:IsP w q) (hv:OkC 23 cs):(Np (.pointer (some ⟨q,0,none⟩)) (.agg cs)).run zf w=.ok () (w.setRow q cs):=Jm (by kernel_rfl) h hv
theorem okP (z:Pc):OkC 23 (pC z):=⟨Uk z,Sy z⟩
def LI:Obj:=.cells #[.string ⟨#[]⟩,.int .i64 0,.bool false,.int .i64 0,.int .i64 0,.int .i64 0,.int .u64 0,.int .i64 0,.int .i64 0,.int .i64 0,.int .i64 0,.string ⟨#[]⟩,.slice none 0 0,.int .i64 0,.int .i64 0,.int .i64 0,.int .i64 0,.int .i64 0,.int .i64 0,.bool false,.int .i64 0,.int .i64 0,.bool false] 72
theorem NK (w:World):IsP (w.alloc LI) w.heap.size:=⟨_,zo w _,rfl⟩
attribute [local go_sem ↓] ZY ZD Xy Z3 Xx Z2 N9 MV Z4 YB
attribute [local go_sem] Z0 ZK Yj Yi Xc ZF Zu Z5 ZQ Xj ZZ TL okC okN okS okP Yk
theorem DAt.one {w:World} {b o n c:Nat} {k:Ch} {l:List Pc} (h:DAt w (some ⟨b,o,none⟩) n c k l) {i:Nat} (hi:i<n) {z:Pc} (hz:l[i]?=some z):w.rangeAt b (o+i*23) (pL z):=V5 h.row (i*23) _ (λ j v hv=>by
 have hj:j<23:=by
  have:=(List.getElem?_eq_some_iff.1 hv).1
  rwa[J9]at this
 have hil:i<l.length:=by rw[h.len];exact hi
 rw[show ZB l=l.flatMap pL from rfl,Td J9 l i j hil (by omega)]
 rw[zj hil,Option.some.injEq]at hz
 rw[hz]
 exact hv)
theorem FA (c:Ch) (k:Nat) (now:Int) (h:k+3≤c.L.length):(c.Xe k now).bal=c.bal:=by
 have hl:=Ch.Xm c k h
 have h3:(c.Xe k now).L.length=(c.qK k).L.length:=by
  unfold Ch.Xe
  split
  ·rw[Ch.ZL];exact Ch.qk _ _ _
  ·exact Ch.qk _ _ _
 have hb:=Ch.NZ c k now h
 unfold Ch.ZW at hb
 split at hb
 ·rwa[Ch.YX _ _ _ (by omega)]at hb
 ·exact hb
section
variable {w:World} {p:Option Addr} {n c:Nat} {k:Ch} {l:List Pc} {M:Nat}
theorem GJ {m : Nat} (h : DAt w p (m + 1) c k l) (hF : Kok k M) (i : Nat) (hi : i + 2 ≤ m) (now : Int) :
   Calls zf 26 #[.agg (kC p (m + 1) c k), .int .i64 (i : Int), .int .i64 now] w (Nl (k.ZW i now) m w) := by
 have hkn := h.ZT
 have hn10 := hF.fine.len
 rw [hkn] at hn10
 obtain ⟨W, hW, hk0, hk1, hb0, hlt⟩ := Mr w p (m + 1) c k
 have hW : (w.alloc (.cells (kC p (m + 1) c k) 31)).alloc (.cells #[.slice none 0 0, .int .i64 0, .int .i64 0, .bool false, .int .i64 0] 31) = W := hW
 have hd0 := h.on hb0
 have hlk : l.length = m + 1 := hd0.len
 have hcap := hd0.row.cap
 obtain ⟨b, o, rfl, _⟩ := hd0.row.at (by omega)
 obtain ⟨z, hzl⟩ : ∃ z, l[i + 1]? = some z := ⟨_, zj (by omega)⟩
 have hzx := hd0.part hzl
 have hld : (Gx (.pointer (some ⟨b, o + (i + 1) * 23, none⟩))).run zf W = .ok (.agg (pC z)) W := jN (hd0.one (by omega) hzl)
 have x0 : W.cell? ⟨w.heap.size, 0, none⟩ = some (.slice (some ⟨b, o, none⟩) (m + 1) c) := hk0.cell 0
 have hw1 : IntKind.i64.wrap ((i : Int) + 1) = (i : Int) + 1 := qs (by omega) (by omega)
 have hn1 : ((i : Int) + 1).toNat = i + 1 := by omega
 have hw2 : IntKind.i64.wrap ((i : Int) + 2) = (i : Int) + 2 := qs (by omega) (by omega)
 have hn2 : ((i : Int) + 2).toNat = i + 2 := by omega
 have hd1 : decide ((i : Int) + 1 < ((m + 1 : Nat) : Int)) = true := decide_eq_true (by omega)
 have hp1 := NK W
 have hp1 : IsP (W.alloc (.cells #[.string ⟨#[]⟩, .int .i64 0, .bool false, .int .i64 0, .int .i64 0, .int .i64 0, .int .u64 0, .int .i64 0, .int .i64 0, .int .i64 0, .int .i64 0, .string ⟨#[]⟩, .slice none 0 0, .int .i64 0, .int .i64 0, .int .i64 0, .int .i64 0, .int .i64 0, .int .i64 0, .bool false, .int .i64 0, .int .i64 0, .bool false] 72)) W.heap.size := hp1
 have hbp : Below W.heap.size W ((W.alloc LI).setRow W.heap.size (pC z)) := below_setRow ((zh _ _).alloc (zg _) _) (zg _) _
 have hz2 : BAt 72 ((W.alloc LI).setRow W.heap.size (pC z)) W.heap.size (pC z) := (NK W).row _
 have hbp : Below W.heap.size W ((W.alloc (.cells #[.string ⟨#[]⟩, .int .i64 0, .bool false, .int .i64 0, .int .i64 0, .int .i64 0, .int .u64 0, .int .i64 0, .int .i64 0, .int .i64 0, .int .i64 0, .string ⟨#[]⟩, .slice none 0 0, .int .i64 0, .int .i64 0, .int .i64 0, .int .i64 0, .int .i64 0, .int .i64 0, .bool false, .int .i64 0, .int .i64 0, .bool false] 72)).setRow W.heap.size (pC z)) := hbp
 have hz2 : BAt 72 ((W.alloc (.cells #[.string ⟨#[]⟩, .int .i64 0, .bool false, .int .i64 0, .int .i64 0, .int .i64 0, .int .u64 0, .int .i64 0, .int .i64 0, .int .i64 0, .int .i64 0, .string ⟨#[]⟩, .slice none 0 0, .int .i64 0, .int .i64 0, .int .i64 0, .int .i64 0, .int .i64 0, .int .i64 0, .bool false, .int .i64 0, .int .i64 0, .bool false] 72)).setRow W.heap.size (pC z)) W.heap.size (pC z) := hz2
 clear h
 go_enter func26, ntmps26
 go_upto_region 2 with fail
 obtain ⟨w3, hw3⟩ : ∃ w3, (W.alloc (.cells #[.string ⟨#[]⟩, .int .i64 0, .bool false, .int .i64 0, .int .i64 0, .int .i64 0, .int .u64 0, .int .i64 0, .int .i64 0, .int .i64 0, .int .i64 0, .string ⟨#[]⟩, .slice none 0 0, .int .i64 0, .int .i64 0, .int .i64 0, .int .i64 0, .int .i64 0, .int .i64 0, .bool false, .int .i64 0, .int .i64 0, .bool false] 72)).setRow W.heap.size (pC z) = w3 := ⟨_, rfl⟩
 rw [hw3] at hbp hz2 ⊢
 have hk3 := hk0.on hbp
 have hr3 := hk1.on hbp
 have hd3 := hd0.on hbp
 have hb3 := gb.seqB hb0 hbp
 have HZP := zd hz2
 have hlw3 := hz2.lt
 clear hld x0 hp1 hbp hz2 hw3 hW hk0 hk1 hd0
 have ht1 := hd3.row.take (i + 1) (by omega)
 rw [← jq] at ht1
 have ht2 := hd3.row.drop (i + 2) (by omega)
 rw [← jr] at ht2
 rw [if_neg (by omega)] at ht2
 rw [show m + 1 - (i + 2) = m - (i + 1) by omega] at ht2
 have ht2 : gc.ORow w3 0 72 23 (some ⟨b, o + (i + 2) * 23, none⟩) (m - (i + 1)) (c - (i + 2)) (ZB (l.drop (i + 2))) := ht2
 obtain ⟨q1, d1, w4, happ1, ho1, hb4, hf4, hsz4⟩ := J0 (w0 := w3) (w := w3.alloc (.cells #[] 72)) (l1 := l.take (i + 1)) (Q6 w3) ((zh _ _).alloc (zg _) _) (by simp) (ht1.on ((zh _ _).alloc (zg _) _)) (by omega) (by omega)
 rw [Nat.zero_add, List.nil_append] at ho1
 simp only [Nat.zero_add] at happ1
 have HAP1 := zd happ1
 obtain ⟨q2, d2, w5, happ2, ho2, hb5, hf5, hsz5⟩ := J0 (w0 := w3) (w := w4) (l1 := l.drop (i + 2)) ho1 hb4 hb4.size (ht2.on hb4) (by omega) (by omega)
 rw [show i + 1 + (m - (i + 1)) = m by omega] at happ2 ho2
 have HAP2 := zd happ2
 have x0 : (w3.alloc (.cells #[] 72)).cell? ⟨w.heap.size, 0, none⟩ = some (.slice (some ⟨b, o, none⟩) (m + 1) c) := (hk3.alloc _).cell 0
 have x0' : w3.cell? ⟨w.heap.size, 0, none⟩ = some (.slice (some ⟨b, o, none⟩) (m + 1) c) := hk3.cell 0
 have x4 : w4.cell? ⟨w.heap.size, 0, none⟩ = some (.slice (some ⟨b, o, none⟩) (m + 1) c) := (hk3.on hb4).cell 0
 have hmax := hd3.row.max
 go_upto_region 3 with (at_builtin; refine Lib.wpList_append_run _ rfl _ _ _ _ rfl (.slice (some ⟨w3.heap.size, 0, none⟩) 0 0) (.slice (some ⟨b, o, none⟩) (i + 1) c) rfl rfl _ _ (HAP1.out _) ?_)
 have hk5 := hk3.on hb5
 have f5 := hk5.frz 0
 have x5 : w5.cell? ⟨w.heap.size, 0, none⟩ = some (.slice (some ⟨b, o, none⟩) (m + 1) c) := hk5.cell 0
 obtain ⟨k1, hk1⟩ : ∃ k1, k.qK i = k1 := ⟨_, rfl⟩
 obtain ⟨l1, hl1⟩ : ∃ l1, l.take (i + 1) ++ l.drop (i + 2) = l1 := ⟨_, rfl⟩
 rw [hl1] at ho2
 have hll1 : l1.length = m := by rw [← hl1, List.length_append, zw, List.length_drop, hlk]; omega
 have hls1 : l1.map (·.x) = k1.L := by
   rw [← hl1, ← hk1, List.map_append, List.map_take, List.map_drop, hd3.is]
   rfl
 have hd5 : DAt w5 q2 m d2 k1 l1 := ⟨VG ho2, hll1, hls1, λ y hy => by
   rw [← hl1] at hy
   rcases List.mem_append.1 hy with hy | hy
   · have := hd3.rows y (List.mem_of_mem_take hy)
     exact ⟨gc.Zc this.1 hb5, this.2⟩
   · have := hd3.rows y (List.mem_of_mem_drop hy)
     exact ⟨gc.Zc this.1 hb5, this.2⟩⟩
 have hrm := hF.fine.qK i (by omega)
 rw [hk1] at hrm
 have hkm : k1.L.length = m := by rw [← hls1, List.length_map, hll1]
 have hzs := hF.size (i + 1) (by omega)
 rw [hzx] at hzs hrm
 have hF2 : Ch.Fine (k1.onC (i + 1) (Ch.qJ now z.x.s.S)) M := hrm.1.push (i + 1) (by omega) now _ (by omega) hrm.2
 have hi5 : IsC w5 w.heap.size := hk5.is (K := 5) rfl
 have HD6 := zd (hd5.setCell hi5 (by decide) (by decide) 0 (.slice q2 m d2))
 have HA6 := zd (show XD (w5.setCell ⟨w.heap.size, 0, none⟩ (.slice q2 m d2)) w.heap.size q2 m d2 k1 by
   have := hk5.set 0 (.slice q2 m d2)
   rw [GV _ q2 _ _ m d2 k (k.qK i).L] at this
   rw [← hk1]
   exact this)
 have HR6 := zd (show IsC (w5.setCell ⟨w.heap.size, 0, none⟩ (.slice q2 m d2)) (w.heap.size + 1) from (hr3.on hb5).far (show w.heap.size + 1 ≠ w.heap.size by omega) 0 _)
 have HB6 := zd ((gb.seqB hb3 hb5).setCell (p := ⟨w.heap.size, 0, none⟩) (zg _) (.slice q2 m d2))
 have HP6 := zd (show BAt 72 (w5.setCell ⟨w.heap.size, 0, none⟩ (.slice q2 m d2)) W.heap.size (pC z) from (HZP.out.on hb5).far (by omega) 0 _)
 have HF := zd hF
 have HF1 := zd hrm.1
 have HF2 := zd hF2
 have HZX := zd hzx
 have HZS := zd hzs
 have HK1 := zd hk1
 have HKM := zd hkm
 have HKN := zd hkn
 go_upto_region 4 with (at_builtin; refine Lib.wpList_append_run _ rfl _ _ _ _ rfl (.slice q1 (i + 1) d1) (.slice (some ⟨b, o + (i + 2) * 23, none⟩) (m - (i + 1)) (c - (i + 2))) rfl rfl _ _ (HAP2.out _) ?_)
 generalize w5.setCell ⟨w.heap.size, 0, none⟩ (.slice q2 m d2) = w6 at *
 clear happ1 happ2 HAP1 HAP2 ho1 ho2 hb4 hb5 hf4 hf5 hsz4 hsz5 hd5 hd3 x0 x0' x4 x5 f5 hk5 hi5 hF hrm hzx hzs hk1 hkm hkn hF2 hk3 hr3 hb3 ht1 ht2 hl1 hll1 hls1 HZP hlk hcap hmax hzl
 obtain ⟨b2, o2, rfl, _⟩ := HD6.out.row.at (by omega)
 obtain ⟨z2, hzl2⟩ : ∃ z2, l1[i + 1]? = some z2 := ⟨_, zj (by rw [HD6.out.len]; omega)⟩
 have HZ2 := zd (HD6.out.part hzl2)
 have hrg2 := HD6.out.TH (by omega) hzl2
 have x6 : w6.cell? ⟨w.heap.size, 0, none⟩ = some (.slice (some ⟨b2, o2, none⟩) m d2) := HA6.out.cell 0
 have i6 : MIs w6 b2 (o2 + (i + 1) * 23) := ⟨_, _, _, _, hrg2⟩
 have k6 := V9 hrg2
 have hd2' : decide ((i : Int) + 1 < (m : Int)) = true := decide_eq_true (by omega)
 have HH := zd (Z7 z2.p z2.n z2.c z2.x.s w6)
 clear hzl2 hrg2
 go_wp2_with fail
 refine HH.out.mono ?_
 rintro e w7 ⟨rfl, hb7⟩
 have HD7 := zd (HD6.out.on hb7)
 have hA7 := HA6.out.on hb7
 have HR7 := zd (HR6.out.on hb7)
 have HP7 := zd (HP6.out.on hb7)
 have HB7 := zd (gb.seqB HB6.out hb7)
 have i7 := hA7.is (K := 5) rfl
 have c7 := hA7.cells
 have x11 : w7.cell? ⟨W.heap.size, 11, none⟩ = some (.string z.x.s.S) := HP7.out.cell 11
 have HDP := zd (show Calls zf 22 #[.agg (kC (some ⟨b2, o2, none⟩) m d2 k1), .int .i64 ((i : Int) + 1), .agg #[.int .i64 1, .int .i64 now, .int .i64 0, .string z.x.s.S, .string ⟨#[]⟩, .int .i64 0, .bool false, .int .i64 0, .int .i64 0, .int .i64 0]] w7 (JS (k1.onC (i + 1) (Ch.qJ now z.x.s.S)) (k1.ql (i + 1) (Ch.qJ now z.x.s.S)) m w7) from jh HD7.out HF1.out HF.out.top (i + 1) (by omega) now z.x.s.S HZS.out)
 generalize k1.ql (i + 1) (Ch.qJ now z.x.s.S) = ay at HDP
 have HE2 := zd (show k.XJ i now = k1.onC (i + 1) (Ch.qJ now z.x.s.S) from by unfold Ch.XJ; rw [HK1.out, HZX.out])
 have HL2 := zd (show (k1.onC (i + 1) (Ch.qJ now z.x.s.S)).L.length = m from by rw [Ch.qk]; exact HKM.out)
 have HT2 := zd (show (k1.onC (i + 1) (Ch.qJ now z.x.s.S)).lost = k.lost from by rw [← HK1.out]; rfl)
 have HG := zd (show k.gone i now = (z.x.s.S.size : Int) - ((((k.XJ i now).at' (i + 1)).s.S.size : Int) - (z2.x.s.S.size : Int)) from by unfold Ch.gone; rw [HK1.out, HZX.out, HZ2.out])
 obtain ⟨k2, hk2⟩ : ∃ k2, k1.onC (i + 1) (Ch.qJ now z.x.s.S) = k2 := ⟨_, rfl⟩
 rw [hk2] at HDP HE2 HF2 HL2 HT2
 rw [HE2.out] at HG
 clear hk2 hb7 hA7 HD6 HA6 HR6 HP6 HB6 x6 i6 k6 hd2' HH
 go_upto_region 5 with fail
 go_wp2_with fail
 refine HDP.out.mono ?_
 rintro e w8 ⟨p8, c6, l8, rfl, hd8, hb8⟩
 obtain ⟨W9, hW9, i9, j9, z9, y9, hb9, hs9⟩ := jd w8 p8 m c6 k2 ay
 have hW9 : (w8.alloc (.cells #[.slice none 0 0, .int .i64 0, .int .i64 0, .bool false, .int .i64 0] 31)).alloc (.cells #[.int .i64 0, .string ⟨#[]⟩, .int .i64 0] 73) = W9 := hW9
 have hb89 := gb.seqB hb8 hb9
 have HD9 := zd (hd8.on hb9)
 have HN9 := zd z9
 have HR9 := zd (HR7.out.on hb89)
 have HP9 := zd (HP7.out.on hb89)
 have HB9 := zd (gb.seqB HB7.out hb89)
 have hlg := HB7.out.size
 have hlg8 := hb8.size
 have hlr := HR7.out.lt
 have hlp := HP7.out.lt
 clear HDP hb8 hb9 hb89 hd8 z9 y9 HD7 HR7 HP7 HB7 i7 c7 x11
 go_upto_region 6 with fail
 generalize (W9.setRow w8.heap.size (kC p8 m c6 k2)).setRow (w8.heap.size + 1) (ql ay) = w9 at *
 clear hW9 i9 j9 hs9
 obtain ⟨b3, o3, rfl, _⟩ := HD9.out.row.at (by omega)
 obtain ⟨z3, hzl3⟩ : ∃ z3, l8[i + 1]? = some z3 := ⟨_, zj (by rw [HD9.out.len]; omega)⟩
 have hz3 := HD9.out.part hzl3
 have hs3 : z3.x.s.S.size ≤ 200000 := by
   have h1 := HF2.out.pre (i + 1) (by rw [HL2.out]; omega)
   have h2 := Ch.Xq k2 (i + 1) (by rw [HL2.out]; omega)
   have h3 := (HF2.out.ok (i + 1) (by rw [HL2.out]; omega)).1.passed
   have h4 := HF.out.top
   rw [hz3] at h1 h2 h3
   omega
 have hs2 : z2.x.s.S.size ≤ 200000 := by
   have h1 := HF1.out.pre (i + 1) (by rw [HKM.out]; omega)
   have h2 := Ch.Xq k1 (i + 1) (by rw [HKM.out]; omega)
   have h3 := (HF1.out.ok (i + 1) (by rw [HKM.out]; omega)).1.passed
   have h4 := HF.out.top
   rw [HZ2.out] at h1 h2 h3
   omega
 have hs1 := HZS.out
 rw [hz3] at HG
 have hwa : IntKind.i64.wrap ((z3.x.s.S.size : Int) - (z2.x.s.S.size : Int)) = (z3.x.s.S.size : Int) - (z2.x.s.S.size : Int) := qs (by omega) (by omega)
 have hwb : IntKind.i64.wrap ((z.x.s.S.size : Int) - ((z3.x.s.S.size : Int) - (z2.x.s.S.size : Int))) = (z.x.s.S.size : Int) - ((z3.x.s.S.size : Int) - (z2.x.s.S.size : Int)) := qs (by omega) (by omega)
 have HGB := zd (show (z.x.s.S.size : Int) - ((z3.x.s.S.size : Int) - (z2.x.s.S.size : Int)) ≤ 1000000 from by omega)
 have HRP := zd (show ∀ W', Below w9.heap.size w9 W' → W'.rangeAt W.heap.size 0 (rC z.p z.n z.c z.x.s).toList from λ W' hb j v hj => by
   have hj2 : j < 22 := by
     have := (List.getElem?_eq_some_iff.1 hj).1
     simpa [rC] using this
   rw [Nat.zero_add, (HP9.out.on hb).cell j, ← Array.getElem?_toList]
   simp only [pC, Array.toList_push]
   rw [List.getElem?_append_left (by simp [rC]; omega)]
   exact hj)
 have HRG := zd (show ∀ W', Below w9.heap.size w9 W' → W'.rangeAt b3 (o3 + (i + 1) * 23) (rC z3.p z3.n z3.c z3.x.s).toList from λ W' hb => Q1 (HD9.out.TH (by omega) hzl3) hb)
 have HCK := zd (show ∀ W', Hid (Below w9.heap.size w9 W') → MIs W' W.heap.size 0 ∧ Vs W' W.heap.size 0 = rC z.p z.n z.c z.x.s ∧ W'.cell? ⟨w8.heap.size, 0, none⟩ = some (.slice (some ⟨b3, o3, none⟩) m c6) ∧ MIs W' b3 (o3 + (i + 1) * 23) ∧ Vs W' b3 (o3 + (i + 1) * 23) = rC z3.p z3.n z3.c z3.x.s ∧ Hid (Below w9.heap.size w9 W') from λ W' hb =>
   ⟨⟨_, _, _, _, HRP.out W' hb.out⟩, V9 (HRP.out W' hb.out), (HN9.out.on hb.out).cell 0, ⟨_, _, _, _, HRG.out W' hb.out⟩, V9 (HRG.out W' hb.out), hb⟩)
 have HK0 := zd (show Hid (Below w9.heap.size w9 w9.drew) from zd (zh _ _).drew)
 have HH1 := zd (λ W => Z7 z.p z.n z.c z.x.s W)
 have HH3 := zd (λ W => Z7 z3.p z3.n z3.c z3.x.s W)
 have hd2' : decide ((i : Int) + 1 < (m : Int)) = true := decide_eq_true (by omega)
 clear hzl3 hz3 HRP HRG HZ2 HF1 HZS
 go_cut [12] from 55 (λ v12 wx => v12 = .int .i64 ((z.x.s.S.size : Int) - ((z3.x.s.S.size : Int) - (z2.x.s.S.size : Int))) ∧ Below w9.heap.size w9 wx)
 case first =>
   go_region_held (λ W' => MIs W' W.heap.size 0 ∧ Vs W' W.heap.size 0 = rC z.p z.n z.c z.x.s ∧ W'.cell? ⟨w8.heap.size, 0, none⟩ = some (.slice (some ⟨b3, o3, none⟩) m c6) ∧ MIs W' b3 (o3 + (i + 1) * 23) ∧ Vs W' b3 (o3 + (i + 1) * 23) = rC z3.p z3.n z3.c z3.x.s ∧ Hid (Below w9.heap.size w9 W'))
     ((refine HCK.out _ ?_
       go_split_ands
       first
         | with_reducible exact HK0.out
         | with_reducible exact hk6
         | with_reducible exact hk5))
     (first
       | (go_split_ands; go_at_call 59; (with_reducible refine zr (HH1.out _) ?_); rintro e w5 ⟨rfl, hb5⟩; have hk5 := Jh hb5 (by with_reducible assumption); try (have hk6 := Jh hb5 hk6))
       | (go_split_ands; go_at_call 59; (with_reducible refine zr (HH3.out _) ?_); rintro e w5 ⟨rfl, hb5⟩; have hk5 := Jh hb5 (by with_reducible assumption)))
   all_goals (
     go_wp2_with fail
     go_meet
     exact ⟨rfl, hk5.out⟩)
 case rest =>
 obtain ⟨rfl, hbc⟩ := hcut
 have HDc := zd (HD9.out.on hbc)
 have HNc := zd (HN9.out.on hbc)
 have HRc := zd (HR9.out.on hbc)
 have HPc := zd (HP9.out.on hbc)
 have HBc := zd (gb.seqB HB9.out hbc)
 clear HD9 HN9 HR9 HP9 HB9 hbc HCK HK0 HH1 HH3 hwa hwb
 generalize (z.x.s.S.size : Int) - ((z3.x.s.S.size : Int) - (z2.x.s.S.size : Int)) = gn at *
 have HB3 := zd (show (k.Xe i now).bal = k.bal from FA k i now (by rw [HKN.out]; omega))
 by_cases hg : 0 < gn
 · have hg' : decide (0 < gn) = true := decide_eq_true hg
   have hg2 : decide (gn > 0) = true := hg'
   have HE3 := zd (show k.Xe i now = ({ k2 with lost := k.lost + gn } : Ch).Za (i + 1) from by unfold Ch.Xe; rw [HG.out, if_pos hg, HE2.out])
   obtain ⟨kx, hkx⟩ : ∃ kx, ({ k2 with lost := k.lost + gn } : Ch) = kx := ⟨_, rfl⟩
   rw [hkx] at HE3
   have hlx : kx.L = k2.L := by rw [← hkx]
   have HFx := zd (show Kok kx M from ⟨HF2.out.same hlx, HF.out.top, by have := HF.out.lost; rw [← hkx]; show 0 ≤ k.lost + gn; omega, by
     have h1 := HB3.out
     rw [HE3.out, Ch.Vv _ _ (by rw [hlx, HL2.out]; omega)] at h1
     rw [h1]
     exact HF.out.bal⟩)
   have HLx := zd (show kx.L.length = m from by rw [hlx]; exact HL2.out)
   have hwl : IntKind.i64.wrap (k.lost + gn) = k.lost + gn := by
     have h1 := HF.out.lost
     have h2 := HF.out.sum 0 (by rw [HKN.out]; omega)
     have h3 := HGB.out
     exact qs (by omega) (by omega)
   have y2 : wc.cell? ⟨w8.heap.size, 2, none⟩ = some (.int .i64 k2.lost) := HNc.out.cell 2
   rw [HT2.out] at y2
   have f2 : wc.frozen? ⟨w8.heap.size, 2, none⟩ = false := HNc.out.frz 2
   have HN1 := zd (show XD (wc.setCell ⟨w8.heap.size, 2, none⟩ (.int .i64 (k.lost + gn))) w8.heap.size (some ⟨b3, o3, none⟩) m c6 kx by
     have := HNc.out.set 2 (.int .i64 (k.lost + gn))
     rw [NJ, hkx] at this
     exact this)
   have HD1 := zd (show DAt (wc.setCell ⟨w8.heap.size, 2, none⟩ (.int .i64 (k.lost + gn))) (some ⟨b3, o3, none⟩) m c6 kx l8 from (HDc.out.setCell (HNc.out.is (K := 5) rfl) (by decide) (by decide) 2 _).as hlx)
   have HR1 := zd (HRc.out.far (show w.heap.size + 1 ≠ w8.heap.size by omega) 2 (.int .i64 (k.lost + gn)))
   have HP1 := zd (HPc.out.far (show W.heap.size ≠ w8.heap.size by omega) 2 (.int .i64 (k.lost + gn)))
   have HB1 := zd (HBc.out.setCell (p := ⟨w8.heap.size, 2, none⟩) (show w.heap.size ≤ w8.heap.size by omega) (.int .i64 (k.lost + gn)))
   clear hkx HDc HNc HRc HPc HBc
   go_upto_region 9 with fail
   generalize wc.setCell ⟨w8.heap.size, 2, none⟩ (.int .i64 (k.lost + gn)) = w1 at *
   clear y2 f2 hwl hg' hg2
   have HLO := zd (show Calls zf 56 #[.agg (kC (some ⟨b3, o3, none⟩) m c6 kx), .int .i64 ((i : Int) + 1)] w1 (Nl (kx.Za (i + 1)) m w1) from Qc HD1.out HFx.out (i + 1) (by omega))
   have HF3 := zd ((HFx.out.Za (i + 1) (by rw [HLx.out]; omega)).fine)
   generalize kx.Za (i + 1) = k3 at *
   have i1 := HN1.out.is (K := 5) rfl
   have c1 := HN1.out.cells
   go_wp2_with fail
   refine HLO.out.mono ?_
   rintro e w2 ⟨p3, c3, l3, rfl, hd2, hb2⟩
   have hn2' := (HN1.out.on hb2).is (K := 5) rfl
   have HD3 := zd (hd2.setRow hn2' (by decide) (by decide) (kC p3 m c3 k3))
   have HN3 := zd (show XD (w2.setRow w8.heap.size (kC p3 m c3 k3)) w8.heap.size p3 m c3 k3 from hn2'.row _)
   have HR3 := zd ((HR1.out.on hb2).other (show w.heap.size + 1 ≠ w8.heap.size by omega) (kC p3 m c3 k3))
   have HP3 := zd ((HP1.out.on hb2).other (show W.heap.size ≠ w8.heap.size by omega) (kC p3 m c3 k3))
   have HB3' := zd (below_setRow (gb.seqB HB1.out hb2) (show w.heap.size ≤ w8.heap.size by omega) (kC p3 m c3 k3))
   clear HLO hd2 hb2 HD1 HN1 HR1 HP1 HB1 i1 c1
   go_upto_region 10 with fail
   generalize w2.setRow w8.heap.size (kC p3 m c3 k3) = w3 at *
   clear hn2'
   cases hcl : z.x.closed
   case false =>
     have HE9 := zd (show k.ZW i now = k3 from by unfold Ch.ZW; rw [HZX.out, hcl, if_neg (by decide)]; exact HE3.out)
     have x22 : w3.cell? ⟨W.heap.size, 22, none⟩ = some (.bool false) := by
       have := HP3.out.cell 22
       rw [← hcl]
       exact this
     have i0 := HN3.out.is (K := 5) rfl
     have c0 := HN3.out.cells
     have i9 := HR3.out
     have HZ := zd (HR3.out.row (kC p3 m c3 k3))
     have HZB := zd (below_setRow HB3'.out (show w.heap.size ≤ w.heap.size + 1 by omega) (kC p3 m c3 k3))
     have HZD := zd (HD3.out.setRow HR3.out (by decide) (by decide) (kC p3 m c3 k3))
     go_wp2_with fail
     exact zk (v := .agg (kC p3 m c3 k3)) (by simp [results, results26, asAddr, qt HZ.out]) rfl ⟨_, _, l3, by rw [HE9.out], by rw [HE9.out]; exact HZD.out, HZB.out⟩
   case true =>
     have HE9 := zd (show k.ZW i now = k3.onC (i + 1) (Ch.qA now) from by unfold Ch.ZW; rw [HZX.out, hcl, if_pos rfl, HE3.out])
     have x22 : w3.cell? ⟨W.heap.size, 22, none⟩ = some (.bool true) := by
       have := HP3.out.cell 22
       rw [← hcl]
       exact this
     have i0 := HN3.out.is (K := 5) rfl
     have c0 := HN3.out.cells
     have HDP := zd (show Calls zf 22 #[.agg (kC p3 m c3 k3), .int .i64 ((i : Int) + 1), .agg #[.int .i64 3, .int .i64 now, .int .i64 0, .string ⟨#[]⟩, .string ⟨#[]⟩, .int .i64 0, .bool false, .int .i64 0, .int .i64 0, .int .i64 0]] w3 (JS (k3.onC (i + 1) (Ch.qA now)) (k3.ql (i + 1) (Ch.qA now)) m w3) from JD HD3.out HF3.out HF.out.top (i + 1) (by omega) now)
     generalize k3.ql (i + 1) (Ch.qA now) = az at HDP
     generalize k3.onC (i + 1) (Ch.qA now) = k4 at HDP HE9
     go_wp2_with fail
     refine HDP.out.mono ?_
     rintro e w4 ⟨p4, c4, l4, rfl, hd4, hb4⟩
     have hn4 := (HN3.out.on hb4).is (K := 5) rfl
     have HD5 := zd (hd4.setRow hn4 (by decide) (by decide) (kC p4 m c4 k4))
     have HN5 := zd (show XD (w4.setRow w8.heap.size (kC p4 m c4 k4)) w8.heap.size p4 m c4 k4 from hn4.row _)
     have HR5 := zd ((HR3.out.on hb4).other (show w.heap.size + 1 ≠ w8.heap.size by omega) (kC p4 m c4 k4))
     have HB5 := zd (below_setRow (gb.seqB HB3'.out hb4) (show w.heap.size ≤ w8.heap.size by omega) (kC p4 m c4 k4))
     clear HDP hd4 hb4 HD3 HN3 HR3 HP3 HB3' i0 c0
     go_upto_region 12 with fail
     generalize w4.setRow w8.heap.size (kC p4 m c4 k4) = w5 at *
     clear hn4
     have i0 := HN5.out.is (K := 5) rfl
     have c0 := HN5.out.cells
     have i9 := HR5.out
     have HZ := zd (HR5.out.row (kC p4 m c4 k4))
     have HZB := zd (below_setRow HB5.out (show w.heap.size ≤ w.heap.size + 1 by omega) (kC p4 m c4 k4))
     have HZD := zd (HD5.out.setRow HR5.out (by decide) (by decide) (kC p4 m c4 k4))
     go_wp2_with fail
     exact zk (v := .agg (kC p4 m c4 k4)) (by simp [results, results26, asAddr, qt HZ.out]) rfl ⟨p4, c4, l4, by rw [HE9.out], by rw [HE9.out]; exact HZD.out, HZB.out⟩
 · have hg' : decide (0 < gn) = false := decide_eq_false hg
   have hg2 : decide (gn > 0) = false := hg'
   have HE3 := zd (show k.Xe i now = k2 from by unfold Ch.Xe; rw [HG.out, if_neg hg, HE2.out])
   go_upto_region 10 with fail
   clear hg' hg2
   have HD3 := HDc
   have HN3 := HNc
   have HR3 := HRc
   have HP3 := HPc
   have HB3' := HBc
   have HF3 := HF2
   clear HDc HNc HRc HPc HBc HF2
   cases hcl : z.x.closed
   case false =>
     have HE9 := zd (show k.ZW i now = k2 from by unfold Ch.ZW; rw [HZX.out, hcl, if_neg (by decide)]; exact HE3.out)
     have x22 : wc.cell? ⟨W.heap.size, 22, none⟩ = some (.bool false) := by
       have := HP3.out.cell 22
       rw [← hcl]
       exact this
     have i0 := HN3.out.is (K := 5) rfl
     have c0 := HN3.out.cells
     have i9 := HR3.out
     have HZ := zd (HR3.out.row (kC (some ⟨b3, o3, none⟩) m c6 k2))
     have HZB := zd (below_setRow HB3'.out (show w.heap.size ≤ w.heap.size + 1 by omega) (kC (some ⟨b3, o3, none⟩) m c6 k2))
     have HZD := zd (HD3.out.setRow HR3.out (by decide) (by decide) (kC (some ⟨b3, o3, none⟩) m c6 k2))
     go_wp2_with fail
     exact zk (v := .agg (kC (some ⟨b3, o3, none⟩) m c6 k2)) (by simp [results, results26, asAddr, qt HZ.out]) rfl ⟨_, _, l8, by rw [HE9.out], by rw [HE9.out]; exact HZD.out, HZB.out⟩
   case true =>
     have HE9 := zd (show k.ZW i now = k2.onC (i + 1) (Ch.qA now) from by unfold Ch.ZW; rw [HZX.out, hcl, if_pos rfl, HE3.out])
     have x22 : wc.cell? ⟨W.heap.size, 22, none⟩ = some (.bool true) := by
       have := HP3.out.cell 22
       rw [← hcl]
       exact this
     have i0 := HN3.out.is (K := 5) rfl
     have c0 := HN3.out.cells
     have HDP := zd (show Calls zf 22 #[.agg (kC (some ⟨b3, o3, none⟩) m c6 k2), .int .i64 ((i : Int) + 1), .agg #[.int .i64 3, .int .i64 now, .int .i64 0, .string ⟨#[]⟩, .string ⟨#[]⟩, .int .i64 0, .bool false, .int .i64 0, .int .i64 0, .int .i64 0]] wc (JS (k2.onC (i + 1) (Ch.qA now)) (k2.ql (i + 1) (Ch.qA now)) m wc) from JD HD3.out HF3.out HF.out.top (i + 1) (by omega) now)
     generalize k2.ql (i + 1) (Ch.qA now) = az at HDP
     generalize k2.onC (i + 1) (Ch.qA now) = k4 at HDP HE9
     go_wp2_with fail
     refine HDP.out.mono ?_
     rintro e w4 ⟨p4, c4, l4, rfl, hd4, hb4⟩
     have hn4 := (HN3.out.on hb4).is (K := 5) rfl
     have HD5 := zd (hd4.setRow hn4 (by decide) (by decide) (kC p4 m c4 k4))
     have HN5 := zd (show XD (w4.setRow w8.heap.size (kC p4 m c4 k4)) w8.heap.size p4 m c4 k4 from hn4.row _)
     have HR5 := zd ((HR3.out.on hb4).other (show w.heap.size + 1 ≠ w8.heap.size by omega) (kC p4 m c4 k4))
     have HB5 := zd (below_setRow (gb.seqB HB3'.out hb4) (show w.heap.size ≤ w8.heap.size by omega) (kC p4 m c4 k4))
     clear HDP hd4 hb4 HD3 HN3 HR3 HP3 HB3' i0 c0
     go_upto_region 12 with fail
     generalize w4.setRow w8.heap.size (kC p4 m c4 k4) = w5 at *
     clear hn4
     have i0 := HN5.out.is (K := 5) rfl
     have c0 := HN5.out.cells
     have i9 := HR5.out
     have HZ := zd (HR5.out.row (kC p4 m c4 k4))
     have HZB := zd (below_setRow HB5.out (show w.heap.size ≤ w.heap.size + 1 by omega) (kC p4 m c4 k4))
     have HZD := zd (HD5.out.setRow HR5.out (by decide) (by decide) (kC p4 m c4 k4))
     go_wp2_with fail
     exact zk (v := .agg (kC p4 m c4 k4)) (by simp [results, results26, asAddr, qt HZ.out]) rfl ⟨p4, c4, l4, by rw [HE9.out], by rw [HE9.out]; exact HZD.out, HZB.out⟩
end
end
end Go.Proofs.YtfdfgnmgpgkknaaGreat
