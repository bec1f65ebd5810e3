import Derived.Test.YtfdfgnmgpgkknaaGreatMG12
import Derived.Deep.LoopGhost
set_option maxHeartbeats 8000000
open Go.Proofs.Tryz renaming prog→zf
open Nat renaming le_trans→zt,lt_of_lt_of_le→zy,le_refl→zg
open Go.Lib renaming hid→zd
open List renaming length_take→zw,getD_eq_getElem?_getD→zi,getElem?_eq_getElem→zj
open Go renaming heap_alloc_new→zo
open Go.RowKit.Below renaming refl→zh
open Go.Calls renaming mono→zr
open Go.Proofs.Tryz
namespace Go.Proofs.YtfdfgnmgpgkknaaGreat
namespace gc
open Go.RowKit
theorem ML (p:Option Addr) (c m k:Nat):blk (if c=m then p else p.map (·.add k))=blk p:=by
 split
 ·rfl
 ·cases p with
  |none=>rfl
  |some a=>
   cases a
   simp only[blk,Option.map_some,Addr.add]
   split<;>rfl
theorem Le {w w':World} {g:Nat} {u:U} (h:Kept w w' g (none,none)):Kept w w' g u:=⟨h.os,h.tape,h.output,h.size,λ i hi hg _ _=>h.block i hi hg (by simp) (by simp)⟩
variable {w:World} {base g:Nat} {u:U} {S:ByteArray} {A:List Int} {last:Int} {M G:Nat} {ms:List Mk}
def MR (w:World) (base g:Nat) (u:U) (S:ByteArray) (A:List Int) (last:Int) (M K:Nat) (e:Ending) (w':World):Prop:=∃q d,e=.returned (.slice q K d)∧Lib.BytesIn w' q K (nums (S.extract 0 K))∧K≤d∧d≤9223372036854775807∧AH w base g u (S.extract K S.size) (A.drop K) last M q w'
theorem jL (S:ByteArray) (K:Nat):nums (S.extract 0 K)=(nums S).take K:=by rw[MF,List.drop_zero,Nat.sub_zero]
theorem PF (S:ByteArray) (K:Nat):nums (S.extract K S.size)=(nums S).drop K:=by
 rw[MF,List.take_of_length_le (by rw[List.length_drop,nums_length];omega)]
theorem Lg.take (h:Lg G S ms A last M) {K:Nat} (hK:K≤S.size):Lg (G+K) (S.extract K S.size) (ms.drop (Jj ms (G+K))) (A.drop K) last M:=by
 have hs:(S.extract K S.size).size=S.size -K:=by rw[ByteArray.size_extract];omega
 obtain⟨h1,h2⟩:=OY (K:=G+K) h.ends (by omega) (by omega)
 have:=h.top
 refine⟨by rw[hs,show G+K+(S.size -K)=G+S.size by omega];exact h1,List.Pairwise.sublist (List.drop_sublist _ _) h.rise,?_,λ m hm=>h.rg m (List.mem_of_mem_drop hm),h.last,by rw[hs];omega,h.fit⟩
 rw[h2,h.tks,show G+K -G=K by omega]
theorem Ty (h:R w base g u S ms G last) (hl:Lg G S ms A last M) (now most:Int) {K:Nat} (hK:Zz A now most=K):
  Calls zf 77 #[.pointer (some ⟨g,0,none⟩),.int .i64 now,.int .i64 most] w (MR w base g u S A last M K):=by
 have hKA:K≤S.size:=by rw[←hl.inv.len,←hK];exact Vj _ _ _
 have hSM:G+S.size≤1000000:=zt hl.top hl.fit
 have hmlen:ms.length≤1000000:=by
  have:∀(l:List Mk) (f e:Nat),XW f l e→f+l.length≤e:=by
   intro l
   induction l with
   |nil=>intro f e he;exact Nat.le_of_eq he
   |cons x r ih=>intro f e he;have:=ih _ _ he.2;have:=he.1;simp only[List.length_cons];omega
  have:=this _ _ _ hl.ends
  omega
 obtain⟨N,hN⟩:∃N,qn (ms.map Prod.fst) now=N:=⟨_,rfl⟩
 obtain⟨R0,hR0⟩:∃R0,JR G ms N -G=R0:=⟨_,rfl⟩
 have HRD:=zd (jV h hl.rise hmlen hl.ends (by omega) now hN hR0)
 have hRA:qn A now=R0:=by rw[←hl.tks,jU hl.ends,hN,hR0]
 have HX:max 0 (min most (R0:Int))=(K:Int):=by
  unfold Zz at hK
  rw[hRA]at hK
  omega
 obtain⟨p,n,c,q,m,d,hw,rfl⟩:=h
 have hn:=hw.Xp.1
 have hnc:=hw.Xp.2.2.1
 have hc:=hw.Xp.2.2.2.2.1
 have hml:=hw.Xp.2.1
 have hKn:K≤n:=by omega
 have hsl:=Ot p n c K (by omega)
 have hsf:=Ou p n c K hKn
 have hpn:=hw.row.non
 have HCL:=zd (λ (W:World) (hW:Below w.heap.size w W)=>jz p K c ((nums S).take K) W (by rw[zw,nums_length];omega) (λ e=>by have:=hpn e;omega) (by omega) (jx (hw.on hW).bytes K hKn))
 have HBY:=zd (show∀(W:World) (qq:Option Addr) (dd:Nat) (W':World) (w1:World),ORow W w1.heap.size 5 1 qq K dd (((nums S).take K).map (Value.int .u8))→g<w1.heap.size→Kept W W' g (none,none)→Lib.BytesIn W' qq K (nums (S.extract 0 K))fromλ W qq dd W' w1 ho hg hk=>by
  have ho':=ho.keep (w':=W') λ a e=>hk.block _ (ho.lt a e).2 (by have:=(ho.lt a e).1;omega) (by simp) (by simp)
  intro hn0
  obtain⟨b,o,e,hcl⟩:=ho'.at hn0
  refine⟨b,o,e,λ i hi=>hcl i _ ?_⟩
  rw[jL,List.getElem?_map,zi,zj (by rw[zw,nums_length];omega)]
  rfl)
 have HD:=zd (show∀W,Below w.heap.size w W→ORow W base 5 1 (if c=K then p else p.map (·.add (K*1))) (n -K) (c -K) ((nums (S.extract K S.size)).map (Value.int .u8))fromλ W hW=>by
  have:=(hw.on hW).row.drop K hKn
  rw[Nat.mul_one,←List.map_drop,←PF]at this
  rw[Nat.mul_one]
  exact this)
 have hbp:=ML p c K (K*1)
 generalize(if c=K then p else p.map (·.add (K*1)))=p2 at*
 generalize n -K=n2 at*
 generalize c -K=c2 at*
 have HG:=zd (λ (W:World) (hW:Below w.heap.size w W)=>(⟨(hw.on hW).cells.1,(hw.on hW).cells.2.2.1,qa (hw.on hW).blk,qa (hw.on hW).blk,qd (hw.on hW).blk⟩:W.cell? ⟨g,0,none⟩=some (.slice p n c)∧W.cell? ⟨g,2,none⟩=some (.int .i64 (G:Int))∧W.frozen? ⟨g,0,none⟩=false∧W.frozen? ⟨g,2,none⟩=false∧g<W.heap.size))
 have HS:=zd (show∀W,Below w.heap.size w W→Raw ((W.setCell ⟨g,0,none⟩ (.slice p2 n2 c2)).setCell ⟨g,2,none⟩ (.int .i64 ((G:Int)+(K:Int)))) base g p2 n2 c2 q m d (S.extract K S.size) ms (G+K) last∧Kept W ((W.setCell ⟨g,0,none⟩ (.slice p2 n2 c2)).setCell ⟨g,2,none⟩ (.int .i64 ((G:Int)+(K:Int)))) g (none,none)fromλ W hW=>by
  rw[←Int.natCast_add]
  exact⟨(Raw.BZ (hw.on hW).blk (hw.on hW).mks hw.base (HD.out W hW)).AN (G+K),YQ (YQ (kept_refl _ _ _) 0 _) 2 _⟩)
 have HFIN:=zd (show∀(w1 w2 W:World) (j mj dj:Nat) (qq qj:Option Addr) (dd:Nat),Below w.heap.size w w1→Below w1.heap.size w1 w2→ORow w2 w1.heap.size 5 1 qq K dd (((nums S).take K).map (Value.int .u8))→Raw W base g p2 n2 c2 qj mj dj (S.extract K S.size) (ms.drop j) (G+K) last→blk qj=blk q→Kept w2 W g (none,none)→j=Jj ms (G+K)→
   MR w base g (Go.Proofs.YtfdfgnmgpgkknaaGreat.gc.blk p,Go.Proofs.YtfdfgnmgpgkknaaGreat.gc.blk q) S A last M K (.returned (.slice qq K dd)) W fromλ w1 w2 W j mj dj qq qj dd hb1 hb2 ho hr hq hk hj=>by
  have hgl:g<w1.heap.size:=zy (qd hw.blk) hb1.size
  have hub:=hw.r.UQ
  have hmx:=ho.max
  unfold maxLen at hmx
  refine⟨qq,dd,rfl,HBY.out w2 qq dd W w1 ho hgl hk,ho.cap,by omega,_,_,_,⟨hr.r,?_,Jp (X2 (seqB hb1 hb2) g _) (Xu _ _) (Le hk)⟩,by rw[hj];exact hl.take hKA,λ a e=>?_⟩
  ·rw[hbp,hq]
   exact Xu _ _
  ·have h1:=(ho.lt a e).1
   rw[hbp,hq]
   have hs1:=hb1.size
   exact⟨by omega,λ e'=>by have:=hub.1 _ e';omega,λ e'=>by have:=hub.2 _ e';omega⟩)
 have HJ:=zd (And.intro (Ny ms (G+K)) (And.intro (λ j (h:j<Jj ms (G+K))=>OX h) (Et (ms:=ms) (K:=G+K))))
 obtain⟨J,hJ⟩:∃J,Jj ms (G+K)=J:=⟨_,rfl⟩
 rw[hJ]at HJ HFIN
 have HML:=zd hml
 obtain⟨G1,hG1⟩:∃G1,G+K=G1:=⟨_,rfl⟩
 rw[hG1]at HJ HFIN HS
 have hm9:m≤1000000:=by omega
 clear hw hl hK hn hml hpn hJ hG1 hN hR0 hRA
 go_enter func77,ntmps77
 go_wp2_with fail
 refine HRD.out.mono ?_
 rintro e w1 ⟨rfl,hb1⟩
 have HB1:=zd hb1
 obtain⟨g0,_,_,_,_⟩:=HG.out w1 hb1
 clear hb1 HRD
 go_wp2_with fail
 refine(HCL.out w1 HB1.out).mono ?_
 rintro e w2 ⟨qq,dd,rfl,ho,hb2⟩
 have HO:=zd ho
 have HB2:=zd hb2
 clear g0
 obtain⟨g0,g2,f0,f2,hgl⟩:=HG.out w2 (seqB HB1.out hb2)
 obtain⟨hr,hk⟩:=HS.out w2 (seqB HB1.out hb2)
 have HR:=zd hr
 have HK:=zd hk
 clear ho hb2 hr hk HS HG HCL
 go_wp2_with fail
 clear hsl hsf g0 g2 f0 f2 hgl HX
 generalize(w2.setCell ⟨g,0,none⟩ (.slice p2 n2 c2)).setCell ⟨g,2,none⟩ (.int .i64 ((G:Int)+(K:Int)))=w4 at*
 go_loopg [] m (λ kx wr=>∃(j mj dj:Nat) (qj:Option Addr),j≤J∧m -j≤kx∧Hid (Raw wr base g p2 n2 c2 qj mj dj (S.extract K S.size) (ms.drop j) G1 last)∧Hid (Go.Proofs.YtfdfgnmgpgkknaaGreat.gc.blk qj=Go.Proofs.YtfdfgnmgpgkknaaGreat.gc.blk q)∧Hid (Kept w2 wr g (none,none)))
 case atStart=>exact⟨0,m,d,q,by omega,by omega,by rw[List.drop_zero];exact HR,zd rfl,HK⟩
 case round=>
  clear HR HK
  obtain⟨j,mj,dj,qj,hj,hkx,HR,HQ,HK⟩:=hrel
  obtain⟨_,hmj,_,hmd,_,hd9⟩:=HR.out.Xp
  obtain⟨_,g1,g2,_⟩:=HR.out.cells
  have f1:wr.frozen? ⟨g,1,none⟩=false:=qa HR.out.blk
  have hJm:=HJ.out.1
  rw[List.length_drop]at hmj
  have hmm:=HML.out
  by_cases hlt:j<J
  ·have hpos:0<mj:=by omega
   obtain⟨b,o,hqj,_,c1⟩:=HR.out.mark hpos
   have hle:=HJ.out.2.1 j hlt
   have he0:(ms.drop j).getD 0 JM=ms.getD j JM:=by rw[Ma ms j (by omega)];rfl
   rw[he0,Nat.zero_mul,Nat.add_zero]at c1
   generalize(ms.getD j JM).2=y at c1 hle
   have hsm:=Gi qj mj dj 1 hpos
   rw[show((1:Nat):Int)=1 from rfl]at hsm
   have HNX:=zd (show∀i,Raw ((wr.drewN i).setCell ⟨g,1,none⟩ (.slice (if dj=1 then qj else qj.map (·.add (1*2))) (mj -1) (dj -1))) base g p2 n2 c2 (if dj=1 then qj else qj.map (·.add (1*2))) (mj -1) (dj -1) (S.extract K S.size) (ms.drop (j+1)) G1 last fromλ i=>by
    have HR':=HR.out.on (below_drewN wr i)
    have ho:=HR'.mks.drop 1 hpos
    rw[←S5,List.drop_drop]at ho
    exact Raw.BY HR'.blk HR'.row HR'.base ho)
   have HQ2:=zd ((ML qj dj 1 (1*2)).trans HQ.out)
   have HKB:=zd (show∀i x,Kept w2 ((wr.drewN i).setCell ⟨g,1,none⟩ x) g (none,none)fromλ i x=>YQ (Jp HK.out (Xu _ _) (X2 (below_drewN wr i) g _)) 1 x)
   generalize(if dj=1 then qj else qj.map (·.add (1*2)))=q2 at*
   subst hqj
   have d1:decide ((0:Int)<(mj:Int))=true:=by simp;omega
   have d2:decide ((y:Int)≤(G1:Int))=true:=by simp;omega
   have d3:decide (y≤G1)=true:=by simpa using hle
   have HJM:=zd (show j<m by omega)
   have HLT:=zd hlt
   have HKX:=zd hkx
   clear HR HQ HK he0 hle hmj hJm hmm hlt hkx hj
   go_wp2_with fail
   go_quiet (fail)
   go_wp2_with fail
   go_roundg (m -(j+1))
   case measure=>have:=HJM.out;have:=HKX.out;omega
   case rel=>exact⟨j+1,mj -1,dj -1,q2,by have:=HLT.out;omega,zg _,zd (HNX.out nq),HQ2,zd (HKB.out nq _)⟩
  ·obtain rfl:j=J:=by omega
   have HE:=zd (λ i=>HFIN.out w1 w2 (wr.drewN i) j mj dj qq qj dd HB1.out HB2.out HO.out (HR.out.on (below_drewN wr i)) HQ.out (Jp HK.out (Xu _ _) (X2 (below_drewN wr i) g _)) rfl)
   by_cases hpos:0<mj
   ·obtain⟨b,o,hqj,_,c1⟩:=HR.out.mark hpos
    have hle:=HJ.out.2.2 (by omega)
    have he0:(ms.drop j).getD 0 JM=ms.getD j JM:=by rw[Ma ms j (by omega)];rfl
    rw[he0,Nat.zero_mul,Nat.add_zero]at c1
    generalize(ms.getD j JM).2=y at c1 hle
    subst hqj
    have d1:decide ((0:Int)<(mj:Int))=true:=by simp;omega
    have d2:decide ((y:Int)≤(G1:Int))=false:=by simp;omega
    have d3:decide (y≤G1)=false:=by simp;omega
    clear HR HQ HK he0 hle hmj hJm hmm hlt hkx hj HFIN HO HB1 HB2
    go_wp2_with fail
    go_quiet (fail)
    go_wp2_with fail
    go_ret
    exact HE.out _
   ·obtain rfl:mj=0:=by omega
    clear HR HQ HK hmj hJm hmm hlt hkx hj HFIN HO HB1 HB2
    go_wp2_with fail
    go_quiet (fail)
    go_wp2_with fail
    go_ret
    exact HE.out _
end gc
namespace gc
open Go.RowKit
variable {w:World} {base g:Nat} {u:U} {S:ByteArray} {A:List Int} {last:Int} {M G:Nat} {ms:List Mk}
def AK (S:ByteArray) (A:List Int) (last:Int) (M:Nat) (w:World) (e:Ending) (w':World):Prop:=∃g u,e=.returned (.pointer (some ⟨g,0,none⟩))∧Al w' w.heap.size g u S A last M∧Below w.heap.size w w'
theorem SF (w:World):Calls zf 80 #[] w (AK ⟨#[]⟩ [] 0 0 w):=by
 go_enter func80,ntmps80
 go_wp2_with fail
 go_ret
 exact⟨w.heap.size,(none,none),rfl,⟨[],0,⟨none,0,0,none,0,0,⟨zo w _,JA _ _ _ _,JA _ _ _ _,zg _⟩,rfl⟩,⟨rfl,List.Pairwise.nil,rfl,(λ _ h=>by cases h),by decide,zg _,by decide⟩⟩,(zh _ _).alloc (zg _) _⟩
theorem PO (h:Inv S A last):qn A last=A.length:=OJ (zg _) (λ j hj=>by
 rw[zi,zj hj]
 exact(h.rg _ (List.getElem_mem hj)).2) (λ h=>absurd h (Nat.lt_irrefl _))
theorem Ls (h:R w base g u S ms G last) (hl:Lg G S ms A last M):
  Calls zf 63 #[.pointer (some ⟨g,0,none⟩)] w (MR w base g u S A last M S.size):=by
 have hK:Zz A last (S.size:Int)=S.size:=by
  unfold Zz
  rw[PO hl.inv,hl.inv.len]
  omega
 have HL:=zd (K8 (h.on (zh _ w).drew))
 have HT:=zd (Ty (h.on (zh _ w).drew) hl last (S.size:Int) hK)
 have HC:=zd (show w.drew.cell? ⟨g,3,none⟩=some (.int .i64 last)from(h.on (zh _ w).drew).field.2.2.2.2)
 have HP:=zd (show∀e w',MR w.drew base g u S A last M S.size e w'→w'.cell? ⟨g,3,none⟩=some (.int .i64 last)∧∃q d,e=.returned (.slice q S.size d)∧MR w base g u S A last M S.size (.returned (.slice q S.size d)) w' fromλ e w' ⟨q,d,he,h1,h2,h3,u',ms',G',hc,hl',ho⟩=>
  ⟨hc.r.field.2.2.2.2,q,d,he,q,d,rfl,h1,h2,h3,u',ms',G',hc.pre (zh _ w).drew,hl',ho⟩)
 clear h hl hK
 generalize S.size=n at*
 go_enter func63,ntmps63
 go_wp2_with fail
 go_region_held (λ W=>W.cell? ⟨g,3,none⟩=some (.int .i64 last))
  (first
   |exact HC.out
   |assumption)
  (first
   |(go_at_call 78;refine zr HL.out ?_;rintro e w' ⟨rfl,rfl⟩)
   |(go_at_call 77;refine zr HT.out ?_;intro e w' hr;obtain⟨hcl,q,d,rfl,hp⟩:=HP.out e w' hr;(have HE:=zd hp);clear hp hr))
 go_wp2_with fail
 go_ret
 exact HE.out
theorem E6 (h:Al w base g u S A last M):Calls zf 66 #[.pointer (some ⟨g,0,none⟩)] w (AK S A last M w):=by
 obtain⟨ms,G,⟨p,n,c,q,m,d,hr,_⟩,hl⟩:=h
 have hn:=hr.Xp.1
 have hm:=hr.Xp.2.1
 have hSM:G+S.size≤1000000:=zt hl.top hl.fit
 have hmlen:m≤1000000:=by
   have:∀(l:List Mk) (f e:Nat),XW f l e→f+l.length≤e:=by
     intro l
     induction l with
     |nil=>intro f e he;exact Nat.le_of_eq he
     |cons x r ih=>intro f e he;have:=ih _ _ he.2;have:=he.1;simp only[List.length_cons];omega
   have:=this _ _ _ hl.ends
   omega
 have HC:=zd (show∀w',Below w.heap.size w w'→(w'.cell? ⟨g,0,none⟩=some (.slice p n c)∧w'.cell? ⟨g,1,none⟩=some (.slice q m d)∧w'.cell? ⟨g,2,none⟩=some (.int .i64 (G:Int))∧w'.cell? ⟨g,3,none⟩=some (.int .i64 last))∧Below w.heap.size w w' fromλ w' hb=>⟨(hr.on hb).cells,hb⟩)
 have HB:=zd (show∀w',Below w.heap.size w w'→Calls zf 93 #[.slice p n c] w' λ e w2=>∃q d,e=.returned (.slice q n d)∧ORow w2 w.heap.size 5 1 q n d ((nums S).map (Value.int .u8))∧Below w'.heap.size w' w2 fromλ w' hb=>by
   refine(jz p n c (nums S) w' (by rw[nums_length,hn]) (λ e=>by have:=hr.row.non e;have:=hr.row.cap;omega) (by omega) (hr.on hb).bytes).mono ?_
   rintro e w2 ⟨q,d,rfl,ho,hb2⟩
   exact⟨q,d,rfl,⟨ho.len,ho.cap,ho.max,ho.non,λ a e=>by obtain⟨b,o,cur,h1,h2,h3⟩:=ho.som a e;exact⟨b,o,cur,h1,zt hb.size h2,h3⟩⟩,hb2⟩)
 have HM:=zd (show∀w',Below w.heap.size w w'→Calls zf 94 #[.slice q m d] w' λ e w2=>∃q' d',e=.returned (.slice q' m d')∧ORow w2 w.heap.size 142 2 q' m d' (ZU ms)∧Below w'.heap.size w' w2 fromλ w' hb=>by
   refine(SI q m d ms w' (hr.on hb).mks hmlen).mono ?_
   rintro e w2 ⟨q',d',rfl,ho,hb2⟩
   exact⟨q',d',rfl,⟨ho.len,ho.cap,ho.max,ho.non,λ a e=>by obtain⟨b,o,cur,h1,h2,h3⟩:=ho.som a e;exact⟨b,o,cur,h1,zt hb.size h2,h3⟩⟩,hb2⟩)
 have HL:=zd hl
 clear hr hl hn hm hSM
 go_enter func66,ntmps66
 go_wp2_with fail
 go_region_held (λ w'=>(w'.cell? ⟨g,0,none⟩=some (.slice p n c)∧w'.cell? ⟨g,1,none⟩=some (.slice q m d)∧w'.cell? ⟨g,2,none⟩=some (.int .i64 (G:Int))∧w'.cell? ⟨g,3,none⟩=some (.int .i64 last))∧Below w.heap.size w w')
   ((refine HC.out _ ?_
     go_split_ands
     first
       |with_reducible exact(zh _ _).drew
       |with_reducible assumption
       |with_reducible exact Below.alloc (by assumption) (Below.size (by assumption)) _))
   (first
     |(go_at_call 93;go_split_ands;(with_reducible refine zr (HB.out _ (by assumption)) ?_);rintro e w1 ⟨qr,dr,rfl,ho,hb⟩;(have HR1:=zd ho);(have hb1:=seqB (by assumption) hb);(have HB1:=zd hb);clear ho hb)
     |(go_at_call 94;go_split_ands;(with_reducible refine zr (HM.out _ (by assumption)) ?_);rintro e w2 ⟨qm,dm,rfl,ho,hb⟩;(have HR2:=zd ho);(have hb2:=seqB (by assumption) hb);(have HB2:=zd hb);(have HBB:=zd hb2);clear ho hb))
 go_split_ands
 go_wp2_with fail
 go_ret
 have hal:Below w2.heap.size w2 (w2.alloc (.cells #[.slice qr n dr,.slice qm m dm,.int .i64 (G:Int),.int .i64 last] 137)):=(zh _ _).alloc (zg _) _
 exact⟨w2.heap.size,(Go.Proofs.YtfdfgnmgpgkknaaGreat.gc.blk qr,Go.Proofs.YtfdfgnmgpgkknaaGreat.gc.blk qm),rfl,⟨ms,G,⟨qr,n,dr,qm,m,dm,⟨zo w2 _,(HR1.out.on HB2.out).on hal,HR2.out.on hal,HBB.out.size⟩,rfl⟩,HL.out⟩,seqB HBB.out hal⟩
end gc
namespace gc
open Go.RowKit
end gc
namespace gc
open Go.RowKit
variable {w:World} {base g:Nat} {u:U} {S:ByteArray} {A:List Int} {last:Int} {M G:Nat} {ms:List Mk}
theorem S8:∀{l:List Mk} {f e:Nat},XW f l e→f+l.length≤e:=by
 intro l
 induction l with
 |nil=>intro f e he;exact Nat.le_of_eq he
 |cons x r ih=>intro f e he;have:=ih he.2;have:=he.1;simp only[List.length_cons];omega
end gc
end Go.Proofs.YtfdfgnmgpgkknaaGreat
