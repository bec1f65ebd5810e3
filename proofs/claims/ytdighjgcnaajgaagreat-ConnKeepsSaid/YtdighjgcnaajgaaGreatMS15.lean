import Derived.Test.YtdighjgcnaajgaaGreatMS14
import Derived.Deep.LoopGhost
namespace Go.Proofs.YtdighjgcnaajgaaGreat.gc
open Go.RowKit
theorem blk_from (p:Option Addr) (c m k:Nat):blk (if c=m then p else p.map (·.add k))=blk p:=by
 split
 ·rfl
 ·cases p with
  |none=>rfl
  |some a=>
   cases a
   simp only[blk,Option.map_some,Addr.add]
   split<;>rfl
theorem kept_less {w w':World} {g:Nat} {u:U} (h:Kept w w' g (none,none)):Kept w w' g u:=⟨h.os,h.tape,h.output,h.size,λ i hi hg _ _=>h.block i hi hg (by simp) (by simp)⟩
variable {w:World} {base g:Nat} {u:U} {S:ByteArray} {A:List Int} {last:Int} {M G:Nat} {ms:List Mk}
def TookP (w:World) (base g:Nat) (u:U) (S:ByteArray) (A:List Int) (last:Int) (M K:Nat) (e:Ending) (w':World):Prop:=∃q d,e=.returned (.slice q K d)∧Lib.BytesIn w' q K (nums (S.extract 0 K))∧K≤d∧d≤9223372036854775807∧PutQ w base g u (S.extract K S.size) (A.drop K) last M q w'
theorem take_nums (S:ByteArray) (K:Nat):nums (S.extract 0 K)=(nums S).take K:=by rw[ext_nums,List.drop_zero,Nat.sub_zero]
theorem rest_nums (S:ByteArray) (K:Nat):nums (S.extract K S.size)=(nums S).drop K:=by
 rw[ext_nums,List.take_of_length_le (by rw[List.length_drop,nums_length];omega)]
theorem Lg.take (h:Lg G S ms A last M) {K:Nat} (hK:K≤S.size):Lg (G+K) (S.extract K S.size) (ms.drop (overM ms (G+K))) (A.drop K) last M:=by
 have hs:(S.extract K S.size).size=S.size -K:=by rw[ByteArray.size_extract];omega
 obtain⟨h1,h2⟩:=over_tks (K:=G+K) h.ends (by omega) (by omega)
 have:=h.top
 refine⟨by rw[hs,show G+K+(S.size -K)=G+S.size by omega];exact h1,List.Pairwise.sublist (List.drop_sublist _ _) h.rise,?_,λ m hm=>h.rg m (List.mem_of_mem_drop hm),h.last,by rw[hs];omega,h.fit⟩
 rw[h2,h.tks,show G+K -G=K by omega]
set_option maxHeartbeats 8000000 in
theorem take_raw (h:R w base g u S ms G last) (hl:Lg G S ms A last M) (now most:Int) {K:Nat} (hK:takeK A now most=K):
  Calls Tryz.prog 161 #[.pointer (some ⟨g,0,none⟩),.int .i64 now,.int .i64 most] w (TookP w base g u S A last M K):=by
 have hKA:K≤S.size:=by rw[←hl.inv.len,←hK];exact takeK_le _ _ _
 have hSM:G+S.size≤1000000:=Nat.le_trans hl.top hl.fit
 have hmlen:ms.length≤1000000:=by
  have:∀(l:List Mk) (f e:Nat),EndsM f l e→f+l.length≤e:=by
   intro l
   induction l with
   |nil=>intro f e he;exact Nat.le_of_eq he
   |cons x r ih=>intro f e he;have:=ih _ _ he.2;have:=he.1;simp only[List.length_cons];omega
  have:=this _ _ _ hl.ends
  omega
 obtain⟨N,hN⟩:∃N,readyN (ms.map Prod.fst) now=N:=⟨_,rfl⟩
 obtain⟨R0,hR0⟩:∃R0,endAt G ms N -G=R0:=⟨_,rfl⟩
 have HRD:=Lib.hid (ready_raw h hl.rise hmlen hl.ends (by omega) now hN hR0)
 have hRA:readyN A now=R0:=by rw[←hl.tks,ready_tks hl.ends,hN,hR0]
 have HX:max 0 (min most (R0:Int))=(K:Int):=by
  unfold takeK at hK
  rw[hRA]at hK
  omega
 obtain⟨p,n,c,q,m,d,hw,rfl⟩:=h
 have hn:=hw.sizes.1
 have hnc:=hw.sizes.2.2.1
 have hc:=hw.sizes.2.2.2.2.1
 have hml:=hw.sizes.2.1
 have hKn:K≤n:=by omega
 have hsl:=row_to p n c K (by omega)
 have hsf:=row_from p n c K hKn
 have hpn:=hw.row.non
 have HCL:=Lib.hid (λ (W:World) (hW:Below w.heap.size w W)=>bclone_any p K c ((nums S).take K) W (by rw[List.length_take,nums_length];omega) (λ e=>by have:=hpn e;omega) (by omega) (bytes_take (hw.on hW).bytes K hKn))
 have HBY:=Lib.hid (show∀(W:World) (qq:Option Addr) (dd:Nat) (W':World) (w1:World),ORow W w1.heap.size 5 1 qq K dd (((nums S).take K).map (Value.int .u8))→g<w1.heap.size→Kept W W' g (none,none)→Lib.BytesIn W' qq K (nums (S.extract 0 K))fromλ W qq dd W' w1 ho hg hk=>by
  have ho':=ho.keep (w':=W') λ a e=>hk.block _ (ho.lt a e).2 (by have:=(ho.lt a e).1;omega) (by simp) (by simp)
  intro hn0
  obtain⟨b,o,e,hcl⟩:=ho'.at hn0
  refine⟨b,o,e,λ i hi=>hcl i _ ?_⟩
  rw[take_nums,List.getElem?_map,List.getD_eq_getElem?_getD,List.getElem?_eq_getElem (by rw[List.length_take,nums_length];omega)]
  rfl)
 have HD:=Lib.hid (show∀W,Below w.heap.size w W→ORow W base 5 1 (if c=K then p else p.map (·.add (K*1))) (n -K) (c -K) ((nums (S.extract K S.size)).map (Value.int .u8))fromλ W hW=>by
  have:=(hw.on hW).row.drop K hKn
  rw[Nat.mul_one,←List.map_drop,←rest_nums]at this
  rw[Nat.mul_one]
  exact this)
 have hbp:=blk_from p c K (K*1)
 generalize(if c=K then p else p.map (·.add (K*1)))=p2 at*
 generalize n -K=n2 at*
 generalize c -K=c2 at*
 have HG:=Lib.hid (λ (W:World) (hW:Below w.heap.size w W)=>(⟨(hw.on hW).cells.1,(hw.on hW).cells.2.2.1,frozen_at (hw.on hW).blk,frozen_at (hw.on hW).blk,blk_lt (hw.on hW).blk⟩:W.cell? ⟨g,0,none⟩=some (.slice p n c)∧W.cell? ⟨g,2,none⟩=some (.int .i64 (G:Int))∧W.frozen? ⟨g,0,none⟩=false∧W.frozen? ⟨g,2,none⟩=false∧g<W.heap.size))
 have HS:=Lib.hid (show∀W,Below w.heap.size w W→Raw ((W.setCell ⟨g,0,none⟩ (.slice p2 n2 c2)).setCell ⟨g,2,none⟩ (.int .i64 ((G:Int)+(K:Int)))) base g p2 n2 c2 q m d (S.extract K S.size) ms (G+K) last∧Kept W ((W.setCell ⟨g,0,none⟩ (.slice p2 n2 c2)).setCell ⟨g,2,none⟩ (.int .i64 ((G:Int)+(K:Int)))) g (none,none)fromλ W hW=>by
  rw[←Int.natCast_add]
  exact⟨(Raw.set0 (hw.on hW).blk (hw.on hW).mks hw.base (HD.out W hW)).set2 (G+K),kept_set (kept_set (kept_refl _ _ _) 0 _) 2 _⟩)
 have HFIN:=Lib.hid (show∀(w1 w2 W:World) (j mj dj:Nat) (qq qj:Option Addr) (dd:Nat),Below w.heap.size w w1→Below w1.heap.size w1 w2→ORow w2 w1.heap.size 5 1 qq K dd (((nums S).take K).map (Value.int .u8))→Raw W base g p2 n2 c2 qj mj dj (S.extract K S.size) (ms.drop j) (G+K) last→blk qj=blk q→Kept w2 W g (none,none)→j=overM ms (G+K)→
   TookP w base g (Go.Proofs.YtdighjgcnaajgaaGreat.gc.blk p,Go.Proofs.YtdighjgcnaajgaaGreat.gc.blk q) S A last M K (.returned (.slice qq K dd)) W fromλ w1 w2 W j mj dj qq qj dd hb1 hb2 ho hr hq hk hj=>by
  have hgl:g<w1.heap.size:=Nat.lt_of_lt_of_le (blk_lt hw.blk) hb1.size
  have hub:=hw.r.u_base
  have hmx:=ho.max
  unfold maxLen at hmx
  refine⟨qq,dd,rfl,HBY.out w2 qq dd W w1 ho hgl hk,ho.cap,by omega,_,_,_,⟨hr.r,?_,kept_trans (kept_below (seqB hb1 hb2) g _) (newer_refl _ _) (kept_less hk)⟩,by rw[hj];exact hl.take hKA,λ a e=>?_,λ a e=>Nat.le_trans hb1.size (ho.lt a e).1⟩
  ·rw[hbp,hq]
   exact newer_refl _ _
  ·have h1:=(ho.lt a e).1
   rw[hbp,hq]
   have hs1:=hb1.size
   exact⟨by omega,λ e'=>by have:=hub.1 _ e';omega,λ e'=>by have:=hub.2 _ e';omega⟩)
 have HJ:=Lib.hid (And.intro (over_le ms (G+K)) (And.intro (λ j (h:j<overM ms (G+K))=>over_yes h) (over_no (ms:=ms) (K:=G+K))))
 obtain⟨J,hJ⟩:∃J,overM ms (G+K)=J:=⟨_,rfl⟩
 rw[hJ]at HJ HFIN
 have HML:=Lib.hid hml
 obtain⟨G1,hG1⟩:∃G1,G+K=G1:=⟨_,rfl⟩
 rw[hG1]at HJ HFIN HS
 have hm9:m≤1000000:=by omega
 clear hw hl hK hn hml hpn hJ hG1 hN hR0 hRA
 go_enter Tryz.func161,Tryz.ntmps161
 go_wp2_with fail
 refine HRD.out.mono ?_
 rintro e w1 ⟨rfl,hb1⟩
 have HB1:=Lib.hid hb1
 obtain⟨g0,_,_,_,_⟩:=HG.out w1 hb1
 clear hb1 HRD
 go_wp2_with fail
 refine(HCL.out w1 HB1.out).mono ?_
 rintro e w2 ⟨qq,dd,rfl,ho,hb2⟩
 have HO:=Lib.hid ho
 have HB2:=Lib.hid hb2
 clear g0
 obtain⟨g0,g2,f0,f2,hgl⟩:=HG.out w2 (seqB HB1.out hb2)
 obtain⟨hr,hk⟩:=HS.out w2 (seqB HB1.out hb2)
 have HR:=Lib.hid hr
 have HK:=Lib.hid hk
 clear ho hb2 hr hk HS HG HCL
 go_wp2_with fail
 clear hsl hsf g0 g2 f0 f2 hgl HX
 generalize(w2.setCell ⟨g,0,none⟩ (.slice p2 n2 c2)).setCell ⟨g,2,none⟩ (.int .i64 ((G:Int)+(K:Int)))=w4 at*
 go_loopg [] m (λ kx wr=>∃(j mj dj:Nat) (qj:Option Addr),j≤J∧m -j≤kx∧Hid (Raw wr base g p2 n2 c2 qj mj dj (S.extract K S.size) (ms.drop j) G1 last)∧Hid (Go.Proofs.YtdighjgcnaajgaaGreat.gc.blk qj=Go.Proofs.YtdighjgcnaajgaaGreat.gc.blk q)∧Hid (Kept w2 wr g (none,none)))
 case atStart=>exact⟨0,m,d,q,by omega,by omega,by rw[List.drop_zero];exact HR,Lib.hid rfl,HK⟩
 case round=>
  clear HR HK
  obtain⟨j,mj,dj,qj,hj,hkx,HR,HQ,HK⟩:=hrel
  obtain⟨_,hmj,_,hmd,_,hd9⟩:=HR.out.sizes
  obtain⟨_,g1,g2,_⟩:=HR.out.cells
  have f1:wr.frozen? ⟨g,1,none⟩=false:=frozen_at HR.out.blk
  have hJm:=HJ.out.1
  rw[List.length_drop]at hmj
  have hmm:=HML.out
  by_cases hlt:j<J
  ·have hpos:0<mj:=by omega
   obtain⟨b,o,hqj,_,c1⟩:=HR.out.mark hpos
   have hle:=HJ.out.2.1 j hlt
   have he0:(ms.drop j).getD 0 noMk=ms.getD j noMk:=by rw[mk_split ms j (by omega)];rfl
   rw[he0,Nat.zero_mul,Nat.add_zero]at c1
   generalize(ms.getD j noMk).2=y at c1 hle
   have hsm:=mks_from qj mj dj 1 hpos
   rw[show((1:Nat):Int)=1 from rfl]at hsm
   have HNX:=Lib.hid (show∀i,Raw ((wr.drewN i).setCell ⟨g,1,none⟩ (.slice (if dj=1 then qj else qj.map (·.add (1*2))) (mj -1) (dj -1))) base g p2 n2 c2 (if dj=1 then qj else qj.map (·.add (1*2))) (mj -1) (dj -1) (S.extract K S.size) (ms.drop (j+1)) G1 last fromλ i=>by
    have HR':=HR.out.on (below_drewN wr i)
    have ho:=HR'.mks.drop 1 hpos
    rw[←flatM_drop,List.drop_drop]at ho
    exact Raw.set1 HR'.blk HR'.row HR'.base ho)
   have HQ2:=Lib.hid ((blk_from qj dj 1 (1*2)).trans HQ.out)
   have HKB:=Lib.hid (show∀i x,Kept w2 ((wr.drewN i).setCell ⟨g,1,none⟩ x) g (none,none)fromλ i x=>kept_set (kept_trans HK.out (newer_refl _ _) (kept_below (below_drewN wr i) g _)) 1 x)
   generalize(if dj=1 then qj else qj.map (·.add (1*2)))=q2 at*
   subst hqj
   have d1:decide ((0:Int)<(mj:Int))=true:=by simp;omega
   have d2:decide ((y:Int)≤(G1:Int))=true:=by simp;omega
   have d3:decide (y≤G1)=true:=by simpa using hle
   have HJM:=Lib.hid (show j<m by omega)
   have HLT:=Lib.hid hlt
   have HKX:=Lib.hid hkx
   clear HR HQ HK he0 hle hmj hJm hmm hlt hkx hj
   go_wp2_with fail
   go_quiet (fail)
   go_wp2_with fail
   go_roundg (m -(j+1))
   case measure=>have:=HJM.out;have:=HKX.out;omega
   case rel=>exact⟨j+1,mj -1,dj -1,q2,by have:=HLT.out;omega,Nat.le_refl _,Lib.hid (HNX.out nq),HQ2,Lib.hid (HKB.out nq _)⟩
  ·obtain rfl:j=J:=by omega
   have HE:=Lib.hid (λ i=>HFIN.out w1 w2 (wr.drewN i) j mj dj qq qj dd HB1.out HB2.out HO.out (HR.out.on (below_drewN wr i)) HQ.out (kept_trans HK.out (newer_refl _ _) (kept_below (below_drewN wr i) g _)) rfl)
   by_cases hpos:0<mj
   ·obtain⟨b,o,hqj,_,c1⟩:=HR.out.mark hpos
    have hle:=HJ.out.2.2 (by omega)
    have he0:(ms.drop j).getD 0 noMk=ms.getD j noMk:=by rw[mk_split ms j (by omega)];rfl
    rw[he0,Nat.zero_mul,Nat.add_zero]at c1
    generalize(ms.getD j noMk).2=y at c1 hle
    subst hqj
    have d1:decide ((0:Int)<(mj:Int))=true:=by simp;omega
    have d2:decide ((y:Int)≤(G1:Int))=false:=by simp;omega
    have d3:decide (y≤G1)=false:=by simp;omega
    clear HR HQ HK he0 hle hmj hJm hmm hlt hkx hj HFIN HO HB1 HB2
    go_wp2_with fail
    go_quiet (fail)
    go_wp2_with fail
    go_ret
    exact HE.out _
   ·obtain rfl:mj=0:=by omega
    clear HR HQ HK hmj hJm hmm hlt hkx hj HFIN HO HB1 HB2
    go_wp2_with fail
    go_quiet (fail)
    go_wp2_with fail
    go_ret
    exact HE.out _
end Go.Proofs.YtdighjgcnaajgaaGreat.gc
namespace Go.Proofs.YtdighjgcnaajgaaGreat.gc
open Go.RowKit
variable {w:World} {base g:Nat} {u:U} {S:ByteArray} {A:List Int} {last:Int} {M G:Nat} {ms:List Mk}
def OutA (S:ByteArray) (A:List Int) (last:Int) (M:Nat) (w:World) (e:Ending) (w':World):Prop:=∃g u,e=.returned (.pointer (some ⟨g,0,none⟩))∧Al w' w.heap.size g u S A last M∧Below w.heap.size w w'
set_option maxHeartbeats 2000000 in
theorem new_al (w:World):Calls Tryz.prog 167 #[] w (OutA ⟨#[]⟩ [] 0 0 w):=by
 go_enter Tryz.func167,Tryz.ntmps167
 go_wp2_with fail
 go_ret
 exact⟨w.heap.size,(none,none),rfl,⟨[],0,⟨none,0,0,none,0,0,⟨heap_alloc_new w _,orow_nil _ _ _ _,orow_nil _ _ _ _,Nat.le_refl _⟩,rfl⟩,⟨rfl,List.Pairwise.nil,rfl,(λ _ h=>by cases h),by decide,Nat.le_refl _,by decide⟩⟩,(Below.refl _ _).alloc (Nat.le_refl _) _⟩
theorem ready_all (h:Inv S A last):readyN A last=A.length:=ready_is (Nat.le_refl _) (λ j hj=>by
 rw[List.getD_eq_getElem?_getD,List.getElem?_eq_getElem hj]
 exact(h.rg _ (List.getElem_mem hj)).2) (λ h=>absurd h (Nat.lt_irrefl _))
set_option maxHeartbeats 2000000 in
theorem drain_raw (h:R w base g u S ms G last) (hl:Lg G S ms A last M):
  Calls Tryz.prog 126 #[.pointer (some ⟨g,0,none⟩)] w (TookP w base g u S A last M S.size):=by
 have hK:takeK A last (S.size:Int)=S.size:=by
  unfold takeK
  rw[ready_all hl.inv,hl.inv.len]
  omega
 have HL:=Lib.hid (len_raw (h.on (Below.refl _ w).drew))
 have HT:=Lib.hid (take_raw (h.on (Below.refl _ w).drew) hl last (S.size:Int) hK)
 have HC:=Lib.hid (show w.drew.cell? ⟨g,3,none⟩=some (.int .i64 last)from(h.on (Below.refl _ w).drew).field.2.2.2.2)
 have HP:=Lib.hid (show∀e w',TookP w.drew base g u S A last M S.size e w'→w'.cell? ⟨g,3,none⟩=some (.int .i64 last)∧∃q d,e=.returned (.slice q S.size d)∧TookP w base g u S A last M S.size (.returned (.slice q S.size d)) w' fromλ e w' ⟨q,d,he,h1,h2,h3,u',ms',G',hc,hl',ho⟩=>
  ⟨hc.r.field.2.2.2.2,q,d,he,q,d,rfl,h1,h2,h3,u',ms',G',hc.pre (Below.refl _ w).drew,hl',ho⟩)
 clear h hl hK
 generalize S.size=n at*
 go_enter Tryz.func126,Tryz.ntmps126
 go_wp2_with fail
 go_region_held (λ W=>W.cell? ⟨g,3,none⟩=some (.int .i64 last))
  (first
   |exact HC.out
   |assumption)
  (first
   |(go_at_call 150;refine Calls.mono HL.out ?_;rintro e w' ⟨rfl,rfl⟩)
   |(go_at_call 161;refine Calls.mono HT.out ?_;intro e w' hr;obtain⟨hcl,q,d,rfl,hp⟩:=HP.out e w' hr;(have HE:=Lib.hid hp);clear hp hr))
 go_wp2_with fail
 go_ret
 exact HE.out
set_option maxHeartbeats 2000000 in
theorem copy_al (h:Al w base g u S A last M):Calls Tryz.prog 151 #[.pointer (some ⟨g,0,none⟩)] w (OutA S A last M w):=by
 obtain⟨ms,G,⟨p,n,c,q,m,d,hr,_⟩,hl⟩:=h
 have hn:=hr.sizes.1
 have hm:=hr.sizes.2.1
 have hSM:G+S.size≤1000000:=Nat.le_trans hl.top hl.fit
 have hmlen:m≤1000000:=by
   have:∀(l:List Mk) (f e:Nat),EndsM f l e→f+l.length≤e:=by
     intro l
     induction l with
     |nil=>intro f e he;exact Nat.le_of_eq he
     |cons x r ih=>intro f e he;have:=ih _ _ he.2;have:=he.1;simp only[List.length_cons];omega
   have:=this _ _ _ hl.ends
   omega
 have HC:=Lib.hid (show∀w',Below w.heap.size w w'→(w'.cell? ⟨g,0,none⟩=some (.slice p n c)∧w'.cell? ⟨g,1,none⟩=some (.slice q m d)∧w'.cell? ⟨g,2,none⟩=some (.int .i64 (G:Int))∧w'.cell? ⟨g,3,none⟩=some (.int .i64 last))∧Below w.heap.size w w' fromλ w' hb=>⟨(hr.on hb).cells,hb⟩)
 have HB:=Lib.hid (show∀w',Below w.heap.size w w'→Calls Tryz.prog 180 #[.slice p n c] w' λ e w2=>∃q d,e=.returned (.slice q n d)∧ORow w2 w.heap.size 5 1 q n d ((nums S).map (Value.int .u8))∧Below w'.heap.size w' w2 fromλ w' hb=>by
   refine(bclone_any p n c (nums S) w' (by rw[nums_length,hn]) (λ e=>by have:=hr.row.non e;have:=hr.row.cap;omega) (by omega) (hr.on hb).bytes).mono ?_
   rintro e w2 ⟨q,d,rfl,ho,hb2⟩
   exact⟨q,d,rfl,⟨ho.len,ho.cap,ho.max,ho.non,λ a e=>by obtain⟨b,o,cur,h1,h2,h3⟩:=ho.som a e;exact⟨b,o,cur,h1,Nat.le_trans hb.size h2,h3⟩⟩,hb2⟩)
 have HM:=Lib.hid (show∀w',Below w.heap.size w w'→Calls Tryz.prog 181 #[.slice q m d] w' λ e w2=>∃q' d',e=.returned (.slice q' m d')∧ORow w2 w.heap.size 249 2 q' m d' (flatM ms)∧Below w'.heap.size w' w2 fromλ w' hb=>by
   refine(mclone_any q m d ms w' (hr.on hb).mks hmlen).mono ?_
   rintro e w2 ⟨q',d',rfl,ho,hb2⟩
   exact⟨q',d',rfl,⟨ho.len,ho.cap,ho.max,ho.non,λ a e=>by obtain⟨b,o,cur,h1,h2,h3⟩:=ho.som a e;exact⟨b,o,cur,h1,Nat.le_trans hb.size h2,h3⟩⟩,hb2⟩)
 have HL:=Lib.hid hl
 clear hr hl hn hm hSM
 go_enter Tryz.func151,Tryz.ntmps151
 go_wp2_with fail
 go_region_held (λ w'=>(w'.cell? ⟨g,0,none⟩=some (.slice p n c)∧w'.cell? ⟨g,1,none⟩=some (.slice q m d)∧w'.cell? ⟨g,2,none⟩=some (.int .i64 (G:Int))∧w'.cell? ⟨g,3,none⟩=some (.int .i64 last))∧Below w.heap.size w w')
   ((refine HC.out _ ?_
     go_split_ands
     first
       |with_reducible exact(Below.refl _ _).drew
       |with_reducible assumption
       |with_reducible exact Below.alloc (by assumption) (Below.size (by assumption)) _))
   (first
     |(go_at_call 180;go_split_ands;(with_reducible refine Calls.mono (HB.out _ (by assumption)) ?_);rintro e w1 ⟨qr,dr,rfl,ho,hb⟩;(have HR1:=Lib.hid ho);(have hb1:=seqB (by assumption) hb);(have HB1:=Lib.hid hb);clear ho hb)
     |(go_at_call 181;go_split_ands;(with_reducible refine Calls.mono (HM.out _ (by assumption)) ?_);rintro e w2 ⟨qm,dm,rfl,ho,hb⟩;(have HR2:=Lib.hid ho);(have hb2:=seqB (by assumption) hb);(have HB2:=Lib.hid hb);(have HBB:=Lib.hid hb2);clear ho hb))
 go_split_ands
 go_wp2_with fail
 go_ret
 have hal:Below w2.heap.size w2 (w2.alloc (.cells #[.slice qr n dr,.slice qm m dm,.int .i64 (G:Int),.int .i64 last] 225)):=(Below.refl _ _).alloc (Nat.le_refl _) _
 exact⟨w2.heap.size,(Go.Proofs.YtdighjgcnaajgaaGreat.gc.blk qr,Go.Proofs.YtdighjgcnaajgaaGreat.gc.blk qm),rfl,⟨ms,G,⟨qr,n,dr,qm,m,dm,⟨heap_alloc_new w2 _,(HR1.out.on HB2.out).on hal,HR2.out.on hal,HBB.out.size⟩,rfl⟩,HL.out⟩,seqB HBB.out hal⟩
end Go.Proofs.YtdighjgcnaajgaaGreat.gc
namespace Go.Proofs.YtdighjgcnaajgaaGreat.gc
open Go.RowKit
theorem own_notbox {w:World} {base T n:Nat} {q:Option Addr} {d bx:Nat} {zs:List Value} {cs:Array Value} {T':TypeId} {fr:Nat×Nat} (ho:w.ownsRow base T 2 (.slice q n d) n zs) (hg:w.heap[bx]?=some (.cells cs T' fr)) (hT:T'≠T):(Value.slice q n d).ownBlock≠some bx:=by
 rcases ho.2 with⟨e,_⟩|⟨b,cap,cur,e,_,hh,_⟩
 ·cases e;simp[Value.ownBlock]
 ·cases e
  intro he
  have:b=bx:=by simpa[Value.ownBlock]using he
  subst this
  exact hT (two_types hg hh)
end Go.Proofs.YtdighjgcnaajgaaGreat.gc
namespace Go.Proofs.YtdighjgcnaajgaaGreat.gc
open Go.RowKit
theorem orow_bytes {w:World} {base:Nat} {p:Option Addr} {n c:Nat} {xs:List Int} (h:ORow w base 5 1 p n c (xs.map (Value.int .u8))):Lib.BytesIn w p n xs:=λ hn=>by
 obtain⟨b,o,e,hc⟩:=h.at hn
 have hl:=h.len
 rw[List.length_map]at hl
 refine⟨b,o,e,λ i hi=>hc i _ ?_⟩
 rw[List.getElem?_map,List.getD_eq_getElem?_getD,List.getElem?_eq_getElem (by omega)]
 rfl
theorem orow_part {w:World} {base:Nat} {p:Option Addr} {n c:Nat} {S:ByteArray} (h:ORow w base 5 1 p n c ((nums S).map (Value.int .u8))) (F T:Nat) (hF:F≤T) (hT:T≤n):Lib.BytesIn w (if c=F then p else p.map (·.add (F*1))) (T -F) (nums (S.extract F T)):=by
 have h1:=(h.drop F (by omega)).take (T -F) (by omega)
 rw[Nat.mul_one,Nat.mul_one,←List.map_drop,←List.map_take,←ext_nums]at h1
 rw[Nat.mul_one]
 exact orow_bytes h1
variable {w:World} {base g:Nat} {u:U} {S:ByteArray} {A:List Int} {last:Int} {M G:Nat} {ms:List Mk}
theorem ends_count:∀{l:List Mk} {f e:Nat},EndsM f l e→f+l.length≤e:=by
 intro l
 induction l with
 |nil=>intro f e he;exact Nat.le_of_eq he
 |cons x r ih=>intro f e he;have:=ih he.2;have:=he.1;simp only[List.length_cons];omega
end Go.Proofs.YtdighjgcnaajgaaGreat.gc
