import Derived.Test.YtfdfgnmgpgkknaaGreatMG47
import Derived.Test.YtfdfgnmgpgkknaaGreatMG24
import Derived.Test.YtfdfgnmgpgkknaaGreatMG39
set_option maxRecDepth 100000
set_option maxHeartbeats 8000000
open Go.Proofs.Tryz renaming prog→zf
open Go.RowKit.Below renaming refl→zh,heap_setCell→zn
open Nat renaming le_refl→zg,lt_of_lt_of_le→zy,le_trans→zt
open Go renaming heap_alloc_new→zo,cell_of_row→ze
open List renaming getD_eq_getElem?_getD→zi,getElem?_eq_getElem→zj,length_take→zw
open Go.Lib renaming hid→zd
open Go.Calls renaming mono→zr
open Go.Exit renaming noGoto_ret→zl
open Go.Proofs.Tryz
namespace Go.Proofs.YtfdfgnmgpgkknaaGreat
open Go.RowKit
section
variable {w w':World}
def Kz (w0:World) (g:Nat) (c:Ch) (M:Nat) (W:World):Prop:=∃p cap q,CAt W g p cap q c M∧Fr w0 W (ZX g p q)
theorem SK {w0 W:World} {g:Nat} {c:Ch} {pp gg:Nat} {U:Own} {s:St} {bb:Bool} {p:Option Addr} {cap:Nat} {q:List Nd} {M m:Nat} (h1:CAt W g p cap q c M) (h2:Fr w0 W (ZX g p q)) (h9:c.L.length<10) (hp:PAt W pp gg U s bb m) (hd:∀i,YO pp U i→w0.heap.size≤i) (hdj:∀i,YO pp U i→¬ZX g p q i) (hm:m+Zj (c.L++[(⟨s,bb⟩:Prt)]) c.L.length≤M) (hlo:0≤c.lost∧c.lost+(Zj (c.L++[(⟨s,bb⟩:Prt)]) (c.L.length+1):Nat)≤M):
  ∃p' cap' W',W.cell? ⟨g,0,none⟩=some (.slice p c.L.length cap)∧(∀ty,(Builtin.append_ #[PS,PS] ty #[.slice p c.L.length cap,.slice (some ⟨W.heap.size,0,none⟩) 1 1]).run zf (W.alloc (.cells #[ptr pp] PT))=.ok (.slice p' (c.L.length+1) cap') W')∧
   (W'.cell? ⟨g,0,none⟩=some (.slice p c.L.length cap)∧W'.frozen? ⟨g,0,none⟩=false)∧Kz w0 g {c with L:=c.L++[(⟨s,bb⟩:Prt)]} M (W'.setCell ⟨g,0,none⟩ (.slice p' (c.L.length+1) cap')):=by
 have hal:Below W.heap.size W (W.alloc (.cells #[ptr pp] PT)):=(zh _ _).alloc (zg _) _
 have hnew:=zo W (.cells #[ptr pp] PT)
 obtain⟨i0,hi0,hz0,hz1,hz2⟩:=info_parts Nv
 have hrow:=(h1.row.on hal)
 obtain⟨p',cap',W',hr1,hr2,hr3,hr4⟩:=gc.Yu (t:=PS) hrow (Nat.zero_le _) underlying56 hi0 hz0 hz1 hz2 rfl (by decide) (a:=⟨W.heap.size,0,none⟩) (m:=1) (d:=1) (news:=[ptr pp]) rfl (λ j u hj=>by
  cases j with
  |zero=>cases hj;rw[WideShapes.add_plain];exact ze _ _ 0 _ _ _ hnew
  |succ j=>cases hj) (λ u hu=>by simp at hu;rw[hu];rfl) (by unfold maxLen;omega) (by omega)
 have hlt:∀i,i<W.heap.size→(∀a,p=some a→a.block≠i)→W'.heap[i]?=W.heap[i]?:=λ i hi hne=>(hr3.block i (zy hi hal.size) (λ e=>by
  cases p with
  |none=>cases e
  |some a=>
   have e:some i=some a.block:=e
   cases e
   exact hne a rfl rfl)).trans (hal.block i hi)
 have hgl:=gb.qd h1.blk
 have hg1:W'.heap[g]?=W.heap[g]?:=hlt g hgl (λ a ha e=>h1.V3 ha e)
 have hq:=h1.len
 have hob:∀(v:Value) i,i<W.heap.size→(∀a,p=some a→a.block≠i)→i≠g→(W'.setCell ⟨g,0,none⟩ v).heap[i]?=W.heap[i]?:=λ v i hi h1 h2=>(zn _ _ _ _ h2).trans (hlt i hi h1)
 obtain⟨v,hv⟩:∃v,Value.slice p' (c.L.length+1) cap'=v:=⟨_,rfl⟩
 have hst:∀j,j<c.L.length→Rep (W'.setCell ⟨g,0,none⟩ v) (nd q j).U (nd q j).g (c.at' j).s (nd q j).m:=λ j hj=>XY (h1.stg j hj) λ i hi=>hob v i ((JK (h1.stg j hj)).2 i hi) (λ a ha e=>h1.T5 hj ha (by rw[e];exact hi)) (λ e=>h1.j7 hj (by rw[←e];exact hi))
 have hpt:∀j,j<c.L.length→(W'.setCell ⟨g,0,none⟩ v).heap[(nd q j).p]?=some (.cells (UW (nd q j).g (c.at' j).closed) 90 (0,0)):=λ j hj=>(hob v _ (gb.qd (h1.prt j hj)) (λ a ha e=>h1.Q2 hj ha e) (h1.UX hj)).trans (h1.prt j hj)
 have hnw:PAt (W'.setCell ⟨g,0,none⟩ v) pp gg U s bb m:=hp.keep λ i hi=>hob v i (hp.lt hi) (λ a ha e=>hdj i hi (Or.inr (Or.inl ⟨a,ha,e⟩))) (λ e=>hdj i hi (Or.inl e))
 have hlq:nd (q++[(⟨pp,gg,U,m⟩:Nd)]) c.L.length=⟨pp,gg,U,m⟩:=by
  unfold nd
  rw[zi,List.getElem?_append_right (by omega),hq,Nat.sub_self]
  rfl
 have hoq:∀j,j<c.L.length→nd (q++[(⟨pp,gg,U,m⟩:Nd)]) j=nd q j:=λ j hj=>by
  unfold nd
  rw[zi,zi,List.getElem?_append_left (by omega)]
 have hlc:({c with L:=c.L++[(⟨s,bb⟩:Prt)]}:Ch).at' c.L.length=⟨s,bb⟩:=by
  unfold Ch.at'
  rw[zi,List.getElem?_append_right (zg _),Nat.sub_self]
  rfl
 have hoc:∀j,j<c.L.length→({c with L:=c.L++[(⟨s,bb⟩:Prt)]}:Ch).at' j=c.at' j:=λ j hj=>by
  unfold Ch.at'
  rw[zi,zi,List.getElem?_append_left hj]
 have hsum:∀j,j≤c.L.length→Zj (c.L++[(⟨s,bb⟩:Prt)]) j=Zj c.L j:=λ j hj=>by
  unfold Zj
  rw[List.take_append_of_le_length hj]
 have hl1:(c.L++[(⟨s,bb⟩:Prt)]).length=c.L.length+1:=by simp
 refine⟨p',cap',W',h1.cell 0,λ ty=>hr1 ty,⟨ze _ _ 0 _ _ _ (hg1.trans h1.blk),gb.qa (hg1.trans h1.blk)⟩,p',cap',q++[⟨pp,gg,U,m⟩],⟨?_,?_,?_,?_,λ j hj=>?_,λ j hj=>?_,λ i j hi hj hne=>?_,λ j hj=>?_,?_,h1.top⟩,⟨⟨?_,?_,?_,?_,λ i hi=>?_⟩,λ i hi=>?_⟩⟩
 ·rw[List.length_append]
  show q.length+1=(c.L++[(⟨s,bb⟩:Prt)]).length
  rw[hl1,hq]
 ·show(c.L++[(⟨s,bb⟩:Prt)]).length≤10
  rw[hl1]
  omega
 ·show _=some (Obj.cells (chC p' (c.L++[(⟨s,bb⟩:Prt)]).length cap' _) _ _)
  rw[hl1]
  have:=hg1.trans h1.blk
  rw[gb.qo this]
  rfl
 ·show gc.ORow _ 0 _ 1 p' (c.L++[(⟨s,bb⟩:Prt)]).length cap' _
  rw[hl1,List.map_append]
  exact hr2.set (hg1.trans h1.blk) (by decide) 0 _
 ·have hj:j<c.L.length+1:=by rw[←hl1];exact hj
  rw[hv]
  rcases Nat.lt_or_ge j c.L.length with e|e
  ·rw[hoq j e,hoc j e]
   exact hpt j e
  ·obtain rfl:j=c.L.length:=by omega
   rw[hlq,hlc]
   exact hnw.prt
 ·have hj:j<c.L.length+1:=by rw[←hl1];exact hj
  rw[hv]
  rcases Nat.lt_or_ge j c.L.length with e|e
  ·rw[hoq j e,hoc j e]
   exact hst j e
  ·obtain rfl:j=c.L.length:=by omega
   rw[hlq,hlc]
   exact hnw.stg
 ·have hi:i<c.L.length+1:=by rw[←hl1];exact hi
  have hj:j<c.L.length+1:=by rw[←hl1];exact hj
  rcases Nat.lt_or_ge i c.L.length with e|e<;>rcases Nat.lt_or_ge j c.L.length with f|f
  ·rw[hoq i e,hoq j f]
   exact h1.apart i j e f hne
  ·obtain rfl:j=c.L.length:=by omega
   rw[hoq i e,hlq]
   exact⟨λ ee=>hdj pp (Or.inl rfl) (by have ee:(nd q i).p=pp:=ee;rw[←ee];exact Ul (by omega)),λ x hx hx'=>hdj x (Or.inr hx') (VS (by omega) hx)⟩
  ·obtain rfl:i=c.L.length:=by omega
   rw[hoq j f,hlq]
   exact⟨λ ee=>hdj pp (Or.inl rfl) (by have ee:pp=(nd q j).p:=ee;rw[ee];exact Ul (by omega)),λ x hx hx'=>hdj x (Or.inr hx) (VS (by omega) hx')⟩
  ·omega
 ·have hj:j<c.L.length+1:=by rw[←hl1];exact hj
  show(nd (q++[(⟨pp,gg,U,m⟩:Nd)]) j).m+Zj (c.L++[(⟨s,bb⟩:Prt)]) j≤M
  rcases Nat.lt_or_ge j c.L.length with e|e
  ·rw[hoq j e,hsum j (by omega)]
   exact h1.sum j e
  ·obtain rfl:j=c.L.length:=by omega
   rw[hlq]
   exact hm
 ·show 0≤c.lost∧c.lost+(Zj (c.L++[(⟨s,bb⟩:Prt)]) (c.L++[(⟨s,bb⟩:Prt)]).length:Nat)≤M
  rw[hl1]
  exact hlo
 ·exact hr3.os.trans (hal.os.trans h2.1.os)
 ·exact hr3.tape.trans (hal.tape.trans h2.1.tape)
 ·exact hr3.output.trans (hal.output.trans h2.1.output)
 ·have:=zt h2.1.size (zt hal.size hr3.size)
  simpa[World.setCell]using this
 ·rw[hob _ i (zy hi h2.1.size) (λ a ha e=>by have:=h2.2 a.block (Or.inr (Or.inl ⟨a,ha,rfl⟩));omega) (λ e=>by have:=h2.2 g (Or.inl rfl);omega)]
  exact h2.1.block i hi
 ·rcases hi with e|⟨a,ha,e⟩|⟨x,hx,e⟩
  ·exact h2.2 i (Or.inl e)
  ·rcases hr4 a ha with h5|h5
   ·cases p with
    |none=>cases h5
    |some a0=>
     have h5:a0.block=a.block:=Option.some.inj h5
     exact h2.2 i (Or.inr (Or.inl ⟨a0,rfl,h5.trans e⟩))
   ·have:=h2.1.size
    have:=hal.size
    omega
  ·rcases List.mem_append.1 hx with hx|hx
   ·exact h2.2 i (Or.inr (Or.inr ⟨x,hx,e⟩))
   ·simp at hx
    rw[hx]at e
    exact hd i e
end
def Dz (v:Value):Sem Value:=Instr.loadAt 58 v
def L6 (v x:Value):Sem Unit:=Instr.storeAt 58 v x
theorem LS (v:Value):Instr.loadAt 58 v=Dz v:=rfl
theorem N8 (v x:Value):Instr.storeAt 58 v x=L6 v x:=rfl
theorem Pq {q:Nat} {w:World} (h:IsB 58 5 w q):(Dz (.pointer (some ⟨q,0,none⟩))).run zf w=.ok (.agg (qE w q)) w:=YG underlying58 rfl (by kernel_rfl) h
theorem Sf {q:Nat} {w:World} {cs:Array Value} (h:IsB 58 5 w q) (hv:OkC 5 cs):(L6 (.pointer (some ⟨q,0,none⟩)) (.agg cs)).run zf w=.ok () (w.setRow q cs):=Jm (by kernel_rfl) h hv
theorem okH (p:Option Addr) (n cap:Nat) (c:Ch):OkC 5 (chC p n cap c):=⟨rfl,by simp[chC,Value.oneCell']⟩
attribute [local go_sem ↓] LS N8
attribute [local go_sem] Pq Sf okH
def Yd (c:Ch) (k:Nat):Ch:={c with L:=c.L.take k}
theorem jk (c:Ch) (k:Nat) (h:k<c.L.length):({Yd c k with L:=(Yd c k).L++[(⟨(c.at' k).s,(c.at' k).closed⟩:Prt)]}:Ch)=Yd c (k+1):=by
 unfold Yd
 have:c.at' k=c.L[k]:=by
  unfold Ch.at'
  rw[zi,zj h]
  rfl
 rw[List.take_add_one,zj h,this]
 rfl
theorem Lo (c:Ch):Yd c c.L.length=c:=by unfold Yd;rw[List.take_length]
theorem jM (l:List Prt) (k j:Nat) (h:j≤k):Zj (l.take k) j=Zj l j:=by
 unfold Zj
 rw[List.take_take,Nat.min_eq_left h]
theorem FW (l:List Prt) (j k:Nat) (h:j≤k):Zj l j≤Zj l k:=by
 unfold Zj
 have:l.take j=(l.take k).take j:=by rw[List.take_take,Nat.min_eq_left h]
 rw[this]
 conv=>rhs;rw[←List.take_append_drop j (l.take k),List.map_append,List.sum_append]
 omega
theorem Lw {w0 W W5:World} {g g0 n0:Nat} {c:Ch} {M k gg:Nat} {U:Own} {p0:Option Addr} {q0:List Nd} (h0:CAt w0 g0 p0 n0 q0 c M) (hk:k<c.L.length) {p:Option Addr} {cap:Nat} {q:List Nd} (a1:CAt W g p cap q (Yd c k) M) (a2:Fr w0 W (ZX g p q)) (hr:Rep W5 U gg (c.at' k).s (nd q0 k).m) (hu:∀i,U i→W.heap.size≤i) (hb:Below W.heap.size W W5):
  ∃p' cap' W',W5.cell? ⟨g,0,none⟩=some (.slice p k cap)∧(∀ty,(Builtin.append_ #[PS,PS] ty #[.slice p k cap,.slice (some ⟨W5.heap.size+1,0,none⟩) 1 1]).run zf ((W5.alloc (.cells (UW gg (c.at' k).closed) 90)).alloc (.cells #[ptr W5.heap.size] PT))=.ok (.slice p' (k+1) cap') W')∧
   (W'.cell? ⟨g,0,none⟩=some (.slice p k cap)∧W'.frozen? ⟨g,0,none⟩=false)∧Kz w0 g (Yd c (k+1)) M (W'.setCell ⟨g,0,none⟩ (.slice p' (k+1) cap')):=by
 have hal:Below W5.heap.size W5 (W5.alloc (.cells (UW gg (c.at' k).closed) 90)):=(zh _ _).alloc (zg _) _
 have hb6:=gb.seqB hb hal
 have hlt:∀i,U i→i<W5.heap.size:=(JK hr).2
 have hp:PAt (W5.alloc (.cells (UW gg (c.at' k).closed) 90)) W5.heap.size gg U (c.at' k).s (c.at' k).closed (nd q0 k).m:=⟨zo W5 _,XY hr λ i hi=>hal.block i (hlt i hi)⟩
 have hlk:(Yd c k).L.length=k:=by show(c.L.take k).length=k;rw[zw];omega
 have hone:∀i,YO W5.heap.size U i→W.heap.size≤i:=λ i hi=>by
  rcases hi with rfl|hi
  ·exact hb.size
  ·exact hu i hi
 have e:(Yd c k).L++[(⟨(c.at' k).s,(c.at' k).closed⟩:Prt)]=c.L.take (k+1):=congrArg Ch.L (jk c k hk)
 have hm:=SK (w0:=w0) (a1.on hb6) ⟨a2.1.trans (hb6.mono a2.1.size),a2.2⟩ (by rw[hlk];have:=h0.ten;omega) hp (λ i hi=>zt a2.1.size (hone i hi)) (λ i hi hbk=>by
  have:=hone i hi
  have:=a1.lt hbk
  omega) (by
  rw[e,hlk,jM _ _ _ (by omega)]
  exact h0.sum k hk) (by
  rw[e,hlk,jM _ _ _ (zg _)]
  have h1:=h0.los
  have h2:=FW c.L (k+1) c.L.length (by omega)
  show 0≤c.lost∧c.lost+(Zj c.L (k+1):Nat)≤M
  omega)
 rw[jk c k hk,hlk]at hm
 obtain⟨p',cap',W',x1,x2,x3,x4⟩:=hm
 have hsz:(W5.alloc (.cells (UW gg (c.at' k).closed) 90)).heap.size=W5.heap.size+1:=by simp
 rw[hsz]at x2
 have y5:=(a1.on hb).cell 0
 have y5:W5.cell? ⟨g,0,none⟩=some (.slice p (Yd c k).L.length cap):=y5
 rw[hlk]at y5
 exact⟨p',cap',W',y5,x2,x3,x4⟩
theorem Nb {w:World} {g cap:Nat} {p:Option Addr} {q:List Nd} {c:Ch} {M:Nat} (h:CAt w g p cap q c M) {W:World} {g2:Nat} (hb:Below w.heap.size w W) (hg:w.heap.size≤g2) (hz:BAt 58 W g2 (chC none 0 0 c)):Kz w g2 (Yd c 0) M W:=by
 refine⟨none,0,[],⟨rfl,Nat.zero_le _,hz,gc.JA _ _ _ _,λ k hk=>absurd hk (Nat.not_lt_zero k),λ k hk=>absurd hk (Nat.not_lt_zero k),λ i j hi=>absurd hi (Nat.not_lt_zero i),λ k hk=>absurd hk (Nat.not_lt_zero k),?_,h.top⟩,hb,λ i hi=>?_⟩
 ·have:=h.los
  show 0≤c.lost∧c.lost+(0:Nat)≤M
  omega
 ·rcases hi with rfl|⟨a,ha,_⟩|⟨x,hx,_⟩
  ·exact hg
  ·cases ha
  ·cases hx
section
variable {w:World} {g:Nat} {p:Option Addr} {cap:Nat} {q:List Nd} {c:Ch} {M:Nat}
theorem Dc (h:CAt w g p cap q c M) (h2:2≤c.L.length):Calls zf 12 #[ptr g] w λ e w'=>∃g2,e=.returned (ptr g2)∧Kz w g2 c M w':=by
 have h10:=h.ten
 obtain⟨b,o,rfl,hr,hnc,hmx⟩:=h.rows (by omega)
 have hgb:BAt 58 w g (chC (some ⟨b,o,none⟩) c.L.length cap c):=h.blk
 have hgl:=hgb.lt
 have i0:=hgb.is (K:=5) rfl
 have c0:=hgb.cells
 obtain⟨W1,hW1⟩:∃W1,w.alloc (.cells #[.slice none 0 0,.int .i64 0,.int .i64 0,.bool false,.int .i64 0] 58)=W1:=⟨_,rfl⟩
 have i1:IsB 58 5 W1 w.heap.size:=by rw[←hW1];exact⟨_,zo w _,rfl⟩
 have hb1:Below w.heap.size w W1:=by rw[←hW1];exact(zh _ _).alloc (zg _) _
 have z1:=i1.row (chC (some ⟨b,o,none⟩) c.L.length cap c)
 have hb2:=below_setRow hb1 (zg _) (chC (some ⟨b,o,none⟩) c.L.length cap c)
 have z2:BAt 58 ((W1.setRow w.heap.size (chC (some ⟨b,o,none⟩) c.L.length cap c)).setCell ⟨w.heap.size,0,none⟩ (.slice none 0 0)) w.heap.size (chC none 0 0 c):=by
  have:=z1.set 0 (.slice none 0 0)
  exact this
 have hb3:=hb2.setCell (p:=⟨w.heap.size,0,none⟩) (zg _) (.slice none 0 0)
 have HM0:=zd (Nb h hb3 (zg _) z2)
 have HB3:=zd hb3
 have v0:=z1.cell 0
 have u0:=z1.frz 0
 have HC:=zd h
 have HR:=zd hr
 have hg3:BAt 58 ((W1.setRow w.heap.size (chC (some ⟨b,o,none⟩) c.L.length cap c)).setCell ⟨w.heap.size,0,none⟩ (.slice none 0 0)) g (chC (some ⟨b,o,none⟩) c.L.length cap c):=(hb3.block g hgl).trans hgb
 have x0:((W1.setRow w.heap.size (chC (some ⟨b,o,none⟩) c.L.length cap c)).setCell ⟨w.heap.size,0,none⟩ (.slice none 0 0)).cell? ⟨g,0,none⟩=some (.slice (some ⟨b,o,none⟩) c.L.length cap):=hg3.cell 0
 clear h hr hgb z1 z2 hb1 hb2 hb3 hg3
 go_enter func12,ntmps12
 go_upto_region 3 with fail
 generalize(W1.setRow w.heap.size (chC (some ⟨b,o,none⟩) c.L.length cap c)).setCell ⟨w.heap.size,0,none⟩ (.slice none 0 0)=w3 at*
 clear i0 c0 hW1 i1 v0 u0
 generalize w.heap.size=g2 at HM0⊢
 go_wp2_with fail
 clear x0
 go_loopw [15] (λ i wr=>∃k:Nat,k≤c.L.length∧i=.int .i64 k∧Hid (Kz w g2 (Yd c k) M wr)) (λ i _=>c.L.length -(intOf i).toNat)
 case atStart=>exact⟨0,Nat.zero_le _,rfl,HM0⟩
 case round=>
  clear HM0
  obtain⟨k,hk,rfl,HK⟩:=hrel
  by_cases hlt:k<c.L.length
  ·obtain⟨p2,cap2,q2,a1,a2⟩:=HK.out
   have hcr:=HC.out.on a2.1
   have y0:wr.cell? ⟨b,o+k,none⟩=some (ptr (nd q k).p):=hcr.Sj hlt
   have hpc:=hcr.prt k hlt
   have hlp:=gb.qd hpc
   have z0:wr.drew.cell? ⟨(nd q k).p,0,none⟩=some (ptr (nd q k).g):=ze _ _ 0 _ _ _ hpc
   have z1:wr.drew.cell? ⟨(nd q k).p,1,none⟩=some (.bool (c.at' k).closed):=ze _ _ 1 _ _ _ hpc
   have hbd:Below wr.heap.size wr wr.drew:=(zh _ _).drew
   have b1:=a1.on hbd
   have s0:wr.drew.cell? ⟨g2,0,none⟩=some (.slice p2 (Yd c k).L.length cap2):=b1.cell 0
   have hlk:(Yd c k).L.length=k:=by show(c.L.take k).length=k;rw[zw];omega
   rw[hlk]at s0
   have hgl2:=gb.qd b1.blk
   have HCO:=zd (BE (hcr.on hbd|>.stg k hlt))
   have HPC:=zd (show wr.drew.heap[(nd q k).p]?=_ from hpc)
   have HB1:=zd b1
   have HA2:=zd (show Fr w wr.drew (ZX g2 p2 q2)from⟨a2.1.drew,a2.2⟩)
   have hix:decide ((k:Int)<(c.L.length:Int))=true:=decide_eq_true (by omega)
   clear hcr hpc a1 a2 b1 hlk hbd HK
   go_upto_region 6 with fail
   clear y0 hix
   go_region_law
    (first
     |(go_simp;go_at_call 35;(with_reducible refine zr HCO.out ?_);rintro e w5 ⟨g5,U5,rfl,hr5,hu5,hb5⟩;obtain⟨p',cap',W',s5,happ,⟨t0,f0⟩,hm⟩:=Lw HC.out hlt HB1.out HA2.out hr5 hu5 hb5;have HAP:=zd happ;have HM:=zd hm;have hs5:=hb5.size;have z5:w5.cell? ⟨(nd q k).p,1,none⟩=some (.bool (c.at' k).closed):=ze _ _ 1 _ _ _ ((hb5.block _ (gb.qd HPC.out)).trans HPC.out);have hgl5:g2<w5.heap.size:=zy hgl2 hs5;have hlp5:(nd q k).p<w5.heap.size:=zy hlp hs5;clear happ hm hr5 hu5 hb5)
     |(refine gc.XG rfl (.tmp 20) (.tmp 32) 56 56 rfl (.slice p2 k cap2) (.slice (some ⟨w5.heap.size+1,0,none⟩) 1 1) rfl rfl HAP.out ?_))
   all_goals (
    clear HAP HCO HPC HB1 HA2 z0 z1 s0 s5 z5 t0 f0
    go_wp2_with fail
    go_roundw
    case rel=>exact⟨k+1,by omega,by go_num,HM⟩
    case measure=>simp[intOf];omega)
  ·have hke:k=c.L.length:=by omega
   subst hke
   have HE:=zd (show Kz w g2 c M wr from by
    have:=HK.out
    rwa[Lo]at this)
   clear hlt HK
   go_wp2_with fail
   try rw[zl]
   go_ret
   exact⟨g2,rfl,HE.out⟩
theorem Db {U:Own} (h:X5 w U g c M):Calls zf 12 #[ptr g] w λ e w'=>∃g2 U2,e=.returned (ptr g2)∧CHd w w' U2 g2 c M:=by
 obtain⟨c',p,cap,q,h1,h2,h3,h4,_⟩:=h
 refine(Dc h1 h4).mono ?_
 rintro e w' ⟨g2,rfl,p2,cap2,q2,k1,k2⟩
 exact⟨g2,_,rfl,⟨c',p2,cap2,q2,k1,h2,h3,h4,rfl⟩,k2.2,k2.1⟩
end
end Go.Proofs.YtfdfgnmgpgkknaaGreat
