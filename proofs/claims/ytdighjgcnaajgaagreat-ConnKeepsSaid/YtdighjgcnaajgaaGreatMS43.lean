import Derived.Test.YtdighjgcnaajgaaGreatMS34
import Derived.Test.YtdighjgcnaajgaaGreatMS38
import Derived.Test.YtdighjgcnaajgaaGreatMS41
import Derived.Test.YtdighjgcnaajgaaGreatMS42
namespace Go.Proofs.YtdighjgcnaajgaaGreat
open Go.RowKit
theorem LikeP.trans {a b c:Prt} (h:LikeP a b) (k:LikeP b c):LikeP a c:=⟨h.closed.trans k.closed,h.tx.trans k.tx,h.z',k.z⟩
namespace Ch
theorem Brk.trans {a b c:Ch} (h:Brk a b) (k:Brk b c):Brk a c:=⟨h.st',k.st,h.room.trans k.room,h.lost.trans k.lost,h.shut.trans k.shut,h.len.trans k.len,λ j hj=>(h.ok j (by rw[k.len];exact hj)).trans (k.ok j hj)⟩
theorem Like.trans {a b c:Ch} (h:Like a b) (k:Like b c):Like a c:=by
 rcases h with rfl|h
 ·exact k
 ·rcases k with rfl|k
  ·exact Or.inr h
  ·exact Or.inr (h.trans k)
theorem Like.do {c' c:Ch} (h:Like c' c) (o:COp) (h2:2≤c.L.length):Like (c'.doN o) (c.doN o)∧c'.doA o=c.doA o:=by
 rcases h with rfl|h
 ·exact⟨like_refl _,rfl⟩
 ·have:=brk_do h o h2
  exact⟨Or.inr this.1,this.2⟩
end Ch
def CRep (w:World) (U:Own) (g:Nat) (c:Ch) (M:Nat):Prop:=∃c' p cap q,CAt w g p cap q c' M∧Ch.Like c' c∧Ch.Ends c'∧2≤c'.L.length∧U=blkC g p q
def CStp (w:World) (U:Own) (g:Nat) (c:Ch) (M:Nat) (w':World):Prop:=∃U',CRep w' U' g c M∧Mvd w U w' U'
def CHd (w0 w:World) (U:Own) (g:Nat) (c:Ch) (M:Nat):Prop:=CRep w U g c M∧(∀i,U i→w0.heap.size≤i)∧Below w0.heap.size w0 w
theorem crep_lt {w:World} {U:Own} {g:Nat} {c:Ch} {M:Nat} (h:CRep w U g c M):U g∧∀i,U i→i<w.heap.size:=by
 obtain⟨c',p,cap,q,h1,_,_,_,rfl⟩:=h
 exact⟨Or.inl rfl,λ i hi=>h1.lt hi⟩
theorem crep_keep {w w':World} {U:Own} {g:Nat} {c:Ch} {M:Nat} (h:CRep w U g c M) (hb:∀i,U i→w'.heap[i]?=w.heap[i]?):CRep w' U g c M:=by
 obtain⟨c',p,cap,q,h1,h2,h3,h4,rfl⟩:=h
 exact⟨c',p,cap,q,h1.keep hb,h2,h3,h4,rfl⟩
theorem crep_mono {w:World} {U:Own} {g:Nat} {c:Ch} {M M':Nat} (h:CRep w U g c M) (hM:M≤M') (hf:M'≤400000):CRep w U g c M':=by
 obtain⟨c',p,cap,q,h1,h2,h3,h4,rfl⟩:=h
 exact⟨c',p,cap,q,h1.more hM hf,h2,h3,h4,rfl⟩
theorem CStp.size {w w':World} {U:Own} {g:Nat} {c:Ch} {M:Nat} (h:CStp w U g c M w'):w.heap.size≤w'.heap.size:=by
 obtain⟨U',_,hm⟩:=h
 exact hm.size
section
variable {w0 w w':World} {U:Own} {g:Nat} {c c':Ch} {M M':Nat}
theorem CHd.on (h:CHd w0 w U g c M) (hb:Below w.heap.size w w'):CHd w0 w' U g c M:=
 ⟨crep_keep h.1 (λ i hi=>hb.block i ((crep_lt h.1).2 i hi)),h.2.1,h.2.2.trans (hb.mono h.2.2.size)⟩
theorem CHd.new (h:CHd w0 w U g c M) {i:Nat} (hi:w.heap.size≤i):¬U i:=λ hu=>by
 have:=(crep_lt h.1).2 i hu
 omega
theorem CHd.step (h:CHd w0 w U g c M) (hs:CStp w U g c' M' w'):∃U',CHd w0 w' U' g c' M'∧Rest w U w' U':=by
 obtain⟨U',hr,hm⟩:=hs
 have hf:Fr w0 w' U':=Fr.mvd ⟨h.2.2,h.2.1⟩ hm
 refine⟨U',⟨hr,hf.2,hf.1⟩,λ i hi hu=>⟨hm.1.2 i hi hu,λ hu'=>?_⟩⟩
 rcases hm.2 i hu' with e|e
 ·exact hu e
 ·omega
theorem CHd.mono (h:CHd w0 w U g c M) (hM:M≤M') (hf:M'≤400000):CHd w0 w U g c M':=⟨crep_mono h.1 hM hf,h.2⟩
theorem CHd.set (h:CHd w0 w U g c M) {b k:Nat} (hc:¬U b) (h0:w0.heap.size≤b) (v:Value):CHd w0 (w.setCell ⟨b,k,none⟩ v) U g c M:=
 ⟨crep_keep h.1 (λ i hi=>Below.heap_setCell _ _ _ _ (λ e=>hc (by have e:i=b:=e;rw[←e];exact hi))),h.2.1,h.2.2.setCell (p:=⟨b,k,none⟩) h0 v⟩
theorem CHd.len (h:CHd w0 w U g c M):2≤c.L.length∧c.L.length≤10:=by
 obtain⟨c',p,cap,q,h1,h2,h3,h4,_⟩:=h.1
 rw[←h2.len]
 exact⟨h4,h1.ten⟩
theorem CRep.held (h:CRep w U g c M):c.held≤M:=by
 obtain⟨c',p,cap,q,h1,h2,h3,h4,_⟩:=h
 rw[←h2.held]
 exact h1.held_le h4
theorem CRep.lost (h:CRep w U g c M):0≤c.lost∧c.lost≤M:=by
 obtain⟨c',p,cap,q,h1,h2,h3,h4,_⟩:=h
 rw[←h2.lost]
 have:=h1.los
 exact⟨this.1,by omega⟩
theorem cstp_new {p:Option Addr} {q:List Nd} {d c2:Ch} (h:CNew w g p q d M w') (hd:Ch.Like d c2) (he:Ch.Ends d) (h2:2≤d.L.length):CStp w (blkC g p q) g c2 M w':=by
 obtain⟨p',cap',q',h1,hm⟩:=h
 exact⟨_,⟨d,p',cap',q',h1,hd,he,h2,rfl⟩,hm⟩
theorem cstp_put {p:Option Addr} {cap:Nat} {q:List Nd} {d c2:Ch} (h:CPut w g p cap q d M w') (hd:Ch.Like d c2) (he:Ch.Ends d) (h2:2≤d.L.length):CStp w (blkC g p q) g c2 M w':=cstp_new h.new hd he h2
theorem state_v (h:CRep w U g c M):Calls Tryz.prog 68 #[ptr g] w λ e w'=>e=.returned (.int .i64 c.state)∧w=w':=by
 obtain⟨c',p,cap,q,h1,h2,h3,h4,_⟩:=h
 rw[←h2.state]
 exact state_c h1
theorem held_v (h:CRep w U g c M):Calls Tryz.prog 85 #[ptr g] w λ e w'=>e=.returned (.int .i64 (c.held:Int))∧w=w':=by
 obtain⟨c',p,cap,q,h1,h2,h3,h4,_⟩:=h
 rw[←h2.held]
 exact held_c h1 h4
theorem lost_v (h:CRep w U g c M):Calls Tryz.prog 86 #[ptr g] w λ e w'=>e=.returned (.int .i64 c.lost)∧w=w':=by
 obtain⟨c',p,cap,q,h1,h2,h3,h4,_⟩:=h
 rw[←h2.lost]
 exact lost_c h1
theorem toxics_v (h:CRep w U g c M):Calls Tryz.prog 70 #[ptr g] w (ToxOut c w):=by
 obtain⟨c',p,cap,q,h1,h2,h3,h4,_⟩:=h
 have ht:=toxics_c h1 h4
 have hl:=h2.len
 have hx:txL c' (c.L.length -2)=txL c (c.L.length -2):=by
  unfold txL
  refine List.map_congr_left λ j hj=>?_
  have hj:=List.mem_range.1 hj
  exact h2.tx (j+1) (by omega)
 unfold ToxOut at ht⊢
 rw[hl,hx]at ht
 exact ht
theorem do_of {c1:Ch} {p0:Option Addr} {cap0:Nat} {q0:List Nd} (o:COp) (h1:CAt w g p0 cap0 q0 c1 M) (h2:Ch.Like c1 c) (h4:2≤c1.L.length) (h3:Ch.Ends c1):Ch.Like (c1.doN o) (c.doN o)∧c1.doA o=c.doA o∧Ch.Ends (c1.doN o)∧2≤(c1.doN o).L.length:=by
 have hd:=h2.do o (by rw[←h2.len];exact h4)
 exact⟨hd.1,hd.2,h3.doN o h4,(Ch.len_doN c1 o ⟨h4,h1.ten⟩).1⟩
theorem put_v (h:CRep w U g c M) (now n:Int) {pb:Option Addr} {nb cb:Nat} {b:ByteArray} (t:Tox) (seed:Int) (hb:b.size=nb) (hi:Lib.BytesIn w pb nb (gc.nums b)) (hnc:nb≤cb) (hM:M+b.size≤M') (hf:M'≤400000):
  Calls Tryz.prog 92 #[ptr g,.int .i64 now,.slice pb nb cb] w λ e w'=>e=.returned (.int .i64 (c.doA ⟨0,now,n,b,t,seed⟩).n)∧CStp w U g (c.doN ⟨0,now,n,b,t,seed⟩) M' w':=by
 obtain⟨c',p,cap,q,h1,h2,h3,h4,rfl⟩:=h
 obtain⟨d1,d2,d3,d4⟩:=do_of ⟨0,now,n,b,t,seed⟩ h1 h2 h4 h3
 rw[←d2]
 refine(put_c h1 h4 now hb hi hnc hM hf).mono ?_
 rintro e w' ⟨rfl,hp⟩
 refine⟨?_,cstp_put hp d1 d3 d4⟩
 unfold putV Ch.doA
 rw[if_pos rfl]
 split<;>rfl
theorem close_v (h:CRep w U g c M) (now n:Int) (b:ByteArray) (t:Tox) (seed:Int):
  Calls Tryz.prog 93 #[ptr g,.int .i64 now] w λ e w'=>e=.returned (.tuple #[])∧CStp w U g (c.doN ⟨1,now,n,b,t,seed⟩) M w':=by
 obtain⟨c',p,cap,q,h1,h2,h3,h4,rfl⟩:=h
 obtain⟨d1,d2,d3,d4⟩:=do_of ⟨1,now,n,b,t,seed⟩ h1 h2 h4 h3
 refine(close_c h1 h4 now).mono ?_
 rintro e w' ⟨rfl,hp⟩
 exact⟨rfl,cstp_put hp d1 d3 d4⟩
theorem break_v (h:CRep w U g c M) (now n:Int) (b:ByteArray) (t:Tox) (seed:Int):
  Calls Tryz.prog 110 #[ptr g,.int .i64 now] w λ e w'=>e=.returned (.tuple #[])∧CStp w U g (c.doN ⟨2,now,n,b,t,seed⟩) M w':=by
 obtain⟨c',p,cap,q,h1,h2,h3,h4,rfl⟩:=h
 obtain⟨d1,d2,d3,d4⟩:=do_of ⟨2,now,n,b,t,seed⟩ h1 h2 h4 h3
 refine(break_c h1 h4 now).mono ?_
 rintro e w' ⟨rfl,hp⟩
 exact⟨rfl,cstp_put hp d1 d3 d4⟩
theorem step_v (h:CRep w U g c M) (now n:Int) (b:ByteArray) (t:Tox) (seed:Int):
  Calls Tryz.prog 94 #[ptr g,.int .i64 now] w λ e w'=>e=.returned (.int .i64 (c.doA ⟨3,now,n,b,t,seed⟩).n)∧CStp w U g (c.doN ⟨3,now,n,b,t,seed⟩) M w':=by
 obtain⟨c',p,cap,q,h1,h2,h3,h4,rfl⟩:=h
 obtain⟨d1,d2,d3,d4⟩:=do_of ⟨3,now,n,b,t,seed⟩ h1 h2 h4 h3
 rw[←d2]
 refine(step_c h1 h4 h3 now).mono ?_
 rintro e w' ⟨c2,hl,he,rfl,hp⟩
 have hl:Ch.Like c2 (c'.doN ⟨3,now,n,b,t,seed⟩):=hl
 exact⟨rfl,cstp_put hp (hl.trans d1) he (by rw[hl.len];exact d4)⟩
def GotV (w:World) (U:Own) (g:Nat) (c:Ch) (M:Nat) (T:ByteArray) (e:Ending) (w':World):Prop:=∃a d,e=.returned (.slice a T.size d)∧Lib.BytesIn w' a T.size (gc.nums T)∧T.size≤d∧d≤9223372036854775807∧∃U',CRep w' U' g c M∧Mvd w U w' U'∧Far a T.size U' w'∧∀x,a=some x→w.heap.size≤x.block
theorem take_v (h:CRep w U g c M) (now most:Int) (b:ByteArray) (t:Tox) (seed:Int):
  Calls Tryz.prog 95 #[ptr g,.int .i64 now,.int .i64 most] w (GotV w U g (c.doN ⟨4,now,most,b,t,seed⟩) M (c.doA ⟨4,now,most,b,t,seed⟩).s):=by
 obtain⟨c',p,cap,q,h1,h2,h3,h4,rfl⟩:=h
 obtain⟨d1,d2,d3,d4⟩:=do_of ⟨4,now,most,b,t,seed⟩ h1 h2 h4 h3
 rw[←d2]
 by_cases hs:c'.state=2
 ·have e1:c'.doA ⟨4,now,most,b,t,seed⟩=noAns:=by show(if c'.state=2 then noAns else _)=_;rw[if_pos hs]
  have e2:c'.doN ⟨4,now,most,b,t,seed⟩=c':=by show(if c'.state=2 then c' else _)=_;rw[if_pos hs]
  rw[e1]
  rw[e2]at d1 d3 d4
  refine(take_none_c h1 now most hs).mono ?_
  rintro e w' ⟨a,d,rfl,hi,hd,hd',q',k1,k2,k3⟩
  exact⟨a,d,rfl,hi,hd,hd',_,⟨_,p,cap,q',k1,d1,d3,d4,rfl⟩,k2,k3⟩
 ·have e1:(c'.doA ⟨4,now,most,b,t,seed⟩).s=(c'.ansC (c'.L.length -1) (Ch.oTake now most)).s:=by show(if c'.state=2 then noAns else(⟨0,(c'.ansC (c'.L.length -1) (Ch.oTake now most)).s,0⟩:Ans)).s=_;rw[if_neg hs]
  have e2:c'.doN ⟨4,now,most,b,t,seed⟩=c'.onC (c'.L.length -1) (Ch.oTake now most):=by show(if c'.state=2 then c' else _)=_;rw[if_neg hs]
  rw[e1]
  rw[e2]at d1 d3 d4
  refine(take_some_c h1 h4 now most hs rfl).mono ?_
  rintro e w' ⟨a,d,rfl,hi,hd,hd',q',k1,k2,k3⟩
  exact⟨a,d,rfl,hi,hd,hd',_,⟨_,p,cap,q',k1,d1,d3,d4,rfl⟩,k2,k3⟩
theorem cstp_below {p:Option Addr} {cap:Nat} {q:List Nd} {c1:Ch} (h1:CAt w g p cap q c1 M) (hb:Below w.heap.size w w') (hd:Ch.Like c1 c) (he:Ch.Ends c1) (h2:2≤c1.L.length):CStp w (blkC g p q) g c M w':=
 cstp_put ((CPut.refl h1).on hb) hd he h2
theorem insert_v (h:CRep w U g c M) (now at':Int) (b:ByteArray) (t:Tox) (ht:t.s.size≤maxLen) (seed:Int):
  Calls Tryz.prog 121 #[ptr g,.int .i64 at',t.v,.int .u64 seed,.int .i64 now] w λ e w'=>e=.returned (.int .i64 (c.doA ⟨5,now,at',b,t,seed⟩).e)∧CStp w U g (c.doN ⟨5,now,at',b,t,seed⟩) M w':=by
 obtain⟨c',p,cap,q,h1,h2,h3,h4,rfl⟩:=h
 obtain⟨d1,d2,d3,d4⟩:=do_of ⟨5,now,at',b,t,seed⟩ h1 h2 h4 h3
 rw[←d2]
 have h10:=h1.ten
 have e1:(c'.doA ⟨5,now,at',b,t,seed⟩).e=c'.insE at' t:=rfl
 have e2:c'.doN ⟨5,now,at',b,t,seed⟩=if c'.insE at' t≠0 then c' else c'.insN at'.toNat t seed now:=rfl
 rw[e1]
 by_cases hp:at'<0∨(c'.L.length:Int) -2<at'∨(c'.L.length:Int) -2=8
 ·have e3:c'.insE at' t=110:=by unfold Ch.insE;rw[if_pos (by omega)]
  rw[e2,e3,if_pos (by decide)]at d1 d3 d4
  rw[e3]
  refine(ins_place h1 h4 at' t seed now hp).mono ?_
  rintro e w' ⟨rfl,hb⟩
  exact⟨rfl,cstp_below h1 hb d1 d3 d4⟩
 ·have e3:c'.insE at' t=newE t c'.room:=by unfold Ch.insE;rw[if_neg (by omega)]
  obtain⟨k,rfl⟩:∃k:Nat,at'=(k:Int):=⟨at'.toNat,by omega⟩
  rw[e2,e3]at d1 d3 d4
  rw[e3]
  by_cases hE:newE t c'.room=0
  ·rw[if_neg (by omega)]at d1 d3 d4
   rw[hE]
   refine(ins_yes h1 h4 k t ht seed now (by omega) (by omega) hE).mono ?_
   rintro e w' ⟨rfl,hp⟩
   exact⟨rfl,cstp_new hp d1 d3 d4⟩
  ·rw[if_pos hE]at d1 d3 d4
   refine(ins_no h1 h4 k t ht seed now (by omega) (by omega) hE).mono ?_
   rintro e w' ⟨rfl,hb⟩
   exact⟨rfl,cstp_below h1 hb d1 d3 d4⟩
theorem remove_v (h:CRep w U g c M) (now at':Int) (b:ByteArray) (t:Tox) (seed:Int):
  Calls Tryz.prog 91 #[ptr g,.int .i64 at',.int .i64 now] w λ e w'=>e=.returned (.int .i64 (c.doA ⟨6,now,at',b,t,seed⟩).e)∧CStp w U g (c.doN ⟨6,now,at',b,t,seed⟩) M w':=by
 obtain⟨c',p,cap,q,h1,h2,h3,h4,rfl⟩:=h
 obtain⟨d1,d2,d3,d4⟩:=do_of ⟨6,now,at',b,t,seed⟩ h1 h2 h4 h3
 rw[←d2]
 have e1:c'.doA ⟨6,now,at',b,t,seed⟩=if 0≤at'∧at'<(c'.L.length:Int) -2 then noAns else⟨0,⟨#[]⟩,110⟩:=rfl
 have e2:c'.doN ⟨6,now,at',b,t,seed⟩=if 0≤at'∧at'<(c'.L.length:Int) -2 then c'.remC at'.toNat now else c':=rfl
 by_cases hp:0≤at'∧at'<(c'.L.length:Int) -2
 ·rw[e2,if_pos hp]at d1 d3 d4
  rw[e1,if_pos hp]
  obtain⟨k,rfl⟩:∃k:Nat,at'=(k:Int):=⟨at'.toNat,by omega⟩
  refine(remove_yes h1 h4 k now (by omega)).mono ?_
  rintro e w' ⟨rfl,hp⟩
  exact⟨rfl,cstp_new hp d1 d3 d4⟩
 ·rw[e2,if_neg hp]at d1 d3 d4
  rw[e1,if_neg hp]
  refine(remove_no h1 h4 at' now hp).mono ?_
  rintro e w' ⟨rfl,rfl⟩
  exact⟨rfl,cstp_below h1 (Below.refl _ _) d1 d3 d4⟩
theorem update_v (h:CRep w U g c M) (now at':Int) (b:ByteArray) (t:Tox) (ht:t.s.size≤maxLen) (seed:Int):
  Calls Tryz.prog 111 #[ptr g,.int .i64 at',t.v,.int .i64 now] w λ e w'=>e=.returned (.int .i64 (c.doA ⟨7,now,at',b,t,seed⟩).e)∧CStp w U g (c.doN ⟨7,now,at',b,t,seed⟩) M w':=by
 obtain⟨c',p,cap,q,h1,h2,h3,h4,rfl⟩:=h
 obtain⟨d1,d2,d3,d4⟩:=do_of ⟨7,now,at',b,t,seed⟩ h1 h2 h4 h3
 rw[←d2]
 have e1:c'.doA ⟨7,now,at',b,t,seed⟩=if 0≤at'∧at'<(c'.L.length:Int) -2 then⟨0,⟨#[]⟩,(c'.ansC (at'.toNat+1) (Ch.oUpd now t)).e⟩else⟨0,⟨#[]⟩,110⟩:=rfl
 have e2:c'.doN ⟨7,now,at',b,t,seed⟩=if 0≤at'∧at'<(c'.L.length:Int) -2 then c'.onC (at'.toNat+1) (Ch.oUpd now t)else c':=rfl
 by_cases hp:0≤at'∧at'<(c'.L.length:Int) -2
 ·rw[e2,if_pos hp]at d1 d3 d4
  rw[e1,if_pos hp]
  obtain⟨k,rfl⟩:∃k:Nat,at'=(k:Int):=⟨at'.toNat,by omega⟩
  refine(update_yes h1 h4 k t ht now (by omega)).mono ?_
  rintro e w' ⟨rfl,hp⟩
  exact⟨rfl,cstp_put hp d1 d3 d4⟩
 ·rw[e2,if_neg hp]at d1 d3 d4
  rw[e1,if_neg hp]
  refine(update_no h1 h4 at' t now hp).mono ?_
  rintro e w' ⟨rfl,hb⟩
  exact⟨rfl,cstp_below h1 hb d1 d3 d4⟩
theorem new_v {room now:Int} (hE:newE noTox room=0) (w:World):Calls Tryz.prog 60 #[.int .i64 room,.int .i64 now] w λ e w'=>∃g U,e=.returned (.tuple #[ptr g,.int .i64 0])∧CHd w w' U g (Ch.newC room now) 0:=by
 refine(new_c hE w).mono ?_
 rintro e w' ⟨g,rfl,p,cap,q,h1,h2⟩
 exact⟨g,_,rfl,⟨_,p,cap,q,h1,Ch.like_refl _,Ch.Ends.new room now,Nat.le_refl 2,rfl⟩,h2.2,h2.1⟩
end
end Go.Proofs.YtdighjgcnaajgaaGreat
