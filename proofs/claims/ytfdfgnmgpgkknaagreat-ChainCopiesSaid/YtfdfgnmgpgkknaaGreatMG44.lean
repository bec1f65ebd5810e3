import Derived.Test.YtfdfgnmgpgkknaaGreatMG35
import Derived.Test.YtfdfgnmgpgkknaaGreatMG38
import Derived.Test.YtfdfgnmgpgkknaaGreatMG43
import Derived.Test.YtfdfgnmgpgkknaaGreatMG39
set_option maxHeartbeats 4000000
open Go.RowKit.Below renaming heap_setCell→zn,refl→zh
open Go.Proofs.Tryz renaming prog→zf
open Nat renaming le_refl→zg
open List renaming getElem?_eq_getElem→zj,getD_eq_getElem?_getD→zi
open Go.Lib renaming hid→zd
open Go.Proofs.Tryz
namespace Go.Proofs.YtfdfgnmgpgkknaaGreat
section
open Go.RowKit
theorem LikeP.trans {a b c:Prt} (h:LikeP a b) (k:LikeP b c):LikeP a c:=⟨h.closed.trans k.closed,h.tx.trans k.tx,h.z',k.z⟩
namespace Ch
theorem Brk.trans {a b c:Ch} (h:Brk a b) (k:Brk b c):Brk a c:=⟨h.st',k.st,h.room.trans k.room,h.lost.trans k.lost,h.shut.trans k.shut,h.len.trans k.len,λ j hj=>(h.ok j (by rw[k.len];exact hj)).trans (k.ok j hj)⟩
theorem JH.trans {a b c:Ch} (h:JH a b) (k:JH b c):JH a c:=by
 rcases h with rfl|h
 ·exact k
 ·rcases k with rfl|k
  ·exact Or.inr h
  ·exact Or.inr (h.trans k)
theorem JH.do {c' c:Ch} (h:JH c' c) (o:COp) (h2:2≤c.L.length):JH (c'.doN o) (c.doN o)∧c'.doA o=c.doA o:=by
 rcases h with rfl|h
 ·exact⟨VN _,rfl⟩
 ·have:=BJ h o h2
  exact⟨Or.inr this.1,this.2⟩
end Ch
def X5 (w:World) (U:Own) (g:Nat) (c:Ch) (M:Nat):Prop:=∃c' p cap q,CAt w g p cap q c' M∧Ch.JH c' c∧Ch.Ends c'∧2≤c'.L.length∧U=ZX g p q
def Ud (w:World) (U:Own) (g:Nat) (c:Ch) (M:Nat) (w':World):Prop:=∃U',X5 w' U' g c M∧Mvd w U w' U'
def CHd (w0 w:World) (U:Own) (g:Nat) (c:Ch) (M:Nat):Prop:=X5 w U g c M∧(∀i,U i→w0.heap.size≤i)∧Below w0.heap.size w0 w
theorem UI {w:World} {U:Own} {g:Nat} {c:Ch} {M:Nat} (h:X5 w U g c M):U g∧∀i,U i→i<w.heap.size:=by
 obtain⟨c',p,cap,q,h1,_,_,_,rfl⟩:=h
 exact⟨Or.inl rfl,λ i hi=>h1.lt hi⟩
theorem YT {w w':World} {U:Own} {g:Nat} {c:Ch} {M:Nat} (h:X5 w U g c M) (hb:∀i,U i→w'.heap[i]?=w.heap[i]?):X5 w' U g c M:=by
 obtain⟨c',p,cap,q,h1,h2,h3,h4,rfl⟩:=h
 exact⟨c',p,cap,q,h1.keep hb,h2,h3,h4,rfl⟩
theorem Lu {w:World} {U:Own} {g:Nat} {c:Ch} {M M':Nat} (h:X5 w U g c M) (hM:M≤M') (hf:M'≤400000):X5 w U g c M':=by
 obtain⟨c',p,cap,q,h1,h2,h3,h4,rfl⟩:=h
 exact⟨c',p,cap,q,h1.more hM hf,h2,h3,h4,rfl⟩
theorem Ud.size {w w':World} {U:Own} {g:Nat} {c:Ch} {M:Nat} (h:Ud w U g c M w'):w.heap.size≤w'.heap.size:=by
 obtain⟨U',_,hm⟩:=h
 exact hm.size
section
variable {w0 w w':World} {U:Own} {g:Nat} {c c':Ch} {M M':Nat}
theorem CHd.on (h:CHd w0 w U g c M) (hb:Below w.heap.size w w'):CHd w0 w' U g c M:=
 ⟨YT h.1 (λ i hi=>hb.block i ((UI h.1).2 i hi)),h.2.1,h.2.2.trans (hb.mono h.2.2.size)⟩
theorem CHd.new (h:CHd w0 w U g c M) {i:Nat} (hi:w.heap.size≤i):¬U i:=λ hu=>by
 have:=(UI h.1).2 i hu
 omega
theorem CHd.step (h:CHd w0 w U g c M) (hs:Ud w U g c' M' w'):∃U',CHd w0 w' U' g c' M'∧Rest w U w' U':=by
 obtain⟨U',hr,hm⟩:=hs
 have hf:Fr w0 w' U':=Fr.mvd ⟨h.2.2,h.2.1⟩ hm
 refine⟨U',⟨hr,hf.2,hf.1⟩,λ i hi hu=>⟨hm.1.2 i hi hu,λ hu'=>?_⟩⟩
 rcases hm.2 i hu' with e|e
 ·exact hu e
 ·omega
theorem CHd.mono (h:CHd w0 w U g c M) (hM:M≤M') (hf:M'≤400000):CHd w0 w U g c M':=⟨Lu h.1 hM hf,h.2⟩
theorem CHd.set (h:CHd w0 w U g c M) {b k:Nat} (hc:¬U b) (h0:w0.heap.size≤b) (v:Value):CHd w0 (w.setCell ⟨b,k,none⟩ v) U g c M:=
 ⟨YT h.1 (λ i hi=>zn _ _ _ _ (λ e=>hc (by have e:i=b:=e;rw[←e];exact hi))),h.2.1,h.2.2.setCell (p:=⟨b,k,none⟩) h0 v⟩
theorem jt {p:Option Addr} {q:List Nd} {d c2:Ch} (h:To w g p q d M w') (hd:Ch.JH d c2) (he:Ch.Ends d) (h2:2≤d.L.length):Ud w (ZX g p q) g c2 M w':=by
 obtain⟨p',cap',q',h1,hm⟩:=h
 exact⟨_,⟨d,p',cap',q',h1,hd,he,h2,rfl⟩,hm⟩
theorem JE {p:Option Addr} {cap:Nat} {q:List Nd} {d c2:Ch} (h:qx w g p cap q d M w') (hd:Ch.JH d c2) (he:Ch.Ends d) (h2:2≤d.L.length):Ud w (ZX g p q) g c2 M w':=jt h.new hd he h2
theorem FZ (h:X5 w U g c M):Calls zf 31 #[ptr g] w λ e w'=>e=.returned (.int .i64 c.state)∧w=w':=by
 obtain⟨c',p,cap,q,h1,h2,h3,h4,_⟩:=h
 rw[←h2.state]
 exact F0 h1
theorem G5 (h:X5 w U g c M):Calls zf 18 #[ptr g] w λ e w'=>e=.returned (.int .i64 (c.held:Int))∧w=w':=by
 obtain⟨c',p,cap,q,h1,h2,h3,h4,_⟩:=h
 rw[←h2.held]
 exact BA h1 h4
theorem Gs (h:X5 w U g c M):Calls zf 17 #[ptr g] w λ e w'=>e=.returned (.int .i64 c.lost)∧w=w':=by
 obtain⟨c',p,cap,q,h1,h2,h3,h4,_⟩:=h
 rw[←h2.lost]
 exact Bw h1
theorem Tt (h:X5 w U g c M):Calls zf 19 #[ptr g] w (Vx c w):=by
 obtain⟨c',p,cap,q,h1,h2,h3,h4,_⟩:=h
 have ht:=LQ h1 h4
 have hl:=h2.len
 have hx:txL c' (c.L.length -2)=txL c (c.L.length -2):=by
  unfold txL
  refine List.map_congr_left λ j hj=>?_
  have hj:=List.mem_range.1 hj
  exact h2.tx (j+1) (by omega)
 unfold Vx at ht⊢
 rw[hl,hx]at ht
 exact ht
theorem Qt {c1:Ch} {p0:Option Addr} {cap0:Nat} {q0:List Nd} (o:COp) (h1:CAt w g p0 cap0 q0 c1 M) (h2:Ch.JH c1 c) (h4:2≤c1.L.length) (h3:Ch.Ends c1):Ch.JH (c1.doN o) (c.doN o)∧c1.doA o=c.doA o∧Ch.Ends (c1.doN o)∧2≤(c1.doN o).L.length:=by
 have hd:=h2.do o (by rw[←h2.len];exact h4)
 exact⟨hd.1,hd.2,h3.doN o h4,(Ch.EF c1 o ⟨h4,h1.ten⟩).1⟩
theorem Dt (h:X5 w U g c M) (now n:Int) {pb:Option Addr} {nb cb:Nat} {b:ByteArray} (t:Tox) (seed:Int) (hb:b.size=nb) (hi:Lib.BytesIn w pb nb (gc.nums b)) (hnc:nb≤cb) (hM:M+b.size≤M') (hf:M'≤400000):
  Calls zf 13 #[ptr g,.int .i64 now,.slice pb nb cb] w λ e w'=>e=.returned (.int .i64 (c.doA ⟨0,now,n,b,t,seed⟩).n)∧Ud w U g (c.doN ⟨0,now,n,b,t,seed⟩) M' w':=by
 obtain⟨c',p,cap,q,h1,h2,h3,h4,rfl⟩:=h
 obtain⟨d1,d2,d3,d4⟩:=Qt ⟨0,now,n,b,t,seed⟩ h1 h2 h4 h3
 rw[←d2]
 refine(Ae h1 h4 now hb hi hnc hM hf).mono ?_
 rintro e w' ⟨rfl,hp⟩
 refine⟨?_,JE hp d1 d3 d4⟩
 unfold Bd Ch.doA
 rw[if_pos rfl]
 split<;>rfl
theorem E7 (h:X5 w U g c M) (now n:Int) (b:ByteArray) (t:Tox) (seed:Int):
  Calls zf 27 #[ptr g,.int .i64 now] w λ e w'=>e=.returned (.tuple #[])∧Ud w U g (c.doN ⟨1,now,n,b,t,seed⟩) M w':=by
 obtain⟨c',p,cap,q,h1,h2,h3,h4,rfl⟩:=h
 obtain⟨d1,d2,d3,d4⟩:=Qt ⟨1,now,n,b,t,seed⟩ h1 h2 h4 h3
 refine(E9 h1 h4 now).mono ?_
 rintro e w' ⟨rfl,hp⟩
 exact⟨rfl,JE hp d1 d3 d4⟩
theorem De (h:X5 w U g c M) (now n:Int) (b:ByteArray) (t:Tox) (seed:Int):
  Calls zf 28 #[ptr g,.int .i64 now] w λ e w'=>e=.returned (.tuple #[])∧Ud w U g (c.doN ⟨2,now,n,b,t,seed⟩) M w':=by
 obtain⟨c',p,cap,q,h1,h2,h3,h4,rfl⟩:=h
 obtain⟨d1,d2,d3,d4⟩:=Qt ⟨2,now,n,b,t,seed⟩ h1 h2 h4 h3
 refine(NY h1 h4 now).mono ?_
 rintro e w' ⟨rfl,hp⟩
 exact⟨rfl,JE hp d1 d3 d4⟩
theorem M4 (h:X5 w U g c M) (now n:Int) (b:ByteArray) (t:Tox) (seed:Int):
  Calls zf 15 #[ptr g,.int .i64 now] w λ e w'=>e=.returned (.int .i64 (c.doA ⟨3,now,n,b,t,seed⟩).n)∧Ud w U g (c.doN ⟨3,now,n,b,t,seed⟩) M w':=by
 obtain⟨c',p,cap,q,h1,h2,h3,h4,rfl⟩:=h
 obtain⟨d1,d2,d3,d4⟩:=Qt ⟨3,now,n,b,t,seed⟩ h1 h2 h4 h3
 rw[←d2]
 refine(D0 h1 h4 h3 now).mono ?_
 rintro e w' ⟨c2,hl,he,rfl,hp⟩
 have hl:Ch.JH c2 (c'.doN ⟨3,now,n,b,t,seed⟩):=hl
 exact⟨rfl,JE hp (hl.trans d1) he (by rw[hl.len];exact d4)⟩
def km (w:World) (U:Own) (g:Nat) (c:Ch) (M:Nat) (T:ByteArray) (e:Ending) (w':World):Prop:=∃a d,e=.returned (.slice a T.size d)∧Lib.BytesIn w' a T.size (gc.nums T)∧T.size≤d∧d≤9223372036854775807∧Ud w U g c M w'
theorem LV (h:X5 w U g c M) (now most:Int) (b:ByteArray) (t:Tox) (seed:Int):
  Calls zf 16 #[ptr g,.int .i64 now,.int .i64 most] w (km w U g (c.doN ⟨4,now,most,b,t,seed⟩) M (c.doA ⟨4,now,most,b,t,seed⟩).s):=by
 obtain⟨c',p,cap,q,h1,h2,h3,h4,rfl⟩:=h
 obtain⟨d1,d2,d3,d4⟩:=Qt ⟨4,now,most,b,t,seed⟩ h1 h2 h4 h3
 rw[←d2]
 by_cases hs:c'.state=2
 ·have e1:c'.doA ⟨4,now,most,b,t,seed⟩=qT:=by show(if c'.state=2 then qT else _)=_;rw[if_pos hs]
  have e2:c'.doN ⟨4,now,most,b,t,seed⟩=c':=by show(if c'.state=2 then c' else _)=_;rw[if_pos hs]
  rw[e1]
  rw[e2]at d1 d3 d4
  refine(Tz h1 now most hs).mono ?_
  rintro e w' ⟨a,d,rfl,hi,hd,hd',hp⟩
  exact⟨a,d,rfl,hi,hd,hd',JE hp d1 d3 d4⟩
 ·have e1:(c'.doA ⟨4,now,most,b,t,seed⟩).s=(c'.ql (c'.L.length -1) (Ch.qH now most)).s:=by show(if c'.state=2 then qT else(⟨0,(c'.ql (c'.L.length -1) (Ch.qH now most)).s,0⟩:Ans)).s=_;rw[if_neg hs]
  have e2:c'.doN ⟨4,now,most,b,t,seed⟩=c'.onC (c'.L.length -1) (Ch.qH now most):=by show(if c'.state=2 then c' else _)=_;rw[if_neg hs]
  rw[e1]
  rw[e2]at d1 d3 d4
  refine(Tx h1 h4 now most hs rfl).mono ?_
  rintro e w' ⟨a,d,rfl,hi,hd,hd',hp⟩
  exact⟨a,d,rfl,hi,hd,hd',JE hp d1 d3 d4⟩
theorem Y8 {p:Option Addr} {cap:Nat} {q:List Nd} {c1:Ch} (h1:CAt w g p cap q c1 M) (hb:Below w.heap.size w w') (hd:Ch.JH c1 c) (he:Ch.Ends c1) (h2:2≤c1.L.length):Ud w (ZX g p q) g c M w':=
 JE ((qx.refl h1).on hb) hd he h2
theorem Mx (h:X5 w U g c M) (now at':Int) (b:ByteArray) (t:Tox) (ht:t.s.size≤maxLen) (seed:Int):
  Calls zf 14 #[ptr g,.int .i64 at',t.v,.int .u64 seed,.int .i64 now] w λ e w'=>e=.returned (.int .i64 (c.doA ⟨5,now,at',b,t,seed⟩).e)∧Ud w U g (c.doN ⟨5,now,at',b,t,seed⟩) M w':=by
 obtain⟨c',p,cap,q,h1,h2,h3,h4,rfl⟩:=h
 obtain⟨d1,d2,d3,d4⟩:=Qt ⟨5,now,at',b,t,seed⟩ h1 h2 h4 h3
 rw[←d2]
 have h10:=h1.ten
 have e1:(c'.doA ⟨5,now,at',b,t,seed⟩).e=c'.JN at' t:=rfl
 have e2:c'.doN ⟨5,now,at',b,t,seed⟩=if c'.JN at' t≠0 then c' else c'.X9 at'.toNat t seed now:=rfl
 rw[e1]
 by_cases hp:at'<0∨(c'.L.length:Int) -2<at'∨(c'.L.length:Int) -2=8
 ·have e3:c'.JN at' t=110:=by unfold Ch.JN;rw[if_pos (by omega)]
  rw[e2,e3,if_pos (by decide)]at d1 d3 d4
  rw[e3]
  refine(Lm h1 h4 at' t seed now hp).mono ?_
  rintro e w' ⟨rfl,hb⟩
  exact⟨rfl,Y8 h1 hb d1 d3 d4⟩
 ·have e3:c'.JN at' t=Zx t c'.room:=by unfold Ch.JN;rw[if_neg (by omega)]
  obtain⟨k,rfl⟩:∃k:Nat,at'=(k:Int):=⟨at'.toNat,by omega⟩
  rw[e2,e3]at d1 d3 d4
  rw[e3]
  by_cases hE:Zx t c'.room=0
  ·rw[if_neg (by omega)]at d1 d3 d4
   rw[hE]
   refine(ET h1 h4 k t ht seed now (by omega) (by omega) hE).mono ?_
   rintro e w' ⟨rfl,hp⟩
   exact⟨rfl,jt hp d1 d3 d4⟩
  ·rw[if_pos hE]at d1 d3 d4
   refine(Bz h1 h4 k t ht seed now (by omega) (by omega) hE).mono ?_
   rintro e w' ⟨rfl,hb⟩
   exact⟨rfl,Y8 h1 hb d1 d3 d4⟩
theorem OH (h:X5 w U g c M) (now at':Int) (b:ByteArray) (t:Tox) (seed:Int):
  Calls zf 29 #[ptr g,.int .i64 at',.int .i64 now] w λ e w'=>e=.returned (.int .i64 (c.doA ⟨6,now,at',b,t,seed⟩).e)∧Ud w U g (c.doN ⟨6,now,at',b,t,seed⟩) M w':=by
 obtain⟨c',p,cap,q,h1,h2,h3,h4,rfl⟩:=h
 obtain⟨d1,d2,d3,d4⟩:=Qt ⟨6,now,at',b,t,seed⟩ h1 h2 h4 h3
 rw[←d2]
 have e1:c'.doA ⟨6,now,at',b,t,seed⟩=if 0≤at'∧at'<(c'.L.length:Int) -2 then qT else⟨0,⟨#[]⟩,110⟩:=rfl
 have e2:c'.doN ⟨6,now,at',b,t,seed⟩=if 0≤at'∧at'<(c'.L.length:Int) -2 then c'.ZW at'.toNat now else c':=rfl
 by_cases hp:0≤at'∧at'<(c'.L.length:Int) -2
 ·rw[e2,if_pos hp]at d1 d3 d4
  rw[e1,if_pos hp]
  obtain⟨k,rfl⟩:∃k:Nat,at'=(k:Int):=⟨at'.toNat,by omega⟩
  refine(So h1 h4 k now (by omega)).mono ?_
  rintro e w' ⟨rfl,hp⟩
  exact⟨rfl,jt hp d1 d3 d4⟩
 ·rw[e2,if_neg hp]at d1 d3 d4
  rw[e1,if_neg hp]
  refine(PH h1 h4 at' now hp).mono ?_
  rintro e w' ⟨rfl,rfl⟩
  exact⟨rfl,Y8 h1 (zh _ _) d1 d3 d4⟩
theorem LL (h:X5 w U g c M) (now at':Int) (b:ByteArray) (t:Tox) (ht:t.s.size≤maxLen) (seed:Int):
  Calls zf 30 #[ptr g,.int .i64 at',t.v,.int .i64 now] w λ e w'=>e=.returned (.int .i64 (c.doA ⟨7,now,at',b,t,seed⟩).e)∧Ud w U g (c.doN ⟨7,now,at',b,t,seed⟩) M w':=by
 obtain⟨c',p,cap,q,h1,h2,h3,h4,rfl⟩:=h
 obtain⟨d1,d2,d3,d4⟩:=Qt ⟨7,now,at',b,t,seed⟩ h1 h2 h4 h3
 rw[←d2]
 have e1:c'.doA ⟨7,now,at',b,t,seed⟩=if 0≤at'∧at'<(c'.L.length:Int) -2 then⟨0,⟨#[]⟩,(c'.ql (at'.toNat+1) (Ch.Ve now t)).e⟩else⟨0,⟨#[]⟩,110⟩:=rfl
 have e2:c'.doN ⟨7,now,at',b,t,seed⟩=if 0≤at'∧at'<(c'.L.length:Int) -2 then c'.onC (at'.toNat+1) (Ch.Ve now t)else c':=rfl
 by_cases hp:0≤at'∧at'<(c'.L.length:Int) -2
 ·rw[e2,if_pos hp]at d1 d3 d4
  rw[e1,if_pos hp]
  obtain⟨k,rfl⟩:∃k:Nat,at'=(k:Int):=⟨at'.toNat,by omega⟩
  refine(MT h1 h4 k t ht now (by omega)).mono ?_
  rintro e w' ⟨rfl,hp⟩
  exact⟨rfl,JE hp d1 d3 d4⟩
 ·rw[e2,if_neg hp]at d1 d3 d4
  rw[e1,if_neg hp]
  refine(N4 h1 h4 at' t now hp).mono ?_
  rintro e w' ⟨rfl,hb⟩
  exact⟨rfl,Y8 h1 hb d1 d3 d4⟩
theorem O9 {room now:Int} (hE:Zx qi room=0) (w:World):Calls zf 7 #[.int .i64 room,.int .i64 now] w λ e w'=>∃g U,e=.returned (.tuple #[ptr g,.int .i64 0])∧CHd w w' U g (Ch.Vf room now) 0:=by
 refine(Ag hE w).mono ?_
 rintro e w' ⟨g,rfl,p,cap,q,h1,h2⟩
 exact⟨g,_,rfl,⟨_,p,cap,q,h1,Ch.VN _,Ch.Ends.new room now,zg 2,rfl⟩,h2.2,h2.1⟩
end
end
section
open Go.RowKit
def Yy:COp:=⟨0,0,0,⟨#[]⟩,qi,0⟩
def Vz (w:World) (p:Option Addr) (n:Nat) (os:List COp):Prop:=0<n→∃b o,p=some ⟨b,o,none⟩∧∀i,i<n→
 w.cell? ⟨b,o+i*11,none⟩=some (.int .i64 (os.getD i Yy).kind)∧w.cell? ⟨b,o+(i*11+1),none⟩=some (.int .i64 (os.getD i Yy).now)∧w.cell? ⟨b,o+(i*11+2),none⟩=some (.int .i64 (os.getD i Yy).n)∧w.cell? ⟨b,o+(i*11+3),none⟩=some (.string (os.getD i Yy).s)∧w.cell? ⟨b,o+(i*11+4),none⟩=some (.string (os.getD i Yy).t.s)∧w.cell? ⟨b,o+(i*11+5),none⟩=some (.int .i64 (os.getD i Yy).t.k)∧w.cell? ⟨b,o+(i*11+6),none⟩=some (.bool (os.getD i Yy).t.up)∧w.cell? ⟨b,o+(i*11+7),none⟩=some (.int .i64 (os.getD i Yy).t.o)∧w.cell? ⟨b,o+(i*11+8),none⟩=some (.int .i64 (os.getD i Yy).t.a)∧w.cell? ⟨b,o+(i*11+9),none⟩=some (.int .i64 (os.getD i Yy).t.b)∧w.cell? ⟨b,o+(i*11+10),none⟩=some (.int .u64 (os.getD i Yy).seed)
theorem V6 {w w':World} {p:Option Addr} {n:Nat} {os:List COp} (h:Vz w p n os) (hb:Below w.heap.size w w'):Vz w' p n os:=λ hn=>by
 obtain⟨b,o,e,hc⟩:=h hn
 refine⟨b,o,e,λ i hi=>?_⟩
 have hh:=hc i hi
 have key:∀{k:Nat} {v:Value},w.cell? ⟨b,k,none⟩=some v→w'.cell? ⟨b,k,none⟩=some v:=λ hk=>(hb.cell (World.block_lt_of_cell? w _ hk)).trans hk
 exact⟨key hh.1,key hh.2.1,key hh.2.2.1,key hh.2.2.2.1,key hh.2.2.2.2.1,key hh.2.2.2.2.2.1,key hh.2.2.2.2.2.2.1,key hh.2.2.2.2.2.2.2.1,key hh.2.2.2.2.2.2.2.2.1,key hh.2.2.2.2.2.2.2.2.2.1,key hh.2.2.2.2.2.2.2.2.2.2⟩
def total:List COp→Nat
 |[]=>0
 |o::r=>o.s.size+o.t.s.size+total r
theorem Ja (l m:List COp):total (l++m)=total l+total m:=by
 induction l with
 |nil=>simp[total]
 |cons o r ih=>simp only[List.cons_append,total,ih];omega
theorem Js (l:List COp) (k:Nat):total (l.take k)≤total l:=by
 have h:=Ja (l.take k) (l.drop k)
 rw[List.take_append_drop]at h
 omega
theorem JJ (l:List COp) (k:Nat) (h:k<l.length):total (l.take (k+1))=total (l.take k)+((l.getD k Yy).s.size+(l.getD k Yy).t.s.size):=by
 rw[List.take_add_one,zj h,Ja,zi,zj h]
 simp[total]
theorem Qn (l:List COp) (B:Nat) (h:∀o∈l,o.s.size+o.t.s.size≤B):total l≤l.length*B:=by
 induction l with
 |nil=>simp[total]
 |cons o r ih=>
  have h1:=h o (by simp)
  have h2:=ih λ x hx=>h x (by simp[hx])
  simp only[total,List.length_cons,Nat.add_mul,Nat.one_mul]
  omega
theorem MP (l:List COp) (k:Nat) (h:k<l.length):l.getD k Yy∈l:=by
 rw[zi,zj h]
 exact List.getElem_mem h
def Few (m:Nat) (os:List COp) (w:World) (e:Ending) (w':World):Prop:=∃b,e=.returned (.bool b)∧(b=true→m≤80∧total os≤2000)∧Below w.heap.size w w'
theorem J2 (os:List COp) (k m:Nat) (hm:os.length=m) (hk:k<m) (L:Nat) (hL:(os.getD k Yy).s.size+(os.getD k Yy).t.s.size=L):total (os.take (k+1))=total (os.take k)+L:=by
 rw[JJ os k (by omega),hL]
theorem FO (y:Int) (a b t u:Nat) (hy:y=IntKind.i64.wrap (t:Int)) (hu:u=t+(a+b)):wrap64 (y+wrap64 ((a:Int)+(b:Int)))=IntKind.i64.wrap (u:Int):=by
 rw[show∀x,wrap64 x=IntKind.i64.wrap x fromλ x=>(IntWalk.i64_left _).symm,show∀x,wrap64 x=IntKind.i64.wrap x fromλ x=>(IntWalk.i64_left _).symm,hy,hu,Int.natCast_add,Int.natCast_add,IntKind.wrap_i64,IntKind.wrap_i64,IntKind.wrap_i64,IntKind.wrap_i64]
 omega
theorem QJ (p : Option Addr) (m d : Nat) (os : List COp) (w : World) (hx : os.length = m) (hmd : m ≤ d) (hd : d ≤ 9223372036854775807) (hz : ∀ o ∈ os, o.s.size ≤ 140737488351232 ∧ o.t.s.size ≤ 140737488351232) (hj : Vz w p m os) :
    Calls zf 5 #[.slice p m d] w (Few m os w) := by
  have HX := zd hx
  have HZ := zd hz
  have HJ := zd hj
  clear hx hz hj
  go_enter func5, ntmps5
  go_wp2_with fail
  go_loopw [3, 8] (λ nv i wr => ∃ (k : Nat) (y : Int), k ≤ m ∧ i = .int .i64 k ∧ nv = .int .i64 y ∧ Hid (y = IntKind.i64.wrap (total (os.take k) : Int)) ∧ Hid (Below w.heap.size w wr)) (λ _ i _ => m - (intOf i).toNat)
  case atStart => exact ⟨0, 0, by omega, rfl, rfl, zd (by simp [total]; rfl), zd (zh _ _)⟩
  case round =>
    obtain ⟨k, y, hk, rfl, rfl, HY, HB⟩ := hrel
    by_cases hlt : k < m
    · obtain ⟨b, o, rfl, hc⟩ := V6 HJ.out HB.out (by omega)
      obtain ⟨g0, g1, g2, g3, g4, g5, g6, g7, g8, g9, gA⟩ := hc k hlt
      have HS := zd (HZ.out _ (MP os k (by rw [HX.out]; exact hlt)))
      have HT := zd (J2 os k m HX.out hlt _ rfl)
      generalize os.getD k Yy = op at *
      obtain ⟨kind, T, N, X, tx, sd⟩ := op
      obtain ⟨ts, tk, tu, to, ta, tb⟩ := tx
      simp only at g0 g1 g2 g3 g4 g5 g6 g7 g8 g9 gA HS HT
      rw [← Nat.add_assoc] at g1 g2 g3 g4 g5 g6 g7 g8 g9 gA
      have HY' := zd (FO y X.size ts.size _ _ HY.out HT.out)
      clear hc HY HT
      go_wp2_with fail
      go_roundw
      case rel => exact ⟨k + 1, _, by omega, by go_num, rfl, HY', zd (HB.out.alloc HB.out.size _)⟩
      case measure => simp [intOf]; omega
    · have hkm : k = m := by omega
      have HY' := zd (show y = IntKind.i64.wrap (total os : Int) by rw [HY.out, hkm, ← HX.out, List.take_length])
      have HT : Hid (m ≤ 80 → (total os : Int) ≤ 9223372036854775807) := λ h => by
        have := Qn os 281474976702464 (λ o ho => by have := HZ.out o ho; omega)
        rw [HX.out] at this
        omega
      by_cases h2 : m ≤ 80
      · have d2 : decide ((m : Int) ≤ 80) = true := by simp; omega
        go_wp2_with fail
        go_ret
        refine ⟨_, rfl, λ h => ⟨h2, ?_⟩, HB.out⟩
        have hh := HY'.out
        rw [IntWalk.i64_in _ ⟨by omega, HT.out h2⟩] at hh
        simp at h
        omega
      · have d2 : decide ((m : Int) ≤ 80) = false := by simp; omega
        go_wp2_with fail
        go_ret
        exact ⟨_, rfl, (λ h => by simp at h), HB.out⟩
end
end Go.Proofs.YtfdfgnmgpgkknaaGreat
