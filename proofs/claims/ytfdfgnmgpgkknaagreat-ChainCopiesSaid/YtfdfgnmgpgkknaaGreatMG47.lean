import Derived.Test.YtfdfgnmgpgkknaaGreatMG45
import Derived.Test.YtfdfgnmgpgkknaaGreatMG46
import Derived.Test.YtfdfgnmgpgkknaaGreatMG39
import Derived.Test.YtfdfgnmgpgkknaaGreatMG44
set_option maxRecDepth 100000
set_option maxHeartbeats 8000000
open Go.Proofs.Tryz renaming prog→zf
open Go.RowKit.Below renaming refl→zh
open Nat renaming le_refl→zg,le_trans→zt
open Go.Lib renaming hid→zd
open Go renaming bodyPost_ret→zk,heap_alloc_new→zo,cell_of_row→ze
open List renaming getElem?_eq_getElem→zj,getD_eq_getElem?_getD→zi
open Go.Exit renaming noGoto_ret→zl
open Go.Calls renaming mono→zr
open Go.Proofs.Tryz
namespace Go.Proofs.YtfdfgnmgpgkknaaGreat
section
open Go.RowKit
attribute [local go_sem ↓] ZY ZD Xy Z3 Vi YA Xx Z2 Z4 YB
attribute [local go_sem] Z0 ZK Yj Yi Vm ZF Zu Z5 ZQ YF J7 Xj ZZ okC okN okS Yk
structure Kin (k:Ch) (M:Nat):Prop where
 fine:Ch.Fine k M
 top:M≤100000
 lost:0≤k.lost
 bal:k.bal≤M
 st:Ch.St3 k
theorem Kin.kok {k:Ch} {M:Nat} (h:Kin k M):Kok k M:=⟨h.fine,h.top,h.lost,by have:=h.bal;have:=h.top;omega⟩
theorem Kin.do {k:Ch} {M:Nat} (h:Kin k M) (o:COp) (ht:o.t.s.size≤maxLen) {M':Nat} (hM:M+o.s.size≤M') (hf:M'≤100000):Kin (k.doN o) M':=by
 have hl:=h.fine.len
 have hb:=Ch.BK k o hl
 have ha:=h.st.ans o hl.1
 refine⟨(h.fine.doN o ht (by omega)).mono hM (by omega),hf,Int.le_trans h.lost (Ch.EC k o),?_,h.st.do o hl.1⟩
 have h1:=h.bal
 split at hb
 ·rename_i h0
  have:=ha.2 h0
  omega
 ·omega
theorem Kin.mono {k:Ch} {M M':Nat} (h:Kin k M) (hM:M≤M') (hf:M'≤100000):Kin k M':=⟨h.fine.mono hM (by omega),hf,h.lost,by have:=h.bal;omega,h.st⟩
section
variable {w:World} {p:Option Addr} {n c:Nat} {k:Ch} {l:List Pc} {M:Nat}
theorem Tb (h:DAt w p n c k l) (hF:Kok k M) (kd now N:Int) (s ts:ByteArray) (tk:Int) (tu:Bool) (tt ta tb seed:Int) (hts:ts.size≤maxLen) (hs:s.size≤100000):
  Calls zf 9 #[.agg (kC p n c k),.agg #[.int .i64 kd,.int .i64 now,.int .i64 N,.string s,.string ts,.int .i64 tk,.bool tu,.int .i64 tt,.int .i64 ta,.int .i64 tb,.int .u64 seed]] w (Jl (k.doN ⟨kd,now,N,s,⟨ts,tk,tu,tt,ta,tb⟩,seed⟩) (k.doA ⟨kd,now,N,s,⟨ts,tk,tu,tt,ta,tb⟩,seed⟩) w):=by
 have hkn:=h.ZT
 have hn:=hF.fine.len
 rw[hkn]at hn
 unfold Ch.doN Ch.doA
 by_cases k0:kd=0
 ·rw[if_pos k0,if_pos k0]
  by_cases hc:k.shut=true∨k.state≠0
  ·rw[if_pos hc,if_pos hc]
   exact ER h hF kd now N s ts tk tu tt ta tb seed k0 hc
  ·rw[if_neg hc,if_neg hc]
   exact GS h hF kd now N s ts tk tu tt ta tb seed k0 (Bool.eq_false_iff.2 λ e=>hc (Or.inl e)) (Decidable.byContradiction λ e=>hc (Or.inr e)) hs
 rw[if_neg k0,if_neg k0]
 by_cases k1:kd=1
 ·rw[if_pos k1,if_pos k1]
  by_cases hc:k.state=0
  ·rw[if_pos hc]
   exact GR h hF kd now N s ts tk tu tt ta tb seed k1 hc
  ·rw[if_neg hc]
   exact EP h hF kd now N s ts tk tu tt ta tb seed k1 hc
 rw[if_neg k1,if_neg k1]
 by_cases k2:kd=2
 ·rw[if_pos k2,if_pos k2]
  exact An h hF kd now N s ts tk tu tt ta tb seed k2
 rw[if_neg k2,if_neg k2]
 by_cases k3:kd=3
 ·rw[if_pos k3,if_pos k3]
  exact Am h hF kd now N s ts tk tu tt ta tb seed k3
 rw[if_neg k3,if_neg k3]
 by_cases k4:kd=4
 ·rw[if_pos k4,if_pos k4]
  by_cases hc:k.state=2
  ·rw[if_pos hc,if_pos hc]
   exact EO h hF kd now N s ts tk tu tt ta tb seed k4 hc
  ·rw[if_neg hc,if_neg hc,hkn]
   exact GQ h hF kd now N s ts tk tu tt ta tb seed k4 hc
 rw[if_neg k4,if_neg k4]
 by_cases k5:kd=5
 ·rw[if_pos k5,if_pos k5]
  show Calls _ _ _ _ (Jl (if k.JN N ⟨ts,tk,tu,tt,ta,tb⟩≠0 then k else k.X9 N.toNat ⟨ts,tk,tu,tt,ta,tb⟩ seed now) ⟨0,⟨#[]⟩,k.JN N ⟨ts,tk,tu,tt,ta,tb⟩⟩ w)
  by_cases hp:N<0∨(n:Int) -2<N∨8≤(n:Int) -2
  ·have e3:k.JN N ⟨ts,tk,tu,tt,ta,tb⟩=110:=by unfold Ch.JN;rw[hkn,if_pos hp]
   rw[e3,if_pos (by decide)]
   exact GP h hF kd now N s ts tk tu tt ta tb seed k5 k 110 n (λ W hd=>SV hd hn.2 hn.1 N ⟨ts,tk,tu,tt,ta,tb⟩ seed now hp)
  ·have e3:k.JN N ⟨ts,tk,tu,tt,ta,tb⟩=Zx ⟨ts,tk,tu,tt,ta,tb⟩ k.room:=by unfold Ch.JN;rw[hkn,if_neg hp]
   obtain⟨i,rfl⟩:∃i:Nat,N=(i:Int):=⟨N.toNat,by omega⟩
   rw[e3]
   by_cases hE:Zx ⟨ts,tk,tu,tt,ta,tb⟩ k.room=0
   ·rw[if_neg (by omega),hE]
    exact GP h hF kd now _ s ts tk tu tt ta tb seed k5 _ 0 (n+1) (λ W hd=>GK hd hF (by omega) hn.1 i (by omega) ⟨ts,tk,tu,tt,ta,tb⟩ hts seed now hE)
   ·rw[if_pos hE]
    exact GP h hF kd now _ s ts tk tu tt ta tb seed k5 k _ n (λ W hd=>EK hd (by omega) hn.1 i (by omega) ⟨ts,tk,tu,tt,ta,tb⟩ hts seed now hE)
 rw[if_neg k5,if_neg k5]
 by_cases k6:kd=6
 ·rw[if_pos k6,if_pos k6,hkn]
  show Calls _ _ _ _ (Jl (if 0≤N∧N<(n:Int) -2 then k.ZW N.toNat now else k) (if 0≤N∧N<(n:Int) -2 then qT else⟨0,⟨#[]⟩,110⟩) w)
  by_cases hc:0≤N∧N<(n:Int) -2
  ·rw[if_pos hc,if_pos hc]
   exact Ak h hF kd now N s ts tk tu tt ta tb seed k6 (n -1) N.toNat (by omega) (by omega) (by omega)
  ·rw[if_neg hc,if_neg hc]
   exact EN h hF kd now N s ts tk tu tt ta tb seed k6 hc
 rw[if_neg k6,if_neg k6]
 by_cases k7:kd=7
 ·rw[if_pos k7,if_pos k7,hkn]
  show Calls _ _ _ _ (Jl (if 0≤N∧N<(n:Int) -2 then k.onC (N.toNat+1) (Ch.Ve now ⟨ts,tk,tu,tt,ta,tb⟩)else k) (if 0≤N∧N<(n:Int) -2 then⟨0,⟨#[]⟩,(k.ql (N.toNat+1) (Ch.Ve now ⟨ts,tk,tu,tt,ta,tb⟩)).e⟩else⟨0,⟨#[]⟩,110⟩) w)
  by_cases hc:0≤N∧N<(n:Int) -2
  ·rw[if_pos hc,if_pos hc]
   exact Aj h hF kd now N s ts tk tu tt ta tb seed k7 N.toNat (by omega) (by omega) hts
  ·rw[if_neg hc,if_neg hc]
   exact EM h hF kd now N s ts tk tu tt ta tb seed k7 hc
 rw[if_neg k7,if_neg k7]
 exact GO h hF kd now N s ts tk tu tt ta tb seed (λ j h0 h1 e=>by omega)
end
end
section
open Go.RowKit
attribute [local go_sem ↓] ZY ZD Xy Z3 Vi YA Xx Z2 Z4 YB
attribute [local go_sem] Z0 ZK Yj Yi Vm Xc ZF Zu Z5 ZQ YF J7 Xj ZZ okC okN okS Yk
def KW:Ch:=⟨[],0,0,false,0⟩
theorem j8 (w:World):∃W,w.alloc Ji=W∧IsC W w.heap.size∧Below w.heap.size w W:=⟨_,rfl,Yn w,(zh _ _).alloc (zg _) _⟩
section
variable {w:World} {p:Option Addr} {n c:Nat} {k:Ch} {l:List Pc} {M:Nat}
theorem NH (room now:Int) (w:World) (hE:Zx qi room≠0):
  Calls zf 8 #[.int .i64 room,.int .i64 now] w λ e w'=>e=.returned (.tuple #[.agg (kC none 0 0 KW),.int .i64 1])∧Below w.heap.size w w':=by
 obtain⟨W,hW,h0,hb⟩:=j8 w
 have hW:w.alloc (.cells #[.slice none 0 0,.int .i64 0,.int .i64 0,.bool false,.int .i64 0] 31)=W:=hW
 have HN:=zd (show Calls zf 21 #[.agg #[.string ⟨#[]⟩,.int .i64 0,.bool false,.int .i64 0,.int .i64 0,.int .i64 0],.int .u64 0,.int .i64 room,.int .i64 now] W (RNo (Zx qi room) W)from Ns qi (by decide) 0 room now W hE)
 have he:(Zx qi room !=0)=true:=by simpa using hE
 generalize Zx qi room=E at*
 have HR:=zd h0
 have HB:=zd hb
 clear h0 hb hE
 go_enter func8,ntmps8
 go_wp2_with fail
 refine HN.out.mono ?_
 rintro e w1 ⟨rfl,hb1⟩
 have i2:=Jt w1
 have i2:IsS (w1.alloc (.cells #[.string ⟨#[]⟩,.int .i64 0,.bool false,.int .i64 0,.int .i64 0,.int .i64 0,.int .u64 0,.int .i64 0,.int .i64 0,.int .i64 0,.int .i64 0,.string ⟨#[]⟩,.slice none 0 0,.int .i64 0,.int .i64 0,.int .i64 0,.int .i64 0,.int .i64 0,.int .i64 0,.bool false,.int .i64 0,.int .i64 0] 68)) w1.heap.size:=i2
 have hb3:=below_setRow ((zh w1.heap.size w1).alloc (zg _) Ue) (zg _) (rC none 0 0 qZ)
 have hb3:Below w1.heap.size w1 ((w1.alloc (.cells #[.string ⟨#[]⟩,.int .i64 0,.bool false,.int .i64 0,.int .i64 0,.int .i64 0,.int .u64 0,.int .i64 0,.int .i64 0,.int .i64 0,.int .i64 0,.string ⟨#[]⟩,.slice none 0 0,.int .i64 0,.int .i64 0,.int .i64 0,.int .i64 0,.int .i64 0,.int .i64 0,.bool false,.int .i64 0,.int .i64 0] 68)).setRow w1.heap.size (rC none 0 0 qZ)):=hb3
 have hb13:=gb.seqB hb1 hb3
 have HR3:=zd (HR.out.on hb13)
 have HB3:=zd (gb.seqB HB.out hb13)
 clear hb1 hb3 hb13 HN
 go_upto_region 2 with fail
 generalize(w1.alloc (.cells #[.string ⟨#[]⟩,.int .i64 0,.bool false,.int .i64 0,.int .i64 0,.int .i64 0,.int .u64 0,.int .i64 0,.int .i64 0,.int .i64 0,.int .i64 0,.string ⟨#[]⟩,.slice none 0 0,.int .i64 0,.int .i64 0,.int .i64 0,.int .i64 0,.int .i64 0,.int .i64 0,.bool false,.int .i64 0,.int .i64 0] 68)).setRow w1.heap.size (rC none 0 0 qZ)=w3 at*
 have i3:=HR3.out
 have hok:OkC 5 #[.slice none 0 0,.int .i64 0,.int .i64 0,.bool false,.int .i64 0]:=okC none 0 0 KW
 have HZ:=zd (HR3.out.row (kC none 0 0 KW))
 have HZ:Hid (BAt 31 (w3.setRow w.heap.size #[.slice none 0 0,.int .i64 0,.int .i64 0,.bool false,.int .i64 0]) w.heap.size (kC none 0 0 KW)):=HZ
 have HZB:=zd (below_setRow HB3.out (zg _) #[.slice none 0 0,.int .i64 0,.int .i64 0,.bool false,.int .i64 0])
 clear i2
 go_wp2_with fail
 exact zk (v:=.tuple #[.agg (kC none 0 0 KW),.int .i64 1]) (by simp[results,results8,asAddr,qt HZ.out]) rfl ⟨rfl,HZB.out⟩
theorem Mo (room now:Int) (w:World) (hE:Zx qi room=0):
  Calls zf 8 #[.int .i64 room,.int .i64 now] w (jC (Ch.Vf room now) 0 2 w):=by
 obtain⟨W,hW,h0,hb⟩:=j8 w
 have hW:w.alloc (.cells #[.slice none 0 0,.int .i64 0,.int .i64 0,.bool false,.int .i64 0] 31)=W:=hW
 obtain⟨s,hs⟩:∃s,Zh qi 0 room now=s:=⟨_,rfl⟩
 have HN:=zd (show Calls zf 21 #[.agg #[.string ⟨#[]⟩,.int .i64 0,.bool false,.int .i64 0,.int .i64 0,.int .i64 0],.int .u64 0,.int .i64 room,.int .i64 now] W (FH s W)from by
  rw[←hs]
  exact TM qi (by decide) 0 room now W hE)
 have HSA:=zd (show s.A=[]∧s.S.size=0 from by rw[←hs];exact⟨rfl,rfl⟩)
 obtain⟨kz,hkz⟩:∃kz,Ch.Vf room now=kz:=⟨_,rfl⟩
 rw[hkz]
 have HK:=zd (show kz=⟨[⟨s,false⟩,⟨s,false⟩],room,0,false,0⟩from by rw[←hkz];unfold Ch.Vf;rw[hs])
 have HR:=zd h0
 have HB:=zd hb
 clear h0 hb hE hs hkz
 go_enter func8,ntmps8
 go_wp2_with fail
 refine HN.out.mono ?_
 rintro e w1 ⟨rfl,hb1⟩
 have i2:=Jt w1
 have i2:IsS (w1.alloc (.cells #[.string ⟨#[]⟩,.int .i64 0,.bool false,.int .i64 0,.int .i64 0,.int .i64 0,.int .u64 0,.int .i64 0,.int .i64 0,.int .i64 0,.int .i64 0,.string ⟨#[]⟩,.slice none 0 0,.int .i64 0,.int .i64 0,.int .i64 0,.int .i64 0,.int .i64 0,.int .i64 0,.bool false,.int .i64 0,.int .i64 0] 68)) w1.heap.size:=i2
 have hz3:=(Jt w1).row (rC none 0 0 s)
 have hz3:BAt 68 ((w1.alloc (.cells #[.string ⟨#[]⟩,.int .i64 0,.bool false,.int .i64 0,.int .i64 0,.int .i64 0,.int .u64 0,.int .i64 0,.int .i64 0,.int .i64 0,.int .i64 0,.string ⟨#[]⟩,.slice none 0 0,.int .i64 0,.int .i64 0,.int .i64 0,.int .i64 0,.int .i64 0,.int .i64 0,.bool false,.int .i64 0,.int .i64 0] 68)).setRow w1.heap.size (rC none 0 0 s)) w1.heap.size (rC none 0 0 s):=hz3
 have hb3:=below_setRow ((zh w1.heap.size w1).alloc (zg _) Ue) (zg _) (rC none 0 0 s)
 have hb3:Below w1.heap.size w1 ((w1.alloc (.cells #[.string ⟨#[]⟩,.int .i64 0,.bool false,.int .i64 0,.int .i64 0,.int .i64 0,.int .u64 0,.int .i64 0,.int .i64 0,.int .i64 0,.int .i64 0,.string ⟨#[]⟩,.slice none 0 0,.int .i64 0,.int .i64 0,.int .i64 0,.int .i64 0,.int .i64 0,.int .i64 0,.bool false,.int .i64 0,.int .i64 0] 68)).setRow w1.heap.size (rC none 0 0 s)):=hb3
 have hb13:=gb.seqB hb1 hb3
 have HR3:=zd (HR.out.on hb13)
 have HB3:=zd (gb.seqB HB.out hb13)
 have HZ3:=zd hz3
 clear hb1 hb3 hb13 HN hz3
 go_upto_region 2 with fail
 generalize(w1.alloc (.cells #[.string ⟨#[]⟩,.int .i64 0,.bool false,.int .i64 0,.int .i64 0,.int .i64 0,.int .u64 0,.int .i64 0,.int .i64 0,.int .i64 0,.int .i64 0,.string ⟨#[]⟩,.slice none 0 0,.int .i64 0,.int .i64 0,.int .i64 0,.int .i64 0,.int .i64 0,.int .i64 0,.bool false,.int .i64 0,.int .i64 0] 68)).setRow w1.heap.size (rC none 0 0 s)=w3 at*
 have j0:=HZ3.out.is (K:=22) rfl
 have j1:=HZ3.out.cells
 clear i2
 obtain⟨z,hz⟩:∃z:Pc,(⟨none,0,0,⟨s,false⟩⟩:Pc)=z:=⟨_,rfl⟩
 have hd4:DAt (w3.alloc (.cells (pC z++pC z) 72)) (some ⟨w3.heap.size,0,none⟩) 2 2 ⟨[⟨s,false⟩,⟨s,false⟩],room,0,false,0⟩ [z,z]:=by
  refine⟨⟨by simp[ZB,J9],zg _,by decide,(λ e=>by cases e),λ a e=>?_⟩,rfl,by rw[←hz];rfl,λ y hy=>?_⟩
  ·cases e
   refine⟨w3.heap.size,0,pC z++pC z,rfl,Nat.zero_le _,zo w3 _,by rw[Array.size_append,Uk];decide,λ j v hj=>?_⟩
   rw[Nat.zero_add,←Array.getElem?_toList,Array.toList_append]
   simpa[ZB,pL]using hj
  ·have hy:y=z:=by simpa using hy
   rw[hy,←hz]
   refine⟨?_,HSA.out.2⟩
   show gc.qQ _ none 0 0 s.A
   rw[HSA.out.1]
   exact gc.QX _
 have HD4:=zd hd4
 have HR4:=zd (HR3.out.alloc (.cells (pC z++pC z) 72))
 have HB4:=zd (HB3.out.alloc HB3.out.size (.cells (pC z++pC z) 72))
 have hok:OkC 5 #[.slice (some ⟨w3.heap.size,0,none⟩) 2 2,.int .i64 room,.int .i64 0,.bool false,.int .i64 0]:=okC (some ⟨w3.heap.size,0,none⟩) 2 2 ⟨[⟨s,false⟩,⟨s,false⟩],room,0,false,0⟩
 have i4:=HR4.out
 have HZ:=zd (HR4.out.row (kC (some ⟨w3.heap.size,0,none⟩) 2 2 ⟨[⟨s,false⟩,⟨s,false⟩],room,0,false,0⟩))
 have HZD:=zd (HD4.out.setRow HR4.out (by decide) (by decide) (kC (some ⟨w3.heap.size,0,none⟩) 2 2 ⟨[⟨s,false⟩,⟨s,false⟩],room,0,false,0⟩))
 have HZB:=zd (below_setRow HB4.out (zg _) (kC (some ⟨w3.heap.size,0,none⟩) 2 2 ⟨[⟨s,false⟩,⟨s,false⟩],room,0,false,0⟩))
 subst hz
 clear hd4
 go_wp2_with fail
 have HZ:Hid (BAt 31 ((w3.alloc (.cells (pC ⟨none,0,0,⟨s,false⟩⟩++pC ⟨none,0,0,⟨s,false⟩⟩) 72)).setRow w.heap.size #[.slice (some ⟨w3.heap.size,0,none⟩) 2 2,.int .i64 room,.int .i64 0,.bool false,.int .i64 0]) w.heap.size (kC (some ⟨w3.heap.size,0,none⟩) 2 2 ⟨[⟨s,false⟩,⟨s,false⟩],room,0,false,0⟩)):=HZ
 exact zk (v:=.tuple #[.agg (kC (some ⟨w3.heap.size,0,none⟩) 2 2 ⟨[⟨s,false⟩,⟨s,false⟩],room,0,false,0⟩),.int .i64 0]) (by simp[results,results8,asAddr,qt HZ.out]) rfl ⟨_,_,_,by rw[HK.out],by rw[HK.out];exact HZD.out,HZB.out⟩
theorem Ld (h:DAt w p n c k l) (hF:Kok k M):
  Calls zf 32 #[.agg (kC p n c k)] w λ e w'=>e=.returned (.int .i64 (k.held:Int))∧Below w.heap.size w w':=by
 have hkn:=h.ZT
 have hn10:=hF.fine.len
 rw[hkn]at hn10
 have hlk:=h.len
 obtain⟨b,o,rfl,_⟩:=h.row.at (by omega)
 obtain⟨W,hW⟩:∃W,w.alloc (.cells (kC (some ⟨b,o,none⟩) n c k) 31)=W:=⟨_,rfl⟩
 have hb0:Below w.heap.size w W:=by rw[←hW];exact(zh _ _).alloc (zg _) _
 have hk0:BAt 31 W w.heap.size (kC (some ⟨b,o,none⟩) n c k):=by rw[←hW];exact Va w _
 have HD0:=zd (h.on hb0)
 have HA0:=zd hk0
 have HB0:=zd hb0
 have HF:=zd hF
 have HKN:=zd hkn
 have HLK:=zd hlk
 clear h hF hk0 hb0 hkn hlk
 go_enter func32,ntmps32
 go_wp2_with fail
 clear hW
 go_loopw [3,4] (λ s i wr=>∃j:Nat,j≤n∧i=.int .i64 j∧s=.int .i64 (((k.L.take j).map λ p=>p.s.S.size).sum:Nat)∧Hid (DAt wr (some ⟨b,o,none⟩) n c k l)∧Hid (XD wr w.heap.size (some ⟨b,o,none⟩) n c k)∧Hid (Below w.heap.size w wr)) (λ _ i _=>n -(intOf i).toNat)
 case atStart=>exact⟨0,by omega,rfl,rfl,HD0,HA0,HB0⟩
 case round=>
  clear HD0 HA0 HB0
  obtain⟨j,hj,rfl,rfl,HD,HA,HB⟩:=hrel
  have x0:wr.cell? ⟨w.heap.size,0,none⟩=some (.slice (some ⟨b,o,none⟩) n c):=HA.out.cell 0
  by_cases hlt:j<n
  ·obtain⟨z,hzl⟩:∃z,l[j]?=some z:=⟨_,zj (by rw[HLK.out];exact hlt)⟩
   have hrg:=HD.out.TH hlt hzl
   have i0:MIs wr b (o+j*23):=⟨_,_,_,_,hrg⟩
   have k0:=V9 hrg
   have HH:=zd (Z7 z.p z.n z.c z.x.s wr)
   have hzx:=HD.out.part hzl
   have hs1:((k.L.take (j+1)).map λ p=>p.s.S.size).sum=((k.L.take j).map λ p=>p.s.S.size).sum+z.x.s.S.size:=by
    rw[List.take_add_one,List.map_append,List.sum_append,zj (by rw[HKN.out];exact hlt)]
    have:k.L[j]'(by rw[HKN.out];exact hlt)=z.x:=by
     rw[←hzx]
     unfold Ch.at'
     rw[zi,zj (by rw[HKN.out];exact hlt)]
     rfl
    simp[this]
   have hsm:((k.L.take (j+1)).map λ p=>p.s.S.size).sum≤1000000:=by
    have h1:=HF.out.bal
    have h2:=HF.out.lost
    have h3:((k.L.take (j+1)).map λ p=>p.s.S.size).sum≤(k.L.map λ p=>p.s.S.size).sum:=by
     conv=>rhs;rw[←List.take_append_drop (j+1) k.L,List.map_append,List.sum_append]
     omega
    have h4:k.bal=(k.held:Int)+k.lost:=rfl
    have h5:k.held=(k.L.map λ p=>p.s.S.size).sum:=rfl
    omega
   have HS1:=zd hs1
   generalize((k.L.take j).map λ p=>p.s.S.size).sum=sj at*
   have hw1:IntKind.i64.wrap ((sj:Int)+(z.x.s.S.size:Int))=(sj:Int)+(z.x.s.S.size:Int):=qs (by omega) (by omega)
   have hix:decide ((j:Int)<(n:Int))=true:=decide_eq_true (by omega)
   clear hzl hrg hzx hs1 hsm
   go_wp2_with fail
   refine HH.out.mono ?_
   rintro e w1 ⟨rfl,hb1⟩
   have HD1:=zd (HD.out.on hb1)
   have HA1:=zd (HA.out.on hb1)
   have HB1:=zd (HB.out.trans (hb1.mono HB.out.size))
   clear HD HA HB HH hb1 x0 i0 k0
   go_wp2_with fail
   go_roundw
   case rel=>exact⟨j+1,by omega,by go_num,by rw[HS1.out];rfl,HD1,HA1,HB1⟩
   case measure=>simp[intOf];omega
  ·obtain rfl:n=j:=by omega
   have HE:=zd (show((k.L.take n).map λ p=>p.s.S.size).sum=k.held from by rw[←HKN.out,List.take_length];rfl)
   rw[HE.out]
   go_wp2_with fail
   try rw[zl]
   go_ret
   exact⟨rfl,HB.out⟩
end
end
section
open Go.RowKit
theorem FB {w0 w:World} {base n c:Nat} {p:Option Addr} {zs:List Tox} (ho:gc.ORow w base 35 6 p n c (Jk zs)) (hb:Below base w0 w) (hbase:base≤w.heap.size) (hn:n≤20) (t:Tox):
  ∃q d w',(∀ty,(Builtin.append_ #[54,54] ty #[.slice p n c,.slice (some ⟨w.heap.size,0,none⟩) 1 1]).run zf (w.alloc (Zg t))=.ok (.slice q (n+1) d) w')∧gc.ORow w' base 35 6 q (n+1) d (Jk (zs++[t]))∧Below base w0 w'∧
   (∀i,i<w.heap.size→(∀x,p=some x→x.block≠i)→w'.heap[i]?=w.heap[i]?)∧∀x,q=some x→p.map (·.block)=some x.block∨w.heap.size≤x.block:=by
 obtain⟨i0,hi0,hz0,hz1,hz2⟩:=info_parts DD
 have hal:Below w.heap.size w (w.alloc (Zg t)):=(zh _ _).alloc (zg _) _
 have hnew:=zo w (Zg t)
 obtain⟨q,d,w',h1,h2,h3,h4⟩:=gc.Yu (t:=54) (ho.on hal) (zt hbase hal.size) underlying54 hi0 hz0 hz1 hz2 rfl (by decide) (a:=⟨w.heap.size,0,none⟩) (m:=1) (d:=1) (news:=Vt t) rfl (λ j u hj=>by
  rw[WideShapes.add_plain]
  have hj1:j<6:=(List.getElem?_eq_some_iff.1 hj).1
  rcases(show j=0∨j=1∨j=2∨j=3∨j=4∨j=5 by omega)with rfl|rfl|rfl|rfl|rfl|rfl<;>(cases hj;exact ze _ _ _ _ _ _ hnew)) (jv t) (by unfold maxLen;omega) (by omega)
 rw[←UE]at h2
 refine⟨q,d,w',h1,h2,(hb.trans (hal.mono hbase)).grown h3 (by have:=hal.size;simp;omega) (λ j hj=>?_),λ i hi hne=>(h3.block i (by simp;omega) (λ e=>?_)).trans (hal.block i hi),λ x e=>(h4 x e).imp id (λ h=>by have:=hal.size;omega)⟩
 ·cases p with
  |none=>cases hj
  |some a=>
   have hj:some a.block=some j:=hj
   cases hj
   exact(ho.lt a rfl).1
 ·cases p with
  |none=>cases e
  |some a=>
   have e:some i=some a.block:=e
   cases e
   exact hne a rfl rfl
section
variable {w:World} {p:Option Addr} {n c:Nat} {k:Ch} {l:List Pc} {M:Nat}
theorem Ml (h:DAt w p n c k l) (hF:Kok k M):
  Calls zf 34 #[.agg (kC p n c k)] w (Vx k w):=by
 have hkn:=h.ZT
 have hn10:=hF.fine.len
 rw[hkn]at hn10
 have hlk:=h.len
 obtain⟨b,o,rfl,_⟩:=h.row.at (by omega)
 obtain⟨W,hW⟩:∃W,w.alloc (.cells (kC (some ⟨b,o,none⟩) n c k) 31)=W:=⟨_,rfl⟩
 have hb0:Below w.heap.size w W:=by rw[←hW];exact(zh _ _).alloc (zg _) _
 have hk0:BAt 31 W w.heap.size (kC (some ⟨b,o,none⟩) n c k):=by rw[←hW];exact Va w _
 obtain⟨m,hm⟩:∃m,n=m+2:=⟨n -2,by omega⟩
 unfold Vx
 rw[show k.L.length -2=m by omega]
 have HD0:=zd (h.on hb0)
 have HA0:=zd hk0
 have hsz:w.heap.size<W.heap.size:=hk0.lt
 have H0:=zd (⟨gc.JA W w.heap.size 35 6,hb0⟩:gc.ORow W w.heap.size 35 6 none 0 0 (Jk (txL k 0))∧Below w.heap.size w W)
 have HKN:=zd hkn
 have HLK:=zd hlk
 have HM:=zd hm
 have hm8:m≤8:=by omega
 clear h hF hk0 hb0 hkn hlk hm
 go_enter func34,ntmps34
 go_wp2_with fail
 clear hW
 go_loopw [3,4] (λ s i wr=>∃(j:Nat) (a:Option Addr) (d:Nat),j≤m∧i=.int .i64 ((j+1:Nat):Int)∧s=.slice a j d∧Hid (DAt wr (some ⟨b,o,none⟩) n c k l)∧Hid (XD wr w.heap.size (some ⟨b,o,none⟩) n c k)∧Hid (gc.ORow wr w.heap.size 35 6 a j d (Jk (txL k j))∧Below w.heap.size w wr)∧Hid (∀x,a=some x→x.block≠w.heap.size)) (λ _ i _=>m+1 -(intOf i).toNat)
 case atStart=>exact⟨0,none,0,by omega,rfl,rfl,HD0,HA0,H0,zd (λ x e=>by cases e)⟩
 case round=>
  clear HD0 HA0 H0
  obtain⟨j,a,d,hj,rfl,rfl,HD,HA,HO,HNE⟩:=hrel
  have x0:wr.cell? ⟨w.heap.size,0,none⟩=some (.slice (some ⟨b,o,none⟩) n c):=HA.out.cell 0
  have hw1:IntKind.i64.wrap (((j+1:Nat):Int)+1)=((j+1:Nat):Int)+1:=qs (by omega) (by omega)
  have hw2:IntKind.i64.wrap ((j:Int)+1+1)=(j:Int)+1+1:=qs (by omega) (by omega)
  by_cases hlt:j<m
  ·have hd2:decide ((j:Int)+1+1<(n:Int))=true:=decide_eq_true (by have:=HM.out;omega)
   have hix2:decide ((j:Int)+1<(n:Int))=true:=decide_eq_true (by have:=HM.out;omega)
   have hn2:((j:Int)+1).toNat=j+1:=by omega
   have hd1:decide (((j+1:Nat):Int)+1<(n:Int))=true:=decide_eq_true (by have:=HM.out;omega)
   have hix:decide (((j+1:Nat):Int)<(n:Int))=true:=decide_eq_true (by have:=HM.out;omega)
   have hjn:j+1<n:=by have:=HM.out;omega
   obtain⟨z,hzl⟩:∃z,l[j+1]?=some z:=⟨_,zj (by rw[HLK.out];exact hjn)⟩
   have hrg:=HD.out.one hjn hzl
   have hzx:=HD.out.part hzl
   obtain⟨t,ht⟩:∃t,z.x.s.tx=t:=⟨_,rfl⟩
   have HS:=zd (show txL k (j+1)=txL k j++[t] by rw[Ts,hzx,ht])
   have y0:wr.cell? ⟨b,o+(j+1)*23,none⟩=some (.string t.s):=by rw[←ht];exact hrg 0 _ rfl
   have y1:wr.cell? ⟨b,o+(j+1)*23+1,none⟩=some (.int .i64 t.k):=by rw[←ht];exact hrg 1 _ rfl
   have y2:wr.cell? ⟨b,o+(j+1)*23+2,none⟩=some (.bool t.up):=by rw[←ht];exact hrg 2 _ rfl
   have y3:wr.cell? ⟨b,o+(j+1)*23+3,none⟩=some (.int .i64 t.o):=by rw[←ht];exact hrg 3 _ rfl
   have y4:wr.cell? ⟨b,o+(j+1)*23+4,none⟩=some (.int .i64 t.a):=by rw[←ht];exact hrg 4 _ rfl
   have y5:wr.cell? ⟨b,o+(j+1)*23+5,none⟩=some (.int .i64 t.b):=by rw[←ht];exact hrg 5 _ rfl
   obtain⟨a',d',w2,happ,ho2,hb2,hkp,hne2⟩:=FB HO.out.1 HO.out.2 HO.out.2.size (by omega) t
   unfold Zg at happ
   have HAP:=zd happ
   have HO2:=zd (show gc.ORow w2 w.heap.size 35 6 a' (j+1) d' (Jk (txL k (j+1)))∧Below w.heap.size w w2 from⟨by rw[HS.out];exact ho2,hb2⟩)
   have HA2:=zd (show XD w2 w.heap.size (some ⟨b,o,none⟩) n c k from(hkp _ HA.out.lt (λ x e=>HNE.out x e)).trans HA.out)
   have HD2:=zd (HD.out.typed (w':=w2) (λ b' cs T fr hT hb'=>hkp b' (gb.qd hb') (λ x e eb=>by
    obtain⟨cur,htt⟩:=HO.out.1.typed x e
    rw[eb,hb']at htt
    injection htt with htt
    injection htt with _ htt
    rcases hT with rfl|rfl
    ·exact absurd htt (by decide)
    ·exact absurd htt (by decide))))
   have HNE2:=zd (show∀x,a'=some x→x.block≠w.heap.size fromλ x e=>by
    rcases hne2 x e with e2|e2
    ·cases a with
     |none=>cases e2
     |some y=>
      have e2:some y.block=some x.block:=e2
      have e3:y.block=x.block:=Option.some.inj e2
      rw[←e3]
      exact HNE.out y rfl
    ·have:=HA.out.lt
     omega)
   clear happ ho2 hb2 hkp hne2 hzl hrg hzx ht HD HA HO HS
   go_wp2_with (at_builtin;refine Lib.wpList_append_run _ rfl _ _ _ _ rfl (.slice a j d) (.slice (some ⟨wr.heap.size,0,none⟩) 1 1) rfl rfl _ _ (HAP.out _) ?_)
   go_roundw
   case rel=>exact⟨j+1,a',d',by omega,by go_num,rfl,HD2,HA2,HO2,HNE2⟩
   case measure=>simp[intOf];omega
  ·obtain rfl:m=j:=by omega
   have hd2:decide ((m:Int)+1+1<(n:Int))=false:=decide_eq_false (by have:=HM.out;omega)
   have hd1:decide (((m+1:Nat):Int)+1<(n:Int))=false:=decide_eq_false (by have:=HM.out;omega)
   go_wp2_with fail
   try rw[zl]
   go_ret
   exact⟨a,d,rfl,HO.out.1,HO.out.2⟩
theorem Lc (m:Nat) (zs:List Tox) (hz:zs.length=m) (hm:m≤20) (a1 a2:Option Addr) (c1 c2:Nat) (w:World) (h1:gc.ORow w 0 35 6 a1 m c1 (Jk zs)) (h2:gc.ORow w 0 35 6 a2 m c2 (Jk zs)):
  Calls zf 33 #[.slice a1 m c1,.slice a2 m c2] w λ e w'=>e=.returned (.bool true)∧Below w.heap.size w w':=by
 have H1:=zd h1
 have H2:=zd h2
 have HZ:=zd hz
 have H0:=zd (zh w.heap.size w)
 clear h1 h2 hz
 go_enter func33,ntmps33
 go_wp2_with fail
 go_loopw [5] (λ i wr=>∃j:Nat,j≤m∧i=.int .i64 j∧Hid (Below w.heap.size w wr)) (λ i _=>m -(intOf i).toNat)
 case atStart=>exact⟨0,by omega,rfl,H0⟩
 case round=>
  clear H0
  obtain⟨j,hj,rfl,HB⟩:=hrel
  by_cases hlt:j<m
  ·obtain⟨b1,o1,rfl,hc1⟩:=(H1.out.on HB.out).at (by omega)
   obtain⟨b2,o2,rfl,hc2⟩:=(H2.out.on HB.out).at (by omega)
   obtain⟨t,ht⟩:∃t,zs[j]?=some t:=⟨_,zj (by rw[HZ.out];exact hlt)⟩
   have hk:∀i v,(Vt t)[i]?=some v→(Jk zs)[j*6+i]?=some v:=λ i v hv=>by
    have hi:i<6:=(List.getElem?_eq_some_iff.1 hv).1
    have hjl:j<zs.length:=by rw[HZ.out];exact hlt
    rw[show Jk zs=zs.flatMap Vt from rfl,Td (K:=6) (λ _=>rfl) zs j i hjl hi]
    rw[zj hjl,Option.some.injEq]at ht
    rw[ht]
    exact hv
   have y0:wr.cell? ⟨b1,o1+j*6,none⟩=some (.string t.s):=hc1 _ _ (hk 0 _ rfl)
   have y1:wr.cell? ⟨b1,o1+j*6+1,none⟩=some (.int .i64 t.k):=by rw[Nat.add_assoc];exact hc1 _ _ (hk 1 _ rfl)
   have y2:wr.cell? ⟨b1,o1+j*6+2,none⟩=some (.bool t.up):=by rw[Nat.add_assoc];exact hc1 _ _ (hk 2 _ rfl)
   have y3:wr.cell? ⟨b1,o1+j*6+3,none⟩=some (.int .i64 t.o):=by rw[Nat.add_assoc];exact hc1 _ _ (hk 3 _ rfl)
   have y4:wr.cell? ⟨b1,o1+j*6+4,none⟩=some (.int .i64 t.a):=by rw[Nat.add_assoc];exact hc1 _ _ (hk 4 _ rfl)
   have y5:wr.cell? ⟨b1,o1+j*6+5,none⟩=some (.int .i64 t.b):=by rw[Nat.add_assoc];exact hc1 _ _ (hk 5 _ rfl)
   have z0:wr.cell? ⟨b2,o2+j*6,none⟩=some (.string t.s):=hc2 _ _ (hk 0 _ rfl)
   have z1:wr.cell? ⟨b2,o2+j*6+1,none⟩=some (.int .i64 t.k):=by rw[Nat.add_assoc];exact hc2 _ _ (hk 1 _ rfl)
   have z2:wr.cell? ⟨b2,o2+j*6+2,none⟩=some (.bool t.up):=by rw[Nat.add_assoc];exact hc2 _ _ (hk 2 _ rfl)
   have z3:wr.cell? ⟨b2,o2+j*6+3,none⟩=some (.int .i64 t.o):=by rw[Nat.add_assoc];exact hc2 _ _ (hk 3 _ rfl)
   have z4:wr.cell? ⟨b2,o2+j*6+4,none⟩=some (.int .i64 t.a):=by rw[Nat.add_assoc];exact hc2 _ _ (hk 4 _ rfl)
   have z5:wr.cell? ⟨b2,o2+j*6+5,none⟩=some (.int .i64 t.b):=by rw[Nat.add_assoc];exact hc2 _ _ (hk 5 _ rfl)
   have hix:decide ((j:Int)<(m:Int))=true:=decide_eq_true (by omega)
   clear hc1 hc2 ht hk
   go_wp2_with fail
   go_quiet (fail)
   have HB2:=zd (HB.out.trans ((gc.below_drewN wr nq).mono HB.out.size))
   clear y0 y1 y2 y3 y4 y5 z0 z1 z2 z3 z4 z5
   go_wp2_with fail
   go_roundw
   case rel=>exact⟨j+1,by omega,by go_num,HB2⟩
   case measure=>simp[intOf];omega
  ·obtain rfl:m=j:=by omega
   go_wp2_with fail
   try rw[zl]
   go_ret
   exact⟨rfl,HB.out⟩
end
end
section
open Go.RowKit
attribute [local go_sem ↓] ZY ZD
attribute [local go_sem] ZF Zu okC
theorem UH {w w':World} {U:Own} {g:Nat} {c:Ch} {M:Nat} (h:X5 w U g c M) (hb:Below w.heap.size w w'):X5 w' U g c M:=YT h λ i hi=>hb.block i ((UI h).2 i hi)
theorem VY {w:World} {U:Own} {g:Nat} {p:Option Addr} {n c:Nat} {k:Ch} {l:List Pc} {M M2:Nat} (ha:X5 w U g k M2) (h:DAt w p n c k l) (hF:Kok k M):
   Calls zf 11 #[ptr g,.agg (kC p n c k)] w λ e w'=>e=.returned (.bool true)∧Below w.heap.size w w':=by
 have hkn:=h.ZT
 have hn10:=hF.fine.len
 rw[hkn]at hn10
 obtain⟨W,hW⟩:∃W,w.alloc (.cells (kC p n c k) 31)=W:=⟨_,rfl⟩
 have hb0:Below w.heap.size w W:=by rw[←hW];exact(zh _ _).alloc (zg _) _
 have hk0:BAt 31 W w.heap.size (kC p n c k):=by rw[←hW];exact Va w _
 obtain⟨m,hm⟩:∃m,k.L.length -2=m:=⟨_,rfl⟩
 have hb0d:Below w.heap.size w W.drew:=hb0.drew
 have HC:=zd (UH ha hb0d)
 have HD:=zd (h.on hb0d)
 have HST:=zd (λ W' (hb:Below W.drew.heap.size W.drew W')=>FZ (UH HC.out hb))
 have HHE:=zd (λ W' (hb:Below W.drew.heap.size W.drew W')=>G5 (UH HC.out hb))
 have HLO:=zd (λ W' (hb:Below W.drew.heap.size W.drew W')=>Gs (UH HC.out hb))
 have HTX:=zd (λ W' (hb:Below W.drew.heap.size W.drew W')=>Tt (UH HC.out hb))
 have HKH:=zd (λ W' (hb:Below W.drew.heap.size W.drew W')=>Ld (HD.out.on hb) hF)
 have HKT:=zd (λ W' (hb:Below W.drew.heap.size W.drew W')=>Ml (HD.out.on hb) hF)
 have HSM:=zd (λ a1 a2 c1 c2 W' h1 h2=>Lc m (txL k m) (by unfold txL;simp) (by omega) a1 a2 c1 c2 W' h1 h2)
 have HB:=zd hb0d
 unfold Vx at HTX HKT
 simp only[hm]at HTX HKT
 have HCK:=zd (show∀W',Hid (Below W.drew.heap.size W.drew W')→IsC W' w.heap.size∧qE W' w.heap.size=kC p n c k∧W'.cell? ⟨w.heap.size,4,none⟩=some (.int .i64 k.state)∧W'.cell? ⟨w.heap.size,2,none⟩=some (.int .i64 k.lost)∧Hid (Below W.drew.heap.size W.drew W')fromλ W' hb=>by
   have h0:BAt 31 W' w.heap.size (kC p n c k):=BAt.on (w:=W.drew) hk0 hb.out
   exact⟨h0.is rfl,h0.cells,h0.cell 4,h0.cell 2,hb⟩)
 have HK0:=zd (show Hid (Below W.drew.heap.size W.drew W.drew)from zd (zh _ _))
 clear ha h hF hk0 hb0 hkn hm hb0d
 go_enter func11,ntmps11
 go_wp2_with fail
 go_region_held (λ W'=>IsC W' w.heap.size∧qE W' w.heap.size=kC p n c k∧W'.cell? ⟨w.heap.size,4,none⟩=some (.int .i64 k.state)∧W'.cell? ⟨w.heap.size,2,none⟩=some (.int .i64 k.lost)∧Hid (Below W.drew.heap.size W.drew W'))
   ((refine HCK.out _ ?_
     go_split_ands
     first
       |with_reducible exact HK0.out
       |with_reducible exact hk7
       |with_reducible exact hk6
       |with_reducible exact hk5
       |with_reducible exact hk3
       |with_reducible assumption))
   (first
     |(go_split_ands;go_at_call 31;(with_reducible refine zr (HST.out _ (Hid.out (by with_reducible assumption))) ?_);rintro e w2 ⟨rfl,rfl⟩)
     |(go_split_ands;go_at_call 18;(with_reducible refine zr (HHE.out _ (Hid.out (by with_reducible assumption))) ?_);rintro e w2 ⟨rfl,rfl⟩)
     |(go_split_ands;go_at_call 32;(with_reducible refine zr (HKH.out _ (Hid.out (by with_reducible assumption))) ?_);rintro e w3 ⟨rfl,hb3⟩;have hk3:=Jh hb3 (by with_reducible assumption))
     |(go_split_ands;go_at_call 17;(with_reducible refine zr (HLO.out _ (Hid.out (by with_reducible assumption))) ?_);rintro e w2 ⟨rfl,rfl⟩)
     |(go_split_ands;go_at_call 19;(with_reducible refine zr (HTX.out _ (Hid.out (by with_reducible assumption))) ?_);rintro e w5 ⟨a1,d1,rfl,ho5,hb5⟩;have hk5:=Jh hb5 (by with_reducible assumption))
     |(go_split_ands;go_at_call 34;(with_reducible refine zr (HKT.out _ (Hid.out (by with_reducible assumption))) ?_);rintro e w6 ⟨a2,d2,rfl,ho6,hb6⟩;have hk6:=Jh hb6 (by with_reducible assumption);have ho56:=ho5.on hb6)
     |(go_split_ands;go_at_call 33;(with_reducible refine zr (HSM.out a1 a2 d1 d2 _ (VG ho56) (VG ho6)) ?_);rintro e w7 ⟨rfl,hb7⟩;have hk7:=Jh hb7 (by with_reducible assumption)))
 go_wp2_with fail
 try rw[zl]
 go_ret
 exact⟨rfl,gb.seqB HB.out hk7.out⟩
end
section
open Go.RowKit
theorem Fl {w:World} {U:Own} {g:Nat} {c:Ch} {M:Nat} (h:X5 w U g c M) {i:Nat} {cs:Array Value} {T:TypeId} {fr:Nat×Nat} (hi:w.heap[i]?=some (.cells cs T fr)) (h1:T≠113) (h2:T≠137) (h3:T≠5) (h4:T≠142)
  (h5:T≠58) (h6:T≠59) (h7:T≠90):¬U i:=by
 obtain⟨c',p,cap,q,hc,_,_,_,rfl⟩:=h
 rintro(rfl|⟨a,ha,rfl⟩|⟨x,hx,e⟩)
 ·exact h5 (gc.Zo hi hc.blk)
 ·obtain⟨cur,ht⟩:=hc.row.typed a ha
  exact h6 (gc.Zo hi ht)
 ·obtain⟨k,hk,hxk⟩:=List.mem_iff_getElem.1 hx
  have hk':k<c'.L.length:=by rw[←hc.len];exact hk
  have hnd:nd q k=x:=by
   unfold nd
   rw[zi,zj hk,hxk]
   rfl
  rcases e with rfl|e
  ·have:=hc.prt k hk'
   rw[hnd]at this
   exact h7 (gc.Zo hi this)
  ·have:=hc.stg k hk'
   rw[hnd]at this
   exact Y1 this hi h1 h2 h3 h4 e
section
variable {w w' w0:World} {U U':Own} {g:Nat} {c c':Ch} {M M':Nat}
theorem DAt.rest {p:Option Addr} {n cc:Nat} {k:Ch} {l:List Pc} (h:DAt w p n cc k l) (ha:X5 w U g c M) (hr:Rest w U w' U'):DAt w' p n cc k l:=h.typed λ b cs T fr hT hb=>(hr b (gb.qd hb) (Fl ha hb (by rcases hT with rfl|rfl<;>decide) (by rcases hT with rfl|rfl<;>decide) (by rcases hT with rfl|rfl<;>decide) (by rcases hT with rfl|rfl<;>decide) (by rcases hT with rfl|rfl<;>decide) (by rcases hT with rfl|rfl<;>decide) (by rcases hT with rfl|rfl<;>decide))).1
theorem BAt.rest {T q:Nat} {cs:Array Value} (h:BAt T w q cs) (hr:Rest w U w' U') (hq:¬U q):BAt T w' q cs∧¬U' q:=⟨(hr q h.lt hq).1.trans h,(hr q h.lt hq).2⟩
theorem CHd.setRow (h:CHd w0 w U g c M) {b:Nat} (hc:¬U b) (h0:w0.heap.size≤b) (cs:Array Value):CHd w0 (w.setRow b cs) U g c M:=
 ⟨YT h.1 (λ i hi=>setRow_other w b i cs (λ e=>hc (by rw[←e];exact hi))),h.2.1,below_setRow h.2.2 h0 cs⟩
end
theorem SU (w:World) (p:Option Addr) (n c:Nat) (k:Ch) (x:Ans):∃W,(w.alloc Ji).alloc QM=W∧IsC W w.heap.size∧IsO (W.setRow w.heap.size (kC p n c k)) (w.heap.size+1)∧BAt 31 ((W.setRow w.heap.size (kC p n c k)).setRow (w.heap.size+1) (ql x)) w.heap.size (kC p n c k)∧
  BAt 40 ((W.setRow w.heap.size (kC p n c k)).setRow (w.heap.size+1) (ql x)) (w.heap.size+1) (ql x)∧Below w.heap.size w ((W.setRow w.heap.size (kC p n c k)).setRow (w.heap.size+1) (ql x)):=by
 have h1:=(Yn w).alloc QM
 have h2:=GW w Ji
 obtain⟨a,b,d⟩:=XZ h1 h2 (by decide) (((zh _ _).alloc (zg _) _).alloc (by simp) _) (zg _) (show w.heap.size≤w.heap.size+1 by omega) (kC p n c k) (ql x)
 exact⟨_,rfl,h1,h2.apart h1 (by decide) _,a,b,d⟩
theorem T9 {room:Int} (h:Zx qi room≠0):Zx qi room=1:=by
 unfold Zx at h⊢
 rw[if_neg (λ e=>e.1 rfl)]at h⊢
 split at h
 ·rename_i hr
  rw[if_pos hr]
 ·exact absurd rfl h
theorem Kin.new {room now:Int} (h:Zx qi room=0):Kin (Ch.Vf room now) 0:=⟨Ch.Fine.new h,by decide,Int.le_refl _,by
 have h0:(Ch.Vf room now).held=0:=rfl
 show((Ch.Vf room now).held:Int)+0≤0
 omega,Ch.St3.new room now⟩
end
end Go.Proofs.YtfdfgnmgpgkknaaGreat
