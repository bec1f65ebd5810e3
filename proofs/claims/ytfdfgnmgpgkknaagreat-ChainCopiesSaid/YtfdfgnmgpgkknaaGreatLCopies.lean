import Derived.Test.YtfdfgnmgpgkknaaGreatMH1
set_option maxRecDepth 100000
set_option maxHeartbeats 16000000
open Go.Proofs.Tryz renaming prog→zf
open Go.Lib renaming hid→zd
open Nat renaming le_trans→zt,le_refl→zg
open Go.RowKit.Below renaming refl→zh
open Go.Calls renaming mono→zr
open Go.Proofs.Tryz
namespace Go.Proofs.YtfdfgnmgpgkknaaGreat.chainCopies
open Go.RowKit
attribute [local go_sem ↓] ZY ZD Vi YA
attribute [local go_sem] ZF Zu YF J7 okC okN Yk
theorem SA {w0 w w':World} {U U' U2:Own} {g2:Nat} {c2:Ch} {M2:Nat} (hr:Rest w U w' U') (hb:Below w0.heap.size w0 w') (h2:CHd w0 w U2 g2 c2 M2) (hd:∀i,U2 i→¬U i):CHd w0 w' U2 g2 c2 M2∧∀i,U2 i→¬U' i:=by
 have hl:=(UI h2.1).2
 exact⟨⟨YT h2.1 (λ i hi=>(hr i (hl i hi) (hd i hi)).1),h2.2.1,hb⟩,λ i hi=>(hr i (hl i hi) (hd i hi)).2⟩
theorem SC (room:Int) (p:Option Addr) (m d:Nat) (p2:Option Addr) (m2 d2:Nat) (w:World) (hE:Zx qi room≠0):
  Calls zf 4 #[.int .i64 room,.slice p m d,.slice p2 m2 d2] w λ e w'=>e=.returned (.bool true)∧Below w.heap.size w w':=by
 have HN:=zd (λ W=>T8 (room:=room) (now:=0) hE W)
 have HRN:=zd (λ W=>NH room 0 W hE)
 rw[T9 hE]at HN
 clear hE
 go_enter func4,ntmps4
 go_wp2_with fail
 refine(HN.out _).mono ?_
 rintro e w2 ⟨rfl,hb2⟩
 have HB2:=zd hb2
 clear hb2
 go_wp2_with fail
 refine(HRN.out _).mono ?_
 rintro e w3 ⟨rfl,hb3⟩
 obtain⟨W4,hW4,i4,hz4,hb4⟩:=jG w3 none 0 0 KW
 have hW4:w3.alloc (.cells #[.slice none 0 0,.int .i64 0,.int .i64 0,.bool false,.int .i64 0] 31)=W4:=hW4
 have HB4:=zd (HB2.out.trans ((gb.seqB hb3 hb4).mono HB2.out.size))
 clear hb3 hb4 hz4
 go_upto_region 3 with fail
 generalize W4.setRow w3.heap.size (kC none 0 0 KW)=w5 at*
 clear hW4 i4
 go_wp2_with fail
 refine(XF _).mono ?_
 rintro e w6 ⟨rfl,hb6⟩
 have HB6:=zd (HB4.out.trans (hb6.mono HB4.out.size))
 clear hb6
 go_wp2_with fail
 go_ret
 exact⟨rfl,HB6.out⟩
theorem walk (room:Int) (p:Option Addr) (m d:Nat) (os:List COp) (p2:Option Addr) (m2 d2:Nat) (os2:List COp) (w:World) (hx:os.length=m) (hmd:m≤d) (hd:d≤9223372036854775807) (hz:∀o∈os,o.s.size≤140737488351232∧o.t.s.size≤140737488351232) (hj:Vz w p m os) (hx2:os2.length=m2) (hmd2:m2≤d2) (hd2:d2≤9223372036854775807) (hz2:∀o∈os2,o.s.size≤140737488351232∧o.t.s.size≤140737488351232) (hj2:Vz w p2 m2 os2):
  Calls zf 4 #[.int .i64 room,.slice p m d,.slice p2 m2 d2] w λ e w'=>e=.returned (.bool true)∧Below w.heap.size w w':=by
 by_cases hE:Zx qi room≠0
 ·exact SC room p m d p2 m2 d2 w hE
 have hE0:Zx qi room=0:=by omega
 have HX:=zd hx
 have HJ:=zd hj
 have HZ:=zd hz
 have HX2:=zd hx2
 have HJ2:=zd hj2
 have HZ2:=zd hz2
 have HN:=zd (λ W=>O9 (now:=0) hE0 W)
 have HRN:=zd (λ W=>Mo room 0 W hE0)
 have HKI:=zd (Kin.new (now:=0) hE0)
 clear hE hx hz hj hx2 hz2 hj2 hE0
 go_enter func4,ntmps4
 go_wp2_with fail
 refine(HN.out _).mono ?_
 rintro e w2 ⟨g,U,rfl,h1⟩
 have HA2:=zd h1
 clear h1 HN
 go_wp2_with fail
 refine(HRN.out _).mono ?_
 rintro e w3 ⟨p3,c3,l3,rfl,hd3,hb3⟩
 obtain⟨W4,hW4,i4,hz4,hb4⟩:=jG w3 p3 2 c3 (Ch.Vf room 0)
 have hW4:w3.alloc (.cells #[.slice none 0 0,.int .i64 0,.int .i64 0,.bool false,.int .i64 0] 31)=W4:=hW4
 have hb34:=gb.seqB hb3 hb4
 have HA5:=zd (HA2.out.on hb34)
 have HD5:=zd (hd3.on hb4)
 have HR5:=zd hz4
 have HU5:=zd (show¬U w3.heap.size∧w.heap.size≤w3.heap.size from⟨HA2.out.new hb3.size,zt HA2.out.2.2.size hb3.size⟩)
 clear hb3 hb4 hb34 hd3 hz4 HA2 HRN
 go_upto_region 3 with fail
 generalize W4.setRow w3.heap.size (kC p3 2 c3 (Ch.Vf room 0))=w5 at*
 clear hW4 i4
 generalize w3.heap.size=rb at*
 go_wp2_with fail
 refine(QJ p m d os _ HX.out hmd hd HZ.out (V6 HJ.out HA5.out.2.2)).mono ?_
 rintro e w6 ⟨b,rfl,hf,hb⟩
 have HAX:=zd (HA5.out.on hb)
 have HD6:=zd (HD5.out.on hb)
 have HR6:=zd (HR5.out.on hb)
 have HF:=zd hf
 clear hb hf hmd hd HA5 HD5 HR5
 cases b with
 |false=>
  go_wp2_with fail
  refine(XF _).mono ?_
  rintro e w9 ⟨rfl,hb9⟩
  have HB9:=zd (HAX.out.on hb9).2.2
  clear hb9
  go_wp2_with fail
  go_ret
  exact⟨rfl,HB9.out⟩
 |true=>
 obtain⟨hm,htt⟩:=HF.out rfl
 have HT:=zd htt
 clear HF htt
 go_wp2_with fail
 refine(QJ p2 m2 d2 os2 _ HX2.out hmd2 hd2 HZ2.out (V6 HJ2.out HAX.out.2.2)).mono ?_
 rintro e w7 ⟨b,rfl,hf,hb⟩
 have HAX:=zd (HAX.out.on hb)
 have HD7:=zd (HD6.out.on hb)
 have HR7:=zd (HR6.out.on hb)
 have HF:=zd hf
 clear hb hf hmd2 hd2 HD6 HR6
 cases b with
 |false=>
  go_wp2_with fail
  refine(XF _).mono ?_
  rintro e w9 ⟨rfl,hb9⟩
  have HB9:=zd (HAX.out.on hb9).2.2
  clear hb9
  go_wp2_with fail
  go_ret
  exact⟨rfl,HB9.out⟩
 |true=>
 obtain⟨hm2,htt2⟩:=HF.out rfl
 have HT2:=zd htt2
 clear HF htt2
 go_wp2_with fail
 go_loopw [54] (λ i wr=>∃(j:Nat) (k:Ch) (U':Own) (p':Option Addr) (n' c':Nat) (l':List Pc),j≤m∧i=.int .i64 j∧Hid (CHd w wr U' g k (total (os.take j)))∧Hid (Kin k (total (os.take j)))∧Hid (DAt wr p' n' c' k l')∧Hid (XD wr rb p' n' c' k)∧Hid (¬U' rb∧w.heap.size≤rb)) (λ i _=>m -(intOf i).toNat)
 case atStart=>exact⟨0,_,U,p3,2,c3,l3,by omega,rfl,HAX,HKI,HD7,HR7,HU5⟩
 case round=>
  clear HAX HD7 HR7 HU5 HKI
  obtain⟨j,k,U1,p1,nn,c1,l1,hjm,rfl,HA,HK,HD,HR,HU⟩:=hrel
  by_cases hlt:j<m
  ·obtain⟨b,o,rfl,hcell⟩:=V6 HJ.out HA.out.2.2 (by omega)
   obtain⟨c0',c1',c2',c3',c4',c5',c6',c7',c8',c9',cA'⟩:=hcell j hlt
   have hzk:=HZ.out _ (MP os j (by rw[HX.out];exact hlt))
   have HTK:=zd (J2 os j m HX.out hlt _ rfl)
   have HTL:=zd (zt (Js os (j+1)) HT.out)
   generalize os.getD j Yy=op at*
   have HZK:=zd hzk
   obtain⟨kd,T,N,b0,tx,sd⟩:=op
   obtain⟨us,uk,uu,uo,ua,ub⟩:=tx
   simp only at c0' c1' c2' c3' c4' c5' c6' c7' c8' c9' cA' HTK HZK
   rw[←Nat.add_assoc]at c1' c2' c3' c4' c5' c6' c7' c8' c9' cA'
   have hts:us.size≤maxLen:=by have:=HTK.out;have:=HTL.out;unfold maxLen;omega
   have hss:b0.size≤100000:=by have:=HTK.out;have:=HTL.out;omega
   have hal:Below wr.heap.size wr (wr.alloc (.cells #[.int .i64 kd,.int .i64 T,.int .i64 N,.string b0,.string us,.int .i64 uk,.bool uu,.int .i64 uo,.int .i64 ua,.int .i64 ub,.int .u64 sd] 38)):=(zh _ _).alloc (zg _) _
   have HA4:=zd (HA.out.on hal)
   have HD4:=zd (HD.out.on hal)
   have HR4:=zd (HR.out.on hal)
   have HO4:=zd (Va (T:=38) wr #[.int .i64 kd,.int .i64 T,.int .i64 N,.string b0,.string us,.int .i64 uk,.bool uu,.int .i64 uo,.int .i64 ua,.int .i64 ub,.int .u64 sd])
   have HU4:=zd (show¬U1 wr.heap.size∧w.heap.size≤wr.heap.size∧wr.heap.size≠rb from⟨HA.out.new (zg _),HA.out.2.2.size,by have:=HR.out.lt;omega⟩)
   clear hal HA HD HR hcell hzk
   go_upto_region 8 with fail
   generalize wr.alloc (.cells #[.int .i64 kd,.int .i64 T,.int .i64 N,.string b0,.string us,.int .i64 uk,.bool uu,.int .i64 uo,.int .i64 ua,.int .i64 ub,.int .u64 sd] 38)=w4 at*
   generalize wr.heap.size=go at*
   clear c0' c1' c2' c3' c4' c5' c6' c7' c8' c9' cA'
   have o0:w4.cell? ⟨go,0,none⟩=some (.int .i64 kd):=HO4.out.cell 0
   have o1:w4.cell? ⟨go,1,none⟩=some (.int .i64 T):=HO4.out.cell 1
   have o2:w4.cell? ⟨go,2,none⟩=some (.int .i64 N):=HO4.out.cell 2
   have o3:w4.cell? ⟨go,3,none⟩=some (.string b0):=HO4.out.cell 3
   have o4:w4.cell? ⟨go,4,none⟩=some (.string us):=HO4.out.cell 4
   have o5:w4.cell? ⟨go,5,none⟩=some (.int .i64 uk):=HO4.out.cell 5
   have o6:w4.cell? ⟨go,6,none⟩=some (.bool uu):=HO4.out.cell 6
   have o7:w4.cell? ⟨go,7,none⟩=some (.int .i64 uo):=HO4.out.cell 7
   have o8:w4.cell? ⟨go,8,none⟩=some (.int .i64 ua):=HO4.out.cell 8
   have o9:w4.cell? ⟨go,9,none⟩=some (.int .i64 ub):=HO4.out.cell 9
   have oA:w4.cell? ⟨go,10,none⟩=some (.int .u64 sd):=HO4.out.cell 10
   have i4:=HR4.out.is (K:=5) rfl
   have k4:=HR4.out.cells
   have HDO:=zd (Tb HD4.out HK.out.kok kd T N b0 us uk uu uo ua ub sd hts hss)
   have HK1:=zd (HK.out.do ⟨kd,T,N,b0,⟨us,uk,uu,uo,ua,ub⟩,sd⟩ hts (M':=(total (os.take (j+1)))) (by show _+b0.size≤_;rw[HTK.out];omega) (by have:=HTL.out;omega))
   have HDS:=zd (λ W (hA:CHd w W U1 g k (total (os.take j)))=>UP (M':=(total (os.take (j+1)))) hA ⟨kd,T,N,b0,⟨us,uk,uu,uo,ua,ub⟩,sd⟩ hts (by rw[HTK.out];show _+(b0.size+us.size)≤_;omega) (by have:=HTL.out;omega))
   obtain⟨k1,hk1⟩:∃k1,k.doN ⟨kd,T,N,b0,⟨us,uk,uu,uo,ua,ub⟩,sd⟩=k1:=⟨_,rfl⟩
   obtain⟨a1,ha1⟩:∃a1,k.doA ⟨kd,T,N,b0,⟨us,uk,uu,uo,ua,ub⟩,sd⟩=a1:=⟨_,rfl⟩
   rw[hk1,ha1]at HDO
   rw[hk1]at HK1
   simp only[hk1,ha1]at HDS
   unfold LK at HDS
   simp only at HDS
   clear hk1 ha1 hts hss
   go_wp2_with fail
   refine HDO.out.mono ?_
   rintro e w5 ⟨n5,p5,c5,l5,rfl,hd5,hb5⟩
   obtain⟨W6,hW6,i6,j6,z6,y6,hb6⟩:=SU w5 p5 n5 c5 k1 a1
   have hW6:(w5.alloc (.cells #[.slice none 0 0,.int .i64 0,.int .i64 0,.bool false,.int .i64 0] 31)).alloc (.cells #[.int .i64 0,.string ⟨#[]⟩,.int .i64 0] 40)=W6:=hW6
   have hb56:=gb.seqB hb5 hb6
   have HA6:=zd (HA4.out.on hb56)
   have HD6:=zd (hd5.on hb6)
   have HR6:=zd (HR4.out.on hb56)
   have HO6:=zd (HO4.out.on hb56)
   have HZ6:=zd z6
   have HN6:=zd y6
   have HUA:=zd (show¬U1 (w5.heap.size+1)∧w5.heap.size+1≠rb∧w5.heap.size+1≠go from⟨HA4.out.new (by have:=hb5.size;omega),by have:=HR4.out.lt;have:=hb5.size;omega,by have:=HO4.out.lt;have:=hb5.size;omega⟩)
   clear HDO hb5 hb6 hb56 hd5 z6 y6 HA4 HD4 HR4 HO4 o0 o1 o2 o3 o4 o5 o6 o7 o8 o9 oA i4 k4
   go_upto_region 9 with fail
   generalize(W6.setRow w5.heap.size (kC p5 n5 c5 k1)).setRow (w5.heap.size+1) (ql a1)=w6 at*
   have i6':=HZ6.out.is (K:=5) rfl
   have k6':=HZ6.out.cells
   have q6:=HR6.out.is (K:=5) rfl
   have HA7:=zd (HA6.out.setRow HU.out.1 HU.out.2 (kC p5 n5 c5 k1))
   have HD7:=zd (HD6.out.setRow q6 (by decide) (by decide) (kC p5 n5 c5 k1))
   have HR7:=zd (show XD (w6.setRow rb (kC p5 n5 c5 k1)) rb p5 n5 c5 k1 from q6.row _)
   have HO7:=zd (HO6.out.other HU4.out.2.2 (kC p5 n5 c5 k1))
   have HN7:=zd (HN6.out.other HUA.out.2.1 (kC p5 n5 c5 k1))
   clear hW6 i6 j6 HA6 HD6 HR6 HO6 HZ6 HN6
   go_upto_region 10 with fail
   generalize w6.setRow rb (kC p5 n5 c5 k1)=w7 at*
   clear i6' k6' q6
   generalize w5.heap.size+1=ga at*
   generalize w5.heap.size=gn at*
   have o0:w7.cell? ⟨go,0,none⟩=some (.int .i64 kd):=HO7.out.cell 0
   have o1:w7.cell? ⟨go,1,none⟩=some (.int .i64 T):=HO7.out.cell 1
   have o2:w7.cell? ⟨go,2,none⟩=some (.int .i64 N):=HO7.out.cell 2
   have o3:w7.cell? ⟨go,3,none⟩=some (.string b0):=HO7.out.cell 3
   have o4:w7.cell? ⟨go,4,none⟩=some (.string us):=HO7.out.cell 4
   have o5:w7.cell? ⟨go,5,none⟩=some (.int .i64 uk):=HO7.out.cell 5
   have o6:w7.cell? ⟨go,6,none⟩=some (.bool uu):=HO7.out.cell 6
   have o7:w7.cell? ⟨go,7,none⟩=some (.int .i64 uo):=HO7.out.cell 7
   have o8:w7.cell? ⟨go,8,none⟩=some (.int .i64 ua):=HO7.out.cell 8
   have o9:w7.cell? ⟨go,9,none⟩=some (.int .i64 ub):=HO7.out.cell 9
   have oA:w7.cell? ⟨go,10,none⟩=some (.int .u64 sd):=HO7.out.cell 10
   have HDS7:=zd (HDS.out _ HA7.out)
   clear HDS
   go_wp2_with fail
   refine HDS7.out.mono ?_
   rintro e w9 ⟨rfl,U9,h9,hr9⟩
   have HAE:=zd h9
   have HDE:=zd (HD7.out.rest HA7.out.1 hr9)
   have HRE:=zd (BAt.rest HR7.out hr9 HU.out.1).1
   have HUE:=zd (show¬U9 rb∧w.heap.size≤rb from⟨(BAt.rest HR7.out hr9 HU.out.1).2,HU.out.2⟩)
   clear HDS7 h9 hr9 HA7 HD7 HR7 HO7 HN7 o0 o1 o2 o3 o4 o5 o6 o7 o8 o9 oA
   go_wp2_with fail
   go_roundw
   case rel=>exact⟨j+1,k1,U9,p5,n5,c5,l5,by omega,by go_num,HAE,HK1,HDE,HRE,HUE⟩
   case measure=>simp[intOf];omega
  ·obtain rfl:m=j:=by omega
   clear hlt
   have HTE:=zd (show os.take m=os by rw[←HX.out];exact List.take_length)
   rw[HTE.out]at HA HK
   have HCY:=zd (Db HA.out.1)
   go_upto_region 12 with fail
   go_wp2_with fail
   refine HCY.out.mono ?_
   rintro e w2 ⟨g2,U2,rfl,h2⟩
   have HA2:=zd (HA.out.on h2.2.2)
   have HD2:=zd (HD.out.on h2.2.2)
   have HR2:=zd (HR.out.on h2.2.2)
   have HC2:=zd (show CHd w w2 U2 g2 k (total os)from⟨h2.1,λ i hi=>zt HA.out.2.2.size (h2.2.1 i hi),HA.out.2.2.trans (h2.2.2.mono HA.out.2.2.size)⟩)
   have HUU2:=zd (show∀i,U1 i→¬U2 i fromλ i hi h=>by
    have:=(UI HA.out.1).2 i hi
    have:=h2.2.1 i h
    omega)
   have HUR2:=zd (show¬U2 rb fromλ h=>by
    have:=HR.out.lt
    have:=h2.2.1 rb h
    omega)
   clear HCY h2 HA HD HR
   go_upto_region 15 with fail
   have i2:=HR2.out.is (K:=5) rfl
   have k2:=HR2.out.cells
   obtain⟨W3,hW3,i3,hz3,hb3⟩:=jG w2 p1 nn c1 k
   have hW3:w2.alloc (.cells #[.slice none 0 0,.int .i64 0,.int .i64 0,.bool false,.int .i64 0] 31)=W3:=hW3
   have i2':IsC W3 rb:=by rw[←hW3];exact i2.alloc _
   have k2':qE W3 rb=kC p1 nn c1 k:=by rw[←hW3];exact(BAt.alloc HR2.out _).cells
   have HA3:=zd (HA2.out.on hb3)
   have HD3:=zd (HD2.out.on hb3)
   have HR3:=zd (HR2.out.on hb3)
   have HC3:=zd (HC2.out.on hb3)
   have HQ3:=zd hz3
   have HQN:=zd (show¬U1 w2.heap.size∧w.heap.size≤w2.heap.size∧rb≠w2.heap.size from⟨HA2.out.new (zg _),HA2.out.2.2.size,by have:=HR2.out.lt;omega⟩)
   have HQU:=zd (show¬U2 w2.heap.size∧w.heap.size≤w2.heap.size from⟨HC2.out.new (zg _),HA2.out.2.2.size⟩)
   clear hb3 hz3 HA2 HD2 HR2 HC2
   go_upto_region 16 with fail
   generalize W3.setRow w2.heap.size (kC p1 nn c1 k)=w3 at*
   clear hW3 i3 i2 k2 i2' k2'
   generalize w2.heap.size=qb at*
   have HKA:=HK
   have HK0:=zd (show Kin k (total os+total (os2.take 0))from HK.out.mono (Nat.le_add_right _ _) (by have:=HT.out;simp[total];omega))
   have HC0:=zd (show CHd w w3 U2 g2 k (total os+total (os2.take 0))from HC3.out.mono (Nat.le_add_right _ _) (by have:=HT.out;simp[total];omega))
   go_wp2_with fail
   go_loopw [76] (λ i wr=>∃(j:Nat) (k':Ch) (U':Own) (p':Option Addr) (n' c':Nat) (l':List Pc),j≤m2∧i=.int .i64 j∧Hid (CHd w wr U' g2 k' (total os+total (os2.take j)))∧Hid (Kin k' (total os+total (os2.take j)))∧Hid (DAt wr p' n' c' k' l')∧Hid (XD wr qb p' n' c' k')∧Hid (¬U' qb∧w.heap.size≤qb)∧Hid (CHd w wr U1 g k (total os))∧Hid (DAt wr p1 nn c1 k l1)∧Hid (XD wr rb p1 nn c1 k)∧Hid (¬U' rb)∧Hid (∀i,U1 i→¬U' i)) (λ i _=>m2 -(intOf i).toNat)
   case atStart=>exact⟨0,k,U2,p1,nn,c1,l1,by omega,rfl,HC0,HK0,HD3,HQ3,HQU,HA3,HD3,HR3,HUR2,HUU2⟩
   case round=>
    clear HK HK0 HC0 HA3 HD3 HR3 HC3 HQ3 HQU HUR2 HUU2
    obtain⟨j,kq,Uq,p',nn',c',l',hjm,rfl,HA,HK,HD,HR,HU,HE,HDA,HRA,HUR,HUU⟩:=hrel
    by_cases hlt:j<m2
    ·obtain⟨b,o,rfl,hcell⟩:=V6 HJ2.out HA.out.2.2 (by omega)
     obtain⟨c0',c1',c2',c3',c4',c5',c6',c7',c8',c9',cA'⟩:=hcell j hlt
     have hzk:=HZ2.out _ (MP os2 j (by rw[HX2.out];exact hlt))
     have HTK:=zd (J2 os2 j m2 HX2.out hlt _ rfl)
     have HTL:=zd (zt (Js os2 (j+1)) HT2.out)
     generalize os2.getD j Yy=op at*
     have HZK:=zd hzk
     obtain⟨kd,T,N,b0,tx,sd⟩:=op
     obtain⟨us,uk,uu,uo,ua,ub⟩:=tx
     simp only at c0' c1' c2' c3' c4' c5' c6' c7' c8' c9' cA' HTK HZK
     rw[←Nat.add_assoc]at c1' c2' c3' c4' c5' c6' c7' c8' c9' cA'
     have hts:us.size≤maxLen:=by have:=HTK.out;have:=HTL.out;unfold maxLen;omega
     have hss:b0.size≤100000:=by have:=HTK.out;have:=HTL.out;omega
     have hal:Below wr.heap.size wr (wr.alloc (.cells #[.int .i64 kd,.int .i64 T,.int .i64 N,.string b0,.string us,.int .i64 uk,.bool uu,.int .i64 uo,.int .i64 ua,.int .i64 ub,.int .u64 sd] 38)):=(zh _ _).alloc (zg _) _
     have HA4:=zd (HA.out.on hal)
     have HD4:=zd (HD.out.on hal)
     have HR4:=zd (HR.out.on hal)
     have HO4:=zd (Va (T:=38) wr #[.int .i64 kd,.int .i64 T,.int .i64 N,.string b0,.string us,.int .i64 uk,.bool uu,.int .i64 uo,.int .i64 ua,.int .i64 ub,.int .u64 sd])
     have HU4:=zd (show¬Uq wr.heap.size∧w.heap.size≤wr.heap.size∧wr.heap.size≠qb from⟨HA.out.new (zg _),HA.out.2.2.size,by have:=HR.out.lt;omega⟩)
     have HE4:=zd (HE.out.on hal)
     have HDA4:=zd (HDA.out.on hal)
     have HRA4:=zd (HRA.out.on hal)
     clear hal HA HD HR hcell hzk HE HDA HRA
     go_upto_region 19 with fail
     generalize wr.alloc (.cells #[.int .i64 kd,.int .i64 T,.int .i64 N,.string b0,.string us,.int .i64 uk,.bool uu,.int .i64 uo,.int .i64 ua,.int .i64 ub,.int .u64 sd] 38)=w4 at*
     generalize wr.heap.size=go at*
     clear c0' c1' c2' c3' c4' c5' c6' c7' c8' c9' cA'
     have o0:w4.cell? ⟨go,0,none⟩=some (.int .i64 kd):=HO4.out.cell 0
     have o1:w4.cell? ⟨go,1,none⟩=some (.int .i64 T):=HO4.out.cell 1
     have o2:w4.cell? ⟨go,2,none⟩=some (.int .i64 N):=HO4.out.cell 2
     have o3:w4.cell? ⟨go,3,none⟩=some (.string b0):=HO4.out.cell 3
     have o4:w4.cell? ⟨go,4,none⟩=some (.string us):=HO4.out.cell 4
     have o5:w4.cell? ⟨go,5,none⟩=some (.int .i64 uk):=HO4.out.cell 5
     have o6:w4.cell? ⟨go,6,none⟩=some (.bool uu):=HO4.out.cell 6
     have o7:w4.cell? ⟨go,7,none⟩=some (.int .i64 uo):=HO4.out.cell 7
     have o8:w4.cell? ⟨go,8,none⟩=some (.int .i64 ua):=HO4.out.cell 8
     have o9:w4.cell? ⟨go,9,none⟩=some (.int .i64 ub):=HO4.out.cell 9
     have oA:w4.cell? ⟨go,10,none⟩=some (.int .u64 sd):=HO4.out.cell 10
     have i4:=HR4.out.is (K:=5) rfl
     have k4:=HR4.out.cells
     have HDO:=zd (Tb HD4.out HK.out.kok kd T N b0 us uk uu uo ua ub sd hts hss)
     have HK1:=zd (HK.out.do ⟨kd,T,N,b0,⟨us,uk,uu,uo,ua,ub⟩,sd⟩ hts (M':=(total os+total (os2.take (j+1)))) (by show _+b0.size≤_;rw[HTK.out];omega) (by have:=HTL.out;have:=HT.out;omega))
     have HDS:=zd (λ W (hA:CHd w W Uq g2 kq (total os+total (os2.take j)))=>UP (M':=(total os+total (os2.take (j+1)))) hA ⟨kd,T,N,b0,⟨us,uk,uu,uo,ua,ub⟩,sd⟩ hts (by rw[HTK.out];show _+(b0.size+us.size)≤_;omega) (by have:=HTL.out;have:=HT.out;omega))
     obtain⟨k1,hk1⟩:∃k1,kq.doN ⟨kd,T,N,b0,⟨us,uk,uu,uo,ua,ub⟩,sd⟩=k1:=⟨_,rfl⟩
     obtain⟨a1,ha1⟩:∃a1,kq.doA ⟨kd,T,N,b0,⟨us,uk,uu,uo,ua,ub⟩,sd⟩=a1:=⟨_,rfl⟩
     rw[hk1,ha1]at HDO
     rw[hk1]at HK1
     simp only[hk1,ha1]at HDS
     unfold LK at HDS
     simp only at HDS
     clear hk1 ha1 hts hss
     go_wp2_with fail
     refine HDO.out.mono ?_
     rintro e w5 ⟨n5,p5,c5,l5,rfl,hd5,hb5⟩
     obtain⟨W6,hW6,i6,j6,z6,y6,hb6⟩:=SU w5 p5 n5 c5 k1 a1
     have hW6:(w5.alloc (.cells #[.slice none 0 0,.int .i64 0,.int .i64 0,.bool false,.int .i64 0] 31)).alloc (.cells #[.int .i64 0,.string ⟨#[]⟩,.int .i64 0] 40)=W6:=hW6
     have hb56:=gb.seqB hb5 hb6
     have HA6:=zd (HA4.out.on hb56)
     have HD6:=zd (hd5.on hb6)
     have HR6:=zd (HR4.out.on hb56)
     have HO6:=zd (HO4.out.on hb56)
     have HZ6:=zd z6
     have HN6:=zd y6
     have HUA:=zd (show¬Uq (w5.heap.size+1)∧w5.heap.size+1≠qb∧w5.heap.size+1≠go from⟨HA4.out.new (by have:=hb5.size;omega),by have:=HR4.out.lt;have:=hb5.size;omega,by have:=HO4.out.lt;have:=hb5.size;omega⟩)
     have HE6:=zd (HE4.out.on hb56)
     have HDA6:=zd (HDA4.out.on hb56)
     have HRA6:=zd (HRA4.out.on hb56)
     clear HE4 HDA4 HRA4
     clear HDO hb5 hb6 hb56 hd5 z6 y6 HA4 HD4 HR4 HO4 o0 o1 o2 o3 o4 o5 o6 o7 o8 o9 oA i4 k4
     go_upto_region 20 with fail
     generalize(W6.setRow w5.heap.size (kC p5 n5 c5 k1)).setRow (w5.heap.size+1) (ql a1)=w6 at*
     have i6':=HZ6.out.is (K:=5) rfl
     have k6':=HZ6.out.cells
     have q6:=HR6.out.is (K:=5) rfl
     have HA7:=zd (HA6.out.setRow HU.out.1 HU.out.2 (kC p5 n5 c5 k1))
     have HD7:=zd (HD6.out.setRow q6 (by decide) (by decide) (kC p5 n5 c5 k1))
     have HR7:=zd (show XD (w6.setRow qb (kC p5 n5 c5 k1)) qb p5 n5 c5 k1 from q6.row _)
     have HO7:=zd (HO6.out.other HU4.out.2.2 (kC p5 n5 c5 k1))
     have HN7:=zd (HN6.out.other HUA.out.2.1 (kC p5 n5 c5 k1))
     have HE7:=zd (HE6.out.setRow HQN.out.1 HQN.out.2.1 (kC p5 n5 c5 k1))
     have HDA7:=zd (HDA6.out.setRow q6 (by decide) (by decide) (kC p5 n5 c5 k1))
     have HRA7:=zd (HRA6.out.other HQN.out.2.2 (kC p5 n5 c5 k1))
     clear HE6 HDA6 HRA6
     clear hW6 i6 j6 HA6 HD6 HR6 HO6 HZ6 HN6
     go_upto_region 21 with fail
     generalize w6.setRow qb (kC p5 n5 c5 k1)=w7 at*
     clear i6' k6' q6
     generalize w5.heap.size+1=ga at*
     generalize w5.heap.size=gn at*
     obtain⟨n1,t1,e1⟩:=a1
     have HA8:=zd (HA7.out.on (zh w7.heap.size w7).drew)
     have HD8:=zd (HD7.out.on (zh w7.heap.size w7).drew)
     have HR8:=zd (HR7.out.on (zh w7.heap.size w7).drew)
     have HO8:=zd (HO7.out.on (zh w7.heap.size w7).drew)
     have HN8:=zd (HN7.out.on (zh w7.heap.size w7).drew)
     have HE8:=zd (HE7.out.on (zh w7.heap.size w7).drew)
     have HDA8:=zd (HDA7.out.on (zh w7.heap.size w7).drew)
     have HRA8:=zd (HRA7.out.on (zh w7.heap.size w7).drew)
     clear HE7 HDA7 HRA7
     have HDS8:=zd (HDS.out _ HA8.out)
     have HCK:=zd (show∀W',BAt 38 W' go #[.int .i64 kd,.int .i64 T,.int .i64 N,.string b0,.string us,.int .i64 uk,.bool uu,.int .i64 uo,.int .i64 ua,.int .i64 ub,.int .u64 sd]→BAt 40 W' ga (ql ⟨n1,t1,e1⟩)→W'.cell? ⟨go,0,none⟩=some (.int .i64 kd)∧W'.cell? ⟨go,1,none⟩=some (.int .i64 T)∧W'.cell? ⟨go,2,none⟩=some (.int .i64 N)∧W'.cell? ⟨go,3,none⟩=some (.string b0)∧W'.cell? ⟨go,4,none⟩=some (.string us)∧W'.cell? ⟨go,5,none⟩=some (.int .i64 uk)∧W'.cell? ⟨go,6,none⟩=some (.bool uu)∧W'.cell? ⟨go,7,none⟩=some (.int .i64 uo)∧W'.cell? ⟨go,8,none⟩=some (.int .i64 ua)∧W'.cell? ⟨go,9,none⟩=some (.int .i64 ub)∧W'.cell? ⟨go,10,none⟩=some (.int .u64 sd)∧IsO W' ga∧qE W' ga=#[.int .i64 n1,.string t1,.int .i64 e1]fromλ W' h1 h2=>
      ⟨h1.cell 0,h1.cell 1,h1.cell 2,h1.cell 3,h1.cell 4,h1.cell 5,h1.cell 6,h1.cell 7,h1.cell 8,h1.cell 9,h1.cell 10,h2.is rfl,h2.cells⟩)
     have HS8:=zd (HCK.out _ HO8.out HN8.out)
     clear HDS HA7 HD7 HR7 HO7 HN7
     go_region_held (λ W'=>W'.cell? ⟨go,0,none⟩=some (.int .i64 kd)∧W'.cell? ⟨go,1,none⟩=some (.int .i64 T)∧W'.cell? ⟨go,2,none⟩=some (.int .i64 N)∧W'.cell? ⟨go,3,none⟩=some (.string b0)∧W'.cell? ⟨go,4,none⟩=some (.string us)∧W'.cell? ⟨go,5,none⟩=some (.int .i64 uk)∧W'.cell? ⟨go,6,none⟩=some (.bool uu)∧W'.cell? ⟨go,7,none⟩=some (.int .i64 uo)∧W'.cell? ⟨go,8,none⟩=some (.int .i64 ua)∧W'.cell? ⟨go,9,none⟩=some (.int .i64 ub)∧W'.cell? ⟨go,10,none⟩=some (.int .u64 sd)∧IsO W' ga∧qE W' ga=#[.int .i64 n1,.string t1,.int .i64 e1])
      (first
       |with_reducible exact HS8.out
       |with_reducible exact hs9.out)
      (first
       |(go_at_call 10;(with_reducible refine zr HDS8.out ?_);rintro e w9 ⟨rfl,U9,h9,hr9⟩;have ho9:=HO8.out.rest hr9 HU4.out.1;have hn9:=HN8.out.rest hr9 HUA.out.1;have hs9:=zd (HCK.out _ ho9.1 hn9.1)))
     have HAE:=zd h9
     have HDE:=zd (HD8.out.rest HA8.out.1 hr9)
     have HRE:=zd (BAt.rest HR8.out hr9 HU.out.1).1
     have HUE:=zd (show¬U9 qb∧w.heap.size≤qb from⟨(BAt.rest HR8.out hr9 HU.out.1).2,HU.out.2⟩)
     have hoe:=SA hr9 h9.2.2 HE8.out HUU.out
     have HE9:=zd hoe.1
     have HUU9:=zd hoe.2
     have HDA9:=zd (HDA8.out.rest HA8.out.1 hr9)
     have HRA9:=zd (BAt.rest HRA8.out hr9 HUR.out).1
     have HUR9:=zd (BAt.rest HRA8.out hr9 HUR.out).2
     clear hoe HE8 HDA8 HRA8
     clear HS8 HCK hs9 ho9 hn9 h9 hr9 HDS8 HA8 HD8 HR8 HO8 HN8
     go_wp2_with fail
     go_roundw
     case rel=>exact⟨j+1,k1,U9,p5,n5,c5,l5,by omega,by go_num,HAE,HK1,HDE,HRE,HUE,HE9,HDA9,HRA9,HUR9,HUU9⟩
     case measure=>simp[intOf];omega
    ·obtain rfl:m2=j:=by omega
     clear hlt
     have HTE2:=zd (show os2.take m2=os2 by rw[←HX2.out];exact List.take_length)
     rw[HTE2.out]at HA HK
     go_upto_region 24 with fail
     go_wp2_with fail
     refine(XF _).mono ?_
     rintro e w5 ⟨rfl,hb5⟩
     have HA5:=zd (HA.out.on hb5)
     have HE5:=zd (HE.out.on hb5)
     have HD5:=zd (HD.out.on hb5)
     have HR5:=zd (HR.out.on hb5)
     have HDA5:=zd (HDA.out.on hb5)
     have HRA5:=zd (HRA.out.on hb5)
     clear hb5 HA HE HD HR HDA HRA
     have i5:=HRA5.out.is (K:=5) rfl
     have k5:=HRA5.out.cells
     have HS1:=zd (VY HE5.out.1 HDA5.out HKA.out.kok)
     go_wp2_with fail
     refine HS1.out.mono ?_
     rintro e w6 ⟨rfl,hb6⟩
     have HA6:=zd (HA5.out.on hb6)
     have HD6:=zd (HD5.out.on hb6)
     have HR6:=zd (HR5.out.on hb6)
     clear hb6 i5 k5 HS1 HA5 HE5 HD5 HR5 HDA5 HRA5
     have i6:=HR6.out.is (K:=5) rfl
     have k6:=HR6.out.cells
     have HS2:=zd (VY HA6.out.1 HD6.out HK.out.kok)
     go_wp2_with fail
     refine HS2.out.mono ?_
     rintro e w7 ⟨rfl,hb7⟩
     have HB7:=zd (HA6.out.on hb7).2.2
     clear hb7 i6 k6 HS2 HA6 HD6 HR6
     go_wp2_with fail
     go_ret
     exact⟨rfl,HB7.out⟩
end Go.Proofs.YtfdfgnmgpgkknaaGreat.chainCopies
