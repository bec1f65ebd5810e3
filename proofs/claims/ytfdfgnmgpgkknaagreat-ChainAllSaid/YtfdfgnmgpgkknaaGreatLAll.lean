import Derived.Test.YtfdfgnmgpgkknaaGreatMG47
set_option maxRecDepth 100000
set_option maxHeartbeats 16000000
open Go.Proofs.Tryz renaming prog→zf
open Go.Lib renaming hid→zd
open Nat renaming le_trans→zt,le_refl→zg
open Go.RowKit.Below renaming refl→zh
open Go.Calls renaming mono→zr
open Go.Proofs.Tryz
namespace Go.Proofs.YtfdfgnmgpgkknaaGreat.chainAll
open Go.RowKit
attribute [local go_sem ↓] ZY ZD Vi YA
attribute [local go_sem] ZF Zu YF J7 okC okN Yk
theorem SC (room now:Int) (p:Option Addr) (m d:Nat) (os:List COp) (w:World) (hx:os.length=m) (hmd:m≤d) (hd:d≤9223372036854775807) (hz:∀o∈os,o.s.size≤140737488351232∧o.t.s.size≤140737488351232) (hj:Vz w p m os) (hE:Zx qi room≠0):
  Calls zf 3 #[.int .i64 room,.int .i64 now,.slice p m d] w λ e w'=>e=.returned (.bool true)∧Below w.heap.size w w':=by
 have HX:=zd hx
 have HJ:=zd hj
 have HZ:=zd hz
 have HN:=zd (λ W=>T8 (room:=room) (now:=now) hE W)
 have HRN:=zd (λ W=>NH room now W hE)
 rw[T9 hE]at HN
 clear hx hz hj hE
 go_enter func3,ntmps3
 go_wp2_with fail
 refine(QJ p m d os _ HX.out hmd hd HZ.out HJ.out).mono ?_
 rintro e w1 ⟨b,rfl,hf,hb⟩
 have HB1:=zd hb
 have HF:=zd hf
 clear hb hf hmd hd
 cases b with
 |false=>
  clear HF
  go_wp2_with fail
  refine(XF _).mono ?_
  rintro e w5 ⟨rfl,hb5⟩
  have HB5:=zd (HB1.out.trans (hb5.mono HB1.out.size))
  clear hb5
  go_wp2_with fail
  go_ret
  exact⟨rfl,HB5.out⟩
 |true=>
  clear HF
  go_wp2_with fail
  refine(HN.out _).mono ?_
  rintro e w2 ⟨rfl,hb2⟩
  have HB2:=zd (HB1.out.trans (hb2.mono HB1.out.size))
  clear hb2
  go_wp2_with fail
  refine(HRN.out _).mono ?_
  rintro e w3 ⟨rfl,hb3⟩
  obtain⟨W4,hW4,i4,hz4,hb4⟩:=jG w3 none 0 0 KW
  have hW4:w3.alloc (.cells #[.slice none 0 0,.int .i64 0,.int .i64 0,.bool false,.int .i64 0] 31)=W4:=hW4
  have HB4:=zd (HB2.out.trans ((gb.seqB hb3 hb4).mono HB2.out.size))
  clear hb3 hb4 hz4
  go_upto_region 5 with fail
  generalize W4.setRow w3.heap.size (kC none 0 0 KW)=w5 at*
  clear hW4 i4
  go_wp2_with fail
  refine(XF _).mono ?_
  rintro e w6 ⟨rfl,hb6⟩
  have HB6:=zd (HB4.out.trans (hb6.mono HB4.out.size))
  clear hb6
  go_wp2_with fail
  go_ret
  exact⟨rfl,HB6.out⟩
theorem walk (room now:Int) (p:Option Addr) (m d:Nat) (os:List COp) (w:World) (hx:os.length=m) (hmd:m≤d) (hd:d≤9223372036854775807) (hz:∀o∈os,o.s.size≤140737488351232∧o.t.s.size≤140737488351232) (hj:Vz w p m os):
  Calls zf 3 #[.int .i64 room,.int .i64 now,.slice p m d] w λ e w'=>e=.returned (.bool true)∧Below w.heap.size w w':=by
 by_cases hE:Zx qi room≠0
 ·exact SC room now p m d os w hx hmd hd hz hj hE
 have hE0:Zx qi room=0:=by omega
 have HX:=zd hx
 have HJ:=zd hj
 have HZ:=zd hz
 have HN:=zd (λ W=>O9 (now:=now) hE0 W)
 have HRN:=zd (λ W=>Mo room now W hE0)
 have HKI:=zd (Kin.new (now:=now) hE0)
 clear hE hx hz hj hE0
 go_enter func3,ntmps3
 go_wp2_with fail
 refine(QJ p m d os _ HX.out hmd hd HZ.out HJ.out).mono ?_
 rintro e w1 ⟨b,rfl,hf,hb⟩
 have HB1:=zd hb
 have HF:=zd hf
 clear hb hf hmd hd
 cases b with
 |false=>
  clear HF
  go_wp2_with fail
  refine(XF _).mono ?_
  rintro e w5 ⟨rfl,hb5⟩
  have HB5:=zd (HB1.out.trans (hb5.mono HB1.out.size))
  clear hb5
  go_wp2_with fail
  go_ret
  exact⟨rfl,HB5.out⟩
 |true=>
  obtain⟨hm,htt⟩:=HF.out rfl
  have HT:=zd htt
  clear HF htt
  go_wp2_with fail
  refine(HN.out _).mono ?_
  rintro e w2 ⟨g,U,rfl,h1⟩
  have HA2:=zd (show CHd w w2 U g (Ch.Vf room now) 0 from⟨h1.1,λ i hi=>zt HB1.out.size (h1.2.1 i hi),HB1.out.trans (h1.2.2.mono HB1.out.size)⟩)
  clear h1 HN HB1
  go_wp2_with fail
  refine(HRN.out _).mono ?_
  rintro e w3 ⟨p3,c3,l3,rfl,hd3,hb3⟩
  obtain⟨W4,hW4,i4,hz4,hb4⟩:=jG w3 p3 2 c3 (Ch.Vf room now)
  have hW4:w3.alloc (.cells #[.slice none 0 0,.int .i64 0,.int .i64 0,.bool false,.int .i64 0] 31)=W4:=hW4
  have hb34:=gb.seqB hb3 hb4
  have HA5:=zd (HA2.out.on hb34)
  have HD5:=zd (hd3.on hb4)
  have HR5:=zd hz4
  have HU5:=zd (show¬U w3.heap.size∧w.heap.size≤w3.heap.size from⟨HA2.out.new hb3.size,zt HA2.out.2.2.size hb3.size⟩)
  clear hb3 hb4 hb34 hd3 hz4 HA2 HRN
  go_upto_region 5 with fail
  generalize W4.setRow w3.heap.size (kC p3 2 c3 (Ch.Vf room now))=w5 at*
  clear hW4 i4
  generalize w3.heap.size=rb at*
  go_wp2_with fail
  go_loopw [51] (λ i wr=>∃(j:Nat) (k:Ch) (U':Own) (p':Option Addr) (n' c':Nat) (l':List Pc),j≤m∧i=.int .i64 j∧Hid (CHd w wr U' g k (total (os.take j)))∧Hid (Kin k (total (os.take j)))∧Hid (DAt wr p' n' c' k l')∧Hid (XD wr rb p' n' c' k)∧Hid (¬U' rb∧w.heap.size≤rb)) (λ i _=>m -(intOf i).toNat)
  case atStart=>exact⟨0,_,U,p3,2,c3,l3,by omega,rfl,HA5,HKI,HD5,HR5,HU5⟩
  case round=>
   clear HA5 HD5 HR5 HU5 HKI
   obtain⟨j,k,U1,p1,nn,c1,l1,hjm,rfl,HA,HK,HD,HR,HU⟩:=hrel
   by_cases hlt:j<m
   ·obtain⟨b,o,rfl,hcell⟩:=V6 HJ.out HA.out.2.2 (by omega)
    obtain⟨c0',c1',c2',c3',c4',c5',c6',c7',c8',c9',cA'⟩:=hcell j hlt
    have hzk:=HZ.out _ (MP os j (by rw[HX.out];exact hlt))
    have HTK:=zd (J2 os j m HX.out hlt _ rfl)
    have HTL:=zd (zt (Js os (j+1)) HT.out)
    generalize os.getD j Yy=op at*
    have HZK:=zd hzk
    obtain⟨kd,T,N,b0,tx,sd⟩:=op
    obtain⟨us,uk,uu,uo,ua,ub⟩:=tx
    simp only at c0' c1' c2' c3' c4' c5' c6' c7' c8' c9' cA' HTK HZK
    rw[←Nat.add_assoc]at c1' c2' c3' c4' c5' c6' c7' c8' c9' cA'
    have hts:us.size≤maxLen:=by have:=HTK.out;have:=HTL.out;unfold maxLen;omega
    have hss:b0.size≤100000:=by have:=HTK.out;have:=HTL.out;omega
    have hal:Below wr.heap.size wr (wr.alloc (.cells #[.int .i64 kd,.int .i64 T,.int .i64 N,.string b0,.string us,.int .i64 uk,.bool uu,.int .i64 uo,.int .i64 ua,.int .i64 ub,.int .u64 sd] 38)):=(zh _ _).alloc (zg _) _
    have HA4:=zd (HA.out.on hal)
    have HD4:=zd (HD.out.on hal)
    have HR4:=zd (HR.out.on hal)
    have HO4:=zd (Va (T:=38) wr #[.int .i64 kd,.int .i64 T,.int .i64 N,.string b0,.string us,.int .i64 uk,.bool uu,.int .i64 uo,.int .i64 ua,.int .i64 ub,.int .u64 sd])
    have HU4:=zd (show¬U1 wr.heap.size∧w.heap.size≤wr.heap.size∧wr.heap.size≠rb from⟨HA.out.new (zg _),HA.out.2.2.size,by have:=HR.out.lt;omega⟩)
    clear hal HA HD HR hcell hzk
    go_upto_region 12 with fail
    generalize wr.alloc (.cells #[.int .i64 kd,.int .i64 T,.int .i64 N,.string b0,.string us,.int .i64 uk,.bool uu,.int .i64 uo,.int .i64 ua,.int .i64 ub,.int .u64 sd] 38)=w4 at*
    generalize wr.heap.size=go at*
    clear c0' c1' c2' c3' c4' c5' c6' c7' c8' c9' cA'
    have o0:w4.cell? ⟨go,0,none⟩=some (.int .i64 kd):=HO4.out.cell 0
    have o1:w4.cell? ⟨go,1,none⟩=some (.int .i64 T):=HO4.out.cell 1
    have o2:w4.cell? ⟨go,2,none⟩=some (.int .i64 N):=HO4.out.cell 2
    have o3:w4.cell? ⟨go,3,none⟩=some (.string b0):=HO4.out.cell 3
    have o4:w4.cell? ⟨go,4,none⟩=some (.string us):=HO4.out.cell 4
    have o5:w4.cell? ⟨go,5,none⟩=some (.int .i64 uk):=HO4.out.cell 5
    have o6:w4.cell? ⟨go,6,none⟩=some (.bool uu):=HO4.out.cell 6
    have o7:w4.cell? ⟨go,7,none⟩=some (.int .i64 uo):=HO4.out.cell 7
    have o8:w4.cell? ⟨go,8,none⟩=some (.int .i64 ua):=HO4.out.cell 8
    have o9:w4.cell? ⟨go,9,none⟩=some (.int .i64 ub):=HO4.out.cell 9
    have oA:w4.cell? ⟨go,10,none⟩=some (.int .u64 sd):=HO4.out.cell 10
    have i4:=HR4.out.is (K:=5) rfl
    have k4:=HR4.out.cells
    have HDO:=zd (Tb HD4.out HK.out.kok kd T N b0 us uk uu uo ua ub sd hts hss)
    have HK1:=zd (HK.out.do ⟨kd,T,N,b0,⟨us,uk,uu,uo,ua,ub⟩,sd⟩ hts (M':=total (os.take (j+1))) (by show _+b0.size≤_;rw[HTK.out];omega) (by have:=HTL.out;omega))
    have HDS:=zd (λ W (hA:CHd w W U1 g k (total (os.take j)))=>UP (M':=total (os.take (j+1))) hA ⟨kd,T,N,b0,⟨us,uk,uu,uo,ua,ub⟩,sd⟩ hts (by rw[HTK.out];exact zg _) (by have:=HTL.out;omega))
    obtain⟨k1,hk1⟩:∃k1,k.doN ⟨kd,T,N,b0,⟨us,uk,uu,uo,ua,ub⟩,sd⟩=k1:=⟨_,rfl⟩
    obtain⟨a1,ha1⟩:∃a1,k.doA ⟨kd,T,N,b0,⟨us,uk,uu,uo,ua,ub⟩,sd⟩=a1:=⟨_,rfl⟩
    rw[hk1,ha1]at HDO
    rw[hk1]at HK1
    simp only[hk1,ha1]at HDS
    unfold LK at HDS
    simp only at HDS
    clear hk1 ha1 hts hss
    go_wp2_with fail
    refine HDO.out.mono ?_
    rintro e w5 ⟨n5,p5,c5,l5,rfl,hd5,hb5⟩
    obtain⟨W6,hW6,i6,j6,z6,y6,hb6⟩:=SU w5 p5 n5 c5 k1 a1
    have hW6:(w5.alloc (.cells #[.slice none 0 0,.int .i64 0,.int .i64 0,.bool false,.int .i64 0] 31)).alloc (.cells #[.int .i64 0,.string ⟨#[]⟩,.int .i64 0] 40)=W6:=hW6
    have hb56:=gb.seqB hb5 hb6
    have HA6:=zd (HA4.out.on hb56)
    have HD6:=zd (hd5.on hb6)
    have HR6:=zd (HR4.out.on hb56)
    have HO6:=zd (HO4.out.on hb56)
    have HZ6:=zd z6
    have HN6:=zd y6
    have HUA:=zd (show¬U1 (w5.heap.size+1)∧w5.heap.size+1≠rb∧w5.heap.size+1≠go from⟨HA4.out.new (by have:=hb5.size;omega),by have:=HR4.out.lt;have:=hb5.size;omega,by have:=HO4.out.lt;have:=hb5.size;omega⟩)
    clear HDO hb5 hb6 hb56 hd5 z6 y6 HA4 HD4 HR4 HO4 o0 o1 o2 o3 o4 o5 o6 o7 o8 o9 oA i4 k4
    go_upto_region 13 with fail
    generalize(W6.setRow w5.heap.size (kC p5 n5 c5 k1)).setRow (w5.heap.size+1) (ql a1)=w6 at*
    have i6':=HZ6.out.is (K:=5) rfl
    have k6':=HZ6.out.cells
    have q6:=HR6.out.is (K:=5) rfl
    have HA7:=zd (HA6.out.setRow HU.out.1 HU.out.2 (kC p5 n5 c5 k1))
    have HD7:=zd (HD6.out.setRow q6 (by decide) (by decide) (kC p5 n5 c5 k1))
    have HR7:=zd (show XD (w6.setRow rb (kC p5 n5 c5 k1)) rb p5 n5 c5 k1 from q6.row _)
    have HO7:=zd (HO6.out.other HU4.out.2.2 (kC p5 n5 c5 k1))
    have HN7:=zd (HN6.out.other HUA.out.2.1 (kC p5 n5 c5 k1))
    clear hW6 i6 j6 HA6 HD6 HR6 HO6 HZ6 HN6
    go_upto_region 14 with fail
    generalize w6.setRow rb (kC p5 n5 c5 k1)=w7 at*
    clear i6' k6' q6
    generalize w5.heap.size+1=ga at*
    generalize w5.heap.size=gn at*
    obtain⟨n1,t1,e1⟩:=a1
    have HA8:=zd (HA7.out.on (zh w7.heap.size w7).drew)
    have HD8:=zd (HD7.out.on (zh w7.heap.size w7).drew)
    have HR8:=zd (HR7.out.on (zh w7.heap.size w7).drew)
    have HO8:=zd (HO7.out.on (zh w7.heap.size w7).drew)
    have HN8:=zd (HN7.out.on (zh w7.heap.size w7).drew)
    have HDS8:=zd (HDS.out _ HA8.out)
    have HST:=zd (λ (W:World) (U:Own) (h1:X5 W U g k1 (total (os.take (j+1)))) (h2:DAt W p5 n5 c5 k1 l5)=>VY h1 h2 HK1.out.kok)
    have HCK:=zd (show∀W',BAt 38 W' go #[.int .i64 kd,.int .i64 T,.int .i64 N,.string b0,.string us,.int .i64 uk,.bool uu,.int .i64 uo,.int .i64 ua,.int .i64 ub,.int .u64 sd]→BAt 40 W' ga (ql ⟨n1,t1,e1⟩)→XD W' rb p5 n5 c5 k1→W'.cell? ⟨go,0,none⟩=some (.int .i64 kd)∧W'.cell? ⟨go,1,none⟩=some (.int .i64 T)∧W'.cell? ⟨go,2,none⟩=some (.int .i64 N)∧W'.cell? ⟨go,3,none⟩=some (.string b0)∧W'.cell? ⟨go,4,none⟩=some (.string us)∧W'.cell? ⟨go,5,none⟩=some (.int .i64 uk)∧W'.cell? ⟨go,6,none⟩=some (.bool uu)∧W'.cell? ⟨go,7,none⟩=some (.int .i64 uo)∧W'.cell? ⟨go,8,none⟩=some (.int .i64 ua)∧W'.cell? ⟨go,9,none⟩=some (.int .i64 ub)∧W'.cell? ⟨go,10,none⟩=some (.int .u64 sd)∧IsO W' ga∧qE W' ga=#[.int .i64 n1,.string t1,.int .i64 e1]∧IsC W' rb∧qE W' rb=kC p5 n5 c5 k1 fromλ W' h1 h2 h3=>
     ⟨h1.cell 0,h1.cell 1,h1.cell 2,h1.cell 3,h1.cell 4,h1.cell 5,h1.cell 6,h1.cell 7,h1.cell 8,h1.cell 9,h1.cell 10,h2.is rfl,h2.cells,h3.is rfl,h3.cells⟩)
    have HS8:=zd (HCK.out _ HO8.out HN8.out HR8.out)
    clear HDS HA7 HD7 HR7 HO7 HN7
    go_region_held (λ W'=>W'.cell? ⟨go,0,none⟩=some (.int .i64 kd)∧W'.cell? ⟨go,1,none⟩=some (.int .i64 T)∧W'.cell? ⟨go,2,none⟩=some (.int .i64 N)∧W'.cell? ⟨go,3,none⟩=some (.string b0)∧W'.cell? ⟨go,4,none⟩=some (.string us)∧W'.cell? ⟨go,5,none⟩=some (.int .i64 uk)∧W'.cell? ⟨go,6,none⟩=some (.bool uu)∧W'.cell? ⟨go,7,none⟩=some (.int .i64 uo)∧W'.cell? ⟨go,8,none⟩=some (.int .i64 ua)∧W'.cell? ⟨go,9,none⟩=some (.int .i64 ub)∧W'.cell? ⟨go,10,none⟩=some (.int .u64 sd)∧IsO W' ga∧qE W' ga=#[.int .i64 n1,.string t1,.int .i64 e1]∧IsC W' rb∧qE W' rb=kC p5 n5 c5 k1)
     (first
      |with_reducible exact HS8.out
      |with_reducible exact hs9.out
      |with_reducible exact hsA.out)
     (first
      |(go_at_call 10;(with_reducible refine zr HDS8.out ?_);rintro e w9 ⟨rfl,U9,h9,hr9⟩;have ho9:=HO8.out.rest hr9 HU4.out.1;have hn9:=HN8.out.rest hr9 HUA.out.1;have hc9:=BAt.rest HR8.out hr9 HU.out.1;have hd9:=HD8.out.rest HA8.out.1 hr9;have hs9:=zd (HCK.out _ ho9.1 hn9.1 hc9.1);have h91:X5 w9 U9 g k1 (total (os.take (j+1))):=h9.1)
      |(go_at_call 11;(with_reducible refine zr (HST.out _ _ h91 hd9) ?_);rintro e wA ⟨rfl,hbA⟩;have hsA:=zd (HCK.out _ (ho9.1.on hbA) (hn9.1.on hbA) (BAt.on hc9.1 hbA))))
    have HAE:=zd (h9.on hbA)
    have HDE:=zd (hd9.on hbA)
    have HRE:=zd (BAt.on hc9.1 hbA)
    have HUE:=zd (show¬U9 rb∧w.heap.size≤rb from⟨hc9.2,HU.out.2⟩)
    clear h91 HS8 HCK hs9 hsA ho9 hn9 hc9 hd9 h9 hr9 hbA HDS8 HST HA8 HD8 HR8 HO8 HN8
    go_wp2_with fail
    go_roundw
    case rel=>exact⟨j+1,k1,U9,p5,n5,c5,l5,by omega,by go_num,HAE,HK1,HDE,HRE,HUE⟩
    case measure=>simp[intOf];omega
   ·obtain rfl:m=j:=by omega
    clear hlt
    go_wp2_with fail
    refine(XF _).mono ?_
    rintro e w5 ⟨rfl,hb5⟩
    have HB5:=zd (HA.out.on hb5).2.2
    clear hb5 HA
    go_wp2_with fail
    go_ret
    exact⟨rfl,HB5.out⟩
end Go.Proofs.YtfdfgnmgpgkknaaGreat.chainAll
