import Derived.Test.YtdighjgcnaajgaaGreatMS4
namespace Go.Proofs.YtdighjgcnaajgaaGreat.gd
open Go.RowKit
def sumTo (x0 x1 x2 x3 y0 y1 y2 y3:Int):Nat→Int
 |0=>0
 |1=>x0*y0*1
 |2=>x0*y0*1+x0*y1*65536
 |3=>x0*y0*1+x0*y1*65536+x0*y2*4294967296
 |4=>x0*y0*1+x0*y1*65536+x0*y2*4294967296+x0*y3*281474976710656
 |5=>x0*y0*1+x0*y1*65536+x0*y2*4294967296+x0*y3*281474976710656+x1*y0*65536
 |6=>x0*y0*1+x0*y1*65536+x0*y2*4294967296+x0*y3*281474976710656+x1*y0*65536+x1*y1*4294967296
 |7=>x0*y0*1+x0*y1*65536+x0*y2*4294967296+x0*y3*281474976710656+x1*y0*65536+x1*y1*4294967296+x1*y2*281474976710656
 |8=>x0*y0*1+x0*y1*65536+x0*y2*4294967296+x0*y3*281474976710656+x1*y0*65536+x1*y1*4294967296+x1*y2*281474976710656+x1*y3*18446744073709551616
 |9=>x0*y0*1+x0*y1*65536+x0*y2*4294967296+x0*y3*281474976710656+x1*y0*65536+x1*y1*4294967296+x1*y2*281474976710656+x1*y3*18446744073709551616+x2*y0*4294967296
 |10=>x0*y0*1+x0*y1*65536+x0*y2*4294967296+x0*y3*281474976710656+x1*y0*65536+x1*y1*4294967296+x1*y2*281474976710656+x1*y3*18446744073709551616+x2*y0*4294967296+x2*y1*281474976710656
 |11=>x0*y0*1+x0*y1*65536+x0*y2*4294967296+x0*y3*281474976710656+x1*y0*65536+x1*y1*4294967296+x1*y2*281474976710656+x1*y3*18446744073709551616+x2*y0*4294967296+x2*y1*281474976710656+x2*y2*18446744073709551616
 |12=>x0*y0*1+x0*y1*65536+x0*y2*4294967296+x0*y3*281474976710656+x1*y0*65536+x1*y1*4294967296+x1*y2*281474976710656+x1*y3*18446744073709551616+x2*y0*4294967296+x2*y1*281474976710656+x2*y2*18446744073709551616+x2*y3*1208925819614629174706176
 |13=>x0*y0*1+x0*y1*65536+x0*y2*4294967296+x0*y3*281474976710656+x1*y0*65536+x1*y1*4294967296+x1*y2*281474976710656+x1*y3*18446744073709551616+x2*y0*4294967296+x2*y1*281474976710656+x2*y2*18446744073709551616+x2*y3*1208925819614629174706176+x3*y0*281474976710656
 |14=>x0*y0*1+x0*y1*65536+x0*y2*4294967296+x0*y3*281474976710656+x1*y0*65536+x1*y1*4294967296+x1*y2*281474976710656+x1*y3*18446744073709551616+x2*y0*4294967296+x2*y1*281474976710656+x2*y2*18446744073709551616+x2*y3*1208925819614629174706176+x3*y0*281474976710656+x3*y1*18446744073709551616
 |15=>x0*y0*1+x0*y1*65536+x0*y2*4294967296+x0*y3*281474976710656+x1*y0*65536+x1*y1*4294967296+x1*y2*281474976710656+x1*y3*18446744073709551616+x2*y0*4294967296+x2*y1*281474976710656+x2*y2*18446744073709551616+x2*y3*1208925819614629174706176+x3*y0*281474976710656+x3*y1*18446744073709551616+x3*y2*1208925819614629174706176
 |_=>x0*y0*1+x0*y1*65536+x0*y2*4294967296+x0*y3*281474976710656+x1*y0*65536+x1*y1*4294967296+x1*y2*281474976710656+x1*y3*18446744073709551616+x2*y0*4294967296+x2*y1*281474976710656+x2*y2*18446744073709551616+x2*y3*1208925819614629174706176+x3*y0*281474976710656+x3*y1*18446744073709551616+x3*y2*1208925819614629174706176+x3*y3*79228162514264337593543950336
def val8 (d0 d1 d2 d3 d4 d5 d6 d7:Int):Int:=d0*1+d1*65536+d2*4294967296+d3*281474976710656+d4*18446744073709551616+d5*1208925819614629174706176+d6*79228162514264337593543950336+d7*5192296858534827628530496329220096
theorem prod_range (x y:Int) (hx:0≤x∧x<65536) (hy:0≤y∧y<65536):0≤x*y∧x*y≤4294836225:=
 ⟨Int.mul_nonneg hx.1 hy.1,by have:=Int.mul_le_mul (show x≤65535 by omega) (show y≤65535 by omega) hy.1 (by omega);omega⟩
theorem of_dig (n x0 x1 x2 x3:Int) (h0:0≤n) (h1:n<18446744073709551616) (h:Hid (n%65536=x0∧n/65536%65536=x1∧n/4294967296%65536=x2∧n/281474976710656=x3)) (w:World):
  Calls Tryz.prog 178 #[.int .u64 n] w λ e w'=>e=.returned (.agg #[.int .u64 x0,.int .u64 x1,.int .u64 x2,.int .u64 x3])∧w'=w.alloc (.cells #[.int .u64 x0,.int .u64 x1,.int .u64 x2,.int .u64 x3] 242):=by
 obtain⟨rfl,rfl,rfl,rfl⟩:=h.out
 exact of_any n h0 h1 w
theorem digits (n:Int) (h0:0≤n) (h1:n<18446744073709551616):∃x0 x1 x2 x3:Int,Hid (n%65536=x0∧n/65536%65536=x1∧n/4294967296%65536=x2∧n/281474976710656=x3)∧
  (0≤x0∧x0<65536)∧(0≤x1∧x1<65536)∧(0≤x2∧x2<65536)∧(0≤x3∧x3<65536)∧Hid (n=x0+x1*65536+x2*4294967296+x3*281474976710656):=
 ⟨_,_,_,_,Lib.hid ⟨rfl,rfl,rfl,rfl⟩,by omega,by omega,by omega,by omega,Lib.hid (by omega)⟩
def wT (w:World) (x0 x1 x2 x3 y0 y1 y2 y3 d0 d1 d2 d3 d4 d5 d6 d7:Int):World:=
 ((((w.alloc (.cells #[.int .u64 x0,.int .u64 x1,.int .u64 x2,.int .u64 x3] 242)).alloc (.cells #[.int .u64 x0,.int .u64 x1,.int .u64 x2,.int .u64 x3] 242)).alloc (.cells #[.int .u64 y0,.int .u64 y1,.int .u64 y2,.int .u64 y3] 242)).alloc (.cells #[.int .u64 y0,.int .u64 y1,.int .u64 y2,.int .u64 y3] 242)).alloc (.cells #[.int .u64 d0,.int .u64 d1,.int .u64 d2,.int .u64 d3,.int .u64 d4,.int .u64 d5,.int .u64 d6,.int .u64 d7,.int .u64 0] 244)
def TimesPost (a b:Int) (w:World) (e:Ending) (w':World):Prop:=e=.returned (.tuple #[.int .u64 (a*b%18446744073709551616),.int .u64 (a*b/18446744073709551616)])∧Below w.heap.size w w'
set_option maxHeartbeats 2000000 in
theorem prod_end (a b x0 x1 x2 x3 y0 y1 y2 y3 d0 d1 d2 d3 d4 d5 d6 d7:Int) (HA:Hid (a=x0+x1*65536+x2*4294967296+x3*281474976710656)) (HB:Hid (b=y0+y1*65536+y2*4294967296+y3*281474976710656))
  (HV:Hid (val8 d0 d1 d2 d3 d4 d5 d6 d7=sumTo x0 x1 x2 x3 y0 y1 y2 y3 16)) (r0:0≤d0∧d0<65536) (r1:0≤d1∧d1<65536) (r2:0≤d2∧d2<65536) (r3:0≤d3∧d3<65536):
  d0+d1*65536+d2*4294967296+d3*281474976710656=a*b%18446744073709551616∧d4+d5*65536+d6*4294967296+d7*281474976710656=a*b/18446744073709551616:=by
 have h:a*b=val8 d0 d1 d2 d3 d4 d5 d6 d7:=by
  rw[HV.out,HA.out,HB.out]
  show _=x0*y0*1+x0*y1*65536+x0*y2*4294967296+x0*y3*281474976710656+x1*y0*65536+x1*y1*4294967296+x1*y2*281474976710656+x1*y3*18446744073709551616+x2*y0*4294967296+x2*y1*281474976710656+x2*y2*18446744073709551616+x2*y3*1208925819614629174706176+x3*y0*281474976710656+x3*y1*18446744073709551616+x3*y2*1208925819614629174706176+x3*y3*79228162514264337593543950336
  clear HV HA HB r0 r1 r2 r3
  grind
 clear HV HA HB
 rw[h]
 unfold val8
 omega
theorem hv00 (x0 x1 x2 x3 y0 y1 y2 y3 d0 d1 d2 d3 d4 d5 d6 d7 ov:Int) (HV:Hid (val8 d0 d1 d2 d3 d4 d5 d6 d7+ov*[1,65536,4294967296,281474976710656,18446744073709551616].getD 0 0=sumTo x0 x1 x2 x3 y0 y1 y2 y3 (0+0))):
  Hid (val8 ((d0+x0*y0+ov)%65536) d1 d2 d3 d4 d5 d6 d7+(d0+x0*y0+ov)/65536*[1,65536,4294967296,281474976710656,18446744073709551616].getD 1 0=sumTo x0 x1 x2 x3 y0 y1 y2 y3 (0+1)):=by
 have h:val8 d0 d1 d2 d3 d4 d5 d6 d7+ov*1=0:=HV.out
 refine Lib.hid ?_
 show val8 ((d0+x0*y0+ov)%65536) d1 d2 d3 d4 d5 d6 d7+(d0+x0*y0+ov)/65536*65536=x0*y0*1
 unfold val8 at h⊢
 clear HV
 omega
theorem hv01 (x0 x1 x2 x3 y0 y1 y2 y3 d0 d1 d2 d3 d4 d5 d6 d7 ov:Int) (HV:Hid (val8 d0 d1 d2 d3 d4 d5 d6 d7+ov*[1,65536,4294967296,281474976710656,18446744073709551616].getD 1 0=sumTo x0 x1 x2 x3 y0 y1 y2 y3 (0+1))):
  Hid (val8 d0 ((d1+x0*y1+ov)%65536) d2 d3 d4 d5 d6 d7+(d1+x0*y1+ov)/65536*[1,65536,4294967296,281474976710656,18446744073709551616].getD 2 0=sumTo x0 x1 x2 x3 y0 y1 y2 y3 (0+2)):=by
 have h:val8 d0 d1 d2 d3 d4 d5 d6 d7+ov*65536=x0*y0*1:=HV.out
 refine Lib.hid ?_
 show val8 d0 ((d1+x0*y1+ov)%65536) d2 d3 d4 d5 d6 d7+(d1+x0*y1+ov)/65536*4294967296=x0*y0*1+x0*y1*65536
 unfold val8 at h⊢
 clear HV
 omega
theorem hv02 (x0 x1 x2 x3 y0 y1 y2 y3 d0 d1 d2 d3 d4 d5 d6 d7 ov:Int) (HV:Hid (val8 d0 d1 d2 d3 d4 d5 d6 d7+ov*[1,65536,4294967296,281474976710656,18446744073709551616].getD 2 0=sumTo x0 x1 x2 x3 y0 y1 y2 y3 (0+2))):
  Hid (val8 d0 d1 ((d2+x0*y2+ov)%65536) d3 d4 d5 d6 d7+(d2+x0*y2+ov)/65536*[1,65536,4294967296,281474976710656,18446744073709551616].getD 3 0=sumTo x0 x1 x2 x3 y0 y1 y2 y3 (0+3)):=by
 have h:val8 d0 d1 d2 d3 d4 d5 d6 d7+ov*4294967296=x0*y0*1+x0*y1*65536:=HV.out
 refine Lib.hid ?_
 show val8 d0 d1 ((d2+x0*y2+ov)%65536) d3 d4 d5 d6 d7+(d2+x0*y2+ov)/65536*281474976710656=x0*y0*1+x0*y1*65536+x0*y2*4294967296
 unfold val8 at h⊢
 clear HV
 omega
theorem hv03 (x0 x1 x2 x3 y0 y1 y2 y3 d0 d1 d2 d3 d4 d5 d6 d7 ov:Int) (HV:Hid (val8 d0 d1 d2 d3 d4 d5 d6 d7+ov*[1,65536,4294967296,281474976710656,18446744073709551616].getD 3 0=sumTo x0 x1 x2 x3 y0 y1 y2 y3 (0+3))):
  Hid (val8 d0 d1 d2 ((d3+x0*y3+ov)%65536) d4 d5 d6 d7+(d3+x0*y3+ov)/65536*[1,65536,4294967296,281474976710656,18446744073709551616].getD 4 0=sumTo x0 x1 x2 x3 y0 y1 y2 y3 (0+4)):=by
 have h:val8 d0 d1 d2 d3 d4 d5 d6 d7+ov*281474976710656=x0*y0*1+x0*y1*65536+x0*y2*4294967296:=HV.out
 refine Lib.hid ?_
 show val8 d0 d1 d2 ((d3+x0*y3+ov)%65536) d4 d5 d6 d7+(d3+x0*y3+ov)/65536*18446744073709551616=x0*y0*1+x0*y1*65536+x0*y2*4294967296+x0*y3*281474976710656
 unfold val8 at h⊢
 clear HV
 omega
theorem hv04 (x0 x1 x2 x3 y0 y1 y2 y3 d0 d1 d2 d3 d4 d5 d6 d7 ov:Int) (HV:Hid (val8 d0 d1 d2 d3 d4 d5 d6 d7+ov*[1,65536,4294967296,281474976710656,18446744073709551616].getD 4 0=sumTo x0 x1 x2 x3 y0 y1 y2 y3 (0+4))):
  Hid (val8 d0 d1 d2 d3 (d4+ov) d5 d6 d7=sumTo x0 x1 x2 x3 y0 y1 y2 y3 (4*1)):=by
 have h:val8 d0 d1 d2 d3 d4 d5 d6 d7+ov*18446744073709551616=x0*y0*1+x0*y1*65536+x0*y2*4294967296+x0*y3*281474976710656:=HV.out
 refine Lib.hid ?_
 show val8 d0 d1 d2 d3 (d4+ov) d5 d6 d7=x0*y0*1+x0*y1*65536+x0*y2*4294967296+x0*y3*281474976710656
 unfold val8 at h⊢
 clear HV
 omega
theorem hv10 (x0 x1 x2 x3 y0 y1 y2 y3 d0 d1 d2 d3 d4 d5 d6 d7 ov:Int) (HV:Hid (val8 d0 d1 d2 d3 d4 d5 d6 d7+ov*[65536,4294967296,281474976710656,18446744073709551616,1208925819614629174706176].getD 0 0=sumTo x0 x1 x2 x3 y0 y1 y2 y3 (4+0))):
  Hid (val8 d0 ((d1+x1*y0+ov)%65536) d2 d3 d4 d5 d6 d7+(d1+x1*y0+ov)/65536*[65536,4294967296,281474976710656,18446744073709551616,1208925819614629174706176].getD 1 0=sumTo x0 x1 x2 x3 y0 y1 y2 y3 (4+1)):=by
 have h:val8 d0 d1 d2 d3 d4 d5 d6 d7+ov*65536=x0*y0*1+x0*y1*65536+x0*y2*4294967296+x0*y3*281474976710656:=HV.out
 refine Lib.hid ?_
 show val8 d0 ((d1+x1*y0+ov)%65536) d2 d3 d4 d5 d6 d7+(d1+x1*y0+ov)/65536*4294967296=x0*y0*1+x0*y1*65536+x0*y2*4294967296+x0*y3*281474976710656+x1*y0*65536
 unfold val8 at h⊢
 clear HV
 omega
theorem hv11 (x0 x1 x2 x3 y0 y1 y2 y3 d0 d1 d2 d3 d4 d5 d6 d7 ov:Int) (HV:Hid (val8 d0 d1 d2 d3 d4 d5 d6 d7+ov*[65536,4294967296,281474976710656,18446744073709551616,1208925819614629174706176].getD 1 0=sumTo x0 x1 x2 x3 y0 y1 y2 y3 (4+1))):
  Hid (val8 d0 d1 ((d2+x1*y1+ov)%65536) d3 d4 d5 d6 d7+(d2+x1*y1+ov)/65536*[65536,4294967296,281474976710656,18446744073709551616,1208925819614629174706176].getD 2 0=sumTo x0 x1 x2 x3 y0 y1 y2 y3 (4+2)):=by
 have h:val8 d0 d1 d2 d3 d4 d5 d6 d7+ov*4294967296=x0*y0*1+x0*y1*65536+x0*y2*4294967296+x0*y3*281474976710656+x1*y0*65536:=HV.out
 refine Lib.hid ?_
 show val8 d0 d1 ((d2+x1*y1+ov)%65536) d3 d4 d5 d6 d7+(d2+x1*y1+ov)/65536*281474976710656=x0*y0*1+x0*y1*65536+x0*y2*4294967296+x0*y3*281474976710656+x1*y0*65536+x1*y1*4294967296
 unfold val8 at h⊢
 clear HV
 omega
theorem hv12 (x0 x1 x2 x3 y0 y1 y2 y3 d0 d1 d2 d3 d4 d5 d6 d7 ov:Int) (HV:Hid (val8 d0 d1 d2 d3 d4 d5 d6 d7+ov*[65536,4294967296,281474976710656,18446744073709551616,1208925819614629174706176].getD 2 0=sumTo x0 x1 x2 x3 y0 y1 y2 y3 (4+2))):
  Hid (val8 d0 d1 d2 ((d3+x1*y2+ov)%65536) d4 d5 d6 d7+(d3+x1*y2+ov)/65536*[65536,4294967296,281474976710656,18446744073709551616,1208925819614629174706176].getD 3 0=sumTo x0 x1 x2 x3 y0 y1 y2 y3 (4+3)):=by
 have h:val8 d0 d1 d2 d3 d4 d5 d6 d7+ov*281474976710656=x0*y0*1+x0*y1*65536+x0*y2*4294967296+x0*y3*281474976710656+x1*y0*65536+x1*y1*4294967296:=HV.out
 refine Lib.hid ?_
 show val8 d0 d1 d2 ((d3+x1*y2+ov)%65536) d4 d5 d6 d7+(d3+x1*y2+ov)/65536*18446744073709551616=x0*y0*1+x0*y1*65536+x0*y2*4294967296+x0*y3*281474976710656+x1*y0*65536+x1*y1*4294967296+x1*y2*281474976710656
 unfold val8 at h⊢
 clear HV
 omega
theorem hv13 (x0 x1 x2 x3 y0 y1 y2 y3 d0 d1 d2 d3 d4 d5 d6 d7 ov:Int) (HV:Hid (val8 d0 d1 d2 d3 d4 d5 d6 d7+ov*[65536,4294967296,281474976710656,18446744073709551616,1208925819614629174706176].getD 3 0=sumTo x0 x1 x2 x3 y0 y1 y2 y3 (4+3))):
  Hid (val8 d0 d1 d2 d3 ((d4+x1*y3+ov)%65536) d5 d6 d7+(d4+x1*y3+ov)/65536*[65536,4294967296,281474976710656,18446744073709551616,1208925819614629174706176].getD 4 0=sumTo x0 x1 x2 x3 y0 y1 y2 y3 (4+4)):=by
 have h:val8 d0 d1 d2 d3 d4 d5 d6 d7+ov*18446744073709551616=x0*y0*1+x0*y1*65536+x0*y2*4294967296+x0*y3*281474976710656+x1*y0*65536+x1*y1*4294967296+x1*y2*281474976710656:=HV.out
 refine Lib.hid ?_
 show val8 d0 d1 d2 d3 ((d4+x1*y3+ov)%65536) d5 d6 d7+(d4+x1*y3+ov)/65536*1208925819614629174706176=x0*y0*1+x0*y1*65536+x0*y2*4294967296+x0*y3*281474976710656+x1*y0*65536+x1*y1*4294967296+x1*y2*281474976710656+x1*y3*18446744073709551616
 unfold val8 at h⊢
 clear HV
 omega
theorem hv14 (x0 x1 x2 x3 y0 y1 y2 y3 d0 d1 d2 d3 d4 d5 d6 d7 ov:Int) (HV:Hid (val8 d0 d1 d2 d3 d4 d5 d6 d7+ov*[65536,4294967296,281474976710656,18446744073709551616,1208925819614629174706176].getD 4 0=sumTo x0 x1 x2 x3 y0 y1 y2 y3 (4+4))):
  Hid (val8 d0 d1 d2 d3 d4 (d5+ov) d6 d7=sumTo x0 x1 x2 x3 y0 y1 y2 y3 (4*2)):=by
 have h:val8 d0 d1 d2 d3 d4 d5 d6 d7+ov*1208925819614629174706176=x0*y0*1+x0*y1*65536+x0*y2*4294967296+x0*y3*281474976710656+x1*y0*65536+x1*y1*4294967296+x1*y2*281474976710656+x1*y3*18446744073709551616:=HV.out
 refine Lib.hid ?_
 show val8 d0 d1 d2 d3 d4 (d5+ov) d6 d7=x0*y0*1+x0*y1*65536+x0*y2*4294967296+x0*y3*281474976710656+x1*y0*65536+x1*y1*4294967296+x1*y2*281474976710656+x1*y3*18446744073709551616
 unfold val8 at h⊢
 clear HV
 omega
theorem hv20 (x0 x1 x2 x3 y0 y1 y2 y3 d0 d1 d2 d3 d4 d5 d6 d7 ov:Int) (HV:Hid (val8 d0 d1 d2 d3 d4 d5 d6 d7+ov*[4294967296,281474976710656,18446744073709551616,1208925819614629174706176,79228162514264337593543950336].getD 0 0=sumTo x0 x1 x2 x3 y0 y1 y2 y3 (8+0))):
  Hid (val8 d0 d1 ((d2+x2*y0+ov)%65536) d3 d4 d5 d6 d7+(d2+x2*y0+ov)/65536*[4294967296,281474976710656,18446744073709551616,1208925819614629174706176,79228162514264337593543950336].getD 1 0=sumTo x0 x1 x2 x3 y0 y1 y2 y3 (8+1)):=by
 have h:val8 d0 d1 d2 d3 d4 d5 d6 d7+ov*4294967296=x0*y0*1+x0*y1*65536+x0*y2*4294967296+x0*y3*281474976710656+x1*y0*65536+x1*y1*4294967296+x1*y2*281474976710656+x1*y3*18446744073709551616:=HV.out
 refine Lib.hid ?_
 show val8 d0 d1 ((d2+x2*y0+ov)%65536) d3 d4 d5 d6 d7+(d2+x2*y0+ov)/65536*281474976710656=x0*y0*1+x0*y1*65536+x0*y2*4294967296+x0*y3*281474976710656+x1*y0*65536+x1*y1*4294967296+x1*y2*281474976710656+x1*y3*18446744073709551616+x2*y0*4294967296
 unfold val8 at h⊢
 clear HV
 omega
theorem hv21 (x0 x1 x2 x3 y0 y1 y2 y3 d0 d1 d2 d3 d4 d5 d6 d7 ov:Int) (HV:Hid (val8 d0 d1 d2 d3 d4 d5 d6 d7+ov*[4294967296,281474976710656,18446744073709551616,1208925819614629174706176,79228162514264337593543950336].getD 1 0=sumTo x0 x1 x2 x3 y0 y1 y2 y3 (8+1))):
  Hid (val8 d0 d1 d2 ((d3+x2*y1+ov)%65536) d4 d5 d6 d7+(d3+x2*y1+ov)/65536*[4294967296,281474976710656,18446744073709551616,1208925819614629174706176,79228162514264337593543950336].getD 2 0=sumTo x0 x1 x2 x3 y0 y1 y2 y3 (8+2)):=by
 have h:val8 d0 d1 d2 d3 d4 d5 d6 d7+ov*281474976710656=x0*y0*1+x0*y1*65536+x0*y2*4294967296+x0*y3*281474976710656+x1*y0*65536+x1*y1*4294967296+x1*y2*281474976710656+x1*y3*18446744073709551616+x2*y0*4294967296:=HV.out
 refine Lib.hid ?_
 show val8 d0 d1 d2 ((d3+x2*y1+ov)%65536) d4 d5 d6 d7+(d3+x2*y1+ov)/65536*18446744073709551616=x0*y0*1+x0*y1*65536+x0*y2*4294967296+x0*y3*281474976710656+x1*y0*65536+x1*y1*4294967296+x1*y2*281474976710656+x1*y3*18446744073709551616+x2*y0*4294967296+x2*y1*281474976710656
 unfold val8 at h⊢
 clear HV
 omega
theorem hv22 (x0 x1 x2 x3 y0 y1 y2 y3 d0 d1 d2 d3 d4 d5 d6 d7 ov:Int) (HV:Hid (val8 d0 d1 d2 d3 d4 d5 d6 d7+ov*[4294967296,281474976710656,18446744073709551616,1208925819614629174706176,79228162514264337593543950336].getD 2 0=sumTo x0 x1 x2 x3 y0 y1 y2 y3 (8+2))):
  Hid (val8 d0 d1 d2 d3 ((d4+x2*y2+ov)%65536) d5 d6 d7+(d4+x2*y2+ov)/65536*[4294967296,281474976710656,18446744073709551616,1208925819614629174706176,79228162514264337593543950336].getD 3 0=sumTo x0 x1 x2 x3 y0 y1 y2 y3 (8+3)):=by
 have h:val8 d0 d1 d2 d3 d4 d5 d6 d7+ov*18446744073709551616=x0*y0*1+x0*y1*65536+x0*y2*4294967296+x0*y3*281474976710656+x1*y0*65536+x1*y1*4294967296+x1*y2*281474976710656+x1*y3*18446744073709551616+x2*y0*4294967296+x2*y1*281474976710656:=HV.out
 refine Lib.hid ?_
 show val8 d0 d1 d2 d3 ((d4+x2*y2+ov)%65536) d5 d6 d7+(d4+x2*y2+ov)/65536*1208925819614629174706176=x0*y0*1+x0*y1*65536+x0*y2*4294967296+x0*y3*281474976710656+x1*y0*65536+x1*y1*4294967296+x1*y2*281474976710656+x1*y3*18446744073709551616+x2*y0*4294967296+x2*y1*281474976710656+x2*y2*18446744073709551616
 unfold val8 at h⊢
 clear HV
 omega
theorem hv23 (x0 x1 x2 x3 y0 y1 y2 y3 d0 d1 d2 d3 d4 d5 d6 d7 ov:Int) (HV:Hid (val8 d0 d1 d2 d3 d4 d5 d6 d7+ov*[4294967296,281474976710656,18446744073709551616,1208925819614629174706176,79228162514264337593543950336].getD 3 0=sumTo x0 x1 x2 x3 y0 y1 y2 y3 (8+3))):
  Hid (val8 d0 d1 d2 d3 d4 ((d5+x2*y3+ov)%65536) d6 d7+(d5+x2*y3+ov)/65536*[4294967296,281474976710656,18446744073709551616,1208925819614629174706176,79228162514264337593543950336].getD 4 0=sumTo x0 x1 x2 x3 y0 y1 y2 y3 (8+4)):=by
 have h:val8 d0 d1 d2 d3 d4 d5 d6 d7+ov*1208925819614629174706176=x0*y0*1+x0*y1*65536+x0*y2*4294967296+x0*y3*281474976710656+x1*y0*65536+x1*y1*4294967296+x1*y2*281474976710656+x1*y3*18446744073709551616+x2*y0*4294967296+x2*y1*281474976710656+x2*y2*18446744073709551616:=HV.out
 refine Lib.hid ?_
 show val8 d0 d1 d2 d3 d4 ((d5+x2*y3+ov)%65536) d6 d7+(d5+x2*y3+ov)/65536*79228162514264337593543950336=x0*y0*1+x0*y1*65536+x0*y2*4294967296+x0*y3*281474976710656+x1*y0*65536+x1*y1*4294967296+x1*y2*281474976710656+x1*y3*18446744073709551616+x2*y0*4294967296+x2*y1*281474976710656+x2*y2*18446744073709551616+x2*y3*1208925819614629174706176
 unfold val8 at h⊢
 clear HV
 omega
theorem hv24 (x0 x1 x2 x3 y0 y1 y2 y3 d0 d1 d2 d3 d4 d5 d6 d7 ov:Int) (HV:Hid (val8 d0 d1 d2 d3 d4 d5 d6 d7+ov*[4294967296,281474976710656,18446744073709551616,1208925819614629174706176,79228162514264337593543950336].getD 4 0=sumTo x0 x1 x2 x3 y0 y1 y2 y3 (8+4))):
  Hid (val8 d0 d1 d2 d3 d4 d5 (d6+ov) d7=sumTo x0 x1 x2 x3 y0 y1 y2 y3 (4*3)):=by
 have h:val8 d0 d1 d2 d3 d4 d5 d6 d7+ov*79228162514264337593543950336=x0*y0*1+x0*y1*65536+x0*y2*4294967296+x0*y3*281474976710656+x1*y0*65536+x1*y1*4294967296+x1*y2*281474976710656+x1*y3*18446744073709551616+x2*y0*4294967296+x2*y1*281474976710656+x2*y2*18446744073709551616+x2*y3*1208925819614629174706176:=HV.out
 refine Lib.hid ?_
 show val8 d0 d1 d2 d3 d4 d5 (d6+ov) d7=x0*y0*1+x0*y1*65536+x0*y2*4294967296+x0*y3*281474976710656+x1*y0*65536+x1*y1*4294967296+x1*y2*281474976710656+x1*y3*18446744073709551616+x2*y0*4294967296+x2*y1*281474976710656+x2*y2*18446744073709551616+x2*y3*1208925819614629174706176
 unfold val8 at h⊢
 clear HV
 omega
theorem hv30 (x0 x1 x2 x3 y0 y1 y2 y3 d0 d1 d2 d3 d4 d5 d6 d7 ov:Int) (HV:Hid (val8 d0 d1 d2 d3 d4 d5 d6 d7+ov*[281474976710656,18446744073709551616,1208925819614629174706176,79228162514264337593543950336,5192296858534827628530496329220096].getD 0 0=sumTo x0 x1 x2 x3 y0 y1 y2 y3 (12+0))):
  Hid (val8 d0 d1 d2 ((d3+x3*y0+ov)%65536) d4 d5 d6 d7+(d3+x3*y0+ov)/65536*[281474976710656,18446744073709551616,1208925819614629174706176,79228162514264337593543950336,5192296858534827628530496329220096].getD 1 0=sumTo x0 x1 x2 x3 y0 y1 y2 y3 (12+1)):=by
 have h:val8 d0 d1 d2 d3 d4 d5 d6 d7+ov*281474976710656=x0*y0*1+x0*y1*65536+x0*y2*4294967296+x0*y3*281474976710656+x1*y0*65536+x1*y1*4294967296+x1*y2*281474976710656+x1*y3*18446744073709551616+x2*y0*4294967296+x2*y1*281474976710656+x2*y2*18446744073709551616+x2*y3*1208925819614629174706176:=HV.out
 refine Lib.hid ?_
 show val8 d0 d1 d2 ((d3+x3*y0+ov)%65536) d4 d5 d6 d7+(d3+x3*y0+ov)/65536*18446744073709551616=x0*y0*1+x0*y1*65536+x0*y2*4294967296+x0*y3*281474976710656+x1*y0*65536+x1*y1*4294967296+x1*y2*281474976710656+x1*y3*18446744073709551616+x2*y0*4294967296+x2*y1*281474976710656+x2*y2*18446744073709551616+x2*y3*1208925819614629174706176+x3*y0*281474976710656
 unfold val8 at h⊢
 clear HV
 omega
theorem hv31 (x0 x1 x2 x3 y0 y1 y2 y3 d0 d1 d2 d3 d4 d5 d6 d7 ov:Int) (HV:Hid (val8 d0 d1 d2 d3 d4 d5 d6 d7+ov*[281474976710656,18446744073709551616,1208925819614629174706176,79228162514264337593543950336,5192296858534827628530496329220096].getD 1 0=sumTo x0 x1 x2 x3 y0 y1 y2 y3 (12+1))):
  Hid (val8 d0 d1 d2 d3 ((d4+x3*y1+ov)%65536) d5 d6 d7+(d4+x3*y1+ov)/65536*[281474976710656,18446744073709551616,1208925819614629174706176,79228162514264337593543950336,5192296858534827628530496329220096].getD 2 0=sumTo x0 x1 x2 x3 y0 y1 y2 y3 (12+2)):=by
 have h:val8 d0 d1 d2 d3 d4 d5 d6 d7+ov*18446744073709551616=x0*y0*1+x0*y1*65536+x0*y2*4294967296+x0*y3*281474976710656+x1*y0*65536+x1*y1*4294967296+x1*y2*281474976710656+x1*y3*18446744073709551616+x2*y0*4294967296+x2*y1*281474976710656+x2*y2*18446744073709551616+x2*y3*1208925819614629174706176+x3*y0*281474976710656:=HV.out
 refine Lib.hid ?_
 show val8 d0 d1 d2 d3 ((d4+x3*y1+ov)%65536) d5 d6 d7+(d4+x3*y1+ov)/65536*1208925819614629174706176=x0*y0*1+x0*y1*65536+x0*y2*4294967296+x0*y3*281474976710656+x1*y0*65536+x1*y1*4294967296+x1*y2*281474976710656+x1*y3*18446744073709551616+x2*y0*4294967296+x2*y1*281474976710656+x2*y2*18446744073709551616+x2*y3*1208925819614629174706176+x3*y0*281474976710656+x3*y1*18446744073709551616
 unfold val8 at h⊢
 clear HV
 omega
theorem hv32 (x0 x1 x2 x3 y0 y1 y2 y3 d0 d1 d2 d3 d4 d5 d6 d7 ov:Int) (HV:Hid (val8 d0 d1 d2 d3 d4 d5 d6 d7+ov*[281474976710656,18446744073709551616,1208925819614629174706176,79228162514264337593543950336,5192296858534827628530496329220096].getD 2 0=sumTo x0 x1 x2 x3 y0 y1 y2 y3 (12+2))):
  Hid (val8 d0 d1 d2 d3 d4 ((d5+x3*y2+ov)%65536) d6 d7+(d5+x3*y2+ov)/65536*[281474976710656,18446744073709551616,1208925819614629174706176,79228162514264337593543950336,5192296858534827628530496329220096].getD 3 0=sumTo x0 x1 x2 x3 y0 y1 y2 y3 (12+3)):=by
 have h:val8 d0 d1 d2 d3 d4 d5 d6 d7+ov*1208925819614629174706176=x0*y0*1+x0*y1*65536+x0*y2*4294967296+x0*y3*281474976710656+x1*y0*65536+x1*y1*4294967296+x1*y2*281474976710656+x1*y3*18446744073709551616+x2*y0*4294967296+x2*y1*281474976710656+x2*y2*18446744073709551616+x2*y3*1208925819614629174706176+x3*y0*281474976710656+x3*y1*18446744073709551616:=HV.out
 refine Lib.hid ?_
 show val8 d0 d1 d2 d3 d4 ((d5+x3*y2+ov)%65536) d6 d7+(d5+x3*y2+ov)/65536*79228162514264337593543950336=x0*y0*1+x0*y1*65536+x0*y2*4294967296+x0*y3*281474976710656+x1*y0*65536+x1*y1*4294967296+x1*y2*281474976710656+x1*y3*18446744073709551616+x2*y0*4294967296+x2*y1*281474976710656+x2*y2*18446744073709551616+x2*y3*1208925819614629174706176+x3*y0*281474976710656+x3*y1*18446744073709551616+x3*y2*1208925819614629174706176
 unfold val8 at h⊢
 clear HV
 omega
theorem hv33 (x0 x1 x2 x3 y0 y1 y2 y3 d0 d1 d2 d3 d4 d5 d6 d7 ov:Int) (HV:Hid (val8 d0 d1 d2 d3 d4 d5 d6 d7+ov*[281474976710656,18446744073709551616,1208925819614629174706176,79228162514264337593543950336,5192296858534827628530496329220096].getD 3 0=sumTo x0 x1 x2 x3 y0 y1 y2 y3 (12+3))):
  Hid (val8 d0 d1 d2 d3 d4 d5 ((d6+x3*y3+ov)%65536) d7+(d6+x3*y3+ov)/65536*[281474976710656,18446744073709551616,1208925819614629174706176,79228162514264337593543950336,5192296858534827628530496329220096].getD 4 0=sumTo x0 x1 x2 x3 y0 y1 y2 y3 (12+4)):=by
 have h:val8 d0 d1 d2 d3 d4 d5 d6 d7+ov*79228162514264337593543950336=x0*y0*1+x0*y1*65536+x0*y2*4294967296+x0*y3*281474976710656+x1*y0*65536+x1*y1*4294967296+x1*y2*281474976710656+x1*y3*18446744073709551616+x2*y0*4294967296+x2*y1*281474976710656+x2*y2*18446744073709551616+x2*y3*1208925819614629174706176+x3*y0*281474976710656+x3*y1*18446744073709551616+x3*y2*1208925819614629174706176:=HV.out
 refine Lib.hid ?_
 show val8 d0 d1 d2 d3 d4 d5 ((d6+x3*y3+ov)%65536) d7+(d6+x3*y3+ov)/65536*5192296858534827628530496329220096=x0*y0*1+x0*y1*65536+x0*y2*4294967296+x0*y3*281474976710656+x1*y0*65536+x1*y1*4294967296+x1*y2*281474976710656+x1*y3*18446744073709551616+x2*y0*4294967296+x2*y1*281474976710656+x2*y2*18446744073709551616+x2*y3*1208925819614629174706176+x3*y0*281474976710656+x3*y1*18446744073709551616+x3*y2*1208925819614629174706176+x3*y3*79228162514264337593543950336
 unfold val8 at h⊢
 clear HV
 omega
theorem hv34 (x0 x1 x2 x3 y0 y1 y2 y3 d0 d1 d2 d3 d4 d5 d6 d7 ov:Int) (HV:Hid (val8 d0 d1 d2 d3 d4 d5 d6 d7+ov*[281474976710656,18446744073709551616,1208925819614629174706176,79228162514264337593543950336,5192296858534827628530496329220096].getD 4 0=sumTo x0 x1 x2 x3 y0 y1 y2 y3 (12+4))):
  Hid (val8 d0 d1 d2 d3 d4 d5 d6 (d7+ov)=sumTo x0 x1 x2 x3 y0 y1 y2 y3 (4*4)):=by
 have h:val8 d0 d1 d2 d3 d4 d5 d6 d7+ov*5192296858534827628530496329220096=x0*y0*1+x0*y1*65536+x0*y2*4294967296+x0*y3*281474976710656+x1*y0*65536+x1*y1*4294967296+x1*y2*281474976710656+x1*y3*18446744073709551616+x2*y0*4294967296+x2*y1*281474976710656+x2*y2*18446744073709551616+x2*y3*1208925819614629174706176+x3*y0*281474976710656+x3*y1*18446744073709551616+x3*y2*1208925819614629174706176+x3*y3*79228162514264337593543950336:=HV.out
 refine Lib.hid ?_
 show val8 d0 d1 d2 d3 d4 d5 d6 (d7+ov)=x0*y0*1+x0*y1*65536+x0*y2*4294967296+x0*y3*281474976710656+x1*y0*65536+x1*y1*4294967296+x1*y2*281474976710656+x1*y3*18446744073709551616+x2*y0*4294967296+x2*y1*281474976710656+x2*y2*18446744073709551616+x2*y3*1208925819614629174706176+x3*y0*281474976710656+x3*y1*18446744073709551616+x3*y2*1208925819614629174706176+x3*y3*79228162514264337593543950336
 unfold val8 at h⊢
 clear HV
 omega
theorem below_alloc {w W:World} (h:Below w.heap.size w W) (o:Obj):Below w.heap.size w (W.alloc o):=h.alloc h.size o
theorem keep_drew {W:World} {a:Addr} {v:Value} (h:W.cell? a=some v):W.drew.cell? a=some v:=h
theorem keep_alloc {W:World} {a:Addr} {v:Value} (o:Obj) (h:W.cell? a=some v):(W.alloc o).cell? a=some v:=(World.cell?_alloc_some W a o (by rw[h];rfl)).trans h
theorem keep_alloc_drew {W:World} {a:Addr} {v:Value} (o:Obj) (h:W.cell? a=some v):(W.alloc o).drew.cell? a=some v:=keep_drew (keep_alloc o h)
theorem cell_new (w:World) (cs:Array Value) (t:TypeId) (n j m:Nat) (v:Value) (hn:n=w.heap.size) (h:cs[j]?=some v):((w.alloc (.cells cs t)).drewN m).cell? ⟨n,j,none⟩=some v:=by
 rw[show((w.alloc (.cells cs t)).drewN m).cell? ⟨n,j,none⟩=(w.alloc (.cells cs t)).cell? ⟨n,j,none⟩from rfl,World.cell?_alloc_at _ _ _ _ hn,h]
set_option maxHeartbeats 8000000 in
theorem times_any (a b:Int) (ha:0≤a∧a<18446744073709551616) (hb:0≤b∧b<18446744073709551616) (w:World):
  Calls Tryz.prog 149 #[.int .u64 a,.int .u64 b] w (TimesPost a b w):=by
 obtain⟨x0,x1,x2,x3,HX,rx0,rx1,rx2,rx3,HA⟩:=digits a ha.1 ha.2
 obtain⟨y0,y1,y2,y3,HY,ry0,ry1,ry2,ry3,HB⟩:=digits b hb.1 hb.2
 have p00:0≤x0*y0∧x0*y0≤4294836225:=prod_range _ _ rx0 ry0
 have p01:0≤x0*y1∧x0*y1≤4294836225:=prod_range _ _ rx0 ry1
 have p02:0≤x0*y2∧x0*y2≤4294836225:=prod_range _ _ rx0 ry2
 have p03:0≤x0*y3∧x0*y3≤4294836225:=prod_range _ _ rx0 ry3
 have p10:0≤x1*y0∧x1*y0≤4294836225:=prod_range _ _ rx1 ry0
 have p11:0≤x1*y1∧x1*y1≤4294836225:=prod_range _ _ rx1 ry1
 have p12:0≤x1*y2∧x1*y2≤4294836225:=prod_range _ _ rx1 ry2
 have p13:0≤x1*y3∧x1*y3≤4294836225:=prod_range _ _ rx1 ry3
 have p20:0≤x2*y0∧x2*y0≤4294836225:=prod_range _ _ rx2 ry0
 have p21:0≤x2*y1∧x2*y1≤4294836225:=prod_range _ _ rx2 ry1
 have p22:0≤x2*y2∧x2*y2≤4294836225:=prod_range _ _ rx2 ry2
 have p23:0≤x2*y3∧x2*y3≤4294836225:=prod_range _ _ rx2 ry3
 have p30:0≤x3*y0∧x3*y0≤4294836225:=prod_range _ _ rx3 ry0
 have p31:0≤x3*y1∧x3*y1≤4294836225:=prod_range _ _ rx3 ry1
 have p32:0≤x3*y2∧x3*y2≤4294836225:=prod_range _ _ rx3 ry2
 have p33:0≤x3*y3∧x3*y3≤4294836225:=prod_range _ _ rx3 ry3
 go_enter Tryz.func149,Tryz.ntmps149
 go_wp2_with fail
 refine(of_dig _ x0 x1 x2 x3 ha.1 ha.2 HX _).mono ?_
 rintro e w1 ⟨rfl,rfl⟩
 go_wp2_with fail
 refine(of_dig _ y0 y1 y2 y3 hb.1 hb.2 HY _).mono ?_
 rintro e w1 ⟨rfl,rfl⟩
 clear ha hb HX HY
 go_wp2_with fail
 have HZ0:=Lib.hid (show((0:Nat)≤0→(0:Int)=0)∧((0:Nat)≤1→(0:Int)=0)∧((0:Nat)≤2→(0:Int)=0)∧((0:Nat)≤3→(0:Int)=0)from⟨λ _=>rfl,λ _=>rfl,λ _=>rfl,λ _=>rfl⟩)
 have HV0:=Lib.hid (show val8 0 0 0 0 0 0 0 0=sumTo x0 x1 x2 x3 y0 y1 y2 y3 0 from rfl)
 go_loopw [9] (λ i w'=>∃(n m:Nat) (z d0 d1 d2 d3 d4 d5 d6 d7:Int),n≤4∧z=n∧i=.int .i64 z∧w'=(wT w x0 x1 x2 x3 y0 y1 y2 y3 d0 d1 d2 d3 d4 d5 d6 d7).drewN m∧(0≤d0∧d0<65536)∧(0≤d1∧d1<65536)∧(0≤d2∧d2<65536)∧(0≤d3∧d3<65536)∧(0≤d4∧d4<65536)∧(0≤d5∧d5<65536)∧(0≤d6∧d6<65536)∧(0≤d7∧d7<65536)∧
  Hid ((n≤0→d4=0)∧(n≤1→d5=0)∧(n≤2→d6=0)∧(n≤3→d7=0))∧Hid (val8 d0 d1 d2 d3 d4 d5 d6 d7=sumTo x0 x1 x2 x3 y0 y1 y2 y3 (4*n))) (λ i _=>4 -(intOf i).toNat)
 case atStart=>exact⟨0,0,0,0,0,0,0,0,0,0,0,by omega,rfl,rfl,rfl,by omega,by omega,by omega,by omega,by omega,by omega,by omega,by omega,HZ0,HV0⟩
 case round=>
  clear HZ0 HV0
  obtain⟨n,m,z,d0,d1,d2,d3,d4,d5,d6,d7,hn,hz,rfl,rfl,r0,r1,r2,r3,r4,r5,r6,r7,HZ,HV⟩:=hrel
  have hn:n=0∨n=1∨n=2∨n=3∨n=4:=by omega
  unfold wT
  rcases hn with rfl|rfl|rfl|rfl|rfl
  ·obtain rfl:z=0:=hz
   have HZ':=Lib.hid (show d4=0∧d5=0∧d6=0∧d7=0 by have h:=HZ.out;exact⟨h.1 (by omega),h.2.1 (by omega),h.2.2.1 (by omega),h.2.2.2 (by omega)⟩)
   clear HZ
   go_wp2_with fail
   go_loopw [10,11] (λ o k w'=>∃(q m:Nat) (y ov d0 d1 d2 d3 d4 d5 d6 d7:Int),q≤4∧y=q∧k=.int .i64 y∧o=.int .u64 ov∧(0≤ov∧ov<65536)∧w'=(wT w x0 x1 x2 x3 y0 y1 y2 y3 d0 d1 d2 d3 d4 d5 d6 d7).drewN m∧(0≤d0∧d0<65536)∧(0≤d1∧d1<65536)∧(0≤d2∧d2<65536)∧(0≤d3∧d3<65536)∧(0≤d4∧d4<65536)∧(0≤d5∧d5<65536)∧(0≤d6∧d6<65536)∧(0≤d7∧d7<65536)∧
    Hid (d4=0∧d5=0∧d6=0∧d7=0)∧Hid (val8 d0 d1 d2 d3 d4 d5 d6 d7+ov*[1,65536,4294967296,281474976710656,18446744073709551616].getD q 0=sumTo x0 x1 x2 x3 y0 y1 y2 y3 (0+q))) (λ _ k _=>4 -(intOf k).toNat)
   case atStart=>exact⟨0,m,0,0,_,_,_,_,_,_,_,_,by omega,rfl,rfl,rfl,by omega,rfl,by omega,by omega,by omega,by omega,by omega,by omega,by omega,by omega,HZ',Lib.hid (by have:=HV.out;simp only[Int.zero_mul,Int.add_zero];exact this)⟩
   case round=>
    clear HZ' HV r0 r1 r2 r3 r4 r5 r6 r7 m
    clear d0 d1 d2 d3 d4 d5 d6 d7
    obtain⟨q,m,y,ov,d0,d1,d2,d3,d4,d5,d6,d7,hq,hy,rfl,rfl,rov,rfl,r0,r1,r2,r3,r4,r5,r6,r7,HZ,HV⟩:=hrel
    have hq:q=0∨q=1∨q=2∨q=3∨q=4:=by omega
    unfold wT
    rcases hq with rfl|rfl|rfl|rfl|rfl
    ·obtain rfl:y=0:=hy
     have HV':=hv00 x0 x1 x2 x3 y0 y1 y2 y3 d0 d1 d2 d3 d4 d5 d6 d7 ov HV
     have pp:=p00
     go_wp2_with fail
     go_quiet (fail)
     go_wp2_with fail
     go_roundw
     case rel=>exact⟨1,_,1,_,_,_,_,_,_,_,_,_,by omega,rfl,rfl,rfl,by omega,(set_out _ _ _ _ _ _ _ (by simp)).trans rfl,by omega,by omega,by omega,by omega,by omega,by omega,by omega,by omega,HZ,HV'⟩
     case measure=>simp[intOf]
    ·obtain rfl:y=1:=hy
     have HV':=hv01 x0 x1 x2 x3 y0 y1 y2 y3 d0 d1 d2 d3 d4 d5 d6 d7 ov HV
     have pp:=p01
     go_wp2_with fail
     go_quiet (fail)
     go_wp2_with fail
     go_roundw
     case rel=>exact⟨2,_,2,_,_,_,_,_,_,_,_,_,by omega,rfl,rfl,rfl,by omega,(set_out _ _ _ _ _ _ _ (by simp)).trans rfl,by omega,by omega,by omega,by omega,by omega,by omega,by omega,by omega,HZ,HV'⟩
     case measure=>simp[intOf]
    ·obtain rfl:y=2:=hy
     have HV':=hv02 x0 x1 x2 x3 y0 y1 y2 y3 d0 d1 d2 d3 d4 d5 d6 d7 ov HV
     have pp:=p02
     go_wp2_with fail
     go_quiet (fail)
     go_wp2_with fail
     go_roundw
     case rel=>exact⟨3,_,3,_,_,_,_,_,_,_,_,_,by omega,rfl,rfl,rfl,by omega,(set_out _ _ _ _ _ _ _ (by simp)).trans rfl,by omega,by omega,by omega,by omega,by omega,by omega,by omega,by omega,HZ,HV'⟩
     case measure=>simp[intOf]
    ·obtain rfl:y=3:=hy
     have HV':=hv03 x0 x1 x2 x3 y0 y1 y2 y3 d0 d1 d2 d3 d4 d5 d6 d7 ov HV
     have pp:=p03
     go_wp2_with fail
     go_quiet (fail)
     go_wp2_with fail
     go_roundw
     case rel=>exact⟨4,_,4,_,_,_,_,_,_,_,_,_,by omega,rfl,rfl,rfl,by omega,(set_out _ _ _ _ _ _ _ (by simp)).trans rfl,by omega,by omega,by omega,by omega,by omega,by omega,by omega,by omega,HZ,HV'⟩
     case measure=>simp[intOf]
    ·obtain rfl:y=4:=hy
     have hz:=HZ.out
     have e4:d4=0:=hz.1
     have HV':=hv04 x0 x1 x2 x3 y0 y1 y2 y3 d0 d1 d2 d3 d4 d5 d6 d7 ov HV
     have HZ':=Lib.hid (show((1:Nat)≤0→(d4+ov)=0)∧((1:Nat)≤1→d5=0)∧((1:Nat)≤2→d6=0)∧((1:Nat)≤3→d7=0) by omega)
     have rn:0≤d4+ov∧d4+ov<65536:=by omega
     clear hz e4 HZ HV
     go_wp2_with fail
     go_roundw
     case rel=>exact⟨1,_,1,_,_,_,_,_,_,_,_,by omega,rfl,rfl,(set_out _ _ _ _ _ _ _ (by simp)).trans rfl,r0,r1,r2,r3,rn,r5,r6,r7,HZ',HV'⟩
     case measure=>simp[intOf]
  ·obtain rfl:z=1:=hz
   have HZ':=Lib.hid (show d5=0∧d6=0∧d7=0 by have h:=HZ.out;exact⟨h.2.1 (by omega),h.2.2.1 (by omega),h.2.2.2 (by omega)⟩)
   clear HZ
   go_wp2_with fail
   go_loopw [10,11] (λ o k w'=>∃(q m:Nat) (y ov d0 d1 d2 d3 d4 d5 d6 d7:Int),q≤4∧y=q∧k=.int .i64 y∧o=.int .u64 ov∧(0≤ov∧ov<65536)∧w'=(wT w x0 x1 x2 x3 y0 y1 y2 y3 d0 d1 d2 d3 d4 d5 d6 d7).drewN m∧(0≤d0∧d0<65536)∧(0≤d1∧d1<65536)∧(0≤d2∧d2<65536)∧(0≤d3∧d3<65536)∧(0≤d4∧d4<65536)∧(0≤d5∧d5<65536)∧(0≤d6∧d6<65536)∧(0≤d7∧d7<65536)∧
    Hid (d5=0∧d6=0∧d7=0)∧Hid (val8 d0 d1 d2 d3 d4 d5 d6 d7+ov*[65536,4294967296,281474976710656,18446744073709551616,1208925819614629174706176].getD q 0=sumTo x0 x1 x2 x3 y0 y1 y2 y3 (4+q))) (λ _ k _=>4 -(intOf k).toNat)
   case atStart=>exact⟨0,m,0,0,_,_,_,_,_,_,_,_,by omega,rfl,rfl,rfl,by omega,rfl,by omega,by omega,by omega,by omega,by omega,by omega,by omega,by omega,HZ',Lib.hid (by have:=HV.out;simp only[Int.zero_mul,Int.add_zero];exact this)⟩
   case round=>
    clear HZ' HV r0 r1 r2 r3 r4 r5 r6 r7 m
    clear d0 d1 d2 d3 d4 d5 d6 d7
    obtain⟨q,m,y,ov,d0,d1,d2,d3,d4,d5,d6,d7,hq,hy,rfl,rfl,rov,rfl,r0,r1,r2,r3,r4,r5,r6,r7,HZ,HV⟩:=hrel
    have hq:q=0∨q=1∨q=2∨q=3∨q=4:=by omega
    unfold wT
    rcases hq with rfl|rfl|rfl|rfl|rfl
    ·obtain rfl:y=0:=hy
     have HV':=hv10 x0 x1 x2 x3 y0 y1 y2 y3 d0 d1 d2 d3 d4 d5 d6 d7 ov HV
     have pp:=p10
     go_wp2_with fail
     go_quiet (fail)
     go_wp2_with fail
     go_roundw
     case rel=>exact⟨1,_,1,_,_,_,_,_,_,_,_,_,by omega,rfl,rfl,rfl,by omega,(set_out _ _ _ _ _ _ _ (by simp)).trans rfl,by omega,by omega,by omega,by omega,by omega,by omega,by omega,by omega,HZ,HV'⟩
     case measure=>simp[intOf]
    ·obtain rfl:y=1:=hy
     have HV':=hv11 x0 x1 x2 x3 y0 y1 y2 y3 d0 d1 d2 d3 d4 d5 d6 d7 ov HV
     have pp:=p11
     go_wp2_with fail
     go_quiet (fail)
     go_wp2_with fail
     go_roundw
     case rel=>exact⟨2,_,2,_,_,_,_,_,_,_,_,_,by omega,rfl,rfl,rfl,by omega,(set_out _ _ _ _ _ _ _ (by simp)).trans rfl,by omega,by omega,by omega,by omega,by omega,by omega,by omega,by omega,HZ,HV'⟩
     case measure=>simp[intOf]
    ·obtain rfl:y=2:=hy
     have HV':=hv12 x0 x1 x2 x3 y0 y1 y2 y3 d0 d1 d2 d3 d4 d5 d6 d7 ov HV
     have pp:=p12
     go_wp2_with fail
     go_quiet (fail)
     go_wp2_with fail
     go_roundw
     case rel=>exact⟨3,_,3,_,_,_,_,_,_,_,_,_,by omega,rfl,rfl,rfl,by omega,(set_out _ _ _ _ _ _ _ (by simp)).trans rfl,by omega,by omega,by omega,by omega,by omega,by omega,by omega,by omega,HZ,HV'⟩
     case measure=>simp[intOf]
    ·obtain rfl:y=3:=hy
     have HV':=hv13 x0 x1 x2 x3 y0 y1 y2 y3 d0 d1 d2 d3 d4 d5 d6 d7 ov HV
     have pp:=p13
     go_wp2_with fail
     go_quiet (fail)
     go_wp2_with fail
     go_roundw
     case rel=>exact⟨4,_,4,_,_,_,_,_,_,_,_,_,by omega,rfl,rfl,rfl,by omega,(set_out _ _ _ _ _ _ _ (by simp)).trans rfl,by omega,by omega,by omega,by omega,by omega,by omega,by omega,by omega,HZ,HV'⟩
     case measure=>simp[intOf]
    ·obtain rfl:y=4:=hy
     have hz:=HZ.out
     have e5:d5=0:=hz.1
     have HV':=hv14 x0 x1 x2 x3 y0 y1 y2 y3 d0 d1 d2 d3 d4 d5 d6 d7 ov HV
     have HZ':=Lib.hid (show((2:Nat)≤0→d4=0)∧((2:Nat)≤1→(d5+ov)=0)∧((2:Nat)≤2→d6=0)∧((2:Nat)≤3→d7=0) by omega)
     have rn:0≤d5+ov∧d5+ov<65536:=by omega
     clear hz e5 HZ HV
     go_wp2_with fail
     go_roundw
     case rel=>exact⟨2,_,2,_,_,_,_,_,_,_,_,by omega,rfl,rfl,(set_out _ _ _ _ _ _ _ (by simp)).trans rfl,r0,r1,r2,r3,r4,rn,r6,r7,HZ',HV'⟩
     case measure=>simp[intOf]
  ·obtain rfl:z=2:=hz
   have HZ':=Lib.hid (show d6=0∧d7=0 by have h:=HZ.out;exact⟨h.2.2.1 (by omega),h.2.2.2 (by omega)⟩)
   clear HZ
   go_wp2_with fail
   go_loopw [10,11] (λ o k w'=>∃(q m:Nat) (y ov d0 d1 d2 d3 d4 d5 d6 d7:Int),q≤4∧y=q∧k=.int .i64 y∧o=.int .u64 ov∧(0≤ov∧ov<65536)∧w'=(wT w x0 x1 x2 x3 y0 y1 y2 y3 d0 d1 d2 d3 d4 d5 d6 d7).drewN m∧(0≤d0∧d0<65536)∧(0≤d1∧d1<65536)∧(0≤d2∧d2<65536)∧(0≤d3∧d3<65536)∧(0≤d4∧d4<65536)∧(0≤d5∧d5<65536)∧(0≤d6∧d6<65536)∧(0≤d7∧d7<65536)∧
    Hid (d6=0∧d7=0)∧Hid (val8 d0 d1 d2 d3 d4 d5 d6 d7+ov*[4294967296,281474976710656,18446744073709551616,1208925819614629174706176,79228162514264337593543950336].getD q 0=sumTo x0 x1 x2 x3 y0 y1 y2 y3 (8+q))) (λ _ k _=>4 -(intOf k).toNat)
   case atStart=>exact⟨0,m,0,0,_,_,_,_,_,_,_,_,by omega,rfl,rfl,rfl,by omega,rfl,by omega,by omega,by omega,by omega,by omega,by omega,by omega,by omega,HZ',Lib.hid (by have:=HV.out;simp only[Int.zero_mul,Int.add_zero];exact this)⟩
   case round=>
    clear HZ' HV r0 r1 r2 r3 r4 r5 r6 r7 m
    clear d0 d1 d2 d3 d4 d5 d6 d7
    obtain⟨q,m,y,ov,d0,d1,d2,d3,d4,d5,d6,d7,hq,hy,rfl,rfl,rov,rfl,r0,r1,r2,r3,r4,r5,r6,r7,HZ,HV⟩:=hrel
    have hq:q=0∨q=1∨q=2∨q=3∨q=4:=by omega
    unfold wT
    rcases hq with rfl|rfl|rfl|rfl|rfl
    ·obtain rfl:y=0:=hy
     have HV':=hv20 x0 x1 x2 x3 y0 y1 y2 y3 d0 d1 d2 d3 d4 d5 d6 d7 ov HV
     have pp:=p20
     go_wp2_with fail
     go_quiet (fail)
     go_wp2_with fail
     go_roundw
     case rel=>exact⟨1,_,1,_,_,_,_,_,_,_,_,_,by omega,rfl,rfl,rfl,by omega,(set_out _ _ _ _ _ _ _ (by simp)).trans rfl,by omega,by omega,by omega,by omega,by omega,by omega,by omega,by omega,HZ,HV'⟩
     case measure=>simp[intOf]
    ·obtain rfl:y=1:=hy
     have HV':=hv21 x0 x1 x2 x3 y0 y1 y2 y3 d0 d1 d2 d3 d4 d5 d6 d7 ov HV
     have pp:=p21
     go_wp2_with fail
     go_quiet (fail)
     go_wp2_with fail
     go_roundw
     case rel=>exact⟨2,_,2,_,_,_,_,_,_,_,_,_,by omega,rfl,rfl,rfl,by omega,(set_out _ _ _ _ _ _ _ (by simp)).trans rfl,by omega,by omega,by omega,by omega,by omega,by omega,by omega,by omega,HZ,HV'⟩
     case measure=>simp[intOf]
    ·obtain rfl:y=2:=hy
     have HV':=hv22 x0 x1 x2 x3 y0 y1 y2 y3 d0 d1 d2 d3 d4 d5 d6 d7 ov HV
     have pp:=p22
     go_wp2_with fail
     go_quiet (fail)
     go_wp2_with fail
     go_roundw
     case rel=>exact⟨3,_,3,_,_,_,_,_,_,_,_,_,by omega,rfl,rfl,rfl,by omega,(set_out _ _ _ _ _ _ _ (by simp)).trans rfl,by omega,by omega,by omega,by omega,by omega,by omega,by omega,by omega,HZ,HV'⟩
     case measure=>simp[intOf]
    ·obtain rfl:y=3:=hy
     have HV':=hv23 x0 x1 x2 x3 y0 y1 y2 y3 d0 d1 d2 d3 d4 d5 d6 d7 ov HV
     have pp:=p23
     go_wp2_with fail
     go_quiet (fail)
     go_wp2_with fail
     go_roundw
     case rel=>exact⟨4,_,4,_,_,_,_,_,_,_,_,_,by omega,rfl,rfl,rfl,by omega,(set_out _ _ _ _ _ _ _ (by simp)).trans rfl,by omega,by omega,by omega,by omega,by omega,by omega,by omega,by omega,HZ,HV'⟩
     case measure=>simp[intOf]
    ·obtain rfl:y=4:=hy
     have hz:=HZ.out
     have e6:d6=0:=hz.1
     have HV':=hv24 x0 x1 x2 x3 y0 y1 y2 y3 d0 d1 d2 d3 d4 d5 d6 d7 ov HV
     have HZ':=Lib.hid (show((3:Nat)≤0→d4=0)∧((3:Nat)≤1→d5=0)∧((3:Nat)≤2→(d6+ov)=0)∧((3:Nat)≤3→d7=0) by omega)
     have rn:0≤d6+ov∧d6+ov<65536:=by omega
     clear hz e6 HZ HV
     go_wp2_with fail
     go_roundw
     case rel=>exact⟨3,_,3,_,_,_,_,_,_,_,_,by omega,rfl,rfl,(set_out _ _ _ _ _ _ _ (by simp)).trans rfl,r0,r1,r2,r3,r4,r5,rn,r7,HZ',HV'⟩
     case measure=>simp[intOf]
  ·obtain rfl:z=3:=hz
   have HZ':=Lib.hid (show d7=0 by have h:=HZ.out;exact h.2.2.2 (by omega))
   clear HZ
   go_wp2_with fail
   go_loopw [10,11] (λ o k w'=>∃(q m:Nat) (y ov d0 d1 d2 d3 d4 d5 d6 d7:Int),q≤4∧y=q∧k=.int .i64 y∧o=.int .u64 ov∧(0≤ov∧ov<65536)∧w'=(wT w x0 x1 x2 x3 y0 y1 y2 y3 d0 d1 d2 d3 d4 d5 d6 d7).drewN m∧(0≤d0∧d0<65536)∧(0≤d1∧d1<65536)∧(0≤d2∧d2<65536)∧(0≤d3∧d3<65536)∧(0≤d4∧d4<65536)∧(0≤d5∧d5<65536)∧(0≤d6∧d6<65536)∧(0≤d7∧d7<65536)∧
    Hid (d7=0)∧Hid (val8 d0 d1 d2 d3 d4 d5 d6 d7+ov*[281474976710656,18446744073709551616,1208925819614629174706176,79228162514264337593543950336,5192296858534827628530496329220096].getD q 0=sumTo x0 x1 x2 x3 y0 y1 y2 y3 (12+q))) (λ _ k _=>4 -(intOf k).toNat)
   case atStart=>exact⟨0,m,0,0,_,_,_,_,_,_,_,_,by omega,rfl,rfl,rfl,by omega,rfl,by omega,by omega,by omega,by omega,by omega,by omega,by omega,by omega,HZ',Lib.hid (by have:=HV.out;simp only[Int.zero_mul,Int.add_zero];exact this)⟩
   case round=>
    clear HZ' HV r0 r1 r2 r3 r4 r5 r6 r7 m
    clear d0 d1 d2 d3 d4 d5 d6 d7
    obtain⟨q,m,y,ov,d0,d1,d2,d3,d4,d5,d6,d7,hq,hy,rfl,rfl,rov,rfl,r0,r1,r2,r3,r4,r5,r6,r7,HZ,HV⟩:=hrel
    have hq:q=0∨q=1∨q=2∨q=3∨q=4:=by omega
    unfold wT
    rcases hq with rfl|rfl|rfl|rfl|rfl
    ·obtain rfl:y=0:=hy
     have HV':=hv30 x0 x1 x2 x3 y0 y1 y2 y3 d0 d1 d2 d3 d4 d5 d6 d7 ov HV
     have pp:=p30
     go_wp2_with fail
     go_quiet (fail)
     go_wp2_with fail
     go_roundw
     case rel=>exact⟨1,_,1,_,_,_,_,_,_,_,_,_,by omega,rfl,rfl,rfl,by omega,(set_out _ _ _ _ _ _ _ (by simp)).trans rfl,by omega,by omega,by omega,by omega,by omega,by omega,by omega,by omega,HZ,HV'⟩
     case measure=>simp[intOf]
    ·obtain rfl:y=1:=hy
     have HV':=hv31 x0 x1 x2 x3 y0 y1 y2 y3 d0 d1 d2 d3 d4 d5 d6 d7 ov HV
     have pp:=p31
     go_wp2_with fail
     go_quiet (fail)
     go_wp2_with fail
     go_roundw
     case rel=>exact⟨2,_,2,_,_,_,_,_,_,_,_,_,by omega,rfl,rfl,rfl,by omega,(set_out _ _ _ _ _ _ _ (by simp)).trans rfl,by omega,by omega,by omega,by omega,by omega,by omega,by omega,by omega,HZ,HV'⟩
     case measure=>simp[intOf]
    ·obtain rfl:y=2:=hy
     have HV':=hv32 x0 x1 x2 x3 y0 y1 y2 y3 d0 d1 d2 d3 d4 d5 d6 d7 ov HV
     have pp:=p32
     go_wp2_with fail
     go_quiet (fail)
     go_wp2_with fail
     go_roundw
     case rel=>exact⟨3,_,3,_,_,_,_,_,_,_,_,_,by omega,rfl,rfl,rfl,by omega,(set_out _ _ _ _ _ _ _ (by simp)).trans rfl,by omega,by omega,by omega,by omega,by omega,by omega,by omega,by omega,HZ,HV'⟩
     case measure=>simp[intOf]
    ·obtain rfl:y=3:=hy
     have HV':=hv33 x0 x1 x2 x3 y0 y1 y2 y3 d0 d1 d2 d3 d4 d5 d6 d7 ov HV
     have pp:=p33
     go_wp2_with fail
     go_quiet (fail)
     go_wp2_with fail
     go_roundw
     case rel=>exact⟨4,_,4,_,_,_,_,_,_,_,_,_,by omega,rfl,rfl,rfl,by omega,(set_out _ _ _ _ _ _ _ (by simp)).trans rfl,by omega,by omega,by omega,by omega,by omega,by omega,by omega,by omega,HZ,HV'⟩
     case measure=>simp[intOf]
    ·obtain rfl:y=4:=hy
     have hz:=HZ.out
     have e7:d7=0:=hz
     have HV':=hv34 x0 x1 x2 x3 y0 y1 y2 y3 d0 d1 d2 d3 d4 d5 d6 d7 ov HV
     have HZ':=Lib.hid (show((4:Nat)≤0→d4=0)∧((4:Nat)≤1→d5=0)∧((4:Nat)≤2→d6=0)∧((4:Nat)≤3→(d7+ov)=0) by omega)
     have rn:0≤d7+ov∧d7+ov<65536:=by omega
     clear hz e7 HZ HV
     go_wp2_with fail
     go_roundw
     case rel=>exact⟨4,_,4,_,_,_,_,_,_,_,_,by omega,rfl,rfl,(set_out _ _ _ _ _ _ _ (by simp)).trans rfl,r0,r1,r2,r3,r4,r5,r6,rn,HZ',HV'⟩
     case measure=>simp[intOf]
  ·obtain rfl:z=4:=hz
   clear HZ p00 p01 p02 p03 p10 p11 p12 p13 p20 p21 p22 p23 p30 p31 p32 p33
   have HE:=Lib.hid (prod_end a b x0 x1 x2 x3 y0 y1 y2 y3 d0 d1 d2 d3 d4 d5 d6 d7 HA HB HV r0 r1 r2 r3)
   clear HA HB HV
   go_wp2_with fail
   obtain⟨c,hc⟩:∃c,c=w.heap.size+1+1+1+1:=⟨_,rfl⟩
   obtain⟨W,hW⟩:∃W,W=((wT w x0 x1 x2 x3 y0 y1 y2 y3 d0 d1 d2 d3 d4 d5 d6 d7).drewN m):=⟨_,rfl⟩
   have hcells:W.cell? ⟨c,0,none⟩=some (.int .u64 d0)∧W.cell? ⟨c,1,none⟩=some (.int .u64 d1)∧W.cell? ⟨c,2,none⟩=some (.int .u64 d2)∧W.cell? ⟨c,3,none⟩=some (.int .u64 d3)∧W.cell? ⟨c,4,none⟩=some (.int .u64 d4)∧W.cell? ⟨c,5,none⟩=some (.int .u64 d5)∧W.cell? ⟨c,6,none⟩=some (.int .u64 d6)∧W.cell? ⟨c,7,none⟩=some (.int .u64 d7):=by
    rw[hW]
    refine⟨cell_new _ _ _ _ _ _ _ (by simp[hc]) rfl,cell_new _ _ _ _ _ _ _ (by simp[hc]) rfl,cell_new _ _ _ _ _ _ _ (by simp[hc]) rfl,cell_new _ _ _ _ _ _ _ (by simp[hc]) rfl,cell_new _ _ _ _ _ _ _ (by simp[hc]) rfl,cell_new _ _ _ _ _ _ _ (by simp[hc]) rfl,cell_new _ _ _ _ _ _ _ (by simp[hc]) rfl,cell_new _ _ _ _ _ _ _ (by simp[hc]) rfl⟩
   obtain⟨k0,k1,k2,k3,k4,k5,k6,k7⟩:=hcells
   have kB:Below w.heap.size w W:=by
    rw[hW]
    refine below_drewN ?_ m
    exact(((((Below.refl _ _).alloc (Nat.le_refl _) _).alloc (by simp) _).alloc (by simp;omega) _).alloc (by simp;omega) _).alloc (by simp;omega) _
   unfold wT at hW
   rw[←hW,←hc]
   clear hW hc hn rx0 rx1 rx2 rx3 ry0 ry1 ry2 ry3
   go_region_held3 (λ w'=>w'.cell? ⟨c,0,none⟩=some (.int .u64 d0)∧w'.cell? ⟨c,1,none⟩=some (.int .u64 d1)∧w'.cell? ⟨c,2,none⟩=some (.int .u64 d2)∧w'.cell? ⟨c,3,none⟩=some (.int .u64 d3)∧w'.cell? ⟨c,4,none⟩=some (.int .u64 d4)∧w'.cell? ⟨c,5,none⟩=some (.int .u64 d5)∧w'.cell? ⟨c,6,none⟩=some (.int .u64 d6)∧w'.cell? ⟨c,7,none⟩=some (.int .u64 d7)∧Below w.heap.size w w')
    (first
     |(go_split_ands;(refine⟨?_,?_,?_,?_,?_,?_,?_,?_,?_⟩<;>(first|assumption|exact keep_drew (by assumption)|exact keep_alloc _ (by assumption)|exact keep_alloc_drew _ (by assumption)|exact Below.drew (by assumption)|exact below_alloc (by assumption) _|exact Below.drew (below_alloc (by assumption) _)))))
    (first
     |(go_at_call 179;refine(to_any _ _ _ _ (by assumption) (by assumption) (by assumption) (by assumption) _).mono ?_;rintro e w' ⟨rfl,o,rfl⟩))
   go_wp2_with fail
   go_ret2
   exact⟨by rw[←HE.out.1,←HE.out.2];rfl,Below.drew (below_alloc (below_alloc kB _) _)⟩
end Go.Proofs.YtdighjgcnaajgaaGreat.gd
