import Derived.Test.YtdighjgcnaajgaaGreatChecked
import Derived.Test.YtdighjgcnaajgaaGreatMS1
import Derived.WalkKit
import Derived.Lib.Hide
import Derived.BigQuiet
import Derived.Deep.QuietTactic
import Derived.Laws.Bits64
import Derived.RegionTactic
import Derived.Deep.RegionHeld3
namespace Go.Proofs.YtdighjgcnaajgaaGreat.gd
open Go.RowKit
def m1 (n:Int):Int:=IntKind.u64.wrap (bits .xor .u64 n (n/1073741824)*13787848793156543929)
def m2 (n:Int):Int:=IntKind.u64.wrap (bits .xor .u64 n (n/134217728)*10723151780598845931)
def m3 (n:Int):Int:=bits .xor .u64 n (n/2147483648)
def mixZ (n:Int):Int:=m3 (m2 (m1 n))
def stepZ (s:Int):Int:=IntKind.u64.wrap (s+11400714819323198485)
theorem wrap_range (n:Int):0≤IntKind.u64.wrap n∧IntKind.u64.wrap n<18446744073709551616:=by rw[IntKind.wrap_u64];omega
theorem m3_range (n:Int):0≤m3 n∧m3 n<18446744073709551616:=wrap_range _
theorem mixZ_range (n:Int):0≤mixZ n∧mixZ n<18446744073709551616:=m3_range _
theorem m1_range (n:Int):0≤m1 n∧m1 n<18446744073709551616:=wrap_range _
theorem m2_range (n:Int):0≤m2 n∧m2 n<18446744073709551616:=wrap_range _
theorem stepZ_range (n:Int):0≤stepZ n∧stepZ n<18446744073709551616:=wrap_range _
theorem ret_int {k:IntKind} {a b:Int} (h:a=b):Ending.returned (.int k a)=.returned (.int k b):=by rw[h]
theorem ret_bool {a b:Bool} (h:a=b):Ending.returned (.bool a)=.returned (.bool b):=by rw[h]
theorem mix_any (n:Int) (w:World):Calls Tryz.prog 79 #[.int .u64 n] w λ e w'=>e=.returned (.int .u64 (mixZ n))∧w=w':=by
 go_enter Tryz.func79,Tryz.ntmps79
 go_wp2_with fail
 go_ret
 exact⟨rfl,rfl⟩
theorem next_any (s:Int) (w:World):Calls Tryz.prog 78 #[.int .u64 s] w λ e w'=>e=.returned (.tuple #[.int .u64 (mixZ (stepZ s)),.int .u64 (stepZ s)])∧w=w':=by
 go_enter Tryz.func78,Tryz.ntmps78
 go_wp2_with (go_at_call 79;refine(mix_any _ _).mono ?_;rintro e w' ⟨rfl,rfl⟩)
 go_ret2
 exact⟨rfl,rfl⟩
theorem mul64_int (x y:Int) (hx0:0≤x) (hx:x<18446744073709551616) (hy0:0≤y) (hy:y<18446744073709551616) (w:World):
  Calls Tryz.prog 182 #[.int .u64 x,.int .u64 y] w λ e w'=>e=.returned (.tuple #[.int .u64 (x*y/18446744073709551616),.int .u64 (x*y%18446744073709551616)])∧w=w':=by
 obtain⟨a,rfl⟩:=Int.eq_ofNat_of_zero_le hx0
 obtain⟨b,rfl⟩:=Int.eq_ofNat_of_zero_le hy0
 refine(Tryz.bits_Mul64 a b (by omega) (by omega) w).mono ?_
 rintro e w' ⟨rfl,rfl⟩
 exact⟨by simp,rfl⟩
def takeZ (s n:Int):Int:=mixZ (stepZ s)*n/18446744073709551616
theorem takeZ_range (s n:Int) (h:1≤n):0≤takeZ s n∧takeZ s n<n:=by
 have hv:=mixZ_range (stepZ s)
 unfold takeZ
 generalize mixZ (stepZ s)=v at hv
 refine⟨Int.ediv_nonneg (Int.mul_nonneg hv.1 (by omega)) (by omega),?_⟩
 rw[Int.ediv_lt_iff_lt_mul (by omega),Int.mul_comm n]
 exact Int.mul_lt_mul_of_pos_right hv.2 (by omega)
theorem below_any (s n:Int) (h:1≤n) (h1:n<9223372036854775808) (w:World):Calls Tryz.prog 155 #[.int .u64 s,.int .i64 n] w λ e w'=>e=.returned (.tuple #[.int .i64 (takeZ s n),.int .u64 (stepZ s)])∧w=w':=by
 have hv:=mixZ_range (stepZ s)
 have ht:=takeZ_range s n h
 have HT:=Lib.hid (show mixZ (stepZ s)*n/18446744073709551616=takeZ s n from rfl)
 have c0:decide (n<1)=false:=by simp;omega
 go_enter Tryz.func155,Tryz.ntmps155
 go_wp2_with fail
 refine(next_any _ _).mono ?_
 rintro e w1 ⟨rfl,rfl⟩
 go_wp2_with fail
 refine(mul64_int _ _ (by omega) (by omega) (by omega) (by omega) _).mono ?_
 rintro e w1 ⟨rfl,rfl⟩
 rw[HT.out]
 go_wp2_with fail
 go_ret2
 exact⟨rfl,rfl⟩
theorem below_none (s n:Int) (h:n<1) (w:World):Calls Tryz.prog 155 #[.int .u64 s,.int .i64 n] w λ e w'=>e=.returned (.tuple #[.int .i64 0,.int .u64 s])∧w=w':=by
 have c0:decide (n<1)=true:=by simp;omega
 go_enter Tryz.func155,Tryz.ntmps155
 go_wp2_with fail
 go_ret2
 exact⟨rfl,rfl⟩
end Go.Proofs.YtdighjgcnaajgaaGreat.gd
namespace Go.Proofs.YtdighjgcnaajgaaGreat.gd
open Go.RowKit
theorem set_drewN (w:World) (m:Nat) (a:Addr) (v:Value):(w.drewN m).setCell a v=(w.setCell a v).drewN m:=rfl
theorem set_out (w:World) (cs:Array Value) (t:TypeId) (n j:Nat) (v:Value) (m:Nat) (hn:n=w.heap.size):((w.alloc (.cells cs t)).drewN m).setCell ⟨n,j,none⟩ v=(w.alloc (.cells (cs.setIfInBounds j v) t)).drewN m:=by
 rw[set_drewN,World.setCell_alloc_at _ _ _ _ _ hn]
theorem below_drewN {B:Nat} {a w:World} (h:Below B a w) (n:Nat):Below B a (w.drewN n):=⟨h.os,h.tape,h.output,h.size,h.block⟩
set_option maxHeartbeats 800000 in
theorem of_any (n:Int) (h0:0≤n) (h1:n<18446744073709551616) (w:World):Calls Tryz.prog 178 #[.int .u64 n] w λ e w'=>e=.returned (.agg #[.int .u64 (n%65536),.int .u64 (n/65536%65536),.int .u64 (n/4294967296%65536),.int .u64 (n/281474976710656)])∧w'=w.alloc (.cells #[.int .u64 (n%65536),.int .u64 (n/65536%65536),.int .u64 (n/4294967296%65536),.int .u64 (n/281474976710656)] 242):=by
 go_enter Tryz.func178,Tryz.ntmps178
 go_wp2_with fail
 exact bodyPost_ret (v:=.agg #[.int .u64 (n%65536),.int .u64 (n/65536%65536),.int .u64 (n/4294967296%65536),.int .u64 (n/281474976710656)]) (by simp[results,Tryz.results178,go_sem]) rfl ⟨rfl,rfl⟩
set_option maxHeartbeats 800000 in
theorem to_any (a b c d:Int) (ha:0≤a∧a<65536) (hb:0≤b∧b<65536) (hc:0≤c∧c<65536) (hd:0≤d∧d<65536) (w:World):
  Calls Tryz.prog 179 #[.agg #[.int .u64 a,.int .u64 b,.int .u64 c,.int .u64 d]] w λ e w'=>e=.returned (.int .u64 (a+b*65536+c*4294967296+d*281474976710656))∧∃o,w'=w.alloc o:=by
 go_enter Tryz.func179,Tryz.ntmps179
 go_wp2_with fail
 go_ret
 exact⟨rfl,_,rfl⟩
end Go.Proofs.YtdighjgcnaajgaaGreat.gd
