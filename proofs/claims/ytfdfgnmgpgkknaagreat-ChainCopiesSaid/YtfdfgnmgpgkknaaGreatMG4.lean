import Derived.Test.YtfdfgnmgpgkknaaGreatChecked
import Derived.Test.YtfdfgnmgpgkknaaGreatMG3
import Derived.WalkKit
import Derived.Lib.Hide
import Derived.BigQuiet
import Derived.Deep.QuietTactic
import Derived.Laws.Bits64
import Derived.RegionTactic
open Go.Proofs.Tryz renaming prog→zf
open Go.Lib renaming hid→zd
open Go.Proofs.Tryz
namespace Go.Proofs.YtfdfgnmgpgkknaaGreat.gd
open Go.RowKit
def m1 (n:Int):Int:=IntKind.u64.wrap (bits .xor .u64 n (n/1073741824)*13787848793156543929)
def m2 (n:Int):Int:=IntKind.u64.wrap (bits .xor .u64 n (n/134217728)*10723151780598845931)
def m3 (n:Int):Int:=bits .xor .u64 n (n/2147483648)
def K3 (n:Int):Int:=m3 (m2 (m1 n))
def XT (s:Int):Int:=IntKind.u64.wrap (s+11400714819323198485)
theorem J1 (n:Int):0≤IntKind.u64.wrap n∧IntKind.u64.wrap n<18446744073709551616:=by rw[IntKind.wrap_u64];omega
theorem Gn (n:Int):0≤m3 n∧m3 n<18446744073709551616:=J1 _
theorem V8 (n:Int):0≤K3 n∧K3 n<18446744073709551616:=Gn _
theorem Gq (n:Int):0≤m1 n∧m1 n<18446744073709551616:=J1 _
theorem Gp (n:Int):0≤m2 n∧m2 n<18446744073709551616:=J1 _
theorem TE (n:Int):0≤XT n∧XT n<18446744073709551616:=J1 _
theorem qR {k:IntKind} {a b:Int} (h:a=b):Ending.returned (.int k a)=.returned (.int k b):=by rw[h]
theorem qp {a b:Bool} (h:a=b):Ending.returned (.bool a)=.returned (.bool b):=by rw[h]
theorem EA (n:Int) (w:World):Calls zf 150 #[.int .u64 n] w λ e w'=>e=.returned (.int .u64 (K3 n))∧w=w':=by
 go_enter func150,ntmps150
 go_wp2_with fail
 go_ret
 exact⟨rfl,rfl⟩
theorem O8 (s:Int) (w:World):Calls zf 140 #[.int .u64 s] w λ e w'=>e=.returned (.tuple #[.int .u64 (K3 (XT s)),.int .u64 (XT s)])∧w=w':=by
 go_enter func140,ntmps140
 go_wp2_with (go_at_call 150;refine(EA _ _).mono ?_;rintro e w' ⟨rfl,rfl⟩)
 go_ret2
 exact⟨rfl,rfl⟩
theorem VL (x y:Int) (hx0:0≤x) (hx:x<18446744073709551616) (hy0:0≤y) (hy:y<18446744073709551616) (w:World):
  Calls zf 141 #[.int .u64 x,.int .u64 y] w λ e w'=>e=.returned (.tuple #[.int .u64 (x*y/18446744073709551616),.int .u64 (x*y%18446744073709551616)])∧w=w':=by
 obtain⟨a,rfl⟩:=Int.eq_ofNat_of_zero_le hx0
 obtain⟨b,rfl⟩:=Int.eq_ofNat_of_zero_le hy0
 refine(bits_Mul64 a b (by omega) (by omega) w).mono ?_
 rintro e w' ⟨rfl,rfl⟩
 exact⟨by simp,rfl⟩
def X6 (s n:Int):Int:=K3 (XT s)*n/18446744073709551616
theorem Xo (s n:Int) (h:1≤n):0≤X6 s n∧X6 s n<n:=by
 have hv:=V8 (XT s)
 unfold X6
 generalize K3 (XT s)=v at hv
 refine⟨Int.ediv_nonneg (Int.mul_nonneg hv.1 (by omega)) (by omega),?_⟩
 rw[Int.ediv_lt_iff_lt_mul (by omega),Int.mul_comm n]
 exact Int.mul_lt_mul_of_pos_right hv.2 (by omega)
theorem Ku (s n:Int) (h:1≤n) (h1:n<9223372036854775808) (w:World):Calls zf 118 #[.int .u64 s,.int .i64 n] w λ e w'=>e=.returned (.tuple #[.int .i64 (X6 s n),.int .u64 (XT s)])∧w=w':=by
 have hv:=V8 (XT s)
 have ht:=Xo s n h
 have HT:=zd (show K3 (XT s)*n/18446744073709551616=X6 s n from rfl)
 have c0:decide (n<1)=false:=by simp;omega
 go_enter func118,ntmps118
 go_wp2_with fail
 refine(O8 _ _).mono ?_
 rintro e w1 ⟨rfl,rfl⟩
 go_wp2_with fail
 refine(VL _ _ (by omega) (by omega) (by omega) (by omega) _).mono ?_
 rintro e w1 ⟨rfl,rfl⟩
 rw[HT.out]
 go_wp2_with fail
 go_ret2
 exact⟨rfl,rfl⟩
end Go.Proofs.YtfdfgnmgpgkknaaGreat.gd
