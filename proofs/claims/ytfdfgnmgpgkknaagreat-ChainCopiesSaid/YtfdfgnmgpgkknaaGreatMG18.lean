import Derived.Test.YtfdfgnmgpgkknaaGreatMG1
import Derived.Test.YtfdfgnmgpgkknaaGreatMG3
import Derived.RegionTactic
set_option maxHeartbeats 400000
open Go.Proofs.Tryz renaming prog→zf
open Go.Lib renaming hid→zd
open Go.Proofs.Tryz
namespace Go.Proofs.YtfdfgnmgpgkknaaGreat.gb
open Go.RowKit
theorem Z9 (n:Int) (w:World):Calls zf 122 #[.int .i64 n] w λ e w'=>e=.returned (.int .i64 (qe n))∧w=w':=by
 go_enter func122,ntmps122
 go_wp2
 all_goals go_ret
 all_goals exact⟨qR (by unfold qe;(repeat' split at*)<;>omega),rfl⟩
theorem Jn (n:Int) (w:World):Calls zf 129 #[.int .i64 n] w λ e w'=>e=.returned (.bool (n==qe n))∧w=w':=by
 go_enter func129,ntmps129
 go_wp2_with (go_at_call 122;refine(Z9 _ _).mono ?_;rintro e w' ⟨rfl,rfl⟩)
 go_ret
 exact⟨rfl,rfl⟩
theorem Yv (a b:Int) (w:World):Calls zf 97 #[.int .i64 a,.int .i64 b] w λ e w'=>e=.returned (.int .i64 (qe (qe a+qe b)))∧w=w':=by
 have ha:=qw a
 have hb:=qw b
 go_enter func97,ntmps97
 go_wp2_with (go_at_call 122;refine(Z9 _ _).mono ?_;rintro e w' ⟨rfl,rfl⟩)
 go_ret
 exact⟨rfl,rfl⟩
theorem VL (x y:Int) (hx0:0≤x) (hx:x<18446744073709551616) (hy0:0≤y) (hy:y<18446744073709551616) (w:World):
  Calls zf 141 #[.int .u64 x,.int .u64 y] w λ e w'=>e=.returned (.tuple #[.int .u64 (x*y/18446744073709551616),.int .u64 (x*y%18446744073709551616)])∧w=w':=by
 obtain⟨a,rfl⟩:=Int.eq_ofNat_of_zero_le hx0
 obtain⟨b,rfl⟩:=Int.eq_ofNat_of_zero_le hy0
 refine(bits_Mul64 a b (by omega) (by omega) w).mono ?_
 rintro e w' ⟨rfl,rfl⟩
 exact⟨by simp,rfl⟩
theorem Lt (lo y:Int) (h0:0≤lo) (h1:lo<18446744073709551616) (hy0:1≤y) (hy:y<18446744073709551616) (w:World):
  Calls zf 154 #[.int .u64 0,.int .u64 lo,.int .u64 y] w λ e w'=>e=.returned (.tuple #[.int .u64 (lo/y),.int .u64 (lo%y)])∧∃n,w'=w.drewN n:=by
 have c0:(y==0)=false:=by simp;omega
 have c1:decide (y≤0)=false:=by simp;omega
 go_enter func154,ntmps154
 go_wp2_with fail
 go_quiet (fail)
 go_wp2_with fail
 go_ret2
 exact⟨rfl,_,rfl⟩
theorem P1 (x y:Int) (hx0:0≤x) (hx:x<18446744073709551616) (hy0:0≤y) (hy:y<18446744073709551616) (h:x*y<18446744073709551616) (w:World):
  Calls zf 141 #[.int .u64 x,.int .u64 y] w λ e w'=>e=.returned (.tuple #[.int .u64 0,.int .u64 (x*y)])∧w=w':=by
 have h0:0≤x*y:=Int.mul_nonneg hx0 hy0
 refine(VL x y hx0 hx hy0 hy w).mono ?_
 rintro e w' ⟨rfl,rfl⟩
 refine⟨?_,rfl⟩
 rw[Int.ediv_eq_zero_of_lt h0 h,Int.emod_eq_of_lt h0 h]
def J5 (a b c:Int):Int:=if qe a=0∨qe b=0 then 0 else if qe c=0 then 1099511627776 else if qe a*qe b/qe c≤1099511627776 then qe a*qe b/qe c else 1099511627776
theorem M8 (a b c:Int) (h:qe a=0∨qe b=0) (w:World):
  Calls zf 149 #[.int .i64 a,.int .i64 b,.int .i64 c] w λ e w'=>e=.returned (.int .i64 (J5 a b c))∧∃n,w'=w.drewN n:=by
 have HF:=zd (show J5 a b c=0 by unfold J5;rw[if_pos h])
 by_cases e0:qe a=0
 ·have c0:(qe a==0)=true:=by simp[e0]
  clear e0 h
  go_enter func149,ntmps149
  go_wp2_with (go_at_call 122;refine(Z9 _ _).mono ?_;rintro e w' ⟨rfl,rfl⟩)
  go_ret
  exact⟨qR HF.out.symm,0,rfl⟩
 ·have c0:(qe a==0)=false:=by simp[e0]
  have c1:(qe b==0)=true:=by simp;omega
  clear e0 h
  go_enter func149,ntmps149
  go_wp2_with (go_at_call 122;refine(Z9 _ _).mono ?_;rintro e w' ⟨rfl,rfl⟩)
  go_ret
  exact⟨qR HF.out.symm,0,rfl⟩
theorem M9 (a b c:Int) (ha1:1≤qe a) (hb1:1≤qe b) (h:qe c≤qe a*qe b/18446744073709551616) (w:World):
  Calls zf 149 #[.int .i64 a,.int .i64 b,.int .i64 c] w λ e w'=>e=.returned (.int .i64 (J5 a b c))∧∃n,w'=w.drewN n:=by
 have ha:=qw a
 have hb:=qw b
 have hc:=qw c
 have hp:=qO _ _ ha hb
 have c0:(qe a==0)=false:=by simp;omega
 have c1:(qe b==0)=false:=by simp;omega
 have HF:=zd (show J5 a b c=1099511627776 by
  unfold J5
  rw[if_neg (by omega)]
  by_cases e:qe c=0
  ·rw[if_pos e]
  ·rw[if_neg e,if_neg]
   have h1:qe c*18446744073709551616≤qe a*qe b:=by omega
   have h2:18446744073709551616≤qe a*qe b/qe c:=by
    rw[Int.le_ediv_iff_mul_le (by omega),Int.mul_comm];exact h1
   omega)
 go_enter func149,ntmps149
 go_wp2_with (first|(go_at_call 122;refine(Z9 _ _).mono ?_;rintro e w' ⟨rfl,rfl⟩)|(go_at_call 141;refine(VL _ _ (by omega) (by omega) (by omega) (by omega) _).mono ?_;rintro e w' ⟨rfl,rfl⟩))
 go_ret
 exact⟨qR HF.out.symm,0,rfl⟩
theorem Pm (a b c:Int) (ha1:1≤qe a) (hb1:1≤qe b) (hc1:1≤qe c) (h:qe a*qe b<18446744073709551616) (w:World):
  Calls zf 149 #[.int .i64 a,.int .i64 b,.int .i64 c] w λ e w'=>e=.returned (.int .i64 (J5 a b c))∧∃n,w'=w.drewN n:=by
 have ha:=qw a
 have hb:=qw b
 have hc:=qw c
 have hp:=qO _ _ ha hb
 have c0:(qe a==0)=false:=by simp;omega
 have c1:(qe b==0)=false:=by simp;omega
 have c2:decide (qe c≤0)=false:=by simp;omega
 have HF:=zd (show J5 a b c=if qe a*qe b/qe c≤1099511627776 then qe a*qe b/qe c else 1099511627776 by
  unfold J5
  rw[if_neg (by omega),if_neg (by omega)])
 have q0:0≤qe a*qe b/qe c:=Int.ediv_nonneg (by omega) (by omega)
 go_enter func149,ntmps149
 go_wp2_with (first|(go_at_call 122;refine(Z9 _ _).mono ?_;rintro e w' ⟨rfl,rfl⟩)|(go_at_call 141;refine(P1 _ _ (by omega) (by omega) (by omega) (by omega) h _).mono ?_;rintro e w' ⟨rfl,rfl⟩)|(go_at_call 154;refine(Lt _ _ (by omega) (by omega) (by omega) (by omega) _).mono ?_;rintro e w' ⟨rfl,n,rfl⟩))
 all_goals go_ret
 all_goals exact⟨qR (by rw[HF.out];first|exact Int.min_def _ _|(split<;>omega)),_,rfl⟩
theorem Sa (a b:Int):J5 a b 1=qe (qe a*qe b):=by
 have ha:=qw a
 have hb:=qw b
 have hp:=qO _ _ ha hb
 have h1:qe 1=1:=by decide
 unfold J5
 rw[h1,Int.ediv_one,if_neg (show¬((1:Int)=0) by omega)]
 split
 ·rename_i h
  rcases h with h|h<;>rw[h]<;>simp[qe]
 ·rw[Yl _ hp.1]
  (repeat' split)<;>omega
theorem Gh (a b:Int) (w:World):Calls zf 149 #[.int .i64 a,.int .i64 b,.int .i64 1] w λ e w'=>e=.returned (.int .i64 (qe (qe a*qe b)))∧∃n,w'=w.drewN n:=by
 have ha:=qw a
 have hb:=qw b
 have hp:=qO _ _ ha hb
 have h1:qe 1=1:=by decide
 rw[←Sa]
 by_cases h0:qe a=0∨qe b=0
 ·exact M8 a b 1 h0 w
 ·by_cases hl:qe a*qe b<18446744073709551616
  ·exact Pm a b 1 (by omega) (by omega) (by omega) hl w
  ·exact M9 a b 1 (by omega) (by omega) (by omega) w
theorem Ey (a b:Int) (w:World):Calls zf 139 #[.int .i64 a,.int .i64 b] w λ e w'=>e=.returned (.int .i64 (qe (qe a*qe b)))∧∃n,w'=w.drewN n:=by
 go_enter func139,ntmps139
 go_wp2_with (go_at_call 149;refine(Gh _ _ _).mono ?_;rintro e w' ⟨rfl,n,rfl⟩)
 go_ret
 exact⟨rfl,_,rfl⟩
end Go.Proofs.YtfdfgnmgpgkknaaGreat.gb
