import Derived.Test.YtdighjgcnaajgaaGreatMS5
namespace Go.Proofs.YtdighjgcnaajgaaGreat.gd
open Go.RowKit
theorem rstep_any (s:Int) (w:World):Calls Tryz.prog 81 #[.int .u64 s] w λ e w'=>e=.returned (.int .u64 (stepZ s))∧w=w':=by
 go_enter Tryz.func81,Tryz.ntmps81
 go_wp2_with fail
 go_ret
 exact⟨rfl,rfl⟩
theorem fold_any (n b:Int) (h0:0≤n) (h1:n<18446744073709551616) (hb:1≤b) (hb1:b<18446744073709551616) (w:World):Calls Tryz.prog 113 #[.int .u64 n,.int .u64 b] w λ e w'=>e=.returned (.int .u64 (bits .xor .u64 n (n/b)))∧w=w':=by
 have c0:(b==0)=false:=by simp;omega
 go_enter Tryz.func113,Tryz.ntmps113
 go_wp2_with fail
 go_ret
 exact⟨rfl,rfl⟩
theorem low_any (a b:Int) (ha:0≤a∧a<18446744073709551616) (hb:0≤b∧b<18446744073709551616) (w:World):Calls Tryz.prog 112 #[.int .u64 a,.int .u64 b] w λ e w'=>e=.returned (.int .u64 (IntKind.u64.wrap (a*b)))∧Below w.heap.size w w':=by
 go_enter Tryz.func112,Tryz.ntmps112
 go_wp2_with fail
 refine(times_any a b ha hb _).mono ?_
 rintro e w1 ⟨rfl,hb1⟩
 have HB1:=Lib.hid hb1
 clear hb1
 go_wp2_with fail
 go_ret
 exact⟨ret_int (IntKind.wrap_u64 _).symm,HB1.out⟩
theorem xor_range (a b:Int):0≤bits .xor .u64 a b∧bits .xor .u64 a b<18446744073709551616:=wrap_range _
set_option maxHeartbeats 400000 in
theorem rmix_any (n:Int) (h0:0≤n) (h1:n<18446744073709551616) (w:World):Calls Tryz.prog 80 #[.int .u64 n] w λ e w'=>e=.returned (.int .u64 (mixZ n))∧Below w.heap.size w w':=by
 have q1:=m1_range n
 have q2:=m2_range (m1 n)
 go_enter Tryz.func80,Tryz.ntmps80
 go_wp2_with fail
 refine(fold_any n 1073741824 h0 h1 (by omega) (by omega) _).mono ?_
 rintro e w1 ⟨rfl,rfl⟩
 go_wp2_with fail
 refine(low_any _ 13787848793156543929 (xor_range _ _) (by omega) _).mono ?_
 rintro e w1 ⟨rfl,hb1⟩
 have HB1:=Lib.hid hb1
 clear hb1
 rw[show IntKind.u64.wrap (bits .xor .u64 n (n/1073741824)*13787848793156543929)=m1 n from rfl]
 go_wp2_with fail
 refine(fold_any (m1 n) 134217728 q1.1 q1.2 (by omega) (by omega) _).mono ?_
 rintro e w2 ⟨rfl,rfl⟩
 go_wp2_with fail
 refine(low_any _ 10723151780598845931 (xor_range _ _) (by omega) _).mono ?_
 rintro e w2 ⟨rfl,hb1⟩
 have HB2:=Lib.hid hb1
 clear hb1
 rw[show IntKind.u64.wrap (bits .xor .u64 (m1 n) (m1 n/134217728)*10723151780598845931)=m2 (m1 n)from rfl]
 go_wp2_with fail
 refine(fold_any (m2 (m1 n)) 2147483648 q2.1 q2.2 (by omega) (by omega) _).mono ?_
 rintro e w3 ⟨rfl,rfl⟩
 go_wp2_with fail
 go_ret
 exact⟨rfl,HB1.out.trans (HB2.out.mono HB1.out.size)⟩
theorem seqB {w w1 w2:World} (h1:Below w.heap.size w w1) (h2:Below w1.heap.size w1 w2):Below w.heap.size w w2:=h1.trans (h2.mono h1.size)
set_option maxHeartbeats 400000 in
theorem rbelow_any (s n:Int) (h:1≤n) (h1:n<9223372036854775808) (w:World):Calls Tryz.prog 142 #[.int .u64 s,.int .i64 n] w λ e w'=>e=.returned (.tuple #[.int .i64 (takeZ s n),.int .u64 (stepZ s)])∧Below w.heap.size w w':=by
 have hs:=stepZ_range s
 have hv:=mixZ_range (stepZ s)
 have ht:=takeZ_range s n h
 have HT:=Lib.hid (show mixZ (stepZ s)*n/18446744073709551616=takeZ s n from rfl)
 have c0:decide (n<1)=false:=by simp;omega
 go_enter Tryz.func142,Tryz.ntmps142
 go_wp2_with fail
 refine(rstep_any _ _).mono ?_
 rintro e w1 ⟨rfl,rfl⟩
 go_wp2_with fail
 refine(rmix_any _ hs.1 hs.2 _).mono ?_
 rintro e w1 ⟨rfl,hb1⟩
 have HB1:=Lib.hid hb1
 clear hb1
 go_wp2_with fail
 refine(times_any _ _ hv (by omega) _).mono ?_
 rintro e w2 ⟨rfl,hb1⟩
 have HB2:=Lib.hid hb1
 clear hb1
 rw[HT.out]
 go_wp2_with fail
 refine(rstep_any _ _).mono ?_
 rintro e w3 ⟨rfl,rfl⟩
 go_wp2_with fail
 go_ret2
 exact⟨rfl,seqB HB1.out HB2.out⟩
theorem rbelow_none (s n:Int) (h:n<1) (w:World):Calls Tryz.prog 142 #[.int .u64 s,.int .i64 n] w λ e w'=>e=.returned (.tuple #[.int .i64 0,.int .u64 s])∧Below w.heap.size w w':=by
 have c0:decide (n<1)=true:=by simp;omega
 go_enter Tryz.func142,Tryz.ntmps142
 go_wp2_with fail
 go_ret2
 exact⟨rfl,Below.refl _ _⟩
theorem percent_any (s p:Int) (w:World):Calls Tryz.prog 120 #[.int .u64 s,.int .i64 p] w λ e w'=>e=.returned (.tuple #[.bool (decide (takeZ s 100<p)),.int .u64 (stepZ s)])∧w=w':=by
 go_enter Tryz.func120,Tryz.ntmps120
 go_wp2_with fail
 refine(below_any s 100 (by omega) (by omega) _).mono ?_
 rintro e w1 ⟨rfl,rfl⟩
 go_wp2_with fail
 go_ret2
 exact⟨rfl,rfl⟩
theorem rpercent_any (s p:Int) (w:World):Calls Tryz.prog 102 #[.int .u64 s,.int .i64 p] w λ e w'=>e=.returned (.tuple #[.bool (decide (takeZ s 100<p)),.int .u64 (stepZ s)])∧Below w.heap.size w w':=by
 go_enter Tryz.func102,Tryz.ntmps102
 go_wp2_with fail
 refine(rbelow_any s 100 (by omega) (by omega) _).mono ?_
 rintro e w1 ⟨rfl,hb1⟩
 have HB1:=Lib.hid hb1
 clear hb1
 go_wp2_with fail
 go_ret2
 exact⟨rfl,HB1.out⟩
end Go.Proofs.YtdighjgcnaajgaaGreat.gd
namespace Go.Proofs.YtdighjgcnaajgaaGreat.gd
open Go.RowKit
theorem range_o1 (s a b:Int) (h:b<a) (w:World):Calls Tryz.prog 187 #[.int .u64 s,.int .i64 a,.int .i64 b] w λ e w'=>e=.returned (.tuple #[.int .i64 a,.int .u64 s])∧w=w':=by
 have c1:decide (b<a)=true:=by simp;omega
 go_enter Tryz.func187,Tryz.ntmps187
 go_wp2_with fail
 go_ret2
 exact⟨rfl,rfl⟩
theorem range_o2 (s a b:Int) (h:a≤b) (h2:a< -1099511627776) (w:World):Calls Tryz.prog 187 #[.int .u64 s,.int .i64 a,.int .i64 b] w λ e w'=>e=.returned (.tuple #[.int .i64 a,.int .u64 s])∧w=w':=by
 have c1:decide (b<a)=false:=by simp;omega
 have c2:decide (a< -1099511627776)=true:=by simp;omega
 go_enter Tryz.func187,Tryz.ntmps187
 go_wp2_with fail
 go_ret2
 exact⟨rfl,rfl⟩
theorem range_o3 (s a b:Int) (h:a≤b) (h2: -1099511627776≤a) (h3:1099511627776<b) (w:World):Calls Tryz.prog 187 #[.int .u64 s,.int .i64 a,.int .i64 b] w λ e w'=>e=.returned (.tuple #[.int .i64 a,.int .u64 s])∧w=w':=by
 have c1:decide (b<a)=false:=by simp;omega
 have c2:decide (a< -1099511627776)=false:=by simp;omega
 have c5:decide (1099511627776<b)=true:=by simp;omega
 go_enter Tryz.func187,Tryz.ntmps187
 go_wp2_with fail
 go_ret2
 exact⟨rfl,rfl⟩
theorem rrange_o1 (s a b:Int) (h:b<a) (w:World):Calls Tryz.prog 210 #[.int .u64 s,.int .i64 a,.int .i64 b] w λ e w'=>e=.returned (.tuple #[.int .i64 a,.int .u64 s])∧Below w.heap.size w w':=by
 have c1:decide (b<a)=true:=by simp;omega
 go_enter Tryz.func210,Tryz.ntmps210
 go_wp2_with fail
 go_ret2
 exact⟨rfl,Below.refl _ _⟩
theorem rrange_o2 (s a b:Int) (h:a≤b) (h2:a< -1099511627776) (w:World):Calls Tryz.prog 210 #[.int .u64 s,.int .i64 a,.int .i64 b] w λ e w'=>e=.returned (.tuple #[.int .i64 a,.int .u64 s])∧Below w.heap.size w w':=by
 have c1:decide (b<a)=false:=by simp;omega
 have c2:decide (a< -1099511627776)=true:=by simp;omega
 go_enter Tryz.func210,Tryz.ntmps210
 go_wp2_with fail
 go_ret2
 exact⟨rfl,Below.refl _ _⟩
theorem rrange_o3 (s a b:Int) (h:a≤b) (h2:1099511627776<a) (w:World):Calls Tryz.prog 210 #[.int .u64 s,.int .i64 a,.int .i64 b] w λ e w'=>e=.returned (.tuple #[.int .i64 a,.int .u64 s])∧Below w.heap.size w w':=by
 have c1:decide (b<a)=false:=by simp;omega
 have c2:decide (a< -1099511627776)=false:=by simp;omega
 have c3:decide (1099511627776<a)=true:=by simp;omega
 go_enter Tryz.func210,Tryz.ntmps210
 go_wp2_with fail
 go_ret2
 exact⟨rfl,Below.refl _ _⟩
theorem rrange_o5 (s a b:Int) (h:a≤b) (h2: -1099511627776≤a) (h3:a≤1099511627776) (h4:1099511627776<b) (w:World):Calls Tryz.prog 210 #[.int .u64 s,.int .i64 a,.int .i64 b] w λ e w'=>e=.returned (.tuple #[.int .i64 a,.int .u64 s])∧Below w.heap.size w w':=by
 have c1:decide (b<a)=false:=by simp;omega
 have c2:decide (a< -1099511627776)=false:=by simp;omega
 have c3:decide (1099511627776<a)=false:=by simp;omega
 have c4:decide (b< -1099511627776)=false:=by simp;omega
 have c5:decide (1099511627776<b)=true:=by simp;omega
 go_enter Tryz.func210,Tryz.ntmps210
 go_wp2_with fail
 go_ret2
 exact⟨rfl,Below.refl _ _⟩
set_option maxHeartbeats 400000 in
theorem range_in (s a b:Int) (h:a≤b) (h2: -1099511627776≤a) (h3:b≤1099511627776) (w:World):Calls Tryz.prog 187 #[.int .u64 s,.int .i64 a,.int .i64 b] w λ e w'=>e=.returned (.tuple #[.int .i64 (a+takeZ s (b -a+1)),.int .u64 (stepZ s)])∧w=w':=by
 have ht:=takeZ_range s (b -a+1) (by omega)
 have c1:decide (b<a)=false:=by simp;omega
 have c2:decide (a< -1099511627776)=false:=by simp;omega
 have c5:decide (1099511627776<b)=false:=by simp;omega
 go_enter Tryz.func187,Tryz.ntmps187
 go_wp2_with fail
 refine(below_any s (b -a+1) (by omega) (by omega) _).mono ?_
 rintro e w1 ⟨rfl,rfl⟩
 go_wp2_with fail
 go_ret2
 exact⟨rfl,rfl⟩
set_option maxHeartbeats 400000 in
theorem rrange_in (s a b:Int) (h:a≤b) (h2: -1099511627776≤a) (h3:b≤1099511627776) (w:World):Calls Tryz.prog 210 #[.int .u64 s,.int .i64 a,.int .i64 b] w λ e w'=>e=.returned (.tuple #[.int .i64 (a+takeZ s (b -a+1)),.int .u64 (stepZ s)])∧Below w.heap.size w w':=by
 have ht:=takeZ_range s (b -a+1) (by omega)
 have c1:decide (b<a)=false:=by simp;omega
 have c2:decide (a< -1099511627776)=false:=by simp;omega
 have c3:decide (1099511627776<a)=false:=by simp;omega
 have c4:decide (b< -1099511627776)=false:=by simp;omega
 have c5:decide (1099511627776<b)=false:=by simp;omega
 go_enter Tryz.func210,Tryz.ntmps210
 go_wp2_with fail
 refine(rbelow_any s (b -a+1) (by omega) (by omega) _).mono ?_
 rintro e w1 ⟨rfl,hb1⟩
 have HB1:=Lib.hid hb1
 clear hb1
 go_wp2_with fail
 go_ret2
 exact⟨rfl,HB1.out⟩
def rangeV (s a b:Int):Int:=if a≤b∧-1099511627776≤a∧b≤1099511627776 then a+takeZ s (b -a+1)else a
def rangeS (s a b:Int):Int:=if a≤b∧-1099511627776≤a∧b≤1099511627776 then stepZ s else s
theorem range_any (s a b:Int) (w:World):Calls Tryz.prog 187 #[.int .u64 s,.int .i64 a,.int .i64 b] w λ e w'=>e=.returned (.tuple #[.int .i64 (rangeV s a b),.int .u64 (rangeS s a b)])∧w=w':=by
 unfold rangeV rangeS
 by_cases h:a≤b∧-1099511627776≤a∧b≤1099511627776
 ·rw[if_pos h,if_pos h]
  exact range_in s a b h.1 h.2.1 h.2.2 w
 ·rw[if_neg h,if_neg h]
  by_cases h1:b<a
  ·exact range_o1 s a b h1 w
  ·by_cases h2:a< -1099511627776
   ·exact range_o2 s a b (by omega) h2 w
   ·exact range_o3 s a b (by omega) (by omega) (by omega) w
theorem rrange_any (s a b:Int) (w:World):Calls Tryz.prog 210 #[.int .u64 s,.int .i64 a,.int .i64 b] w λ e w'=>e=.returned (.tuple #[.int .i64 (rangeV s a b),.int .u64 (rangeS s a b)])∧Below w.heap.size w w':=by
 unfold rangeV rangeS
 by_cases h:a≤b∧-1099511627776≤a∧b≤1099511627776
 ·rw[if_pos h,if_pos h]
  exact rrange_in s a b h.1 h.2.1 h.2.2 w
 ·rw[if_neg h,if_neg h]
  by_cases h1:b<a
  ·exact rrange_o1 s a b h1 w
  ·by_cases h2:a< -1099511627776
   ·exact rrange_o2 s a b (by omega) h2 w
   ·by_cases h3:1099511627776<a
    ·exact rrange_o3 s a b (by omega) h3 w
    ·exact rrange_o5 s a b (by omega) (by omega) (by omega) (by omega) w
end Go.Proofs.YtdighjgcnaajgaaGreat.gd
namespace Go.Proofs.YtdighjgcnaajgaaGreat.gd
open Go.RowKit
def streamTo:List Int→Int→Int
 |[],s=>s
 |z::r,s=>streamTo r (mixZ (bits .xor .u64 s (mixZ (stepZ z))))
theorem streamTo_snoc (l:List Int) (z s:Int):streamTo (l++[z]) s=mixZ (bits .xor .u64 (streamTo l s) (mixZ (stepZ z))):=by
 induction l generalizing s with
 |nil=>rfl
 |cons a r ih=>simp only[List.cons_append,streamTo];exact ih _
theorem streamTo_range (l:List Int) (s:Int) (h:0≤s∧s<18446744073709551616):0≤streamTo l s∧streamTo l s<18446744073709551616:=by
 induction l generalizing s with
 |nil=>exact h
 |cons a r ih=>simp only[streamTo];exact ih _ (mixZ_range _)
theorem streamTo_succ (zs:List Int) (k:Nat) (h:k<zs.length) (s:Int):streamTo (zs.take (k+1)) s=mixZ (bits .xor .u64 (streamTo (zs.take k) s) (mixZ (stepZ (zs.getD k 0)))):=by
 rw[←streamTo_snoc,List.take_succ_eq_append_getElem h,List.getD_eq_getElem?_getD,List.getElem?_eq_getElem h];rfl
set_option maxHeartbeats 800000 in
theorem stream_some (s:Int) (b off cap:Nat) (zs:List Int) (w:World) (hm:zs.length≤maxLen)
  (hc:∀k,k<zs.length→w.cell? ⟨b,off+k,none⟩=some (.int .u64 (zs.getD k 0))):
  Calls Tryz.prog 32 #[.int .u64 s,.slice (some ⟨b,off,none⟩) zs.length cap] w λ e w'=>e=.returned (.int .u64 (streamTo zs (mixZ (stepZ s))))∧w=w':=by
 unfold maxLen at hm
 have HC:=Lib.hid hc
 clear hc
 generalize hl:zs.length=len at*
 have HL:=Lib.hid hl
 clear hl
 go_enter Tryz.func32,Tryz.ntmps32
 go_wp2_with fail
 refine(next_any _ _).mono ?_
 rintro e w1 ⟨rfl,rfl⟩
 go_wp2_with fail
 go_loop [5,18] (λ m i=>∃(k:Nat) (t:Int),k≤len∧i=.int .i64 k∧m=.int .u64 t∧Hid (t=streamTo (zs.take k) (mixZ (stepZ s)))) (λ _ i=>len -(intOf i).toNat)
 case atStart=>exact⟨0,_,by omega,rfl,rfl,Lib.hid rfl⟩
 case round=>
  obtain⟨k,t,hk,rfl,rfl,HT⟩:=hrel
  by_cases hlt:k<len
  ·have g:=HC.out k hlt
   have HS:=Lib.hid (streamTo_succ zs k (by rw[HL.out];exact hlt) (mixZ (stepZ s)))
   go_wp2_with fail
   refine(next_any _ _).mono ?_
   rintro e w1 ⟨rfl,rfl⟩
   go_wp2_with fail
   refine(mix_any _ _).mono ?_
   rintro e w1 ⟨rfl,rfl⟩
   go_wp2_with fail
   go_round
   case rel=>exact⟨k+1,_,by omega,by go_num,rfl,Lib.hid (by rw[HS.out,←HT.out,List.getD_eq_getElem?_getD])⟩
   case measure=>simp[intOf];omega
  ·go_wp2_with fail
   go_ret
   exact⟨ret_int (by rw[HT.out,List.take_of_length_le (by rw[HL.out];omega)]),rfl⟩
set_option maxHeartbeats 800000 in
theorem stream_nil (s:Int) (a:Option Addr) (cap:Nat) (w:World):
  Calls Tryz.prog 32 #[.int .u64 s,.slice a 0 cap] w λ e w'=>e=.returned (.int .u64 (mixZ (stepZ s)))∧w=w':=by
 go_enter Tryz.func32,Tryz.ntmps32
 go_wp2_with fail
 refine(next_any _ _).mono ?_
 rintro e w1 ⟨rfl,rfl⟩
 go_wp2_with fail
 go_loop [5,18] (λ m i=>i=.int .i64 0∧m=.int .u64 (mixZ (stepZ s))) (λ _ i=>0)
 case atStart=>exact⟨rfl,rfl⟩
 case round=>
  obtain⟨rfl,rfl⟩:=hrel
  go_wp2_with fail
  go_ret
  exact⟨rfl,rfl⟩
set_option maxHeartbeats 800000 in
theorem rstream_nil (s:Int) (a:Option Addr) (cap:Nat) (w:World):
  Calls Tryz.prog 33 #[.int .u64 s,.slice a 0 cap] w λ e w'=>e=.returned (.int .u64 (mixZ (stepZ s)))∧Below w.heap.size w w':=by
 have q:=stepZ_range s
 go_enter Tryz.func33,Tryz.ntmps33
 go_wp2_with fail
 refine(rstep_any _ _).mono ?_
 rintro e w1 ⟨rfl,rfl⟩
 go_wp2_with fail
 refine(rmix_any _ q.1 q.2 _).mono ?_
 rintro e w1 ⟨rfl,hb1⟩
 have HB1:=Lib.hid hb1
 clear hb1
 go_wp2_with fail
 go_loop [5,6] (λ m i=>i=.int .i64 0∧m=.int .u64 (mixZ (stepZ s))) (λ _ i=>0)
 case atStart=>exact⟨rfl,rfl⟩
 case round=>
  obtain⟨rfl,rfl⟩:=hrel
  go_wp2_with fail
  go_ret
  exact⟨rfl,HB1.out⟩
set_option maxHeartbeats 800000 in
theorem rstream_some (s:Int) (b off cap:Nat) (zs:List Int) (w:World) (hm:zs.length≤maxLen) (hlt:b<w.heap.size)
  (hc:∀k,k<zs.length→w.cell? ⟨b,off+k,none⟩=some (.int .u64 (zs.getD k 0))):
  Calls Tryz.prog 33 #[.int .u64 s,.slice (some ⟨b,off,none⟩) zs.length cap] w λ e w'=>e=.returned (.int .u64 (streamTo zs (mixZ (stepZ s))))∧Below w.heap.size w w':=by
 unfold maxLen at hm
 have q:=stepZ_range s
 have HC:=Lib.hid hc
 clear hc
 generalize hl:zs.length=len at*
 have HL:=Lib.hid hl
 clear hl
 go_enter Tryz.func33,Tryz.ntmps33
 go_wp2_with fail
 refine(rstep_any _ _).mono ?_
 rintro e w1 ⟨rfl,rfl⟩
 go_wp2_with fail
 refine(rmix_any _ q.1 q.2 _).mono ?_
 rintro e w1 ⟨rfl,hb1⟩
 have HB1:=Lib.hid hb1
 clear hb1
 go_wp2_with fail
 go_loopw [5,6] (λ m i w'=>∃(k:Nat) (t:Int),k≤len∧i=.int .i64 k∧m=.int .u64 t∧(0≤t∧t<18446744073709551616)∧Hid (t=streamTo (zs.take k) (mixZ (stepZ s)))∧Hid (Below w.heap.size w w')) (λ _ i _=>len -(intOf i).toNat)
 case atStart=>exact⟨0,_,by omega,rfl,rfl,mixZ_range _,Lib.hid rfl,HB1⟩
 case round=>
  clear HB1
  obtain⟨k,t,hk,rfl,rfl,ht,HT,HB⟩:=hrel
  by_cases hlt:k<len
  ·have g:=(HB.out.cell (by assumption)).trans (HC.out k hlt)
   have HS:=Lib.hid (streamTo_succ zs k (by rw[HL.out];exact hlt) (mixZ (stepZ s)))
   go_wp2_with fail
   refine(rstep_any _ _).mono ?_
   rintro e w1 ⟨rfl,rfl⟩
   go_wp2_with fail
   refine(rmix_any _ (stepZ_range _).1 (stepZ_range _).2 _).mono ?_
   rintro e w1 ⟨rfl,hb1⟩
   have HB1:=Lib.hid hb1
   clear hb1
   go_wp2_with fail
   refine(rmix_any _ (xor_range _ _).1 (xor_range _ _).2 _).mono ?_
   rintro e w2 ⟨rfl,hb1⟩
   have HB2:=Lib.hid hb1
   clear hb1
   go_wp2_with fail
   go_roundw
   case rel=>exact⟨k+1,_,by omega,by go_num,rfl,mixZ_range _,Lib.hid (by rw[HS.out,←HT.out,List.getD_eq_getElem?_getD]),Lib.hid (seqB HB.out (seqB HB1.out HB2.out))⟩
   case measure=>simp[intOf];omega
  ·go_wp2_with fail
   go_ret
   exact⟨ret_int (by rw[HT.out,List.take_of_length_le (by rw[HL.out];omega)]),HB.out⟩
end Go.Proofs.YtdighjgcnaajgaaGreat.gd
