import Derived.Test.YtfdfgnmgpgkknaaGreatMG7
import Derived.Deep.RegionHeld
set_option maxRecDepth 100000
set_option maxHeartbeats 8000000
open Go.Proofs.Tryz renaming prog→zf
open Go.Lib renaming hid→zd
open Go.RowKit.Below renaming refl→zh
open Nat renaming le_refl→zg
open Go renaming heap_alloc_new→zo
open Go.Proofs.Tryz
namespace Go.Proofs.YtfdfgnmgpgkknaaGreat.gx
open Go.RowKit
theorem Y2 (s:ByteArray) (hs:s.size≤maxLen) (k:Int) (up:Bool) (o a b:Int) (w:World):Calls zf 51 #[.agg #[.string s,.int .i64 k,.bool up,.int .i64 o,.int .i64 a,.int .i64 b]] w (Chk s k o a b w):=by
 unfold Chk
 have HB:=zd (show Below w.heap.size w (w.alloc (.cells #[.string s,.int .i64 k,.bool up,.int .i64 o,.int .i64 a,.int .i64 b] 35))from(zh _ _).alloc (zg _) _)
 have HN:=zd (λ W=>PE s hs W)
 have HP:=zd (λ W=>Si s k up o a b W)
 obtain⟨N,hN⟩:∃N,JC s=N:=⟨_,rfl⟩
 obtain⟨P,hP⟩:∃P,Zv k a b=P:=⟨_,rfl⟩
 have HV:=zd (show Ye s k o a b=if N=false then 90 else if k<1∨7<k then 91 else if o<0∨100<o∨P=false then 92 else 0 by unfold Ye;rw[hN,hP])
 rw[hN]at HN
 unfold FJ at HP
 rw[hP]at HP
 clear hN hP hs
 have HK:=zd (zo w (.cells #[.string s,.int .i64 k,.bool up,.int .i64 o,.int .i64 a,.int .i64 b] 35))
 have fin:∀(c:Int),Ye s k o a b=c→Ending.returned (.int .i64 c)=.returned (.int .i64 (Ye s k o a b)):=λ c h=>by rw[h]
 have HF:=zd fin
 clear fin
 cases N with
 |false=>
  have HV1:=zd (HV.out.trans (if_pos rfl))
  go_enter func51,ntmps51
  go_wp2_with fail
  refine(HN.out _).mono ?_
  rintro e w' ⟨rfl,rfl⟩
  go_wp2_with fail
  go_ret
  exact⟨HF.out _ HV1.out,HB.out⟩
 |true=>
  by_cases hk:k<1∨7<k
  ·have HV1:=zd (HV.out.trans (by rw[if_neg (by simp),if_pos hk]:_=(91:Int)))
   go_enter func51,ntmps51
   go_wp2_with fail
   refine(HN.out _).mono ?_
   rintro e w' ⟨rfl,rfl⟩
   go_wp2_with fail
   all_goals first
    |(go_ret;exact⟨HF.out _ HV1.out,HB.out⟩)
    |(exfalso;omega)
  ·by_cases ho:o<0∨100<o
   ·have HV1:=zd (HV.out.trans (by rw[if_neg (by simp),if_neg hk,if_pos (by omega)]:_=(92:Int)))
    have k1:decide (k<1)=false:=decide_eq_false (by omega)
    have k2:decide (7<k)=false:=decide_eq_false (by omega)
    go_enter func51,ntmps51
    go_wp2_with fail
    refine(HN.out _).mono ?_
    rintro e w' ⟨rfl,rfl⟩
    by_cases o1:o<0
    ·have o2:decide (o<0)=true:=decide_eq_true o1
     go_wp2_with fail
     go_ret
     exact⟨HF.out _ HV1.out,HB.out⟩
    ·have o2:decide (o<0)=false:=decide_eq_false o1
     have o3:decide (100<o)=true:=decide_eq_true (by omega)
     go_wp2_with fail
     go_ret
     exact⟨HF.out _ HV1.out,HB.out⟩
   ·have k1:decide (k<1)=false:=decide_eq_false (by omega)
    have k2:decide (7<k)=false:=decide_eq_false (by omega)
    have o2:decide (o<0)=false:=decide_eq_false (by omega)
    have o3:decide (100<o)=false:=decide_eq_false (by omega)
    have HV1:=zd (HV.out.trans (show _=if P=false then(92:Int)else 0 by
     rw[if_neg (by simp),if_neg hk]
     have e:(o<0∨100<o∨P=false)↔P=false:=⟨λ h=>by rcases h with h|h|h;exact absurd (Or.inl h) ho;exact absurd (Or.inr h) ho;exact h,λ h=>Or.inr (Or.inr h)⟩
     simp only[e]))
    clear hk ho
    go_enter func51,ntmps51
    go_wp2_with fail
    refine(HN.out _).mono ?_
    rintro e w' ⟨rfl,rfl⟩
    go_wp2_with fail
    refine(HP.out _).mono ?_
    rintro e w' ⟨rfl,hb⟩
    have HE:=zd (seqB HB.out hb)
    clear hb
    cases P with
    |false=>
     go_wp2_with fail
     go_ret
     exact⟨HF.out _ HV1.out,HE.out⟩
    |true=>
     go_wp2_with fail
     go_ret
     exact⟨HF.out _ HV1.out,HE.out⟩
end Go.Proofs.YtfdfgnmgpgkknaaGreat.gx
