import Derived.Test.YtfdfgnmgpgkknaaGreatLCopies
import Derived.Test.YtfdfgnmgpgkknaaGreatR
namespace Go.Proofs.YtfdfgnmgpgkknaaGreat.chainCopies
open Go.ChangeShapes Go.WideShapes Go.ChangeAt Go.RowKit Go.ChangeMaps
set_option maxRecDepth 100000 in
theorem lifted (os:Os) (started:os.Started) (H:Type) (enc:TypeId×Value→H):
  ReturnsInHanded {} Tryz.checked os 4 .any (Rows.chainCopiesSpec.pre6 enc Tryz.prog Tryz.f4 Rows.chainCopiesRow.domain false) (Rows.chainCopiesSpec.post enc Tryz.prog Tryz.f4 false true false false):=by
 refine returnsInHanded_of_change_sized (C:=Tryz.checked) own started (by kernel_rfl) Tryz.func4
  (ChangeSpec.witness6 (enc:=enc) (C:=Tryz.checked) false ⟨#[],#[.int .i64 0,.slice none 0 0,.slice none 0 0],[]⟩ 8 (by kernel_rfl) (by kernel_rfl) (by kernel_rfl) (by kernel_rfl)) ?_
 intro W base args ds gs before hval0 hW _ hsz0 _
 have hval:∀(j:Nat) t v,Tryz.f4.params[j]?=some t→args[j]?=some v→Value.okWide Tryz.prog W .any base t v:=hval0
 have hW':=hW
 obtain⟨p,q,hA0,hV,rfl,hfz,hnd⟩:=hW
 have hA:DataW.TrodAll enc Tryz.prog W 0 (λ _=>true) true Tryz.f4.params.toList args.toList ds p:=hA0
 have hsz:(DataW.weightsEach Tryz.prog (Tryz.f4.params.toList++Rows.chainCopiesSpec.plain.varTypes Tryz.prog) (ds++gs)).all (·≤reachBytes)=true:=hsz0
 rw[Tryz.params4]at hA hval hsz
 obtain⟨v0,vs0,d0,ds0,p0,q0,hargs,rfl,rfl,h0,r0⟩:=trodAll_cons hA
 obtain⟨v1,vs1,d1,ds1,p1,q1,rfl,rfl,rfl,h1,r1⟩:=trodAll_cons r0
 obtain⟨v2,vs2,d2,ds2,p2,q2,rfl,rfl,rfl,h2,r2⟩:=trodAll_cons r1
 obtain⟨rfl,rfl,rfl⟩:=trodAll_nil r2
 obtain rfl:args=#[v0,v1,v2]:=by cases args;simp_all
 obtain⟨rfl,rfl⟩:=trodVars_none hV
 obtain⟨a0,rfl,rfl,rfl,w0⟩:=open_int Tryz.underlying3 (hval 0 3 v0 rfl rfl) h0
 obtain⟨ad1,len1,cap1,rfl⟩:=okWide_slice Tryz.underlying22 (hval 1 22 v1 rfl rfl)
 obtain⟨ad2,len2,cap2,rfl⟩:=okWide_slice Tryz.underlying22 (hval 2 22 v2 rfl rfl)
 clear hA0 hval0
 try simp only[List.append_nil]at hW'
 try simp only[List.nil_append]at hW'
 have hlt1:∀x∈p1,x.block<W.heap.size:=λ x hx=>hW'.lt x (by simp[hx])
 have hargs1:∀(W':World),Below W.heap.size W W'→DataW.Trod enc Tryz.prog W' 0 (λ b=>decide (b<W.heap.size)) true 22 (.slice ad1 len1 cap1) d1 p1:=
  λ W' hn=>Below.trod laidOut (by kernel_rfl) (of_decide_eq_true (by kernel_rfl)) h1 hn hlt1
 obtain⟨os1,hx1,hm1,hb1,hz1,hi1⟩:=O1 h1 (λ n hn=>by simpa using List.all_eq_true.1 hsz n (DataW.weights_mem_each (j:=1) (t:=22) rfl rfl n hn))
 have hlt2:∀x∈p2,x.block<W.heap.size:=λ x hx=>hW'.lt x (by simp[hx])
 have hargs2:∀(W':World),Below W.heap.size W W'→DataW.Trod enc Tryz.prog W' 0 (λ b=>decide (b<W.heap.size)) true 22 (.slice ad2 len2 cap2) d2 p2:=
  λ W' hn=>Below.trod laidOut (by kernel_rfl) (of_decide_eq_true (by kernel_rfl)) h2 hn hlt2
 obtain⟨os2,hx2,hm2,hb2,hz2,hi2⟩:=O1 h2 (λ n hn=>by simpa using List.all_eq_true.1 hsz n (DataW.weights_mem_each (j:=2) (t:=22) rfl rfl n hn))
 have fin:Calls Tryz.prog 4 #[.int .i64 a0,.slice ad1 len1 cap1,.slice ad2 len2 cap2] W λ e w'=>e=.returned (.bool true)∧Below W.heap.size W w':=chainCopies.walk a0 ad1 len1 cap1 os1 ad2 len2 cap2 os2 W hx1 hm1 hb1 hz1 hi1 hx2 hm2 hb2 hz2 hi2
 refine fin.mono λ e W' ⟨he,hb⟩=>?_
 subst he
 have t:=(trodAll_cons_mk (shut_int (enc:=enc) (w:=W') (base:=0) (spare:=λ b=>decide (b<W.heap.size)) (held:=true) Tryz.underlying3 w0) (trodAll_cons_mk (hargs1 W' hb) (trodAll_cons_mk (hargs2 W' hb) trodAll_mk0)))
 try simp only[List.append_nil]at t
 try simp only[List.nil_append]at t
 exact⟨_,rfl,_,_,_,[],p1++p2,[],hW',trodAll_cons_mk (shut_bool Tryz.underlying4 _) trodAll_mk0,t,rfl,hb.frame _,λ h=>by cases h⟩
theorem said:Rows.ChainCopiesSaid:=
 OpenClaim.holds_of_wide 4 Tryz.f4 rfl rfl rfl rfl rfl rfl rfl ⟨rfl,rfl,rfl,rfl,rfl⟩ rfl rfl rfl rfl rfl (by kernel_rfl) Tryz.func4 (by kernel_rfl)
  (of_decide_eq_true (by kernel_rfl)) (by unfold Func.isWrapper;first|(rw[if_pos (by decide+kernel)];kernel_rfl)|(rw[if_neg (by decide+kernel)];exact⟨rfl,rfl⟩))
  (λ os started H enc _=>lifted os started H enc)
end Go.Proofs.YtfdfgnmgpgkknaaGreat.chainCopies
