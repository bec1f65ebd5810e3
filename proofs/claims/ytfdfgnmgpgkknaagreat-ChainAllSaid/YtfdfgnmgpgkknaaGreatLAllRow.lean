import Derived.Test.YtfdfgnmgpgkknaaGreatLAll
import Derived.Test.YtfdfgnmgpgkknaaGreatR
namespace Go.Proofs.YtfdfgnmgpgkknaaGreat.chainAll
open Go.ChangeShapes Go.WideShapes Go.ChangeAt Go.RowKit Go.ChangeMaps
set_option maxRecDepth 100000 in
theorem lifted (os:Os) (started:os.Started) (H:Type) (enc:TypeId×Value→H):
  ReturnsInHanded {} Tryz.checked os 3 .any (Rows.chainAllSpec.pre6 enc Tryz.prog Tryz.f3 Rows.chainAllRow.domain false) (Rows.chainAllSpec.post enc Tryz.prog Tryz.f3 false true false false):=by
 refine returnsInHanded_of_change_sized (C:=Tryz.checked) own started (by kernel_rfl) Tryz.func3
  (ChangeSpec.witness6 (enc:=enc) (C:=Tryz.checked) false ⟨#[],#[.int .i64 0,.int .i64 0,.slice none 0 0],[]⟩ 8 (by kernel_rfl) (by kernel_rfl) (by kernel_rfl) (by kernel_rfl)) ?_
 intro W base args ds gs before hval0 hW _ hsz0 _
 have hval:∀(j:Nat) t v,Tryz.f3.params[j]?=some t→args[j]?=some v→Value.okWide Tryz.prog W .any base t v:=hval0
 have hW':=hW
 obtain⟨p,q,hA0,hV,rfl,hfz,hnd⟩:=hW
 have hA:DataW.TrodAll enc Tryz.prog W 0 (λ _=>true) true Tryz.f3.params.toList args.toList ds p:=hA0
 have hsz:(DataW.weightsEach Tryz.prog (Tryz.f3.params.toList++Rows.chainAllSpec.plain.varTypes Tryz.prog) (ds++gs)).all (·≤reachBytes)=true:=hsz0
 rw[Tryz.params3]at hA hval hsz
 obtain⟨v0,vs0,d0,ds0,p0,q0,hargs,rfl,rfl,h0,r0⟩:=trodAll_cons hA
 obtain⟨v1,vs1,d1,ds1,p1,q1,rfl,rfl,rfl,h1,r1⟩:=trodAll_cons r0
 obtain⟨v2,vs2,d2,ds2,p2,q2,rfl,rfl,rfl,h2,r2⟩:=trodAll_cons r1
 obtain⟨rfl,rfl,rfl⟩:=trodAll_nil r2
 obtain rfl:args=#[v0,v1,v2]:=by cases args;simp_all
 obtain⟨rfl,rfl⟩:=trodVars_none hV
 obtain⟨a0,rfl,rfl,rfl,w0⟩:=open_int Tryz.underlying3 (hval 0 3 v0 rfl rfl) h0
 obtain⟨a1,rfl,rfl,rfl,w1⟩:=open_int Tryz.underlying3 (hval 1 3 v1 rfl rfl) h1
 obtain⟨ad2,len2,cap2,rfl⟩:=okWide_slice Tryz.underlying22 (hval 2 22 v2 rfl rfl)
 clear hA0 hval0
 try simp only[List.append_nil]at hW'
 try simp only[List.nil_append]at hW'
 have hlt2:∀x∈p2,x.block<W.heap.size:=λ x hx=>hW'.lt x (by simp[hx])
 have hargs2:∀(W':World),Below W.heap.size W W'→DataW.Trod enc Tryz.prog W' 0 (λ b=>decide (b<W.heap.size)) true 22 (.slice ad2 len2 cap2) d2 p2:=
  λ W' hn=>Below.trod laidOut (by kernel_rfl) (of_decide_eq_true (by kernel_rfl)) h2 hn hlt2
 obtain⟨os2,hx2,hm2,hb2,hz2,hi2⟩:=O1 h2 (λ n hn=>by simpa using List.all_eq_true.1 hsz n (DataW.weights_mem_each (j:=2) (t:=22) rfl rfl n hn))
 have fin:Calls Tryz.prog 3 #[.int .i64 a0,.int .i64 a1,.slice ad2 len2 cap2] W λ e w'=>e=.returned (.bool true)∧Below W.heap.size W w':=chainAll.walk a0 a1 ad2 len2 cap2 os2 W hx2 hm2 hb2 hz2 hi2
 refine fin.mono λ e W' ⟨he,hb⟩=>?_
 subst he
 have t:=(trodAll_cons_mk (shut_int (enc:=enc) (w:=W') (base:=0) (spare:=λ b=>decide (b<W.heap.size)) (held:=true) Tryz.underlying3 w0) (trodAll_cons_mk (shut_int (enc:=enc) (w:=W') (base:=0) (spare:=λ b=>decide (b<W.heap.size)) (held:=true) Tryz.underlying3 w1) (trodAll_cons_mk (hargs2 W' hb) trodAll_mk0)))
 try simp only[List.append_nil]at t
 try simp only[List.nil_append]at t
 exact⟨_,rfl,_,_,_,[],p2,[],hW',trodAll_cons_mk (shut_bool Tryz.underlying4 _) trodAll_mk0,t,rfl,hb.frame _,λ h=>by cases h⟩
theorem said:Rows.ChainAllSaid:=
 OpenClaim.holds_of_wide 3 Tryz.f3 rfl rfl rfl rfl rfl rfl rfl ⟨rfl,rfl,rfl,rfl,rfl⟩ rfl rfl rfl rfl rfl (by kernel_rfl) Tryz.func3 (by kernel_rfl)
  (of_decide_eq_true (by kernel_rfl)) (by unfold Func.isWrapper;first|(rw[if_pos (by decide+kernel)];kernel_rfl)|(rw[if_neg (by decide+kernel)];exact⟨rfl,rfl⟩))
  (λ os started H enc _=>lifted os started H enc)
end Go.Proofs.YtfdfgnmgpgkknaaGreat.chainAll
