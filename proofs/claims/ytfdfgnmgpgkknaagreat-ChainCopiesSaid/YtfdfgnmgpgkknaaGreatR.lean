import Derived.Test.YtfdfgnmgpgkknaaGreatMG46
import Derived.Test.YtfdfgnmgpgkknaaGreatRows
import Derived.ProofKit
import Derived.OpenShut
import Derived.Carry
import Derived.SizedLaws
import Derived.ChangeMaps5
import Derived.Deep.Slices
set_option maxRecDepth 10000
open Go.Proofs.Tryz renaming prog→zf
open Nat renaming le_refl→zg
open Go.Proofs.Tryz
namespace Go.Proofs.YtfdfgnmgpgkknaaGreat
open Go.ChangeShapes Go.WideShapes Go.ChangeAt Go.RowKit
theorem own:ownKnob Tryz.prog.godebug=none:=by kernel_rfl
theorem laidOut:laidOutB zf=true:=by kernel_rfl
theorem Fu:Tryz.prog.cellsOf 3=1:=by kernel_rfl
theorem Ft:Tryz.prog.cellsOf 9=1:=by kernel_rfl
theorem BG:Tryz.prog.cellsOf 4=1:=by kernel_rfl
theorem BF:Tryz.prog.cellsOf 36=1:=by kernel_rfl
theorem Fs:Tryz.prog.cellsOf 35=6:=by kernel_rfl
theorem Da:Tryz.prog.cellsOf 38=11:=by kernel_rfl
theorem NB {H:Type} {P:Program} {e:TypeId} {n:Nat} (d:DataW H) {l:List (DataW H)} (h:d∈l) (hn:n∈d.weights P e):n∈DataW.weightsAll P e l:=by
 induction l with
 |nil=>cases h
 |cons x r ih=>
  simp only[DataW.weightsAll,List.mem_append]
  rcases List.mem_cons.mp h with rfl|h'
  ·exact Or.inl hn
  ·exact Or.inr (ih h')
theorem N6 {H:Type} {enc:TypeId×Value→H} {W:World} {fuel:Nat} {c0 c1 c2 c3 c4 c5:Value} {y:DataW H×List MemPlace}
  (hf:DataW.trod enc zf W 0 (λ _=>true) true fuel 35 [c0,c1,c2,c3,c4,c5]=some y):
  ∃t:Tox,c0=.string t.s∧c1=.int .i64 t.k∧c2=.bool t.up∧c3=.int .i64 t.o∧c4=.int .i64 t.a∧c5=.int .i64 t.b∧y.2=[]∧t.s.size≤maxLen∧t.s.data.toList.length∈y.1.weights zf 35:=by
 obtain⟨xs,m,hy,hx,_,hl,hi⟩:=DataW.trod_struct underlying35 hf
 obtain⟨y0,y1,y2,y3,y4,y5,rfl⟩:∃y0 y1 y2 y3 y4 y5,xs=[y0,y1,y2,y3,y4,y5]:=by
  match xs,hl with
  |[y0,y1,y2,y3,y4,y5],_=>exact⟨y0,y1,y2,y3,y4,y5,rfl⟩
 have e0:=hi 0 _ rfl
 have e1:=hi 1 _ rfl
 have e2:=hi 2 _ rfl
 have e3:=hi 3 _ rfl
 have e4:=hi 4 _ rfl
 have e5:=hi 5 _ rfl
 simp[Fu,Ft,BG]at e0 e1 e2 e3 e4 e5
 obtain⟨x0,q0,rfl,w0⟩:=DataW.trod_string underlying9 e0
 obtain⟨x1,q1,rfl,w1⟩:=DataW.trod_int underlying3 e1
 obtain⟨x2,q2,rfl⟩:=DataW.trod_bool underlying4 e2
 obtain⟨x3,q3,rfl,w3⟩:=DataW.trod_int underlying3 e3
 obtain⟨x4,q4,rfl,w4⟩:=DataW.trod_int underlying3 e4
 obtain⟨x5,q5,rfl,w5⟩:=DataW.trod_int underlying3 e5
 cases q0
 cases q1
 cases q2
 cases q3
 cases q4
 cases q5
 refine⟨⟨x0,x1,x2,x3,x4,x5⟩,rfl,rfl,rfl,rfl,rfl,rfl,?_,w0,?_⟩
 ·rw[hx]
  rfl
 ·rw[hx]
  simp only[DataW.weights,underlying35,List.map_cons,List.map_nil]
  refine DataW.weights_mem_each (j:=0) rfl rfl _ ?_
  simp[DataW.weights]
instance:Inhabited COp:=⟨Yy⟩
theorem O1 {H:Type} {enc:TypeId×Value→H} {W:World} {a:Option Addr} {len cap:Nat} {d:DataW H} {p:List MemPlace}
  (h:DataW.Trod enc zf W 0 (λ _=>true) true 22 (.slice a len cap) d p) (hz:∀n∈d.weights zf 22,n≤reachBytes):
  ∃os:List COp,os.length=len∧len≤cap∧cap≤9223372036854775807∧(∀o∈os,o.s.size≤140737488351232∧o.t.s.size≤140737488351232)∧Vz W a len os:=by
 obtain⟨fuel,hf⟩:=h
 rcases Go.Deep.open_slice underlying22 hf with⟨hcs,hx⟩|⟨a',len',cap',m,n,D,Pl,hcs,_,hl,hm,hmm,hx,hcell⟩
 ·simp[Value.cells]at hcs
  obtain⟨rfl,rfl,rfl⟩:=hcs
  exact⟨[],rfl,zg _,by omega,(λ _ h=>by cases h),(λ h=>absurd h (by omega))⟩
 ·simp[Value.cells]at hcs
  obtain⟨rfl,rfl,rfl⟩:=hcs
  simp only[if_true]at hmm
  simp only[Prod.mk.injEq]at hx
  unfold maxLen at hm
  rw[Da]at hcell
  have each:∀i,i<len→∃o:COp,W.cell? (a'.add (i*11))=some (.int .i64 o.kind)∧W.cell? ((a'.add (i*11)).add 1)=some (.int .i64 o.now)∧W.cell? ((a'.add (i*11)).add 2)=some (.int .i64 o.n)∧W.cell? ((a'.add (i*11)).add 3)=some (.string o.s)∧
    W.cell? ((a'.add (i*11)).add 4)=some (.string o.t.s)∧W.cell? ((a'.add (i*11)).add 5)=some (.int .i64 o.t.k)∧W.cell? ((a'.add (i*11)).add 6)=some (.bool o.t.up)∧W.cell? ((a'.add (i*11)).add 7)=some (.int .i64 o.t.o)∧W.cell? ((a'.add (i*11)).add 8)=some (.int .i64 o.t.a)∧W.cell? ((a'.add (i*11)).add 9)=some (.int .i64 o.t.b)∧W.cell? ((a'.add (i*11)).add 10)=some (.int .u64 o.seed)∧
    o.s.size≤140737488351232∧o.t.s.size≤140737488351232:=by
   intro i hi
   obtain⟨cs',h1,h2⟩:=hcell i (by omega)
   obtain⟨_,hlen,hc⟩:=World.cells?_some h1
   obtain⟨xs,k,_,hxy,_,hxl,hf'⟩:=DataW.trod_struct underlying38 h2
   match xs,hxl,cs',hlen with
   |[y0,y1,y2,y3,y4,y5],_,[v0,v1,v2,v3,v4,v5,v6,v7,v8,v9,v10],_=>
    have g0:=hf' 0 _ rfl
    have g1:=hf' 1 _ rfl
    have g2:=hf' 2 _ rfl
    have g3:=hf' 3 _ rfl
    have g4:=hf' 4 _ rfl
    have g5:=hf' 5 _ rfl
    simp[Fu,Ft,Fs,BF]at g0 g1 g2 g3 g4 g5
    obtain⟨z0,e0,_,f0⟩:=DataW.trod_int underlying3 g0
    obtain⟨z1,e1,_,f1⟩:=DataW.trod_int underlying3 g1
    obtain⟨z2,e2,_,f2⟩:=DataW.trod_int underlying3 g2
    obtain⟨s3,e3,hd3,_⟩:=DataW.trod_string underlying9 g3
    obtain⟨t,t0,t1,t2,t3,t4,t5,_,tw,tz⟩:=N6 g4
    obtain⟨z5,e5,_,f5⟩:=DataW.trod_int underlying36 g5
    simp only[List.cons.injEq,and_true]at e0 e1 e2 e3 e5
    have c0:=hc 0 (by omega)
    have c1:=hc 1 (by omega)
    have c2:=hc 2 (by omega)
    have c3:=hc 3 (by omega)
    have c4:=hc 4 (by omega)
    have c5:=hc 5 (by omega)
    have c6:=hc 6 (by omega)
    have c7:=hc 7 (by omega)
    have c8:=hc 8 (by omega)
    have c9:=hc 9 (by omega)
    have c10:=hc 10 (by omega)
    simp only[List.getElem?_cons_zero,List.getElem?_cons_succ,e0,e1,e2,e3,e5,t0,t1,t2,t3,t4,t5]at c0 c1 c2 c3 c4 c5 c6 c7 c8 c9 c10
    refine⟨⟨z0,z1,z2,s3,t,z5⟩,by rw[←c0];simp[Addr.add],c1,c2,c3,c4,c5,c6,c7,c8,c9,c10,?_,?_⟩
    ·have hw:s3.data.toList.length∈d.weights zf 22:=by
      rw[hx.1]
      simp only[DataW.weights,underlying22]
      refine List.mem_cons_of_mem _ (List.mem_append_left _ ?_)
      refine NB (D i) (List.mem_map.mpr ⟨i,List.mem_range.mpr hi,rfl⟩) ?_
      simp only[Prod.mk.injEq]at hxy
      rw[hxy.1]
      simp only[DataW.weights,underlying38,List.map_cons,List.map_nil]
      refine DataW.weights_mem_each (j:=3) rfl rfl _ ?_
      rw[hd3]
      simp[DataW.weights]
     have:=hz _ hw
     simp only[reachBytes,Array.length_toList]at this
     exact this
    ·have hw:t.s.data.toList.length∈d.weights zf 22:=by
      rw[hx.1]
      simp only[DataW.weights,underlying22]
      refine List.mem_cons_of_mem _ (List.mem_append_left _ ?_)
      refine NB (D i) (List.mem_map.mpr ⟨i,List.mem_range.mpr hi,rfl⟩) ?_
      simp only[Prod.mk.injEq]at hxy
      rw[hxy.1]
      simp only[DataW.weights,underlying38,List.map_cons,List.map_nil]
      refine DataW.weights_mem_each (j:=4) rfl rfl _ ?_
      exact tz
     have:=hz _ hw
     simp only[reachBytes,Array.length_toList]at this
     exact this
  obtain⟨f,hfe⟩:=Go.Deep.choose_lt each
  refine⟨(List.range len).map f,by simp,by omega,by omega,λ x hx'=>?_,λ hn=>?_⟩
  ·obtain⟨i,hi,rfl⟩:=List.mem_map.mp hx'
   have:=hfe i (List.mem_range.mp hi)
   exact this.2.2.2.2.2.2.2.2.2.2.2
  ·obtain⟨b,o,s⟩:=a'
   obtain rfl:s=none:=by simpa[Addr.add]using World.cell?_spot (hfe 0 (by omega)).1
   refine⟨b,o,rfl,λ i hi=>?_⟩
   obtain⟨h0,h1,h2,h3,h4,h5,h6,h7,h8,h9,h10,_⟩:=hfe i hi
   rw[add_plain]at h0 h1 h2 h3 h4 h5 h6 h7 h8 h9 h10
   rw[add_plain]at h1 h2 h3 h4 h5 h6 h7 h8 h9 h10
   simp only[←Nat.add_assoc]
   rw[h0,h1,h2,h3,h4,h5,h6,h7,h8,h9,h10]
   simp[List.getD,hi]
end Go.Proofs.YtfdfgnmgpgkknaaGreat
