import Derived.Test.YtfdfgnmgpgkknaaGreatMG38
import Derived.Shelf.Spec.SlicesInsertGrow
import Derived.Lib.SlicesDelete
set_option maxRecDepth 100000
set_option maxHeartbeats 16000000
open Go.Proofs.Tryz renaming prog→zf
open Go renaming cell_of_row→ze,heap_alloc_new→zo
open Go.Lib renaming hid→zd
open List renaming length_take→zw,getElem?_eq_getElem→zj,getD_eq_getElem?_getD→zi
open Go.RowKit.Below renaming refl→zh,heap_setCell→zn
open Nat renaming le_refl→zg,le_trans→zt,lt_of_lt_of_le→zy
open Go.Exit renaming noGoto_ret→zl
open Go.Calls renaming mono→zr
open Go.Proofs.Tryz
namespace Go.Proofs.YtfdfgnmgpgkknaaGreat
section
open Go.RowKit Go.Lib
theorem Nu:(Tryz.prog.info? 59).map (·.size)=some 1:=by kernel_rfl
theorem Nv:(Tryz.prog.info? 59).map (λ i=>(i.zero,i.size,i.bytes))=some (some (.pointer none),1,8):=by kernel_rfl
abbrev PT:TypeId:=59
abbrev PS:TypeId:=56
section
variable {w:World} {b o n c i vb:Nat} {cs:List Value} {x:Value}
theorem TJ {w:World} {b:Nat} {cur:Array Value} {T:TypeId} {fr:Nat×Nat} (h:w.heap[b]?=some (.cells cur T fr)):w.shape? b=some (T,cur.size):=by simp[World.shape?,h]
theorem LH (hx:w.heap[vb]?=some (.cells #[x] PT (0,0))) {cur:Array Value} (hb:w.heap[b]?=some (.cells cur PT (0,0))) (h0:cur.size≠0) (hne:vb≠b) (k lb cb:Nat):
  (callFunc 70 #[.slice (some ⟨vb,0,none⟩) 1 1,.slice (some ⟨b,k,none⟩) lb cb]).run zf w=.ok (.value (.bool false)) w:=by
 rw[run_callFunc_extern func70 (by kernel_rfl) (by kernel_rfl) (by kernel_rfl) (e:=Extern.SlicesOverlaps.overlaps #[PS,PS] #[4]) (by kernel_rfl)]
 have hf:∀k,w.frozen? ⟨vb,k,none⟩=false:=λ k=>by simp[World.frozen?,hx]
 rw[Lib.run_overlaps_apart w PS 4 PT underlying56 1 sizeOf59 ⟨vb,0,none⟩ ⟨b,k,none⟩ 1 1 lb cb hne PT PT 1 cur.size (TJ hx) (TJ hb) h0 (hf 0) (hf 1)]
 rfl
theorem Ll (hi:i<n) (hroom:n+1≤c) (hc:c≤maxLen) (hne:vb≠b) (hcl:cs.length=n) (hcs:∀j v,cs[j]?=some v→w.cell? ⟨b,o+j,none⟩=some v) {cur:Array Value} (hb:w.heap[b]?=some (.cells cur PT (0,0))) (hsp:o+(n+1)≤cur.size)
  (hx:w.heap[vb]?=some (.cells #[x] PT (0,0))) (h1c:∀v∈cs,v.oneCell'=true) (h1x:x.oneCell'=true):
  Calls zf 40 #[.slice (some ⟨b,o,none⟩) n c,.int .i64 (i:Int),.slice (some ⟨vb,0,none⟩) 1 1] w λ e w'=>
   e=.returned (.slice (some ⟨b,o,none⟩) (n+1) c)∧w'=(w.drew.setCells b (o+(i+1)) (cs.drop i)).setCells b (o+i) [x]:=by
 have hsome:∀k,k<n+1→(w.cell? ⟨b,o+k,none⟩).isSome=true:=λ k hk=>by
  simp only[World.cell?,hb]
  rw[Array.getElem?_eq_getElem (by omega)]
  rfl
 have hfro:∀k,w.frozen? ⟨b,k,none⟩=false:=λ k=>by simp[World.frozen?,hb]
 have hov:=λ k lb cb=>LH hx hb (by omega) hne k lb cb
 have hdl:(cs.drop i).length=n -i:=by rw[List.length_drop,hcl]
 have hA:∀ty dc sc,(Builtin.copy_ #[PS,PS] ty #[.slice (some ⟨b,o+(i+1),none⟩) (n+1 -(i+1)) dc,.slice (some ⟨b,o+i,none⟩) (n+1 -i) sc]).run zf w.drew=.ok (goInt (cs.drop i).length) (w.drew.setCells b (o+(i+1)) (cs.drop i)):=λ ty dc sc=>
  run_copy_cells w.drew _ _ ty PT b (o+(i+1)) (n+1 -(i+1)) dc ⟨b,o+i,none⟩ (n+1 -i) sc (cs.drop i) underlying56 Nu (by rw[hdl];simp only[Nat.min_def];split<;>omega)
   (λ j v hj=>by
    rw[WideShapes.add_plain,Nat.add_assoc]
    exact hcs (i+j) v (by rwa[List.getElem?_drop]at hj))
   (λ j hj=>by rw[Nat.add_assoc];exact hsome _ (by omega)) (λ j _=>hfro _) (λ v hv=>h1c v (List.mem_of_mem_drop hv))
 obtain⟨W1,hW1⟩:∃W1,w.drew.setCells b (o+(i+1)) (cs.drop i)=W1:=⟨_,rfl⟩
 have hsome1:∀k,k<n+1→(W1.cell? ⟨b,o+k,none⟩).isSome=true:=λ k hk=>by
  rw[←hW1]
  exact isSome_setCells b _ _ _ (λ j hj=>by rw[Nat.add_assoc];exact hsome _ (by omega)) _ (hsome k hk)
 have hvb:W1.cell? ⟨vb,0,none⟩=some x:=by
  rw[←hW1,World.cell?_setCells_out b _ _ _ _ (λ e _=>absurd e hne)]
  exact ze _ _ 0 _ _ _ hx
 have hB:∀ty dc,(Builtin.copy_ #[PS,PS] ty #[.slice (some ⟨b,o+i,none⟩) (n+1 -i) dc,.slice (some ⟨vb,0,none⟩) 1 1]).run zf W1=.ok (goInt [x].length) (W1.setCells b (o+i) [x]):=λ ty dc=>
  run_copy_cells W1 _ _ ty PT b (o+i) (n+1 -i) dc ⟨vb,0,none⟩ 1 1 [x] underlying56 Nu (by simp only[Nat.min_def,List.length_cons,List.length_nil];split<;>omega)
   (λ j v hj=>by
    cases j with
    |zero=>cases hj;exact hvb
    |succ j=>cases hj)
   (λ j hj=>by rw[Nat.add_assoc];exact hsome1 _ (by have:j<1:=hj;omega)) (λ j _=>by rw[←hW1,World.frozen?_setCells];exact hfro _) (λ v hv=>by simp at hv;rw[hv];exact h1x)
 rw[hW1]at hA
 have HA:=zd hA
 have HB:=zd hB
 have hbi1:¬((i:Int)=(n:Int)):=by omega
 have hiw:IntKind.i64.wrap ((i:Int)+1)=(i:Int)+1:=qs (by unfold maxLen at hc;omega) (by unfold maxLen at hc;omega)
 have hnw:IntKind.i64.wrap ((n:Int)+1)=(n:Int)+1:=qs (by unfold maxLen at hc;omega) (by unfold maxLen at hc;omega)
 have hti:((i:Int)+1).toNat=i+1:=by omega
 have htn:((n:Int)+1).toNat=n+1:=by omega
 have hci:¬(c=i):=by omega
 have hci1:¬(c=i+1):=by omega
 have hi0:(0:Int)≤(i:Int)+1:=by omega
 have hi1:(i:Int)+1≤(n:Int)+1:=by omega
 have hin:(i:Int)≤(n:Int):=by omega
 have hin1:(i:Int)≤(n:Int)+1:=by omega
 have hrc:(n:Int)+1≤(c:Int):=by omega
 have hc63:c≤9223372036854775807:=by unfold maxLen at hc;omega
 clear hA hB hcs hsome hsome1 hfro hvb hb hx h1c h1x hcl hdl hsp
 go_enter func40,ntmps40
 go_wp2_with (simp only[hov])
 go_region_law (refine step_copy_runI rfl _ _ PS PS rfl (.slice (some ⟨b,o+(i+1),none⟩) (n+1 -(i+1)) (c -(i+1))) (.slice (some ⟨b,o+i,none⟩) (n+1 -i) (c -i)) (by simp[Act.eval,Act.put]) (by simp[Act.eval,Act.put]) (HA.out _ _ _) ?_)
 all_goals go_wp2_with (simp only[HB.out])
 all_goals go_ret
 all_goals exact⟨rfl,by rw[hW1]⟩
end
end
section
open Go.RowKit Go.Lib
section
variable {w:World} {b o n c i vb:Nat} {cs:List Value} {x:Value}
theorem G2 (hi:i<n) (hnc:n≤c) (hroom:c<n+1) (hn:n≤10) (hcl:cs.length=n) (hcs:∀j v,cs[j]?=some v→w.cell? ⟨b,o+j,none⟩=some v) {cur:Array Value} (hb:w.heap[b]?=some (.cells cur PT (0,0)))
  (hx:w.heap[vb]?=some (.cells #[x] PT (0,0))) (h1c:∀v∈cs,v.oneCell'=true) (h1x:x.oneCell'=true):
  Calls zf 40 #[.slice (some ⟨b,o,none⟩) n c,.int .i64 (i:Int),.slice (some ⟨vb,0,none⟩) 1 1] w λ e w'=>
   ∃(G:Nat) (ROW:Array Value),n+1≤G∧G≤maxLen∧ROW.size=G∧(∀(j:Nat) (v:Value),(cs.take i)[j]?=some v→ROW[j]?=some v)∧e=.returned (.slice (some ⟨w.heap.size,0,none⟩) (n+1) G)∧
    w'=(((w.drew.alloc (.cells ROW PT)).setCells w.heap.size i [x]).drew).setCells w.heap.size (i+1) (cs.drop i):=by
 obtain⟨i0,hi0,hz0,hzs,hzb⟩:=info_parts Nv
 have hbw:=gb.qd hb
 have hvw:=gb.qd hx
 have hik:i+(n+1 -i)=n+1:=by omega
 have hold:(Builtin.firstCells i0.size i (.slice (some ⟨b,o,none⟩) i c)).run zf w.drew=.ok (cs.take i).toArray w.drew:=by
  rw[hzs]
  exact run_firstCells_some w.drew 1 i ⟨b,o,none⟩ i c (cs.take i) (by rw[zw];omega) (λ j v hj=>by
   rw[WideShapes.add_plain]
   rw[List.getElem?_take]at hj
   split at hj
   ·exact hcs j v hj
   ·cases hj)
 have hgr:=Lib.run_append_grow_zeros w PS 3 0 PT i0 (.pointer none) .i64 .i64 underlying56 underlying3 hi0 hz0 (some ⟨b,o,none⟩) i c (cs.take i) hold (n+1 -i) (by omega) (by omega) (by omega) (by omega) (by rw[hzb];omega) (by rw[hzb,hik];exact growslice_fits hroom (by omega))
 rw[hik]at hgr
 obtain⟨G,hG⟩:∃G,grownCap w (n+1) c PT=G:=⟨_,rfl⟩
 have hG1:n+1≤G:=by rw[←hG];exact grownCap_ge w _ _ _
 have hG2:G≤maxLen:=by rw[←hG];exact grownCap_le_maxLen w (n+1) c PT (by unfold maxLen;omega)
 rw[hG]at hgr
 obtain⟨ROW,hROW⟩:∃ROW:Array Value,(cs.take i).toArray++Builtin.zeroCells (Value.pointer none).cells (n+1 -i)++Builtin.zeroCells (Value.pointer none).cells (G -(n+1))=ROW:=⟨_,rfl⟩
 rw[hROW]at hgr
 have hlt:(cs.take i).length=i:=by rw[zw];omega
 have hRs:ROW.size=G:=by
  rw[←hROW]
  simp[Builtin.zeroCells,Value.cells]
  omega
 have hRt:∀(j:Nat) (v:Value),(cs.take i)[j]?=some v→ROW[j]?=some v:=λ j v hj=>by
  have hj':=(List.getElem?_eq_some_iff.1 hj).1
  rw[←hROW,Array.getElem?_append_left (by simp[Builtin.zeroCells,Value.cells];omega),Array.getElem?_append_left (by simp;omega)]
  simpa using hj
 obtain⟨W1,hW1⟩:∃W1,w.drew.alloc (.cells ROW PT)=W1:=⟨_,rfl⟩
 have hgr':∀ty,(Builtin.append_ #[PS,3] ty #[.slice (some ⟨b,o,none⟩) i c,.int .i64 ((n:Int)+1 -(i:Int))]).run zf w=.ok (.slice (some ⟨w.heap.size,0,none⟩) (n+1) G) W1:=λ ty=>by
  have e:(n:Int)+1 -(i:Int)=((n+1 -i:Nat):Int):=by omega
  rw[e,←hW1]
  exact hgr
 have hs1:W1.heap.size=w.heap.size+1:=by rw[←hW1];exact World.size_alloc _ _
 have hnew:W1.heap[w.heap.size]?=some (.cells ROW PT (0,0)):=by rw[←hW1];exact zo w.drew _
 have hbl:Below w.heap.size w W1:=by rw[←hW1];exact(zh _ _).drew.alloc (zg _) _
 have hsome:∀k,k<n+1→(W1.cell? ⟨w.heap.size,k,none⟩).isSome=true:=λ k hk=>by
  simp only[World.cell?,hnew]
  rw[Array.getElem?_eq_getElem (by omega)]
  rfl
 have hfro:∀k,W1.frozen? ⟨w.heap.size,k,none⟩=false:=λ k=>by simp[World.frozen?,hnew]
 have hdl:(cs.drop i).length=n -i:=by rw[List.length_drop,hcl]
 have hA:∀ty dc,(Builtin.copy_ #[PS,PS] ty #[.slice (some ⟨w.heap.size,i,none⟩) (n+1 -i) dc,.slice (some ⟨vb,0,none⟩) 1 1]).run zf W1=.ok (goInt [x].length) (W1.setCells w.heap.size i [x]):=λ ty dc=>
  run_copy_cells W1 _ _ ty PT w.heap.size i (n+1 -i) dc ⟨vb,0,none⟩ 1 1 [x] underlying56 Nu (by simp only[Nat.min_def,List.length_cons,List.length_nil];split<;>omega)
   (λ j v hj=>by
    cases j with
    |zero=>
     cases hj
     exact(hbl.cell (p:=⟨vb,0,none⟩) hvw).trans (ze _ _ 0 _ _ _ hx)
    |succ j=>cases hj)
   (λ j hj=>hsome _ (by have:j<1:=hj;omega)) (λ j _=>hfro _) (λ v hv=>by simp at hv;rw[hv];exact h1x)
 obtain⟨W2,hW2⟩:∃W2,W1.setCells w.heap.size i [x]=W2:=⟨_,rfl⟩
 have hB:∀ty dc sc,(Builtin.copy_ #[PS,PS] ty #[.slice (some ⟨w.heap.size,i+1,none⟩) (n+1 -(i+1)) dc,.slice (some ⟨b,o+i,none⟩) (n -i) sc]).run zf W2.drew=.ok (goInt (cs.drop i).length) (W2.drew.setCells w.heap.size (i+1) (cs.drop i)):=λ ty dc sc=>
  run_copy_cells W2.drew _ _ ty PT w.heap.size (i+1) (n+1 -(i+1)) dc ⟨b,o+i,none⟩ (n -i) sc (cs.drop i) underlying56 Nu (by rw[hdl];simp only[Nat.min_def];split<;>omega)
   (λ j v hj=>by
    rw[WideShapes.add_plain,Nat.add_assoc]
    show W2.cell? _=_
    rw[←hW2,World.cell?_setCells_out _ _ _ _ _ (λ e _=>absurd e (by show b≠w.heap.size;omega))]
    exact(hbl.cell (p:=⟨b,o+(i+j),none⟩) hbw).trans (hcs (i+j) v (by rwa[List.getElem?_drop]at hj)))
   (λ j hj=>by
    show(W2.cell? _).isSome=true
    rw[←hW2]
    exact isSome_setCells _ _ _ _ (λ t ht=>hsome _ (by have:t<1:=ht;omega)) _ (hsome _ (by omega)))
   (λ j _=>by
    show W2.frozen? _=false
    rw[←hW2,World.frozen?_setCells]
    exact hfro _) (λ v hv=>h1c v (List.mem_of_mem_drop hv))
 rw[hW2]at hA
 have HGR:=zd hgr'
 have HA:=zd hA
 have HB:=zd hB
 have HEND:=zd (show W2.drew.setCells w.heap.size (i+1) (cs.drop i)=(((w.drew.alloc (.cells ROW PT)).setCells w.heap.size i [x]).drew).setCells w.heap.size (i+1) (cs.drop i) by rw[hW1,hW2])
 have HR:=zd (⟨hG1,hG2,hRs,hRt⟩:n+1≤G∧G≤maxLen∧ROW.size=G∧(∀(j:Nat) (v:Value),(cs.take i)[j]?=some v→ROW[j]?=some v))
 have hbi1:¬((i:Int)=(n:Int)):=by omega
 have hcl2:(c:Int)<(n:Int)+1:=by omega
 have hiw:IntKind.i64.wrap ((i:Int)+1)=(i:Int)+1:=qs (by omega) (by omega)
 have hnw:IntKind.i64.wrap ((n:Int)+1)=(n:Int)+1:=qs (by omega) (by omega)
 have hnw2:IntKind.i64.wrap ((n:Int)+1 -(i:Int))=(n:Int)+1 -(i:Int):=qs (by omega) (by omega)
 have hti:((i:Int)+1).toNat=i+1:=by omega
 have hci:¬(c=i):=by omega
 have hGi:¬(G=i):=by omega
 have hGi1:¬(G=i+1):=by omega
 have hi0':(0:Int)≤(i:Int)+1:=by omega
 have hi1:(i:Int)+1≤(n:Int)+1:=by omega
 have hin:(i:Int)≤(n:Int):=by omega
 have hin1:(i:Int)≤(n:Int)+1:=by omega
 have hic:(i:Int)≤(c:Int):=by omega
 have hG63:G≤9223372036854775807:=by unfold maxLen at hG2;omega
 have hc63:c≤9223372036854775807:=by omega
 clear hgr hgr' hA hB hsome hfro hdl hbl hnew hs1 hRt hRs hlt hROW hG hG2 hold hi0 hz0 hzs hzb hcs hb hx h1c h1x hbw hvw hW1 hW2 hik
 generalize w.heap.size=N at*
 go_enter func40,ntmps40
 go_wp2_with (first
  |(at_builtin;refine Lib.wpList_append_run _ rfl _ _ _ _ rfl (.slice (some ⟨b,o,none⟩) i c) (.int .i64 ((n:Int)+1 -(i:Int))) rfl rfl _ _ (HGR.out _) ?_)
  |(simp only[HA.out]))
 go_region_law (refine step_copy_runI rfl _ _ PS PS rfl (.slice (some ⟨N,i+1,none⟩) (n+1 -(i+1)) (G -(i+1))) (.slice (some ⟨b,o+i,none⟩) (n -i) (c -i)) (by simp[Act.eval,Act.put]) (by simp[Act.eval,Act.put]) (HB.out _ _ _) ?_)
 all_goals go_wp2_with fail
 all_goals go_ret
 all_goals exact⟨G,ROW,HR.out.1,HR.out.2.1,HR.out.2.2.1,HR.out.2.2.2,rfl,HEND.out⟩
theorem E4 {K:Nat} (hK:1≤K) (hnc:i+1+K≤c) (hc:c≤maxLen) (hcl:cs.length=i+1+K) (hcs:∀j v,cs[j]?=some v→w.cell? ⟨b,o+j,none⟩=some v) {cur:Array Value} (hb:w.heap[b]?=some (.cells cur PT (0,0))) (hsp:o+(i+1+K)≤cur.size)
  (h1c:∀v∈cs,v.oneCell'=true):
  Calls zf 64 #[.slice (some ⟨b,o,none⟩) (i+1+K) c,.int .i64 (i:Int),.int .i64 ((i:Int)+1)] w λ e w'=>
   e=.returned (.slice (some ⟨b,o,none⟩) (i+K) c)∧w'=((w.drew.setCells b (o+i*1) (cs.drop (i+1))).setCells b (o+(i+K)) [.pointer none]):=by
 obtain⟨i0,hi0,hz0,hzs,hzb⟩:=info_parts Nv
 have hdl:(cs.drop (i+1)).length=K:=by rw[List.length_drop,hcl];omega
 have hsome:∀k,k<i+1+K→(w.cell? ⟨b,o+k,none⟩).isSome=true:=λ k hk=>by
  simp only[World.cell?,hb]
  rw[Array.getElem?_eq_getElem (by omega)]
  rfl
 have hfro:∀k,w.frozen? ⟨b,k,none⟩=false:=λ k=>by simp[World.frozen?,hb]
 have s1:Hid ((cs.drop (i+1)).length=K*1):=zd (by rw[Nat.mul_one];exact hdl)
 have s2:Hid (∀t u,(cs.drop (i+1))[t]?=some u→w.drew.cell? ((⟨b,o+(i+1),none⟩:Addr).add t)=some u):=zd (λ t u hu=>by
  rw[WideShapes.add_plain,Nat.add_assoc]
  exact hcs (i+1+t) u (by rwa[List.getElem?_drop]at hu))
 have s3:Hid (∀u∈cs.drop (i+1),u.oneCell'=true):=zd (λ u hu=>h1c u (List.mem_of_mem_drop hu))
 have s4:Hid (∀t,t<(cs.drop (i+1)).length→(w.drew.cell? ⟨b,o+i*1+t,none⟩).isSome=true∧w.drew.frozen? ⟨b,o+i*1+t,none⟩=false):=zd (λ t ht=>by
  rw[Nat.mul_one,Nat.add_assoc]
  exact⟨hsome _ (by omega),hfro _⟩)
 have HI:=zd (⟨hi0,hzs⟩:Tryz.prog.info? PT=some i0∧i0.size=1)
 obtain⟨W1,hW1⟩:∃W1,w.drew.setCells b (o+i*1) (cs.drop (i+1))=W1:=⟨_,rfl⟩
 have hcell1:(W1.cell? ⟨b,o+(i+K),none⟩).isSome=true:=by
  rw[←hW1]
  have hs':∀j,j<(cs.drop (i+1)).length→(w.drew.cell? ⟨b,o+i*1+j,none⟩).isSome=true:=λ j hj=>(s4.out j hj).1
  exact isSome_setCells b _ _ _ hs' _ (hsome _ (by omega))
 have hC:∀ty n1 c1,n1=1→(Builtin.clear_ #[PS] ty #[.slice (some ⟨b,o+(i+K),none⟩) n1 c1]).run zf W1=.ok (.tuple #[]) (W1.setCells b (o+(i+K)) [.pointer none]):=λ ty n1 c1 h1=>by
  subst h1
  refine Lib.run_clear_slice W1 PS PT ty (.pointer none) underlying56 zeroValue59 rfl rfl b (o+(i+K)) 1 c1 (by omega) (λ j hj=>?_) (λ j _=>by rw[←hW1,World.frozen?_setCells];exact hfro _)
  have e:j=0:=by omega
  rw[e,Nat.add_zero]
  exact hcell1
 have HC:=zd (λ ty c1=>hC ty (i+1+K -(i+K)) c1 (by omega))
 have HC2:=zd (λ ty c1=>hC ty 1 c1 rfl)
 have HW:=zd hW1
 have hij:¬((i:Int)=(i:Int)+1):=by omega
 have hti:((i:Int)+1).toNat=i+1:=by omega
 have hic:¬(c=i):=by omega
 have hjc:¬(c=i+1):=by omega
 have hkc:¬(c=i+K):=by omega
 have hkc2:¬(i+1+K=i):=by omega
 have hi0':(0:Int)≤(i:Int)+1:=by omega
 have hin:(i:Int)+1≤(i:Int)+1+(K:Int):=by omega
 have hin2:(i:Int)+(K:Int)≤(i:Int)+1+(K:Int):=by omega
 have hin3:(i:Int)+1+(K:Int)≤(c:Int):=by omega
 have hK1:i+1+K -(i+1)=K:=by omega
 have hicc:i≤c:=by omega
 have hicc2:(i:Int)≤(c:Int):=by omega
 have hin4:(i:Int)≤(i:Int)+1+(K:Int):=by omega
 have hc63:c≤9223372036854775807:=by unfold maxLen at hc;omega
 clear hcs hsome hfro hcell1 hC hb hsp hdl hi0 hz0 hzs hzb hcl h1c hW1
 go_enter func64,ntmps64
 go_wp2_with fail
 go_region_law (refine step_append_room rfl (.tmp 22) (.tmp 25) PS rfl PT i0 1 underlying56 HI.out.1 HI.out.2 b o i c (by simp[Act.eval,Act.put]) ⟨b,o+(i+1),none⟩ K (c -(i+1)) (cs.drop (i+1)) (by simp[Act.eval,Act.put]) s1.out s2.out s3.out (by omega) s4.out ?_;rw[HW.out])
 all_goals go_wp2_with (first|simp only[HC.out]|simp only[HC2.out])
 all_goals go_ret
 all_goals exact⟨rfl,by rw[HW.out]⟩
end
end
section
open Go.RowKit Go.Lib
section
variable {w w':World} {b o n c i vb:Nat} {zs:List Value} {x:Value}
theorem KR {m:Nat} {zs':List Value} {cur:Array Value} (hb:w'.heap[b]?=some (.cells cur PT (0,0))) (hsz:o+c≤cur.size) (hl:zs'.length=m) (hm:m≤c) (hmx:c≤maxLen) (hc:∀j v,zs'[j]?=some v→w'.cell? ⟨b,o+j,none⟩=some v):gc.ORow w' 0 PT 1 (some ⟨b,o,none⟩) m c zs':=by
 refine⟨by rw[hl,Nat.mul_one],hm,hmx,(λ e=>by cases e),λ a e=>?_⟩
 cases e
 refine⟨b,o,cur,rfl,Nat.zero_le _,hb,by rw[Nat.mul_one];exact hsz,λ j v hj=>?_⟩
 have:=hc j v hj
 simp only[World.cell?,hb]at this
 exact this
theorem NM {α:Type} (zs:List α) (x:α) {i:Nat} (hi:i≤zs.length):(∀j,j<i→(zs.take i++x::zs.drop i)[j]?=zs[j]?)∧(zs.take i++x::zs.drop i)[i]?=some x∧(∀t,(zs.take i++x::zs.drop i)[i+1+t]?=(zs.drop i)[t]?)∧(zs.take i++x::zs.drop i).length=zs.length+1:=by
 have hl:(zs.take i).length=i:=by rw[zw];omega
 refine⟨λ j hj=>?_,?_,λ t=>?_,?_⟩
 ·rw[List.getElem?_append_left (by omega),List.getElem?_take_of_lt hj]
 ·rw[List.getElem?_append_right (by omega),hl,Nat.sub_self]
  rfl
 ·rw[List.getElem?_append_right (by omega),hl,show i+1+t -i=t+1 by omega]
  rfl
 ·rw[List.length_append,hl,List.length_cons,List.length_drop]
  omega
theorem NV {α:Type} (zs:List α) {i:Nat} (hi:i+1≤zs.length):(∀j,j<i→(zs.take i++zs.drop (i+1))[j]?=zs[j]?)∧(∀t,(zs.take i++zs.drop (i+1))[i+t]?=(zs.drop (i+1))[t]?)∧(zs.take i++zs.drop (i+1)).length+1=zs.length:=by
 have hl:(zs.take i).length=i:=by rw[zw];omega
 refine⟨λ j hj=>?_,λ t=>?_,?_⟩
 ·rw[List.getElem?_append_left (by omega),List.getElem?_take_of_lt hj]
 ·rw[List.getElem?_append_right (by omega),hl,Nat.add_sub_cancel_left]
 ·rw[List.length_append,hl,List.length_drop]
  omega
theorem YI {cur:Array Value} (hb:w.heap[b]?=some (.cells cur PT (0,0))) (k:Nat) (hk:k<cur.size):(w.cell? ⟨b,k,none⟩).isSome=true:=by
 simp only[World.cell?,hb]
 rw[Array.getElem?_eq_getElem hk]
 rfl
theorem Qd {b1 o1 o2:Nat} {v1 v2:List Value} {W:World} (hr:∀k,k<w.heap.size→some k≠some b1→W.heap[k]?=w.heap[k]?) (hs:w.heap.size≤W.heap.size) (ho:W.os=w.os) (ht:W.tape=w.tape) (hu:W.output=w.output):
  w.grownBy ((W.setCells b1 o1 v1).drew.setCells b1 o2 v2) (some b1)∧w.grownBy ((W.drew.setCells b1 o1 v1).setCells b1 o2 v2) (some b1):=by
 have g1:=gc.XH W b1 o1 v1
 have g2:=gc.XH (W.setCells b1 o1 v1).drew b1 o2 v2
 have g3:=gc.XH W.drew b1 o1 v1
 have g4:=gc.XH (W.drew.setCells b1 o1 v1) b1 o2 v2
 refine⟨⟨?_,?_,?_,?_,λ k hk hne=>?_⟩,⟨?_,?_,?_,?_,λ k hk hne=>?_⟩⟩
 ·exact g2.os.trans (g1.os.trans ho)
 ·exact g2.tape.trans (g1.tape.trans ht)
 ·exact g2.output.trans (g1.output.trans hu)
 ·exact zt hs (zt g1.size g2.size)
 ·refine(g2.block k (zy hk (zt hs g1.size)) hne).trans ((g1.block k (zy hk hs) hne).trans (hr k hk hne))
 ·exact g4.os.trans (g3.os.trans ho)
 ·exact g4.tape.trans (g3.tape.trans ht)
 ·exact g4.output.trans (g3.output.trans hu)
 ·exact zt hs (zt g3.size g4.size)
 ·refine(g4.block k (zy hk (zt hs g3.size)) hne).trans ((g3.block k (zy hk hs) hne).trans (hr k hk hne))
def DI (w:World) (b:Nat) (m:Nat) (zs:List Value) (e:Ending) (w':World):Prop:=∃a c,e=.returned (.slice (some a) m c)∧gc.ORow w' 0 PT 1 (some a) m c zs∧(w.grownBy w' (some b)∧(a.block=b∨w.heap.size≤a.block))
theorem EU (h:gc.ORow w 0 PT 1 (some ⟨b,o,none⟩) n c zs) (hi:i<n) (hn:n≤10) (hx:w.heap[vb]?=some (.cells #[x] PT (0,0))) (hne:vb≠b) (h1c:∀v∈zs,v.oneCell'=true) (h1x:x.oneCell'=true):
  Calls zf 40 #[.slice (some ⟨b,o,none⟩) n c,.int .i64 (i:Int),.slice (some ⟨vb,0,none⟩) 1 1] w (DI w b (n+1) (zs.take i++x::zs.drop i)):=by
 have hl:zs.length=n:=by have:=h.len;omega
 have hnc:=h.cap
 have hmx:=h.max
 obtain⟨b',o',cur,e,_,hb,hsz,hcur⟩:=h.som _ rfl
 cases e
 rw[Nat.mul_one]at hsz
 have hcs:∀j v,zs[j]?=some v→w.cell? ⟨b,o+j,none⟩=some v:=λ j v hj=>by
  simp only[World.cell?,hb]
  exact hcur j v hj
 obtain⟨g1,g2,g3,g4⟩:=NM zs x (i:=i) (by omega)
 have hdl:(zs.drop i).length=n -i:=by rw[List.length_drop,hl]
 by_cases hroom:n+1≤c
 ·refine(Ll hi hroom hmx hne hl hcs hb (by omega) hx h1c h1x).mono ?_
  rintro e w' ⟨rfl,rfl⟩
  obtain⟨cur1,hb1,hs1⟩:=gc.Xs (zs.drop i) (o+(i+1)) w.drew cur hb
  obtain⟨cur2,hb2,hs2⟩:=gc.Xs [x] (o+i) (w.drew.setCells b (o+(i+1)) (zs.drop i)) cur1 hb1
  have i1:∀j,j<(zs.drop i).length→(w.drew.cell? ⟨b,o+(i+1)+j,none⟩).isSome=true:=λ j hj=>YI (w:=w) hb _ (by omega)
  refine⟨⟨b,o,none⟩,c,rfl,KR hb2 (by omega) (by rw[g4,hl]) hroom hmx λ j v hj=>?_,(Qd (w:=w) (W:=w) (λ _ _ _=>rfl) (zg _) rfl rfl rfl).2,Or.inl rfl⟩
  rcases Nat.lt_trichotomy j i with hlt|rfl|hgt
  ·rw[World.cell?_setCells_out b _ _ _ _ (λ _ _=>Or.inl (by show o+j<o+i;omega)),World.cell?_setCells_out b _ _ _ _ (λ _ _=>Or.inl (by show o+j<o+(i+1);omega))]
   rw[g1 j hlt]at hj
   exact hcs j v hj
  ·rw[g2]at hj
   cases hj
   have:=World.cell?_setCells_in b [x] (o+j) (w.drew.setCells b (o+(j+1)) (zs.drop j)) (λ t ht=>YI hb1 _ (by have:t<1:=ht;omega)) 0 Nat.zero_lt_one
   exact this
  ·obtain⟨t,rfl⟩:∃t,j=i+1+t:=⟨j -(i+1),by omega⟩
   rw[g3 t]at hj
   have ht:=(List.getElem?_eq_some_iff.1 hj).1
   rw[World.cell?_setCells_out b _ _ _ _ (λ _ _=>Or.inr (by show o+i+1≤o+(i+1+t);omega))]
   have:=World.cell?_setCells_in b (zs.drop i) (o+(i+1)) w.drew i1 t ht
   rw[show o+(i+1)+t=o+(i+1+t) by omega]at this
   rw[this,←hj,zj ht]
 ·refine(G2 hi hnc (by omega) hn hl hcs hb hx h1c h1x).mono ?_
  rintro e w' ⟨G,ROW,hG1,hG2,hRs,hRt,rfl,rfl⟩
  have hN:(w.drew.alloc (.cells ROW PT)).heap[w.heap.size]?=some (.cells ROW PT (0,0)):=zo w.drew _
  have hbel:Below w.heap.size w (w.drew.alloc (.cells ROW PT)):=(zh _ _).drew.alloc (zg _) _
  generalize w.drew.alloc (.cells ROW PT)=W at*
  obtain⟨cur1,hb1,hs1⟩:=gc.Xs [x] i W ROW hN
  obtain⟨cur2,hb2,hs2⟩:=gc.Xs (zs.drop i) (i+1) (W.setCells w.heap.size i [x]).drew cur1 hb1
  have hgr:=(Qd (w:=w) (W:=W) (b1:=w.heap.size) (o1:=i) (o2:=i+1) (v1:=[x]) (v2:=zs.drop i) (λ k hk _=>hbel.block k hk) hbel.size hbel.os hbel.tape hbel.output).1
  refine⟨⟨w.heap.size,0,none⟩,G,rfl,KR hb2 (by omega) (by rw[g4,hl]) hG1 hG2 λ j v hj=>?_,⟨hgr.os,hgr.tape,hgr.output,hgr.size,λ k hk _=>hgr.block k hk (λ e=>by cases e;exact absurd hk (Nat.lt_irrefl _))⟩,Or.inr (zg _)⟩
  rw[Nat.zero_add]
  rcases Nat.lt_trichotomy j i with hlt|rfl|hgt
  ·rw[World.cell?_setCells_out _ _ _ _ _ (λ _ _=>Or.inl (by show j<i+1;omega))]
   show(W.setCells w.heap.size i [x]).cell? _=_
   rw[World.cell?_setCells_out _ _ _ _ _ (λ _ _=>Or.inl (by show j<i;omega))]
   rw[g1 j hlt]at hj
   simp only[World.cell?,hN]
   exact hRt j v (by rw[List.getElem?_take_of_lt hlt];exact hj)
  ·rw[g2]at hj
   cases hj
   rw[World.cell?_setCells_out _ _ _ _ _ (λ _ _=>Or.inl (by show j<j+1;omega))]
   have:=World.cell?_setCells_in w.heap.size [x] j W (λ t ht=>YI hN _ (by have:t<1:=ht;omega)) 0 Nat.zero_lt_one
   exact this
  ·obtain⟨t,rfl⟩:∃t,j=i+1+t:=⟨j -(i+1),by omega⟩
   rw[g3 t]at hj
   have ht:=(List.getElem?_eq_some_iff.1 hj).1
   have:=World.cell?_setCells_in w.heap.size (zs.drop i) (i+1) (W.setCells w.heap.size i [x]).drew (λ u hu=>YI (w:=(W.setCells w.heap.size i [x]).drew) hb1 _ (by omega)) t ht
   rw[this,←hj,zj ht]
theorem E5 (h:gc.ORow w 0 PT 1 (some ⟨b,o,none⟩) n c zs) (hi:i+2≤n) (h1c:∀v∈zs,v.oneCell'=true):
  Calls zf 64 #[.slice (some ⟨b,o,none⟩) n c,.int .i64 (i:Int),.int .i64 ((i:Int)+1)] w (DI w b (n -1) (zs.take i++zs.drop (i+1))):=by
 obtain⟨K,rfl⟩:∃K,n=i+1+K:=⟨n -(i+1),by omega⟩
 have hl:zs.length=i+1+K:=by have:=h.len;omega
 have hnc:=h.cap
 have hmx:=h.max
 obtain⟨b',o',cur,e,_,hb,hsz,hcur⟩:=h.som _ rfl
 cases e
 rw[Nat.mul_one]at hsz
 have hcs:∀j v,zs[j]?=some v→w.cell? ⟨b,o+j,none⟩=some v:=λ j v hj=>by
  simp only[World.cell?,hb]
  exact hcur j v hj
 obtain⟨g1,g2,g3⟩:=NV zs (i:=i) (by omega)
 have hdl:(zs.drop (i+1)).length=K:=by rw[List.length_drop,hl];omega
 rw[show i+1+K -1=i+K by omega]
 refine(E4 (by omega) hnc hmx hl hcs hb (by omega) h1c).mono ?_
 rintro e w' ⟨rfl,rfl⟩
 rw[Nat.mul_one]
 obtain⟨cur1,hb1,hs1⟩:=gc.Xs (zs.drop (i+1)) (o+i) w.drew cur hb
 obtain⟨cur2,hb2,hs2⟩:=gc.Xs [.pointer none] (o+(i+K)) (w.drew.setCells b (o+i) (zs.drop (i+1))) cur1 hb1
 refine⟨⟨b,o,none⟩,c,rfl,KR hb2 (by omega) (by omega) (by omega) hmx λ j v hj=>?_,(Qd (w:=w) (W:=w) (λ _ _ _=>rfl) (zg _) rfl rfl rfl).2,Or.inl rfl⟩
 have hjl:=(List.getElem?_eq_some_iff.1 hj).1
 rw[World.cell?_setCells_out b _ _ _ _ (λ _ _=>Or.inl (by show o+j<o+(i+K);omega))]
 rcases Nat.lt_or_ge j i with hlt|hge
 ·rw[World.cell?_setCells_out b _ _ _ _ (λ _ _=>Or.inl (by show o+j<o+i;omega))]
  rw[g1 j hlt]at hj
  exact hcs j v hj
 ·obtain⟨t,rfl⟩:∃t,j=i+t:=⟨j -i,by omega⟩
  rw[g2 t]at hj
  have ht:=(List.getElem?_eq_some_iff.1 hj).1
  have:=World.cell?_setCells_in b (zs.drop (i+1)) (o+i) w.drew (λ u hu=>YI (w:=w) hb _ (by omega)) t ht
  rw[show o+i+t=o+(i+t) by omega]at this
  rw[this,←hj,zj ht]
end
end
section
open Go.RowKit
def UB (q:List Nd) (k:Nat) (x:Nd):List Nd:=q.take (k+1)++x::q.drop (k+1)
def Qv (q:List Nd) (k:Nat):List Nd:=q.take (k+1)++q.drop (k+2)
theorem Bu (q:List Nd) (k:Nat) (x:Nd) (h:k+1≤q.length):(∀j,j≤k→nd (UB q k x) j=nd q j)∧nd (UB q k x) (k+1)=x∧(∀j,k+1≤j→nd (UB q k x) (j+1)=nd q j)∧(UB q k x).length=q.length+1:=by
 obtain⟨g1,g2,g3,g4⟩:=NM q x h
 unfold nd UB
 simp only[zi]
 refine⟨λ j hj=>by rw[g1 j (by omega)],by rw[g2];rfl,λ j hj=>?_,g4⟩
 obtain⟨t,rfl⟩:∃t,j=k+1+t:=⟨j -(k+1),by omega⟩
 rw[show k+1+t+1=k+1+1+t by omega,g3 t,List.getElem?_drop]
theorem Bt (q:List Nd) (k:Nat) (h:k+2≤q.length):(∀j,j≤k→nd (Qv q k) j=nd q j)∧(∀j,k+1≤j→nd (Qv q k) j=nd q (j+1))∧(Qv q k).length+1=q.length:=by
 obtain⟨g1,g2,g3⟩:=NV q (i:=k+1) (by omega)
 unfold nd Qv
 simp only[zi]
 refine⟨λ j hj=>by rw[g1 j (by omega)],λ j hj=>?_,g3⟩
 obtain⟨t,rfl⟩:∃t,j=k+1+t:=⟨j -(k+1),by omega⟩
 rw[g2 t,List.getElem?_drop]
 congr 2
 omega
theorem L1 (l:List Prt) (k:Nat) (p:Prt) (h:k+1≤l.length):(∀j,j≤k+1→Zj (Ch.Zb l k p) j=Zj l j)∧(∀j,k+1≤j→Zj (Ch.Zb l k p) (j+1)=Zj l j+p.s.S.size):=by
 refine⟨λ j hj=>?_,λ j hj=>?_⟩
 ·cases j with
  |zero=>rfl
  |succ j=>exact Ch.MY l k j p h (by omega)
 ·obtain⟨i,rfl⟩:∃i,j=i+1:=⟨j -1,by omega⟩
  exact Ch.KF l k i p h (by omega)
theorem L0 (l:List Prt) (k:Nat) (h:k+2≤l.length):(∀j,j≤k+1→Zj (Ch.ZO l k) j=Zj l j)∧(∀j,k+1≤j→Zj l (j+1)=Zj (Ch.ZO l k) j+(l.getD (k+1) Zp).s.S.size):=by
 refine⟨λ j hj=>?_,λ j hj=>?_⟩
 ·cases j with
  |zero=>rfl
  |succ j=>exact Ch.Q4 l k j h (by omega)
 ·obtain⟨i,rfl⟩:∃i,j=i+1:=⟨j -1,by omega⟩
  exact Ch.Q5 l k i h (by omega)
section
variable {w w':World} {g b o:Nat} {cap:Nat} {q:List Nd} {c:Ch} {M:Nat}
theorem CAt.Sx (_h:CAt w g (some ⟨b,o,none⟩) cap q c M) (hg:w.grownBy w' (some b)) (v:Value) {i:Nat} (hi:i<w.heap.size) (h1:i≠b) (h2:i≠g):(w'.setCell ⟨g,0,none⟩ v).heap[i]?=w.heap[i]?:=
 (zn _ _ _ _ h2).trans (hg.block i hi (λ e=>by cases e;exact h1 rfl))
theorem CAt.ins {k pp gg:Nat} {U:Own} {s:St} {bb:Bool} {a:Addr} {cap':Nat} (h:CAt w g (some ⟨b,o,none⟩) cap q c M) (hk:k+2≤c.L.length) (h9:c.L.length<10) (hp:PAt w pp gg U s bb 0) (hd:∀i,YO pp U i→¬ZX g (some ⟨b,o,none⟩) q i) (hs0:s.S.size=0)
  (hr:gc.ORow w' 0 PT 1 (some a) (c.L.length+1) cap' ((q.map λ x=>ptr x.p).take (k+1)++ptr pp::(q.map λ x=>ptr x.p).drop (k+1))) (hg:w.grownBy w' (some b)) (ha:a.block=b∨w.heap.size≤a.block):
  CAt (w'.setCell ⟨g,0,none⟩ (.slice (some a) (c.L.length+1) cap')) g (some a) cap' (UB q k ⟨pp,gg,U,0⟩) {c with L:=Ch.Zb c.L k ⟨s,bb⟩} M∧
   Mvd w (orU (ZX g (some ⟨b,o,none⟩) q) (YO pp U)) (w'.setCell ⟨g,0,none⟩ (.slice (some a) (c.L.length+1) cap')) (ZX g (some a) (UB q k ⟨pp,gg,U,0⟩)):=by
 have hq:=h.len
 obtain⟨n1,n2,n3,n4⟩:=Bu q k ⟨pp,gg,U,0⟩ (by omega)
 obtain⟨s1,s2⟩:=L1 c.L k ⟨s,bb⟩ (by omega)
 have hl:(Ch.Zb c.L k ⟨s,bb⟩).length=c.L.length+1:=Ch.Xb _ _ _ (by omega)
 have p1:∀j,j≤k→({c with L:=Ch.Zb c.L k ⟨s,bb⟩}:Ch).at' j=c.at' j:=λ j hj=>Ch.Yo _ _ _ _ (by omega) hj
 have p2:({c with L:=Ch.Zb c.L k ⟨s,bb⟩}:Ch).at' (k+1)=⟨s,bb⟩:=Ch.Yp _ _ _ (by omega)
 have p3:∀j,k+1≤j→({c with L:=Ch.Zb c.L k ⟨s,bb⟩}:Ch).at' (j+1)=c.at' j:=λ j hj=>Ch.JX _ _ _ _ (by omega) hj
 have hgb:g≠b:=λ e=>h.V3 rfl e.symm
 have hgl:=gb.qd h.blk
 have hob:∀i,ZX g (some ⟨b,o,none⟩) q i→i<w.heap.size:=λ i hi=>h.lt hi
 have hg1:w'.heap[g]?=w.heap[g]?:=hg.block g hgl (λ e=>by cases e;exact hgb rfl)
 have hst:∀j,j<c.L.length→Rep (w'.setCell ⟨g,0,none⟩ (.slice (some a) (c.L.length+1) cap')) (nd q j).U (nd q j).g (c.at' j).s (nd q j).m:=λ j hj=>XY (h.stg j hj) λ i hi=>h.Sx hg _ ((JK (h.stg j hj)).2 i hi) (λ e=>h.T5 hj rfl (by rw[←e];exact hi)) (λ e=>h.j7 hj (by rw[←e];exact hi))
 have hpt:∀j,j<c.L.length→(w'.setCell ⟨g,0,none⟩ (.slice (some a) (c.L.length+1) cap')).heap[(nd q j).p]?=some (.cells (UW (nd q j).g (c.at' j).closed) 90 (0,0)):=λ j hj=>(h.Sx hg _ (gb.qd (h.prt j hj)) (λ e=>h.Q2 hj rfl e.symm) (h.UX hj)).trans (h.prt j hj)
 have hnb:∀i,YO pp U i→i≠b∧i≠g:=λ i hi=>⟨λ e=>hd i hi (Or.inr (Or.inl ⟨_,rfl,e.symm⟩)),λ e=>hd i hi (Or.inl e)⟩
 have hnew:PAt (w'.setCell ⟨g,0,none⟩ (.slice (some a) (c.L.length+1) cap')) pp gg U s bb 0:=hp.keep λ i hi=>h.Sx hg _ (hp.lt hi) (hnb i hi).1 (hnb i hi).2
 refine⟨⟨?_,?_,?_,?_,λ j hj=>?_,λ j hj=>?_,λ i j hi hj hne=>?_,λ j hj=>?_,?_,h.top⟩,⟨⟨⟨hg.os,hg.tape,hg.output,by simpa[World.setCell]using hg.size,λ i hi=>absurd hi (Nat.not_lt_zero i)⟩,λ i hi hu=>?_⟩,λ i hi=>?_⟩⟩
 ·show(UB q k _).length=(Ch.Zb c.L k _).length
  rw[n4,hl,hq]
 ·show(Ch.Zb c.L k _).length≤10
  rw[hl]
  omega
 ·show _=some (Obj.cells (chC (some a) (Ch.Zb c.L k _).length cap' _) _ _)
  rw[hl]
  have:=hg1.trans h.blk
  rw[gb.qo this]
  rfl
 ·show gc.ORow _ 0 _ 1 (some a) (Ch.Zb c.L k _).length cap' _
  rw[hl]
  have e:(UB q k ⟨pp,gg,U,0⟩).map (λ x=>ptr x.p)=(q.map λ x=>ptr x.p).take (k+1)++ptr pp::(q.map λ x=>ptr x.p).drop (k+1):=by
   unfold UB
   rw[List.map_append,List.map_cons,List.map_take,List.map_drop]
  rw[e]
  exact hr.set (hg1.trans h.blk) (by decide) 0 _
 ·have hj:j<c.L.length+1:=by rw[←hl];exact hj
  rcases Nat.lt_trichotomy j (k+1)with e|rfl|e
  ·rw[n1 j (by omega),p1 j (by omega)]
   exact hpt j (by omega)
  ·rw[n2,p2]
   exact hnew.prt
  ·obtain⟨j,rfl⟩:∃i,j=i+1:=⟨j -1,by omega⟩
   rw[n3 j (by omega),p3 j (by omega)]
   exact hpt j (by omega)
 ·have hj:j<c.L.length+1:=by rw[←hl];exact hj
  rcases Nat.lt_trichotomy j (k+1)with e|rfl|e
  ·rw[n1 j (by omega),p1 j (by omega)]
   exact hst j (by omega)
  ·rw[n2,p2]
   exact hnew.stg
  ·obtain⟨j,rfl⟩:∃i,j=i+1:=⟨j -1,by omega⟩
   rw[n3 j (by omega),p3 j (by omega)]
   exact hst j (by omega)
 ·have hi:i<c.L.length+1:=by rw[←hl];exact hi
  have hj:j<c.L.length+1:=by rw[←hl];exact hj
  have key:∀i,i<c.L.length+1→(i=k+1∧nd (UB q k ⟨pp,gg,U,0⟩) i=⟨pp,gg,U,0⟩)∨(∃x,x<c.L.length∧(x≤k→i=x)∧(k+1≤x→i=x+1)∧nd (UB q k ⟨pp,gg,U,0⟩) i=nd q x):=λ i hi=>by
   rcases Nat.lt_trichotomy i (k+1)with e|rfl|e
   ·exact Or.inr ⟨i,by omega,λ _=>rfl,λ h=>by omega,n1 i (by omega)⟩
   ·exact Or.inl ⟨rfl,n2⟩
   ·obtain⟨x,rfl⟩:∃x,i=x+1:=⟨i -1,by omega⟩
    exact Or.inr ⟨x,by omega,λ h=>by omega,λ _=>rfl,n3 x (by omega)⟩
  rcases key i hi with⟨e1,e2⟩|⟨x,hx,x1,x2,e2⟩<;>rcases key j hj with⟨f1,f2⟩|⟨y,hy,y1,y2,f2⟩
  ·omega
  ·rw[e2,f2]
   exact⟨λ e=>hd pp (Or.inl rfl) (by have e:pp=(nd q y).p:=e;rw[e];exact Ul (by omega)),λ i hi hi'=>hd i (Or.inr hi) (VS (by omega) hi')⟩
  ·rw[e2,f2]
   exact⟨λ e=>hd pp (Or.inl rfl) (by have e:(nd q x).p=pp:=e;rw[←e];exact Ul (by omega)),λ i hi hi'=>hd i (Or.inr hi') (VS (by omega) hi)⟩
  ·rw[e2,f2]
   exact h.apart x y hx hy (by omega)
 ·have hj:j<c.L.length+1:=by rw[←hl];exact hj
  show(nd (UB q k _) j).m+Zj (Ch.Zb c.L k _) j≤M
  rcases Nat.lt_trichotomy j (k+1)with e|rfl|e
  ·rw[n1 j (by omega),s1 j (by omega)]
   exact h.sum j (by omega)
  ·rw[n2,s1 (k+1) (zg _)]
   have:=h.sum (k+1) (by omega)
   show 0+_≤M
   omega
  ·obtain⟨j,rfl⟩:∃i,j=i+1:=⟨j -1,by omega⟩
   rw[n3 j (by omega),s2 j (by omega)]
   have:=h.sum j (by omega)
   show(nd q j).m+(Zj c.L j+s.S.size)≤M
   omega
 ·show 0≤c.lost∧c.lost+(Zj (Ch.Zb c.L k ⟨s,bb⟩) (Ch.Zb c.L k ⟨s,bb⟩).length:Nat)≤M
  rw[hl,s2 c.L.length (by omega)]
  have:=h.los
  show 0≤c.lost∧c.lost+((Zj c.L c.L.length+s.S.size:Nat):Int)≤M
  omega
 ·exact h.Sx hg _ hi (λ e=>hu (Or.inl (Or.inr (Or.inl ⟨_,rfl,e.symm⟩)))) (λ e=>hu (Or.inl (Or.inl e)))
 ·rcases hi with e|⟨a',ha',e⟩|⟨x,hx,e⟩
  ·exact Or.inl (Or.inl (Or.inl e))
  ·cases ha'
   rcases ha with h1|h1
   ·exact Or.inl (Or.inl (Or.inr (Or.inl ⟨_,rfl,h1.symm.trans e⟩)))
   ·exact Or.inr (by rw[←e];exact h1)
  ·unfold UB at hx
   rcases List.mem_append.1 hx with hx|hx
   ·exact Or.inl (Or.inl (Or.inr (Or.inr ⟨x,List.mem_of_mem_take hx,e⟩)))
   ·rcases List.mem_cons.1 hx with rfl|hx
    ·exact Or.inl (Or.inr e)
    ·exact Or.inl (Or.inl (Or.inr (Or.inr ⟨x,List.mem_of_mem_drop hx,e⟩)))
theorem CAt.del {k:Nat} {a:Addr} {cap':Nat} (h:CAt w g (some ⟨b,o,none⟩) cap q c M) (hk:k+3≤c.L.length)
  (hr:gc.ORow w' 0 PT 1 (some a) (c.L.length -1) cap' ((q.map λ x=>ptr x.p).take (k+1)++(q.map λ x=>ptr x.p).drop (k+2))) (hg:w.grownBy w' (some b)) (ha:a.block=b∨w.heap.size≤a.block):
  CAt (w'.setCell ⟨g,0,none⟩ (.slice (some a) (c.L.length -1) cap')) g (some a) cap' (Qv q k) (c.qK k) M∧Mvd w (ZX g (some ⟨b,o,none⟩) q) (w'.setCell ⟨g,0,none⟩ (.slice (some a) (c.L.length -1) cap')) (ZX g (some a) (Qv q k)):=by
 have hq:=h.len
 obtain⟨n1,n2,n3⟩:=Bt q k (by omega)
 obtain⟨s1,s2⟩:=L0 c.L k (by omega)
 have hl:(Ch.ZO c.L k).length=c.L.length -1:=by have:=Ch.YP c.L k (by omega);omega
 have p1:∀j,j≤k→(c.qK k).at' j=c.at' j:=λ j hj=>Ch.Vp _ _ _ (by omega) hj
 have p2:∀j,k+1≤j→(c.qK k).at' j=c.at' (j+1):=λ j hj=>Ch.Ya _ _ _ (by omega) hj
 have hgb:g≠b:=λ e=>h.V3 rfl e.symm
 have hgl:=gb.qd h.blk
 have hg1:w'.heap[g]?=w.heap[g]?:=hg.block g hgl (λ e=>by cases e;exact hgb rfl)
 have hst:∀j,j<c.L.length→Rep (w'.setCell ⟨g,0,none⟩ (.slice (some a) (c.L.length -1) cap')) (nd q j).U (nd q j).g (c.at' j).s (nd q j).m:=λ j hj=>XY (h.stg j hj) λ i hi=>h.Sx hg _ ((JK (h.stg j hj)).2 i hi) (λ e=>h.T5 hj rfl (by rw[←e];exact hi)) (λ e=>h.j7 hj (by rw[←e];exact hi))
 have hpt:∀j,j<c.L.length→(w'.setCell ⟨g,0,none⟩ (.slice (some a) (c.L.length -1) cap')).heap[(nd q j).p]?=some (.cells (UW (nd q j).g (c.at' j).closed) 90 (0,0)):=λ j hj=>(h.Sx hg _ (gb.qd (h.prt j hj)) (λ e=>h.Q2 hj rfl e.symm) (h.UX hj)).trans (h.prt j hj)
 have key:∀i,i<c.L.length -1→∃x,x<c.L.length∧(x≤k→i=x)∧(k+1≤x→i+1=x)∧nd (Qv q k) i=nd q x∧(c.qK k).at' i=c.at' x:=λ i hi=>by
  rcases Nat.lt_or_ge k i with e|e
  ·exact⟨i+1,by omega,λ h=>by omega,λ _=>rfl,n2 i (by omega),p2 i (by omega)⟩
  ·exact⟨i,by omega,λ _=>rfl,λ h=>by omega,n1 i e,p1 i e⟩
 refine⟨⟨?_,?_,?_,?_,λ j hj=>?_,λ j hj=>?_,λ i j hi hj hne=>?_,λ j hj=>?_,?_,h.top⟩,⟨⟨⟨hg.os,hg.tape,hg.output,by simpa[World.setCell]using hg.size,λ i hi=>absurd hi (Nat.not_lt_zero i)⟩,λ i hi hu=>?_⟩,λ i hi=>?_⟩⟩
 ·show(Qv q k).length=(Ch.ZO c.L k).length
  rw[hl]
  omega
 ·show(Ch.ZO c.L k).length≤10
  rw[hl]
  have:=h.ten
  omega
 ·show _=some (Obj.cells (chC (some a) (Ch.ZO c.L k).length cap' _) _ _)
  rw[hl]
  have:=hg1.trans h.blk
  rw[gb.qo this]
  rfl
 ·show gc.ORow _ 0 _ 1 (some a) (Ch.ZO c.L k).length cap' _
  rw[hl]
  have e:(Qv q k).map (λ x=>ptr x.p)=(q.map λ x=>ptr x.p).take (k+1)++(q.map λ x=>ptr x.p).drop (k+2):=by
   unfold Qv
   rw[List.map_append,List.map_take,List.map_drop]
  rw[e]
  exact hr.set (hg1.trans h.blk) (by decide) 0 _
 ·have hj:j<c.L.length -1:=by rw[←hl];exact hj
  obtain⟨x,hx,_,_,e1,e2⟩:=key j hj
  rw[e1,e2]
  exact hpt x hx
 ·have hj:j<c.L.length -1:=by rw[←hl];exact hj
  obtain⟨x,hx,_,_,e1,e2⟩:=key j hj
  rw[e1,e2]
  exact hst x hx
 ·have hi:i<c.L.length -1:=by rw[←hl];exact hi
  have hj:j<c.L.length -1:=by rw[←hl];exact hj
  obtain⟨x,hx,x1,x2,e1,_⟩:=key i hi
  obtain⟨y,hy,y1,y2,f1,_⟩:=key j hj
  rw[e1,f1]
  exact h.apart x y hx hy (by omega)
 ·have hj:j<c.L.length -1:=by rw[←hl];exact hj
  show(nd (Qv q k) j).m+Zj (Ch.ZO c.L k) j≤M
  rcases Nat.lt_or_ge k j with e|e
  ·rw[n2 j (by omega)]
   have h1:=s2 j (by omega)
   have h2:=h.sum (j+1) (by omega)
   omega
  ·rw[n1 j e,s1 j (by omega)]
   exact h.sum j (by omega)
 ·show 0≤c.lost∧c.lost+(Zj (Ch.ZO c.L k) (Ch.ZO c.L k).length:Nat)≤M
  rw[hl]
  have h1:=s2 (c.L.length -1) (by omega)
  rw[show c.L.length -1+1=c.L.length by omega]at h1
  have:=h.los
  omega
 ·exact h.Sx hg _ hi (λ e=>hu (Or.inr (Or.inl ⟨_,rfl,e.symm⟩))) (λ e=>hu (Or.inl e))
 ·rcases hi with e|⟨a',ha',e⟩|⟨x,hx,e⟩
  ·exact Or.inl (Or.inl e)
  ·cases ha'
   rcases ha with h1|h1
   ·exact Or.inl (Or.inr (Or.inl ⟨_,rfl,h1.symm.trans e⟩))
   ·exact Or.inr (by rw[←e];exact h1)
  ·unfold Qv at hx
   rcases List.mem_append.1 hx with hx|hx
   ·exact Or.inl (Or.inr (Or.inr ⟨x,List.mem_of_mem_take hx,e⟩))
   ·exact Or.inl (Or.inr (Or.inr ⟨x,List.mem_of_mem_drop hx,e⟩))
end
end
section
open Go.RowKit
section
variable {w w':World}
theorem T0 {t:Tox} {seed room now:Int} (ht:t.s.size≤maxLen) (hE:Zx t room=0) (w:World):Calls zf 20 #[t.v,.int .u64 seed,.int .i64 room,.int .i64 now] w λ e w'=>
  ∃pp gg U,e=.returned (.tuple #[ptr pp,.int .i64 0])∧PAt w' pp gg U (Zh t seed room now) false 0∧Fr w w' (YO pp U):=by
 have hal:Below w.heap.size w (w.alloc (Zg t)):=(zh _ _).alloc (zg _) _
 have hnew:=zo w (Zg t)
 have HN:=zd (Bp (seed:=seed) (now:=now) ht hE (w.alloc (Zg t)))
 have HA:=zd hal
 have HF:=zd (λ (W:World) gg U (hr:Rep W U gg (Zh t seed room now) 0) (hu:∀i,U i→(w.alloc (Zg t)).heap.size≤i) (hb:Below (w.alloc (Zg t)).heap.size (w.alloc (Zg t)) W)=>(show PAt (W.alloc (.cells #[ptr gg,.bool false] 90)) W.heap.size gg U (Zh t seed room now) false 0∧Fr w (W.alloc (.cells #[ptr gg,.bool false] 90)) (YO W.heap.size U)from by
  have hb2:Below W.heap.size W (W.alloc (.cells #[ptr gg,.bool false] 90)):=(zh _ _).alloc (zg _) _
  have hs:w.heap.size≤W.heap.size:=zt hal.size hb.size
  refine⟨⟨zo W _,XY hr λ i hi=>hb2.block i ((JK hr).2 i hi)⟩,(hal.trans (hb.mono hal.size)).trans (hb2.mono hs),λ i hi=>?_⟩
  rcases hi with rfl|hi
  ·exact hs
  ·exact zt hal.size (hu i hi)))
 unfold Zg at hnew HN HF
 unfold Tox.v at*
 have u0:=ze _ w.heap.size 0 _ _ _ hnew
 have u1:=ze _ w.heap.size 1 _ _ _ hnew
 have u2:=ze _ w.heap.size 2 _ _ _ hnew
 have u3:=ze _ w.heap.size 3 _ _ _ hnew
 have u4:=ze _ w.heap.size 4 _ _ _ hnew
 have u5:=ze _ w.heap.size 5 _ _ _ hnew
 clear hnew hal
 go_enter func20,ntmps20
 go_wp2_with fail
 refine HN.out.mono ?_
 rintro e w1 ⟨gg,U,rfl,hr,hu,hb⟩
 have HR:=zd (HF.out w1 gg U hr hu hb)
 clear hr hu hb HF HN u0 u1 u2 u3 u4 u5
 go_wp2_with fail
 go_ret2
 exact⟨w1.heap.size,gg,U,rfl,HR.out.1,HR.out.2⟩
theorem Nw {t:Tox} {seed room now:Int} (ht:t.s.size≤maxLen) (hE:Zx t room≠0) (w:World):Calls zf 20 #[t.v,.int .u64 seed,.int .i64 room,.int .i64 now] w λ e w'=>
  e=.returned (.tuple #[.pointer none,.int .i64 (Zx t room)])∧Below w.heap.size w w':=by
 have hal:Below w.heap.size w (w.alloc (Zg t)):=(zh _ _).alloc (zg _) _
 have hnew:=zo w (Zg t)
 have HN:=zd (Br (seed:=seed) (now:=now) ht hE (w.alloc (Zg t)))
 have HA:=zd hal
 have d1:decide (Zx t room=0)=false:=by simpa using hE
 have d2:(Zx t room==0)=false:=by simpa using hE
 have d3:(Zx t room !=0)=true:=by simpa using hE
 generalize Zx t room=E at*
 unfold Zg at hnew HN HA
 unfold Tox.v at*
 have u0:=ze _ w.heap.size 0 _ _ _ hnew
 have u1:=ze _ w.heap.size 1 _ _ _ hnew
 have u2:=ze _ w.heap.size 2 _ _ _ hnew
 have u3:=ze _ w.heap.size 3 _ _ _ hnew
 have u4:=ze _ w.heap.size 4 _ _ _ hnew
 have u5:=ze _ w.heap.size 5 _ _ _ hnew
 clear hnew hal
 go_enter func20,ntmps20
 go_wp2_with fail
 refine HN.out.mono ?_
 rintro e w1 ⟨rfl,hb⟩
 have HR:=zd (HA.out.trans (hb.mono HA.out.size))
 clear hb HN u0 u1 u2 u3 u4 u5
 go_wp2_with fail
 go_ret2
 exact⟨rfl,HR.out⟩
end
section
variable {w w':World} {g:Nat} {p:Option Addr} {cap:Nat} {q:List Nd} {c c':Ch} {M M':Nat}
def To (w:World) (g:Nat) (p:Option Addr) (q:List Nd) (c:Ch) (M:Nat) (w':World):Prop:=∃p' cap' q',CAt w' g p' cap' q' c M∧Mvd w (ZX g p q) w' (ZX g p' q')
theorem qx.new (h:qx w g p cap q c M w'):To w g p q c M w':=by
 obtain⟨q',h1,h2,_⟩:=h
 exact⟨p,cap,q',h1,h2⟩
theorem Lm (h:CAt w g p cap q c M) (h2:2≤c.L.length) (at':Int) (t:Tox) (seed now:Int) (hn:at'<0∨(c.L.length:Int) -2<at'∨(c.L.length:Int) -2=8):
  Calls zf 14 #[ptr g,.int .i64 at',t.v,.int .u64 seed,.int .i64 now] w λ e w'=>e=.returned (.int .i64 110)∧Below w.heap.size w w':=by
 have hal:Below w.heap.size w (w.alloc (Zg t)):=(zh _ _).alloc (zg _) _
 have HM:=zd (K7 (h.on hal) h2)
 have HA:=zd hal
 unfold Zg at HM HA
 unfold Tox.v
 generalize(c.L.length:Int) -2=n at*
 clear h hal
 by_cases h1:at'<0
 ·go_enter func14,ntmps14
  go_wp2_with fail
  try rw[zl]
  go_ret
  exact⟨rfl,HA.out⟩
 ·by_cases h3:n<at'
  ·go_enter func14,ntmps14
   go_wp2_with (go_at_call 38;refine HM.out.mono ?_;rintro e w' ⟨rfl,rfl⟩)
   try rw[zl]
   go_ret
   exact⟨rfl,HA.out⟩
  ·obtain rfl:n=8:=by omega
   go_enter func14,ntmps14
   go_wp2_with (go_at_call 38;refine HM.out.mono ?_;rintro e w' ⟨rfl,rfl⟩)
   try rw[zl]
   go_ret
   exact⟨rfl,HA.out⟩
theorem Bz (h:CAt w g p cap q c M) (h2:2≤c.L.length) (k:Nat) (t:Tox) (ht:t.s.size≤maxLen) (seed now:Int) (hk:k+2≤c.L.length) (h9:c.L.length<10) (hE:Zx t c.room≠0):
  Calls zf 14 #[ptr g,.int .i64 (k:Int),t.v,.int .u64 seed,.int .i64 now] w λ e w'=>e=.returned (.int .i64 (Zx t c.room))∧Below w.heap.size w w':=by
 have hal:Below w.heap.size w (w.alloc (Zg t)):=(zh _ _).alloc (zg _) _
 have hnew:=zo w (Zg t)
 have h1:=h.on hal
 have HM:=zd (K7 h1 h2)
 have x1:(w.alloc (Zg t)).cell? ⟨g,1,none⟩=some (.int .i64 c.room):=h1.cell 1
 have HN:=zd (Nw (seed:=seed) (now:=now) ht hE (w.alloc (Zg t)).drew)
 have HA:=zd hal
 have d1:decide (Zx t c.room=0)=false:=by simpa using hE
 have d2:(Zx t c.room==0)=false:=by simpa using hE
 have d3:(Zx t c.room !=0)=true:=by simpa using hE
 have hkn:¬((c.L.length:Int) -2<(k:Int)):=by omega
 have hn8:¬((c.L.length:Int) -2=8):=by omega
 generalize Zx t c.room=E at*
 generalize c.room=room at*
 generalize(c.L.length:Int) -2=n at*
 have e1:decide ((k:Int)<0)=false:=by simp
 have e2:decide (n<(k:Int))=false:=by simpa using hkn
 have e3:(n==8)=false:=by simpa using hn8
 unfold Zg at hnew HN HA HM x1
 unfold Tox.v at*
 have u0:=ze _ w.heap.size 0 _ _ _ hnew
 have u1:=ze _ w.heap.size 1 _ _ _ hnew
 have u2:=ze _ w.heap.size 2 _ _ _ hnew
 have u3:=ze _ w.heap.size 3 _ _ _ hnew
 have u4:=ze _ w.heap.size 4 _ _ _ hnew
 have u5:=ze _ w.heap.size 5 _ _ _ hnew
 clear hnew hal h h1
 go_enter func14,ntmps14
 go_wp2_with (go_at_call 38;refine HM.out.mono ?_;rintro e w' ⟨rfl,rfl⟩)
 go_region_law
  (go_simp;go_at_call 20;refine zr HN.out ?_;rintro e w7 ⟨rfl,hb⟩;(have HB7:=zd hb);clear hb)
 all_goals go_wp2_with fail
 all_goals try rw[zl]
 all_goals go_ret
 all_goals exact⟨rfl,HA.out.drew.trans (HB7.out.mono HA.out.size)⟩
def Yf (w:World) (g:Nat) (p:Option Addr) (cap:Nat) (q:List Nd) (c:Ch) (M:Nat) (pp gg:Nat) (s:St) (bb:Bool) (w':World):Prop:=
 ∃U,CAt w' g p cap q c M∧PAt w' pp gg U s bb 0∧(∀i,YO pp U i→¬ZX g p q i)∧Mvd w (ZX g p q) w' (orU (ZX g p q) (YO pp U))∧s.S.size=0
theorem LD {w'':World} {pp gg:Nat} {s:St} {bb:Bool} (h:Yf w g p cap q c M pp gg s bb w') (hb:Below w'.heap.size w' w''):Yf w g p cap q c M pp gg s bb w'':=by
 obtain⟨U,h1,h2,h3,h4,h5⟩:=h
 exact⟨U,h1.on hb,h2.on hb,h3,h4.on hb,h5⟩
theorem Nj {W:World} {pp gg:Nat} {U:Own} {s:St} {bb:Bool} (h:CAt w g p cap q c M) (hb:Below w.heap.size w W) (hp:PAt w' pp gg U s bb 0) (hf:Fr W w' (YO pp U)) (hs:s.S.size=0):Yf w g p cap q c M pp gg s bb w':=by
 obtain⟨f1,f2⟩:=hf
 have hbb:Below w.heap.size w w':=hb.trans (f1.mono hb.size)
 refine⟨U,h.on hbb,hp,λ i hi hc=>?_,⟨⟨hbb.mono (Nat.zero_le _),λ i hi _=>hbb.block i hi⟩,λ i hi=>?_⟩,hs⟩
 ·have:=f2 i hi
  have:=h.lt hc
  have:=hb.size
  omega
 ·rcases hi with e|e
  ·exact Or.inl e
  ·exact Or.inr (zt hb.size (f2 i e))
theorem MM {pp gg:Nat} {s:St} {bb:Bool} (now:Int) (h:Yf w g p cap q c M pp gg s bb w'):Calls zf 39 #[ptr pp,.int .i64 now] w' λ e w2=>e=.returned (.tuple #[])∧Yf w g p cap q c M pp gg (qS s now) true w2:=by
 obtain⟨U,h1,h2,h3,h4,h5⟩:=h
 refine(KH h2 now).mono ?_
 intro e w2 hs
 obtain⟨U',a1,a2⟩:=hs.alone h2
 refine⟨hs.1,U',h1.keep λ i hi=>a2.1.2 i (h1.lt hi) (λ e=>h3 i e hi),a1,λ i hi hc=>?_,h4.trans (a2.mono (λ i hi=>Or.inr hi) λ i hi=>?_),by rw[UJ];exact h5⟩
 ·rcases a2.2 i hi with e|e
  ·exact h3 i e hc
  ·have:=h1.lt hc
   omega
 ·rcases hi with e|e
  ·exact Or.inr (Or.inl e)
  ·exact Or.inl e
theorem G3 (l:List Prt) (k:Nat) (x y:Prt) (h:k+1≤l.length):(Ch.Zb l k x).set (k+1) y=Ch.Zb l k y:=by
 unfold Ch.Zb
 rw[List.set_append_right _ _ (by rw[zw];omega),zw,show k+1 -min (k+1) l.length=0 by omega]
 rfl
theorem EV (c:Ch) (k:Nat) (t:Tox) (seed now:Int) (hk:k+2≤c.L.length):c.X9 k t seed now={c with L:=Ch.Zb c.L k (if(c.at' (k+1)).closed=true then⟨qS (Zh t seed c.room now) now,true⟩else⟨Zh t seed c.room now,false⟩)}:=by
 have e0:c.X9 k t seed now=if(({c with L:=Ch.Zb c.L k ⟨Zh t seed c.room now,false⟩}:Ch).at' (k+2)).closed=true then({c with L:=Ch.Zb c.L k ⟨Zh t seed c.room now,false⟩}:Ch).onC (k+1) (Ch.qA now)else{c with L:=Ch.Zb c.L k ⟨Zh t seed c.room now,false⟩}:=rfl
 have e1:({c with L:=Ch.Zb c.L k ⟨Zh t seed c.room now,false⟩}:Ch).at' (k+2)=c.at' (k+1):=Ch.JX _ _ _ _ (by omega) (zg _)
 have e2:({c with L:=Ch.Zb c.L k ⟨Zh t seed c.room now,false⟩}:Ch).at' (k+1)=⟨Zh t seed c.room now,false⟩:=Ch.Yp _ _ _ (by omega)
 rw[e0,e1]
 split
 ·unfold Ch.onC
  rw[e2]
  show({c with L:=(Ch.Zb c.L k _).set (k+1) _}:Ch)=_
  rw[G3 _ _ _ _ (by omega)]
  rfl
 ·rfl
theorem Lj {b o k pp gg:Nat} {s:St} {bb:Bool} {w2:World} (h2:Yf w g (some ⟨b,o,none⟩) cap q c M pp gg s bb w2) (hk:k+2≤c.L.length) (h9:c.L.length<10):
  Calls zf 40 #[.slice (some ⟨b,o,none⟩) c.L.length cap,.int .i64 ((k:Int)+1),.slice (some ⟨w2.heap.size,0,none⟩) 1 1] (w2.alloc (.cells #[ptr pp] PT)) λ e w'=>
   ∃a cap',e=.returned (.slice (some a) (c.L.length+1) cap')∧(w'.cell? ⟨g,0,none⟩=some (.slice (some ⟨b,o,none⟩) c.L.length cap)∧w'.frozen? ⟨g,0,none⟩=false)∧To w g (some ⟨b,o,none⟩) q {c with L:=Ch.Zb c.L k ⟨s,bb⟩} M (w'.setCell ⟨g,0,none⟩ (.slice (some a) (c.L.length+1) cap')):=by
 have hal:Below w2.heap.size w2 (w2.alloc (.cells #[ptr pp] PT)):=(zh _ _).alloc (zg _) _
 have hnew:=zo w2 (.cells #[ptr pp] PT)
 obtain⟨U,a1,a2,a3,a4,a5⟩:=LD h2 hal
 have hne:w2.heap.size≠b:=by
  obtain⟨U',b1,_⟩:=h2
  have:b<w2.heap.size:=(b1.row.lt _ rfl).2
  intro e
  omega
 have hl:=a1.len
 generalize w2.alloc (.cells #[ptr pp] PT)=w3 at*
 have hi:((k:Int)+1)=((k+1:Nat):Int):=by omega
 rw[hi]
 refine(EU a1.row (i:=k+1) (by omega) (by omega) hnew hne (λ v hv=>?_) rfl).mono ?_
 ·obtain⟨x,_,rfl⟩:=List.mem_map.1 hv
  rfl
 ·rintro e w' ⟨a,cap',rfl,hr,hg,ha⟩
  obtain⟨b1,b2⟩:=a1.ins hk h9 a2 a3 a5 hr hg ha
  have hgb:g≠b:=λ e=>a1.V3 rfl e.symm
  have hblk:w'.heap[g]?=some (.cells (chC (some ⟨b,o,none⟩) c.L.length cap c) 58 (0,0)):=(hg.block g (gb.qd a1.blk) (λ e=>by cases e;exact hgb rfl)).trans a1.blk
  exact⟨a,cap',rfl,⟨ze _ _ 0 _ _ _ hblk,gb.qa hblk⟩,_,_,_,b1,a4.trans b2⟩
theorem ET (h:CAt w g p cap q c M) (h2:2≤c.L.length) (k:Nat) (t:Tox) (ht:t.s.size≤maxLen) (seed now:Int) (hk:k+2≤c.L.length) (h9:c.L.length<10) (hE:Zx t c.room=0):
  Calls zf 14 #[ptr g,.int .i64 (k:Int),t.v,.int .u64 seed,.int .i64 now] w λ e w'=>e=.returned (.int .i64 0)∧To w g p q (c.X9 k t seed now) M w':=by
 have hal:Below w.heap.size w (w.alloc (Zg t)):=(zh _ _).alloc (zg _) _
 have hnew:=zo w (Zg t)
 have h1:=h.on hal
 obtain⟨b,o,rfl,hr,hnc,hmx⟩:=h1.rows (by omega)
 have HM:=zd (K7 h1 h2)
 have x1:(w.alloc (Zg t)).cell? ⟨g,1,none⟩=some (.int .i64 c.room):=h1.cell 1
 have HN:=zd (T0 (seed:=seed) (now:=now) ht hE (w.alloc (Zg t)).drew)
 have hk1:k+1<c.L.length:=by omega
 have HB:=zd (λ W pp gg U (hp:PAt W pp gg U (Zh t seed c.room now) false 0) (hf:Fr (w.alloc (Zg t)).drew W (YO pp U))=>(show Yf w g (some ⟨b,o,none⟩) cap q c M pp gg (Zh t seed c.room now) false W from Nj h hal.drew hp hf rfl))
 have HCL:=zd (λ W pp gg s bb (hx:Yf w g (some ⟨b,o,none⟩) cap q c M pp gg s bb W)=>(show(W.cell? ⟨g,0,none⟩=some (.slice (some ⟨b,o,none⟩) c.L.length cap)∧W.cell? ⟨b,o+(k+1),none⟩=some (ptr (nd q (k+1)).p))∧W.cell? ⟨(nd q (k+1)).p,1,none⟩=some (.bool (c.at' (k+1)).closed)from by
  obtain⟨U,a1,_⟩:=hx
  exact⟨⟨a1.cell 0,a1.Sj hk1⟩,(a1.Vc hk1).2.1⟩))
 have HSH:=zd (λ W pp gg (hx:Yf w g (some ⟨b,o,none⟩) cap q c M pp gg (Zh t seed c.room now) false W)=>MM now hx)
 have HST:=zd (λ W pp gg s bb (hx:Yf w g (some ⟨b,o,none⟩) cap q c M pp gg s bb W)=>Lj (k:=k) hx hk h9)
 have hlt:=gb.qd h.blk
 have HLT:=zd (λ W pp gg s bb (hx:Yf w g (some ⟨b,o,none⟩) cap q c M pp gg s bb W)=>(show g<W.heap.size from by
  obtain⟨U,a1,_⟩:=hx
  exact gb.qd a1.blk))
 have HIS:=zd (EV c k t seed now hk)
 have e1:decide ((k:Int)<0)=false:=by simp
 have e2:decide ((c.L.length:Int) -2<(k:Int))=false:=by simp;omega
 have e3:((c.L.length:Int) -2==8)=false:=by simp;omega
 have hti:((k:Int)+1).toNat=k+1:=by omega
 have hi0:(0:Int)≤(k:Int)+1:=by omega
 have hi1:(k:Int)+1<(c.L.length:Int):=by omega
 have hiw:IntKind.i64.wrap ((k:Int)+1)=(k:Int)+1:=qs (by omega) (by omega)
 have hk10:k≤10:=by omega
 obtain⟨cl,hcl⟩:∃cl,(c.at' (k+1)).closed=cl:=⟨_,rfl⟩
 rw[hcl]at HCL HIS
 have HIS2:=HIS
 generalize hci:c.X9 k t seed now=ci at*
 have HCI:=zd hci
 generalize hcr:c.room=room at x1 HN
 generalize(c.L.length:Int) -2=n2 at HM e2 e3
 have HCR:=zd hcr
 generalize hn:c.L.length=n at hnc h2 hk hk1 HCL hi1 h9
 unfold Zg at hnew HN HB HM x1
 unfold Tox.v at*
 have u0:=ze _ w.heap.size 0 _ _ _ hnew
 have u1:=ze _ w.heap.size 1 _ _ _ hnew
 have u2:=ze _ w.heap.size 2 _ _ _ hnew
 have u3:=ze _ w.heap.size 3 _ _ _ hnew
 have u4:=ze _ w.heap.size 4 _ _ _ hnew
 have u5:=ze _ w.heap.size 5 _ _ _ hnew
 have HNL:=zd hn
 rw[hn]at HST
 rw[hcr]at HB HSH HIS
 clear hnew hal h h1 hr hcl hci hcr hn hlt HIS2
 generalize nd q (k+1)=ndk at*
 go_enter func14,ntmps14
 go_wp2_with (go_at_call 38;refine HM.out.mono ?_;rintro e w' ⟨rfl,rfl⟩)
 go_region_law
  (go_simp;go_at_call 20;refine zr HN.out ?_;rintro e w7 ⟨pp,gg,U,rfl,hp,hf⟩;(have HB7:=zd (HB.out w7 pp gg U hp hf));clear hp hf)
 all_goals
  clear u0 u1 u2 u3 u4 u5 x1 HM HN HB
  have y0:=(HCL.out w7 pp gg _ _ HB7.out).1.1
  have y1:=(HCL.out w7 pp gg _ _ HB7.out).1.2
  have y2:=(HCL.out w7 pp gg _ _ HB7.out).2
  generalize ndk.p=pk at*
  cases cl with
  |true=>
   have HIS3:=zd (HIS.out.trans (by rw[if_pos rfl]))
   go_wp2_with (first
    |(go_at_call 39;refine(HSH.out w7 pp gg HB7.out).mono ?_;rintro e w8 ⟨rfl,hb8⟩;(have HB8:=zd hb8);(have y8:=(HCL.out w8 pp gg _ _ HB8.out).1.1);clear hb8 y0 y1 y2)
    |(go_at_call 40;refine(HST.out w8 pp gg _ _ HB8.out).mono ?_;rintro e w9 ⟨a,cap',rfl,⟨z0,f0⟩,hc⟩;(have HC9:=zd hc);clear hc y8))
   try rw[zl]
   go_ret
   refine⟨rfl,?_⟩
   rw[HIS3.out]
   have hz:=HC9.out
   rw[HCR.out]at hz
   exact hz
  |false=>
   have HIS3:=zd (HIS.out.trans (by rw[if_neg (by decide)]))
   go_wp2_with (go_at_call 40;refine(HST.out w7 pp gg _ _ HB7.out).mono ?_;rintro e w9 ⟨a,cap',rfl,⟨z0,f0⟩,hc⟩;(have HC9:=zd hc);clear hc y0 y1 y2)
   try rw[zl]
   go_ret
   refine⟨rfl,?_⟩
   rw[HIS3.out]
   have hz:=HC9.out
   rw[HCR.out]at hz
   exact hz
end
end
section
open Go.RowKit
section
variable {w w':World}
def BD (room:Int):Ch:=⟨[],room,0,false,0⟩
def Made (w0:World) (g:Nat) (c:Ch) (W:World):Prop:=∃p cap q,CAt W g p cap q c 0∧Fr w0 W (ZX g p q)
theorem SJ (w:World) (room:Int):Made w w.heap.size (BD room) (w.alloc (.cells #[.slice none 0 0,.int .i64 room,.int .i64 0,.bool false,.int .i64 0] 58)):=by
 have hal:Below w.heap.size w (w.alloc (.cells #[.slice none 0 0,.int .i64 room,.int .i64 0,.bool false,.int .i64 0] 58)):=(zh _ _).alloc (zg _) _
 refine⟨none,0,[],⟨rfl,Nat.zero_le _,zo w _,gc.JA _ _ _ _,λ k hk=>absurd hk (Nat.not_lt_zero k),λ k hk=>absurd hk (Nat.not_lt_zero k),λ i j hi=>absurd hi (Nat.not_lt_zero i),λ k hk=>absurd hk (Nat.not_lt_zero k),⟨Int.le_refl _,Int.le_refl _⟩,by decide⟩,hal,λ i hi=>?_⟩
 rcases hi with rfl|⟨a,ha,_⟩|⟨x,hx,_⟩
 ·exact zg _
 ·cases ha
 ·cases hx
theorem KE (l:List Prt) (h:∀x∈l,x.s.S.size=0):(l.map λ p=>p.s.S.size).sum=0:=by
 induction l with
 |nil=>rfl
 |cons a r ih=>
  have h1:=h a (by simp)
  have h2:=ih (λ x hx=>h x (by simp[hx]))
  simp only[List.map_cons,List.sum_cons]
  omega
theorem P3 {w0 W:World} {g:Nat} {c:Ch} {pp gg:Nat} {U:Own} {s:St} {bb:Bool} {p:Option Addr} {cap:Nat} {q:List Nd} (h1:CAt W g p cap q c 0) (h2:Fr w0 W (ZX g p q)) (h9:c.L.length<10) (hp:PAt W pp gg U s bb 0) (hd:∀i,YO pp U i→w0.heap.size≤i) (hdj:∀i,YO pp U i→¬ZX g p q i) (hs:s.S.size=0):
  ∃p' cap' W',W.cell? ⟨g,0,none⟩=some (.slice p c.L.length cap)∧(∀ty,(Builtin.append_ #[PS,PS] ty #[.slice p c.L.length cap,.slice (some ⟨W.heap.size,0,none⟩) 1 1]).run zf (W.alloc (.cells #[ptr pp] PT))=.ok (.slice p' (c.L.length+1) cap') W')∧
   (W'.cell? ⟨g,0,none⟩=some (.slice p c.L.length cap)∧W'.frozen? ⟨g,0,none⟩=false)∧Made w0 g {c with L:=c.L++[(⟨s,bb⟩:Prt)]} (W'.setCell ⟨g,0,none⟩ (.slice p' (c.L.length+1) cap')):=by
 have hal:Below W.heap.size W (W.alloc (.cells #[ptr pp] PT)):=(zh _ _).alloc (zg _) _
 have hnew:=zo W (.cells #[ptr pp] PT)
 obtain⟨i0,hi0,hz0,hz1,hz2⟩:=info_parts Nv
 have hrow:=(h1.row.on hal)
 obtain⟨p',cap',W',hr1,hr2,hr3,hr4⟩:=gc.Yu (t:=PS) hrow (Nat.zero_le _) underlying56 hi0 hz0 hz1 hz2 rfl (by decide) (a:=⟨W.heap.size,0,none⟩) (m:=1) (d:=1) (news:=[ptr pp]) rfl (λ j u hj=>by
  cases j with
  |zero=>cases hj;rw[WideShapes.add_plain];exact ze _ _ 0 _ _ _ hnew
  |succ j=>cases hj) (λ u hu=>by simp at hu;rw[hu];rfl) (by unfold maxLen;omega) (by omega)
 have hlt:∀i,i<W.heap.size→(∀a,p=some a→a.block≠i)→W'.heap[i]?=W.heap[i]?:=λ i hi hne=>(hr3.block i (zy hi hal.size) (λ e=>by
  cases p with
  |none=>cases e
  |some a=>
   have e:some i=some a.block:=e
   cases e
   exact hne a rfl rfl)).trans (hal.block i hi)
 have hgl:=gb.qd h1.blk
 have hg1:W'.heap[g]?=W.heap[g]?:=hlt g hgl (λ a ha e=>h1.V3 ha e)
 have hq:=h1.len
 have hob:∀(v:Value) i,i<W.heap.size→(∀a,p=some a→a.block≠i)→i≠g→(W'.setCell ⟨g,0,none⟩ v).heap[i]?=W.heap[i]?:=λ v i hi h1 h2=>(zn _ _ _ _ h2).trans (hlt i hi h1)
 obtain⟨v,hv⟩:∃v,Value.slice p' (c.L.length+1) cap'=v:=⟨_,rfl⟩
 have hst:∀j,j<c.L.length→Rep (W'.setCell ⟨g,0,none⟩ v) (nd q j).U (nd q j).g (c.at' j).s (nd q j).m:=λ j hj=>XY (h1.stg j hj) λ i hi=>hob v i ((JK (h1.stg j hj)).2 i hi) (λ a ha e=>h1.T5 hj ha (by rw[e];exact hi)) (λ e=>h1.j7 hj (by rw[←e];exact hi))
 have hpt:∀j,j<c.L.length→(W'.setCell ⟨g,0,none⟩ v).heap[(nd q j).p]?=some (.cells (UW (nd q j).g (c.at' j).closed) 90 (0,0)):=λ j hj=>(hob v _ (gb.qd (h1.prt j hj)) (λ a ha e=>h1.Q2 hj ha e) (h1.UX hj)).trans (h1.prt j hj)
 have hnw:PAt (W'.setCell ⟨g,0,none⟩ v) pp gg U s bb 0:=hp.keep λ i hi=>hob v i (hp.lt hi) (λ a ha e=>hdj i hi (Or.inr (Or.inl ⟨a,ha,e⟩))) (λ e=>hdj i hi (Or.inl e))
 have hlq:nd (q++[(⟨pp,gg,U,0⟩:Nd)]) c.L.length=⟨pp,gg,U,0⟩:=by
  unfold nd
  rw[zi,List.getElem?_append_right (by omega),hq,Nat.sub_self]
  rfl
 have hoq:∀j,j<c.L.length→nd (q++[(⟨pp,gg,U,0⟩:Nd)]) j=nd q j:=λ j hj=>by
  unfold nd
  rw[zi,zi,List.getElem?_append_left (by omega)]
 have hlc:({c with L:=c.L++[(⟨s,bb⟩:Prt)]}:Ch).at' c.L.length=⟨s,bb⟩:=by
  unfold Ch.at'
  rw[zi,List.getElem?_append_right (zg _),Nat.sub_self]
  rfl
 have hoc:∀j,j<c.L.length→({c with L:=c.L++[(⟨s,bb⟩:Prt)]}:Ch).at' j=c.at' j:=λ j hj=>by
  unfold Ch.at'
  rw[zi,zi,List.getElem?_append_left hj]
 have hsz:∀j,j<c.L.length→(c.at' j).s.S.size=0:=λ j hj=>by
  have h3:=h1.sum j hj
  have h4:=(OF (h1.stg j hj)).1
  omega
 have hsum:∀j,Zj (c.L++[(⟨s,bb⟩:Prt)]) j=0:=λ j=>by
  unfold Zj
  refine KE _ λ y hy=>?_
  have hy:=List.mem_of_mem_take hy
  rcases List.mem_append.1 hy with hy|hy
  ·obtain⟨k,hk,rfl⟩:=List.getElem_of_mem hy
   have:=hsz k hk
   unfold Ch.at' at this
   rw[zi,zj hk]at this
   exact this
  ·simp at hy
   rw[hy]
   exact hs
 have hl1:(c.L++[(⟨s,bb⟩:Prt)]).length=c.L.length+1:=by simp
 refine⟨p',cap',W',h1.cell 0,λ ty=>hr1 ty,⟨ze _ _ 0 _ _ _ (hg1.trans h1.blk),gb.qa (hg1.trans h1.blk)⟩,p',cap',q++[⟨pp,gg,U,0⟩],⟨?_,?_,?_,?_,λ j hj=>?_,λ j hj=>?_,λ i j hi hj hne=>?_,λ j hj=>?_,?_,by decide⟩,⟨⟨?_,?_,?_,?_,λ i hi=>?_⟩,λ i hi=>?_⟩⟩
 ·rw[List.length_append]
  show q.length+1=(c.L++[(⟨s,bb⟩:Prt)]).length
  rw[hl1,hq]
 ·show(c.L++[(⟨s,bb⟩:Prt)]).length≤10
  rw[hl1]
  omega
 ·show _=some (Obj.cells (chC p' (c.L++[(⟨s,bb⟩:Prt)]).length cap' _) _ _)
  rw[hl1]
  have:=hg1.trans h1.blk
  rw[gb.qo this]
  rfl
 ·show gc.ORow _ 0 _ 1 p' (c.L++[(⟨s,bb⟩:Prt)]).length cap' _
  rw[hl1,List.map_append]
  exact hr2.set (hg1.trans h1.blk) (by decide) 0 _
 ·have hj:j<c.L.length+1:=by rw[←hl1];exact hj
  rw[hv]
  rcases Nat.lt_or_ge j c.L.length with e|e
  ·rw[hoq j e,hoc j e]
   exact hpt j e
  ·obtain rfl:j=c.L.length:=by omega
   rw[hlq,hlc]
   exact hnw.prt
 ·have hj:j<c.L.length+1:=by rw[←hl1];exact hj
  rw[hv]
  rcases Nat.lt_or_ge j c.L.length with e|e
  ·rw[hoq j e,hoc j e]
   exact hst j e
  ·obtain rfl:j=c.L.length:=by omega
   rw[hlq,hlc]
   exact hnw.stg
 ·have hi:i<c.L.length+1:=by rw[←hl1];exact hi
  have hj:j<c.L.length+1:=by rw[←hl1];exact hj
  rcases Nat.lt_or_ge i c.L.length with e|e<;>rcases Nat.lt_or_ge j c.L.length with f|f
  ·rw[hoq i e,hoq j f]
   exact h1.apart i j e f hne
  ·obtain rfl:j=c.L.length:=by omega
   rw[hoq i e,hlq]
   exact⟨λ ee=>hdj pp (Or.inl rfl) (by have ee:(nd q i).p=pp:=ee;rw[←ee];exact Ul (by omega)),λ x hx hx'=>hdj x (Or.inr hx') (VS (by omega) hx)⟩
  ·obtain rfl:i=c.L.length:=by omega
   rw[hoq j f,hlq]
   exact⟨λ ee=>hdj pp (Or.inl rfl) (by have ee:pp=(nd q j).p:=ee;rw[ee];exact Ul (by omega)),λ x hx hx'=>hdj x (Or.inr hx) (VS (by omega) hx')⟩
  ·omega
 ·have hj:j<c.L.length+1:=by rw[←hl1];exact hj
  show(nd (q++[(⟨pp,gg,U,0⟩:Nd)]) j).m+Zj (c.L++[(⟨s,bb⟩:Prt)]) j≤0
  rw[hsum]
  rcases Nat.lt_or_ge j c.L.length with e|e
  ·rw[hoq j e]
   have:=h1.sum j e
   omega
  ·obtain rfl:j=c.L.length:=by omega
   rw[hlq]
   exact zg _
 ·show 0≤c.lost∧c.lost+(Zj (c.L++[(⟨s,bb⟩:Prt)]) _:Nat)≤0
  rw[hsum]
  have:=h1.los
  omega
 ·exact hr3.os.trans (hal.os.trans h2.1.os)
 ·exact hr3.tape.trans (hal.tape.trans h2.1.tape)
 ·exact hr3.output.trans (hal.output.trans h2.1.output)
 ·have:=zt h2.1.size (zt hal.size hr3.size)
  simpa[World.setCell]using this
 ·rw[hob _ i (zy hi h2.1.size) (λ a ha e=>by have:=h2.2 a.block (Or.inr (Or.inl ⟨a,ha,rfl⟩));omega) (λ e=>by have:=h2.2 g (Or.inl rfl);omega)]
  exact h2.1.block i hi
 ·rcases hi with e|⟨a,ha,e⟩|⟨x,hx,e⟩
  ·exact h2.2 i (Or.inl e)
  ·rcases hr4 a ha with h5|h5
   ·cases p with
    |none=>cases h5
    |some a0=>
     have h5:a0.block=a.block:=Option.some.inj h5
     exact h2.2 i (Or.inr (Or.inl ⟨a0,rfl,h5.trans e⟩))
   ·have:=h2.1.size
    have:=hal.size
    omega
  ·rcases List.mem_append.1 hx with hx|hx
   ·exact h2.2 i (Or.inr (Or.inr ⟨x,hx,e⟩))
   ·simp at hx
    rw[hx]at e
    exact hd i e
end
end
section
open Go.RowKit
section
variable {w w':World}
abbrev Dv (room now:Int):Prt:=⟨Zh qi 0 room now,false⟩
def mkC (room now:Int) (k:Nat):Ch:=⟨List.replicate k (Dv room now),room,0,false,0⟩
theorem Gj (room now:Int) (k:Nat):(mkC room now k).L.length=k:=by unfold mkC;simp
theorem Ez (room now:Int) (k:Nat):({mkC room now k with L:=(mkC room now k).L++[Dv room now]}:Ch)=mkC room now (k+1):=by
 unfold mkC
 rw[List.replicate_succ']
theorem P2 {w0 W W1:World} {g:Nat} {room now:Int} {k pp gg:Nat} {U:Own} (hk:k<2) (h:Made w0 g (mkC room now k) W) (hp:PAt W1 pp gg U (Zh qi 0 room now) false 0) (hf:Fr W W1 (YO pp U)):
  ∃p cap p' cap' W',W1.cell? ⟨g,0,none⟩=some (.slice p k cap)∧(∀ty,(Builtin.append_ #[PS,PS] ty #[.slice p k cap,.slice (some ⟨W1.heap.size,0,none⟩) 1 1]).run zf (W1.alloc (.cells #[ptr pp] PT))=.ok (.slice p' (k+1) cap') W')∧
   (W'.cell? ⟨g,0,none⟩=some (.slice p k cap)∧W'.frozen? ⟨g,0,none⟩=false)∧Made w0 g (mkC room now (k+1)) (W'.setCell ⟨g,0,none⟩ (.slice p' (k+1) cap')):=by
 obtain⟨p,cap,q,a1,a2⟩:=h
 have hm:=P3 (a1.on hf.1) ⟨a2.1.trans (hf.1.mono a2.1.size),a2.2⟩ (by rw[Gj];omega) hp (λ i hi=>zt a2.1.size (hf.2 i hi)) (λ i hi hb=>by
  have:=hf.2 i hi
  have:=a1.lt hb
  omega) rfl
 rw[Ez,Gj]at hm
 exact⟨p,cap,hm⟩
theorem Ag {room now:Int} (hE:Zx qi room=0) (w:World):Calls zf 7 #[.int .i64 room,.int .i64 now] w λ e w'=>∃g,e=.returned (.tuple #[ptr g,.int .i64 0])∧Made w g (Ch.Vf room now) w':=by
 have H0:=zd (show Made w w.heap.size (mkC room now 0) (w.alloc (.cells #[.slice none 0 0,.int .i64 room,.int .i64 0,.bool false,.int .i64 0] 58))from SJ w room)
 have HN:=zd (λ W=>T0 (seed:=0) (now:=now) Ch.JW hE W)
 unfold Tox.v qi at HN
 obtain⟨g,hg⟩:∃g,w.heap.size=g:=⟨_,rfl⟩
 rw[hg]at H0
 clear hE
 go_enter func7,ntmps7
 go_wp2_with fail
 go_loopw [12] (λ i wr=>∃k:Nat,k≤2∧i=.int .i64 k∧Hid (Made w g (mkC room now k) wr)) (λ i _=>2 -(intOf i).toNat)
 case atStart=>exact⟨0,Nat.zero_le _,rfl,H0⟩
 case round=>
  clear H0
  obtain⟨k,hk,rfl,HK⟩:=hrel
  by_cases hlt:k<2
  ·have HC:=zd (HN.out wr)
   go_wp2_with fail
   refine HC.out.mono ?_
   rintro e w1 ⟨pp,gg,U,rfl,hp,hf⟩
   obtain⟨p,cap,p',cap',W',x0,happ,⟨z0,f0⟩,hm⟩:=P2 hlt HK.out hp hf
   have HAP:=zd happ
   have HM:=zd hm
   clear happ hm hp hf HC HK
   go_wp2_with (at_builtin;refine Lib.wpList_append_run _ rfl _ _ _ _ rfl (.slice p k cap) (.slice (some ⟨w1.heap.size,0,none⟩) 1 1) rfl rfl _ _ (HAP.out _) ?_)
   go_roundw
   case rel=>exact⟨k+1,by omega,by go_num,HM⟩
   case measure=>simp[intOf];omega
  ·obtain rfl:k=2:=by omega
   clear hlt
   have HE:=zd (show Made w g (Ch.Vf room now) wr from HK.out)
   clear HK
   go_wp2_with fail
   go_ret2
   exact⟨g,rfl,HE.out⟩
theorem T8 {room now:Int} (hE:Zx qi room≠0) (w:World):Calls zf 7 #[.int .i64 room,.int .i64 now] w λ e w'=>e=.returned (.tuple #[.pointer none,.int .i64 (Zx qi room)])∧Below w.heap.size w w':=by
 have hal:Below w.heap.size w (w.alloc (.cells #[.slice none 0 0,.int .i64 room,.int .i64 0,.bool false,.int .i64 0] 58)):=(zh _ _).alloc (zg _) _
 have HN:=zd (Nw (seed:=0) (now:=now) Ch.JW hE (w.alloc (.cells #[.slice none 0 0,.int .i64 room,.int .i64 0,.bool false,.int .i64 0] 58)))
 have d1:decide (Zx qi room=0)=false:=by simpa using hE
 have d2:(Zx qi room==0)=false:=by simpa using hE
 have d3:(Zx qi room !=0)=true:=by simpa using hE
 generalize Zx qi room=E at*
 unfold Tox.v qi at HN
 have HA:=zd hal
 clear hE hal
 go_enter func7,ntmps7
 go_wp2_with fail
 go_loopw [12] (λ i wr=>i=.int .i64 0∧wr=w.alloc (.cells #[.slice none 0 0,.int .i64 room,.int .i64 0,.bool false,.int .i64 0] 58)) (λ _ _=>0)
 case atStart=>exact⟨rfl,rfl⟩
 case round=>
  obtain⟨rfl,rfl⟩:=hrel
  go_wp2_with fail
  refine HN.out.mono ?_
  rintro e w1 ⟨rfl,hb⟩
  have HR:=zd (HA.out.trans (hb.mono HA.out.size))
  clear hb HN HA
  go_wp2_with fail
  go_ret2
  exact⟨rfl,HR.out⟩
end
end
section
open Go.RowKit
def Vt (t:Tox):List Value:=[.string t.s,.int .i64 t.k,.bool t.up,.int .i64 t.o,.int .i64 t.a,.int .i64 t.b]
def Jk (l:List Tox):List Value:=l.flatMap Vt
theorem UE (l:List Tox) (t:Tox):Jk (l++[t])=Jk l++Vt t:=by simp[Jk]
theorem jv (t:Tox):∀u∈Vt t,u.oneCell'=true:=by
 intro u hu
 simp[Vt]at hu
 rcases hu with rfl|rfl|rfl|rfl|rfl|rfl<;>rfl
def txL (c:Ch) (k:Nat):List Tox:=(List.range k).map λ j=>(c.at' (j+1)).s.tx
theorem Ts (c:Ch) (k:Nat):txL c (k+1)=txL c k++[(c.at' (k+1)).s.tx]:=by
 unfold txL
 rw[List.range_succ,List.map_append]
 rfl
theorem DD:(Tryz.prog.info? 35).map (λ i=>(i.zero,i.size,i.bytes))=some (some (.agg #[.string ⟨#[]⟩,.int .i64 0,.bool false,.int .i64 0,.int .i64 0,.int .i64 0]),6,56):=by kernel_rfl
theorem Dh {w0 w:World} {base n c:Nat} {p:Option Addr} {zs:List Tox} (ho:gc.ORow w base 35 6 p n c (Jk zs)) (hb:Below base w0 w) (hbase:base≤w.heap.size) (hn:n≤20) (t:Tox):
  ∃q d w',(∀ty,(Builtin.append_ #[54,54] ty #[.slice p n c,.slice (some ⟨w.heap.size,0,none⟩) 1 1]).run zf (w.alloc (Zg t))=.ok (.slice q (n+1) d) w')∧gc.ORow w' base 35 6 q (n+1) d (Jk (zs++[t]))∧Below base w0 w':=by
 obtain⟨i0,hi0,hz0,hz1,hz2⟩:=info_parts DD
 have hal:Below w.heap.size w (w.alloc (Zg t)):=(zh _ _).alloc (zg _) _
 have hnew:=zo w (Zg t)
 obtain⟨q,d,w',h1,h2,h3,h4⟩:=gc.Yu (t:=54) (ho.on hal) (zt hbase hal.size) underlying54 hi0 hz0 hz1 hz2 rfl (by decide) (a:=⟨w.heap.size,0,none⟩) (m:=1) (d:=1) (news:=Vt t) rfl (λ j u hj=>by
  rw[WideShapes.add_plain]
  have hj1:j<6:=(List.getElem?_eq_some_iff.1 hj).1
  rcases(show j=0∨j=1∨j=2∨j=3∨j=4∨j=5 by omega)with rfl|rfl|rfl|rfl|rfl|rfl<;>(cases hj;exact ze _ _ _ _ _ _ hnew)) (jv t) (by unfold maxLen;omega) (by omega)
 rw[←UE]at h2
 refine⟨q,d,w',h1,h2,(hb.trans (hal.mono hbase)).grown h3 (by have:=hal.size;simp;omega) (λ j hj=>?_)⟩
 cases p with
 |none=>cases hj
 |some a=>
  have hj:some a.block=some j:=hj
  cases hj
  exact(ho.lt a rfl).1
section
variable {w w':World} {g:Nat} {p:Option Addr} {cap:Nat} {q:List Nd} {c c':Ch} {M M':Nat}
def Vx (c:Ch) (w:World) (e:Ending) (w':World):Prop:=∃a d,e=.returned (.slice a (c.L.length -2) d)∧gc.ORow w' w.heap.size 35 6 a (c.L.length -2) d (Jk (txL c (c.L.length -2)))∧Below w.heap.size w w'
theorem LQ (h:CAt w g p cap q c M) (h2:2≤c.L.length):Calls zf 19 #[ptr g] w (Vx c w):=by
 have h10:=h.ten
 obtain⟨b,o,rfl,hr,hnc,hmx⟩:=h.rows (by omega)
 have x0:w.cell? ⟨g,0,none⟩=some (.slice (some ⟨b,o,none⟩) c.L.length cap):=h.cell 0
 have HC:=zd h
 obtain⟨m,hm⟩:∃m,c.L.length=m+2:=⟨c.L.length -2,by omega⟩
 unfold Vx
 have hm2:c.L.length -2=m:=by omega
 rw[hm2]
 rw[hm]at x0 hnc
 have HM:=zd hm
 have hm8:m≤8:=by omega
 have hc1:¬cap=1:=by omega
 have hm1:((m+2:Nat):Int) -1=(m:Int)+1:=by omega
 have hm3:(m:Int)+2 -1=(m:Int)+1:=by omega
 have hiw:IntKind.i64.wrap ((m:Int)+2 -1)=(m:Int)+1:=by rw[hm3];exact qs (by omega) (by omega)
 have hti:((m:Int)+1).toNat=m+1:=by omega
 have hi0:(0:Int)≤(m:Int)+1:=by omega
 have hi1:(1:Int)≤(m:Int)+1:=by omega
 have hi2:(m:Int)+1≤(cap:Int):=by omega
 have hmc:m+1≤cap:=by omega
 clear h hr hm hm2 h2 h10
 go_enter func19,ntmps19
 go_wp2_with fail
 go_quiet (fail)
 have H0:=zd (⟨gc.JA (w.drewN nq) w.heap.size 35 6,gc.below_drewN w nq⟩:gc.ORow (w.drewN nq) w.heap.size 35 6 none 0 0 (Jk (txL c 0))∧Below w.heap.size w (w.drewN nq))
 clear x0
 go_wp2_with fail
 go_loopw [3,18] (λ s i wr=>∃(k:Nat) (a:Option Addr) (d:Nat),k≤m∧i=.int .i64 k∧s=.slice a k d∧Hid (gc.ORow wr w.heap.size 35 6 a k d (Jk (txL c k))∧Below w.heap.size w wr)) (λ _ i _=>m -(intOf i).toNat)
 case atStart=>exact⟨0,none,0,Nat.zero_le _,rfl,rfl,H0⟩
 case round=>
  clear H0
  obtain⟨k,a,d,hk,rfl,rfl,HK⟩:=hrel
  by_cases hlt:k<m
  ·have hcr:=HC.out.on HK.out.2
   have hk1:k+1<c.L.length:=by rw[HM.out];omega
   have y0:=hcr.Sj hk1
   rw[show o+(k+1)=o+1+k by omega]at y0
   have z0:=(hcr.Vc hk1).1
   have HT:=zd (FP (hcr.stg (k+1) hk1))
   obtain⟨t,ht⟩:∃t,(c.at' (k+1)).s.tx=t:=⟨_,rfl⟩
   have HS:=zd (show txL c (k+1)=txL c k++[t] by rw[Ts,ht])
   rw[ht]at HT
   unfold Tox.v at HT
   generalize(nd q (k+1)).p=pk at*
   generalize(nd q (k+1)).g=gk at*
   have HA:=zd (λ W (hb:Below wr.heap.size wr W)=>Dh (HK.out.1.on hb) (HK.out.2.trans (hb.mono HK.out.2.size)) (zt HK.out.2.size hb.size) (by omega) t)
   unfold Zg at HA
   clear hcr hk1 ht HK
   go_wp2_with fail
   refine HT.out.mono ?_
   rintro e w1 ⟨rfl,hb1⟩
   obtain⟨a',d',w2,happ,ho2,hb2⟩:=HA.out w1 hb1
   have HAP:=zd happ
   have HO:=zd (show gc.ORow w2 w.heap.size 35 6 a' (k+1) d' (Jk (txL c (k+1)))∧Below w.heap.size w w2 from⟨by rw[HS.out];exact ho2,hb2⟩)
   clear happ ho2 hb2 hb1 HA HT y0 z0 HS
   go_wp2_with (at_builtin;refine Lib.wpList_append_run _ rfl _ _ _ _ rfl (.slice a k d) (.slice (some ⟨w1.heap.size,0,none⟩) 1 1) rfl rfl _ _ (HAP.out _) ?_)
   go_roundw
   case rel=>exact⟨k+1,a',d',by omega,by go_num,rfl,HO⟩
   case measure=>simp[intOf];omega
  ·obtain rfl:k=m:=by omega
   clear hlt
   go_wp2_with fail
   try rw[zl]
   go_ret
   exact⟨a,d,rfl,HK.out.1,HK.out.2⟩
end
end
end Go.Proofs.YtfdfgnmgpgkknaaGreat
