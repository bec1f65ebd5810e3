import Derived.Test.YtdighjgcnaajgaaGreatMS15
import Derived.Test.YtdighjgcnaajgaaGreatMS16
namespace Go.Proofs.YtdighjgcnaajgaaGreat.gc
open Go.RowKit
variable {w w' w'' w0:World} {base g base' g':Nat} {u u':U} {S S':ByteArray} {A A':List Int} {last last':Int} {M M':Nat}
theorem Lg.count {G:Nat} {ms:List Mk} (hl:Lg G S ms A last M):ms.length≤1000000∧G+S.size≤1000000:=by
 have h1:=ends_count hl.ends
 have h2:=hl.top
 have h3:=hl.fit
 exact⟨by omega,by omega⟩
theorem putT_range (h:0≤last∧last≤1099511627776) (a:Int):last≤putT last a∧0≤putT last a∧putT last a≤1099511627776:=by
 have hn:=near_range a
 unfold putT
 split<;>omega
theorem low_range (h:0≤last∧last≤1099511627776) (a:Int):0≤low (near a) last∧low (near a) last≤1099511627776:=by
 have hn:=near_range a
 unfold low
 split<;>omega
theorem put_al (h:Al w base g u S A last M) (a:Int) {p:Option Addr} {n c:Nat} {s:ByteArray} (hs:s.size=n) (hi:Lib.BytesIn w p n (nums s)) (hM:M+s.size≤M') (hf:M'≤1000000):
  Calls Tryz.prog 188 #[.pointer (some ⟨g,0,none⟩),.int .i64 a,.slice p n c] w λ e w'=>e=.returned (.int .i64 (doC S A last 0 a 0 s).n)∧Put w base g u (doC S A last 0 a 0 s).S (doC S A last 0 a 0 s).A (doC S A last 0 a 0 s).last M' w':=by
 obtain⟨ms,G,hr,hl⟩:=h
 obtain⟨hc1,hc2⟩:=hl.count
 have htop:=hl.top
 unfold doC
 rw[if_pos rfl]
 by_cases h0:s.size=0
 ·rw[if_pos h0]
  obtain rfl:n=0:=by omega
  refine(put_none hr a p c).mono ?_
  rintro e w' ⟨rfl,u',hc⟩
  exact⟨rfl,u',ms,G,hc,hl.more (by omega) hf⟩
 ·rw[if_neg h0]
  refine(put_some hr hc1 a hs (by omega) hi (by omega) rfl).mono ?_
  rintro e w' ⟨rfl,u',hc⟩
  have hp:=putT_range hl.last a
  have hsz:(S++s).size=S.size+s.size:=append_size' S s
  obtain⟨l1,l2,l3,l4⟩:=lay_all (t:=putT last a) (e:=G+(S++s).size) hl.ends (by omega) hl.rise (λ m hm=>Int.le_trans (hl.rg m hm).2 hp.1)
  refine⟨rfl,u',_,G,hc,⟨l1,l3,?_,λ m hm=>?_,hp.2,(by show G+(S++s).size≤M';omega),hf⟩⟩
  ·rw[l2,hl.tks,show G+(S++s).size -(G+S.size)=s.size by omega]
  ·rcases l4 m hm with h5|h5
   ·have:=hl.rg m h5
    exact⟨this.1,Int.le_trans this.2 hp.1⟩
   ·rw[h5]
    exact⟨hp.2.1,Int.le_refl _⟩
def GotB (T:ByteArray) (K:Nat) (e:Ending) (w':World):Prop:=∃q d,e=.returned (.slice q K d)∧Lib.BytesIn w' q K (nums T)∧T.size=K∧K≤d∧d≤9223372036854775807
theorem takeK_size (h:Al w base g u S A last M) {now most:Int} {K:Nat} (hK:takeK A now most=K):(S.extract 0 K).size=K:=by
 have:=h.inv.len
 have:=takeK_le A now most
 rw[ByteArray.size_extract]
 omega
theorem take_al (h:Al w base g u S A last M) (now most:Int) {K:Nat} (hK:takeK A now most=K):
  Calls Tryz.prog 161 #[.pointer (some ⟨g,0,none⟩),.int .i64 now,.int .i64 most] w λ e w'=>GotB (S.extract 0 K) K e w'∧Put w base g u (S.extract K S.size) (A.drop K) last M w':=by
 have hz:=takeK_size h hK
 obtain⟨ms,G,hr,hl⟩:=h
 refine(take_raw hr hl now most hK).mono ?_
 rintro e w' ⟨q,d,rfl,h1,h2,h3,h4⟩
 exact⟨⟨q,d,rfl,h1,hz,h2,h3⟩,putq_put h4⟩
theorem take_alq (h:Al w base g u S A last M) (now most:Int) {K:Nat} (hK:takeK A now most=K):
  Calls Tryz.prog 161 #[.pointer (some ⟨g,0,none⟩),.int .i64 now,.int .i64 most] w λ e w'=>∃q d,e=.returned (.slice q K d)∧Lib.BytesIn w' q K (nums (S.extract 0 K))∧(S.extract 0 K).size=K∧PutQ w base g u (S.extract K S.size) (A.drop K) last M q w':=by
 have hz:=takeK_size h hK
 obtain⟨ms,G,hr,hl⟩:=h
 refine(take_raw hr hl now most hK).mono ?_
 rintro e w' ⟨q,d,rfl,h1,h2,h3,h4⟩
 exact⟨q,d,rfl,h1,hz,h4⟩
theorem drain_al (h:Al w base g u S A last M):
  Calls Tryz.prog 126 #[.pointer (some ⟨g,0,none⟩)] w λ e w'=>GotB S S.size e w'∧Put w base g u ⟨#[]⟩ [] last M w':=by
 have hlen:=h.inv.len
 obtain⟨ms,G,hr,hl⟩:=h
 refine(drain_raw hr hl).mono ?_
 rintro e w' ⟨q,d,rfl,h1,h2,h3,h4⟩
 have e1:S.extract 0 S.size=S:=by
  apply nums_inj'
  rw[take_nums,←nums_length,List.take_length]
 have e2:S.extract S.size S.size=⟨#[]⟩:=by
  apply nums_inj'
  rw[rest_nums,←nums_length,List.drop_length]
  rfl
 have e3:A.drop S.size=[]:=by rw[←hlen,List.drop_length]
 rw[e1]at h1
 rw[e2,e3]at h4
 exact⟨⟨q,d,rfl,h1,rfl,h2,h3⟩,putq_put h4⟩
theorem ready_al (h:Al w base g u S A last M) (now:Int):
  Calls Tryz.prog 165 #[.pointer (some ⟨g,0,none⟩),.int .i64 now] w λ e w'=>e=.returned (.int .i64 (readyN A now:Int))∧Below w.heap.size w w':=by
 obtain⟨ms,G,hr,hl⟩:=h
 obtain⟨hc1,hc2⟩:=hl.count
 rw[←hl.tks,ready_tks hl.ends]
 exact ready_raw hr hl.rise hc1 hl.ends (by omega) now rfl rfl
theorem len_al (h:Al w base g u S A last M):
  Calls Tryz.prog 150 #[.pointer (some ⟨g,0,none⟩)] w λ e w'=>e=.returned (.int .i64 (S.size:Int))∧Below w.heap.size w w':=by
 obtain⟨ms,G,hr,hl⟩:=h
 refine(len_raw hr).mono ?_
 rintro e w' ⟨rfl,rfl⟩
 exact⟨rfl,Below.refl _ _⟩
end Go.Proofs.YtdighjgcnaajgaaGreat.gc
namespace Go.Proofs.YtdighjgcnaajgaaGreat.gc
open Go.RowKit
def At (w0:World) (B g:Nat) (S:ByteArray) (A:List Int) (last:Int) (M:Nat) (w:World):Prop:=∃u,Al w B g u S A last M∧Below w0.heap.size w0 w∧w0.heap.size≤B
theorem At.put {w0 w w':World} {B g:Nat} {u:U} {S S':ByteArray} {A A':List Int} {last last':Int} {M M':Nat} (h:Al w B g u S A last M) (hb:Below w0.heap.size w0 w) (hB:w0.heap.size≤B) (hp:Put w B g u S' A' last' M' w'):At w0 B g S' A' last' M' w':=by
 obtain⟨u',ha⟩:=put_ex hp
 exact⟨u',ha,put_below hb h hp hB,hB⟩
theorem At.on {w0 w w':World} {B g:Nat} {S:ByteArray} {A:List Int} {last:Int} {M:Nat} (h:At w0 B g S A last M w) (hb:Below w.heap.size w w'):At w0 B g S A last M w':=by
 obtain⟨u,ha,h1,h2⟩:=h
 exact⟨u,ha.on hb,seqB h1 hb,h2⟩
theorem At.below {w0 w:World} {B g:Nat} {S:ByteArray} {A:List Int} {last:Int} {M:Nat} (h:At w0 B g S A last M w):Below w0.heap.size w0 w:=by
 obtain⟨u,_,h1,_⟩:=h
 exact h1
theorem At.inv {w0 w:World} {B g:Nat} {S:ByteArray} {A:List Int} {last:Int} {M:Nat} (h:At w0 B g S A last M w):Inv S A last:=by
 obtain⟨u,ha,_⟩:=h
 exact ha.inv
theorem new_at (w0 w:World) (hb:Below w0.heap.size w0 w):Calls Tryz.prog 167 #[] w λ e w'=>∃g,e=.returned (.pointer (some ⟨g,0,none⟩))∧At w0 w.heap.size g ⟨#[]⟩ [] 0 0 w'∧Below w.heap.size w w':=
 (new_al w).mono λ _ _ ⟨g,u,he,ha,hb'⟩=>⟨g,he,⟨u,ha,seqB hb hb',hb.size⟩,hb'⟩
theorem put_at {w0 w:World} {B g:Nat} {S:ByteArray} {A:List Int} {last:Int} {M:Nat} {M':Nat} (h:At w0 B g S A last M w) (a:Int) {p:Option Addr} {n c:Nat} {s:ByteArray} (hs:s.size=n) (hi:Lib.BytesIn w p n (nums s)) (hM:M+s.size≤M') (hf:M'≤1000000)
  {X:DoC} (hX:doC S A last 0 a 0 s=X):
  Calls Tryz.prog 188 #[.pointer (some ⟨g,0,none⟩),.int .i64 a,.slice p n c] w λ e w'=>e=.returned (.int .i64 X.n)∧At w0 B g X.S X.A X.last M' w':=by
 obtain⟨u,hA,h1,h2⟩:=h
 subst hX
 refine(put_al hA a hs hi hM hf).mono ?_
 rintro e w' ⟨rfl,hp⟩
 exact⟨rfl,At.put hA h1 h2 hp⟩
theorem take_at {w0 w:World} {B g:Nat} {S:ByteArray} {A:List Int} {last:Int} {M:Nat} (h:At w0 B g S A last M w) (now most:Int) {K:Nat} (hK:takeK A now most=K) {T S':ByteArray} {A':List Int} (hT:S.extract 0 K=T) (hS':S.extract K S.size=S') (hA':A.drop K=A'):
  Calls Tryz.prog 161 #[.pointer (some ⟨g,0,none⟩),.int .i64 now,.int .i64 most] w λ e w'=>GotB T K e w'∧At w0 B g S' A' last M w'∧Keeps w w':=by
 obtain⟨u,hA,h1,h2⟩:=h
 subst hT hS' hA'
 refine(take_al hA now most hK).mono ?_
 rintro e w' ⟨hg,hp⟩
 exact⟨hg,At.put hA h1 h2 hp,keeps_put hA hp⟩
theorem drain_at {w0 w:World} {B g:Nat} {S:ByteArray} {A:List Int} {last:Int} {M:Nat} (h:At w0 B g S A last M w) {K:Nat} (hK:S.size=K):
  Calls Tryz.prog 126 #[.pointer (some ⟨g,0,none⟩)] w λ e w'=>GotB S K e w'∧At w0 B g ⟨#[]⟩ [] last M w':=by
 obtain⟨u,hA,h1,h2⟩:=h
 subst hK
 refine(drain_al hA).mono ?_
 rintro e w' ⟨hg,hp⟩
 exact⟨hg,At.put hA h1 h2 hp⟩
theorem ready_at {w0 w:World} {B g:Nat} {S:ByteArray} {A:List Int} {last:Int} {M:Nat} (h:At w0 B g S A last M w) (now:Int) {R:Nat} (hR:readyN A now=R):
  Calls Tryz.prog 165 #[.pointer (some ⟨g,0,none⟩),.int .i64 now] w λ e w'=>e=.returned (.int .i64 (R:Int))∧Below w.heap.size w w':=by
 obtain⟨u,hA,h1,h2⟩:=h
 subst hR
 exact ready_al hA now
theorem len_at {w0 w:World} {B g:Nat} {S:ByteArray} {A:List Int} {last:Int} {M:Nat} (h:At w0 B g S A last M w) {n:Nat} (hn:S.size=n):
  Calls Tryz.prog 150 #[.pointer (some ⟨g,0,none⟩)] w λ e w'=>e=.returned (.int .i64 (n:Int))∧Below w.heap.size w w':=by
 obtain⟨u,hA,h1,h2⟩:=h
 subst hn
 exact len_al hA
def Both (w0:World) (B g:Nat) (S:ByteArray) (A:List Int) (last:Int) (M:Nat) (B' g':Nat) (S':ByteArray) (A':List Int) (last':Int) (M':Nat) (w:World):Prop:=
 ∃u u',Al w B g u S A last M∧Al w B' g' u' S' A' last' M'∧Two g u g' u'∧Below w0.heap.size w0 w∧w0.heap.size≤B∧w0.heap.size≤B'
section
variable {w0 w w':World} {B g:Nat} {S:ByteArray} {A:List Int} {last:Int} {M:Nat} {B' g':Nat} {S':ByteArray} {A':List Int} {last':Int} {M':Nat}
theorem Both.left (h:Both w0 B g S A last M B' g' S' A' last' M' w):At w0 B g S A last M w:=by
 obtain⟨u,u',h1,h2,h3,h4,h5,h6⟩:=h
 exact⟨u,h1,h4,h5⟩
theorem Both.swap (h:Both w0 B g S A last M B' g' S' A' last' M' w):Both w0 B' g' S' A' last' M' B g S A last M w:=by
 obtain⟨u,u',h1,h2,h3,h4,h5,h6⟩:=h
 exact⟨u',u,h2,h1,h3.symm,h4,h6,h5⟩
theorem Both.right (h:Both w0 B g S A last M B' g' S' A' last' M' w):At w0 B' g' S' A' last' M' w:=h.swap.left
theorem Both.on (h:Both w0 B g S A last M B' g' S' A' last' M' w) (hb:Below w.heap.size w w'):Both w0 B g S A last M B' g' S' A' last' M' w':=by
 obtain⟨u,u',h1,h2,h3,h4,h5,h6⟩:=h
 exact⟨u,u',h1.on hb,h2.on hb,h3,seqB h4 hb,h5,h6⟩
theorem both_put {u u':U} (h1:Al w B g u S A last M) (h2:Al w B' g' u' S' A' last' M') (h3:Two g u g' u') (h4:Below w0.heap.size w0 w) (h5:w0.heap.size≤B) (h6:w0.heap.size≤B') {S1:ByteArray} {A1:List Int} {l1:Int} {M1:Nat} (hp:Put w B g u S1 A1 l1 M1 w'):Both w0 B g S1 A1 l1 M1 B' g' S' A' last' M' w':=by
 have hb:=put_below h4 h1 hp h5
 obtain⟨ha,u1,hc,ht⟩:=put_other h1 h2 h3 hp
 exact⟨u1,u',hc,ha,ht,hb,h5,h6⟩
theorem copy_two (h:At w0 B g S A last M w):Calls Tryz.prog 151 #[.pointer (some ⟨g,0,none⟩)] w λ e w'=>∃g',e=.returned (.pointer (some ⟨g',0,none⟩))∧Both w0 B g S A last M w.heap.size g' S A last M w'∧Below w.heap.size w w':=by
 obtain⟨u,h1,h4,h5⟩:=h
 refine(copy_al h1).mono ?_
 rintro e w' ⟨g',u',rfl,ha,hb⟩
 exact⟨g',rfl,⟨u,u',h1.on hb,ha,two_far h1 hb ha,seqB h4 hb,h5,h4.size⟩,hb⟩
theorem take_b (h:Both w0 B g S A last M B' g' S' A' last' M' w) (now most:Int) {K:Nat} (hK:takeK A now most=K) {T S1:ByteArray} {A1:List Int} (hT:S.extract 0 K=T) (hS1:S.extract K S.size=S1) (hA1:A.drop K=A1):
  Calls Tryz.prog 161 #[.pointer (some ⟨g,0,none⟩),.int .i64 now,.int .i64 most] w λ e w'=>GotB T K e w'∧Both w0 B g S1 A1 last M B' g' S' A' last' M' w'∧Keeps w w':=by
 obtain⟨u,u',h1,h2,h3,h4,h5,h6⟩:=h
 subst hT hS1 hA1
 refine(take_al h1 now most hK).mono ?_
 rintro e w' ⟨hg,hp⟩
 exact⟨hg,both_put h1 h2 h3 h4 h5 h6 hp,keeps_put h1 hp⟩
end
end Go.Proofs.YtdighjgcnaajgaaGreat.gc
namespace Go.Proofs.YtdighjgcnaajgaaGreat.gc
open Go.RowKit
theorem conv_text (s:ByteArray) (hs:s.size≤140737488355328) (w:World):∃c w',(convert 9 87 (.string s)).run Tryz.prog w=.ok (.slice (some ⟨w.heap.size,0,none⟩) s.size c) w'∧
  Lib.BytesIn w' (some ⟨w.heap.size,0,none⟩) s.size (nums s)∧Below w.heap.size w w'∧s.size≤c∧c≤9223372036854775807∧w.heap.size<w'.heap.size:=by
 have hge:=grownCap_ge w s.size 0 5
 have hle:=grownCap_le_maxLen w s.size 0 5 (by unfold maxLen;omega)
 have hsz:(bytesRow s (grownCap w s.size 0 5)).size=grownCap w s.size 0 5:=by
  simp[bytesRow]
  omega
 obtain⟨C,hC⟩:∃C,bytesRow s (grownCap w s.size 0 5)=C:=⟨_,rfl⟩
 have hrun:=run_bytes_of_string (P:=Tryz.prog) w 9 87 5 s Tryz.underlying9 Tryz.underlying87 Tryz.underlying5
 rw[hC]at hrun hsz
 have hblk:(w.drew.alloc (.cells C 5 (C.size,C.size+1))).heap[w.heap.size]?=some (.cells C 5 (C.size,C.size+1)):=heap_alloc_new w.drew _
 refine⟨_,_,hrun,λ _=>⟨_,_,rfl,λ i hi=>?_⟩,(Below.refl _ _).drew.alloc (Nat.le_refl _) _,hge,hle,by simp⟩
 rw[cell_of_row _ _ _ _ _ _ hblk,←hC]
 simp only[bytesRow,Nat.zero_add]
 rw[Array.getElem?_append_left (by simpa using hi)]
 simp[nums,List.getD,hi]
theorem got_text {T:ByteArray} {K:Nat} {q:Option Addr} {d:Nat} {w:World} (hi:Lib.BytesIn w q K (nums T)) (hT:T.size=K):(convert 87 9 (.slice q K d)).run Tryz.prog w=.ok (.string T) w:=by
 rw[conv_bytes hi (by rw[nums_length];exact hT) d,str_nums]
def Told (base g:Nat) (u:U) (x:DoC) (M:Nat) (w:World) (e:Ending) (w':World):Prop:=e=.returned (.tuple #[.int .i64 x.n,.string x.t])∧Put w base g u x.S x.A x.last M w'
section
variable {base g:Nat} {u:U} {S:ByteArray} {A:List Int} {last:Int} {M M':Nat} {w:World}
theorem doC_put (S:ByteArray) (A:List Int) (last a N:Int) (s:ByteArray):doC S A last 0 a N s=doC S A last 0 a 0 s∧(doC S A last 0 a 0 s).t=⟨#[]⟩:=by
 unfold doC
 rw[if_pos rfl,if_pos rfl]
 refine⟨rfl,?_⟩
 split<;>rfl
theorem told_more {X:DoC} (hM:M≤M') (hf:M'≤1000000) {e:Ending} {w':World} (h:Told base g u X M w e w'):Told base g u X M' w e w':=⟨h.1,h.2.more hM hf⟩
theorem doC_size (S:ByteArray) (A:List Int) (last kind a N:Int) (s:ByteArray):(doC S A last kind a N s).S.size≤S.size+s.size:=by
 unfold doC
 split
 ·split
  ·exact Nat.le_add_right _ _
  ·show(S++s).size≤_
   rw[append_size']
   exact Nat.le_refl _
 ·split
  ·show(S.extract _ _).size≤_
   rw[ByteArray.size_extract]
   omega
  ·split
   ·exact Nat.le_add_right _ _
   ·split
    ·exact Nat.zero_le _
    ·exact Nat.le_add_right _ _
end
section
variable {w0 w:World} {B g:Nat} {S:ByteArray} {A:List Int} {last:Int} {M:Nat} {B' g':Nat} {S':ByteArray} {A':List Int} {last':Int} {M' M1:Nat}
end
end Go.Proofs.YtdighjgcnaajgaaGreat.gc
