import Derived.Test.YtfdfgnmgpgkknaaGreatMG13
import Derived.Test.YtfdfgnmgpgkknaaGreatMG6
open Go.Proofs.Tryz renaming prog→zf
open Go.RowKit.Below renaming refl→zh
open Go renaming heap_alloc_new→zo,cell_of_row→ze
open Nat renaming le_refl→zg
open Go.Proofs.Tryz
namespace Go.Proofs.YtfdfgnmgpgkknaaGreat
namespace gc
open Go.RowKit
variable {w w' w'' w0:World} {base g base' g':Nat} {u u':U} {S S':ByteArray} {A A':List Int} {last last':Int} {M M':Nat}
theorem Lg.count {G:Nat} {ms:List Mk} (hl:Lg G S ms A last M):ms.length≤1000000∧G+S.size≤1000000:=by
 have h1:=S8 hl.ends
 have h2:=hl.top
 have h3:=hl.fit
 exact⟨by omega,by omega⟩
theorem Sr (h:0≤last∧last≤1099511627776) (a:Int):last≤Xl last a∧0≤Xl last a∧Xl last a≤1099511627776:=by
 have hn:=qw a
 unfold Xl
 split<;>omega
theorem Bc (h:Al w base g u S A last M) (a:Int) {p:Option Addr} {n c:Nat} {s:ByteArray} (hs:s.size=n) (hi:Lib.BytesIn w p n (nums s)) (hM:M+s.size≤M') (hf:M'≤1000000):
  Calls zf 96 #[.pointer (some ⟨g,0,none⟩),.int .i64 a,.slice p n c] w λ e w'=>e=.returned (.int .i64 (doC S A last 0 a 0 s).n)∧Put w base g u (doC S A last 0 a 0 s).S (doC S A last 0 a 0 s).A (doC S A last 0 a 0 s).last M' w':=by
 obtain⟨ms,G,hr,hl⟩:=h
 obtain⟨hc1,hc2⟩:=hl.count
 have htop:=hl.top
 unfold doC
 rw[if_pos rfl]
 by_cases h0:s.size=0
 ·rw[if_pos h0]
  obtain rfl:n=0:=by omega
  refine(OS hr a p c).mono ?_
  rintro e w' ⟨rfl,u',hc⟩
  exact⟨rfl,u',ms,G,hc,hl.more (by omega) hf⟩
 ·rw[if_neg h0]
  refine(OP hr hc1 a hs (by omega) hi (by omega) rfl).mono ?_
  rintro e w' ⟨rfl,u',hc⟩
  have hp:=Sr hl.last a
  have hsz:(S++s).size=S.size+s.size:=UL S s
  obtain⟨l1,l2,l3,l4⟩:=EJ (t:=Xl last a) (e:=G+(S++s).size) hl.ends (by omega) hl.rise (λ m hm=>Int.le_trans (hl.rg m hm).2 hp.1)
  refine⟨rfl,u',_,G,hc,⟨l1,l3,?_,λ m hm=>?_,hp.2,(by show G+(S++s).size≤M';omega),hf⟩⟩
  ·rw[l2,hl.tks,show G+(S++s).size -(G+S.size)=s.size by omega]
  ·rcases l4 m hm with h5|h5
   ·have:=hl.rg m h5
    exact⟨this.1,Int.le_trans this.2 hp.1⟩
   ·rw[h5]
    exact⟨hp.2.1,Int.le_refl _⟩
theorem MW (h:Al w base g u S A last M) {now most:Int} {K:Nat} (hK:Zz A now most=K):(S.extract 0 K).size=K:=by
 have:=h.inv.len
 have:=Vj A now most
 rw[ByteArray.size_extract]
 omega
theorem YK (h:Al w base g u S A last M) (now:Int):
  Calls zf 75 #[.pointer (some ⟨g,0,none⟩),.int .i64 now] w λ e w'=>e=.returned (.int .i64 (qn A now:Int))∧Below w.heap.size w w':=by
 obtain⟨ms,G,hr,hl⟩:=h
 obtain⟨hc1,hc2⟩:=hl.count
 rw[←hl.tks,jU hl.ends]
 exact jV hr hl.rise hc1 hl.ends (by omega) now rfl rfl
theorem Bx (h:Al w base g u S A last M):
  Calls zf 78 #[.pointer (some ⟨g,0,none⟩)] w λ e w'=>e=.returned (.int .i64 (S.size:Int))∧Below w.heap.size w w':=by
 obtain⟨ms,G,hr,hl⟩:=h
 refine(K8 hr).mono ?_
 rintro e w' ⟨rfl,rfl⟩
 exact⟨rfl,zh _ _⟩
end gc
namespace gc
open Go.RowKit
def At (w0:World) (B g:Nat) (S:ByteArray) (A:List Int) (last:Int) (M:Nat) (w:World):Prop:=∃u,Al w B g u S A last M∧Below w0.heap.size w0 w∧w0.heap.size≤B
theorem At.on {w0 w w':World} {B g:Nat} {S:ByteArray} {A:List Int} {last:Int} {M:Nat} (h:At w0 B g S A last M w) (hb:Below w.heap.size w w'):At w0 B g S A last M w':=by
 obtain⟨u,ha,h1,h2⟩:=h
 exact⟨u,ha.on hb,seqB h1 hb,h2⟩
theorem At.below {w0 w:World} {B g:Nat} {S:ByteArray} {A:List Int} {last:Int} {M:Nat} (h:At w0 B g S A last M w):Below w0.heap.size w0 w:=by
 obtain⟨u,_,h1,_⟩:=h
 exact h1
def BQ (w0:World) (B g:Nat) (S:ByteArray) (A:List Int) (last:Int) (M:Nat) (B' g':Nat) (S':ByteArray) (A':List Int) (last':Int) (M':Nat) (w:World):Prop:=
 ∃u u',Al w B g u S A last M∧Al w B' g' u' S' A' last' M'∧Two g u g' u'∧Below w0.heap.size w0 w∧w0.heap.size≤B∧w0.heap.size≤B'
section
variable {w0 w w':World} {B g:Nat} {S:ByteArray} {A:List Int} {last:Int} {M:Nat} {B' g':Nat} {S':ByteArray} {A':List Int} {last':Int} {M':Nat}
theorem BQ.on (h:BQ w0 B g S A last M B' g' S' A' last' M' w) (hb:Below w.heap.size w w'):BQ w0 B g S A last M B' g' S' A' last' M' w':=by
 obtain⟨u,u',h1,h2,h3,h4,h5,h6⟩:=h
 exact⟨u,u',h1.on hb,h2.on hb,h3,seqB h4 hb,h5,h6⟩
end
end gc
namespace gc
open Go.RowKit
theorem Lx (s:ByteArray) (hs:s.size≤140737488355328) (w:World):∃c w',(convert 9 49 (.string s)).run zf w=.ok (.slice (some ⟨w.heap.size,0,none⟩) s.size c) w'∧
  Lib.BytesIn w' (some ⟨w.heap.size,0,none⟩) s.size (nums s)∧Below w.heap.size w w'∧s.size≤c∧c≤9223372036854775807∧w.heap.size<w'.heap.size:=by
 have hge:=grownCap_ge w s.size 0 5
 have hle:=grownCap_le_maxLen w s.size 0 5 (by unfold maxLen;omega)
 have hsz:(bytesRow s (grownCap w s.size 0 5)).size=grownCap w s.size 0 5:=by
  simp[bytesRow]
  omega
 obtain⟨C,hC⟩:∃C,bytesRow s (grownCap w s.size 0 5)=C:=⟨_,rfl⟩
 have hrun:=run_bytes_of_string (P:=zf) w 9 49 5 s underlying9 underlying49 underlying5
 rw[hC]at hrun hsz
 have hblk:(w.drew.alloc (.cells C 5 (C.size,C.size+1))).heap[w.heap.size]?=some (.cells C 5 (C.size,C.size+1)):=zo w.drew _
 refine⟨_,_,hrun,λ _=>⟨_,_,rfl,λ i hi=>?_⟩,(zh _ _).drew.alloc (zg _) _,hge,hle,by simp⟩
 rw[ze _ _ _ _ _ _ hblk,←hC]
 simp only[bytesRow,Nat.zero_add]
 rw[Array.getElem?_append_left (by simpa using hi)]
 simp[nums,List.getD,hi]
theorem My {T:ByteArray} {K:Nat} {q:Option Addr} {d:Nat} {w:World} (hi:Lib.BytesIn w q K (nums T)) (hT:T.size=K):(convert 49 9 (.slice q K d)).run zf w=.ok (.string T) w:=by
 rw[Nc hi (by rw[nums_length];exact hT) d,Vk]
section
variable {base g:Nat} {u:U} {S:ByteArray} {A:List Int} {last:Int} {M M':Nat} {w:World}
end
section
variable {w0 w:World} {B g:Nat} {S:ByteArray} {A:List Int} {last:Int} {M:Nat} {B' g':Nat} {S':ByteArray} {A':List Int} {last':Int} {M' M1:Nat}
end
end gc
end Go.Proofs.YtfdfgnmgpgkknaaGreat
