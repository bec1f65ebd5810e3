import Derived.Test.YtfdfgnmgpgkknaaGreatMG2
import Derived.Test.YtfdfgnmgpgkknaaGreatMG5
import Derived.Test.YtfdfgnmgpgkknaaGreatMG6
import Derived.Test.YtfdfgnmgpgkknaaGreatMG7
import Derived.Test.YtfdfgnmgpgkknaaGreatMG8
import Derived.Deep.MidRow
import Derived.Laws.CopyOwn
import Derived.Deep.RegionHeldLaw
import Derived.Deep.RegionLaw
import Derived.Deep.Cut
import Derived.StillTailTactics
import Derived.BigQuiet
set_option maxRecDepth 100000
set_option maxHeartbeats 8000000
open Go.RowKit.Below renaming heap_setCell→zn,refl→zh
open Go renaming heap_alloc_new→zo
open Go.Proofs.Tryz renaming prog→zf
open Go.Lib renaming hid→zd
open Nat renaming le_refl→zg
open Go.Exit renaming noGoto_ret→zl
open Go.Calls renaming mono→zr
open Go.Proofs.Tryz
namespace Go.Proofs.YtfdfgnmgpgkknaaGreat
section
open Go.RowKit
def rC (p:Option Addr) (n c:Nat) (s:St):Array Value:=#[.string s.tx.s,.int .i64 s.tx.k,.bool s.tx.up,.int .i64 s.tx.o,.int .i64 s.tx.a,.int .i64 s.tx.b,.int .u64 s.d,.int .i64 s.bk.r,.int .i64 s.bk.u,.int .i64 s.bk.l,.int .i64 s.bk.t,.string s.S,.slice p n c,.int .i64 s.last,.int .i64 s.room,.int .i64 s.began,.int .i64 s.clock,.int .i64 s.pause,.int .i64 s.passed,.bool s.closed,.int .i64 s.at',.int .i64 s.st]
def RAt (w:World) (q:Nat) (p:Option Addr) (n c:Nat) (s:St):Prop:=w.heap[q]?=some (.cells (rC p n c s) 68 (0,0))
def qZ:St:=⟨qi,0,⟨0,0,0,0⟩,⟨#[]⟩,[],0,0,0,0,0,0,false,0,0⟩
variable {w w':World} {q n c:Nat} {p:Option Addr} {s s':St}
theorem RAt.lt (h:RAt w q p n c s):q<w.heap.size:=(Array.getElem?_eq_some_iff.1 h).1
theorem RAt.on (h:RAt w q p n c s) (hb:Below w.heap.size w w'):RAt w' q p n c s:=(hb.block _ h.lt).trans h
theorem RAt.drew (h:RAt w q p n c s):RAt w.drew q p n c s:=h
theorem RAt.cell (h:RAt w q p n c s) (i:Nat):w.cell? ⟨q,i,none⟩=(rC p n c s)[i]?:=by
 unfold RAt at h
 simp[World.cell?,h]
theorem RAt.frz (h:RAt w q p n c s) (i:Nat):w.frozen? ⟨q,i,none⟩=false:=by
 unfold RAt at h
 simp[World.frozen?,h]
theorem RAt.set (h:RAt w q p n c s) {i:Nat} {v:Value} {p':Option Addr} {n' c':Nat} (hc:(rC p n c s).setIfInBounds i v=rC p' n' c' s'):RAt (w.setCell ⟨q,i,none⟩ v) q p' n' c' s':=by
 unfold RAt at h⊢
 rw[←hc]
 simp[World.setCell,Array.getElem?_modify,h]
theorem RAt.far (h:RAt w q p n c s) {g i:Nat} (v:Value) (hg:q≠g):RAt (w.setCell ⟨g,i,none⟩ v) q p n c s:=(zn w ⟨g,i,none⟩ v q hg).trans h
theorem RAt.row (h:RAt w q p n c s) (p':Option Addr) (n' c':Nat) (s':St):RAt (w.setRow q (rC p' n' c' s')) q p' n' c' s':=setRow_heap w q _ _ _ _ h
theorem RAt.S7 (h:RAt w q p n c s) {g:Nat} (cs:Array Value) (hg:q≠g):RAt (w.setRow g cs) q p n c s:=(setRow_other w g q cs hg).trans h
theorem ZP (w:World) (p:Option Addr) (n c:Nat) (s:St):RAt (w.alloc (.cells (rC p n c s) 68)) w.heap.size p n c s:=zo w _
def RIs (w:World) (q:Nat):Prop:=∃p n c s,RAt w q p n c s
def qE (w:World) (q:Nat):Array Value:=match w.heap[q]? with
 |some (.cells cs _ _)=>cs
 |_=>#[]
def jI (cs:Array Value):Prop:=∃p n c s,cs=rC p n c s
theorem X7 (p:Option Addr) (n c:Nat) (s:St):jI (rC p n c s):=⟨p,n,c,s,rfl⟩
theorem RAt.is (h:RAt w q p n c s):RIs w q:=⟨p,n,c,s,h⟩
theorem RAt.cells (h:RAt w q p n c s):qE w q=rC p n c s:=by
 unfold RAt at h
 unfold qE
 rw[h]
def Gw (v:Value):Sem Value:=Instr.loadAt 68 v
def M0 (v x:Value):Sem Unit:=Instr.storeAt 68 v x
theorem Zr (v:Value):Instr.loadAt 68 v=Gw v:=rfl
theorem Ze (v x:Value):Instr.storeAt 68 v x=M0 v x:=rfl
theorem qf (h:RAt w q p n c s):(loadVar 68 ⟨q,0,none⟩).run zf w=.ok (.agg (rC p n c s)) w:=by
 have:=run_loadVar_mid (P:=zf) w q 0 68 (rC p n c s).toList _ (λ j v hv=>by
  rw[Nat.zero_add,h.cell j,←Array.getElem?_toList]
  exact hv) underlying68 rfl (by kernel_rfl)
 exact this
theorem Zf (h:RIs w q):(Gw (.pointer (some ⟨q,0,none⟩))).run zf w=.ok (.agg (qE w q)) w:=by
 obtain⟨p,n,c,s,h⟩:=h
 rw[h.cells]
 unfold Gw
 simp only[Instr.loadAt,Instr.sureAddr,Sem.run_bind,Sem.run_pure,Result.andThen_ok,qf h]
theorem OO (p:Option Addr) (n c:Nat) (s:St):(rC p n c s).all (·.oneCell')=true:=by simp[rC,Value.oneCell']
theorem qN {cs:Array Value} (h:RIs w q) (hv:jI cs):(M0 (.pointer (some ⟨q,0,none⟩)) (.agg cs)).run zf w=.ok () (w.setRow q cs):=by
 obtain⟨p,n,c,s,h⟩:=h
 obtain⟨p',n',c',s',rfl⟩:=hv
 unfold M0
 simp only[Instr.storeAt,Instr.sureAddr,Sem.run_bind,Sem.run_pure,Result.andThen_ok,run_storeVar_row (P:=zf) w q _ 68 _ (rC p' n' c' s') h (by kernel_rfl) rfl (OO p' n' c' s')]
end
section
open Go.RowKit
attribute [local go_sem ↓] Zr Ze
attribute [local go_sem] Zf qN X7
variable {w w':World} {q n c:Nat} {p:Option Addr} {s s':St}
theorem Z7 (p:Option Addr) (n c:Nat) (s:St) (w:World):Calls zf 59 #[.agg (rC p n c s)] w λ e w'=>e=.returned (.int .i64 (s.S.size:Int))∧Below w.heap.size w w':=by
 have ha:=ZP w p n c s
 have hb:=zd (show Below w.heap.size w (w.alloc (.cells (rC p n c s) 68))from(zh _ _).alloc (zg _) _)
 obtain⟨W0,hW0⟩:∃W0,w.alloc (.cells (rC p n c s) 68)=W0:=⟨_,rfl⟩
 rw[hW0]at ha hb
 have x11:W0.cell? ⟨w.heap.size,11,none⟩=some (.string s.S):=ha.cell 11
 have hlt:=ha.lt
 clear ha
 go_enter func59,ntmps59
 go_wp2_with fail
 try rw[zl]
 go_ret
 exact⟨rfl,hb.out⟩
theorem Ef (p:Option Addr) (n c:Nat) (s:St) (w:World) (h:s.room<(s.S.size:Int)):Calls zf 58 #[.agg (rC p n c s)] w λ e w'=>e=.returned (.int .i64 0)∧Below w.heap.size w w':=by
 have hd:decide (s.room<(s.S.size:Int))=true:=by simpa using h
 clear h
 have ha:=ZP w p n c s
 have hb:=zd (show Below w.heap.size w (w.alloc (.cells (rC p n c s) 68))from(zh _ _).alloc (zg _) _)
 obtain⟨W0,hW0⟩:∃W0,w.alloc (.cells (rC p n c s) 68)=W0:=⟨_,rfl⟩
 rw[hW0]at ha hb
 have hlt:=ha.lt
 have HR:=zd ha.drew
 have i1:=ha.is
 have k1:=ha.cells
 have i2:=ha.drew.is
 have k2:=ha.drew.cells
 have x14:W0.cell? ⟨w.heap.size,14,none⟩=some (.int .i64 s.room):=ha.cell 14
 have HH:=zd (λ W=>Z7 p n c s W)
 clear ha
 go_enter func58,ntmps58
 go_wp2_with fail
 clear hW0
 go_region_law
  (first
   |(go_simp;go_at_call 59;(with_reducible refine zr (HH.out _) ?_);rintro e w1 ⟨rfl,hb1⟩;have y14:w1.cell? ⟨w.heap.size,14,none⟩=some (.int .i64 s.room):=(HR.out.on hb1).cell 14))
 all_goals (
  have HR1:=zd (HR.out.on hb1)
  have HB1:=zd ((hb.out.drew).trans (hb1.mono hb.out.size))
  try clear y14
  clear hb1 i1 k1 i2 k2 x14 hlt
  go_wp2_with fail
  try rw[zl]
  go_ret
  exact⟨rfl,HB1.out⟩)
theorem Ee (p:Option Addr) (n c:Nat) (s:St) (w:World) (h:¬s.room<(s.S.size:Int)) (hw:IntKind.i64.wrap (s.room -(s.S.size:Int))=s.room -(s.S.size:Int)):Calls zf 58 #[.agg (rC p n c s)] w λ e w'=>e=.returned (.int .i64 (s.room -(s.S.size:Int)))∧Below w.heap.size w w':=by
 have hd:decide (s.room<(s.S.size:Int))=false:=by simpa using h
 clear h
 have ha:=ZP w p n c s
 have hb:=zd (show Below w.heap.size w (w.alloc (.cells (rC p n c s) 68))from(zh _ _).alloc (zg _) _)
 obtain⟨W0,hW0⟩:∃W0,w.alloc (.cells (rC p n c s) 68)=W0:=⟨_,rfl⟩
 rw[hW0]at ha hb
 have hlt:=ha.lt
 have HR:=zd ha.drew
 have i1:=ha.is
 have k1:=ha.cells
 have i2:=ha.drew.is
 have k2:=ha.drew.cells
 have x14:W0.cell? ⟨w.heap.size,14,none⟩=some (.int .i64 s.room):=ha.cell 14
 have HH:=zd (λ W=>Z7 p n c s W)
 clear ha
 go_enter func58,ntmps58
 go_wp2_with fail
 clear hW0
 go_region_law
  (first
   |(go_simp;go_at_call 59;(with_reducible refine zr (HH.out _) ?_);rintro e w1 ⟨rfl,hb1⟩;have y14:w1.cell? ⟨w.heap.size,14,none⟩=some (.int .i64 s.room):=(HR.out.on hb1).cell 14))
 all_goals (
  have HR1:=zd (HR.out.on hb1)
  have HB1:=zd ((hb.out.drew).trans (hb1.mono hb.out.size))
  try clear y14
  clear hb1 i1 k1 i2 k2 x14 hlt
  go_wp2_with fail
  have hlt:=HR1.out.lt
  have j1:=HR1.out.is
  have m1:=HR1.out.cells
  have j2:=HR1.out.drew.is
  have m2:=HR1.out.drew.cells
  have x14:w1.cell? ⟨w.heap.size,14,none⟩=some (.int .i64 s.room):=HR1.out.cell 14
  have HR2:=zd HR1.out.drew
  go_region_law
   (first
    |(go_simp;go_at_call 59;(with_reducible refine zr (HH.out _) ?_);rintro e w2 ⟨rfl,hb2⟩;have z14:w2.cell? ⟨w.heap.size,14,none⟩=some (.int .i64 s.room):=(HR2.out.on hb2).cell 14)))
 all_goals (
  have HB2:=zd ((HB1.out.drew).trans (hb2.mono HB1.out.size))
  clear hb2
  go_wp2_with fail
  try rw[zl]
  go_ret
  exact⟨rfl,HB2.out⟩)
theorem UT (p:Option Addr) (n c:Nat) (s:St) (w:World) (h0:0≤s.room∧s.room≤4096):Calls zf 58 #[.agg (rC p n c s)] w λ e w'=>e=.returned (.int .i64 (Zt s))∧Below w.heap.size w w':=by
 unfold Zt
 by_cases h:s.room<(s.S.size:Int)
 ·rw[if_pos h]
  exact Ef p n c s w h
 ·rw[if_neg h]
  exact Ee p n c s w h (by rw[IntKind.wrap_i64];omega)
end
end Go.Proofs.YtfdfgnmgpgkknaaGreat
