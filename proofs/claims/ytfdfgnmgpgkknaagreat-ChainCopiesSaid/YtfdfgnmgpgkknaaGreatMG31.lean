import Derived.Test.YtfdfgnmgpgkknaaGreatMG30
import Derived.Test.YtfdfgnmgpgkknaaGreatMG23
set_option maxRecDepth 100000
set_option maxHeartbeats 8000000
open Go.Proofs.Tryz renaming prog→zf
open Go.Lib renaming hid→zd
open Go.Exit renaming noGoto_ret→zl
open Go.Proofs.Tryz
namespace Go.Proofs.YtfdfgnmgpgkknaaGreat
open Go.RowKit
attribute [local go_sem ↓] Zr Ze
attribute [local go_sem] Zf qN X7
variable {w w':World} {q n c:Nat} {p:Option Addr} {s s':St}
theorem Oq (t:Tox) (h:t≠qi) (w:World):Calls zf 50 #[.agg #[.string t.s,.int .i64 t.k,.bool t.up,.int .i64 t.o,.int .i64 t.a,.int .i64 t.b]] w λ e w'=>e=.returned (.bool false)∧Below w.heap.size w w':=by
 have hb0:=Z8 w t
 have ha0:=Xh w t
 have hsz:=ha0.lt
 obtain⟨W0,hW0⟩:∃W0,w.alloc (qV t)=W0:=⟨_,rfl⟩
 rw[hW0]at hb0 ha0 hsz
 obtain⟨y0,y1,y2,y3,y4,y5⟩:=ha0.cell
 have HB:=zd hb0
 have HN:=zd h
 clear hb0 ha0 h
 unfold qV at hW0
 go_enter func50,ntmps50
 go_upto_region 1 with fail
 clear hW0
 go_wp2_with fail
 all_goals (
  try rw[zl]
  go_ret
  refine⟨?_,HB.out⟩
  first
   |rfl
   |(refine gb.qp (beq_eq_false_iff_ne.2 λ hb=>?_)
     exact HN.out (VV (by assumption) (by assumption) (by assumption) (by assumption) (by assumption) hb)))
theorem jQ (w:World):Calls zf 50 #[.agg #[.string ⟨#[]⟩,.int .i64 0,.bool false,.int .i64 0,.int .i64 0,.int .i64 0]] w λ e w'=>e=.returned (.bool true)∧Below w.heap.size w w':=by
 have HB:=zd (Z8 w qi)
 go_enter func50,ntmps50
 go_wp2_with fail
 try rw[zl]
 go_ret
 exact⟨rfl,HB.out⟩
end Go.Proofs.YtfdfgnmgpgkknaaGreat
