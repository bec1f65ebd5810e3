import Derived.Test.YtfdfgnmgpgkknaaGreatMG7
import Derived.Lib.LaidTab
set_option maxHeartbeats 400000
open Go.Proofs.Tryz renaming prog→zf
open Go.Proofs.Tryz
namespace Go.Proofs.YtfdfgnmgpgkknaaGreat.gx
open Go.RowKit
theorem Z9 (n:Int) (w:World):Calls zf 122 #[.int .i64 n] w λ e w'=>e=.returned (.int .i64 (qe n))∧w=w':=by
 go_enter func122,ntmps122
 go_wp2
 all_goals go_ret
 all_goals exact⟨qR (by unfold qe;(repeat' split at*)<;>omega),rfl⟩
theorem Jn (n:Int) (w:World):Calls zf 129 #[.int .i64 n] w λ e w'=>e=.returned (.bool (n==qe n))∧w=w':=by
 go_enter func129,ntmps129
 go_wp2_with (go_at_call 122;refine(Z9 _ _).mono ?_;rintro e w' ⟨rfl,rfl⟩)
 go_ret
 exact⟨rfl,rfl⟩
theorem below_drewN {B:Nat} {a w:World} (h:Below B a w) (n:Nat):Below B a (w.drewN n):=⟨h.os,h.tape,h.output,h.size,h.block⟩
end Go.Proofs.YtfdfgnmgpgkknaaGreat.gx
