import Derived.RangeFuncCalls
import Derived.OrdersIn
import Derived.TacticsIn
import Derived.Deep.RegionHeld
namespace Go.Proofs.YtfdfgnmgpgkknaaGreat
open Go.RowKit
section
variable {P:Program} {ops:Array Oper} {Q:Exit→Act→World→Prop} {md:Region.Mode} {l n:Nat}
theorem Ea {row:String} {args:Array Value} {w:World} {R:Value→World→Prop} (h:Rows P row args w R):RowsIn (Fence.wide.inRound l) n P row args w R:=
 λ c cs _=>let⟨v,w',r,s⟩:=h c cs;⟨v,w',r,stepsIn_wide.2 s⟩
theorem FM {o:Oper} {a:Act} {next:Act→World→Prop} {r:Result Next} (h:o.upon P a next Q r):o.uponIn (Fence.wide.inRound l) n P a next Q r:=by
 cases r with
 |ok x w'=>
  cases x<;>simp only[Oper.upon,Oper.uponIn]at h⊢<;>
   first
    |exact h
    |exact⟨λ e=>absurd e (by simp[Fence.wide]),CallsIn.mono (CallsIn.inRound l (callsIn_wide.2 h)) (λ e w'' he=>by cases e<;>exact he)⟩
    |exact⟨λ e=>absurd e (by simp[Fence.wide]),Ea h⟩
    |exact False.elim h
 |halt x w'=>cases x<;>simp only[Oper.upon,Oper.uponIn]at h⊢<;>exact h
theorem Eu {o:Oper} (hd:∀c,o.op≠ .defer c) {a:Act} {w:World} {next:Act→World→Prop} (h:o.wp P a w next Q):o.wpIn (Fence.wide.inRound l) n P a w next Q:=by
 refine⟨λ _ _=>trivial,?_⟩
 show o.uponIn _ n P a next Q ((Oper.semAt (some l) a.eval o).run P w)
 rw[Oper.semAt_some l a.eval o hd]
 exact FM h
theorem BL (hd:∀o∈ops,∀c,o.op≠ .defer c) (hQ:∀a w,¬Q .outgrown a w):∀(fuel:Nat) (listed:Array Bool) (a:Act) (w:World),wpAny P md ops Q fuel listed a w→wpAnyIn (Fence.wide.inRound l) n P md ops Q fuel listed a w:=by
 intro fuel
 induction fuel with
 |zero=>exactλ _ _ _ h=>h
 |succ fuel ih=>
  intro listed a w h
  refine⟨h.1,λ i hi=>?_⟩
  have h1:=h.2 i hi
  unfold wpOp at h1
  unfold wpOpIn
  cases ho:ops[i]? with
  |none=>
   rw[ho]at h1
   exact ih _ _ _ h1
  |some o=>
   rw[ho]at h1
   have hm:o∈ops:=Array.mem_of_getElem? ho
   simp only at h1⊢
   split
   ·rename_i hw
    rw[if_pos hw]at h1
    rcases h1 with h1|⟨_,a',w',h1⟩
    ·exact Oper.wpIn_mono (λ a w hh=>ih _ _ _ hh) (Eu (hd o hm) h1)
    ·exact absurd h1 (hQ a' w')
   ·rename_i hw
    rw[if_neg hw]at h1
    exact⟨λ _ _=>trivial,ih _ _ _ h1⟩
theorem V0 {id:Nat} {a:Act} {w:World} (S:World→Prop) (hm:P.follows .mixedOrders=true) (hd:∀o∈ops,∀c,o.op≠ .defer c) (hQ:∀a w,¬Q .outgrown a w) (hS:S w.drew)
  (h:S w.drew→wpAnyH P .any ops Q S ops.size (Array.replicate ops.size false) a w.drew):(Code.region id ops true).wpIn (Fence.wide.inRound l) n P Q a w:=
 wpIn_region_any hm (BL hd hQ _ _ _ _ (wpAny_of_held _ _ _ _ (h hS)))
end
end Go.Proofs.YtfdfgnmgpgkknaaGreat
