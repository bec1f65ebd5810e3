import Derived.Test.YtfdfgnmgpgkknaaGreatMG44
import Derived.Test.YtfdfgnmgpgkknaaGreatMG14
import Derived.Deep.Cut
set_option maxRecDepth 100000
set_option maxHeartbeats 8000000
open Go.RowKit.Below renaming refl→zh,heap_setCell→zn
open Nat renaming le_refl→zg,lt_of_lt_of_le→zy,le_trans→zt
open Go renaming heap_alloc_new→zo,cell_of_row→ze,bodyPost_ret→zk
open Go.Proofs.Tryz renaming prog→zf
open Go.Lib renaming hid→zd
open List renaming getD_eq_getElem?_getD→zi,getElem?_eq_getElem→zj
open Go.Proofs.Tryz
namespace Go.Proofs.YtfdfgnmgpgkknaaGreat
section
open Go.RowKit
namespace Ch
theorem Aw {c:Ch} {o:COp} (h:o.kind=0∨o.kind=0):(⟨(c.doA o).n,⟨#[]⟩,0⟩:Ans)=c.doA o:=by
 have h:o.kind=0:=by omega
 unfold doA
 rw[if_pos h]
 split<;>rfl
theorem Av {c:Ch} {o:COp} (h:o.kind=4):(⟨0,(c.doA o).s,0⟩:Ans)=c.doA o:=by
 unfold doA
 rw[if_neg (by omega),if_neg (by omega),if_neg (by omega),if_neg (by omega),if_pos h]
 split<;>rfl
theorem DH {c:Ch} {o:COp} (h:o.kind=6∨o.kind=7):(⟨0,⟨#[]⟩,(c.doA o).e⟩:Ans)=c.doA o:=by
 unfold doA
 rw[if_neg (by omega),if_neg (by omega),if_neg (by omega),if_neg (by omega),if_neg (by omega),if_neg (by omega)]
 rcases h with h|h
 ·rw[if_pos h]
  split<;>rfl
 ·rw[if_neg (by omega),if_pos h]
  split<;>rfl
theorem Fh {c:Ch} {o:COp} (h:¬(0≤o.kind∧o.kind≤7)):c.doN o=c∧c.doA o=qT:=by
 unfold doN doA
 have h0:∀k:Int,0≤k→k≤7→¬o.kind=k:=λ k h1 h2 e=>h (by omega)
 simp only[if_neg (h0 0 (by decide) (by decide)),if_neg (h0 1 (by decide) (by decide)),if_neg (h0 2 (by decide) (by decide)),if_neg (h0 3 (by decide) (by decide)),if_neg (h0 4 (by decide) (by decide)),if_neg (h0 5 (by decide) (by decide)),if_neg (h0 6 (by decide) (by decide)),if_neg (h0 7 (by decide) (by decide))]
 exact⟨trivial,trivial⟩
end Ch
def LK (o:COp):Value:=.agg #[.int .i64 o.kind,.int .i64 o.now,.int .i64 o.n,.string o.s,.string o.t.s,.int .i64 o.t.k,.bool o.t.up,.int .i64 o.t.o,.int .i64 o.t.a,.int .i64 o.t.b,.int .u64 o.seed]
def UO (o:COp):Obj:=.cells #[.int .i64 o.kind,.int .i64 o.now,.int .i64 o.n,.string o.s,.string o.t.s,.int .i64 o.t.k,.bool o.t.up,.int .i64 o.t.o,.int .i64 o.t.a,.int .i64 o.t.b,.int .u64 o.seed] 38
def YY (a:Ans):Obj:=.cells #[.int .i64 a.n,.string a.s,.int .i64 a.e] 40
def XE (w:World) (g:Nat) (a b c:Value):World:=((w.setCell ⟨g,0,none⟩ a).setCell ⟨g,1,none⟩ b).setCell ⟨g,2,none⟩ c
structure Cz (w0 w:World) (U:Own) (g:Nat) (s:Ch) (M:Nat) (o:COp) (a:Ans) (W:World) (U':Own):Prop where
 hd:CHd w0 W U' g s M
 rest:Rest w U W U'
 up:w0.heap.size≤w.heap.size
 b3:W.heap[w.heap.size]?=some (UO o)
 b4:W.heap[w.heap.size+1]?=some (YY qT)
 b5:W.heap[w.heap.size+2]?=some (YY a)
 n3:¬U' w.heap.size
 n4:¬U' (w.heap.size+1)
 n5:¬U' (w.heap.size+2)
theorem DK (w:World) (o0 o1 o2:Obj):(((w.alloc o0).alloc o1).alloc o2).heap[w.heap.size]?=some o0∧(((w.alloc o0).alloc o1).alloc o2).heap[w.heap.size+1]?=some o1∧(((w.alloc o0).alloc o1).alloc o2).heap[w.heap.size+2]?=some o2:=by
 have s1:(w.alloc o0).heap.size=w.heap.size+1:=by simp
 have s2:((w.alloc o0).alloc o1).heap.size=w.heap.size+2:=by simp
 have b1:Below (w.alloc o0).heap.size (w.alloc o0) ((w.alloc o0).alloc o1):=(zh _ _).alloc (zg _) _
 have b2:Below ((w.alloc o0).alloc o1).heap.size ((w.alloc o0).alloc o1) (((w.alloc o0).alloc o1).alloc o2):=(zh _ _).alloc (zg _) _
 have h0:=zo w o0
 have h1:=zo (w.alloc o0) o1
 have h2:=zo ((w.alloc o0).alloc o1) o2
 rw[s1]at h1
 rw[s2]at h2
 exact⟨(b2.block _ (by omega)).trans ((b1.block _ (by omega)).trans h0),(b2.block _ (by omega)).trans h1,h2⟩
section
variable {w0 w W W':World} {U U1 U':Own} {g:Nat} {s s':Ch} {M M':Nat} {o:COp} {a:Ans}
theorem Jg (h:CHd w0 w U g s M) (o:COp):Cz w0 w U g s M o qT (((w.alloc (UO o)).alloc (YY qT)).alloc (YY qT)) U:=by
 have hb:Below w.heap.size w (((w.alloc (UO o)).alloc (YY qT)).alloc (YY qT)):=(((zh _ _).alloc (zg _) _).alloc (by simp) _).alloc (by simp;omega) _
 obtain⟨h3,h4,h5⟩:=DK w (UO o) (YY qT) (YY qT)
 exact⟨h.on hb,λ i hi hu=>⟨hb.block i hi,hu⟩,h.2.2.size,h3,h4,h5,h.new (zg _),h.new (by omega),h.new (by omega)⟩
theorem Cz.on (h:Cz w0 w U g s M o a W U') (hb:Below W.heap.size W W'):Cz w0 w U g s M o a W' U':=
 ⟨h.hd.on hb,λ i hi hu=>by
  have hh:=h.rest i hi hu
  exact⟨(hb.block i (zy hi (zt (Nat.le_of_lt (gb.qd h.b3)) (zg _)))).trans hh.1,hh.2⟩,h.up,(hb.block _ (gb.qd h.b3)).trans h.b3,(hb.block _ (gb.qd h.b4)).trans h.b4,(hb.block _ (gb.qd h.b5)).trans h.b5,h.n3,h.n4,h.n5⟩
theorem Cz.step (h:Cz w0 w U g s M o a W U1) (hs:Ud W U1 g s' M' W'):∃U',Cz w0 w U g s' M' o a W' U':=by
 obtain⟨U',hd,hr⟩:=h.hd.step hs
 have r3:=hr _ (gb.qd h.b3) h.n3
 have r4:=hr _ (gb.qd h.b4) h.n4
 have r5:=hr _ (gb.qd h.b5) h.n5
 refine⟨U',hd,λ i hi hu=>?_,h.up,r3.1.trans h.b3,r4.1.trans h.b4,r5.1.trans h.b5,r3.2,r4.2,r5.2⟩
 have h1:=h.rest i hi hu
 have h2:=hr i (Nat.lt_trans hi (gb.qd h.b3)) h1.2
 exact⟨h2.1.trans h1.1,h2.2⟩
theorem Cz.set (h:Cz w0 w U g s M o a W U') {k:Nat} {v:Value} {a':Ans} (ha:(W.setCell ⟨w.heap.size+2,k,none⟩ v).heap[w.heap.size+2]?=some (YY a')):Cz w0 w U g s M o a' (W.setCell ⟨w.heap.size+2,k,none⟩ v) U':=
 ⟨h.hd.set h.n5 (by have:=h.up;omega) v,λ i hi hu=>by
  have hh:=h.rest i hi hu
  exact⟨(zn _ _ _ _ (show i≠w.heap.size+2 by omega)).trans hh.1,hh.2⟩,h.up,(zn _ _ _ _ (show w.heap.size≠w.heap.size+2 by omega)).trans h.b3,(zn _ _ _ _ (show w.heap.size+1≠w.heap.size+2 by omega)).trans h.b4,ha,h.n3,h.n4,h.n5⟩
theorem Cz.Yx (h:Cz w0 w U g s M o a W U') (x:Int):Cz w0 w U g s M o ⟨x,a.s,a.e⟩ (W.setCell ⟨w.heap.size+2,0,none⟩ (.int .i64 x)) U':=h.set (by rw[gb.qo h.b5];rfl)
theorem Cz.XR (h:Cz w0 w U g s M o a W U') (x:ByteArray):Cz w0 w U g s M o ⟨a.n,x,a.e⟩ (W.setCell ⟨w.heap.size+2,1,none⟩ (.string x)) U':=h.set (by rw[gb.qo h.b5];rfl)
theorem Cz.D2 (h:Cz w0 w U g s M o a W U') (x:Int):Cz w0 w U g s M o ⟨a.n,a.s,x⟩ (W.setCell ⟨w.heap.size+2,2,none⟩ (.int .i64 x)) U':=h.set (by rw[gb.qo h.b5];rfl)
def QA (w0 w:World) (U:Own) (g:Nat) (s:Ch) (a:Ans) (M:Nat) (e:Ending) (W:World):Prop:=e=.returned (.agg #[.int .i64 a.n,.string a.s,.int .i64 a.e])∧∃U',CHd w0 W U' g s M∧Rest w U W U'
theorem Cz.fin (h:Cz w0 w U g s M o a W U'):(∃U'',CHd w0 (XE W (w.heap.size+1) (.int .i64 a.n) (.string a.s) (.int .i64 a.e)) U'' g s M∧Rest w U (XE W (w.heap.size+1) (.int .i64 a.n) (.string a.s) (.int .i64 a.e)) U'')∧
  (XE W (w.heap.size+1) (.int .i64 a.n) (.string a.s) (.int .i64 a.e)).heap[w.heap.size+1]?=some (YY a):=by
 have hu:=h.up
 have h1:=h.hd.set (k:=0) h.n4 (by omega) (.int .i64 a.n)
 have h2:=h1.set (k:=1) h.n4 (by omega) (.string a.s)
 have h3:=h2.set (k:=2) h.n4 (by omega) (.int .i64 a.e)
 refine⟨⟨U',h3,λ i hi hx=>?_⟩,?_⟩
 ·have hh:=h.rest i hi hx
  refine⟨?_,hh.2⟩
  unfold XE
  rw[zn _ _ _ _ (show i≠w.heap.size+1 by omega),zn _ _ _ _ (show i≠w.heap.size+1 by omega),zn _ _ _ _ (show i≠w.heap.size+1 by omega)]
  exact hh.1
 ·unfold XE
  rw[gb.qo (gb.qo (gb.qo h.b4 _) _) _]
  rfl
end
section
variable {w0 w:World} {U:Own} {g:Nat} {s:Ch} {M M':Nat}
theorem DT (h : CHd w0 w U g s M) (now n : Int) (b ts : ByteArray) (tk : Int) (tu : Bool) (to ta tb sd : Int) (hM : M + b.size ≤ M') (hf : M' ≤ 400000) :
    Calls zf 10 #[ptr g, .agg #[.int .i64 0, .int .i64 now, .int .i64 n, .string b, .string ts, .int .i64 tk, .bool tu, .int .i64 to, .int .i64 ta, .int .i64 tb, .int .u64 sd]] w (QA w0 w U g (s.doN ⟨0, now, n, b, ⟨ts, tk, tu, to, ta, tb⟩, sd⟩) ⟨(s.doA ⟨0, now, n, b, ⟨ts, tk, tu, to, ta, tb⟩, sd⟩).n, ⟨#[]⟩, 0⟩ M') := by
  have hz := Jg h ⟨0, now, n, b, ⟨ts, tk, tu, to, ta, tb⟩, sd⟩
  unfold UO YY at hz
  simp only [qT] at hz
  obtain ⟨c, w1, hcv, hbi, hb1, _, _, hnc⟩ := gc.Lx b (by omega) (((w.alloc (.cells #[.int .i64 0, .int .i64 now, .int .i64 n, .string b, .string ts, .int .i64 tk, .bool tu, .int .i64 to, .int .i64 ta, .int .i64 tb, .int .u64 sd] 38)).alloc (.cells #[.int .i64 0, .string ⟨#[]⟩, .int .i64 0] 40)).alloc (.cells #[.int .i64 0, .string ⟨#[]⟩, .int .i64 0] 40))
  have hz := hz.on hb1
  have hq : (((w.alloc (.cells #[.int .i64 0, .int .i64 now, .int .i64 n, .string b, .string ts, .int .i64 tk, .bool tu, .int .i64 to, .int .i64 ta, .int .i64 tb, .int .u64 sd] 38)).alloc (.cells #[.int .i64 0, .string ⟨#[]⟩, .int .i64 0] 40)).alloc (.cells #[.int .i64 0, .string ⟨#[]⟩, .int .i64 0] 40)).heap.size = w.heap.size + 3 := by simp
  rw [hq] at hcv hbi
  clear hb1 hq
  have HZ := zd hz
  clear hz h
  go_enter func10, ntmps10
  go_wp2_with fail
  refine (Dt HZ.out.hd.1 now n ⟨ts, tk, tu, to, ta, tb⟩ sd rfl hbi (by omega) hM hf).mono ?_
  rintro e w2 ⟨rfl, hs⟩
  obtain ⟨U2, hz2⟩ := HZ.out.step hs
  have HZ2 := zd hz2
  clear hs hz2 HZ hcv hbi
  generalize (s.doA ⟨0, now, n, b, ⟨ts, tk, tu, to, ta, tb⟩, sd⟩).n = X at *
  have k3 := HZ2.out.b3
  have k5 := HZ2.out.b5
  have x0 := ze w2 _ 0 _ _ _ k5
  have x1 := ze w2 _ 1 _ _ _ k5
  have x2 := ze w2 _ 2 _ _ _ k5
  have f0 : w2.frozen? ⟨w.heap.size + 2, 0, none⟩ = false := gb.qa k5
  have f1 : w2.frozen? ⟨w.heap.size + 2, 1, none⟩ = false := gb.qa k5
  have f2 : w2.frozen? ⟨w.heap.size + 2, 2, none⟩ = false := gb.qa k5
  have hlt := gb.qd k5
  clear k3 k5
  go_upto_region 19 with fail
  have HZ3 := zd (HZ2.out.Yx X)
  generalize w2.setCell ⟨w.heap.size + 2, 0, none⟩ (.int .i64 X) = w3 at *
  clear x0 x1 x2 f0 f1 f2 hlt HZ2
  have hk5 := HZ3.out.b5
  have hk4 := HZ3.out.b4
  have x0 := ze w3 _ 0 _ _ _ hk5
  have x1 := ze w3 _ 1 _ _ _ hk5
  have x2 := ze w3 _ 2 _ _ _ hk5
  have y0 := ze w3 _ 0 _ _ _ hk4
  have y1 := ze w3 _ 1 _ _ _ hk4
  have y2 := ze w3 _ 2 _ _ _ hk4
  have f0 : w3.frozen? ⟨w.heap.size + 1, 0, none⟩ = false := gb.qa hk4
  have f1 : w3.frozen? ⟨w.heap.size + 1, 1, none⟩ = false := gb.qa hk4
  have f2 : w3.frozen? ⟨w.heap.size + 1, 2, none⟩ = false := gb.qa hk4
  simp only [qT] at x0 x1 x2 y0 y1 y2
  have hf := HZ3.out.fin
  have hlt := gb.qd hk4
  have hlt2 := gb.qd hk5
  have HF := zd hf
  clear hk4 hk5 hf
  go_wp2_with fail
  generalize hW : XE w3 (w.heap.size + 1) (.int .i64 X) (.string ⟨#[]⟩) (.int .i64 0) = W at *
  unfold XE at hW
  rw [hW]
  clear hW x0 x1 x2 y0 y1 y2 f0 f1 f2
  obtain ⟨hdd, hzz⟩ := HF.out
  have z0 := ze W _ 0 _ _ _ hzz
  have z1 := ze W _ 1 _ _ _ hzz
  have z2 := ze W _ 2 _ _ _ hzz
  exact zk (v := .agg #[.int .i64 X, .string ⟨#[]⟩, .int .i64 0]) (by simp [results, results10, go_sem, z0, z1, z2]) rfl ⟨rfl, hdd⟩
theorem DS (h : CHd w0 w U g s M) (now n : Int) (b ts : ByteArray) (tk : Int) (tu : Bool) (to ta tb sd : Int) :
    Calls zf 10 #[ptr g, .agg #[.int .i64 1, .int .i64 now, .int .i64 n, .string b, .string ts, .int .i64 tk, .bool tu, .int .i64 to, .int .i64 ta, .int .i64 tb, .int .u64 sd]] w (QA w0 w U g (s.doN ⟨1, now, n, b, ⟨ts, tk, tu, to, ta, tb⟩, sd⟩) qT M) := by
  have hz := Jg h ⟨1, now, n, b, ⟨ts, tk, tu, to, ta, tb⟩, sd⟩
  unfold UO YY at hz
  simp only [qT] at hz
  have HZ := zd hz
  clear hz h
  go_enter func10, ntmps10
  go_wp2_with fail
  generalize ((w.alloc (.cells #[.int .i64 1, .int .i64 now, .int .i64 n, .string b, .string ts, .int .i64 tk, .bool tu, .int .i64 to, .int .i64 ta, .int .i64 tb, .int .u64 sd] 38)).alloc (.cells #[.int .i64 0, .string ⟨#[]⟩, .int .i64 0] 40)).alloc (.cells #[.int .i64 0, .string ⟨#[]⟩, .int .i64 0] 40) = w1 at *
  refine (E7 HZ.out.hd.1 now n b ⟨ts, tk, tu, to, ta, tb⟩ sd).mono ?_
  rintro e w2 ⟨rfl, hs⟩
  obtain ⟨U2, hz2⟩ := HZ.out.step hs
  have HZ2 := zd hz2
  clear hs hz2 HZ
  have k3 := HZ2.out.b3
  have k5 := HZ2.out.b5
  have x0 := ze w2 _ 0 _ _ _ k5
  have x1 := ze w2 _ 1 _ _ _ k5
  have x2 := ze w2 _ 2 _ _ _ k5
  have f0 : w2.frozen? ⟨w.heap.size + 2, 0, none⟩ = false := gb.qa k5
  have f1 : w2.frozen? ⟨w.heap.size + 2, 1, none⟩ = false := gb.qa k5
  have f2 : w2.frozen? ⟨w.heap.size + 2, 2, none⟩ = false := gb.qa k5
  have hlt := gb.qd k5
  clear k3 k5
  go_upto_region 19 with fail
  have HZ3 := HZ2
  obtain ⟨w3, hw3⟩ : ∃ w3, w2 = w3 := ⟨_, rfl⟩
  subst hw3
  clear x0 x1 x2 f0 f1 f2 hlt HZ2
  have hk5 := HZ3.out.b5
  have hk4 := HZ3.out.b4
  have x0 := ze w2 _ 0 _ _ _ hk5
  have x1 := ze w2 _ 1 _ _ _ hk5
  have x2 := ze w2 _ 2 _ _ _ hk5
  have y0 := ze w2 _ 0 _ _ _ hk4
  have y1 := ze w2 _ 1 _ _ _ hk4
  have y2 := ze w2 _ 2 _ _ _ hk4
  have f0 : w2.frozen? ⟨w.heap.size + 1, 0, none⟩ = false := gb.qa hk4
  have f1 : w2.frozen? ⟨w.heap.size + 1, 1, none⟩ = false := gb.qa hk4
  have f2 : w2.frozen? ⟨w.heap.size + 1, 2, none⟩ = false := gb.qa hk4
  simp only [qT] at x0 x1 x2 y0 y1 y2
  have hf := HZ3.out.fin
  have hlt := gb.qd hk4
  have hlt2 := gb.qd hk5
  have HF := zd hf
  clear hk4 hk5 hf
  go_wp2_with fail
  generalize hW : XE w2 (w.heap.size + 1) (.int .i64 0) (.string ⟨#[]⟩) (.int .i64 0) = W at *
  unfold XE at hW
  rw [hW]
  clear hW x0 x1 x2 y0 y1 y2 f0 f1 f2
  obtain ⟨hdd, hzz⟩ := HF.out
  have z0 := ze W _ 0 _ _ _ hzz
  have z1 := ze W _ 1 _ _ _ hzz
  have z2 := ze W _ 2 _ _ _ hzz
  exact zk (v := .agg #[.int .i64 0, .string ⟨#[]⟩, .int .i64 0]) (by simp [results, results10, go_sem, z0, z1, z2]) rfl ⟨rfl, hdd⟩
theorem DR (h : CHd w0 w U g s M) (now n : Int) (b ts : ByteArray) (tk : Int) (tu : Bool) (to ta tb sd : Int) :
    Calls zf 10 #[ptr g, .agg #[.int .i64 2, .int .i64 now, .int .i64 n, .string b, .string ts, .int .i64 tk, .bool tu, .int .i64 to, .int .i64 ta, .int .i64 tb, .int .u64 sd]] w (QA w0 w U g (s.doN ⟨2, now, n, b, ⟨ts, tk, tu, to, ta, tb⟩, sd⟩) qT M) := by
  have hz := Jg h ⟨2, now, n, b, ⟨ts, tk, tu, to, ta, tb⟩, sd⟩
  unfold UO YY at hz
  simp only [qT] at hz
  have HZ := zd hz
  clear hz h
  go_enter func10, ntmps10
  go_wp2_with fail
  generalize ((w.alloc (.cells #[.int .i64 2, .int .i64 now, .int .i64 n, .string b, .string ts, .int .i64 tk, .bool tu, .int .i64 to, .int .i64 ta, .int .i64 tb, .int .u64 sd] 38)).alloc (.cells #[.int .i64 0, .string ⟨#[]⟩, .int .i64 0] 40)).alloc (.cells #[.int .i64 0, .string ⟨#[]⟩, .int .i64 0] 40) = w1 at *
  refine (De HZ.out.hd.1 now n b ⟨ts, tk, tu, to, ta, tb⟩ sd).mono ?_
  rintro e w2 ⟨rfl, hs⟩
  obtain ⟨U2, hz2⟩ := HZ.out.step hs
  have HZ2 := zd hz2
  clear hs hz2 HZ
  have k3 := HZ2.out.b3
  have k5 := HZ2.out.b5
  have x0 := ze w2 _ 0 _ _ _ k5
  have x1 := ze w2 _ 1 _ _ _ k5
  have x2 := ze w2 _ 2 _ _ _ k5
  have f0 : w2.frozen? ⟨w.heap.size + 2, 0, none⟩ = false := gb.qa k5
  have f1 : w2.frozen? ⟨w.heap.size + 2, 1, none⟩ = false := gb.qa k5
  have f2 : w2.frozen? ⟨w.heap.size + 2, 2, none⟩ = false := gb.qa k5
  have hlt := gb.qd k5
  clear k3 k5
  go_upto_region 19 with fail
  have HZ3 := HZ2
  obtain ⟨w3, hw3⟩ : ∃ w3, w2 = w3 := ⟨_, rfl⟩
  subst hw3
  clear x0 x1 x2 f0 f1 f2 hlt HZ2
  have hk5 := HZ3.out.b5
  have hk4 := HZ3.out.b4
  have x0 := ze w2 _ 0 _ _ _ hk5
  have x1 := ze w2 _ 1 _ _ _ hk5
  have x2 := ze w2 _ 2 _ _ _ hk5
  have y0 := ze w2 _ 0 _ _ _ hk4
  have y1 := ze w2 _ 1 _ _ _ hk4
  have y2 := ze w2 _ 2 _ _ _ hk4
  have f0 : w2.frozen? ⟨w.heap.size + 1, 0, none⟩ = false := gb.qa hk4
  have f1 : w2.frozen? ⟨w.heap.size + 1, 1, none⟩ = false := gb.qa hk4
  have f2 : w2.frozen? ⟨w.heap.size + 1, 2, none⟩ = false := gb.qa hk4
  simp only [qT] at x0 x1 x2 y0 y1 y2
  have hf := HZ3.out.fin
  have hlt := gb.qd hk4
  have hlt2 := gb.qd hk5
  have HF := zd hf
  clear hk4 hk5 hf
  go_wp2_with fail
  generalize hW : XE w2 (w.heap.size + 1) (.int .i64 0) (.string ⟨#[]⟩) (.int .i64 0) = W at *
  unfold XE at hW
  rw [hW]
  clear hW x0 x1 x2 y0 y1 y2 f0 f1 f2
  obtain ⟨hdd, hzz⟩ := HF.out
  have z0 := ze W _ 0 _ _ _ hzz
  have z1 := ze W _ 1 _ _ _ hzz
  have z2 := ze W _ 2 _ _ _ hzz
  exact zk (v := .agg #[.int .i64 0, .string ⟨#[]⟩, .int .i64 0]) (by simp [results, results10, go_sem, z0, z1, z2]) rfl ⟨rfl, hdd⟩
theorem DQ (h : CHd w0 w U g s M) (now n : Int) (b ts : ByteArray) (tk : Int) (tu : Bool) (to ta tb sd : Int) :
    Calls zf 10 #[ptr g, .agg #[.int .i64 3, .int .i64 now, .int .i64 n, .string b, .string ts, .int .i64 tk, .bool tu, .int .i64 to, .int .i64 ta, .int .i64 tb, .int .u64 sd]] w (QA w0 w U g (s.doN ⟨3, now, n, b, ⟨ts, tk, tu, to, ta, tb⟩, sd⟩) ⟨(s.doA ⟨3, now, n, b, ⟨ts, tk, tu, to, ta, tb⟩, sd⟩).n, ⟨#[]⟩, 0⟩ M) := by
  have hz := Jg h ⟨3, now, n, b, ⟨ts, tk, tu, to, ta, tb⟩, sd⟩
  unfold UO YY at hz
  simp only [qT] at hz
  have HZ := zd hz
  clear hz h
  go_enter func10, ntmps10
  go_wp2_with fail
  generalize ((w.alloc (.cells #[.int .i64 3, .int .i64 now, .int .i64 n, .string b, .string ts, .int .i64 tk, .bool tu, .int .i64 to, .int .i64 ta, .int .i64 tb, .int .u64 sd] 38)).alloc (.cells #[.int .i64 0, .string ⟨#[]⟩, .int .i64 0] 40)).alloc (.cells #[.int .i64 0, .string ⟨#[]⟩, .int .i64 0] 40) = w1 at *
  refine (M4 HZ.out.hd.1 now n b ⟨ts, tk, tu, to, ta, tb⟩ sd).mono ?_
  rintro e w2 ⟨rfl, hs⟩
  obtain ⟨U2, hz2⟩ := HZ.out.step hs
  have HZ2 := zd hz2
  clear hs hz2 HZ
  generalize (s.doA ⟨3, now, n, b, ⟨ts, tk, tu, to, ta, tb⟩, sd⟩).n = X at *
  have k3 := HZ2.out.b3
  have k5 := HZ2.out.b5
  have x0 := ze w2 _ 0 _ _ _ k5
  have x1 := ze w2 _ 1 _ _ _ k5
  have x2 := ze w2 _ 2 _ _ _ k5
  have f0 : w2.frozen? ⟨w.heap.size + 2, 0, none⟩ = false := gb.qa k5
  have f1 : w2.frozen? ⟨w.heap.size + 2, 1, none⟩ = false := gb.qa k5
  have f2 : w2.frozen? ⟨w.heap.size + 2, 2, none⟩ = false := gb.qa k5
  have hlt := gb.qd k5
  clear k3 k5
  go_upto_region 19 with fail
  have HZ3 := zd (HZ2.out.Yx X)
  generalize w2.setCell ⟨w.heap.size + 2, 0, none⟩ (.int .i64 X) = w3 at *
  clear x0 x1 x2 f0 f1 f2 hlt HZ2
  have hk5 := HZ3.out.b5
  have hk4 := HZ3.out.b4
  have x0 := ze w3 _ 0 _ _ _ hk5
  have x1 := ze w3 _ 1 _ _ _ hk5
  have x2 := ze w3 _ 2 _ _ _ hk5
  have y0 := ze w3 _ 0 _ _ _ hk4
  have y1 := ze w3 _ 1 _ _ _ hk4
  have y2 := ze w3 _ 2 _ _ _ hk4
  have f0 : w3.frozen? ⟨w.heap.size + 1, 0, none⟩ = false := gb.qa hk4
  have f1 : w3.frozen? ⟨w.heap.size + 1, 1, none⟩ = false := gb.qa hk4
  have f2 : w3.frozen? ⟨w.heap.size + 1, 2, none⟩ = false := gb.qa hk4
  simp only [qT] at x0 x1 x2 y0 y1 y2
  have hf := HZ3.out.fin
  have hlt := gb.qd hk4
  have hlt2 := gb.qd hk5
  have HF := zd hf
  clear hk4 hk5 hf
  go_wp2_with fail
  generalize hW : XE w3 (w.heap.size + 1) (.int .i64 X) (.string ⟨#[]⟩) (.int .i64 0) = W at *
  unfold XE at hW
  rw [hW]
  clear hW x0 x1 x2 y0 y1 y2 f0 f1 f2
  obtain ⟨hdd, hzz⟩ := HF.out
  have z0 := ze W _ 0 _ _ _ hzz
  have z1 := ze W _ 1 _ _ _ hzz
  have z2 := ze W _ 2 _ _ _ hzz
  exact zk (v := .agg #[.int .i64 X, .string ⟨#[]⟩, .int .i64 0]) (by simp [results, results10, go_sem, z0, z1, z2]) rfl ⟨rfl, hdd⟩
theorem DP (h : CHd w0 w U g s M) (now n : Int) (b ts : ByteArray) (tk : Int) (tu : Bool) (to ta tb sd : Int) :
    Calls zf 10 #[ptr g, .agg #[.int .i64 4, .int .i64 now, .int .i64 n, .string b, .string ts, .int .i64 tk, .bool tu, .int .i64 to, .int .i64 ta, .int .i64 tb, .int .u64 sd]] w (QA w0 w U g (s.doN ⟨4, now, n, b, ⟨ts, tk, tu, to, ta, tb⟩, sd⟩) ⟨0, (s.doA ⟨4, now, n, b, ⟨ts, tk, tu, to, ta, tb⟩, sd⟩).s, 0⟩ M) := by
  have hz := Jg h ⟨4, now, n, b, ⟨ts, tk, tu, to, ta, tb⟩, sd⟩
  unfold UO YY at hz
  simp only [qT] at hz
  have HZ := zd hz
  clear hz h
  go_enter func10, ntmps10
  go_wp2_with fail
  generalize ((w.alloc (.cells #[.int .i64 4, .int .i64 now, .int .i64 n, .string b, .string ts, .int .i64 tk, .bool tu, .int .i64 to, .int .i64 ta, .int .i64 tb, .int .u64 sd] 38)).alloc (.cells #[.int .i64 0, .string ⟨#[]⟩, .int .i64 0] 40)).alloc (.cells #[.int .i64 0, .string ⟨#[]⟩, .int .i64 0] 40) = w1 at *
  refine (LV HZ.out.hd.1 now n b ⟨ts, tk, tu, to, ta, tb⟩ sd).mono ?_
  rintro e w2 ⟨q, d, rfl, hi, _, _, hs⟩
  have cv := gc.My (d := d) hi rfl
  obtain ⟨U2, hz2⟩ := HZ.out.step hs
  have HZ2 := zd hz2
  clear hs hz2 HZ hi
  generalize (s.doA ⟨4, now, n, b, ⟨ts, tk, tu, to, ta, tb⟩, sd⟩).s = X at *
  have k3 := HZ2.out.b3
  have k5 := HZ2.out.b5
  have x0 := ze w2 _ 0 _ _ _ k5
  have x1 := ze w2 _ 1 _ _ _ k5
  have x2 := ze w2 _ 2 _ _ _ k5
  have f0 : w2.frozen? ⟨w.heap.size + 2, 0, none⟩ = false := gb.qa k5
  have f1 : w2.frozen? ⟨w.heap.size + 2, 1, none⟩ = false := gb.qa k5
  have f2 : w2.frozen? ⟨w.heap.size + 2, 2, none⟩ = false := gb.qa k5
  have hlt := gb.qd k5
  clear k3 k5
  go_upto_region 19 with fail
  have HZ3 := zd (HZ2.out.XR X)
  generalize w2.setCell ⟨w.heap.size + 2, 1, none⟩ (.string X) = w3 at *
  clear x0 x1 x2 f0 f1 f2 hlt HZ2
  have hk5 := HZ3.out.b5
  have hk4 := HZ3.out.b4
  have x0 := ze w3 _ 0 _ _ _ hk5
  have x1 := ze w3 _ 1 _ _ _ hk5
  have x2 := ze w3 _ 2 _ _ _ hk5
  have y0 := ze w3 _ 0 _ _ _ hk4
  have y1 := ze w3 _ 1 _ _ _ hk4
  have y2 := ze w3 _ 2 _ _ _ hk4
  have f0 : w3.frozen? ⟨w.heap.size + 1, 0, none⟩ = false := gb.qa hk4
  have f1 : w3.frozen? ⟨w.heap.size + 1, 1, none⟩ = false := gb.qa hk4
  have f2 : w3.frozen? ⟨w.heap.size + 1, 2, none⟩ = false := gb.qa hk4
  simp only [qT] at x0 x1 x2 y0 y1 y2
  have hf := HZ3.out.fin
  have hlt := gb.qd hk4
  have hlt2 := gb.qd hk5
  have HF := zd hf
  clear hk4 hk5 hf
  go_wp2_with fail
  generalize hW : XE w3 (w.heap.size + 1) (.int .i64 0) (.string X) (.int .i64 0) = W at *
  unfold XE at hW
  rw [hW]
  clear hW x0 x1 x2 y0 y1 y2 f0 f1 f2
  obtain ⟨hdd, hzz⟩ := HF.out
  have z0 := ze W _ 0 _ _ _ hzz
  have z1 := ze W _ 1 _ _ _ hzz
  have z2 := ze W _ 2 _ _ _ hzz
  exact zk (v := .agg #[.int .i64 0, .string X, .int .i64 0]) (by simp [results, results10, go_sem, z0, z1, z2]) rfl ⟨rfl, hdd⟩
theorem DO (h : CHd w0 w U g s M) (now n : Int) (b ts : ByteArray) (tk : Int) (tu : Bool) (to ta tb sd : Int) (hts : ts.size ≤ maxLen) :
    Calls zf 10 #[ptr g, .agg #[.int .i64 5, .int .i64 now, .int .i64 n, .string b, .string ts, .int .i64 tk, .bool tu, .int .i64 to, .int .i64 ta, .int .i64 tb, .int .u64 sd]] w (QA w0 w U g (s.doN ⟨5, now, n, b, ⟨ts, tk, tu, to, ta, tb⟩, sd⟩) ⟨0, ⟨#[]⟩, (s.doA ⟨5, now, n, b, ⟨ts, tk, tu, to, ta, tb⟩, sd⟩).e⟩ M) := by
  have hz := Jg h ⟨5, now, n, b, ⟨ts, tk, tu, to, ta, tb⟩, sd⟩
  unfold UO YY at hz
  simp only [qT] at hz
  have HZ := zd hz
  clear hz h
  go_enter func10, ntmps10
  go_wp2_with fail
  generalize ((w.alloc (.cells #[.int .i64 5, .int .i64 now, .int .i64 n, .string b, .string ts, .int .i64 tk, .bool tu, .int .i64 to, .int .i64 ta, .int .i64 tb, .int .u64 sd] 38)).alloc (.cells #[.int .i64 0, .string ⟨#[]⟩, .int .i64 0] 40)).alloc (.cells #[.int .i64 0, .string ⟨#[]⟩, .int .i64 0] 40) = w1 at *
  refine (Mx HZ.out.hd.1 now n b ⟨ts, tk, tu, to, ta, tb⟩ hts sd).mono ?_
  rintro e w2 ⟨rfl, hs⟩
  obtain ⟨U2, hz2⟩ := HZ.out.step hs
  have HZ2 := zd hz2
  clear hs hz2 HZ
  generalize (s.doA ⟨5, now, n, b, ⟨ts, tk, tu, to, ta, tb⟩, sd⟩).e = X at *
  have k3 := HZ2.out.b3
  have k5 := HZ2.out.b5
  have x0 := ze w2 _ 0 _ _ _ k5
  have x1 := ze w2 _ 1 _ _ _ k5
  have x2 := ze w2 _ 2 _ _ _ k5
  have f0 : w2.frozen? ⟨w.heap.size + 2, 0, none⟩ = false := gb.qa k5
  have f1 : w2.frozen? ⟨w.heap.size + 2, 1, none⟩ = false := gb.qa k5
  have f2 : w2.frozen? ⟨w.heap.size + 2, 2, none⟩ = false := gb.qa k5
  have hlt := gb.qd k5
  clear k3 k5
  go_upto_region 19 with fail
  have HZ3 := zd (HZ2.out.D2 X)
  generalize w2.setCell ⟨w.heap.size + 2, 2, none⟩ (.int .i64 X) = w3 at *
  clear x0 x1 x2 f0 f1 f2 hlt HZ2
  have hk5 := HZ3.out.b5
  have hk4 := HZ3.out.b4
  have x0 := ze w3 _ 0 _ _ _ hk5
  have x1 := ze w3 _ 1 _ _ _ hk5
  have x2 := ze w3 _ 2 _ _ _ hk5
  have y0 := ze w3 _ 0 _ _ _ hk4
  have y1 := ze w3 _ 1 _ _ _ hk4
  have y2 := ze w3 _ 2 _ _ _ hk4
  have f0 : w3.frozen? ⟨w.heap.size + 1, 0, none⟩ = false := gb.qa hk4
  have f1 : w3.frozen? ⟨w.heap.size + 1, 1, none⟩ = false := gb.qa hk4
  have f2 : w3.frozen? ⟨w.heap.size + 1, 2, none⟩ = false := gb.qa hk4
  simp only [qT] at x0 x1 x2 y0 y1 y2
  have hf := HZ3.out.fin
  have hlt := gb.qd hk4
  have hlt2 := gb.qd hk5
  have HF := zd hf
  clear hk4 hk5 hf
  go_wp2_with fail
  generalize hW : XE w3 (w.heap.size + 1) (.int .i64 0) (.string ⟨#[]⟩) (.int .i64 X) = W at *
  unfold XE at hW
  rw [hW]
  clear hW x0 x1 x2 y0 y1 y2 f0 f1 f2
  obtain ⟨hdd, hzz⟩ := HF.out
  have z0 := ze W _ 0 _ _ _ hzz
  have z1 := ze W _ 1 _ _ _ hzz
  have z2 := ze W _ 2 _ _ _ hzz
  exact zk (v := .agg #[.int .i64 0, .string ⟨#[]⟩, .int .i64 X]) (by simp [results, results10, go_sem, z0, z1, z2]) rfl ⟨rfl, hdd⟩
theorem DN (h : CHd w0 w U g s M) (now n : Int) (b ts : ByteArray) (tk : Int) (tu : Bool) (to ta tb sd : Int) :
    Calls zf 10 #[ptr g, .agg #[.int .i64 6, .int .i64 now, .int .i64 n, .string b, .string ts, .int .i64 tk, .bool tu, .int .i64 to, .int .i64 ta, .int .i64 tb, .int .u64 sd]] w (QA w0 w U g (s.doN ⟨6, now, n, b, ⟨ts, tk, tu, to, ta, tb⟩, sd⟩) ⟨0, ⟨#[]⟩, (s.doA ⟨6, now, n, b, ⟨ts, tk, tu, to, ta, tb⟩, sd⟩).e⟩ M) := by
  have hz := Jg h ⟨6, now, n, b, ⟨ts, tk, tu, to, ta, tb⟩, sd⟩
  unfold UO YY at hz
  simp only [qT] at hz
  have HZ := zd hz
  clear hz h
  go_enter func10, ntmps10
  go_wp2_with fail
  generalize ((w.alloc (.cells #[.int .i64 6, .int .i64 now, .int .i64 n, .string b, .string ts, .int .i64 tk, .bool tu, .int .i64 to, .int .i64 ta, .int .i64 tb, .int .u64 sd] 38)).alloc (.cells #[.int .i64 0, .string ⟨#[]⟩, .int .i64 0] 40)).alloc (.cells #[.int .i64 0, .string ⟨#[]⟩, .int .i64 0] 40) = w1 at *
  refine (OH HZ.out.hd.1 now n b ⟨ts, tk, tu, to, ta, tb⟩ sd).mono ?_
  rintro e w2 ⟨rfl, hs⟩
  obtain ⟨U2, hz2⟩ := HZ.out.step hs
  have HZ2 := zd hz2
  clear hs hz2 HZ
  generalize (s.doA ⟨6, now, n, b, ⟨ts, tk, tu, to, ta, tb⟩, sd⟩).e = X at *
  have k3 := HZ2.out.b3
  have k5 := HZ2.out.b5
  have x0 := ze w2 _ 0 _ _ _ k5
  have x1 := ze w2 _ 1 _ _ _ k5
  have x2 := ze w2 _ 2 _ _ _ k5
  have f0 : w2.frozen? ⟨w.heap.size + 2, 0, none⟩ = false := gb.qa k5
  have f1 : w2.frozen? ⟨w.heap.size + 2, 1, none⟩ = false := gb.qa k5
  have f2 : w2.frozen? ⟨w.heap.size + 2, 2, none⟩ = false := gb.qa k5
  have hlt := gb.qd k5
  clear k3 k5
  go_upto_region 19 with fail
  have HZ3 := zd (HZ2.out.D2 X)
  generalize w2.setCell ⟨w.heap.size + 2, 2, none⟩ (.int .i64 X) = w3 at *
  clear x0 x1 x2 f0 f1 f2 hlt HZ2
  have hk5 := HZ3.out.b5
  have hk4 := HZ3.out.b4
  have x0 := ze w3 _ 0 _ _ _ hk5
  have x1 := ze w3 _ 1 _ _ _ hk5
  have x2 := ze w3 _ 2 _ _ _ hk5
  have y0 := ze w3 _ 0 _ _ _ hk4
  have y1 := ze w3 _ 1 _ _ _ hk4
  have y2 := ze w3 _ 2 _ _ _ hk4
  have f0 : w3.frozen? ⟨w.heap.size + 1, 0, none⟩ = false := gb.qa hk4
  have f1 : w3.frozen? ⟨w.heap.size + 1, 1, none⟩ = false := gb.qa hk4
  have f2 : w3.frozen? ⟨w.heap.size + 1, 2, none⟩ = false := gb.qa hk4
  simp only [qT] at x0 x1 x2 y0 y1 y2
  have hf := HZ3.out.fin
  have hlt := gb.qd hk4
  have hlt2 := gb.qd hk5
  have HF := zd hf
  clear hk4 hk5 hf
  go_wp2_with fail
  generalize hW : XE w3 (w.heap.size + 1) (.int .i64 0) (.string ⟨#[]⟩) (.int .i64 X) = W at *
  unfold XE at hW
  rw [hW]
  clear hW x0 x1 x2 y0 y1 y2 f0 f1 f2
  obtain ⟨hdd, hzz⟩ := HF.out
  have z0 := ze W _ 0 _ _ _ hzz
  have z1 := ze W _ 1 _ _ _ hzz
  have z2 := ze W _ 2 _ _ _ hzz
  exact zk (v := .agg #[.int .i64 0, .string ⟨#[]⟩, .int .i64 X]) (by simp [results, results10, go_sem, z0, z1, z2]) rfl ⟨rfl, hdd⟩
theorem DM (h : CHd w0 w U g s M) (now n : Int) (b ts : ByteArray) (tk : Int) (tu : Bool) (to ta tb sd : Int) (hts : ts.size ≤ maxLen) :
    Calls zf 10 #[ptr g, .agg #[.int .i64 7, .int .i64 now, .int .i64 n, .string b, .string ts, .int .i64 tk, .bool tu, .int .i64 to, .int .i64 ta, .int .i64 tb, .int .u64 sd]] w (QA w0 w U g (s.doN ⟨7, now, n, b, ⟨ts, tk, tu, to, ta, tb⟩, sd⟩) ⟨0, ⟨#[]⟩, (s.doA ⟨7, now, n, b, ⟨ts, tk, tu, to, ta, tb⟩, sd⟩).e⟩ M) := by
  have hz := Jg h ⟨7, now, n, b, ⟨ts, tk, tu, to, ta, tb⟩, sd⟩
  unfold UO YY at hz
  simp only [qT] at hz
  have HZ := zd hz
  clear hz h
  go_enter func10, ntmps10
  go_wp2_with fail
  generalize ((w.alloc (.cells #[.int .i64 7, .int .i64 now, .int .i64 n, .string b, .string ts, .int .i64 tk, .bool tu, .int .i64 to, .int .i64 ta, .int .i64 tb, .int .u64 sd] 38)).alloc (.cells #[.int .i64 0, .string ⟨#[]⟩, .int .i64 0] 40)).alloc (.cells #[.int .i64 0, .string ⟨#[]⟩, .int .i64 0] 40) = w1 at *
  refine (LL HZ.out.hd.1 now n b ⟨ts, tk, tu, to, ta, tb⟩ hts sd).mono ?_
  rintro e w2 ⟨rfl, hs⟩
  obtain ⟨U2, hz2⟩ := HZ.out.step hs
  have HZ2 := zd hz2
  clear hs hz2 HZ
  generalize (s.doA ⟨7, now, n, b, ⟨ts, tk, tu, to, ta, tb⟩, sd⟩).e = X at *
  have k3 := HZ2.out.b3
  have k5 := HZ2.out.b5
  have x0 := ze w2 _ 0 _ _ _ k5
  have x1 := ze w2 _ 1 _ _ _ k5
  have x2 := ze w2 _ 2 _ _ _ k5
  have f0 : w2.frozen? ⟨w.heap.size + 2, 0, none⟩ = false := gb.qa k5
  have f1 : w2.frozen? ⟨w.heap.size + 2, 1, none⟩ = false := gb.qa k5
  have f2 : w2.frozen? ⟨w.heap.size + 2, 2, none⟩ = false := gb.qa k5
  have hlt := gb.qd k5
  clear k3 k5
  go_upto_region 19 with fail
  have HZ3 := zd (HZ2.out.D2 X)
  generalize w2.setCell ⟨w.heap.size + 2, 2, none⟩ (.int .i64 X) = w3 at *
  clear x0 x1 x2 f0 f1 f2 hlt HZ2
  have hk5 := HZ3.out.b5
  have hk4 := HZ3.out.b4
  have x0 := ze w3 _ 0 _ _ _ hk5
  have x1 := ze w3 _ 1 _ _ _ hk5
  have x2 := ze w3 _ 2 _ _ _ hk5
  have y0 := ze w3 _ 0 _ _ _ hk4
  have y1 := ze w3 _ 1 _ _ _ hk4
  have y2 := ze w3 _ 2 _ _ _ hk4
  have f0 : w3.frozen? ⟨w.heap.size + 1, 0, none⟩ = false := gb.qa hk4
  have f1 : w3.frozen? ⟨w.heap.size + 1, 1, none⟩ = false := gb.qa hk4
  have f2 : w3.frozen? ⟨w.heap.size + 1, 2, none⟩ = false := gb.qa hk4
  simp only [qT] at x0 x1 x2 y0 y1 y2
  have hf := HZ3.out.fin
  have hlt := gb.qd hk4
  have hlt2 := gb.qd hk5
  have HF := zd hf
  clear hk4 hk5 hf
  go_wp2_with fail
  generalize hW : XE w3 (w.heap.size + 1) (.int .i64 0) (.string ⟨#[]⟩) (.int .i64 X) = W at *
  unfold XE at hW
  rw [hW]
  clear hW x0 x1 x2 y0 y1 y2 f0 f1 f2
  obtain ⟨hdd, hzz⟩ := HF.out
  have z0 := ze W _ 0 _ _ _ hzz
  have z1 := ze W _ 1 _ _ _ hzz
  have z2 := ze W _ 2 _ _ _ hzz
  exact zk (v := .agg #[.int .i64 0, .string ⟨#[]⟩, .int .i64 X]) (by simp [results, results10, go_sem, z0, z1, z2]) rfl ⟨rfl, hdd⟩
theorem DL (kd : Int) (h : CHd w0 w U g s M) (now n : Int) (b ts : ByteArray) (tk : Int) (tu : Bool) (to ta tb sd : Int) (hk : ¬ (0 ≤ kd ∧ kd ≤ 7)) :
    Calls zf 10 #[ptr g, .agg #[.int .i64 kd, .int .i64 now, .int .i64 n, .string b, .string ts, .int .i64 tk, .bool tu, .int .i64 to, .int .i64 ta, .int .i64 tb, .int .u64 sd]] w (QA w0 w U g s qT M) := by
  have hz := Jg h ⟨kd, now, n, b, ⟨ts, tk, tu, to, ta, tb⟩, sd⟩
  unfold UO YY at hz
  simp only [qT] at hz
  have HZ := zd hz
  clear hz h
  have d0 : (kd == 0) = false := by simp; omega
  have d1 : (kd == 1) = false := by simp; omega
  have d2 : (kd == 2) = false := by simp; omega
  have d3 : (kd == 3) = false := by simp; omega
  have d4 : (kd == 4) = false := by simp; omega
  have d5 : (kd == 5) = false := by simp; omega
  have d6 : (kd == 6) = false := by simp; omega
  have d7 : (kd == 7) = false := by simp; omega
  clear hk
  go_enter func10, ntmps10
  go_upto_region 19 with fail
  have HZ3 := HZ
  generalize ((w.alloc (.cells #[.int .i64 kd, .int .i64 now, .int .i64 n, .string b, .string ts, .int .i64 tk, .bool tu, .int .i64 to, .int .i64 ta, .int .i64 tb, .int .u64 sd] 38)).alloc (.cells #[.int .i64 0, .string ⟨#[]⟩, .int .i64 0] 40)).alloc (.cells #[.int .i64 0, .string ⟨#[]⟩, .int .i64 0] 40) = w2 at *
  clear HZ
  have hk5 := HZ3.out.b5
  have hk4 := HZ3.out.b4
  have x0 := ze w2 _ 0 _ _ _ hk5
  have x1 := ze w2 _ 1 _ _ _ hk5
  have x2 := ze w2 _ 2 _ _ _ hk5
  have y0 := ze w2 _ 0 _ _ _ hk4
  have y1 := ze w2 _ 1 _ _ _ hk4
  have y2 := ze w2 _ 2 _ _ _ hk4
  have f0 : w2.frozen? ⟨w.heap.size + 1, 0, none⟩ = false := gb.qa hk4
  have f1 : w2.frozen? ⟨w.heap.size + 1, 1, none⟩ = false := gb.qa hk4
  have f2 : w2.frozen? ⟨w.heap.size + 1, 2, none⟩ = false := gb.qa hk4
  simp only [qT] at x0 x1 x2 y0 y1 y2
  have hf := HZ3.out.fin
  have hlt := gb.qd hk4
  have hlt2 := gb.qd hk5
  have HF := zd hf
  clear hk4 hk5 hf
  go_wp2_with fail
  generalize hW : XE w2 (w.heap.size + 1) (.int .i64 0) (.string ⟨#[]⟩) (.int .i64 0) = W at *
  unfold XE at hW
  rw [hW]
  clear hW x0 x1 x2 y0 y1 y2 f0 f1 f2
  obtain ⟨hdd, hzz⟩ := HF.out
  have z0 := ze W _ 0 _ _ _ hzz
  have z1 := ze W _ 1 _ _ _ hzz
  have z2 := ze W _ 2 _ _ _ hzz
  exact zk (v := .agg #[.int .i64 0, .string ⟨#[]⟩, .int .i64 0]) (by simp [results, results10, go_sem, z0, z1, z2]) rfl ⟨rfl, hdd⟩
theorem UP (h : CHd w0 w U g s M) (o : COp) (ht : o.t.s.size ≤ maxLen) (hM : M + (o.s.size + o.t.s.size) ≤ M') (hf : M' ≤ 400000) :
    Calls zf 10 #[ptr g, LK o] w (QA w0 w U g (s.doN o) (s.doA o) M') := by
  have up : ∀ {s' : Ch} {a a' : Ans} {M2 : Nat} {e : Ending} {W : World}, M2 ≤ M' → a' = a → QA w0 w U g s' a' M2 e W → QA w0 w U g s' a M' e W := λ hm ha hd => by
    obtain ⟨he, U', h1, h2⟩ := hd
    subst ha
    exact ⟨he, U', h1.mono hm hf, h2⟩
  obtain ⟨kd, now, n, b, ⟨ts, tk, tu, to, ta, tb⟩, sd⟩ := o
  unfold LK
  dsimp only at ht hM ⊢
  by_cases hk : 0 ≤ kd ∧ kd ≤ 7
  · have hc : kd = 0 ∨ kd = 1 ∨ kd = 2 ∨ kd = 3 ∨ kd = 4 ∨ kd = 5 ∨ kd = 6 ∨ kd = 7 := by omega
    rcases hc with rfl | rfl | rfl | rfl | rfl | rfl | rfl | rfl
    · exact (DT h now n b ts tk tu to ta tb sd (M' := M') (by omega) hf).mono λ _ _ hd => up (zg _) (Ch.Aw (Or.inl rfl)) hd
    · exact (DS h now n b ts tk tu to ta tb sd).mono λ _ _ hd => up (by omega) rfl hd
    · exact (DR h now n b ts tk tu to ta tb sd).mono λ _ _ hd => up (by omega) rfl hd
    · exact (DQ h now n b ts tk tu to ta tb sd).mono λ _ _ hd => up (by omega) rfl hd
    · exact (DP h now n b ts tk tu to ta tb sd).mono λ _ _ hd => up (by omega) (Ch.Av rfl) hd
    · exact (DO h now n b ts tk tu to ta tb sd ht).mono λ _ _ hd => up (by omega) rfl hd
    · exact (DN h now n b ts tk tu to ta tb sd).mono λ _ _ hd => up (by omega) (Ch.DH (Or.inl rfl)) hd
    · exact (DM h now n b ts tk tu to ta tb sd ht).mono λ _ _ hd => up (by omega) (Ch.DH (Or.inr rfl)) hd
  · have e := Ch.Fh (c := s) (o := ⟨kd, now, n, b, ⟨ts, tk, tu, to, ta, tb⟩, sd⟩) hk
    rw [e.1, e.2]
    exact (DL kd h now n b ts tk tu to ta tb sd hk).mono λ _ _ hd => up (by omega) rfl hd
end
end
section
open Go.RowKit gc
def vt0:Tox:=⟨⟨#[97]⟩,6,false,100,2,0⟩
def vo (k n:Int) (b:ByteArray) (t:Tox):COp:=⟨k,0,n,b,t,0⟩
def ac0:Ch:=Ch.Vf 9 0
def ac1:Ch:=ac0.doN (vo 0 0 ⟨#[97,98,99]⟩ qi)
def ac2:Ch:=ac1.doN (vo 5 0 ⟨#[]⟩ vt0)
def ac3:Ch:=ac2.doN (vo 3 0 ⟨#[]⟩ qi)
def ac4:Ch:=ac3.doN (vo 4 9 ⟨#[]⟩ qi)
def ac5:Ch:=ac4.doN (vo 3 0 ⟨#[]⟩ qi)
theorem BM:Zx qi 9=0:=by decide+kernel
theorem AF:(ac0.doA (vo 0 0 ⟨#[97,98,99]⟩ qi)).n=3:=by decide+kernel
theorem AE:(ac1.doA (vo 5 0 ⟨#[]⟩ vt0)).e=0:=by decide+kernel
theorem AD:(ac2.doA (vo 3 0 ⟨#[]⟩ qi)).n=0:=by decide+kernel
theorem AB:(ac3.doA (vo 4 9 ⟨#[]⟩ qi)).s=⟨#[97,98]⟩:=by decide+kernel
theorem AA:(ac4.doA (vo 3 0 ⟨#[]⟩ qi)).n=1:=by decide+kernel
theorem Ay:ac5.lost=1:=by decide+kernel
theorem Az:ac5.held=0:=by decide+kernel
theorem Ax:ac5.L.length -2=1:=by decide+kernel
theorem Tq (w:World) (xs:List Int) (n:Nat) (fr:Nat×Nat) (hn:xs.length=n):Lib.BytesIn (w.alloc (.cells (xs.map (Value.int .u8)).toArray 5 fr)) (some ⟨w.heap.size,0,none⟩) n xs:=λ _=>⟨_,_,rfl,λ i hi=>by
  rw[World.jw]
  simp only[Nat.zero_add,List.getElem?_toArray,List.getElem?_map]
  rw[zi,zj (by omega)]
  rfl⟩
theorem XF (w:World):Calls zf 6 #[] w λ e w'=>e=.returned (.bool true)∧Below w.heap.size w w':=by
 have kc:=λ (w:World) (C:Array Value) (n c:Nat)=>Lib.run_convert_bytes_const (P:=zf) w 49 5 C n c underlying49 underlying5
 have HN:=zd (O9 (room:=9) (now:=0) BM w)
 go_enter func6,ntmps6
 go_wp2_with fail
 refine HN.out.mono ?_
 rintro e w1 ⟨g,U,rfl,h1⟩
 have H1:=zd (show CHd w w1 U g ac0 0 from h1)
 clear h1 HN
 go_wp2_with fail
 clear kc
 have hb2:Below w1.heap.size w1 (w1.alloc (.cells #[.int .u8 97,.int .u8 98,.int .u8 99] 5 (3,4))):=(zh _ _).alloc (zg _) _
 have HP:=zd (Dt (H1.out.on hb2).1 0 0 (pb:=some ⟨w1.heap.size,0,none⟩) (nb:=3) (cb:=3) (b:=⟨#[97,98,99]⟩) qi 0 rfl (Tq w1 [97,98,99] 3 (3,4) rfl) (zg _) (M':=3) (by decide) (by decide))
 have H2:=zd (H1.out.on hb2)
 clear hb2 H1
 rw[show(ac0.doA ⟨0,0,0,⟨#[97,98,99]⟩,qi,0⟩).n=3 from AF]at HP
 refine HP.out.mono ?_
 rintro e w2 ⟨rfl,hs⟩
 obtain⟨U2,h3,_⟩:=H2.out.step hs
 have H3:=zd (show CHd w w2 U2 g ac1 3 from h3)
 clear hs h3 H2 HP
 go_wp2_with fail
 have HI:=zd (Mx H3.out.1 0 0 ⟨#[]⟩ vt0 (by decide) 0)
 rw[show(ac1.doA ⟨5,0,0,⟨#[]⟩,vt0,0⟩).e=0 from AE]at HI
 unfold Tox.v vt0 at HI
 simp only at HI
 refine HI.out.mono ?_
 rintro e w3 ⟨rfl,hs⟩
 obtain⟨U3,h4,_⟩:=H3.out.step hs
 have H4:=zd (show CHd w w3 U3 g ac2 3 from h4)
 clear hs h4 H3 HI
 go_wp2_with fail
 have HS:=zd (M4 H4.out.1 0 0 ⟨#[]⟩ qi 0)
 rw[show(ac2.doA ⟨3,0,0,⟨#[]⟩,qi,0⟩).n=0 from AD]at HS
 refine HS.out.mono ?_
 rintro e w4 ⟨rfl,hs⟩
 obtain⟨U4,h5,_⟩:=H4.out.step hs
 have H5:=zd (show CHd w w4 U4 g ac3 3 from h5)
 clear hs h5 H4 HS
 go_wp2_with fail
 have HT:=zd (LV H5.out.1 0 9 ⟨#[]⟩ qi 0)
 rw[show(ac3.doA ⟨4,0,9,⟨#[]⟩,qi,0⟩).s=⟨#[97,98]⟩from AB]at HT
 refine HT.out.mono ?_
 rintro e w5 ⟨q5,d5,rfl,hi5,hd5,hd5',hs⟩
 obtain⟨U5,h6,_⟩:=H5.out.step hs
 have H6:=zd (show CHd w w5 U5 g ac4 3 from h6)
 have cv1:(convert 49 9 (.slice q5 2 d5)).run zf w5=.ok (.string ⟨#[97,98]⟩) w5:=gc.My (d:=d5) hi5 rfl
 have hd5:2≤d5:=hd5
 clear hs h6 H5 HT hi5
 rw[show(⟨#[97,98]⟩:ByteArray).size=2 from rfl]
 go_wp2_with fail
 clear cv1
 have HS:=zd (M4 H6.out.1 0 0 ⟨#[]⟩ qi 0)
 rw[show(ac4.doA ⟨3,0,0,⟨#[]⟩,qi,0⟩).n=1 from AA]at HS
 refine HS.out.mono ?_
 rintro e w6 ⟨rfl,hs⟩
 obtain⟨U6,h7,_⟩:=H6.out.step hs
 have H7:=zd (show CHd w w6 U6 g ac5 3 from h7)
 clear hs h7 H6 HS
 go_wp2_with fail
 have hl:=Gs H7.out.1
 rw[Ay]at hl
 refine hl.mono ?_
 rintro e w' ⟨rfl,rfl⟩
 clear hl
 go_wp2_with fail
 have hh:=G5 H7.out.1
 rw[Az]at hh
 refine hh.mono ?_
 rintro e w' ⟨rfl,rfl⟩
 clear hh
 go_wp2_with fail
 have ht:=Tt H7.out.1
 unfold Vx at ht
 rw[Ax]at ht
 refine ht.mono ?_
 rintro e w8 ⟨a,d,rfl,_,hb⟩
 have HB8:=zd (H7.out.on hb).2.2
 clear ht hb H7
 go_wp2_with fail
 go_ret
 exact⟨rfl,HB8.out⟩
end
section
open Go.RowKit
namespace Ch
structure St3 (c:Ch):Prop where
 ends:Ends c
 st:0≤c.state∧c.state≤2
theorem Mf (c:Ch) (n:Nat):(c.qg n).state=c.state:=by
 induction n with
 |zero=>rfl
 |succ n ih=>exact ih
theorem Qu (c:Ch) (h:0≤c.state∧c.state≤2):0≤c.qX.state∧c.qX.state≤2:=by
 unfold qX
 split
 ·exact h
 ·exact⟨by show(0:Int)≤2;decide,by show(2:Int)≤2;decide⟩
theorem M5 (c:Ch) (now:Int) (he:Ends c) (h:0≤c.state∧c.state≤2) (h2:2≤c.L.length):0≤(c.ZA now).state∧(c.ZA now).state≤2:=by
 unfold ZA
 split
 ·exact h
 ·split
  ·exact Qu _ (by rw[(Yc c now _).2.2];exact h)
  ·show 0≤((c.Zi now).ql (c.L.length -1) (qh now)).n∧((c.Zi now).ql (c.L.length -1) (qh now)).n≤2
   have h3:=(he.Zi now h2).OZ now (by rw[VO];exact h2)
   rw[VO]at h3
   rcases h3 with e|e<;>rw[e]<;>decide
theorem Lk (c:Ch) (k:Nat) (t:Tox) (seed now:Int):(c.X9 k t seed now).state=c.state:=by
 unfold X9
 dsimp only
 split<;>rfl
theorem PI (c:Ch) (k:Nat) (now:Int):(c.ZW k now).state=c.state:=by
 have h3:(c.Xe k now).state=c.state:=by
  unfold Xe
  split
  ·show(Ch.qg _ _).state=_
   rw[Mf]
   rfl
  ·rfl
 unfold ZW
 split
 ·exact h3
 ·exact h3
theorem St3.do {c:Ch} (h:St3 c) (o:COp) (h2:2≤c.L.length):St3 (c.doN o):=by
 refine⟨h.ends.doN o h2,?_⟩
 have hs:=h.st
 unfold doN
 split
 ·split<;>exact hs
 split
 ·split<;>exact hs
 split
 ·exact Qu c hs
 split
 ·exact M5 c _ h.ends hs h2
 split
 ·split<;>exact hs
 split
 ·split
  ·exact hs
  ·rw[Lk];exact hs
 split
 ·split
  ·rw[PI];exact hs
  ·exact hs
 split
 ·split<;>exact hs
 exact hs
theorem St3.new (room now:Int):St3 (Vf room now):=⟨Ends.new room now,by show(0:Int)≤0;decide,by show(0:Int)≤2;decide⟩
theorem St3.ans {c:Ch} (h:St3 c) (o:COp) (h2:2≤c.L.length):0≤(c.doA o).n∧(o.kind=0→(c.doA o).n≤o.s.size):=by
 have hd:=(h.do o h2).st
 by_cases h0:o.kind=0
 ·unfold doA
  rw[if_pos h0]
  split
  ·exact⟨Int.le_refl _,λ _=>Int.natCast_nonneg _⟩
  ·have hb:=QK (c.at' 0).s o.now o.s
   refine⟨?_,λ _=>?_⟩
   ·show 0≤(qU (c.at' 0).s o.now o.s).2
    omega
   ·show(qU (c.at' 0).s o.now o.s).2≤o.s.size
    omega
 refine⟨?_,λ e=>absurd e h0⟩
 unfold doA
 rw[if_neg h0]
 split
 ·exact Int.le_refl _
 split
 ·exact Int.le_refl _
 split
 ·rename_i h3
  unfold doN at hd
  rw[if_neg h0,if_neg (by omega),if_neg (by omega),if_pos h3]at hd
  exact hd.1
 split
 ·split<;>exact Int.le_refl _
 split
 ·exact Int.le_refl _
 split
 ·split<;>exact Int.le_refl _
 split
 ·split<;>exact Int.le_refl _
 exact Int.le_refl _
end Ch
end
end Go.Proofs.YtfdfgnmgpgkknaaGreat
