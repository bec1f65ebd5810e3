import Derived.Test.YtfdfgnmgpgkknaaGreatMG41
import Derived.Deep.CutRange
set_option maxRecDepth 100000
set_option maxHeartbeats 8000000
open Go.Proofs.Tryz renaming prog→zf
open Go.Lib renaming hid→zd
open Go renaming bodyPost_ret→zk
open List renaming getElem?_eq_getElem→zj
open Go.RowKit.Below renaming refl→zh
open Nat renaming le_refl→zg
open Go.Calls renaming mono→zr
open Go.Proofs.Tryz
namespace Go.Proofs.YtfdfgnmgpgkknaaGreat
open Go.RowKit
attribute [local go_sem ↓] ZY ZD Xy Z3 Xx Z2 Jb XP Z4
attribute [local go_sem] Z0 ZK Xc ZF Zu Z5 ZQ Xj ZZ okC okN okS Yk
attribute [local go_sem] Ux Ut Uz Uv Uy Uu G0 GY GZ GX NL
theorem Lb {w : World} {p : Option Addr} {n c : Nat} {k : Ch} {l : List Pc} {M : Nat} (h : DAt w p n c k l) (hF : Kok k M) (now : Int) :
   Calls zf 24 #[.agg (kC p n c k), .int .i64 now] w (Nl (k.ZA now) n w) := by
 have hkn := h.ZT
 obtain ⟨W, hW, hk0, hk1, hb0, hlt⟩ := Mr w p n c k
 have hW : (w.alloc (.cells (kC p n c k) 31)).alloc (.cells #[.slice none 0 0, .int .i64 0, .int .i64 0, .bool false, .int .i64 0] 31) = W := hW
 have HK := zd hkn
 have HF := zd hF
 have hn2 := hF.fine.len
 rw [hkn] at hn2
 obtain ⟨kz, hkz⟩ : ∃ kz, k.ZA now = kz := ⟨_, rfl⟩
 rw [hkz]
 have HKZ := zd hkz
 have i0 := hk0.is (K := 5) rfl
 have c0 := hk0.cells
 have x4 : W.cell? ⟨w.heap.size, 4, none⟩ = some (.int .i64 k.state) := hk0.cell 4
 have HD0 := zd (show DAt W p n c (k.looks now 0) l from h.on hb0)
 have HA0 := zd (show XD W w.heap.size p n c (k.looks now 0) from hk0)
 have HR0 := zd hk1
 have HB0 := zd hb0
 clear h hF hk0 hk1 hb0 hkn hlt hkz
 by_cases hs : k.state = 0
 case neg =>
   have hs' : (k.state != 0) = true := by simpa using hs
   have HE := zd (show kz = k from by rw [← HKZ.out]; unfold Ch.ZA; rw [if_pos hs])
   have HZ := zd (HR0.out.row (kC p n c k))
   have HZB := zd (below_setRow HB0.out (show w.heap.size ≤ w.heap.size + 1 by omega) (kC p n c k))
   have HZD := zd ((show DAt W p n c k l from HD0.out).setRow HR0.out (by decide) (by decide) (kC p n c k))
   have i1 := HR0.out
   clear HD0 HA0 HR0 HB0 hs
   go_enter func24, ntmps24
   go_wp2_with fail
   exact zk (v := .agg (kC p n c k)) (by simp [results, results24, asAddr, qt HZ.out]) rfl ⟨p, c, l, by rw [HE.out], by rw [HE.out]; exact HZD.out, HZB.out⟩
 case pos =>
 have hs' : (k.state != 0) = false := by simpa using hs
 have HS := zd hs
 clear hs
 go_enter func24, ntmps24
 go_wp2_with fail
 clear hW i0 c0 x4 hs'
 go_loopw [5, 6] (λ bb i wr => ∃ (j : Nat) (p' : Option Addr) (c' : Nat) (l' : List Pc), j ≤ n ∧ i = .int .i64 j ∧ bb = .bool (k.Vb now j) ∧ Hid (DAt wr p' n c' (k.looks now j) l') ∧ Hid (XD wr w.heap.size p' n c' (k.looks now j)) ∧ Hid (IsC wr (w.heap.size + 1)) ∧ Hid (Below w.heap.size w wr)) (λ _ i _ => n - (intOf i).toNat)
 case atStart => exact ⟨0, p, c, l, by omega, rfl, rfl, HD0, HA0, HR0, HB0⟩
 case round =>
   clear HD0 HA0 HR0 HB0
   obtain ⟨j, p', c', l', hj, rfl, rfl, HD, HA, HR, HB⟩ := hrel
   have i0 := HA.out.is (K := 5) rfl
   have c0 := HA.out.cells
   have x0 : wr.cell? ⟨w.heap.size, 0, none⟩ = some (.slice p' n c') := HA.out.cell 0
   by_cases hlt : j < n
   · have HFj := zd (HF.out.looks now j (by rw [HK.out]; omega))
     have HD1 := zd (Y5 HD.out HFj.out.fine HFj.out.top j (by omega) now)
     have HE := zd (show k.looks now (j + 1) = (k.looks now j).onC j (Ch.qh now) from rfl)
     have HEB := zd (show k.Vb now (j + 1) = (k.Vb now j || decide (((k.looks now j).ql j (Ch.qh now)).n = 2)) from rfl)
     generalize k.looks now j = kj at *
     obtain ⟨k1, hk1⟩ : ∃ k1, kj.onC j (Ch.qh now) = k1 := ⟨_, rfl⟩
     obtain ⟨x1, hx1⟩ : ∃ x1, (kj.ql j (Ch.qh now)).n = x1 := ⟨_, rfl⟩
     rw [hk1] at HD1 HE
     rw [hx1] at HD1 HEB
     clear hk1 hx1
     go_wp2_with fail
     refine HD1.out.mono ?_
     rintro e w1 ⟨p1, c1, l1, rfl, hd1, hb1⟩
     obtain ⟨W2, hW2, i2, z2, hb2⟩ := jG w1 p1 n c1 k1
     have hW2 : w1.alloc (.cells #[.slice none 0 0, .int .i64 0, .int .i64 0, .bool false, .int .i64 0] 31) = W2 := hW2
     have hd3 := hd1.on hb2
     have hb3 := gb.seqB hb1 hb2
     obtain ⟨q4, hd4, ha4, hr4, hb4⟩ := SS HA.out HR.out HB.out hb3 hd3
     have e0 := z2.is (K := 5) rfl
     have e1 := z2.cells
     have HD4 := zd hd4
     have HA4 := zd ha4
     have HR4 := zd hr4
     have HB4 := zd hb4
     clear HD1 HD HA HR HB i0 c0 hb1 hb2 hb3 hd1 hd3 hd4 ha4 hr4 hb4 z2
     go_upto_region 8 with fail
     generalize W2.setRow w1.heap.size (kC p1 n c1 k1) = w3 at *
     go_upto_region 9 with fail
     generalize w3.setRow w.heap.size (kC p1 n c1 k1) = w4 at *
     clear q4 e0 e1
     rw [← HE.out] at HD4 HA4
     generalize k.Vb now j = bj at *
     clear hW2 i2 x0
     cases bj
     · go_wp2_with fail
       go_roundw
       case rel => exact ⟨j + 1, p1, c1, l1, by omega, by go_num, by rw [HEB.out]; rfl, HD4, HA4, HR4, HB4⟩
       case measure => simp [intOf]; omega
     · go_wp2_with fail
       go_roundw
       case rel => exact ⟨j + 1, p1, c1, l1, by omega, by go_num, by rw [HEB.out]; rfl, HD4, HA4, HR4, HB4⟩
       case measure => simp [intOf]; omega
   · obtain rfl : n = j := by omega
     have HNS := zd (show ¬ k.state ≠ 0 from by rw [HS.out]; decide)
     have HFl := zd (HF.out.looks now n (by rw [HK.out]; omega))
     have HKl := zd (show (k.looks now n).L.length = n from by rw [Ch.qy]; exact HK.out)
     cases hbr : k.Vb now n
     case true =>
       have HE9 := zd (show kz = (k.looks now n).qX from by rw [← HKZ.out]; unfold Ch.ZA; rw [if_neg HNS.out, HK.out, if_pos hbr])
       have HBK := zd (ji HD.out HFl.out)
       obtain ⟨k9, hk9⟩ : ∃ k9, (k.looks now n).qX = k9 := ⟨_, rfl⟩
       rw [hk9] at HE9 HBK
       clear hbr hk9 HFl HKl
       go_wp2_with fail
       refine HBK.out.mono ?_
       rintro e w1 ⟨p9, c9, l9, rfl, hd1, hb1⟩
       have HD9 := zd hd1
       have HR9 := zd (HR.out.on hb1)
       have HB9 := zd (HB.out.trans (hb1.mono HB.out.size))
       have i9 := HR9.out
       have HZ := zd (HR9.out.row (kC p9 n c9 k9))
       have HZB := zd (below_setRow HB9.out (show w.heap.size ≤ w.heap.size + 1 by omega) (kC p9 n c9 k9))
       have HZD := zd (HD9.out.setRow HR9.out (by decide) (by decide) (kC p9 n c9 k9))
       clear HBK HD HA HR HB hb1 hd1 i0 c0 x0
       go_wp2_with fail
       exact zk (v := .agg (kC p9 n c9 k9)) (by simp [results, results24, asAddr, qt HZ.out]) rfl ⟨p9, c9, l9, by rw [HE9.out], by rw [HE9.out]; exact HZD.out, HZB.out⟩
     case false =>
     have HEZ := zd (show kz = { (k.Zi now).onC (n - 1) (Ch.qh now) with state := ((k.Zi now).ql (n - 1) (Ch.qh now)).n } from by rw [← HKZ.out]; unfold Ch.ZA; rw [if_neg HNS.out, HK.out, if_neg (by rw [hbr]; decide)])
     have HEL := zd (show k.Zi now = ((k.looks now n).Xf now (n - 1)).ends now (n - 1) from by unfold Ch.Zi; rw [HK.out])
     clear hbr
     generalize k.looks now n = kl at *
     have HD0 := zd (show DAt wr p' n c' (kl.Xf now 0) l' from HD.out)
     have HA0 := zd (show XD wr w.heap.size p' n c' (kl.Xf now 0) from HA.out)
     have HR0 := HR
     have HB0 := HB
     clear HD HA HR HB i0 c0
     go_wp2_with fail
     clear x0
     go_loopw [9] (λ i wr => ∃ (j : Nat) (p' : Option Addr) (c' : Nat) (l' : List Pc), j + 1 ≤ n ∧ i = .int .i64 j ∧ Hid (DAt wr p' n c' (kl.Xf now j) l') ∧ Hid (XD wr w.heap.size p' n c' (kl.Xf now j)) ∧ Hid (IsC wr (w.heap.size + 1)) ∧ Hid (Below w.heap.size w wr)) (λ i _ => n - (intOf i).toNat)
     case atStart => exact ⟨0, p', c', l', by omega, rfl, HD0, HA0, HR0, HB0⟩
     case round =>
       clear HD0 HA0 HR0 HB0
       obtain ⟨j, p', c', l', hj, rfl, HD, HA, HR, HB⟩ := hrel
       have i0 := HA.out.is (K := 5) rfl
       have c0 := HA.out.cells
       have x0 : wr.cell? ⟨w.heap.size, 0, none⟩ = some (.slice p' n c') := HA.out.cell 0
       have hw1 : IntKind.i64.wrap ((j : Int) + 1) = (j : Int) + 1 := qs (by omega) (by omega)
       by_cases hlt : j + 1 < n
       · have hd1 : decide ((j : Int) + 1 < (n : Int)) = true := decide_eq_true (by omega)
         have HFj := zd (HFl.out.Xf now j (by rw [HKl.out]; omega))
         have HKj := zd (show (kl.Xf now j).L.length = n from by rw [Ch.ZS]; exact HKl.out)
         have HD1 := zd (show Calls zf 57 #[.agg (kC p' n c' (kl.Xf now j)), .int .i64 ((j : Int) + 1), .int .i64 now] wr (jC ((kl.Xf now j).onC (j + 1) (Ch.qh now)) ((kl.Xf now j).ql (j + 1) (Ch.qh now)).n n wr) from Y5 HD.out HFj.out.fine HFj.out.top (j + 1) hlt now)
         have HE := zd (show kl.Xf now (j + 1) = (kl.Xf now j).ZI now j from rfl)
         generalize kl.Xf now j = kj at *
         have HF1 := zd (HFj.out.look (j + 1) (by rw [HKj.out]; exact hlt) now)
         have HEN := zd (show ¬ (kj.ql (j + 1) (Ch.qh now)).n = 0 → kj.ZI now j = kj.onC (j + 1) (Ch.qh now) from λ h => by unfold Ch.ZI; rw [if_neg h])
         have HEY := zd (show (kj.ql (j + 1) (Ch.qh now)).n = 0 → kj.ZI now j = ((kj.onC (j + 1) (Ch.qh now)).onC j (Ch.qH now (Zt ((kj.onC (j + 1) (Ch.qh now)).at' (j + 1)).s))).onC (j + 1) (Ch.qJ now ((kj.onC (j + 1) (Ch.qh now)).ql j (Ch.qH now (Zt ((kj.onC (j + 1) (Ch.qh now)).at' (j + 1)).s))).s) from λ h => by unfold Ch.ZI; rw [if_pos h])
         have HK1 := zd (show (kj.onC (j + 1) (Ch.qh now)).L.length = n from by rw [Ch.qk]; exact HKj.out)
         obtain ⟨k1, hk1⟩ : ∃ k1, kj.onC (j + 1) (Ch.qh now) = k1 := ⟨_, rfl⟩
         obtain ⟨x1, hx1⟩ : ∃ x1, (kj.ql (j + 1) (Ch.qh now)).n = x1 := ⟨_, rfl⟩
         rw [hk1] at HD1 HEN HEY HF1 HK1
         rw [hx1] at HD1 HEN HEY
         clear hk1 hx1
         go_wp2_with fail
         refine HD1.out.mono ?_
         rintro e w1 ⟨p1, c1, l1, rfl, hd1, hb1⟩
         obtain ⟨W2, hW2, i2, z2, hb2⟩ := jG w1 p1 n c1 k1
         have hW2 : w1.alloc (.cells #[.slice none 0 0, .int .i64 0, .int .i64 0, .bool false, .int .i64 0] 31) = W2 := hW2
         have hd3 := hd1.on hb2
         have hb3 := gb.seqB hb1 hb2
         obtain ⟨q4, hd4, ha4, hr4, hb4⟩ := SS HA.out HR.out HB.out hb3 hd3
         have e0 := z2.is (K := 5) rfl
         have e1 := z2.cells
         have HD4 := zd hd4
         have HA4 := zd ha4
         have HR4 := zd hr4
         have HB4 := zd hb4
         clear HD1 HD HA HR HB i0 c0 hb1 hb2 hb3 hd1 hd3 hd4 ha4 hr4 hb4 z2
         go_upto_region 16 with fail
         generalize W2.setRow w1.heap.size (kC p1 n c1 k1) = w3 at *
         go_upto_region 17 with fail
         generalize w3.setRow w.heap.size (kC p1 n c1 k1) = w4 at *
         clear q4 e0 e1
         clear hW2 i2 x0
         by_cases hx : x1 = 0
         case neg =>
           have hx' : (x1 == 0) = false := by simpa using hx
           rw [← HEN.out hx, ← HE.out] at HD4 HA4
           clear hd1 hx
           go_wp2_with fail
           go_roundw
           case rel => exact ⟨j + 1, p1, c1, l1, by omega, by go_num, HD4, HA4, HR4, HB4⟩
           case measure => simp [intOf]; omega
         case pos =>
         have hx' : (x1 == 0) = true := by simpa using hx
         have HEQ := zd (HE.out.trans (HEY.out hx))
         clear HE HEY HEN hx
         have hlen1 : l1.length = n := HD4.out.len
         obtain ⟨b, oo, rfl, _⟩ := HD4.out.row.at (by omega)
         obtain ⟨z, hzl⟩ : ∃ z, l1[j + 1]? = some z := ⟨_, zj (by omega)⟩
         have hzx : k1.at' (j + 1) = z.x := HD4.out.part hzl
         have hok := (HF1.out.fine.ok (j + 1) (by rw [HK1.out]; exact hlt)).1
         rw [hzx] at hok HEQ
         have HFR := zd (λ W => UT z.p z.n z.c z.x.s W ⟨by have := hok.room; omega, hok.room.2⟩)
         obtain ⟨fr, hfr⟩ : ∃ fr, Zt z.x.s = fr := ⟨_, rfl⟩
         rw [hfr] at HFR HEQ
         have HDS := zd (λ W (hb : Below w4.heap.size w4 W) => jg (HD4.out.on hb) HF1.out.fine HF1.out.top j (by omega) now fr)
         have HF2 := zd (HF1.out.fine.take j (by rw [HK1.out]; omega) now fr)
         have HS2 := zd (show (k1.ql j (Ch.qH now fr)).s.size ≤ 100000 from by
           have h1 := Ch.JU (k1.at' j).s now fr
           have h2 := HF1.out.size j (by rw [HK1.out]; omega)
           have h3 : (k1.ql j (Ch.qH now fr)).s.size = (doS (k1.at' j).s (Ch.qH now fr)).2.s.size := rfl
           omega)
         obtain ⟨k2, hk2⟩ : ∃ k2, k1.onC j (Ch.qH now fr) = k2 := ⟨_, rfl⟩
         obtain ⟨a2, ha2⟩ : ∃ a2, k1.ql j (Ch.qH now fr) = a2 := ⟨_, rfl⟩
         rw [hk2, ha2] at HEQ
         rw [hk2] at HF2
         rw [ha2] at HS2
         simp only [hk2, ha2] at HDS
         have HRG := zd (show ∀ W', Below w4.heap.size w4 W' → W'.rangeAt b (oo + (j + 1) * 23) (rC z.p z.n z.c z.x.s).toList from λ W' hb => Q1 (HD4.out.TH (by omega) hzl) hb)
         have HCK := zd (show ∀ W', Hid (Below w4.heap.size w4 W') → IsC W' w.heap.size ∧ qE W' w.heap.size = kC (some ⟨b, oo, none⟩) n c1 k1 ∧ W'.cell? ⟨w.heap.size, 0, none⟩ = some (.slice (some ⟨b, oo, none⟩) n c1) ∧ MIs W' b (oo + (j + 1) * 23) ∧ Vs W' b (oo + (j + 1) * 23) = rC z.p z.n z.c z.x.s ∧ Hid (Below w4.heap.size w4 W') from λ W' hb =>
           ⟨(HA4.out.on hb.out).is rfl, (HA4.out.on hb.out).cells, (HA4.out.on hb.out).cell 0, ⟨_, _, _, _, HRG.out W' hb.out⟩, V9 (HRG.out W' hb.out), hb⟩)
         have HK0 := zd (show Hid (Below w4.heap.size w4 w4.drew) from zd (zh _ _).drew)
         have HKA := zd (show ∀ W' o, Hid (Below w4.heap.size w4 W') → Hid (Below w4.heap.size w4 (W'.alloc o)) from λ W' o h => zd (h.out.alloc h.out.size _))
         have HKB := zd (show ∀ o, Hid (Below w4.heap.size w4 (w4.alloc o).drew) from λ o => zd ((zh _ _).alloc (zg _) _).drew)
         have HKD := zd (show ∀ o o2, Hid (Below w4.heap.size w4 ((w4.alloc o).alloc o2).drew) from λ o o2 => zd (((zh _ _).alloc (zg _) _).alloc (by simp) _).drew)
         have HKR := zd (show ∀ W' g cs, w4.heap.size ≤ g → Hid (Below w4.heap.size w4 W') → Hid (Below w4.heap.size w4 (World.setRow W' g cs)) from λ W' g cs hg h => zd (below_setRow h.out hg cs))
         have ht1 : ((j : Int) + 1).toNat = j + 1 := by omega
         clear hzl hzx hok hfr hk2 ha2 HRG hlen1
         go_upto_region 18 with fail
         go_cut [12, 13] from 46 to 91 (λ v12 v13 wx => ∃ g1 g2 p2 c2 l2, v12 = .pointer (some ⟨g1, 0, none⟩) ∧ v13 = .pointer (some ⟨g2, 0, none⟩) ∧ XD wx g1 p2 n c2 k2 ∧ BAt 73 wx g2 (ql a2) ∧ DAt wx p2 n c2 k2 l2 ∧ Below w4.heap.size w4 wx)
         case first =>
           go_region_held (λ W' => IsC W' w.heap.size ∧ qE W' w.heap.size = kC (some ⟨b, oo, none⟩) n c1 k1 ∧ W'.cell? ⟨w.heap.size, 0, none⟩ = some (.slice (some ⟨b, oo, none⟩) n c1) ∧ MIs W' b (oo + (j + 1) * 23) ∧ Vs W' b (oo + (j + 1) * 23) = rC z.p z.n z.c z.x.s ∧ Hid (Below w4.heap.size w4 W'))
             ((refine HCK.out _ ?_
               go_split_ands
               first
                 | with_reducible exact HK0.out
                 | with_reducible exact HKB.out _
                 | with_reducible exact HKD.out _ _
                 | with_reducible exact hk6
                 | with_reducible exact hk5
                 | with_reducible exact HKA.out _ _ (by assumption)
                 | with_reducible exact HKR.out _ _ _ (by omega) (by assumption)))
             (first
               | (go_split_ands; go_at_call 58; (with_reducible refine zr (HFR.out _) ?_); rintro e w5 ⟨rfl, hb5⟩; have trC5 := λ q (h : IsC _ q) => h.on hb5; have trN5 := λ q (h : IsN _ q) => h.on hb5; have hk5 := Jh hb5 (by with_reducible assumption); have hz5 := hk5.out.size; (first | (have fC50 := trC5 w4.heap.size (Uz w4)) | (have fC50 := trC5 w4.heap.size (Ux w4 _)) | skip); (first | (have fC51 := trC5 (w4.heap.size + 1) (Uy w4 _)) | skip); (first | (have fN50 := trN5 w4.heap.size (Uv w4)) | (have fN50 := trN5 w4.heap.size (Ut w4 _)) | skip); (first | (have fN51 := trN5 (w4.heap.size + 1) (Uu w4 _)) | skip))
               | (go_split_ands; go_at_call 22; (with_reducible refine zr (HDS.out _ (Hid.out (by with_reducible assumption))) ?_); rintro e w6 ⟨p2, c2, l2, rfl, hd6, hb6⟩; have trC6 := λ q (h : IsC _ q) => h.on hb6; have trN6 := λ q (h : IsN _ q) => h.on hb6; have hk6 := Jh hb6 (by with_reducible assumption); have hz6 := hk6.out.size; (first | (have fC62 := trC6 w5.heap.size (Uz w5)) | (have fC62 := trC6 w5.heap.size (Ux w5 _)) | skip); (first | (have fC63 := trC6 (w5.heap.size + 1) (Uy w5 _)) | skip); (first | (have fC60 := trC6 _ fC50) | (have fC60 := trC6 _ (fC50.alloc _)) | (have fC60 := trC6 _ ((fC50.alloc _).alloc _)) | skip); (first | (have fC61 := trC6 _ fC51) | (have fC61 := trC6 _ (fC51.alloc _)) | (have fC61 := trC6 _ ((fC51.alloc _).alloc _)) | skip); (first | (have fN62 := trN6 w5.heap.size (Uv w5)) | (have fN62 := trN6 w5.heap.size (Ut w5 _)) | skip); (first | (have fN63 := trN6 (w5.heap.size + 1) (Uu w5 _)) | skip); (first | (have fN60 := trN6 _ fN50) | (have fN60 := trN6 _ (fN50.alloc _)) | (have fN60 := trN6 _ ((fN50.alloc _).alloc _)) | skip); (first | (have fN61 := trN6 _ fN51) | (have fN61 := trN6 _ (fN51.alloc _)) | (have fN61 := trN6 _ ((fN51.alloc _).alloc _)) | skip); (first | (have gC60 : IsC (w6.alloc (.cells #[.int .i64 0, .string ⟨#[]⟩, .int .i64 0] 73)) _ := fC60.alloc _) | skip); (first | (have gN60 : IsN (w6.alloc (.cells #[.slice none 0 0, .int .i64 0, .int .i64 0, .bool false, .int .i64 0] 31)) _ := fN60.alloc _) | skip); (first | (have gC61 : IsC (w6.alloc (.cells #[.int .i64 0, .string ⟨#[]⟩, .int .i64 0] 73)) _ := fC61.alloc _) | skip); (first | (have gN61 : IsN (w6.alloc (.cells #[.slice none 0 0, .int .i64 0, .int .i64 0, .bool false, .int .i64 0] 31)) _ := fN61.alloc _) | skip); (first | (have gC62 : IsC (w6.alloc (.cells #[.int .i64 0, .string ⟨#[]⟩, .int .i64 0] 73)) _ := fC62.alloc _) | skip); (first | (have gN62 : IsN (w6.alloc (.cells #[.slice none 0 0, .int .i64 0, .int .i64 0, .bool false, .int .i64 0] 31)) _ := fN62.alloc _) | skip); (first | (have gC63 : IsC (w6.alloc (.cells #[.int .i64 0, .string ⟨#[]⟩, .int .i64 0] 73)) _ := fC63.alloc _) | skip); (first | (have gN63 : IsN (w6.alloc (.cells #[.slice none 0 0, .int .i64 0, .int .i64 0, .bool false, .int .i64 0] 31)) _ := fN63.alloc _) | skip)))
           all_goals (
             go_wp2_with fail
             go_meet
             refine ⟨_, _, p2, c2, l2, rfl, rfl, Ai hd6 hk6.out ?_ ?_ ?_ ?_ ?_ a2⟩
             · first
                 | exact zh _ _
                 | exact (zh _ _).alloc (zg _) _
                 | exact ((zh _ _).alloc (zg _) _).alloc (by simp) _
             · go_simp
             · go_simp
             · omega
             · omega)
         case rest =>
           obtain ⟨g1, g2, p2, c2, l2, rfl, rfl, ha5, hn5, hd5, hb5⟩ := hcut
           have e0 := ha5.is (K := 5) rfl
           have e1 := ha5.cells
           have e2 : wc.cell? ⟨g2, 1, none⟩ = some (.string a2.s) := hn5.cell 1
           have HDP := zd (show Calls zf 22 #[.agg (kC p2 n c2 k2), .int .i64 ((j : Int) + 1), .agg #[.int .i64 1, .int .i64 now, .int .i64 0, .string a2.s, .string ⟨#[]⟩, .int .i64 0, .bool false, .int .i64 0, .int .i64 0, .int .i64 0]] wc (JS (k2.onC (j + 1) (Ch.qJ now a2.s)) (k2.ql (j + 1) (Ch.qJ now a2.s)) n wc) from jh hd5 HF2.out HF1.out.top (j + 1) hlt now a2.s HS2.out)
           rw [← HEQ.out] at HDP
           generalize k2.ql (j + 1) (Ch.qJ now a2.s) = ay at HDP
           have HA5 := zd (HA4.out.on hb5)
           have HR5 := zd (HR4.out.on hb5)
           have HB5 := zd (HB4.out.trans (hb5.mono HB4.out.size))
           clear HEQ HF2 HS2 HFR HDS HCK HK0 HKA HKB HKD HKR ha5 hn5 hd5 hb5 HD4 HA4 HR4 HB4 HF1 HK1
           go_wp2_with fail
           refine HDP.out.mono ?_
           rintro e w6 ⟨p3, c3, l3, rfl, hd6, hb6⟩
           obtain ⟨q7, hd7, ha7, hr7, hb7⟩ := SS HA5.out HR5.out HB5.out hb6 hd6
           have HD7 := zd hd7
           have HA7 := zd ha7
           have HR7 := zd hr7
           have HB7 := zd hb7
           clear HDP HA5 HR5 HB5 hd7 ha7 hr7 hb7 hb6 hd6 e0 e1 e2
           go_wp2_with fail
           go_roundw
           case rel => exact ⟨j + 1, p3, c3, l3, by omega, by go_num, HD7, HA7, HR7, HB7⟩
           case measure => simp [intOf]; omega
       · obtain rfl : j = n - 1 := by omega
         have hd1 : decide (((n - 1 : Nat) : Int) + 1 < (n : Int)) = false := decide_eq_false (by omega)
         have HFf := zd (HFl.out.Xf now (n - 1) (by rw [HKl.out]; omega))
         have HKf := zd (show (kl.Xf now (n - 1)).L.length = n from by rw [Ch.ZS]; exact HKl.out)
         generalize kl.Xf now (n - 1) = kf at *
         have HD0 := zd (show DAt wr p' n c' (kf.ends now 0) l' from HD.out)
         have HA0 := zd (show XD wr w.heap.size p' n c' (kf.ends now 0) from HA.out)
         have HR0 := HR
         have HB0 := HB
         clear HD HA HR HB i0 c0 HFl HKl
         go_wp2_with fail
         clear x0 hd1 hw1
         go_loopw [14] (λ i wr => ∃ (j : Nat) (p' : Option Addr) (c' : Nat) (l' : List Pc), j + 1 ≤ n ∧ i = .int .i64 j ∧ Hid (DAt wr p' n c' (kf.ends now j) l') ∧ Hid (XD wr w.heap.size p' n c' (kf.ends now j)) ∧ Hid (IsC wr (w.heap.size + 1)) ∧ Hid (Below w.heap.size w wr)) (λ i _ => n - (intOf i).toNat)
         case atStart => exact ⟨0, p', c', l', by omega, rfl, HD0, HA0, HR0, HB0⟩
         case round =>
           clear HD0 HA0 HR0 HB0
           obtain ⟨j, p', c', l', hj, rfl, HD, HA, HR, HB⟩ := hrel
           have i0 := HA.out.is (K := 5) rfl
           have c0 := HA.out.cells
           have x0 : wr.cell? ⟨w.heap.size, 0, none⟩ = some (.slice p' n c') := HA.out.cell 0
           have hw1 : IntKind.i64.wrap ((j : Int) + 1) = (j : Int) + 1 := qs (by omega) (by omega)
           by_cases hlt : j + 1 < n
           · have hd1 : decide ((j : Int) + 1 < (n : Int)) = true := decide_eq_true (by omega)
             have HFj := zd (HFf.out.ends now j (by rw [HKf.out]; omega))
             have HKj := zd (show (kf.ends now j).L.length = n from by rw [Ch.XV]; exact HKf.out)
             have HD1 := zd (Y5 HD.out HFj.out.fine HFj.out.top j (by omega) now)
             have HE := zd (show kf.ends now (j + 1) = (kf.ends now j).Xd now j from rfl)
             generalize kf.ends now j = kj at *
             have HF1 := zd (HFj.out.look j (by rw [HKj.out]; omega) now)
             have HEN := zd (show ¬ (kj.ql j (Ch.qh now)).n = 1 → kj.Xd now j = kj.onC j (Ch.qh now) from λ h => by unfold Ch.Xd; rw [if_neg h])
             have HEY := zd (show (kj.ql j (Ch.qh now)).n = 1 → kj.Xd now j = ((kj.onC j (Ch.qh now)).Za (j + 1)).onC (j + 1) (Ch.qA now) from λ h => by unfold Ch.Xd; rw [if_pos h])
             have HK1 := zd (show (kj.onC j (Ch.qh now)).L.length = n from by rw [Ch.qk]; exact HKj.out)
             obtain ⟨k1, hk1⟩ : ∃ k1, kj.onC j (Ch.qh now) = k1 := ⟨_, rfl⟩
             obtain ⟨x1, hx1⟩ : ∃ x1, (kj.ql j (Ch.qh now)).n = x1 := ⟨_, rfl⟩
             rw [hk1] at HD1 HEN HEY HF1 HK1
             rw [hx1] at HD1 HEN HEY
             clear hk1 hx1
             go_wp2_with fail
             refine HD1.out.mono ?_
             rintro e w1 ⟨p1, c1, l1, rfl, hd1, hb1⟩
             obtain ⟨W2, hW2, i2, z2, hb2⟩ := jG w1 p1 n c1 k1
             have hW2 : w1.alloc (.cells #[.slice none 0 0, .int .i64 0, .int .i64 0, .bool false, .int .i64 0] 31) = W2 := hW2
             have hd3 := hd1.on hb2
             have hb3 := gb.seqB hb1 hb2
             obtain ⟨q4, hd4, ha4, hr4, hb4⟩ := SS HA.out HR.out HB.out hb3 hd3
             have e0 := z2.is (K := 5) rfl
             have e1 := z2.cells
             have HD4 := zd hd4
             have HA4 := zd ha4
             have HR4 := zd hr4
             have HB4 := zd hb4
             clear HD1 HD HA HR HB i0 c0 hb1 hb2 hb3 hd1 hd3 hd4 ha4 hr4 hb4 z2
             go_upto_region 24 with fail
             generalize W2.setRow w1.heap.size (kC p1 n c1 k1) = w3 at *
             go_upto_region 25 with fail
             generalize w3.setRow w.heap.size (kC p1 n c1 k1) = w4 at *
             clear q4 e0 e1
             clear hW2 i2 x0
             by_cases hx : x1 = 1
             case neg =>
               have hx' : (x1 == 1) = false := by simpa using hx
               rw [← HEN.out hx, ← HE.out] at HD4 HA4
               clear hd1 hx
               go_wp2_with fail
               go_roundw
               case rel => exact ⟨j + 1, p1, c1, l1, by omega, by go_num, HD4, HA4, HR4, HB4⟩
               case measure => simp [intOf]; omega
             case pos =>
             have hx' : (x1 == 1) = true := by simpa using hx
             have HEQ := zd (HE.out.trans (HEY.out hx))
             have HFq := zd (HF1.out.Za (j + 1) (by rw [HK1.out]; omega))
             have HDL := zd (show Calls zf 56 #[.agg (kC p1 n c1 k1), .int .i64 ((j : Int) + 1)] w4 (Nl (k1.Za (j + 1)) n w4) from Qc HD4.out HF1.out (j + 1) (by omega))
             generalize k1.Za (j + 1) = kq at *
             have i0 := HA4.out.is (K := 5) rfl
             have c0 := HA4.out.cells
             clear HE HEY HEN hx HF1 HK1
             go_wp2_with fail
             refine HDL.out.mono ?_
             rintro e w5 ⟨p5, c5, l5, rfl, hd5, hb5⟩
             obtain ⟨q6, hd6, ha6, hr6, hb6⟩ := SS HA4.out HR4.out HB4.out hb5 hd5
             have HD6 := zd hd6
             have HA6 := zd ha6
             have HR6 := zd hr6
             have HB6 := zd hb6
             clear HDL HD4 HA4 HR4 HB4 i0 c0 hd5 hb5 hd6 ha6 hr6 hb6
             go_upto_region 27 with fail
             generalize w5.setRow w.heap.size (kC p5 n c5 kq) = w6 at *
             clear q6
             have i0 := HA6.out.is (K := 5) rfl
             have c0 := HA6.out.cells
             have HDP := zd (show Calls zf 22 #[.agg (kC p5 n c5 kq), .int .i64 ((j : Int) + 1), .agg #[.int .i64 3, .int .i64 now, .int .i64 0, .string ⟨#[]⟩, .string ⟨#[]⟩, .int .i64 0, .bool false, .int .i64 0, .int .i64 0, .int .i64 0]] w6 (JS (kq.onC (j + 1) (Ch.qA now)) (kq.ql (j + 1) (Ch.qA now)) n w6) from JD HD6.out HFq.out.fine HFq.out.top (j + 1) hlt now)
             rw [← HEQ.out] at HDP
             generalize kq.ql (j + 1) (Ch.qA now) = ay at HDP
             clear HEQ HFq
             go_wp2_with fail
             refine HDP.out.mono ?_
             rintro e w7 ⟨p3, c3, l3, rfl, hd7, hb7⟩
             obtain ⟨q8, hd8, ha8, hr8, hb8⟩ := SS HA6.out HR6.out HB6.out hb7 hd7
             have HD8 := zd hd8
             have HA8 := zd ha8
             have HR8 := zd hr8
             have HB8 := zd hb8
             clear HDP HD6 HA6 HR6 HB6 i0 c0 hd7 hb7 hd8 ha8 hr8 hb8
             go_wp2_with fail
             go_roundw
             case rel => exact ⟨j + 1, p3, c3, l3, by omega, by go_num, HD8, HA8, HR8, HB8⟩
             case measure => simp [intOf]; omega
           · obtain rfl : j = n - 1 := by omega
             have hd1 : decide (((n - 1 : Nat) : Int) + 1 < (n : Int)) = false := decide_eq_false (by omega)
             have hw2 : IntKind.i64.wrap ((n : Int) - 1) = (n : Int) - 1 := qs (by omega) (by omega)
             have HFe := zd (HFf.out.ends now (n - 1) (by rw [HKf.out]; omega))
             have hst := Y5 HD.out HFe.out.fine HFe.out.top (n - 1) (by omega) now
             rw [show ((n - 1 : Nat) : Int) = (n : Int) - 1 from by omega] at hst
             have HD1 := zd hst
             have HEZ2 := zd (HEZ.out)
             rw [HEL.out] at HEZ2
             generalize kf.ends now (n - 1) = ke at *
             obtain ⟨k1, hk1⟩ : ∃ k1, ke.onC (n - 1) (Ch.qh now) = k1 := ⟨_, rfl⟩
             obtain ⟨x1, hx1⟩ : ∃ x1, (ke.ql (n - 1) (Ch.qh now)).n = x1 := ⟨_, rfl⟩
             rw [hk1, hx1] at HD1 HEZ2
             clear hk1 hx1 hst HEZ HEL HFe HFf HKf
             go_wp2_with fail
             refine HD1.out.mono ?_
             rintro e w1 ⟨p1, c1, l1, rfl, hd1, hb1⟩
             obtain ⟨W2, hW2, i2, z2, hb2⟩ := jG w1 p1 n c1 k1
             have hW2 : w1.alloc (.cells #[.slice none 0 0, .int .i64 0, .int .i64 0, .bool false, .int .i64 0] 31) = W2 := hW2
             have hd3 := hd1.on hb2
             have hb3 := gb.seqB hb1 hb2
             obtain ⟨q4, hd4, ha4, hr4, hb4⟩ := SS HA.out HR.out HB.out hb3 hd3
             have e0 := z2.is (K := 5) rfl
             have e1 := z2.cells
             have HD4 := zd hd4
             have HA4 := zd ha4
             have HR4 := zd hr4
             have HB4 := zd hb4
             clear HD1 HD HA HR HB i0 c0 hb1 hb2 hb3 hd1 hd3 hd4 ha4 hr4 hb4 z2
             go_upto_region 29 with fail
             generalize W2.setRow w1.heap.size (kC p1 n c1 k1) = w3 at *
             go_upto_region 30 with fail
             generalize w3.setRow w.heap.size (kC p1 n c1 k1) = w4 at *
             clear q4 e0 e1
             clear hW2 i2 x0
             have f4 : w4.frozen? ⟨w.heap.size, 4, none⟩ = false := HA4.out.frz 4
             have y4 : w4.cell? ⟨w.heap.size, 4, none⟩ = some (.int .i64 k1.state) := HA4.out.cell 4
             obtain ⟨k9, hk9⟩ : ∃ k9, ({ k1 with state := x1 } : Ch) = k9 := ⟨_, rfl⟩
             have HE9 := zd (HEZ2.out.trans hk9)
             have HA9 := zd (show XD (w4.setCell ⟨w.heap.size, 4, none⟩ (.int .i64 x1)) w.heap.size p1 n c1 k9 by
               have := HA4.out.set 4 (.int .i64 x1)
               rw [Ms, hk9] at this
               exact this)
             have HD9 := zd (show DAt (w4.setCell ⟨w.heap.size, 4, none⟩ (.int .i64 x1)) p1 n c1 k9 l1 from (HD4.out.setCell (HA4.out.is (K := 5) rfl) (by decide) (by decide) 4 _).as (by rw [← hk9]))
             have HR9 := zd (HR4.out.far (show w.heap.size + 1 ≠ w.heap.size by omega) 4 (.int .i64 x1))
             have HB9 := zd (HB4.out.setCell (p := ⟨w.heap.size, 4, none⟩) (zg _) (.int .i64 x1))
             clear hk9 HEZ2 HD4 HA4 HR4 HB4
             go_upto_region 31 with fail
             generalize w4.setCell ⟨w.heap.size, 4, none⟩ (.int .i64 x1) = w9 at *
             clear f4 y4
             have i0 := HA9.out.is (K := 5) rfl
             have c0 := HA9.out.cells
             have i9 := HR9.out
             have HZ := zd (HR9.out.row (kC p1 n c1 k9))
             have HZB := zd (below_setRow HB9.out (show w.heap.size ≤ w.heap.size + 1 by omega) (kC p1 n c1 k9))
             have HZD := zd (HD9.out.setRow HR9.out (by decide) (by decide) (kC p1 n c1 k9))
             go_wp2_with fail
             exact zk (v := .agg (kC p1 n c1 k9)) (by simp [results, results24, asAddr, qt HZ.out]) rfl ⟨p1, c1, l1, by rw [HE9.out], by rw [HE9.out]; exact HZD.out, HZB.out⟩
end Go.Proofs.YtfdfgnmgpgkknaaGreat
