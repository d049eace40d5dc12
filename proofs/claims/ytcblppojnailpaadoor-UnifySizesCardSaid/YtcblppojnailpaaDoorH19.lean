/-
  UnifySizes: its walk.
-/
import Derived.Test.YtcblppojnailpaaDoorH15
import Derived.Test.YtcblppojnailpaaDoorH16
import Derived.Test.YtcblppojnailpaaDoorH17
import Derived.Test.YtcblppojnailpaaDoorH18
namespace Go.Proofs.YtcblppojnailpaaDoor
open Go Go.RowKit
set_option linter.unusedVariables false
set_option linter.unusedSimpArgs false
set_option maxHeartbeats 4000000 in
set_option maxRecDepth 100000 in
theorem unifySizes_walk (v : Value) (l : List Ux.Nod) (v2 : Value) (l2 : List Ux.Nod) (kk : Int) (w : World) (hl : RowAt 3 NodV w v l) (hl2 : RowAt 3 NodV w v2 l2) (hk : -9223372036854775808 ≤ kk ∧ kk ≤ 9223372036854775807) (htab : Lib.TabIs Tryd.prog w "internal/strconv.uint64pow10" .u64 Lib.pow10Tab) :
 Calls Tryd.prog 7 #[v, v2, .int .i64 kk] w (fun e w' => e = .returned (.bool true) ∧ Below w.heap.size w w') := by
 have HTB := Lib.hid (fun (w' : World) (hb : Below w.heap.size w w') => (Lib.tabBelow_of_tabIs htab) w' hb)
 have HLV := Lib.hid (fun (w' : World) (hb : Below w.heap.size w w') => lives_any w' ((Lib.tabBelow_of_tabIs htab) w' hb))
 clear htab
 obtain ⟨lq, lc, rfl⟩ := hl.len
 obtain ⟨lq2, lc2, rfl⟩ := hl2.len
 obtain ⟨n0, hn0⟩ : ∃ n0, n0 = l.length := ⟨_, rfl⟩
 obtain ⟨n2, hn2⟩ : ∃ n2, n2 = l2.length := ⟨_, rfl⟩
 rw [← hn0] at hl ⊢
 rw [← hn2] at hl2 ⊢
 have HN0 := Lib.hid hn0; have HN2 := Lib.hid hn2
 have HL := Lib.hid hl; have HL2 := Lib.hid hl2
 clear hl hn0 hl2 hn2
 go_enter Tryd.func7, Tryd.ntmps7
 go_wp2_with fail
 refine (HLV.out w (Below.refl _ _)).mono ?_
 rintro e w1 ⟨rfl, hb1⟩
 have HB_w1 := Lib.hid hb1
 clear hb1
 by_cases hbig0 : 9 < n0
 · have d1 : decide ((9 : Int) < (n0 : Int)) = true := by simp; omega
   go_wp2_with fail
   refine (HLV.out w1 HB_w1.out).mono ?_
   rintro e w2 ⟨rfl, hb2⟩
   have HB2 := Lib.hid (HB_w1.out.trans (hb2.mono HB_w1.out.size))
   clear hb2
   go_wp2_with fail
   go_ret
   exact ⟨rfl, HB2.out⟩
 have d1 : decide ((9 : Int) < (n0 : Int)) = false := by simp; omega
 by_cases hbig1 : 9 < n2
 · have d2 : decide ((9 : Int) < (n2 : Int)) = true := by simp; omega
   go_wp2_with fail
   refine (HLV.out w1 HB_w1.out).mono ?_
   rintro e w2 ⟨rfl, hb2⟩
   have HB2 := Lib.hid (HB_w1.out.trans (hb2.mono HB_w1.out.size))
   clear hb2
   go_wp2_with fail
   go_ret
   exact ⟨rfl, HB2.out⟩
 have d2 : decide ((9 : Int) < (n2 : Int)) = false := by simp; omega
 have HBN := Lib.hid (⟨by omega, by omega⟩ : n0 ≤ 9 ∧ n2 ≤ 9)
 go_wp2_with fail
 clear d1 d2 hbig0 hbig1
 have HM0 := Lib.hid (show l.length ≤ 9 by have := HBN.out; have := HN0.out; omega); have HM2 := Lib.hid (show l2.length ≤ 9 by have := HBN.out; have := HN2.out; omega)
 refine (typ13 l _ w1 (HL.out.mono HB_w1.out fun u x _ h => h) (by have := HM0.out; omega)).mono ?_
 rintro e w2 ⟨tv, rfl, hnew, hb⟩
 have HTYX := Lib.hid (Ux.typN_vs 13 l)
 have HOKX := Lib.hid (typN_ok 13 (l := l) (by have := HM0.out; omega))
 have HSX := Lib.hid (show (Ux.typN 13 l).1.sz ≤ 19 by have h1 := Ux.typN_sz 13 l; have h2 := Ux.typN_le 13 l; have := HM0.out; omega)
 have HKPX := Lib.hid (kap_ok (l := l) (by have := HM0.out; omega))
 obtain ⟨x, hx⟩ : ∃ t, t = (Ux.typN 13 l).1 := ⟨_, rfl⟩
 rw [← hx] at hnew HTYX HOKX HSX HKPX
 have HSMX := Lib.hid (show Ux.Small 19 6 x from ⟨HOKX.out.plain, HSX.out, HTYX.out⟩)
 obtain ⟨i7, s7, q7, m7, c7, rfl⟩ := tyP_sh hnew.now
 have hty := hnew.now
 clear hx hnew HTYX HSX
 have HB_w2 := Lib.hid (HB_w1.out.trans (hb.mono HB_w1.out.size))
 clear hb HB_w1 
 go_wp2_with fail
 have hb : Below w2.heap.size w2 (w2.alloc (.cells #[.int .i64 i7, .string s7, .slice q7 m7 c7] 30)) := ((Below.refl _ _).alloc (Nat.le_refl _) _)
 have E7_wa : Hid ((w2.alloc (.cells #[.int .i64 i7, .string s7, .slice q7 m7 c7] 30)).heap[w2.heap.size]? = some (.cells #[.int .i64 i7, .string s7, .slice q7 m7 c7] 30 (0, 0))) := Lib.hid (ent_new w2 #[.int .i64 i7, .string s7, .slice q7 m7 c7] 30)
 have HX_wa := Lib.hid (tyP_below hty hb)
 have HB_wa := Lib.hid (HB_w2.out.trans (hb.mono HB_w2.out.size))
 clear hb HB_w2 
 obtain ⟨P7, hP7⟩ : ∃ P, P = w2.heap.size := ⟨_, rfl⟩
 rw [← hP7] at E7_wa ⊢
 clear hty hP7
 generalize (w2.alloc (.cells #[.int .i64 i7, .string s7, .slice q7 m7 c7] 30)) = wa at E7_wa HX_wa HB_wa  ⊢
 refine (typ13 l2 _ wa (HL2.out.mono HB_wa.out fun u x _ h => h) (by have := HM2.out; omega)).mono ?_
 rintro e w3 ⟨tv, rfl, hnew, hb⟩
 have HTYY := Lib.hid (Ux.typN_vs 13 l2)
 have HOKY := Lib.hid (typN_ok 13 (l := l2) (by have := HM2.out; omega))
 have HSY := Lib.hid (show (Ux.typN 13 l2).1.sz ≤ 19 by have h1 := Ux.typN_sz 13 l2; have h2 := Ux.typN_le 13 l2; have := HM2.out; omega)
 have HKPY := Lib.hid (kap_ok (l := l2) (by have := HM2.out; omega))
 obtain ⟨y, hy⟩ : ∃ t, t = (Ux.typN 13 l2).1 := ⟨_, rfl⟩
 rw [← hy] at hnew HTYY HOKY HSY HKPY
 have HSMY := Lib.hid (show Ux.Small 19 6 y from ⟨HOKY.out.plain, HSY.out, HTYY.out⟩)
 obtain ⟨i9, s9, q9, m9, c9, rfl⟩ := tyP_sh hnew.now
 have hty := hnew.now
 clear hy hnew HTYY HSY
 have E7_w3 := Lib.hid (ent_below E7_wa.out hb)
 have HX_w3 := Lib.hid (tyP_below HX_wa.out hb)
 have HB_w3 := Lib.hid (HB_wa.out.trans (hb.mono HB_wa.out.size))
 clear hb HB_wa E7_wa HX_wa
 obtain ⟨KN, hKN, hKN30⟩ := k_thirty kk
 have HKN := Lib.hid hKN
 clear hKN
 go_upto_region 6 with fail
 rw [HKN.out]
 clear HKN
 have hb : Below w3.heap.size w3 (w3.alloc (.cells #[.int .i64 i9, .string s9, .slice q9 m9 c9] 30)) := ((Below.refl _ _).alloc (Nat.le_refl _) _)
 have E9_wb : Hid ((w3.alloc (.cells #[.int .i64 i9, .string s9, .slice q9 m9 c9] 30)).heap[w3.heap.size]? = some (.cells #[.int .i64 i9, .string s9, .slice q9 m9 c9] 30 (0, 0))) := Lib.hid (ent_new w3 #[.int .i64 i9, .string s9, .slice q9 m9 c9] 30)
 have HY_wb := Lib.hid (tyP_below hty hb)
 have E7_wb := Lib.hid (ent_below E7_w3.out hb)
 have HX_wb := Lib.hid (tyP_below HX_w3.out hb)
 have HB_wb := Lib.hid (HB_w3.out.trans (hb.mono HB_w3.out.size))
 clear hb HB_w3 E7_w3 HX_w3
 obtain ⟨P9, hP9⟩ : ∃ P, P = w3.heap.size := ⟨_, rfl⟩
 rw [← hP9] at E9_wb ⊢
 clear hty hP9
 generalize (w3.alloc (.cells #[.int .i64 i9, .string s9, .slice q9 m9 c9] 30)) = wb at E9_wb HY_wb HB_wb E7_wb HX_wb ⊢
 clear HM0 HM2 HBN
 have hmm := @run_makeMap Tryd.prog
 go_upto_region 7 with fail
 clear hmm
 have hbm1 : Below wb.heap.size wb (wb.alloc (.map #[] 0)) := (Below.refl _ _).alloc (Nat.le_refl _) _
 have hbm2 : Below (wb.alloc (.map #[] 0)).heap.size (wb.alloc (.map #[] 0)) ((wb.alloc (.map #[] 0)).alloc (.map #[] 0)) := (Below.refl _ _).alloc (Nat.le_refl _) _
 have hz1 : (wb.alloc (.map #[] 0)).heap.size = wb.heap.size + 1 := by simp
 have hba : Below wb.heap.size wb ((wb.alloc (.map #[] 0)).alloc (.map #[] 0)) := (hbm1.trans (hbm2.mono (by omega)))
 have E7_m := Lib.hid (ent_below E7_wb.out hba); have E9_m := Lib.hid (ent_below E9_wb.out hba)
 have HX_m := Lib.hid (tyP_below HX_wb.out hba); have HY_m := Lib.hid (tyP_below HY_wb.out hba)
 have HB_m := Lib.hid (HB_wb.out.trans (hba.mono HB_wb.out.size))
 have S1_m : Hid (SubC 0 ((wb.alloc (.map #[] 0)).alloc (.map #[] 0)) wb.heap.size (fun _ => none)) := Lib.hid ((SubC.new wb).below hbm2)
 have S2_m : Hid (SubC 0 ((wb.alloc (.map #[] 0)).alloc (.map #[] 0)) (wb.heap.size + 1) (fun _ => none)) := Lib.hid (by have h := (SubC.new (wb.alloc (.map #[] 0))); rw [hz1] at h; exact h)
 have HLO := Lib.hid (show w.heap.size ≤ wb.heap.size ∧ w.heap.size ≤ wb.heap.size + 1 ∧ wb.heap.size ≠ wb.heap.size + 1 from ⟨HB_wb.out.size, by have := HB_wb.out.size; omega, by omega⟩)
 obtain ⟨sb, hsb⟩ : ∃ b, b = wb.heap.size := ⟨_, rfl⟩
 obtain ⟨qb, hqb⟩ : ∃ b, b = wb.heap.size + 1 := ⟨_, rfl⟩
 rw [← hqb] at S2_m HLO ⊢
 rw [← hsb] at S1_m HLO ⊢
 clear hz1 hbm1 hbm2 hba hsb hqb E7_wb E9_wb HX_wb HY_wb HB_wb
 generalize ((wb.alloc (.map #[] 0)).alloc (.map #[] 0)) = wm at E7_m E9_m HX_m HY_m HB_m S1_m S2_m ⊢
 have t70 := ent_cell E7_m.out 0 _ rfl
 have t71 := ent_cell E7_m.out 1 _ rfl
 have t72 := ent_cell E7_m.out 2 _ rfl
 have t90 := ent_cell E9_m.out 0 _ rfl
 have t91 := ent_cell E9_m.out 1 _ rfl
 have t92 := ent_cell E9_m.out 2 _ rfl
 go_wp2_with fail
 clear t70 t71 t72 t90 t91 t92
 refine (unify2_any 0 80 _ fine_none (fun n h => absurd rfl h) sb x y _ _ wm S1_m.out HX_m.out HY_m.out (by have := HSMX.out.2.1; have := HSMY.out.2.1; omega) (by omega)).mono ?_
 rintro e wn ⟨er, rfl, hc, hr⟩
 have HMP := Lib.hid S1_m.out.p.map
 have E7_n := Lib.hid (ent_chg E7_m.out hc (fun e => by obtain ⟨es, k, h⟩ := HMP.out; rw [← e, E7_m.out] at h; cases h))
 have HX_n := Lib.hid (tyP_chg HMP.out hc HX_m.out)
 have E9_n := Lib.hid (ent_chg E9_m.out hc (fun e => by obtain ⟨es, k, h⟩ := HMP.out; rw [← e, E9_m.out] at h; cases h))
 have HY_n := Lib.hid (tyP_chg HMP.out hc HY_m.out)
 have HB_n := Lib.hid (HB_m.out.trans (hc.below HB_m.out.size fun k hk => by rw [hk]; exact HLO.out.1))
 have S2_n := Lib.hid (S2_m.out.chg HMP.out hc HLO.out.2.2.symm)
 have R1_n := Lib.hid hr
 clear hc hr HMP S1_m S2_m E7_m E9_m HX_m HY_m HB_m
 have t70 := ent_cell E7_n.out 0 _ rfl
 have t71 := ent_cell E7_n.out 1 _ rfl
 have t72 := ent_cell E7_n.out 2 _ rfl
 have t90 := ent_cell E9_n.out 0 _ rfl
 have t91 := ent_cell E9_n.out 1 _ rfl
 have t92 := ent_cell E9_n.out 2 _ rfl
 go_wp2_with fail
 clear t70 t71 t72 t90 t91 t92
 refine (within1_any 80 KN qb x y _ _ wn S2_n.out HX_n.out HY_n.out (by have := HSMX.out.2.1; have := HSMY.out.2.1; omega) (by omega) (by omega)).mono ?_
 rintro e wo ⟨er2, rfl, hc, hr⟩
 have HMP := Lib.hid S2_n.out.p.map
 have E7_o := Lib.hid (ent_chg E7_n.out hc (fun e => by obtain ⟨es, k, h⟩ := HMP.out; rw [← e, E7_n.out] at h; cases h))
 have HX_o := Lib.hid (tyP_chg HMP.out hc HX_n.out)
 have E9_o := Lib.hid (ent_chg E9_n.out hc (fun e => by obtain ⟨es, k, h⟩ := HMP.out; rw [← e, E9_n.out] at h; cases h))
 have HY_o := Lib.hid (tyP_chg HMP.out hc HY_n.out)
 have HB_o := Lib.hid (HB_n.out.trans (hc.below HB_n.out.size fun k hk => by rw [hk]; exact HLO.out.2.1))
 have R1_o := Lib.hid (R1_n.out.sub fun g h => h.chg HMP.out hc HLO.out.2.2)
 have R2_o := Lib.hid hr
 clear hc hr HMP S2_n R1_n E7_n E9_n HX_n HY_n HB_n
 rcases R1_o.out with ⟨rfl, f1, hm1, hs1⟩ | ⟨rfl, hn1, hs1⟩
 rotate_left
 · rcases R2_o.out with ⟨rfl, f2, hm2, hs2, hl2⟩ | ⟨rfl, hs2, hw2⟩
   · exfalso
     obtain ⟨σ, hσ⟩ := hm2.1.sol
     exact hn1 σ (fun n t h => by cases h) ((hm2.2 σ).1 hσ).2
   · have S2_o := Lib.hid hs2
     clear hs1 hs2 hn1 hw2 R1_o R2_o
     go_wp2_with fail
     refine (of2_any [73, 110, 116] _ [] wo (.inl ⟨rfl, none, 0, rfl⟩) (by decide)).mono ?_
     rintro e wp ⟨rr, rfl, hb, hr⟩
     have S2_p := Lib.hid (S2_o.out.below hb)
     have HI := Lib.hid hr
     have HB_p := Lib.hid (HB_o.out.trans (hb.mono HB_o.out.size))
     clear hb hr S2_o
     have HONE : Hid (((min ((Ux.Ty.a [73, 110, 116] []).app Ux.Ty.v).sz (5 + 1) : Nat) : Int) = 1) := Lib.hid (by rw [Ux.app_id, Ux.sz_a]; rfl)
     go_wp2_with fail
     refine (size2_any fine_none (N := Ux.Ty.v) (fun n => rfl) (fun n h => absurd rfl h) 5 S2_p.out HI.out (by rw [Ux.sz_a]; simp) (by omega)).mono ?_
     rintro e wq ⟨rfl, hb⟩
     rw [HONE.out]
     have HB_q := Lib.hid (HB_p.out.trans (hb.mono HB_p.out.size))
     clear hb
     go_wp2_with fail
     go_ret
     exact ⟨rfl, HB_q.out⟩
 have S1_o := Lib.hid hs1; have HM1 := Lib.hid hm1
 obtain ⟨N1, hN1⟩ := hm1.1.norm
 have HN1 := Lib.hid hN1
 obtain ⟨k0, r0, hr0, hstep, _⟩ := Ux.PSt.nil.step HSMX.out HSMY.out
 obtain ⟨L2, hr1, hps⟩ := hstep f1 hm1
 subst hr1
 have HR0 := Lib.hid hr0; have HPS := Lib.hid hps
 obtain ⟨TT, hTT⟩ : ∃ T, T = (x.app N1).sz := ⟨_, rfl⟩
 have HT1 := Lib.hid hTT
 have HT1y := Lib.hid (show TT = (y.app N1).sz by rw [hTT, Ux.made_one hm1 hN1])
 have HT2 := Lib.hid (show (Ux.applyL L2 x).sz = TT by rw [hTT, hps.both.sz hN1 x])
 have hT5 : TT ≤ 500 := by rw [hTT]; exact made_big hm1 hN1 HKPX.out HKPY.out HSMX.out.2.2 HSMY.out.2.2
 have HT3 : Hid (((Ux.sizeU L2 1000 x : Nat) : Int) = (TT : Int)) := Lib.hid (by unfold Ux.sizeU; rw [HT2.out, Ux.cut_small (by omega)])
 have HP2 : Hid (((min ((Ux.Ty.a [80] [x, x]).app N1).sz (1000 + 1) : Nat) : Int) = 1 + 2 * (TT : Int)) := Lib.hid (by
  have : ((Ux.Ty.a [80] [x, x]).app N1).sz = 1 + 2 * TT := by rw [Ux.app_a, Ux.sz_a]; simp [← hTT]; omega
  rw [this]; omega)
 obtain ⟨KK, hKK⟩ : ∃ k, k = min TT (KN + 1) := ⟨_, rfl⟩
 have HKK := Lib.hid hKK
 have HKC := Lib.hid (show Ux.sizeU L2 KN x = KK by unfold Ux.sizeU; rw [HT2.out, cut_min, hKK])
 have hT50 : (TT : Int) ≤ 500 := by omega
 have hKKb : KK ≤ 500 := by omega
 have HDM1 := Lib.hid (hps.dom)
 clear hs1 hm1 hN1 hr0 hstep hps hTT hKK hT5
 have t70 := ent_cell E7_o.out 0 _ rfl
 have t71 := ent_cell E7_o.out 1 _ rfl
 have t72 := ent_cell E7_o.out 2 _ rfl
 have t90 := ent_cell E9_o.out 0 _ rfl
 have t91 := ent_cell E9_o.out 1 _ rfl
 have t92 := ent_cell E9_o.out 2 _ rfl
 go_wp2_with fail
 clear t70 t71 t72 t90 t91 t92
 refine (refUnify_any Ux.sOk19 k0 [] x y _ _ _ _ wo HR0.out Ux.PSt.nil.inv Ux.PSt.nil.tri ⟨x, HSMX.out.2.1, rfl⟩ ⟨y, HSMY.out.2.1, rfl⟩ HSMX.out.v6 HSMY.out.v6 (.inl ⟨rfl, none, 0, rfl⟩) HX_o.out HY_o.out).mono ?_
 rintro e wp hpost
 obtain ⟨lv2, rfl, hb, hM⟩ := RUPost.got hpost
 clear hpost
 have M_p := Lib.hid hM
 have E7_p := Lib.hid (ent_below E7_o.out hb)
 have HX_p := Lib.hid (tyP_below HX_o.out hb)
 have E9_p := Lib.hid (ent_below E9_o.out hb)
 have HY_p := Lib.hid (tyP_below HY_o.out hb)
 have S1_p := Lib.hid (S1_o.out.below hb)
 have R2_p := Lib.hid (R2_o.out.below hb)
 have HB_p := Lib.hid (HB_o.out.trans (hb.mono HB_o.out.size))
 clear hb HB_o E7_o HX_o E9_o HY_o S1_o R2_o
 clear hM R1_o
 have t70 := ent_cell E7_p.out 0 _ rfl
 have t71 := ent_cell E7_p.out 1 _ rfl
 have t72 := ent_cell E7_p.out 2 _ rfl
 have t90 := ent_cell E9_p.out 0 _ rfl
 have t91 := ent_cell E9_p.out 1 _ rfl
 have t92 := ent_cell E9_p.out 2 _ rfl
 go_wp2_with fail
 clear t70 t71 t72 t90 t91 t92
 refine (refSize_any HPS.out.inv.solved x KN _ _ wp M_p.out HX_p.out (by omega)).mono ?_
 rintro e we ⟨rfl, hb⟩
 rw [HKC.out]
 have E7_e := Lib.hid (ent_below E7_p.out hb)
 have HX_e := Lib.hid (tyP_below HX_p.out hb)
 have E9_e := Lib.hid (ent_below E9_p.out hb)
 have HY_e := Lib.hid (tyP_below HY_p.out hb)
 have S1_e := Lib.hid (S1_p.out.below hb)
 have R2_e := Lib.hid (R2_p.out.below hb)
 have M_e := Lib.hid (pairs_below M_p.out hb)
 have HB_e := Lib.hid (HB_p.out.trans (hb.mono HB_p.out.size))
 clear hb HB_p E7_p HX_p E9_p HY_p S1_p R2_p M_p
 have HDM := Lib.hid (⟨HDM1.out, HDM1.out⟩ : (∀ n, f1 n ≠ none → n < 1000000) ∧ ∀ n, f1 n ≠ none → n < 1000000)
 go_upto_region 13 with fail
 have hb : Below we.heap.size we we.drew := (Below.refl _ _).drew
 have E7_d0 := Lib.hid (ent_below E7_e.out hb)
 have HX_d0 := Lib.hid (tyP_below HX_e.out hb)
 have E9_d0 := Lib.hid (ent_below E9_e.out hb)
 have HY_d0 := Lib.hid (tyP_below HY_e.out hb)
 have S1_d0 := Lib.hid (S1_e.out.below hb)
 have R2_d0 := Lib.hid (R2_e.out.below hb)
 have M_d0 := Lib.hid (pairs_below M_e.out hb)
 have HB_d0 := Lib.hid (HB_e.out.trans (hb.mono HB_e.out.size))
 clear hb HB_e E7_e HX_e E9_e HY_e S1_e R2_e M_e
 refine wp_region_held_drew (S := fun (u : World) => u.heap[P7]? = some (.cells #[.int .i64 i7, .string s7, .slice q7 m7 c7] 30 (0, 0)) ∧ u.heap[P9]? = some (.cells #[.int .i64 i9, .string s9, .slice q9 m9 c9] 30 (0, 0))) (by kernel_rfl) (⟨E7_d0.out, E9_d0.out⟩) (fun hHeld => ?_)
 generalize we.drew = wd0 at HB_d0 E7_d0 HX_d0 E9_d0 HY_d0 S1_d0 R2_d0 M_d0 hHeld ⊢
 refine wpAnyH_take (i := 0) (v := .bool true) rfl (by kernel_rfl) (by kernel_rfl) (by kernel_rfl) (fun _ _ _ h => h) (Or.inl ⟨by rfl, fun w' hSw => by go_simp⟩) hHeld ?_
 refine wpAnyH_take (i := 1) (v := .bool false) rfl (by kernel_rfl) (by kernel_rfl) (by kernel_rfl) (fun _ _ _ h => h) (Or.inl ⟨by rfl, fun w' hSw => by go_simp⟩) hHeld ?_
 refine wpAnyH_take (i := 2) (v := .bool false) rfl (by kernel_rfl) (by kernel_rfl) (by kernel_rfl) (fun _ _ _ h => h) (Or.inl ⟨by rfl, fun w' hSw => by go_simp⟩) hHeld ?_
 refine wpAnyH_take (i := 3) (v := .map (some sb)) rfl (by kernel_rfl) (by kernel_rfl) (by kernel_rfl) (fun _ _ _ h => h) (Or.inl ⟨by go_simp, fun w' hSw => by go_simp⟩) hHeld ?_
 simp only [Act.put, List.getElem_toArray, List.getElem_cons_succ, List.getElem_cons_zero, List.setIfInBounds_toArray, List.set_cons_zero, List.set_cons_succ]
 refine wpAnyH_take (i := 4) (v := .agg #[.int .i64 i7, .string s7, .slice q7 m7 c7]) rfl (by kernel_rfl) (by kernel_rfl) (by kernel_rfl) (fun _ _ _ h => h) (Or.inl ⟨by go_simp, fun w' hSw => by have h0 := ent_cell hSw.1 0 _ rfl; have h1 := ent_cell hSw.1 1 _ rfl; have h2 := ent_cell hSw.1 2 _ rfl; go_simp⟩) hHeld ?_
 simp only [Act.put, List.getElem_toArray, List.getElem_cons_succ, List.getElem_cons_zero, List.setIfInBounds_toArray, List.set_cons_zero, List.set_cons_succ]
 refine wpAnyH_take (i := 5) (v := .int .i64 KN) rfl (by kernel_rfl) (by kernel_rfl) (by kernel_rfl) (fun _ _ _ h => h) (Or.inl ⟨by go_simp, fun w' hSw => by go_simp⟩) hHeld ?_
 simp only [Act.put, List.getElem_toArray, List.getElem_cons_succ, List.getElem_cons_zero, List.setIfInBounds_toArray, List.set_cons_zero, List.set_cons_succ]
 refine wpAnyH_take (i := 7) (v := .int .i64 KK) rfl (by kernel_rfl) (by kernel_rfl) (by kernel_rfl) (fun _ _ _ h => h) (Or.inl ⟨by go_simp, fun w' hSw => by go_simp⟩) hHeld ?_
 simp only [Act.put, List.getElem_toArray, List.getElem_cons_succ, List.getElem_cons_zero, List.setIfInBounds_toArray, List.set_cons_zero, List.set_cons_succ]
 try simp only [Act.put, List.getElem_toArray, List.getElem_cons_succ, List.getElem_cons_zero, List.setIfInBounds_toArray, List.set_cons_zero, List.set_cons_succ]
 refine wpAnyH_ready (rs := [6]) (by kernel_rfl) (by simp) ?_
 refine AllReadyH.cons rfl (fun K hK => ?_) AllReadyH.nil
 go_simp
 refine (size2_any HM1.out.1 HN1.out HDM.out.1 KN S1_d0.out HX_d0.out (by have := HSMX.out.2.1; have := HSMY.out.2.1; omega) (by omega)).mono ?_
 rintro e wd1 ⟨rfl, hb⟩
 rw [← HT1.out, ← HKK.out]
 have E7_d1 := Lib.hid (ent_below E7_d0.out hb)
 have HX_d1 := Lib.hid (tyP_below HX_d0.out hb)
 have E9_d1 := Lib.hid (ent_below E9_d0.out hb)
 have HY_d1 := Lib.hid (tyP_below HY_d0.out hb)
 have S1_d1 := Lib.hid (S1_d0.out.below hb)
 have R2_d1 := Lib.hid (R2_d0.out.below hb)
 have M_d1 := Lib.hid (pairs_below M_d0.out hb)
 have HB_d1 := Lib.hid (HB_d0.out.trans (hb.mono HB_d0.out.size))
 clear hb HB_d0 E7_d0 HX_d0 E9_d0 HY_d0 S1_d0 R2_d0 M_d0
 refine hK.out _ _ ⟨E7_d1.out, E9_d1.out⟩ (fun hHeld => ?_)
 clear hK K
 refine wpAnyH_take (i := 8) (v := .bool false) rfl (by kernel_rfl) (by kernel_rfl) (by kernel_rfl) (fun _ _ _ h => h) (Or.inl ⟨by go_simp, fun w' hSw => by go_simp⟩) hHeld ?_
 simp only [Act.put, List.getElem_toArray, List.getElem_cons_succ, List.getElem_cons_zero, List.setIfInBounds_toArray, List.set_cons_zero, List.set_cons_succ]
 refine wpAnyH_take (i := 9) (v := .bool false) rfl (by kernel_rfl) (by kernel_rfl) (by kernel_rfl) (fun _ _ _ h => h) (Or.inl ⟨by rfl, fun w' hSw => by go_simp⟩) hHeld ?_
 simp only [Act.put, List.getElem_toArray, List.getElem_cons_succ, List.getElem_cons_zero, List.setIfInBounds_toArray, List.set_cons_zero, List.set_cons_succ]
 refine wpAnyH_take (i := 10) (v := .bool false) rfl (by kernel_rfl) (by kernel_rfl) (by kernel_rfl) (fun _ _ _ h => h) (Or.inl ⟨by rfl, fun w' hSw => by go_simp⟩) hHeld ?_
 simp only [Act.put, List.getElem_toArray, List.getElem_cons_succ, List.getElem_cons_zero, List.setIfInBounds_toArray, List.set_cons_zero, List.set_cons_succ]
 refine wpAnyH_take (i := 11) (v := .map (some sb)) rfl (by kernel_rfl) (by kernel_rfl) (by kernel_rfl) (fun _ _ _ h => h) (Or.inl ⟨by go_simp, fun w' hSw => by go_simp⟩) hHeld ?_
 simp only [Act.put, List.getElem_toArray, List.getElem_cons_succ, List.getElem_cons_zero, List.setIfInBounds_toArray, List.set_cons_zero, List.set_cons_succ]
 refine wpAnyH_take (i := 12) (v := .agg #[.int .i64 i9, .string s9, .slice q9 m9 c9]) rfl (by kernel_rfl) (by kernel_rfl) (by kernel_rfl) (fun _ _ _ h => h) (Or.inl ⟨by go_simp, fun w' hSw => by have h0 := ent_cell hSw.2 0 _ rfl; have h1 := ent_cell hSw.2 1 _ rfl; have h2 := ent_cell hSw.2 2 _ rfl; go_simp⟩) hHeld ?_
 simp only [Act.put, List.getElem_toArray, List.getElem_cons_succ, List.getElem_cons_zero, List.setIfInBounds_toArray, List.set_cons_zero, List.set_cons_succ]
 refine wpAnyH_take (i := 13) (v := .int .i64 KN) rfl (by kernel_rfl) (by kernel_rfl) (by kernel_rfl) (fun _ _ _ h => h) (Or.inl ⟨by go_simp, fun w' hSw => by go_simp⟩) hHeld ?_
 simp only [Act.put, List.getElem_toArray, List.getElem_cons_succ, List.getElem_cons_zero, List.setIfInBounds_toArray, List.set_cons_zero, List.set_cons_succ]
 refine wpAnyH_take (i := 15) (v := .int .i64 KK) rfl (by kernel_rfl) (by kernel_rfl) (by kernel_rfl) (fun _ _ _ h => h) (Or.inl ⟨by go_simp, fun w' hSw => by go_simp⟩) hHeld ?_
 simp only [Act.put, List.getElem_toArray, List.getElem_cons_succ, List.getElem_cons_zero, List.setIfInBounds_toArray, List.set_cons_zero, List.set_cons_succ]
 refine wpAnyH_ready (rs := [14]) (by kernel_rfl) (by simp) ?_
 refine AllReadyH.cons rfl (fun K hK => ?_) AllReadyH.nil
 go_simp
 refine (size2_any HM1.out.1 HN1.out HDM.out.1 KN S1_d1.out HY_d1.out (by have := HSMX.out.2.1; have := HSMY.out.2.1; omega) (by omega)).mono ?_
 rintro e wd2 ⟨rfl, hb⟩
 rw [← HT1y.out, ← HKK.out]
 have E7_d2 := Lib.hid (ent_below E7_d1.out hb)
 have HX_d2 := Lib.hid (tyP_below HX_d1.out hb)
 have E9_d2 := Lib.hid (ent_below E9_d1.out hb)
 have HY_d2 := Lib.hid (tyP_below HY_d1.out hb)
 have S1_d2 := Lib.hid (S1_d1.out.below hb)
 have R2_d2 := Lib.hid (R2_d1.out.below hb)
 have M_d2 := Lib.hid (pairs_below M_d1.out hb)
 have HB_d2 := Lib.hid (HB_d1.out.trans (hb.mono HB_d1.out.size))
 clear hb HB_d1 E7_d1 HX_d1 E9_d1 HY_d1 S1_d1 R2_d1 M_d1
 refine hK.out _ _ ⟨E7_d2.out, E9_d2.out⟩ (fun hHeld => ?_)
 clear hK K
 refine wpAnyH_take (i := 16) (v := .bool false) rfl (by kernel_rfl) (by kernel_rfl) (by kernel_rfl) (fun _ _ _ h => h) (Or.inl ⟨by go_simp, fun w' hSw => by go_simp⟩) hHeld ?_
 simp only [Act.put, List.getElem_toArray, List.getElem_cons_succ, List.getElem_cons_zero, List.setIfInBounds_toArray, List.set_cons_zero, List.set_cons_succ]
 refine wpAnyH_take (i := 17) (v := .bool false) rfl (by kernel_rfl) (by kernel_rfl) (by kernel_rfl) (fun _ _ _ h => h) (Or.inl ⟨by rfl, fun w' hSw => by go_simp⟩) hHeld ?_
 simp only [Act.put, List.getElem_toArray, List.getElem_cons_succ, List.getElem_cons_zero, List.setIfInBounds_toArray, List.set_cons_zero, List.set_cons_succ]
 refine wpAnyH_take (i := 18) (v := .bool false) rfl (by kernel_rfl) (by kernel_rfl) (by kernel_rfl) (fun _ _ _ h => h) (Or.inl ⟨by rfl, fun w' hSw => by go_simp⟩) hHeld ?_
 simp only [Act.put, List.getElem_toArray, List.getElem_cons_succ, List.getElem_cons_zero, List.setIfInBounds_toArray, List.set_cons_zero, List.set_cons_succ]
 refine wpAnyH_take (i := 19) (v := .map (some sb)) rfl (by kernel_rfl) (by kernel_rfl) (by kernel_rfl) (fun _ _ _ h => h) (Or.inl ⟨by go_simp, fun w' hSw => by go_simp⟩) hHeld ?_
 simp only [Act.put, List.getElem_toArray, List.getElem_cons_succ, List.getElem_cons_zero, List.setIfInBounds_toArray, List.set_cons_zero, List.set_cons_succ]
 refine wpAnyH_take (i := 20) (v := .agg #[.int .i64 i7, .string s7, .slice q7 m7 c7]) rfl (by kernel_rfl) (by kernel_rfl) (by kernel_rfl) (fun _ _ _ h => h) (Or.inl ⟨by go_simp, fun w' hSw => by have h0 := ent_cell hSw.1 0 _ rfl; have h1 := ent_cell hSw.1 1 _ rfl; have h2 := ent_cell hSw.1 2 _ rfl; go_simp⟩) hHeld ?_
 simp only [Act.put, List.getElem_toArray, List.getElem_cons_succ, List.getElem_cons_zero, List.setIfInBounds_toArray, List.set_cons_zero, List.set_cons_succ]
 refine wpAnyH_take (i := 21) (v := .agg #[.int .i64 i7, .string s7, .slice q7 m7 c7]) rfl (by kernel_rfl) (by kernel_rfl) (by kernel_rfl) (fun _ _ _ h => h) (Or.inl ⟨by go_simp, fun w' hSw => by have h0 := ent_cell hSw.1 0 _ rfl; have h1 := ent_cell hSw.1 1 _ rfl; have h2 := ent_cell hSw.1 2 _ rfl; go_simp⟩) hHeld ?_
 simp only [Act.put, List.getElem_toArray, List.getElem_cons_succ, List.getElem_cons_zero, List.setIfInBounds_toArray, List.set_cons_zero, List.set_cons_succ]
 refine wpAnyH_take (i := 25) (v := lv2) rfl (by kernel_rfl) (by kernel_rfl) (by kernel_rfl) (fun _ _ _ h => h) (Or.inl ⟨by go_simp, fun w' hSw => by go_simp⟩) hHeld ?_
 simp only [Act.put, List.getElem_toArray, List.getElem_cons_succ, List.getElem_cons_zero, List.setIfInBounds_toArray, List.set_cons_zero, List.set_cons_succ]
 refine wpAnyH_take (i := 26) (v := .agg #[.int .i64 i7, .string s7, .slice q7 m7 c7]) rfl (by kernel_rfl) (by kernel_rfl) (by kernel_rfl) (fun _ _ _ h => h) (Or.inl ⟨by go_simp, fun w' hSw => by have h0 := ent_cell hSw.1 0 _ rfl; have h1 := ent_cell hSw.1 1 _ rfl; have h2 := ent_cell hSw.1 2 _ rfl; go_simp⟩) hHeld ?_
 simp only [Act.put, List.getElem_toArray, List.getElem_cons_succ, List.getElem_cons_zero, List.setIfInBounds_toArray, List.set_cons_zero, List.set_cons_succ]
 refine wpAnyH_ready (rs := [22]) (by kernel_rfl) (by simp) ?_
 refine AllReadyH.cons rfl (fun K hK => ?_) AllReadyH.nil
 go_simp
 have hb : Below wd2.heap.size wd2 (wd2.alloc (.cells #[.int .i64 i7, .string s7, .slice q7 m7 c7, .int .i64 i7, .string s7, .slice q7 m7 c7] 30)) := (Below.refl _ _).alloc (Nat.le_refl _) _
 have B_d3 : Hid (RowAt 3 (TyP (wd2.alloc (.cells #[.int .i64 i7, .string s7, .slice q7 m7 c7, .int .i64 i7, .string s7, .slice q7 m7 c7] 30))) (wd2.alloc (.cells #[.int .i64 i7, .string s7, .slice q7 m7 c7, .int .i64 i7, .string s7, .slice q7 m7 c7] 30)) (.slice (some ⟨wd2.heap.size, 0, none⟩) 2 2) [x, x]) := Lib.hid (row_two (ent_new wd2 #[.int .i64 i7, .string s7, .slice q7 m7 c7, .int .i64 i7, .string s7, .slice q7 m7 c7] 30) (tyP_below HX_d2.out hb) (tyP_below HX_d2.out hb))
 have E7_d3 := Lib.hid (ent_below E7_d2.out hb)
 have HX_d3 := Lib.hid (tyP_below HX_d2.out hb)
 have E9_d3 := Lib.hid (ent_below E9_d2.out hb)
 have HY_d3 := Lib.hid (tyP_below HY_d2.out hb)
 have S1_d3 := Lib.hid (S1_d2.out.below hb)
 have R2_d3 := Lib.hid (R2_d2.out.below hb)
 have M_d3 := Lib.hid (pairs_below M_d2.out hb)
 have HB_d3 := Lib.hid (HB_d2.out.trans (hb.mono HB_d2.out.size))
 clear hb HB_d2 E7_d2 HX_d2 E9_d2 HY_d2 S1_d2 R2_d2 M_d2
 obtain ⟨bB, hbB⟩ : ∃ b, b = wd2.heap.size := ⟨_, rfl⟩
 rw [← hbB] at B_d3 ⊢
 clear hbB
 generalize (wd2.alloc (.cells #[.int .i64 i7, .string s7, .slice q7 m7 c7, .int .i64 i7, .string s7, .slice q7 m7 c7] 30)) = wd3 at B_d3 HB_d3 E7_d3 HX_d3 E9_d3 HY_d3 S1_d3 R2_d3 M_d3 ⊢
 refine hK.out _ _ ⟨E7_d3.out, E9_d3.out⟩ (fun hHeld => ?_)
 clear hK K
 refine wpAnyH_ready (rs := [23]) (by kernel_rfl) (by simp) ?_
 refine AllReadyH.cons rfl (fun K hK => ?_) AllReadyH.nil
 go_simp
 refine (of2_any [80] _ [x, x] wd3 B_d3.out (by simp)).mono ?_
 rintro e wd4 ⟨r4, rfl, hb, hr⟩
 have HQ_d4 := Lib.hid hr; clear hr B_d3
 have E7_d4 := Lib.hid (ent_below E7_d3.out hb)
 have HX_d4 := Lib.hid (tyP_below HX_d3.out hb)
 have E9_d4 := Lib.hid (ent_below E9_d3.out hb)
 have HY_d4 := Lib.hid (tyP_below HY_d3.out hb)
 have S1_d4 := Lib.hid (S1_d3.out.below hb)
 have R2_d4 := Lib.hid (R2_d3.out.below hb)
 have M_d4 := Lib.hid (pairs_below M_d3.out hb)
 have HB_d4 := Lib.hid (HB_d3.out.trans (hb.mono HB_d3.out.size))
 clear hb HB_d3 E7_d3 HX_d3 E9_d3 HY_d3 S1_d3 R2_d3 M_d3
 refine hK.out _ _ ⟨E7_d4.out, E9_d4.out⟩ (fun hHeld => ?_)
 clear hK K
 refine wpAnyH_ready (rs := [24]) (by kernel_rfl) (by simp) ?_
 refine AllReadyH.cons rfl (fun K hK => ?_) AllReadyH.nil
 go_simp
 refine (size2_any HM1.out.1 HN1.out HDM.out.1 1000 S1_d4.out HQ_d4.out (by have := HSMX.out.2.1; rw [Ux.sz_a]; simp; omega) (by omega)).mono ?_
 rintro e wd5 ⟨rfl, hb⟩
 rw [HP2.out]
 clear HQ_d4
 have E7_d5 := Lib.hid (ent_below E7_d4.out hb)
 have HX_d5 := Lib.hid (tyP_below HX_d4.out hb)
 have E9_d5 := Lib.hid (ent_below E9_d4.out hb)
 have HY_d5 := Lib.hid (tyP_below HY_d4.out hb)
 have S1_d5 := Lib.hid (S1_d4.out.below hb)
 have R2_d5 := Lib.hid (R2_d4.out.below hb)
 have M_d5 := Lib.hid (pairs_below M_d4.out hb)
 have HB_d5 := Lib.hid (HB_d4.out.trans (hb.mono HB_d4.out.size))
 clear hb HB_d4 E7_d4 HX_d4 E9_d4 HY_d4 S1_d4 R2_d4 M_d4
 refine hK.out _ _ ⟨E7_d5.out, E9_d5.out⟩ (fun hHeld => ?_)
 clear hK K
 refine wpAnyH_ready (rs := [27]) (by kernel_rfl) (by simp) ?_
 refine AllReadyH.cons rfl (fun K hK => ?_) AllReadyH.nil
 go_simp
 refine (refSize_any HPS.out.inv.solved x 1000 _ _ wd5 M_d5.out HX_d5.out (by omega)).mono ?_
 rintro e wd6 ⟨rfl, hb⟩
 rw [HT3.out]
 have E7_d6 := Lib.hid (ent_below E7_d5.out hb)
 have HX_d6 := Lib.hid (tyP_below HX_d5.out hb)
 have E9_d6 := Lib.hid (ent_below E9_d5.out hb)
 have HY_d6 := Lib.hid (tyP_below HY_d5.out hb)
 have S1_d6 := Lib.hid (S1_d5.out.below hb)
 have R2_d6 := Lib.hid (R2_d5.out.below hb)
 have M_d6 := Lib.hid (pairs_below M_d5.out hb)
 have HB_d6 := Lib.hid (HB_d5.out.trans (hb.mono HB_d5.out.size))
 clear hb HB_d5 E7_d5 HX_d5 E9_d5 HY_d5 S1_d5 R2_d5 M_d5
 refine hK.out _ _ ⟨E7_d6.out, E9_d6.out⟩ (fun hHeld => ?_)
 clear hK K
 refine wpAnyH_take (i := 28) (v := .int .i64 (2 * (TT : Int))) rfl (by kernel_rfl) (by kernel_rfl) (by kernel_rfl) (fun _ _ _ h => h) (Or.inl ⟨by go_simp, fun w' hSw => by go_simp; exact IntWalk.i64_in _ (by omega)⟩) hHeld ?_
 simp only [Act.put, List.getElem_toArray, List.getElem_cons_succ, List.getElem_cons_zero, List.setIfInBounds_toArray, List.set_cons_zero, List.set_cons_succ]
 refine wpAnyH_take (i := 29) (v := .int .i64 (1 + 2 * (TT : Int))) rfl (by kernel_rfl) (by kernel_rfl) (by kernel_rfl) (fun _ _ _ h => h) (Or.inl ⟨by go_simp, fun w' hSw => by go_simp; exact IntWalk.i64_in _ (by omega)⟩) hHeld ?_
 simp only [Act.put, List.getElem_toArray, List.getElem_cons_succ, List.getElem_cons_zero, List.setIfInBounds_toArray, List.set_cons_zero, List.set_cons_succ]
 refine wpAnyH_take (i := 30) (v := .bool false) rfl (by kernel_rfl) (by kernel_rfl) (by kernel_rfl) (fun _ _ _ h => h) (Or.inl ⟨by go_simp, fun w' hSw => by go_simp⟩) hHeld ?_
 simp only [Act.put, List.getElem_toArray, List.getElem_cons_succ, List.getElem_cons_zero, List.setIfInBounds_toArray, List.set_cons_zero, List.set_cons_succ]
 refine wpAnyH_take (i := 31) (v := .bool false) rfl (by kernel_rfl) (by kernel_rfl) (by kernel_rfl) (fun _ _ _ h => h) (Or.inl ⟨by rfl, fun w' hSw => by go_simp⟩) hHeld ?_
 simp only [Act.put, List.getElem_toArray, List.getElem_cons_succ, List.getElem_cons_zero, List.setIfInBounds_toArray, List.set_cons_zero, List.set_cons_succ]
 refine wpAnyH_done (by kernel_rfl) ?_ _
 clear hHeld
 rcases R2_d6.out with ⟨rfl, f2, hm2, hs2, hl2⟩ | ⟨rfl, hs2, hw2⟩
 rotate_left
 · have hgt : KN < KK := by
    rcases hw2 with hn | ⟨f2, hm2, hl2⟩
    · exfalso
      obtain ⟨σ, hσ⟩ := HM1.out.1.sol
      exact hn σ (fun n t h => by cases h) ((HM1.out.2 σ).1 hσ).2
    · obtain ⟨N2, hN2⟩ := hm2.1.norm
      have e1 := Ux.sz_canon (made_two_like hm2 HM1.out hN2 HN1.out x)
      have e2 := hl2 N2 hN2
      have e3 := HT1.out; have e4 := HKK.out
      omega
   have d1 : decide ((KN : Int) < (KK : Int)) = true := by simp; omega
   clear hs2 hw2 R2_d6
   go_wp2_with fail
   go_ret
   exact ⟨rfl, HB_d6.out⟩
 obtain ⟨N2, hN2⟩ := hm2.1.norm
 have hle : KK ≤ KN := by
  have e1 := Ux.sz_canon (made_two_like hm2 HM1.out hN2 HN1.out x)
  have e2 := hl2 N2 hN2
  have e3 := HT1.out; have e4 := HKK.out
  omega
 have d1 : decide ((KN : Int) < (KK : Int)) = false := by simp; omega
 have d2 : decide (KN < KK) = false := by simp; omega
 have d3 : ¬ (KN : Int) < (KK : Int) := by omega
 obtain ⟨bt, hbt⟩ : ∃ t, t = Ux.Ty.a [80] [x, y] := ⟨_, rfl⟩
 have HBT := Lib.hid hbt
 have h3 := two_small HSMX.out HSMY.out
 rw [← hbt] at h3
 have S2_d6 := Lib.hid hs2; have HM2 := Lib.hid hm2; have HN2 := Lib.hid hN2
 have hsm : ∀ p ∈ [(x, y)], Ux.Small 19 6 p.1 ∧ Ux.Small 19 6 p.2 := fun p hp => by rw [List.mem_singleton.1 hp]; exact ⟨HSMX.out, HSMY.out⟩
 have hone : ∀ {f : Ux.Map}, Ux.Made (fun _ => none) f x y → ∀ σ, Ux.Sol f σ ↔ Ux.AllOne [(x, y)] σ := fun {f} hm σ => by
  rw [hm.2 σ]
  exact ⟨fun h p hp => by rw [List.mem_singleton.1 hp]; exact h.2, fun h => ⟨(fun n t h => by cases h), h (x, y) (by simp)⟩⟩
 have HPU := Lib.hid (⟨okT_all HM1.out.1 HN1.out (hone HM1.out) (by decide) (by decide) hsm h3.1 h3.2, okT_all hm2.1 hN2 (hone hm2) (by decide) (by decide) hsm h3.1 h3.2, made_two_like hm2 HM1.out hN2 HN1.out bt⟩ : OkT (bt.app N1) ∧ OkT (bt.app N2) ∧ Ux.canon (bt.app N2) = Ux.canon (bt.app N1))
 have HDN := Lib.hid (show ∀ n, f2 n ≠ none → n < 1000000 from dom_all hm2.1 hN2 (hone hm2) (S := 19) (K := 6) (by decide) hsm)
 clear hs2 hm2 hl2 hN2 hle hbt h3 hsm hone R2_d6 M_d6
 go_upto_region 17 with fail
 clear d1 d2 d3
 have hb : Below wd6.heap.size wd6 wd6.drew := (Below.refl _ _).drew
 have E7_d0 := Lib.hid (ent_below E7_d6.out hb)
 have HX_d0 := Lib.hid (tyP_below HX_d6.out hb)
 have E9_d0 := Lib.hid (ent_below E9_d6.out hb)
 have HY_d0 := Lib.hid (tyP_below HY_d6.out hb)
 have S1_d0 := Lib.hid (S1_d6.out.below hb)
 have S2_d0 := Lib.hid (S2_d6.out.below hb)
 have HB_d0 := Lib.hid (HB_d6.out.trans (hb.mono HB_d6.out.size))
 clear hb HB_d6 E7_d6 HX_d6 E9_d6 HY_d6 S1_d6 S2_d6
 refine wp_region_held_drew (S := fun (u : World) => u.heap[P7]? = some (.cells #[.int .i64 i7, .string s7, .slice q7 m7 c7] 30 (0, 0)) ∧ u.heap[P9]? = some (.cells #[.int .i64 i9, .string s9, .slice q9 m9 c9] 30 (0, 0))) (by kernel_rfl) (⟨E7_d0.out, E9_d0.out⟩) (fun hHeld => ?_)
 generalize wd6.drew = wd0 at HB_d0 E7_d0 HX_d0 E9_d0 HY_d0 S1_d0 S2_d0 hHeld ⊢
 refine wpAnyH_take (i := 0) (v := .int .i64 0) rfl (by kernel_rfl) (by kernel_rfl) (by kernel_rfl) (fun _ _ _ h => h) (Or.inl ⟨by rfl, fun w' hSw => by go_simp⟩) hHeld ?_
 refine wpAnyH_take (i := 1) (v := .bool true) rfl (by kernel_rfl) (by kernel_rfl) (by kernel_rfl) (fun _ _ _ h => h) (Or.inl ⟨by rfl, fun w' hSw => by go_simp⟩) hHeld ?_
 refine wpAnyH_take (i := 2) (v := .bool true) rfl (by kernel_rfl) (by kernel_rfl) (by kernel_rfl) (fun _ _ _ h => h) (Or.inl ⟨by rfl, fun w' hSw => by go_simp⟩) hHeld ?_
 refine wpAnyH_take (i := 3) (v := .map (some qb)) rfl (by kernel_rfl) (by kernel_rfl) (by kernel_rfl) (fun _ _ _ h => h) (Or.inl ⟨by go_simp, fun w' hSw => by go_simp⟩) hHeld ?_
 simp only [Act.put, List.getElem_toArray, List.getElem_cons_succ, List.getElem_cons_zero, List.setIfInBounds_toArray, List.set_cons_zero, List.set_cons_succ]
 refine wpAnyH_take (i := 4) (v := .agg #[.int .i64 i7, .string s7, .slice q7 m7 c7]) rfl (by kernel_rfl) (by kernel_rfl) (by kernel_rfl) (fun _ _ _ h => h) (Or.inl ⟨by go_simp, fun w' hSw => by have h0 := ent_cell hSw.1 0 _ rfl; have h1 := ent_cell hSw.1 1 _ rfl; have h2 := ent_cell hSw.1 2 _ rfl; go_simp⟩) hHeld ?_
 simp only [Act.put, List.getElem_toArray, List.getElem_cons_succ, List.getElem_cons_zero, List.setIfInBounds_toArray, List.set_cons_zero, List.set_cons_succ]
 refine wpAnyH_take (i := 5) (v := .agg #[.int .i64 i9, .string s9, .slice q9 m9 c9]) rfl (by kernel_rfl) (by kernel_rfl) (by kernel_rfl) (fun _ _ _ h => h) (Or.inl ⟨by go_simp, fun w' hSw => by have h0 := ent_cell hSw.2 0 _ rfl; have h1 := ent_cell hSw.2 1 _ rfl; have h2 := ent_cell hSw.2 2 _ rfl; go_simp⟩) hHeld ?_
 simp only [Act.put, List.getElem_toArray, List.getElem_cons_succ, List.getElem_cons_zero, List.setIfInBounds_toArray, List.set_cons_zero, List.set_cons_succ]
 refine wpAnyH_take (i := 10) (v := .map (some sb)) rfl (by kernel_rfl) (by kernel_rfl) (by kernel_rfl) (fun _ _ _ h => h) (Or.inl ⟨by go_simp, fun w' hSw => by go_simp⟩) hHeld ?_
 simp only [Act.put, List.getElem_toArray, List.getElem_cons_succ, List.getElem_cons_zero, List.setIfInBounds_toArray, List.set_cons_zero, List.set_cons_succ]
 refine wpAnyH_take (i := 11) (v := .agg #[.int .i64 i7, .string s7, .slice q7 m7 c7]) rfl (by kernel_rfl) (by kernel_rfl) (by kernel_rfl) (fun _ _ _ h => h) (Or.inl ⟨by go_simp, fun w' hSw => by have h0 := ent_cell hSw.1 0 _ rfl; have h1 := ent_cell hSw.1 1 _ rfl; have h2 := ent_cell hSw.1 2 _ rfl; go_simp⟩) hHeld ?_
 simp only [Act.put, List.getElem_toArray, List.getElem_cons_succ, List.getElem_cons_zero, List.setIfInBounds_toArray, List.set_cons_zero, List.set_cons_succ]
 refine wpAnyH_take (i := 12) (v := .agg #[.int .i64 i9, .string s9, .slice q9 m9 c9]) rfl (by kernel_rfl) (by kernel_rfl) (by kernel_rfl) (fun _ _ _ h => h) (Or.inl ⟨by go_simp, fun w' hSw => by have h0 := ent_cell hSw.2 0 _ rfl; have h1 := ent_cell hSw.2 1 _ rfl; have h2 := ent_cell hSw.2 2 _ rfl; go_simp⟩) hHeld ?_
 simp only [Act.put, List.getElem_toArray, List.getElem_cons_succ, List.getElem_cons_zero, List.setIfInBounds_toArray, List.set_cons_zero, List.set_cons_succ]
 try simp only [Act.put, List.getElem_toArray, List.getElem_cons_succ, List.getElem_cons_zero, List.setIfInBounds_toArray, List.set_cons_zero, List.set_cons_succ]
 refine wpAnyH_ready (rs := [6, 13]) (by kernel_rfl) (by simp) ?_
 refine AllReadyH.cons rfl (fun K hK => ?_) (AllReadyH.cons rfl (fun K hK => ?_) AllReadyH.nil)
 · go_simp
   have hb : Below wd0.heap.size wd0 (wd0.alloc (.cells #[.int .i64 i7, .string s7, .slice q7 m7 c7, .int .i64 i9, .string s9, .slice q9 m9 c9] 30)) := (Below.refl _ _).alloc (Nat.le_refl _) _
   have B_d1 : Hid (RowAt 3 (TyP (wd0.alloc (.cells #[.int .i64 i7, .string s7, .slice q7 m7 c7, .int .i64 i9, .string s9, .slice q9 m9 c9] 30))) (wd0.alloc (.cells #[.int .i64 i7, .string s7, .slice q7 m7 c7, .int .i64 i9, .string s9, .slice q9 m9 c9] 30)) (.slice (some ⟨wd0.heap.size, 0, none⟩) 2 2) [x, y]) := Lib.hid (row_two (ent_new wd0 #[.int .i64 i7, .string s7, .slice q7 m7 c7, .int .i64 i9, .string s9, .slice q9 m9 c9] 30) (tyP_below HX_d0.out hb) (tyP_below HY_d0.out hb))
   have E7_d1 := Lib.hid (ent_below E7_d0.out hb)
   have HX_d1 := Lib.hid (tyP_below HX_d0.out hb)
   have E9_d1 := Lib.hid (ent_below E9_d0.out hb)
   have HY_d1 := Lib.hid (tyP_below HY_d0.out hb)
   have S1_d1 := Lib.hid (S1_d0.out.below hb)
   have S2_d1 := Lib.hid (S2_d0.out.below hb)
   have HB_d1 := Lib.hid (HB_d0.out.trans (hb.mono HB_d0.out.size))
   clear hb HB_d0 E7_d0 HX_d0 E9_d0 HY_d0 S1_d0 S2_d0
   obtain ⟨bB, hbB⟩ : ∃ b, b = wd0.heap.size := ⟨_, rfl⟩
   rw [← hbB] at B_d1 ⊢
   clear hbB
   generalize (wd0.alloc (.cells #[.int .i64 i7, .string s7, .slice q7 m7 c7, .int .i64 i9, .string s9, .slice q9 m9 c9] 30)) = wd1 at B_d1 HB_d1 E7_d1 HX_d1 E9_d1 HY_d1 S1_d1 S2_d1 ⊢
   refine hK.out _ _ ⟨E7_d1.out, E9_d1.out⟩ (fun hHeld => ?_)
   clear hK K
   refine wpAnyH_ready (rs := [7, 13]) (by kernel_rfl) (by simp) ?_
   refine AllReadyH.cons rfl (fun K hK => ?_) (AllReadyH.cons rfl (fun K hK => ?_) AllReadyH.nil)
   · go_simp
     refine (of2_any [80] _ [x, y] wd1 B_d1.out (by simp)).mono ?_
     rintro e wd2 ⟨rp, rfl, hb, hr⟩
     rw [← HBT.out] at hr
     have HP_d2 := Lib.hid hr; clear hr B_d1
     have E7_d2 := Lib.hid (ent_below E7_d1.out hb)
     have HX_d2 := Lib.hid (tyP_below HX_d1.out hb)
     have E9_d2 := Lib.hid (ent_below E9_d1.out hb)
     have HY_d2 := Lib.hid (tyP_below HY_d1.out hb)
     have S1_d2 := Lib.hid (S1_d1.out.below hb)
     have S2_d2 := Lib.hid (S2_d1.out.below hb)
     have HB_d2 := Lib.hid (HB_d1.out.trans (hb.mono HB_d1.out.size))
     clear hb HB_d1 E7_d1 HX_d1 E9_d1 HY_d1 S1_d1 S2_d1
     refine hK.out _ _ ⟨E7_d2.out, E9_d2.out⟩ (fun hHeld => ?_)
     clear hK K
     refine wpAnyH_ready (rs := [8, 13]) (by kernel_rfl) (by simp) ?_
     refine AllReadyH.cons rfl (fun K hK => ?_) (AllReadyH.cons rfl (fun K hK => ?_) AllReadyH.nil)
     · go_simp
       refine (apply_ok HM2.out.1 HN2.out (t := bt) S2_d2.out.p HP_d2.out HDN.out HPU.out.2.1).mono ?_
       rintro e wd3 ⟨rq, rfl, hb, hr⟩
       have HQ_d3 := Lib.hid hr; clear hr HP_d2
       have E7_d3 := Lib.hid (ent_below E7_d2.out hb)
       have HX_d3 := Lib.hid (tyP_below HX_d2.out hb)
       have E9_d3 := Lib.hid (ent_below E9_d2.out hb)
       have HY_d3 := Lib.hid (tyP_below HY_d2.out hb)
       have S1_d3 := Lib.hid (S1_d2.out.below hb)
       have S2_d3 := Lib.hid (S2_d2.out.below hb)
       have HB_d3 := Lib.hid (HB_d2.out.trans (hb.mono HB_d2.out.size))
       clear hb HB_d2 E7_d2 HX_d2 E9_d2 HY_d2 S1_d2 S2_d2
       refine hK.out _ _ ⟨E7_d3.out, E9_d3.out⟩ (fun hHeld => ?_)
       clear hK K
       refine wpAnyH_ready (rs := [9, 13]) (by kernel_rfl) (by simp) ?_
       refine AllReadyH.cons rfl (fun K hK => ?_) (AllReadyH.cons rfl (fun K hK => ?_) AllReadyH.nil)
       · go_simp
         refine (canonP_any (bt.app N2) _ wd3 HQ_d3.out (by have := HPU.out.2.1.sz; omega)).mono ?_
         rintro e wd4 ⟨rr, rfl, hb, hr⟩
         have HR_d4 := Lib.hid (show TyP wd4 rr (Ux.canon (bt.app N1)) by rw [← HPU.out.2.2]; exact hr); clear hr HQ_d3
         have E7_d4 := Lib.hid (ent_below E7_d3.out hb)
         have HX_d4 := Lib.hid (tyP_below HX_d3.out hb)
         have E9_d4 := Lib.hid (ent_below E9_d3.out hb)
         have HY_d4 := Lib.hid (tyP_below HY_d3.out hb)
         have S1_d4 := Lib.hid (S1_d3.out.below hb)
         have S2_d4 := Lib.hid (S2_d3.out.below hb)
         have HB_d4 := Lib.hid (HB_d3.out.trans (hb.mono HB_d3.out.size))
         clear hb HB_d3 E7_d3 HX_d3 E9_d3 HY_d3 S1_d3 S2_d3
         refine hK.out _ _ ⟨E7_d4.out, E9_d4.out⟩ (fun hHeld => ?_)
         clear hK K
         refine wpAnyH_ready (rs := [13]) (by kernel_rfl) (by simp) ?_
         refine AllReadyH.cons rfl (fun K hK => ?_) AllReadyH.nil
         go_simp
         have hb : Below wd4.heap.size wd4 (wd4.alloc (.cells #[.int .i64 i7, .string s7, .slice q7 m7 c7, .int .i64 i9, .string s9, .slice q9 m9 c9] 30)) := (Below.refl _ _).alloc (Nat.le_refl _) _
         have BB_d5 : Hid (RowAt 3 (TyP (wd4.alloc (.cells #[.int .i64 i7, .string s7, .slice q7 m7 c7, .int .i64 i9, .string s9, .slice q9 m9 c9] 30))) (wd4.alloc (.cells #[.int .i64 i7, .string s7, .slice q7 m7 c7, .int .i64 i9, .string s9, .slice q9 m9 c9] 30)) (.slice (some ⟨wd4.heap.size, 0, none⟩) 2 2) [x, y]) := Lib.hid (row_two (ent_new wd4 #[.int .i64 i7, .string s7, .slice q7 m7 c7, .int .i64 i9, .string s9, .slice q9 m9 c9] 30) (tyP_below HX_d4.out hb) (tyP_below HY_d4.out hb))
         have E7_d5 := Lib.hid (ent_below E7_d4.out hb)
         have HX_d5 := Lib.hid (tyP_below HX_d4.out hb)
         have E9_d5 := Lib.hid (ent_below E9_d4.out hb)
         have HY_d5 := Lib.hid (tyP_below HY_d4.out hb)
         have S1_d5 := Lib.hid (S1_d4.out.below hb)
         have S2_d5 := Lib.hid (S2_d4.out.below hb)
         have HR_d5 := Lib.hid (tyP_below HR_d4.out hb)
         have HB_d5 := Lib.hid (HB_d4.out.trans (hb.mono HB_d4.out.size))
         clear hb HB_d4 E7_d4 HX_d4 E9_d4 HY_d4 S1_d4 S2_d4 HR_d4
         obtain ⟨bBB, hbBB⟩ : ∃ b, b = wd4.heap.size := ⟨_, rfl⟩
         rw [← hbBB] at BB_d5 ⊢
         clear hbBB
         generalize (wd4.alloc (.cells #[.int .i64 i7, .string s7, .slice q7 m7 c7, .int .i64 i9, .string s9, .slice q9 m9 c9] 30)) = wd5 at BB_d5 HB_d5 E7_d5 HX_d5 E9_d5 HY_d5 S1_d5 S2_d5 HR_d5 ⊢
         refine hK.out _ _ ⟨E7_d5.out, E9_d5.out⟩ (fun hHeld => ?_)
         clear hK K
         refine wpAnyH_ready (rs := [14]) (by kernel_rfl) (by simp) ?_
         refine AllReadyH.cons rfl (fun K hK => ?_) AllReadyH.nil
         go_simp
         refine (of2_any [80] _ [x, y] wd5 BB_d5.out (by simp)).mono ?_
         rintro e wd6 ⟨rs, rfl, hb, hr⟩
         rw [← HBT.out] at hr
         have HP_d6 := Lib.hid hr; clear hr BB_d5
         have E7_d6 := Lib.hid (ent_below E7_d5.out hb)
         have HX_d6 := Lib.hid (tyP_below HX_d5.out hb)
         have E9_d6 := Lib.hid (ent_below E9_d5.out hb)
         have HY_d6 := Lib.hid (tyP_below HY_d5.out hb)
         have S1_d6 := Lib.hid (S1_d5.out.below hb)
         have S2_d6 := Lib.hid (S2_d5.out.below hb)
         have HR_d6 := Lib.hid (tyP_below HR_d5.out hb)
         have HB_d6 := Lib.hid (HB_d5.out.trans (hb.mono HB_d5.out.size))
         clear hb HB_d5 E7_d5 HX_d5 E9_d5 HY_d5 S1_d5 S2_d5 HR_d5
         refine hK.out _ _ ⟨E7_d6.out, E9_d6.out⟩ (fun hHeld => ?_)
         clear hK K
         refine wpAnyH_ready (rs := [15]) (by kernel_rfl) (by simp) ?_
         refine AllReadyH.cons rfl (fun K hK => ?_) AllReadyH.nil
         go_simp
         refine (apply_ok HM1.out.1 HN1.out (t := bt) S1_d6.out.p HP_d6.out HDM.out.1 HPU.out.1).mono ?_
         rintro e wd7 ⟨rt, rfl, hb, hr⟩
         have HQ_d7 := Lib.hid hr; clear hr HP_d6
         have E7_d7 := Lib.hid (ent_below E7_d6.out hb)
         have HX_d7 := Lib.hid (tyP_below HX_d6.out hb)
         have E9_d7 := Lib.hid (ent_below E9_d6.out hb)
         have HY_d7 := Lib.hid (tyP_below HY_d6.out hb)
         have S1_d7 := Lib.hid (S1_d6.out.below hb)
         have S2_d7 := Lib.hid (S2_d6.out.below hb)
         have HR_d7 := Lib.hid (tyP_below HR_d6.out hb)
         have HB_d7 := Lib.hid (HB_d6.out.trans (hb.mono HB_d6.out.size))
         clear hb HB_d6 E7_d6 HX_d6 E9_d6 HY_d6 S1_d6 S2_d6 HR_d6
         refine hK.out _ _ ⟨E7_d7.out, E9_d7.out⟩ (fun hHeld => ?_)
         clear hK K
         refine wpAnyH_ready (rs := [16]) (by kernel_rfl) (by simp) ?_
         refine AllReadyH.cons rfl (fun K hK => ?_) AllReadyH.nil
         go_simp
         refine (canonP_any (bt.app N1) _ wd7 HQ_d7.out (by have := HPU.out.1.sz; omega)).mono ?_
         rintro e wd8 ⟨ru, rfl, hb, hr⟩
         have HC_d8 := Lib.hid hr; clear hr HQ_d7
         have E7_d8 := Lib.hid (ent_below E7_d7.out hb)
         have HX_d8 := Lib.hid (tyP_below HX_d7.out hb)
         have E9_d8 := Lib.hid (ent_below E9_d7.out hb)
         have HY_d8 := Lib.hid (tyP_below HY_d7.out hb)
         have S1_d8 := Lib.hid (S1_d7.out.below hb)
         have S2_d8 := Lib.hid (S2_d7.out.below hb)
         have HR_d8 := Lib.hid (tyP_below HR_d7.out hb)
         have HB_d8 := Lib.hid (HB_d7.out.trans (hb.mono HB_d7.out.size))
         clear hb HB_d7 E7_d7 HX_d7 E9_d7 HY_d7 S1_d7 S2_d7 HR_d7
         refine hK.out _ _ ⟨E7_d8.out, E9_d8.out⟩ (fun hHeld => ?_)
         clear hK K
         refine wpAnyH_ready (rs := [17]) (by kernel_rfl) (by simp) ?_
         refine AllReadyH.cons rfl (fun K hK => ?_) AllReadyH.nil
         go_simp
         refine (like_same (okT_canon HPU.out.1) rr ru wd8 HR_d8.out HC_d8.out (HTB.out wd8 HB_d8.out)).mono ?_
         rintro e wd9 ⟨rfl, hb⟩
         clear HR_d8 HC_d8
         have E7_d9 := Lib.hid (ent_below E7_d8.out hb)
         have HX_d9 := Lib.hid (tyP_below HX_d8.out hb)
         have E9_d9 := Lib.hid (ent_below E9_d8.out hb)
         have HY_d9 := Lib.hid (tyP_below HY_d8.out hb)
         have S1_d9 := Lib.hid (S1_d8.out.below hb)
         have S2_d9 := Lib.hid (S2_d8.out.below hb)
         have HB_d9 := Lib.hid (HB_d8.out.trans (hb.mono HB_d8.out.size))
         clear hb HB_d8 E7_d8 HX_d8 E9_d8 HY_d8 S1_d8 S2_d8
         refine hK.out _ _ ⟨E7_d9.out, E9_d9.out⟩ (fun hHeld => ?_)
         clear hK K
         refine wpAnyH_take (i := 18) (v := .bool true) rfl (by kernel_rfl) (by kernel_rfl) (by kernel_rfl) (fun _ _ _ h => h) (Or.inl ⟨by rfl, fun w' hSw => by go_simp⟩) hHeld ?_
         simp only [Act.put, List.getElem_toArray, List.getElem_cons_succ, List.getElem_cons_zero, List.setIfInBounds_toArray, List.set_cons_zero, List.set_cons_succ]
         refine wpAnyH_take (i := 19) (v := .bool true) rfl (by kernel_rfl) (by kernel_rfl) (by kernel_rfl) (fun _ _ _ h => h) (Or.inl ⟨by rfl, fun w' hSw => by go_simp⟩) hHeld ?_
         simp only [Act.put, List.getElem_toArray, List.getElem_cons_succ, List.getElem_cons_zero, List.setIfInBounds_toArray, List.set_cons_zero, List.set_cons_succ]
         refine wpAnyH_done (by kernel_rfl) ?_ _
         clear hHeld
         go_wp2_with fail
         go_ret
         exact ⟨rfl, HB_d9.out⟩
       · go_simp
         have hb : Below wd3.heap.size wd3 (wd3.alloc (.cells #[.int .i64 i7, .string s7, .slice q7 m7 c7, .int .i64 i9, .string s9, .slice q9 m9 c9] 30)) := (Below.refl _ _).alloc (Nat.le_refl _) _
         have BB_d4 : Hid (RowAt 3 (TyP (wd3.alloc (.cells #[.int .i64 i7, .string s7, .slice q7 m7 c7, .int .i64 i9, .string s9, .slice q9 m9 c9] 30))) (wd3.alloc (.cells #[.int .i64 i7, .string s7, .slice q7 m7 c7, .int .i64 i9, .string s9, .slice q9 m9 c9] 30)) (.slice (some ⟨wd3.heap.size, 0, none⟩) 2 2) [x, y]) := Lib.hid (row_two (ent_new wd3 #[.int .i64 i7, .string s7, .slice q7 m7 c7, .int .i64 i9, .string s9, .slice q9 m9 c9] 30) (tyP_below HX_d3.out hb) (tyP_below HY_d3.out hb))
         have E7_d4 := Lib.hid (ent_below E7_d3.out hb)
         have HX_d4 := Lib.hid (tyP_below HX_d3.out hb)
         have E9_d4 := Lib.hid (ent_below E9_d3.out hb)
         have HY_d4 := Lib.hid (tyP_below HY_d3.out hb)
         have S1_d4 := Lib.hid (S1_d3.out.below hb)
         have S2_d4 := Lib.hid (S2_d3.out.below hb)
         have HQ_d4 := Lib.hid (tyP_below HQ_d3.out hb)
         have HB_d4 := Lib.hid (HB_d3.out.trans (hb.mono HB_d3.out.size))
         clear hb HB_d3 E7_d3 HX_d3 E9_d3 HY_d3 S1_d3 S2_d3 HQ_d3
         obtain ⟨bBB, hbBB⟩ : ∃ b, b = wd3.heap.size := ⟨_, rfl⟩
         rw [← hbBB] at BB_d4 ⊢
         clear hbBB
         generalize (wd3.alloc (.cells #[.int .i64 i7, .string s7, .slice q7 m7 c7, .int .i64 i9, .string s9, .slice q9 m9 c9] 30)) = wd4 at BB_d4 HB_d4 E7_d4 HX_d4 E9_d4 HY_d4 S1_d4 S2_d4 HQ_d4 ⊢
         refine hK.out _ _ ⟨E7_d4.out, E9_d4.out⟩ (fun hHeld => ?_)
         clear hK K
         refine wpAnyH_ready (rs := [9]) (by kernel_rfl) (by simp) ?_
         refine AllReadyH.cons rfl (fun K hK => ?_) AllReadyH.nil
         go_simp
         refine (canonP_any (bt.app N2) _ wd4 HQ_d4.out (by have := HPU.out.2.1.sz; omega)).mono ?_
         rintro e wd5 ⟨rr, rfl, hb, hr⟩
         have HR_d5 := Lib.hid (show TyP wd5 rr (Ux.canon (bt.app N1)) by rw [← HPU.out.2.2]; exact hr); clear hr HQ_d4
         have E7_d5 := Lib.hid (ent_below E7_d4.out hb)
         have HX_d5 := Lib.hid (tyP_below HX_d4.out hb)
         have E9_d5 := Lib.hid (ent_below E9_d4.out hb)
         have HY_d5 := Lib.hid (tyP_below HY_d4.out hb)
         have S1_d5 := Lib.hid (S1_d4.out.below hb)
         have S2_d5 := Lib.hid (S2_d4.out.below hb)
         have BB_d5 := Lib.hid (rowT_below BB_d4.out hb)
         have HB_d5 := Lib.hid (HB_d4.out.trans (hb.mono HB_d4.out.size))
         clear hb HB_d4 E7_d4 HX_d4 E9_d4 HY_d4 S1_d4 S2_d4 BB_d4
         refine hK.out _ _ ⟨E7_d5.out, E9_d5.out⟩ (fun hHeld => ?_)
         clear hK K
         refine wpAnyH_ready (rs := [14]) (by kernel_rfl) (by simp) ?_
         refine AllReadyH.cons rfl (fun K hK => ?_) AllReadyH.nil
         go_simp
         refine (of2_any [80] _ [x, y] wd5 BB_d5.out (by simp)).mono ?_
         rintro e wd6 ⟨rs, rfl, hb, hr⟩
         rw [← HBT.out] at hr
         have HP_d6 := Lib.hid hr; clear hr BB_d5
         have E7_d6 := Lib.hid (ent_below E7_d5.out hb)
         have HX_d6 := Lib.hid (tyP_below HX_d5.out hb)
         have E9_d6 := Lib.hid (ent_below E9_d5.out hb)
         have HY_d6 := Lib.hid (tyP_below HY_d5.out hb)
         have S1_d6 := Lib.hid (S1_d5.out.below hb)
         have S2_d6 := Lib.hid (S2_d5.out.below hb)
         have HR_d6 := Lib.hid (tyP_below HR_d5.out hb)
         have HB_d6 := Lib.hid (HB_d5.out.trans (hb.mono HB_d5.out.size))
         clear hb HB_d5 E7_d5 HX_d5 E9_d5 HY_d5 S1_d5 S2_d5 HR_d5
         refine hK.out _ _ ⟨E7_d6.out, E9_d6.out⟩ (fun hHeld => ?_)
         clear hK K
         refine wpAnyH_ready (rs := [15]) (by kernel_rfl) (by simp) ?_
         refine AllReadyH.cons rfl (fun K hK => ?_) AllReadyH.nil
         go_simp
         refine (apply_ok HM1.out.1 HN1.out (t := bt) S1_d6.out.p HP_d6.out HDM.out.1 HPU.out.1).mono ?_
         rintro e wd7 ⟨rt, rfl, hb, hr⟩
         have HQ_d7 := Lib.hid hr; clear hr HP_d6
         have E7_d7 := Lib.hid (ent_below E7_d6.out hb)
         have HX_d7 := Lib.hid (tyP_below HX_d6.out hb)
         have E9_d7 := Lib.hid (ent_below E9_d6.out hb)
         have HY_d7 := Lib.hid (tyP_below HY_d6.out hb)
         have S1_d7 := Lib.hid (S1_d6.out.below hb)
         have S2_d7 := Lib.hid (S2_d6.out.below hb)
         have HR_d7 := Lib.hid (tyP_below HR_d6.out hb)
         have HB_d7 := Lib.hid (HB_d6.out.trans (hb.mono HB_d6.out.size))
         clear hb HB_d6 E7_d6 HX_d6 E9_d6 HY_d6 S1_d6 S2_d6 HR_d6
         refine hK.out _ _ ⟨E7_d7.out, E9_d7.out⟩ (fun hHeld => ?_)
         clear hK K
         refine wpAnyH_ready (rs := [16]) (by kernel_rfl) (by simp) ?_
         refine AllReadyH.cons rfl (fun K hK => ?_) AllReadyH.nil
         go_simp
         refine (canonP_any (bt.app N1) _ wd7 HQ_d7.out (by have := HPU.out.1.sz; omega)).mono ?_
         rintro e wd8 ⟨ru, rfl, hb, hr⟩
         have HC_d8 := Lib.hid hr; clear hr HQ_d7
         have E7_d8 := Lib.hid (ent_below E7_d7.out hb)
         have HX_d8 := Lib.hid (tyP_below HX_d7.out hb)
         have E9_d8 := Lib.hid (ent_below E9_d7.out hb)
         have HY_d8 := Lib.hid (tyP_below HY_d7.out hb)
         have S1_d8 := Lib.hid (S1_d7.out.below hb)
         have S2_d8 := Lib.hid (S2_d7.out.below hb)
         have HR_d8 := Lib.hid (tyP_below HR_d7.out hb)
         have HB_d8 := Lib.hid (HB_d7.out.trans (hb.mono HB_d7.out.size))
         clear hb HB_d7 E7_d7 HX_d7 E9_d7 HY_d7 S1_d7 S2_d7 HR_d7
         refine hK.out _ _ ⟨E7_d8.out, E9_d8.out⟩ (fun hHeld => ?_)
         clear hK K
         refine wpAnyH_ready (rs := [17]) (by kernel_rfl) (by simp) ?_
         refine AllReadyH.cons rfl (fun K hK => ?_) AllReadyH.nil
         go_simp
         refine (like_same (okT_canon HPU.out.1) rr ru wd8 HR_d8.out HC_d8.out (HTB.out wd8 HB_d8.out)).mono ?_
         rintro e wd9 ⟨rfl, hb⟩
         clear HR_d8 HC_d8
         have E7_d9 := Lib.hid (ent_below E7_d8.out hb)
         have HX_d9 := Lib.hid (tyP_below HX_d8.out hb)
         have E9_d9 := Lib.hid (ent_below E9_d8.out hb)
         have HY_d9 := Lib.hid (tyP_below HY_d8.out hb)
         have S1_d9 := Lib.hid (S1_d8.out.below hb)
         have S2_d9 := Lib.hid (S2_d8.out.below hb)
         have HB_d9 := Lib.hid (HB_d8.out.trans (hb.mono HB_d8.out.size))
         clear hb HB_d8 E7_d8 HX_d8 E9_d8 HY_d8 S1_d8 S2_d8
         refine hK.out _ _ ⟨E7_d9.out, E9_d9.out⟩ (fun hHeld => ?_)
         clear hK K
         refine wpAnyH_take (i := 18) (v := .bool true) rfl (by kernel_rfl) (by kernel_rfl) (by kernel_rfl) (fun _ _ _ h => h) (Or.inl ⟨by rfl, fun w' hSw => by go_simp⟩) hHeld ?_
         simp only [Act.put, List.getElem_toArray, List.getElem_cons_succ, List.getElem_cons_zero, List.setIfInBounds_toArray, List.set_cons_zero, List.set_cons_succ]
         refine wpAnyH_take (i := 19) (v := .bool true) rfl (by kernel_rfl) (by kernel_rfl) (by kernel_rfl) (fun _ _ _ h => h) (Or.inl ⟨by rfl, fun w' hSw => by go_simp⟩) hHeld ?_
         simp only [Act.put, List.getElem_toArray, List.getElem_cons_succ, List.getElem_cons_zero, List.setIfInBounds_toArray, List.set_cons_zero, List.set_cons_succ]
         refine wpAnyH_done (by kernel_rfl) ?_ _
         clear hHeld
         go_wp2_with fail
         go_ret
         exact ⟨rfl, HB_d9.out⟩
     · go_simp
       have hb : Below wd2.heap.size wd2 (wd2.alloc (.cells #[.int .i64 i7, .string s7, .slice q7 m7 c7, .int .i64 i9, .string s9, .slice q9 m9 c9] 30)) := (Below.refl _ _).alloc (Nat.le_refl _) _
       have BB_d3 : Hid (RowAt 3 (TyP (wd2.alloc (.cells #[.int .i64 i7, .string s7, .slice q7 m7 c7, .int .i64 i9, .string s9, .slice q9 m9 c9] 30))) (wd2.alloc (.cells #[.int .i64 i7, .string s7, .slice q7 m7 c7, .int .i64 i9, .string s9, .slice q9 m9 c9] 30)) (.slice (some ⟨wd2.heap.size, 0, none⟩) 2 2) [x, y]) := Lib.hid (row_two (ent_new wd2 #[.int .i64 i7, .string s7, .slice q7 m7 c7, .int .i64 i9, .string s9, .slice q9 m9 c9] 30) (tyP_below HX_d2.out hb) (tyP_below HY_d2.out hb))
       have E7_d3 := Lib.hid (ent_below E7_d2.out hb)
       have HX_d3 := Lib.hid (tyP_below HX_d2.out hb)
       have E9_d3 := Lib.hid (ent_below E9_d2.out hb)
       have HY_d3 := Lib.hid (tyP_below HY_d2.out hb)
       have S1_d3 := Lib.hid (S1_d2.out.below hb)
       have S2_d3 := Lib.hid (S2_d2.out.below hb)
       have HP_d3 := Lib.hid (tyP_below HP_d2.out hb)
       have HB_d3 := Lib.hid (HB_d2.out.trans (hb.mono HB_d2.out.size))
       clear hb HB_d2 E7_d2 HX_d2 E9_d2 HY_d2 S1_d2 S2_d2 HP_d2
       obtain ⟨bBB, hbBB⟩ : ∃ b, b = wd2.heap.size := ⟨_, rfl⟩
       rw [← hbBB] at BB_d3 ⊢
       clear hbBB
       generalize (wd2.alloc (.cells #[.int .i64 i7, .string s7, .slice q7 m7 c7, .int .i64 i9, .string s9, .slice q9 m9 c9] 30)) = wd3 at BB_d3 HB_d3 E7_d3 HX_d3 E9_d3 HY_d3 S1_d3 S2_d3 HP_d3 ⊢
       refine hK.out _ _ ⟨E7_d3.out, E9_d3.out⟩ (fun hHeld => ?_)
       clear hK K
       refine wpAnyH_ready (rs := [8]) (by kernel_rfl) (by simp) ?_
       refine AllReadyH.cons rfl (fun K hK => ?_) AllReadyH.nil
       go_simp
       refine (apply_ok HM2.out.1 HN2.out (t := bt) S2_d3.out.p HP_d3.out HDN.out HPU.out.2.1).mono ?_
       rintro e wd4 ⟨rq, rfl, hb, hr⟩
       have HQ_d4 := Lib.hid hr; clear hr HP_d3
       have E7_d4 := Lib.hid (ent_below E7_d3.out hb)
       have HX_d4 := Lib.hid (tyP_below HX_d3.out hb)
       have E9_d4 := Lib.hid (ent_below E9_d3.out hb)
       have HY_d4 := Lib.hid (tyP_below HY_d3.out hb)
       have S1_d4 := Lib.hid (S1_d3.out.below hb)
       have S2_d4 := Lib.hid (S2_d3.out.below hb)
       have BB_d4 := Lib.hid (rowT_below BB_d3.out hb)
       have HB_d4 := Lib.hid (HB_d3.out.trans (hb.mono HB_d3.out.size))
       clear hb HB_d3 E7_d3 HX_d3 E9_d3 HY_d3 S1_d3 S2_d3 BB_d3
       refine hK.out _ _ ⟨E7_d4.out, E9_d4.out⟩ (fun hHeld => ?_)
       clear hK K
       refine wpAnyH_ready (rs := [9]) (by kernel_rfl) (by simp) ?_
       refine AllReadyH.cons rfl (fun K hK => ?_) AllReadyH.nil
       go_simp
       refine (canonP_any (bt.app N2) _ wd4 HQ_d4.out (by have := HPU.out.2.1.sz; omega)).mono ?_
       rintro e wd5 ⟨rr, rfl, hb, hr⟩
       have HR_d5 := Lib.hid (show TyP wd5 rr (Ux.canon (bt.app N1)) by rw [← HPU.out.2.2]; exact hr); clear hr HQ_d4
       have E7_d5 := Lib.hid (ent_below E7_d4.out hb)
       have HX_d5 := Lib.hid (tyP_below HX_d4.out hb)
       have E9_d5 := Lib.hid (ent_below E9_d4.out hb)
       have HY_d5 := Lib.hid (tyP_below HY_d4.out hb)
       have S1_d5 := Lib.hid (S1_d4.out.below hb)
       have S2_d5 := Lib.hid (S2_d4.out.below hb)
       have BB_d5 := Lib.hid (rowT_below BB_d4.out hb)
       have HB_d5 := Lib.hid (HB_d4.out.trans (hb.mono HB_d4.out.size))
       clear hb HB_d4 E7_d4 HX_d4 E9_d4 HY_d4 S1_d4 S2_d4 BB_d4
       refine hK.out _ _ ⟨E7_d5.out, E9_d5.out⟩ (fun hHeld => ?_)
       clear hK K
       refine wpAnyH_ready (rs := [14]) (by kernel_rfl) (by simp) ?_
       refine AllReadyH.cons rfl (fun K hK => ?_) AllReadyH.nil
       go_simp
       refine (of2_any [80] _ [x, y] wd5 BB_d5.out (by simp)).mono ?_
       rintro e wd6 ⟨rs, rfl, hb, hr⟩
       rw [← HBT.out] at hr
       have HP_d6 := Lib.hid hr; clear hr BB_d5
       have E7_d6 := Lib.hid (ent_below E7_d5.out hb)
       have HX_d6 := Lib.hid (tyP_below HX_d5.out hb)
       have E9_d6 := Lib.hid (ent_below E9_d5.out hb)
       have HY_d6 := Lib.hid (tyP_below HY_d5.out hb)
       have S1_d6 := Lib.hid (S1_d5.out.below hb)
       have S2_d6 := Lib.hid (S2_d5.out.below hb)
       have HR_d6 := Lib.hid (tyP_below HR_d5.out hb)
       have HB_d6 := Lib.hid (HB_d5.out.trans (hb.mono HB_d5.out.size))
       clear hb HB_d5 E7_d5 HX_d5 E9_d5 HY_d5 S1_d5 S2_d5 HR_d5
       refine hK.out _ _ ⟨E7_d6.out, E9_d6.out⟩ (fun hHeld => ?_)
       clear hK K
       refine wpAnyH_ready (rs := [15]) (by kernel_rfl) (by simp) ?_
       refine AllReadyH.cons rfl (fun K hK => ?_) AllReadyH.nil
       go_simp
       refine (apply_ok HM1.out.1 HN1.out (t := bt) S1_d6.out.p HP_d6.out HDM.out.1 HPU.out.1).mono ?_
       rintro e wd7 ⟨rt, rfl, hb, hr⟩
       have HQ_d7 := Lib.hid hr; clear hr HP_d6
       have E7_d7 := Lib.hid (ent_below E7_d6.out hb)
       have HX_d7 := Lib.hid (tyP_below HX_d6.out hb)
       have E9_d7 := Lib.hid (ent_below E9_d6.out hb)
       have HY_d7 := Lib.hid (tyP_below HY_d6.out hb)
       have S1_d7 := Lib.hid (S1_d6.out.below hb)
       have S2_d7 := Lib.hid (S2_d6.out.below hb)
       have HR_d7 := Lib.hid (tyP_below HR_d6.out hb)
       have HB_d7 := Lib.hid (HB_d6.out.trans (hb.mono HB_d6.out.size))
       clear hb HB_d6 E7_d6 HX_d6 E9_d6 HY_d6 S1_d6 S2_d6 HR_d6
       refine hK.out _ _ ⟨E7_d7.out, E9_d7.out⟩ (fun hHeld => ?_)
       clear hK K
       refine wpAnyH_ready (rs := [16]) (by kernel_rfl) (by simp) ?_
       refine AllReadyH.cons rfl (fun K hK => ?_) AllReadyH.nil
       go_simp
       refine (canonP_any (bt.app N1) _ wd7 HQ_d7.out (by have := HPU.out.1.sz; omega)).mono ?_
       rintro e wd8 ⟨ru, rfl, hb, hr⟩
       have HC_d8 := Lib.hid hr; clear hr HQ_d7
       have E7_d8 := Lib.hid (ent_below E7_d7.out hb)
       have HX_d8 := Lib.hid (tyP_below HX_d7.out hb)
       have E9_d8 := Lib.hid (ent_below E9_d7.out hb)
       have HY_d8 := Lib.hid (tyP_below HY_d7.out hb)
       have S1_d8 := Lib.hid (S1_d7.out.below hb)
       have S2_d8 := Lib.hid (S2_d7.out.below hb)
       have HR_d8 := Lib.hid (tyP_below HR_d7.out hb)
       have HB_d8 := Lib.hid (HB_d7.out.trans (hb.mono HB_d7.out.size))
       clear hb HB_d7 E7_d7 HX_d7 E9_d7 HY_d7 S1_d7 S2_d7 HR_d7
       refine hK.out _ _ ⟨E7_d8.out, E9_d8.out⟩ (fun hHeld => ?_)
       clear hK K
       refine wpAnyH_ready (rs := [17]) (by kernel_rfl) (by simp) ?_
       refine AllReadyH.cons rfl (fun K hK => ?_) AllReadyH.nil
       go_simp
       refine (like_same (okT_canon HPU.out.1) rr ru wd8 HR_d8.out HC_d8.out (HTB.out wd8 HB_d8.out)).mono ?_
       rintro e wd9 ⟨rfl, hb⟩
       clear HR_d8 HC_d8
       have E7_d9 := Lib.hid (ent_below E7_d8.out hb)
       have HX_d9 := Lib.hid (tyP_below HX_d8.out hb)
       have E9_d9 := Lib.hid (ent_below E9_d8.out hb)
       have HY_d9 := Lib.hid (tyP_below HY_d8.out hb)
       have S1_d9 := Lib.hid (S1_d8.out.below hb)
       have S2_d9 := Lib.hid (S2_d8.out.below hb)
       have HB_d9 := Lib.hid (HB_d8.out.trans (hb.mono HB_d8.out.size))
       clear hb HB_d8 E7_d8 HX_d8 E9_d8 HY_d8 S1_d8 S2_d8
       refine hK.out _ _ ⟨E7_d9.out, E9_d9.out⟩ (fun hHeld => ?_)
       clear hK K
       refine wpAnyH_take (i := 18) (v := .bool true) rfl (by kernel_rfl) (by kernel_rfl) (by kernel_rfl) (fun _ _ _ h => h) (Or.inl ⟨by rfl, fun w' hSw => by go_simp⟩) hHeld ?_
       simp only [Act.put, List.getElem_toArray, List.getElem_cons_succ, List.getElem_cons_zero, List.setIfInBounds_toArray, List.set_cons_zero, List.set_cons_succ]
       refine wpAnyH_take (i := 19) (v := .bool true) rfl (by kernel_rfl) (by kernel_rfl) (by kernel_rfl) (fun _ _ _ h => h) (Or.inl ⟨by rfl, fun w' hSw => by go_simp⟩) hHeld ?_
       simp only [Act.put, List.getElem_toArray, List.getElem_cons_succ, List.getElem_cons_zero, List.setIfInBounds_toArray, List.set_cons_zero, List.set_cons_succ]
       refine wpAnyH_done (by kernel_rfl) ?_ _
       clear hHeld
       go_wp2_with fail
       go_ret
       exact ⟨rfl, HB_d9.out⟩
   · go_simp
     have hb : Below wd1.heap.size wd1 (wd1.alloc (.cells #[.int .i64 i7, .string s7, .slice q7 m7 c7, .int .i64 i9, .string s9, .slice q9 m9 c9] 30)) := (Below.refl _ _).alloc (Nat.le_refl _) _
     have BB_d2 : Hid (RowAt 3 (TyP (wd1.alloc (.cells #[.int .i64 i7, .string s7, .slice q7 m7 c7, .int .i64 i9, .string s9, .slice q9 m9 c9] 30))) (wd1.alloc (.cells #[.int .i64 i7, .string s7, .slice q7 m7 c7, .int .i64 i9, .string s9, .slice q9 m9 c9] 30)) (.slice (some ⟨wd1.heap.size, 0, none⟩) 2 2) [x, y]) := Lib.hid (row_two (ent_new wd1 #[.int .i64 i7, .string s7, .slice q7 m7 c7, .int .i64 i9, .string s9, .slice q9 m9 c9] 30) (tyP_below HX_d1.out hb) (tyP_below HY_d1.out hb))
     have E7_d2 := Lib.hid (ent_below E7_d1.out hb)
     have HX_d2 := Lib.hid (tyP_below HX_d1.out hb)
     have E9_d2 := Lib.hid (ent_below E9_d1.out hb)
     have HY_d2 := Lib.hid (tyP_below HY_d1.out hb)
     have S1_d2 := Lib.hid (S1_d1.out.below hb)
     have S2_d2 := Lib.hid (S2_d1.out.below hb)
     have B_d2 := Lib.hid (rowT_below B_d1.out hb)
     have HB_d2 := Lib.hid (HB_d1.out.trans (hb.mono HB_d1.out.size))
     clear hb HB_d1 E7_d1 HX_d1 E9_d1 HY_d1 S1_d1 S2_d1 B_d1
     obtain ⟨bBB, hbBB⟩ : ∃ b, b = wd1.heap.size := ⟨_, rfl⟩
     rw [← hbBB] at BB_d2 ⊢
     clear hbBB
     generalize (wd1.alloc (.cells #[.int .i64 i7, .string s7, .slice q7 m7 c7, .int .i64 i9, .string s9, .slice q9 m9 c9] 30)) = wd2 at BB_d2 HB_d2 E7_d2 HX_d2 E9_d2 HY_d2 S1_d2 S2_d2 B_d2 ⊢
     refine hK.out _ _ ⟨E7_d2.out, E9_d2.out⟩ (fun hHeld => ?_)
     clear hK K
     refine wpAnyH_ready (rs := [7]) (by kernel_rfl) (by simp) ?_
     refine AllReadyH.cons rfl (fun K hK => ?_) AllReadyH.nil
     go_simp
     refine (of2_any [80] _ [x, y] wd2 B_d2.out (by simp)).mono ?_
     rintro e wd3 ⟨rp, rfl, hb, hr⟩
     rw [← HBT.out] at hr
     have HP_d3 := Lib.hid hr; clear hr B_d2
     have E7_d3 := Lib.hid (ent_below E7_d2.out hb)
     have HX_d3 := Lib.hid (tyP_below HX_d2.out hb)
     have E9_d3 := Lib.hid (ent_below E9_d2.out hb)
     have HY_d3 := Lib.hid (tyP_below HY_d2.out hb)
     have S1_d3 := Lib.hid (S1_d2.out.below hb)
     have S2_d3 := Lib.hid (S2_d2.out.below hb)
     have BB_d3 := Lib.hid (rowT_below BB_d2.out hb)
     have HB_d3 := Lib.hid (HB_d2.out.trans (hb.mono HB_d2.out.size))
     clear hb HB_d2 E7_d2 HX_d2 E9_d2 HY_d2 S1_d2 S2_d2 BB_d2
     refine hK.out _ _ ⟨E7_d3.out, E9_d3.out⟩ (fun hHeld => ?_)
     clear hK K
     refine wpAnyH_ready (rs := [8]) (by kernel_rfl) (by simp) ?_
     refine AllReadyH.cons rfl (fun K hK => ?_) AllReadyH.nil
     go_simp
     refine (apply_ok HM2.out.1 HN2.out (t := bt) S2_d3.out.p HP_d3.out HDN.out HPU.out.2.1).mono ?_
     rintro e wd4 ⟨rq, rfl, hb, hr⟩
     have HQ_d4 := Lib.hid hr; clear hr HP_d3
     have E7_d4 := Lib.hid (ent_below E7_d3.out hb)
     have HX_d4 := Lib.hid (tyP_below HX_d3.out hb)
     have E9_d4 := Lib.hid (ent_below E9_d3.out hb)
     have HY_d4 := Lib.hid (tyP_below HY_d3.out hb)
     have S1_d4 := Lib.hid (S1_d3.out.below hb)
     have S2_d4 := Lib.hid (S2_d3.out.below hb)
     have BB_d4 := Lib.hid (rowT_below BB_d3.out hb)
     have HB_d4 := Lib.hid (HB_d3.out.trans (hb.mono HB_d3.out.size))
     clear hb HB_d3 E7_d3 HX_d3 E9_d3 HY_d3 S1_d3 S2_d3 BB_d3
     refine hK.out _ _ ⟨E7_d4.out, E9_d4.out⟩ (fun hHeld => ?_)
     clear hK K
     refine wpAnyH_ready (rs := [9]) (by kernel_rfl) (by simp) ?_
     refine AllReadyH.cons rfl (fun K hK => ?_) AllReadyH.nil
     go_simp
     refine (canonP_any (bt.app N2) _ wd4 HQ_d4.out (by have := HPU.out.2.1.sz; omega)).mono ?_
     rintro e wd5 ⟨rr, rfl, hb, hr⟩
     have HR_d5 := Lib.hid (show TyP wd5 rr (Ux.canon (bt.app N1)) by rw [← HPU.out.2.2]; exact hr); clear hr HQ_d4
     have E7_d5 := Lib.hid (ent_below E7_d4.out hb)
     have HX_d5 := Lib.hid (tyP_below HX_d4.out hb)
     have E9_d5 := Lib.hid (ent_below E9_d4.out hb)
     have HY_d5 := Lib.hid (tyP_below HY_d4.out hb)
     have S1_d5 := Lib.hid (S1_d4.out.below hb)
     have S2_d5 := Lib.hid (S2_d4.out.below hb)
     have BB_d5 := Lib.hid (rowT_below BB_d4.out hb)
     have HB_d5 := Lib.hid (HB_d4.out.trans (hb.mono HB_d4.out.size))
     clear hb HB_d4 E7_d4 HX_d4 E9_d4 HY_d4 S1_d4 S2_d4 BB_d4
     refine hK.out _ _ ⟨E7_d5.out, E9_d5.out⟩ (fun hHeld => ?_)
     clear hK K
     refine wpAnyH_ready (rs := [14]) (by kernel_rfl) (by simp) ?_
     refine AllReadyH.cons rfl (fun K hK => ?_) AllReadyH.nil
     go_simp
     refine (of2_any [80] _ [x, y] wd5 BB_d5.out (by simp)).mono ?_
     rintro e wd6 ⟨rs, rfl, hb, hr⟩
     rw [← HBT.out] at hr
     have HP_d6 := Lib.hid hr; clear hr BB_d5
     have E7_d6 := Lib.hid (ent_below E7_d5.out hb)
     have HX_d6 := Lib.hid (tyP_below HX_d5.out hb)
     have E9_d6 := Lib.hid (ent_below E9_d5.out hb)
     have HY_d6 := Lib.hid (tyP_below HY_d5.out hb)
     have S1_d6 := Lib.hid (S1_d5.out.below hb)
     have S2_d6 := Lib.hid (S2_d5.out.below hb)
     have HR_d6 := Lib.hid (tyP_below HR_d5.out hb)
     have HB_d6 := Lib.hid (HB_d5.out.trans (hb.mono HB_d5.out.size))
     clear hb HB_d5 E7_d5 HX_d5 E9_d5 HY_d5 S1_d5 S2_d5 HR_d5
     refine hK.out _ _ ⟨E7_d6.out, E9_d6.out⟩ (fun hHeld => ?_)
     clear hK K
     refine wpAnyH_ready (rs := [15]) (by kernel_rfl) (by simp) ?_
     refine AllReadyH.cons rfl (fun K hK => ?_) AllReadyH.nil
     go_simp
     refine (apply_ok HM1.out.1 HN1.out (t := bt) S1_d6.out.p HP_d6.out HDM.out.1 HPU.out.1).mono ?_
     rintro e wd7 ⟨rt, rfl, hb, hr⟩
     have HQ_d7 := Lib.hid hr; clear hr HP_d6
     have E7_d7 := Lib.hid (ent_below E7_d6.out hb)
     have HX_d7 := Lib.hid (tyP_below HX_d6.out hb)
     have E9_d7 := Lib.hid (ent_below E9_d6.out hb)
     have HY_d7 := Lib.hid (tyP_below HY_d6.out hb)
     have S1_d7 := Lib.hid (S1_d6.out.below hb)
     have S2_d7 := Lib.hid (S2_d6.out.below hb)
     have HR_d7 := Lib.hid (tyP_below HR_d6.out hb)
     have HB_d7 := Lib.hid (HB_d6.out.trans (hb.mono HB_d6.out.size))
     clear hb HB_d6 E7_d6 HX_d6 E9_d6 HY_d6 S1_d6 S2_d6 HR_d6
     refine hK.out _ _ ⟨E7_d7.out, E9_d7.out⟩ (fun hHeld => ?_)
     clear hK K
     refine wpAnyH_ready (rs := [16]) (by kernel_rfl) (by simp) ?_
     refine AllReadyH.cons rfl (fun K hK => ?_) AllReadyH.nil
     go_simp
     refine (canonP_any (bt.app N1) _ wd7 HQ_d7.out (by have := HPU.out.1.sz; omega)).mono ?_
     rintro e wd8 ⟨ru, rfl, hb, hr⟩
     have HC_d8 := Lib.hid hr; clear hr HQ_d7
     have E7_d8 := Lib.hid (ent_below E7_d7.out hb)
     have HX_d8 := Lib.hid (tyP_below HX_d7.out hb)
     have E9_d8 := Lib.hid (ent_below E9_d7.out hb)
     have HY_d8 := Lib.hid (tyP_below HY_d7.out hb)
     have S1_d8 := Lib.hid (S1_d7.out.below hb)
     have S2_d8 := Lib.hid (S2_d7.out.below hb)
     have HR_d8 := Lib.hid (tyP_below HR_d7.out hb)
     have HB_d8 := Lib.hid (HB_d7.out.trans (hb.mono HB_d7.out.size))
     clear hb HB_d7 E7_d7 HX_d7 E9_d7 HY_d7 S1_d7 S2_d7 HR_d7
     refine hK.out _ _ ⟨E7_d8.out, E9_d8.out⟩ (fun hHeld => ?_)
     clear hK K
     refine wpAnyH_ready (rs := [17]) (by kernel_rfl) (by simp) ?_
     refine AllReadyH.cons rfl (fun K hK => ?_) AllReadyH.nil
     go_simp
     refine (like_same (okT_canon HPU.out.1) rr ru wd8 HR_d8.out HC_d8.out (HTB.out wd8 HB_d8.out)).mono ?_
     rintro e wd9 ⟨rfl, hb⟩
     clear HR_d8 HC_d8
     have E7_d9 := Lib.hid (ent_below E7_d8.out hb)
     have HX_d9 := Lib.hid (tyP_below HX_d8.out hb)
     have E9_d9 := Lib.hid (ent_below E9_d8.out hb)
     have HY_d9 := Lib.hid (tyP_below HY_d8.out hb)
     have S1_d9 := Lib.hid (S1_d8.out.below hb)
     have S2_d9 := Lib.hid (S2_d8.out.below hb)
     have HB_d9 := Lib.hid (HB_d8.out.trans (hb.mono HB_d8.out.size))
     clear hb HB_d8 E7_d8 HX_d8 E9_d8 HY_d8 S1_d8 S2_d8
     refine hK.out _ _ ⟨E7_d9.out, E9_d9.out⟩ (fun hHeld => ?_)
     clear hK K
     refine wpAnyH_take (i := 18) (v := .bool true) rfl (by kernel_rfl) (by kernel_rfl) (by kernel_rfl) (fun _ _ _ h => h) (Or.inl ⟨by rfl, fun w' hSw => by go_simp⟩) hHeld ?_
     simp only [Act.put, List.getElem_toArray, List.getElem_cons_succ, List.getElem_cons_zero, List.setIfInBounds_toArray, List.set_cons_zero, List.set_cons_succ]
     refine wpAnyH_take (i := 19) (v := .bool true) rfl (by kernel_rfl) (by kernel_rfl) (by kernel_rfl) (fun _ _ _ h => h) (Or.inl ⟨by rfl, fun w' hSw => by go_simp⟩) hHeld ?_
     simp only [Act.put, List.getElem_toArray, List.getElem_cons_succ, List.getElem_cons_zero, List.setIfInBounds_toArray, List.set_cons_zero, List.set_cons_succ]
     refine wpAnyH_done (by kernel_rfl) ?_ _
     clear hHeld
     go_wp2_with fail
     go_ret
     exact ⟨rfl, HB_d9.out⟩
 · go_simp
   have hb : Below wd0.heap.size wd0 (wd0.alloc (.cells #[.int .i64 i7, .string s7, .slice q7 m7 c7, .int .i64 i9, .string s9, .slice q9 m9 c9] 30)) := (Below.refl _ _).alloc (Nat.le_refl _) _
   have BB_d1 : Hid (RowAt 3 (TyP (wd0.alloc (.cells #[.int .i64 i7, .string s7, .slice q7 m7 c7, .int .i64 i9, .string s9, .slice q9 m9 c9] 30))) (wd0.alloc (.cells #[.int .i64 i7, .string s7, .slice q7 m7 c7, .int .i64 i9, .string s9, .slice q9 m9 c9] 30)) (.slice (some ⟨wd0.heap.size, 0, none⟩) 2 2) [x, y]) := Lib.hid (row_two (ent_new wd0 #[.int .i64 i7, .string s7, .slice q7 m7 c7, .int .i64 i9, .string s9, .slice q9 m9 c9] 30) (tyP_below HX_d0.out hb) (tyP_below HY_d0.out hb))
   have E7_d1 := Lib.hid (ent_below E7_d0.out hb)
   have HX_d1 := Lib.hid (tyP_below HX_d0.out hb)
   have E9_d1 := Lib.hid (ent_below E9_d0.out hb)
   have HY_d1 := Lib.hid (tyP_below HY_d0.out hb)
   have S1_d1 := Lib.hid (S1_d0.out.below hb)
   have S2_d1 := Lib.hid (S2_d0.out.below hb)
   have HB_d1 := Lib.hid (HB_d0.out.trans (hb.mono HB_d0.out.size))
   clear hb HB_d0 E7_d0 HX_d0 E9_d0 HY_d0 S1_d0 S2_d0
   obtain ⟨bBB, hbBB⟩ : ∃ b, b = wd0.heap.size := ⟨_, rfl⟩
   rw [← hbBB] at BB_d1 ⊢
   clear hbBB
   generalize (wd0.alloc (.cells #[.int .i64 i7, .string s7, .slice q7 m7 c7, .int .i64 i9, .string s9, .slice q9 m9 c9] 30)) = wd1 at BB_d1 HB_d1 E7_d1 HX_d1 E9_d1 HY_d1 S1_d1 S2_d1 ⊢
   refine hK.out _ _ ⟨E7_d1.out, E9_d1.out⟩ (fun hHeld => ?_)
   clear hK K
   refine wpAnyH_ready (rs := [6]) (by kernel_rfl) (by simp) ?_
   refine AllReadyH.cons rfl (fun K hK => ?_) AllReadyH.nil
   go_simp
   have hb : Below wd1.heap.size wd1 (wd1.alloc (.cells #[.int .i64 i7, .string s7, .slice q7 m7 c7, .int .i64 i9, .string s9, .slice q9 m9 c9] 30)) := (Below.refl _ _).alloc (Nat.le_refl _) _
   have B_d2 : Hid (RowAt 3 (TyP (wd1.alloc (.cells #[.int .i64 i7, .string s7, .slice q7 m7 c7, .int .i64 i9, .string s9, .slice q9 m9 c9] 30))) (wd1.alloc (.cells #[.int .i64 i7, .string s7, .slice q7 m7 c7, .int .i64 i9, .string s9, .slice q9 m9 c9] 30)) (.slice (some ⟨wd1.heap.size, 0, none⟩) 2 2) [x, y]) := Lib.hid (row_two (ent_new wd1 #[.int .i64 i7, .string s7, .slice q7 m7 c7, .int .i64 i9, .string s9, .slice q9 m9 c9] 30) (tyP_below HX_d1.out hb) (tyP_below HY_d1.out hb))
   have E7_d2 := Lib.hid (ent_below E7_d1.out hb)
   have HX_d2 := Lib.hid (tyP_below HX_d1.out hb)
   have E9_d2 := Lib.hid (ent_below E9_d1.out hb)
   have HY_d2 := Lib.hid (tyP_below HY_d1.out hb)
   have S1_d2 := Lib.hid (S1_d1.out.below hb)
   have S2_d2 := Lib.hid (S2_d1.out.below hb)
   have BB_d2 := Lib.hid (rowT_below BB_d1.out hb)
   have HB_d2 := Lib.hid (HB_d1.out.trans (hb.mono HB_d1.out.size))
   clear hb HB_d1 E7_d1 HX_d1 E9_d1 HY_d1 S1_d1 S2_d1 BB_d1
   obtain ⟨bB, hbB⟩ : ∃ b, b = wd1.heap.size := ⟨_, rfl⟩
   rw [← hbB] at B_d2 ⊢
   clear hbB
   generalize (wd1.alloc (.cells #[.int .i64 i7, .string s7, .slice q7 m7 c7, .int .i64 i9, .string s9, .slice q9 m9 c9] 30)) = wd2 at B_d2 HB_d2 E7_d2 HX_d2 E9_d2 HY_d2 S1_d2 S2_d2 BB_d2 ⊢
   refine hK.out _ _ ⟨E7_d2.out, E9_d2.out⟩ (fun hHeld => ?_)
   clear hK K
   refine wpAnyH_ready (rs := [7]) (by kernel_rfl) (by simp) ?_
   refine AllReadyH.cons rfl (fun K hK => ?_) AllReadyH.nil
   go_simp
   refine (of2_any [80] _ [x, y] wd2 B_d2.out (by simp)).mono ?_
   rintro e wd3 ⟨rp, rfl, hb, hr⟩
   rw [← HBT.out] at hr
   have HP_d3 := Lib.hid hr; clear hr B_d2
   have E7_d3 := Lib.hid (ent_below E7_d2.out hb)
   have HX_d3 := Lib.hid (tyP_below HX_d2.out hb)
   have E9_d3 := Lib.hid (ent_below E9_d2.out hb)
   have HY_d3 := Lib.hid (tyP_below HY_d2.out hb)
   have S1_d3 := Lib.hid (S1_d2.out.below hb)
   have S2_d3 := Lib.hid (S2_d2.out.below hb)
   have BB_d3 := Lib.hid (rowT_below BB_d2.out hb)
   have HB_d3 := Lib.hid (HB_d2.out.trans (hb.mono HB_d2.out.size))
   clear hb HB_d2 E7_d2 HX_d2 E9_d2 HY_d2 S1_d2 S2_d2 BB_d2
   refine hK.out _ _ ⟨E7_d3.out, E9_d3.out⟩ (fun hHeld => ?_)
   clear hK K
   refine wpAnyH_ready (rs := [8]) (by kernel_rfl) (by simp) ?_
   refine AllReadyH.cons rfl (fun K hK => ?_) AllReadyH.nil
   go_simp
   refine (apply_ok HM2.out.1 HN2.out (t := bt) S2_d3.out.p HP_d3.out HDN.out HPU.out.2.1).mono ?_
   rintro e wd4 ⟨rq, rfl, hb, hr⟩
   have HQ_d4 := Lib.hid hr; clear hr HP_d3
   have E7_d4 := Lib.hid (ent_below E7_d3.out hb)
   have HX_d4 := Lib.hid (tyP_below HX_d3.out hb)
   have E9_d4 := Lib.hid (ent_below E9_d3.out hb)
   have HY_d4 := Lib.hid (tyP_below HY_d3.out hb)
   have S1_d4 := Lib.hid (S1_d3.out.below hb)
   have S2_d4 := Lib.hid (S2_d3.out.below hb)
   have BB_d4 := Lib.hid (rowT_below BB_d3.out hb)
   have HB_d4 := Lib.hid (HB_d3.out.trans (hb.mono HB_d3.out.size))
   clear hb HB_d3 E7_d3 HX_d3 E9_d3 HY_d3 S1_d3 S2_d3 BB_d3
   refine hK.out _ _ ⟨E7_d4.out, E9_d4.out⟩ (fun hHeld => ?_)
   clear hK K
   refine wpAnyH_ready (rs := [9]) (by kernel_rfl) (by simp) ?_
   refine AllReadyH.cons rfl (fun K hK => ?_) AllReadyH.nil
   go_simp
   refine (canonP_any (bt.app N2) _ wd4 HQ_d4.out (by have := HPU.out.2.1.sz; omega)).mono ?_
   rintro e wd5 ⟨rr, rfl, hb, hr⟩
   have HR_d5 := Lib.hid (show TyP wd5 rr (Ux.canon (bt.app N1)) by rw [← HPU.out.2.2]; exact hr); clear hr HQ_d4
   have E7_d5 := Lib.hid (ent_below E7_d4.out hb)
   have HX_d5 := Lib.hid (tyP_below HX_d4.out hb)
   have E9_d5 := Lib.hid (ent_below E9_d4.out hb)
   have HY_d5 := Lib.hid (tyP_below HY_d4.out hb)
   have S1_d5 := Lib.hid (S1_d4.out.below hb)
   have S2_d5 := Lib.hid (S2_d4.out.below hb)
   have BB_d5 := Lib.hid (rowT_below BB_d4.out hb)
   have HB_d5 := Lib.hid (HB_d4.out.trans (hb.mono HB_d4.out.size))
   clear hb HB_d4 E7_d4 HX_d4 E9_d4 HY_d4 S1_d4 S2_d4 BB_d4
   refine hK.out _ _ ⟨E7_d5.out, E9_d5.out⟩ (fun hHeld => ?_)
   clear hK K
   refine wpAnyH_ready (rs := [14]) (by kernel_rfl) (by simp) ?_
   refine AllReadyH.cons rfl (fun K hK => ?_) AllReadyH.nil
   go_simp
   refine (of2_any [80] _ [x, y] wd5 BB_d5.out (by simp)).mono ?_
   rintro e wd6 ⟨rs, rfl, hb, hr⟩
   rw [← HBT.out] at hr
   have HP_d6 := Lib.hid hr; clear hr BB_d5
   have E7_d6 := Lib.hid (ent_below E7_d5.out hb)
   have HX_d6 := Lib.hid (tyP_below HX_d5.out hb)
   have E9_d6 := Lib.hid (ent_below E9_d5.out hb)
   have HY_d6 := Lib.hid (tyP_below HY_d5.out hb)
   have S1_d6 := Lib.hid (S1_d5.out.below hb)
   have S2_d6 := Lib.hid (S2_d5.out.below hb)
   have HR_d6 := Lib.hid (tyP_below HR_d5.out hb)
   have HB_d6 := Lib.hid (HB_d5.out.trans (hb.mono HB_d5.out.size))
   clear hb HB_d5 E7_d5 HX_d5 E9_d5 HY_d5 S1_d5 S2_d5 HR_d5
   refine hK.out _ _ ⟨E7_d6.out, E9_d6.out⟩ (fun hHeld => ?_)
   clear hK K
   refine wpAnyH_ready (rs := [15]) (by kernel_rfl) (by simp) ?_
   refine AllReadyH.cons rfl (fun K hK => ?_) AllReadyH.nil
   go_simp
   refine (apply_ok HM1.out.1 HN1.out (t := bt) S1_d6.out.p HP_d6.out HDM.out.1 HPU.out.1).mono ?_
   rintro e wd7 ⟨rt, rfl, hb, hr⟩
   have HQ_d7 := Lib.hid hr; clear hr HP_d6
   have E7_d7 := Lib.hid (ent_below E7_d6.out hb)
   have HX_d7 := Lib.hid (tyP_below HX_d6.out hb)
   have E9_d7 := Lib.hid (ent_below E9_d6.out hb)
   have HY_d7 := Lib.hid (tyP_below HY_d6.out hb)
   have S1_d7 := Lib.hid (S1_d6.out.below hb)
   have S2_d7 := Lib.hid (S2_d6.out.below hb)
   have HR_d7 := Lib.hid (tyP_below HR_d6.out hb)
   have HB_d7 := Lib.hid (HB_d6.out.trans (hb.mono HB_d6.out.size))
   clear hb HB_d6 E7_d6 HX_d6 E9_d6 HY_d6 S1_d6 S2_d6 HR_d6
   refine hK.out _ _ ⟨E7_d7.out, E9_d7.out⟩ (fun hHeld => ?_)
   clear hK K
   refine wpAnyH_ready (rs := [16]) (by kernel_rfl) (by simp) ?_
   refine AllReadyH.cons rfl (fun K hK => ?_) AllReadyH.nil
   go_simp
   refine (canonP_any (bt.app N1) _ wd7 HQ_d7.out (by have := HPU.out.1.sz; omega)).mono ?_
   rintro e wd8 ⟨ru, rfl, hb, hr⟩
   have HC_d8 := Lib.hid hr; clear hr HQ_d7
   have E7_d8 := Lib.hid (ent_below E7_d7.out hb)
   have HX_d8 := Lib.hid (tyP_below HX_d7.out hb)
   have E9_d8 := Lib.hid (ent_below E9_d7.out hb)
   have HY_d8 := Lib.hid (tyP_below HY_d7.out hb)
   have S1_d8 := Lib.hid (S1_d7.out.below hb)
   have S2_d8 := Lib.hid (S2_d7.out.below hb)
   have HR_d8 := Lib.hid (tyP_below HR_d7.out hb)
   have HB_d8 := Lib.hid (HB_d7.out.trans (hb.mono HB_d7.out.size))
   clear hb HB_d7 E7_d7 HX_d7 E9_d7 HY_d7 S1_d7 S2_d7 HR_d7
   refine hK.out _ _ ⟨E7_d8.out, E9_d8.out⟩ (fun hHeld => ?_)
   clear hK K
   refine wpAnyH_ready (rs := [17]) (by kernel_rfl) (by simp) ?_
   refine AllReadyH.cons rfl (fun K hK => ?_) AllReadyH.nil
   go_simp
   refine (like_same (okT_canon HPU.out.1) rr ru wd8 HR_d8.out HC_d8.out (HTB.out wd8 HB_d8.out)).mono ?_
   rintro e wd9 ⟨rfl, hb⟩
   clear HR_d8 HC_d8
   have E7_d9 := Lib.hid (ent_below E7_d8.out hb)
   have HX_d9 := Lib.hid (tyP_below HX_d8.out hb)
   have E9_d9 := Lib.hid (ent_below E9_d8.out hb)
   have HY_d9 := Lib.hid (tyP_below HY_d8.out hb)
   have S1_d9 := Lib.hid (S1_d8.out.below hb)
   have S2_d9 := Lib.hid (S2_d8.out.below hb)
   have HB_d9 := Lib.hid (HB_d8.out.trans (hb.mono HB_d8.out.size))
   clear hb HB_d8 E7_d8 HX_d8 E9_d8 HY_d8 S1_d8 S2_d8
   refine hK.out _ _ ⟨E7_d9.out, E9_d9.out⟩ (fun hHeld => ?_)
   clear hK K
   refine wpAnyH_take (i := 18) (v := .bool true) rfl (by kernel_rfl) (by kernel_rfl) (by kernel_rfl) (fun _ _ _ h => h) (Or.inl ⟨by rfl, fun w' hSw => by go_simp⟩) hHeld ?_
   simp only [Act.put, List.getElem_toArray, List.getElem_cons_succ, List.getElem_cons_zero, List.setIfInBounds_toArray, List.set_cons_zero, List.set_cons_succ]
   refine wpAnyH_take (i := 19) (v := .bool true) rfl (by kernel_rfl) (by kernel_rfl) (by kernel_rfl) (fun _ _ _ h => h) (Or.inl ⟨by rfl, fun w' hSw => by go_simp⟩) hHeld ?_
   simp only [Act.put, List.getElem_toArray, List.getElem_cons_succ, List.getElem_cons_zero, List.setIfInBounds_toArray, List.set_cons_zero, List.set_cons_succ]
   refine wpAnyH_done (by kernel_rfl) ?_ _
   clear hHeld
   go_wp2_with fail
   go_ret
   exact ⟨rfl, HB_d9.out⟩
end Go.Proofs.YtcblppojnailpaaDoor
