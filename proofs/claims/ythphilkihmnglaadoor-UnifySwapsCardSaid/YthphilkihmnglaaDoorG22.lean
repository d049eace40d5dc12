/-
  UnifySwaps: its walk.
-/
import Derived.Test.YthphilkihmnglaaDoorG21
import Derived.Test.YthphilkihmnglaaDoorG14
import Derived.Test.YthphilkihmnglaaDoorG19
namespace Go.Proofs.YthphilkihmnglaaDoor
open Go Go.RowKit
set_option linter.unusedVariables false
set_option linter.unusedSimpArgs false
theorem small_ok {t : Ux.Ty} (h : OkT t) (hs : t.sz ≤ 19) (hv : ∀ n ∈ t.vs, n < 6) : Ux.Small 19 6 t := ⟨h.plain, hs, hv⟩
theorem made_one_all {f : Ux.Map} {a b : Ux.Ty} (h : Ux.Made (fun _ => none) f a b) (σ : Ux.Sub) : Ux.Sol f σ ↔ Ux.AllOne [(a, b)] σ := by
 rw [h.2 σ]
 exact ⟨fun h p hp => by rw [List.mem_singleton.1 hp]; exact h.2, fun h => ⟨(fun n t h => by cases h), h (a, b) (by simp)⟩⟩
theorem made_two_all {f f' : Ux.Map} {a b c : Ux.Ty} (h : Ux.Made (fun _ => none) f a b) (h2 : Ux.Made f f' a c) (σ : Ux.Sub) : Ux.Sol f' σ ↔ Ux.AllOne [(a, b), (a, c)] σ := by
 rw [h2.2 σ, made_one_all h σ]
 constructor
 · rintro ⟨h3, h4⟩ p hp
   rcases List.mem_cons.1 hp with rfl | hp
   · exact h3 _ (by simp)
   · rw [List.mem_singleton.1 hp]; exact h4
 · intro h3
   exact ⟨fun p hp => h3 p (by rw [List.mem_singleton.1 hp]; simp), h3 (a, c) (by simp)⟩
theorem three_small {x y z : Ux.Ty} (hx : Ux.Small 19 6 x) (hy : Ux.Small 19 6 y) (hz : Ux.Small 19 6 z) : (Ux.Plain (.a [97, 108, 108] [x, y, z]) ∧ ∀ m ∈ (Ux.Ty.a [97, 108, 108] [x, y, z]).vs, m < 6) ∧ (Ux.Ty.a [97, 108, 108] [x, y, z]).sz * 19 ^ 6 ≤ 10000000000 := by
 refine ⟨⟨Ux.plain_a ⟨by decide, by decide⟩ fun u hu => ?_, fun m hm => ?_⟩, ?_⟩
 · simp at hu
   rcases hu with rfl | rfl | rfl
   · exact hx.1
   · exact hy.1
   · exact hz.1
 · rw [Ux.vs_a] at hm
   simp at hm
   rcases hm with h | h | h
   · exact hx.2.2 m h
   · exact hy.2.2 m h
   · exact hz.2.2 m h
 · have h : (Ux.Ty.a [97, 108, 108] [x, y, z]).sz ≤ 58 := by rw [Ux.sz_a]; have := hx.2.1; have := hy.2.1; have := hz.2.1; simp; omega
   exact Nat.le_trans (Nat.mul_le_mul_right _ h) (by decide)
theorem one_small {x : Ux.Ty} (hx : Ux.Small 19 6 x) : (Ux.Plain x ∧ ∀ m ∈ x.vs, m < 6) ∧ x.sz * 19 ^ 6 ≤ 10000000000 :=
 ⟨⟨hx.1, hx.2.2⟩, Nat.le_trans (Nat.mul_le_mul_right _ hx.2.1) (by decide)⟩
theorem swaps_canon {f1 f2 : Ux.Map} {x y : Ux.Ty} (h1 : Ux.Made (fun _ => none) f1 x y) (h2 : Ux.Made (fun _ => none) f2 y x) {N1 N2 : Ux.Sub} (hN1 : Ux.Norm f1 N1) (hN2 : Ux.Norm f2 N2) (t : Ux.Ty) : Ux.canon (t.app N1) = Ux.canon (t.app N2) := by
 have a : Ux.Sol f2 N1 := (h2.2 N1).2 ⟨(fun n t h => by cases h), (((h1.2 N1).1 hN1.sol).2).symm⟩
 have b : Ux.Sol f1 N2 := (h1.2 N2).2 ⟨(fun n t h => by cases h), (((h2.2 N2).1 hN2.sol).2).symm⟩
 refine Ux.variants (ρ := N1) (τ := N2) ?_ ?_
 · rw [Ux.app_app]; exact Ux.app_congr t fun n _ => hN2.most h2.1 a n
 · rw [Ux.app_app]; exact Ux.app_congr t fun n _ => hN1.most h1.1 b n
set_option maxHeartbeats 4000000 in
set_option maxRecDepth 100000 in
theorem unifySwaps_walk (v : Value) (l : List Ux.Nod) (v2 : Value) (l2 : List Ux.Nod) (v3 : Value) (l3 : List Ux.Nod) (w : World) (hl : RowAt 3 NodV w v l) (hl2 : RowAt 3 NodV w v2 l2) (hl3 : RowAt 3 NodV w v3 l3) (htab : Lib.TabIs Tryd.prog w "internal/strconv.uint64pow10" .u64 Lib.pow10Tab) :
 Calls Tryd.prog 6 #[v, v2, v3] w (fun e w' => e = .returned (.bool true) ∧ Below w.heap.size w w') := by
 have HTB := Lib.hid (fun (w' : World) (hb : Below w.heap.size w w') => (Lib.tabBelow_of_tabIs htab) w' hb)
 have HLV := Lib.hid (fun (w' : World) (hb : Below w.heap.size w w') => lives_any w' ((Lib.tabBelow_of_tabIs htab) w' hb))
 clear htab
 obtain ⟨lq, lc, rfl⟩ := hl.len
 obtain ⟨lq2, lc2, rfl⟩ := hl2.len
 obtain ⟨lq3, lc3, rfl⟩ := hl3.len
 obtain ⟨n0, hn0⟩ : ∃ n0, n0 = l.length := ⟨_, rfl⟩
 obtain ⟨n2, hn2⟩ : ∃ n2, n2 = l2.length := ⟨_, rfl⟩
 obtain ⟨n3, hn3⟩ : ∃ n3, n3 = l3.length := ⟨_, rfl⟩
 rw [← hn0] at hl ⊢
 rw [← hn2] at hl2 ⊢
 rw [← hn3] at hl3 ⊢
 have HN0 := Lib.hid hn0; have HN2 := Lib.hid hn2; have HN3 := Lib.hid hn3
 have HL := Lib.hid hl; have HL2 := Lib.hid hl2; have HL3 := Lib.hid hl3
 clear hl hn0 hl2 hn2 hl3 hn3
 go_enter Tryd.func6, Tryd.ntmps6
 go_wp2_with fail
 refine (HLV.out w (Below.refl _ _)).mono ?_
 rintro e w1 ⟨rfl, hb1⟩
 have HB_w1 := Lib.hid hb1
 clear hb1
 by_cases hbig0 : 9 < n0
 · have d1 : decide ((9 : Int) < (n0 : Int)) = true := by simp; omega
   go_wp2_with fail
   refine (HLV.out w1 HB_w1.out).mono ?_
   rintro e w2 ⟨rfl, hb2⟩
   have HB2 := Lib.hid (HB_w1.out.trans (hb2.mono HB_w1.out.size))
   clear hb2
   go_wp2_with fail
   go_ret
   exact ⟨rfl, HB2.out⟩
 have d1 : decide ((9 : Int) < (n0 : Int)) = false := by simp; omega
 by_cases hbig1 : 9 < n2
 · have d2 : decide ((9 : Int) < (n2 : Int)) = true := by simp; omega
   go_wp2_with fail
   refine (HLV.out w1 HB_w1.out).mono ?_
   rintro e w2 ⟨rfl, hb2⟩
   have HB2 := Lib.hid (HB_w1.out.trans (hb2.mono HB_w1.out.size))
   clear hb2
   go_wp2_with fail
   go_ret
   exact ⟨rfl, HB2.out⟩
 have d2 : decide ((9 : Int) < (n2 : Int)) = false := by simp; omega
 by_cases hbig2 : 9 < n3
 · have d3 : decide ((9 : Int) < (n3 : Int)) = true := by simp; omega
   go_wp2_with fail
   refine (HLV.out w1 HB_w1.out).mono ?_
   rintro e w2 ⟨rfl, hb2⟩
   have HB2 := Lib.hid (HB_w1.out.trans (hb2.mono HB_w1.out.size))
   clear hb2
   go_wp2_with fail
   go_ret
   exact ⟨rfl, HB2.out⟩
 have d3 : decide ((9 : Int) < (n3 : Int)) = false := by simp; omega
 have HBN := Lib.hid (⟨by omega, by omega, by omega⟩ : n0 ≤ 9 ∧ n2 ≤ 9 ∧ n3 ≤ 9)
 go_wp2_with fail
 clear d1 d2 d3 hbig0 hbig1 hbig2
 have HM0 := Lib.hid (show l.length ≤ 9 by have := HBN.out; have := HN0.out; omega); have HM2 := Lib.hid (show l2.length ≤ 9 by have := HBN.out; have := HN2.out; omega); have HM3 := Lib.hid (show l3.length ≤ 9 by have := HBN.out; have := HN3.out; omega)
 refine (typ13 l _ w1 (HL.out.mono HB_w1.out fun u x _ h => h) (by have := HM0.out; omega)).mono ?_
 rintro e w2 ⟨tv, rfl, hnew, hb⟩
 have HTYX := Lib.hid (Ux.typN_vs 13 l)
 have HOKX := Lib.hid (typN_ok 13 (l := l) (by have := HM0.out; omega))
 have HSX := Lib.hid (show (Ux.typN 13 l).1.sz ≤ 19 by have h1 := Ux.typN_sz 13 l; have h2 := Ux.typN_le 13 l; have := HM0.out; omega)
 obtain ⟨x, hx⟩ : ∃ t, t = (Ux.typN 13 l).1 := ⟨_, rfl⟩
 rw [← hx] at hnew HTYX HOKX HSX
 obtain ⟨i7, s7, q7, m7, c7, rfl⟩ := tyP_sh hnew.now
 have hty := hnew.now
 clear hx hnew
 have HB_w2 := Lib.hid (HB_w1.out.trans (hb.mono HB_w1.out.size))
 clear hb HB_w1  
 go_wp2_with fail
 have hba : Below w2.heap.size w2 (w2.alloc (.cells #[.int .i64 i7, .string s7, .slice q7 m7 c7] 30)) := (Below.refl _ _).alloc (Nat.le_refl _) _
 have E7_wa := Lib.hid (ent_new w2 #[.int .i64 i7, .string s7, .slice q7 m7 c7] 30)
 have HX_wa := Lib.hid (tyP_below hty hba)
 have HB_wa := Lib.hid (HB_w2.out.trans (hba.mono HB_w2.out.size))
 obtain ⟨P7, hP7⟩ : ∃ P, P = w2.heap.size := ⟨_, rfl⟩
 rw [← hP7] at E7_wa ⊢
 generalize (w2.alloc (.cells #[.int .i64 i7, .string s7, .slice q7 m7 c7] 30)) = wa at E7_wa HX_wa HB_wa  ⊢
 clear hba hty hP7 HB_w2 
 refine (typ13 l2 _ wa (HL2.out.mono HB_wa.out fun u x _ h => h) (by have := HM2.out; omega)).mono ?_
 rintro e w3 ⟨tv, rfl, hnew, hb⟩
 have HTYY := Lib.hid (Ux.typN_vs 13 l2)
 have HOKY := Lib.hid (typN_ok 13 (l := l2) (by have := HM2.out; omega))
 have HSY := Lib.hid (show (Ux.typN 13 l2).1.sz ≤ 19 by have h1 := Ux.typN_sz 13 l2; have h2 := Ux.typN_le 13 l2; have := HM2.out; omega)
 obtain ⟨y, hy⟩ : ∃ t, t = (Ux.typN 13 l2).1 := ⟨_, rfl⟩
 rw [← hy] at hnew HTYY HOKY HSY
 obtain ⟨i9, s9, q9, m9, c9, rfl⟩ := tyP_sh hnew.now
 have hty := hnew.now
 clear hy hnew
 have HB_w3 := Lib.hid (HB_wa.out.trans (hb.mono HB_wa.out.size))
 have E7_w3 := Lib.hid (ent_below E7_wa.out hb); have HX_w3 := Lib.hid (tyP_below HX_wa.out hb)
 clear hb HB_wa E7_wa HX_wa 
 go_wp2_with fail
 have hba : Below w3.heap.size w3 (w3.alloc (.cells #[.int .i64 i9, .string s9, .slice q9 m9 c9] 30)) := (Below.refl _ _).alloc (Nat.le_refl _) _
 have E9_wb := Lib.hid (ent_new w3 #[.int .i64 i9, .string s9, .slice q9 m9 c9] 30)
 have HY_wb := Lib.hid (tyP_below hty hba)
 have HB_wb := Lib.hid (HB_w3.out.trans (hba.mono HB_w3.out.size))
 have E7_wb := Lib.hid (ent_below E7_w3.out hba); have HX_wb := Lib.hid (tyP_below HX_w3.out hba)
 obtain ⟨P9, hP9⟩ : ∃ P, P = w3.heap.size := ⟨_, rfl⟩
 rw [← hP9] at E9_wb ⊢
 generalize (w3.alloc (.cells #[.int .i64 i9, .string s9, .slice q9 m9 c9] 30)) = wb at E9_wb HY_wb HB_wb E7_wb HX_wb ⊢
 clear hba hty hP9 HB_w3 E7_w3 HX_w3
 refine (typ13 l3 _ wb (HL3.out.mono HB_wb.out fun u x _ h => h) (by have := HM3.out; omega)).mono ?_
 rintro e w4 ⟨tv, rfl, hnew, hb⟩
 have HTYZ := Lib.hid (Ux.typN_vs 13 l3)
 have HOKZ := Lib.hid (typN_ok 13 (l := l3) (by have := HM3.out; omega))
 have HSZ := Lib.hid (show (Ux.typN 13 l3).1.sz ≤ 19 by have h1 := Ux.typN_sz 13 l3; have h2 := Ux.typN_le 13 l3; have := HM3.out; omega)
 obtain ⟨z, hz⟩ : ∃ t, t = (Ux.typN 13 l3).1 := ⟨_, rfl⟩
 rw [← hz] at hnew HTYZ HOKZ HSZ
 obtain ⟨i11, s11, q11, m11, c11, rfl⟩ := tyP_sh hnew.now
 have hty := hnew.now
 clear hz hnew
 have HB_w4 := Lib.hid (HB_wb.out.trans (hb.mono HB_wb.out.size))
 have E7_w4 := Lib.hid (ent_below E7_wb.out hb); have HX_w4 := Lib.hid (tyP_below HX_wb.out hb)
 have E9_w4 := Lib.hid (ent_below E9_wb.out hb); have HY_w4 := Lib.hid (tyP_below HY_wb.out hb)
 clear hb HB_wb E7_wb HX_wb E9_wb HY_wb 
 go_upto_region 6 with fail
 have hba : Below w4.heap.size w4 (w4.alloc (.cells #[.int .i64 i11, .string s11, .slice q11 m11 c11] 30)) := (Below.refl _ _).alloc (Nat.le_refl _) _
 have E11_wc := Lib.hid (ent_new w4 #[.int .i64 i11, .string s11, .slice q11 m11 c11] 30)
 have HZ_wc := Lib.hid (tyP_below hty hba)
 have HB_wc := Lib.hid (HB_w4.out.trans (hba.mono HB_w4.out.size))
 have E7_wc := Lib.hid (ent_below E7_w4.out hba); have HX_wc := Lib.hid (tyP_below HX_w4.out hba)
 have E9_wc := Lib.hid (ent_below E9_w4.out hba); have HY_wc := Lib.hid (tyP_below HY_w4.out hba)
 obtain ⟨P11, hP11⟩ : ∃ P, P = w4.heap.size := ⟨_, rfl⟩
 rw [← hP11] at E11_wc ⊢
 generalize (w4.alloc (.cells #[.int .i64 i11, .string s11, .slice q11 m11 c11] 30)) = wc at E11_wc HZ_wc HB_wc E7_wc HX_wc E9_wc HY_wc ⊢
 clear hba hty hP11 HB_w4 E7_w4 HX_w4 E9_w4 HY_w4
 clear HM0 HM2 HM3 HBN
 have hmm := @run_makeMap Tryd.prog
 go_upto_region 7 with fail
 clear hmm
 have hbm1 : Below wc.heap.size wc (wc.alloc (.map #[] 0)) := (Below.refl _ _).alloc (Nat.le_refl _) _
 have hbm2 : Below (wc.alloc (.map #[] 0)).heap.size (wc.alloc (.map #[] 0)) ((wc.alloc (.map #[] 0)).alloc (.map #[] 0)) := (Below.refl _ _).alloc (Nat.le_refl _) _
 have hz1 : (wc.alloc (.map #[] 0)).heap.size = wc.heap.size + 1 := by simp
 have hba : Below wc.heap.size wc ((wc.alloc (.map #[] 0)).alloc (.map #[] 0)).drew := (hbm1.trans (hbm2.mono (by omega))).drew
 have E7_0 := Lib.hid (ent_below E7_wc.out hba); have E9_0 := Lib.hid (ent_below E9_wc.out hba); have E11_0 := Lib.hid (ent_below E11_wc.out hba)
 have HX_0 := Lib.hid (tyP_below HX_wc.out hba); have HY_0 := Lib.hid (tyP_below HY_wc.out hba); have HZ_0 := Lib.hid (tyP_below HZ_wc.out hba)
 have HB_0 := Lib.hid (HB_wc.out.trans (hba.mono HB_wc.out.size))
 have S1_0 : Hid (SubC 0 ((wc.alloc (.map #[] 0)).alloc (.map #[] 0)).drew wc.heap.size (fun _ => none)) := Lib.hid ((SubC.new wc).below hbm2.drew)
 have S2_0 : Hid (SubC 0 ((wc.alloc (.map #[] 0)).alloc (.map #[] 0)).drew (wc.heap.size + 1) (fun _ => none)) := Lib.hid (by have h := (SubC.new (wc.alloc (.map #[] 0))).below (Below.refl _ ((wc.alloc (.map #[] 0)).alloc (.map #[] 0))).drew; rw [hz1] at h; exact h)
 have HLO := Lib.hid (show w.heap.size ≤ wc.heap.size ∧ w.heap.size ≤ wc.heap.size + 1 ∧ wc.heap.size ≠ wc.heap.size + 1 from ⟨HB_wc.out.size, by have := HB_wc.out.size; omega, by omega⟩)
 obtain ⟨sb, hsb⟩ : ∃ b, b = wc.heap.size := ⟨_, rfl⟩
 obtain ⟨qb, hqb⟩ : ∃ b, b = wc.heap.size + 1 := ⟨_, rfl⟩
 rw [← hqb] at S2_0 HLO ⊢
 rw [← hsb] at S1_0 HLO ⊢
 clear hz1 hbm1 hbm2 hba hsb hqb E7_wc E9_wc E11_wc HX_wc HY_wc HZ_wc HB_wc
 refine wp_region_held_drew (S := fun (u : World) => u.heap[P7]? = some (.cells #[.int .i64 i7, .string s7, .slice q7 m7 c7] 30 (0, 0)) ∧ u.heap[P9]? = some (.cells #[.int .i64 i9, .string s9, .slice q9 m9 c9] 30 (0, 0))) (by kernel_rfl) (⟨E7_0.out, E9_0.out⟩) (fun hHeld => ?_)
 generalize ((wc.alloc (.map #[] 0)).alloc (.map #[] 0)).drew = wd0 at E7_0 E9_0 E11_0 HX_0 HY_0 HZ_0 HB_0 S1_0 S2_0 hHeld ⊢
 refine wpAnyH_take (i := 0) (v := .map (some sb)) rfl (by kernel_rfl) (by kernel_rfl) (by kernel_rfl) (fun _ _ _ h => h) (Or.inl ⟨by rfl, fun w' hSw => by go_simp⟩) hHeld ?_
 refine wpAnyH_take (i := 1) (v := .agg #[.int .i64 i7, .string s7, .slice q7 m7 c7]) rfl (by kernel_rfl) (by kernel_rfl) (by kernel_rfl) (fun _ _ _ h => h) (Or.inl ⟨by rfl, fun w' hSw => by have h0 := ent_cell hSw.1 0 _ rfl; have h1 := ent_cell hSw.1 1 _ rfl; have h2 := ent_cell hSw.1 2 _ rfl; go_simp⟩) hHeld ?_
 refine wpAnyH_take (i := 2) (v := .agg #[.int .i64 i9, .string s9, .slice q9 m9 c9]) rfl (by kernel_rfl) (by kernel_rfl) (by kernel_rfl) (fun _ _ _ h => h) (Or.inl ⟨by rfl, fun w' hSw => by have h0 := ent_cell hSw.2 0 _ rfl; have h1 := ent_cell hSw.2 1 _ rfl; have h2 := ent_cell hSw.2 2 _ rfl; go_simp⟩) hHeld ?_
 refine wpAnyH_take (i := 4) (v := .map (some qb)) rfl (by kernel_rfl) (by kernel_rfl) (by kernel_rfl) (fun _ _ _ h => h) (Or.inl ⟨by rfl, fun w' hSw => by go_simp⟩) hHeld ?_
 refine wpAnyH_take (i := 5) (v := .agg #[.int .i64 i9, .string s9, .slice q9 m9 c9]) rfl (by kernel_rfl) (by kernel_rfl) (by kernel_rfl) (fun _ _ _ h => h) (Or.inl ⟨by rfl, fun w' hSw => by have h0 := ent_cell hSw.2 0 _ rfl; have h1 := ent_cell hSw.2 1 _ rfl; have h2 := ent_cell hSw.2 2 _ rfl; go_simp⟩) hHeld ?_
 refine wpAnyH_take (i := 6) (v := .agg #[.int .i64 i7, .string s7, .slice q7 m7 c7]) rfl (by kernel_rfl) (by kernel_rfl) (by kernel_rfl) (fun _ _ _ h => h) (Or.inl ⟨by rfl, fun w' hSw => by have h0 := ent_cell hSw.1 0 _ rfl; have h1 := ent_cell hSw.1 1 _ rfl; have h2 := ent_cell hSw.1 2 _ rfl; go_simp⟩) hHeld ?_
 try simp only [Act.put, List.getElem_toArray, List.getElem_cons_succ, List.getElem_cons_zero, List.setIfInBounds_toArray, List.set_cons_zero, List.set_cons_succ]
 refine wpAnyH_ready (rs := [3]) (by kernel_rfl) (by simp) ?_
 refine AllReadyH.cons rfl (fun K hK => ?_) AllReadyH.nil
 go_simp
 refine (unify2_any 0 80 _ fine_none (fun n h => absurd rfl h) sb x y _ _ wd0 S1_0.out HX_0.out HY_0.out (by have := HSX.out; have := HSY.out; omega) (by omega)).mono ?_
 rintro e wd1 ⟨er, rfl, hc, hr⟩
 have HMP := Lib.hid S1_0.out.p.map
 have E7_1 := Lib.hid (ent_chg E7_0.out hc (fun e => by obtain ⟨es, k, h⟩ := HMP.out; rw [← e, E7_0.out] at h; cases h))
 have E9_1 := Lib.hid (ent_chg E9_0.out hc (fun e => by obtain ⟨es, k, h⟩ := HMP.out; rw [← e, E9_0.out] at h; cases h))
 have E11_1 := Lib.hid (ent_chg E11_0.out hc (fun e => by obtain ⟨es, k, h⟩ := HMP.out; rw [← e, E11_0.out] at h; cases h))
 have HX_1 := Lib.hid (tyP_chg HMP.out hc HX_0.out)
 have HY_1 := Lib.hid (tyP_chg HMP.out hc HY_0.out)
 have HZ_1 := Lib.hid (tyP_chg HMP.out hc HZ_0.out)
 have HB_1 := Lib.hid (HB_0.out.trans (hc.below HB_0.out.size fun k hk => by rw [hk]; exact HLO.out.1))
 have S2_1 := Lib.hid (S2_0.out.chg HMP.out hc HLO.out.2.2.symm)
 have R1_1 := Lib.hid hr
 clear hc hr HMP S1_0 S2_0 E7_0 E9_0 E11_0 HX_0 HY_0 HZ_0 HB_0
 refine hK.out _ _ ⟨E7_1.out, E9_1.out⟩ (fun hHeld => ?_)
 clear hK K
 refine wpAnyH_ready (rs := [7]) (by kernel_rfl) (by simp) ?_
 refine AllReadyH.cons rfl (fun K hK => ?_) AllReadyH.nil
 go_simp
 refine (unify2_any 0 80 _ fine_none (fun n h => absurd rfl h) qb y x _ _ wd1 S2_1.out HY_1.out HX_1.out (by have := HSX.out; have := HSY.out; omega) (by omega)).mono ?_
 rintro e wd2 ⟨er2, rfl, hc, hr⟩
 have HMP := Lib.hid S2_1.out.p.map
 have E7_2 := Lib.hid (ent_chg E7_1.out hc (fun e => by obtain ⟨es, k, h⟩ := HMP.out; rw [← e, E7_1.out] at h; cases h))
 have E9_2 := Lib.hid (ent_chg E9_1.out hc (fun e => by obtain ⟨es, k, h⟩ := HMP.out; rw [← e, E9_1.out] at h; cases h))
 have E11_2 := Lib.hid (ent_chg E11_1.out hc (fun e => by obtain ⟨es, k, h⟩ := HMP.out; rw [← e, E11_1.out] at h; cases h))
 have HX_2 := Lib.hid (tyP_chg HMP.out hc HX_1.out)
 have HY_2 := Lib.hid (tyP_chg HMP.out hc HY_1.out)
 have HZ_2 := Lib.hid (tyP_chg HMP.out hc HZ_1.out)
 have HB_2 := Lib.hid (HB_1.out.trans (hc.below HB_1.out.size fun k hk => by rw [hk]; exact HLO.out.2.1))
 have R1_2 := Lib.hid (R1_1.out.sub fun g h => h.chg HMP.out hc HLO.out.2.2)
 have R2_2 := Lib.hid hr
 clear hc hr HMP S2_1 R1_1 E7_1 E9_1 E11_1 HX_1 HY_1 HZ_1 HB_1
 refine hK.out _ _ ⟨E7_2.out, E9_2.out⟩ (fun hHeld => ?_)
 clear hK K
 refine wpAnyH_take (i := 8) (v := .int .i64 er) rfl (by kernel_rfl) (by kernel_rfl) (by kernel_rfl) (fun _ _ _ h => h) (Or.inl ⟨by rfl, fun w' hSw => by go_simp⟩) hHeld ?_
 simp only [Act.put, List.getElem_toArray, List.getElem_cons_succ, List.getElem_cons_zero, List.setIfInBounds_toArray, List.set_cons_zero, List.set_cons_succ]
 refine wpAnyH_take (i := 9) (v := .int .i64 er2) rfl (by kernel_rfl) (by kernel_rfl) (by kernel_rfl) (fun _ _ _ h => h) (Or.inl ⟨by rfl, fun w' hSw => by go_simp⟩) hHeld ?_
 simp only [Act.put, List.getElem_toArray, List.getElem_cons_succ, List.getElem_cons_zero, List.setIfInBounds_toArray, List.set_cons_zero, List.set_cons_succ]
 refine wpAnyH_done (by kernel_rfl) ?_ _
 clear hHeld
 rcases R1_2.out with ⟨rfl, f1, hm1, hs1⟩ | ⟨rfl, hn1, hs1⟩
 rotate_left
 · rcases R2_2.out with ⟨rfl, f2, hm2, hs2⟩ | ⟨rfl, hn2, hs2⟩
   · exfalso
     obtain ⟨σ, hσ⟩ := hm2.1.sol
     exact hn1 σ (fun n t h => by cases h) ((hm2.2 σ).1 hσ).2.symm
   · clear hs1 hs2 hn1 hn2
     go_wp2_with fail
     go_ret
     exact ⟨rfl, HB_2.out⟩
 rcases R2_2.out with ⟨rfl, f2, hm2, hs2⟩ | ⟨rfl, hn2, hs2⟩
 rotate_left
 · exfalso
   obtain ⟨σ, hσ⟩ := hm1.1.sol
   exact hn2 σ (fun n t h => by cases h) ((hm1.2 σ).1 hσ).2.symm
 have S1_2 := Lib.hid hs1; have S2_2 := Lib.hid hs2; have HM1 := Lib.hid hm1; have HM2 := Lib.hid hm2
 obtain ⟨N1, hN1⟩ := hm1.1.norm
 obtain ⟨N2, hN2⟩ := hm2.1.norm
 have HN1 := Lib.hid hN1; have HN2 := Lib.hid hN2
 have hsx := small_ok HOKX.out HSX.out HTYX.out
 have hsy := small_ok HOKY.out HSY.out HTYY.out
 have hsz := small_ok HOKZ.out HSZ.out HTYZ.out
 obtain ⟨bt, hbt⟩ : ∃ t, t = Ux.Ty.a [97, 108, 108] [x, y, z] := ⟨_, rfl⟩
 have HBT := Lib.hid hbt
 have h3 := three_small hsx hsy hsz
 rw [← hbt] at h3
 have HSM := Lib.hid (⟨hsx, hsy, hsz⟩ : Ux.Small 19 6 x ∧ Ux.Small 19 6 y ∧ Ux.Small 19 6 z)
 have HPU := Lib.hid (⟨okT_all hm1.1 hN1 (made_one_all hm1) (by decide) (by decide) (fun p hp => by rw [List.mem_singleton.1 hp]; exact ⟨hsx, hsy⟩) h3.1 h3.2, okT_all hm2.1 hN2 (made_one_all hm2) (by decide) (by decide) (fun p hp => by rw [List.mem_singleton.1 hp]; exact ⟨hsy, hsx⟩) h3.1 h3.2, swaps_canon hm1 hm2 hN1 hN2 bt⟩ : OkT (bt.app N1) ∧ OkT (bt.app N2) ∧ Ux.canon (bt.app N1) = Ux.canon (bt.app N2))
 have HDM := Lib.hid (⟨dom_all hm1.1 hN1 (made_one_all hm1) (S := 19) (K := 6) (by decide) (fun p hp => by rw [List.mem_singleton.1 hp]; exact ⟨hsx, hsy⟩), dom_all hm2.1 hN2 (made_one_all hm2) (S := 19) (K := 6) (by decide) (fun p hp => by rw [List.mem_singleton.1 hp]; exact ⟨hsy, hsx⟩)⟩ : (∀ n, f1 n ≠ none → n < 1000000) ∧ ∀ n, f2 n ≠ none → n < 1000000)
 clear hs1 hs2 hm1 hm2 hN1 hN2 hsx hsy hsz hbt h3 R1_2 R2_2
 have t70 := ent_cell E7_2.out 0 _ rfl
 have t71 := ent_cell E7_2.out 1 _ rfl
 have t72 := ent_cell E7_2.out 2 _ rfl
 have t90 := ent_cell E9_2.out 0 _ rfl
 have t91 := ent_cell E9_2.out 1 _ rfl
 have t92 := ent_cell E9_2.out 2 _ rfl
 have t110 := ent_cell E11_2.out 0 _ rfl
 have t111 := ent_cell E11_2.out 1 _ rfl
 have t112 := ent_cell E11_2.out 2 _ rfl
 go_wp2_with fail
 have hba : Below wd2.heap.size wd2 (wd2.alloc (.cells #[.int .i64 i7, .string s7, .slice q7 m7 c7, .int .i64 i9, .string s9, .slice q9 m9 c9, .int .i64 i11, .string s11, .slice q11 m11 c11] 30)) := (Below.refl _ _).alloc (Nat.le_refl _) _
 have E1 := ent_new wd2 #[.int .i64 i7, .string s7, .slice q7 m7 c7, .int .i64 i9, .string s9, .slice q9 m9 c9, .int .i64 i11, .string s11, .slice q11 m11 c11] 30
 clear t70 t71 t72 t90 t91 t92 t110 t111 t112
 have hb := hba
 have HB_3 := Lib.hid (HB_2.out.trans (hb.mono HB_2.out.size))
 have E7_3 := Lib.hid (ent_below E7_2.out hb); have HX_3 := Lib.hid (tyP_below HX_2.out hb)
 have E9_3 := Lib.hid (ent_below E9_2.out hb); have HY_3 := Lib.hid (tyP_below HY_2.out hb)
 have E11_3 := Lib.hid (ent_below E11_2.out hb); have HZ_3 := Lib.hid (tyP_below HZ_2.out hb)
 have S1_3 := Lib.hid (S1_2.out.below hb)
 have S2_3 := Lib.hid (S2_2.out.below hb)
 clear hb HB_2 E7_2 HX_2 E9_2 HY_2 E11_2 HZ_2 S1_2 S2_2
 generalize wd2.heap.size = b1 at E1 ⊢
 generalize (wd2.alloc (.cells #[.int .i64 i7, .string s7, .slice q7 m7 c7, .int .i64 i9, .string s9, .slice q9 m9 c9, .int .i64 i11, .string s11, .slice q11 m11 c11] 30)) = wd3 at E1 HB_3 E7_3 HX_3 E9_3 HY_3 E11_3 HZ_3 S1_3 S2_3 ⊢
 clear hba
 refine (of_any [97, 108, 108] (.slice (some ⟨b1, 0, none⟩) 3 3) [x, y, z] wd3.heap.size wd3 (Nat.le_refl _) (row_three E1 (tyP_hang HX_3.out 0 0) (tyP_hang HY_3.out 0 0) (tyP_hang HZ_3.out 0 0)) (by simp)).mono ?_
 rintro e wd4 ⟨r4, rfl, hb, hh⟩
 rw [← HBT.out] at hh
 obtain ⟨i17, s17, q17, m17, c17, rfl⟩ := tyP_sh hh.now
 have hty := hh.now
 clear hh E1
 have HB_4 := Lib.hid (HB_3.out.trans (hb.mono HB_3.out.size))
 have E7_4 := Lib.hid (ent_below E7_3.out hb); have HX_4 := Lib.hid (tyP_below HX_3.out hb)
 have E9_4 := Lib.hid (ent_below E9_3.out hb); have HY_4 := Lib.hid (tyP_below HY_3.out hb)
 have E11_4 := Lib.hid (ent_below E11_3.out hb); have HZ_4 := Lib.hid (tyP_below HZ_3.out hb)
 have S1_4 := Lib.hid (S1_3.out.below hb)
 have S2_4 := Lib.hid (S2_3.out.below hb)
 clear hb HB_3 E7_3 HX_3 E9_3 HY_3 E11_3 HZ_3 S1_3 S2_3
 go_upto_region 13 with fail
 have hba : Below wd4.heap.size wd4 (wd4.alloc (.cells #[.int .i64 i17, .string s17, .slice q17 m17 c17] 30)) := (Below.refl _ _).alloc (Nat.le_refl _) _
 have E17_5 := Lib.hid (ent_new wd4 #[.int .i64 i17, .string s17, .slice q17 m17 c17] 30)
 have HT_5 := Lib.hid (tyP_below hty hba)
 have HB_5 := Lib.hid (HB_4.out.trans (hba.mono HB_4.out.size))
 have E7_5 := Lib.hid (ent_below E7_4.out hba); have HX_5 := Lib.hid (tyP_below HX_4.out hba)
 have E9_5 := Lib.hid (ent_below E9_4.out hba); have HY_5 := Lib.hid (tyP_below HY_4.out hba)
 have E11_5 := Lib.hid (ent_below E11_4.out hba); have HZ_5 := Lib.hid (tyP_below HZ_4.out hba)
 have S1_5 := Lib.hid (S1_4.out.below hba)
 have S2_5 := Lib.hid (S2_4.out.below hba)
 obtain ⟨P17, hP17⟩ : ∃ P, P = wd4.heap.size := ⟨_, rfl⟩
 rw [← hP17] at E17_5 ⊢
 generalize (wd4.alloc (.cells #[.int .i64 i17, .string s17, .slice q17 m17 c17] 30)) = wd5 at E17_5 HT_5 HB_5 E7_5 HX_5 E9_5 HY_5 E11_5 HZ_5 S1_5 S2_5 ⊢
 clear hba hty S1_4 S2_4 hP17 HB_4 E7_4 HX_4 E9_4 HY_4 E11_4 HZ_4
 have t170 := ent_cell E17_5.out 0 _ rfl
 have t171 := ent_cell E17_5.out 1 _ rfl
 have t172 := ent_cell E17_5.out 2 _ rfl
 go_wp2_with fail
 refine (apply_ok HM1.out.1 HN1.out (t := bt) S1_5.out.p HT_5.out HDM.out.1 HPU.out.1).mono ?_
 rintro e wd6 ⟨r6, rfl, hb, hr⟩
 obtain ⟨i18, s18, q18, m18, c18, rfl⟩ := tyP_sh hr
 have hty := hr
 clear hr t170 t171 t172
 have HB_6 := Lib.hid (HB_5.out.trans (hb.mono HB_5.out.size))
 have E7_6 := Lib.hid (ent_below E7_5.out hb); have HX_6 := Lib.hid (tyP_below HX_5.out hb)
 have E9_6 := Lib.hid (ent_below E9_5.out hb); have HY_6 := Lib.hid (tyP_below HY_5.out hb)
 have E11_6 := Lib.hid (ent_below E11_5.out hb); have HZ_6 := Lib.hid (tyP_below HZ_5.out hb)
 have E17_6 := Lib.hid (ent_below E17_5.out hb); have HT_6 := Lib.hid (tyP_below HT_5.out hb)
 have S1_6 := Lib.hid (S1_5.out.below hb)
 have S2_6 := Lib.hid (S2_5.out.below hb)
 clear hb HB_5 E7_5 HX_5 E9_5 HY_5 E11_5 HZ_5 E17_5 HT_5 S1_5 S2_5
 go_upto_region 14 with fail
 have hba : Below wd6.heap.size wd6 (wd6.alloc (.cells #[.int .i64 i18, .string s18, .slice q18 m18 c18] 30)).drew := ((Below.refl _ _).alloc (Nat.le_refl _) _).drew
 have E18_0 : Hid ((wd6.alloc (.cells #[.int .i64 i18, .string s18, .slice q18 m18 c18] 30)).drew.heap[wd6.heap.size]? = some (.cells #[.int .i64 i18, .string s18, .slice q18 m18 c18] 30 (0, 0))) := Lib.hid (ent_new wd6 #[.int .i64 i18, .string s18, .slice q18 m18 c18] 30)
 have HD_0 := Lib.hid (tyP_below hty hba)
 have HB_0 := Lib.hid (HB_6.out.trans (hba.mono HB_6.out.size))
 have E7_0 := Lib.hid (ent_below E7_6.out hba); have HX_0 := Lib.hid (tyP_below HX_6.out hba)
 have E9_0 := Lib.hid (ent_below E9_6.out hba); have HY_0 := Lib.hid (tyP_below HY_6.out hba)
 have E11_0 := Lib.hid (ent_below E11_6.out hba); have HZ_0 := Lib.hid (tyP_below HZ_6.out hba)
 have E17_0 := Lib.hid (ent_below E17_6.out hba); have HT_0 := Lib.hid (tyP_below HT_6.out hba)
 have S1_0 := Lib.hid (S1_6.out.below hba); have S2_0 := Lib.hid (S2_6.out.below hba)
 obtain ⟨P18, hP18⟩ : ∃ P, P = wd6.heap.size := ⟨_, rfl⟩
 rw [← hP18] at E18_0 ⊢
 clear hba hty hP18 HB_6 E7_6 HX_6 E9_6 HY_6 E11_6 HZ_6 E17_6 HT_6 S1_6 S2_6
 refine wp_region_held_drew (S := fun (u : World) => u.heap[P17]? = some (.cells #[.int .i64 i17, .string s17, .slice q17 m17 c17] 30 (0, 0)) ∧ u.heap[P18]? = some (.cells #[.int .i64 i18, .string s18, .slice q18 m18 c18] 30 (0, 0))) (by kernel_rfl) (⟨E17_0.out, E18_0.out⟩) (fun hHeld => ?_)
 generalize (wd6.alloc (.cells #[.int .i64 i18, .string s18, .slice q18 m18 c18] 30)).drew = wd0 at E18_0 HD_0 HB_0 E7_0 HX_0 E9_0 HY_0 E11_0 HZ_0 E17_0 HT_0 S1_0 S2_0 hHeld ⊢
 refine wpAnyH_take (i := 0) (v := .agg #[.int .i64 i18, .string s18, .slice q18 m18 c18]) rfl (by kernel_rfl) (by kernel_rfl) (by kernel_rfl) (fun _ _ _ h => h) (Or.inl ⟨by rfl, fun w' hSw => by have h0 := ent_cell hSw.2 0 _ rfl; have h1 := ent_cell hSw.2 1 _ rfl; have h2 := ent_cell hSw.2 2 _ rfl; go_simp⟩) hHeld ?_
 refine wpAnyH_take (i := 2) (v := .map (some qb)) rfl (by kernel_rfl) (by kernel_rfl) (by kernel_rfl) (fun _ _ _ h => h) (Or.inl ⟨by rfl, fun w' hSw => by go_simp⟩) hHeld ?_
 refine wpAnyH_take (i := 3) (v := .agg #[.int .i64 i17, .string s17, .slice q17 m17 c17]) rfl (by kernel_rfl) (by kernel_rfl) (by kernel_rfl) (fun _ _ _ h => h) (Or.inl ⟨by rfl, fun w' hSw => by have h0 := ent_cell hSw.1 0 _ rfl; have h1 := ent_cell hSw.1 1 _ rfl; have h2 := ent_cell hSw.1 2 _ rfl; go_simp⟩) hHeld ?_
 try simp only [Act.put, List.getElem_toArray, List.getElem_cons_succ, List.getElem_cons_zero, List.setIfInBounds_toArray, List.set_cons_zero, List.set_cons_succ]
 refine wpAnyH_ready (rs := [1]) (by kernel_rfl) (by simp) ?_
 refine AllReadyH.cons rfl (fun K hK => ?_) AllReadyH.nil
 go_simp
 refine (canonP_any (bt.app N1) _ wd0 HD_0.out (by have := HPU.out.1.sz; omega)).mono ?_
 rintro e wd1 ⟨r1, rfl, hb, hr⟩
 have HR_1 := Lib.hid hr; clear hr
 have E7_1 := Lib.hid (ent_below E7_0.out hb)
 have E9_1 := Lib.hid (ent_below E9_0.out hb)
 have E11_1 := Lib.hid (ent_below E11_0.out hb)
 have E17_1 := Lib.hid (ent_below E17_0.out hb)
 have E18_1 := Lib.hid (ent_below E18_0.out hb)
 have HX_1 := Lib.hid (tyP_below HX_0.out hb)
 have HY_1 := Lib.hid (tyP_below HY_0.out hb)
 have HZ_1 := Lib.hid (tyP_below HZ_0.out hb)
 have HT_1 := Lib.hid (tyP_below HT_0.out hb)
 have HD_1 := Lib.hid (tyP_below HD_0.out hb)
 have S1_1 := Lib.hid (S1_0.out.below hb)
 have S2_1 := Lib.hid (S2_0.out.below hb)
 have HB_1 := Lib.hid (HB_0.out.trans (hb.mono HB_0.out.size))
 clear hb HB_0 E7_0 E9_0 E11_0 E17_0 E18_0 HX_0 HY_0 HZ_0 HT_0 HD_0 S1_0 S2_0
 refine hK.out _ _ ⟨E17_1.out, E18_1.out⟩ (fun hHeld => ?_)
 clear hK K
 refine wpAnyH_ready (rs := [4]) (by kernel_rfl) (by simp) ?_
 refine AllReadyH.cons rfl (fun K hK => ?_) AllReadyH.nil
 go_simp
 refine (apply_ok HM2.out.1 HN2.out (t := bt) S2_1.out.p HT_1.out HDM.out.2 HPU.out.2.1).mono ?_
 rintro e wd2 ⟨r2, rfl, hb, hr⟩
 have HQ_2 := Lib.hid hr; clear hr
 have E7_2 := Lib.hid (ent_below E7_1.out hb)
 have E9_2 := Lib.hid (ent_below E9_1.out hb)
 have E11_2 := Lib.hid (ent_below E11_1.out hb)
 have E17_2 := Lib.hid (ent_below E17_1.out hb)
 have E18_2 := Lib.hid (ent_below E18_1.out hb)
 have HX_2 := Lib.hid (tyP_below HX_1.out hb)
 have HY_2 := Lib.hid (tyP_below HY_1.out hb)
 have HZ_2 := Lib.hid (tyP_below HZ_1.out hb)
 have HT_2 := Lib.hid (tyP_below HT_1.out hb)
 have HD_2 := Lib.hid (tyP_below HD_1.out hb)
 have HR_2 := Lib.hid (tyP_below HR_1.out hb)
 have S1_2 := Lib.hid (S1_1.out.below hb)
 have S2_2 := Lib.hid (S2_1.out.below hb)
 have HB_2 := Lib.hid (HB_1.out.trans (hb.mono HB_1.out.size))
 clear hb HB_1 E7_1 E9_1 E11_1 E17_1 E18_1 HX_1 HY_1 HZ_1 HT_1 HD_1 HR_1 S1_1 S2_1
 refine hK.out _ _ ⟨E17_2.out, E18_2.out⟩ (fun hHeld => ?_)
 clear hK K
 refine wpAnyH_ready (rs := [5]) (by kernel_rfl) (by simp) ?_
 refine AllReadyH.cons rfl (fun K hK => ?_) AllReadyH.nil
 go_simp
 refine (canonP_any (bt.app N2) _ wd2 HQ_2.out (by have := HPU.out.2.1.sz; omega)).mono ?_
 rintro e wd3 ⟨r3, rfl, hb, hr⟩
 have HC_3 := Lib.hid (show TyP wd3 r3 (Ux.canon (bt.app N1)) by rw [HPU.out.2.2]; exact hr); clear hr
 have E7_3 := Lib.hid (ent_below E7_2.out hb)
 have E9_3 := Lib.hid (ent_below E9_2.out hb)
 have E11_3 := Lib.hid (ent_below E11_2.out hb)
 have E17_3 := Lib.hid (ent_below E17_2.out hb)
 have E18_3 := Lib.hid (ent_below E18_2.out hb)
 have HX_3 := Lib.hid (tyP_below HX_2.out hb)
 have HY_3 := Lib.hid (tyP_below HY_2.out hb)
 have HZ_3 := Lib.hid (tyP_below HZ_2.out hb)
 have HT_3 := Lib.hid (tyP_below HT_2.out hb)
 have HD_3 := Lib.hid (tyP_below HD_2.out hb)
 have HR_3 := Lib.hid (tyP_below HR_2.out hb)
 have S1_3 := Lib.hid (S1_2.out.below hb)
 have S2_3 := Lib.hid (S2_2.out.below hb)
 have HB_3 := Lib.hid (HB_2.out.trans (hb.mono HB_2.out.size))
 clear hb HB_2 E7_2 E9_2 E11_2 E17_2 E18_2 HX_2 HY_2 HZ_2 HT_2 HD_2 HR_2 S1_2 S2_2
 refine hK.out _ _ ⟨E17_3.out, E18_3.out⟩ (fun hHeld => ?_)
 clear hK K
 refine wpAnyH_ready (rs := [6]) (by kernel_rfl) (by simp) ?_
 refine AllReadyH.cons rfl (fun K hK => ?_) AllReadyH.nil
 go_simp
 refine (like_same (okT_canon HPU.out.1) r1 r3 wd3 HR_3.out HC_3.out (HTB.out wd3 HB_3.out)).mono ?_
 rintro e wd4 ⟨rfl, hb⟩
 clear HC_3 HR_3
 have E7_4 := Lib.hid (ent_below E7_3.out hb)
 have E9_4 := Lib.hid (ent_below E9_3.out hb)
 have E11_4 := Lib.hid (ent_below E11_3.out hb)
 have E17_4 := Lib.hid (ent_below E17_3.out hb)
 have E18_4 := Lib.hid (ent_below E18_3.out hb)
 have HX_4 := Lib.hid (tyP_below HX_3.out hb)
 have HY_4 := Lib.hid (tyP_below HY_3.out hb)
 have HZ_4 := Lib.hid (tyP_below HZ_3.out hb)
 have HT_4 := Lib.hid (tyP_below HT_3.out hb)
 have HD_4 := Lib.hid (tyP_below HD_3.out hb)
 have S1_4 := Lib.hid (S1_3.out.below hb)
 have S2_4 := Lib.hid (S2_3.out.below hb)
 have HB_4 := Lib.hid (HB_3.out.trans (hb.mono HB_3.out.size))
 clear hb HB_3 E7_3 E9_3 E11_3 E17_3 E18_3 HX_3 HY_3 HZ_3 HT_3 HD_3 S1_3 S2_3
 refine hK.out _ _ ⟨E17_4.out, E18_4.out⟩ (fun hHeld => ?_)
 clear hK K
 refine wpAnyH_take (i := 7) (v := .bool false) rfl (by kernel_rfl) (by kernel_rfl) (by kernel_rfl) (fun _ _ _ h => h) (Or.inl ⟨by rfl, fun w' hSw => by go_simp⟩) hHeld ?_
 simp only [Act.put, List.getElem_toArray, List.getElem_cons_succ, List.getElem_cons_zero, List.setIfInBounds_toArray, List.set_cons_zero, List.set_cons_succ]
 refine wpAnyH_take (i := 8) (v := .bool false) rfl (by kernel_rfl) (by kernel_rfl) (by kernel_rfl) (fun _ _ _ h => h) (Or.inl ⟨by rfl, fun w' hSw => by go_simp⟩) hHeld ?_
 simp only [Act.put, List.getElem_toArray, List.getElem_cons_succ, List.getElem_cons_zero, List.setIfInBounds_toArray, List.set_cons_zero, List.set_cons_succ]
 refine wpAnyH_take (i := 9) (v := .map (some sb)) rfl (by kernel_rfl) (by kernel_rfl) (by kernel_rfl) (fun _ _ _ h => h) (Or.inl ⟨by go_simp, fun w' hSw => by go_simp⟩) hHeld ?_
 simp only [Act.put, List.getElem_toArray, List.getElem_cons_succ, List.getElem_cons_zero, List.setIfInBounds_toArray, List.set_cons_zero, List.set_cons_succ]
 refine wpAnyH_take (i := 10) (v := .agg #[.int .i64 i18, .string s18, .slice q18 m18 c18]) rfl (by kernel_rfl) (by kernel_rfl) (by kernel_rfl) (fun _ _ _ h => h) (Or.inl ⟨by go_simp, fun w' hSw => by have h0 := ent_cell hSw.2 0 _ rfl; have h1 := ent_cell hSw.2 1 _ rfl; have h2 := ent_cell hSw.2 2 _ rfl; go_simp⟩) hHeld ?_
 simp only [Act.put, List.getElem_toArray, List.getElem_cons_succ, List.getElem_cons_zero, List.setIfInBounds_toArray, List.set_cons_zero, List.set_cons_succ]
 refine wpAnyH_take (i := 12) (v := .agg #[.int .i64 i18, .string s18, .slice q18 m18 c18]) rfl (by kernel_rfl) (by kernel_rfl) (by kernel_rfl) (fun _ _ _ h => h) (Or.inl ⟨by go_simp, fun w' hSw => by have h0 := ent_cell hSw.2 0 _ rfl; have h1 := ent_cell hSw.2 1 _ rfl; have h2 := ent_cell hSw.2 2 _ rfl; go_simp⟩) hHeld ?_
 simp only [Act.put, List.getElem_toArray, List.getElem_cons_succ, List.getElem_cons_zero, List.setIfInBounds_toArray, List.set_cons_zero, List.set_cons_succ]
 refine wpAnyH_ready (rs := [11]) (by kernel_rfl) (by simp) ?_
 refine AllReadyH.cons rfl (fun K hK => ?_) AllReadyH.nil
 go_simp
 refine (apply_ok HM1.out.1 HN1.out (t := bt.app N1) S1_4.out.p HD_4.out HDM.out.1 (by rw [norm_idem HM1.out.1 HN1.out]; exact HPU.out.1)).mono ?_
 rintro e wd5 ⟨r5, rfl, hb, hr⟩
 have HR_5 := Lib.hid (show TyP wd5 r5 (bt.app N1) by rw [norm_idem HM1.out.1 HN1.out] at hr; exact hr); clear hr
 have E7_5 := Lib.hid (ent_below E7_4.out hb)
 have E9_5 := Lib.hid (ent_below E9_4.out hb)
 have E11_5 := Lib.hid (ent_below E11_4.out hb)
 have E17_5 := Lib.hid (ent_below E17_4.out hb)
 have E18_5 := Lib.hid (ent_below E18_4.out hb)
 have HX_5 := Lib.hid (tyP_below HX_4.out hb)
 have HY_5 := Lib.hid (tyP_below HY_4.out hb)
 have HZ_5 := Lib.hid (tyP_below HZ_4.out hb)
 have HT_5 := Lib.hid (tyP_below HT_4.out hb)
 have HD_5 := Lib.hid (tyP_below HD_4.out hb)
 have S1_5 := Lib.hid (S1_4.out.below hb)
 have S2_5 := Lib.hid (S2_4.out.below hb)
 have HB_5 := Lib.hid (HB_4.out.trans (hb.mono HB_4.out.size))
 clear hb HB_4 E7_4 E9_4 E11_4 E17_4 E18_4 HX_4 HY_4 HZ_4 HT_4 HD_4 S1_4 S2_4
 refine hK.out _ _ ⟨E17_5.out, E18_5.out⟩ (fun hHeld => ?_)
 clear hK K
 refine wpAnyH_ready (rs := [13]) (by kernel_rfl) (by simp) ?_
 refine AllReadyH.cons rfl (fun K hK => ?_) AllReadyH.nil
 go_simp
 refine (like_same HPU.out.1 r5 _ wd5 HR_5.out HD_5.out (HTB.out wd5 HB_5.out)).mono ?_
 rintro e wd6 ⟨rfl, hb⟩
 clear HR_5
 have E7_6 := Lib.hid (ent_below E7_5.out hb)
 have E9_6 := Lib.hid (ent_below E9_5.out hb)
 have E11_6 := Lib.hid (ent_below E11_5.out hb)
 have E17_6 := Lib.hid (ent_below E17_5.out hb)
 have E18_6 := Lib.hid (ent_below E18_5.out hb)
 have HX_6 := Lib.hid (tyP_below HX_5.out hb)
 have HY_6 := Lib.hid (tyP_below HY_5.out hb)
 have HZ_6 := Lib.hid (tyP_below HZ_5.out hb)
 have HT_6 := Lib.hid (tyP_below HT_5.out hb)
 have HD_6 := Lib.hid (tyP_below HD_5.out hb)
 have S1_6 := Lib.hid (S1_5.out.below hb)
 have S2_6 := Lib.hid (S2_5.out.below hb)
 have HB_6 := Lib.hid (HB_5.out.trans (hb.mono HB_5.out.size))
 clear hb HB_5 E7_5 E9_5 E11_5 E17_5 E18_5 HX_5 HY_5 HZ_5 HT_5 HD_5 S1_5 S2_5
 refine hK.out _ _ ⟨E17_6.out, E18_6.out⟩ (fun hHeld => ?_)
 clear hK K
 refine wpAnyH_take (i := 14) (v := .bool false) rfl (by kernel_rfl) (by kernel_rfl) (by kernel_rfl) (fun _ _ _ h => h) (Or.inl ⟨by go_simp, fun w' hSw => by go_simp⟩) hHeld ?_
 simp only [Act.put, List.getElem_toArray, List.getElem_cons_succ, List.getElem_cons_zero, List.setIfInBounds_toArray, List.set_cons_zero, List.set_cons_succ]
 refine wpAnyH_take (i := 15) (v := .bool false) rfl (by kernel_rfl) (by kernel_rfl) (by kernel_rfl) (fun _ _ _ h => h) (Or.inl ⟨by rfl, fun w' hSw => by go_simp⟩) hHeld ?_
 simp only [Act.put, List.getElem_toArray, List.getElem_cons_succ, List.getElem_cons_zero, List.setIfInBounds_toArray, List.set_cons_zero, List.set_cons_succ]
 refine wpAnyH_done (by kernel_rfl) ?_ _
 clear hHeld
 have t70 := ent_cell E7_6.out 0 _ rfl
 have t71 := ent_cell E7_6.out 1 _ rfl
 have t72 := ent_cell E7_6.out 2 _ rfl
 have t110 := ent_cell E11_6.out 0 _ rfl
 have t111 := ent_cell E11_6.out 1 _ rfl
 have t112 := ent_cell E11_6.out 2 _ rfl
 go_wp2_with fail
 clear t70 t71 t72 t110 t111 t112
 refine (unify2_any 80 200 f1 HM1.out.1 HDM.out.1 sb x z _ _ wd6 S1_6.out HX_6.out HZ_6.out (by have := HSX.out; have := HSZ.out; omega) (by omega)).mono ?_
 rintro e wd7 ⟨er, rfl, hc, hr⟩
 have HMP := Lib.hid S1_6.out.p.map
 have E7_7 := Lib.hid (ent_chg E7_6.out hc (fun e => by obtain ⟨es, k, h⟩ := HMP.out; rw [← e, E7_6.out] at h; cases h))
 have E9_7 := Lib.hid (ent_chg E9_6.out hc (fun e => by obtain ⟨es, k, h⟩ := HMP.out; rw [← e, E9_6.out] at h; cases h))
 have E11_7 := Lib.hid (ent_chg E11_6.out hc (fun e => by obtain ⟨es, k, h⟩ := HMP.out; rw [← e, E11_6.out] at h; cases h))
 have E17_7 := Lib.hid (ent_chg E17_6.out hc (fun e => by obtain ⟨es, k, h⟩ := HMP.out; rw [← e, E17_6.out] at h; cases h))
 have HX_7 := Lib.hid (tyP_chg HMP.out hc HX_6.out)
 have HY_7 := Lib.hid (tyP_chg HMP.out hc HY_6.out)
 have HZ_7 := Lib.hid (tyP_chg HMP.out hc HZ_6.out)
 have HT_7 := Lib.hid (tyP_chg HMP.out hc HT_6.out)
 have HB_7 := Lib.hid (HB_6.out.trans (hc.below HB_6.out.size fun k hk => by rw [hk]; exact HLO.out.1))
 have R3_7 := Lib.hid hr
 clear hc hr HMP S1_6 S2_6 E7_6 HX_6 E9_6 HY_6 E11_6 HZ_6 E17_6 HT_6 E18_6 HD_6 HB_6
 rcases R3_7.out with ⟨rfl, f3, hm3, hs3⟩ | ⟨rfl, hn3, hs3⟩
 rotate_left
 · clear hs3 hn3
   go_wp2_with fail
   go_ret
   exact ⟨rfl, HB_7.out⟩
 obtain ⟨M, hM⟩ := hm3.1.norm
 have hall := made_two_all HM1.out hm3
 have hsm : ∀ p ∈ [(x, y), (x, z)], Ux.Small 19 6 p.1 ∧ Ux.Small 19 6 p.2 := fun p hp => by
  rcases List.mem_cons.1 hp with rfl | hp
  · exact ⟨HSM.out.1, HSM.out.2.1⟩
  · rw [List.mem_singleton.1 hp]; exact ⟨HSM.out.1, HSM.out.2.2⟩
 have h3 := three_small HSM.out.1 HSM.out.2.1 HSM.out.2.2
 rw [← HBT.out] at h3
 have h1 := one_small HSM.out.1
 have hone := (hall M).1 hM.sol
 have HPW := Lib.hid (⟨dom_all hm3.1 hM hall (S := 19) (K := 6) (by decide) hsm, okT_all hm3.1 hM hall (by decide) (by decide) hsm h1.1 h1.2, hone (x, y) (by simp), hone (x, z) (by simp), okT_all hm3.1 hM hall (by decide) (by decide) hsm h3.1 h3.2⟩ : (∀ n, f3 n ≠ none → n < 1000000) ∧ OkT (x.app M) ∧ x.app M = y.app M ∧ x.app M = z.app M ∧ OkT (bt.app M))
 have HM3 := Lib.hid hm3; have HN3' := Lib.hid hM; have S3_7 := Lib.hid hs3
 obtain ⟨TX, hTX⟩ : ∃ TX, TX = Ux.textT (bt.app M) := ⟨_, rfl⟩
 have HTX := Lib.hid hTX
 clear hTX hone h1 h3 hsm hall hM hm3 hs3 HN3
 have HN3 := HN3'
 clear HN3'
 go_upto_region 18 with fail
 have hba : Below wd7.heap.size wd7 wd7.drew := (Below.refl _ _).drew
 have HB_0 := Lib.hid (HB_7.out.trans (hba.mono HB_7.out.size))
 have E7_0 := Lib.hid (ent_below E7_7.out hba); have HX_0 := Lib.hid (tyP_below HX_7.out hba)
 have E9_0 := Lib.hid (ent_below E9_7.out hba); have HY_0 := Lib.hid (tyP_below HY_7.out hba)
 have E11_0 := Lib.hid (ent_below E11_7.out hba); have HZ_0 := Lib.hid (tyP_below HZ_7.out hba)
 have E17_0 := Lib.hid (ent_below E17_7.out hba); have HT_0 := Lib.hid (tyP_below HT_7.out hba)
 have S3_0 := Lib.hid (S3_7.out.below hba)
 clear hba HB_7 S3_7 E7_7 HX_7 E9_7 HY_7 E11_7 HZ_7 E17_7 HT_7
 refine wp_region_held_drew (S := fun (u : World) => u.heap[P7]? = some (.cells #[.int .i64 i7, .string s7, .slice q7 m7 c7] 30 (0, 0)) ∧ u.heap[P9]? = some (.cells #[.int .i64 i9, .string s9, .slice q9 m9 c9] 30 (0, 0)) ∧ u.heap[P11]? = some (.cells #[.int .i64 i11, .string s11, .slice q11 m11 c11] 30 (0, 0)) ∧ u.heap[P17]? = some (.cells #[.int .i64 i17, .string s17, .slice q17 m17 c17] 30 (0, 0))) (by kernel_rfl) (⟨E7_0.out, E9_0.out, E11_0.out, E17_0.out⟩) (fun hHeld => ?_)
 generalize wd7.drew = wd0 at HB_0 S3_0 E7_0 HX_0 E9_0 HY_0 E11_0 HZ_0 E17_0 HT_0 hHeld ⊢
 refine wpAnyH_take (i := 0) (v := .map (some sb)) rfl (by kernel_rfl) (by kernel_rfl) (by kernel_rfl) (fun _ _ _ h => h) (Or.inl ⟨by rfl, fun w' hSw => by go_simp⟩) hHeld ?_
 refine wpAnyH_take (i := 1) (v := .agg #[.int .i64 i7, .string s7, .slice q7 m7 c7]) rfl (by kernel_rfl) (by kernel_rfl) (by kernel_rfl) (fun _ _ _ h => h) (Or.inl ⟨by rfl, fun w' hSw => by have h0 := ent_cell hSw.1 0 _ rfl; have h1 := ent_cell hSw.1 1 _ rfl; have h2 := ent_cell hSw.1 2 _ rfl; go_simp⟩) hHeld ?_
 refine wpAnyH_take (i := 3) (v := .map (some sb)) rfl (by kernel_rfl) (by kernel_rfl) (by kernel_rfl) (fun _ _ _ h => h) (Or.inl ⟨by rfl, fun w' hSw => by go_simp⟩) hHeld ?_
 refine wpAnyH_take (i := 4) (v := .agg #[.int .i64 i9, .string s9, .slice q9 m9 c9]) rfl (by kernel_rfl) (by kernel_rfl) (by kernel_rfl) (fun _ _ _ h => h) (Or.inl ⟨by rfl, fun w' hSw => by have h0 := ent_cell hSw.2.1 0 _ rfl; have h1 := ent_cell hSw.2.1 1 _ rfl; have h2 := ent_cell hSw.2.1 2 _ rfl; go_simp⟩) hHeld ?_
 try simp only [Act.put, List.getElem_toArray, List.getElem_cons_succ, List.getElem_cons_zero, List.setIfInBounds_toArray, List.set_cons_zero, List.set_cons_succ]
 refine wpAnyH_ready (rs := [2]) (by kernel_rfl) (by simp) ?_
 refine AllReadyH.cons rfl (fun K hK => ?_) AllReadyH.nil
 go_simp
 refine (apply_ok HM3.out.1 HN3.out (t := x) S3_0.out.p HX_0.out HPW.out.1 HPW.out.2.1).mono ?_
 rintro e wd1 ⟨r1, rfl, hb, hr⟩
 have HA_1 := Lib.hid hr; clear hr
 have E7_1 := Lib.hid (ent_below E7_0.out hb)
 have E9_1 := Lib.hid (ent_below E9_0.out hb)
 have E11_1 := Lib.hid (ent_below E11_0.out hb)
 have E17_1 := Lib.hid (ent_below E17_0.out hb)
 have HX_1 := Lib.hid (tyP_below HX_0.out hb)
 have HY_1 := Lib.hid (tyP_below HY_0.out hb)
 have HZ_1 := Lib.hid (tyP_below HZ_0.out hb)
 have HT_1 := Lib.hid (tyP_below HT_0.out hb)
 have S3_1 := Lib.hid (S3_0.out.below hb)
 have HB_1 := Lib.hid (HB_0.out.trans (hb.mono HB_0.out.size))
 clear hb HB_0 E7_0 E9_0 E11_0 E17_0 HX_0 HY_0 HZ_0 HT_0 S3_0
 refine hK.out _ _ ⟨E7_1.out, E9_1.out, E11_1.out, E17_1.out⟩ (fun hHeld => ?_)
 clear hK K
 refine wpAnyH_ready (rs := [5]) (by kernel_rfl) (by simp) ?_
 refine AllReadyH.cons rfl (fun K hK => ?_) AllReadyH.nil
 go_simp
 refine (apply_ok HM3.out.1 HN3.out (t := y) S3_1.out.p HY_1.out HPW.out.1 (by rw [← HPW.out.2.2.1]; exact HPW.out.2.1)).mono ?_
 rintro e wd2 ⟨r2, rfl, hb, hr⟩
 have HC_2 := Lib.hid (show TyP wd2 r2 (x.app M) by rw [HPW.out.2.2.1]; exact hr); clear hr
 have E7_2 := Lib.hid (ent_below E7_1.out hb)
 have E9_2 := Lib.hid (ent_below E9_1.out hb)
 have E11_2 := Lib.hid (ent_below E11_1.out hb)
 have E17_2 := Lib.hid (ent_below E17_1.out hb)
 have HX_2 := Lib.hid (tyP_below HX_1.out hb)
 have HY_2 := Lib.hid (tyP_below HY_1.out hb)
 have HZ_2 := Lib.hid (tyP_below HZ_1.out hb)
 have HT_2 := Lib.hid (tyP_below HT_1.out hb)
 have HA_2 := Lib.hid (tyP_below HA_1.out hb)
 have S3_2 := Lib.hid (S3_1.out.below hb)
 have HB_2 := Lib.hid (HB_1.out.trans (hb.mono HB_1.out.size))
 clear hb HB_1 E7_1 E9_1 E11_1 E17_1 HX_1 HY_1 HZ_1 HT_1 HA_1 S3_1
 refine hK.out _ _ ⟨E7_2.out, E9_2.out, E11_2.out, E17_2.out⟩ (fun hHeld => ?_)
 clear hK K
 refine wpAnyH_ready (rs := [6]) (by kernel_rfl) (by simp) ?_
 refine AllReadyH.cons rfl (fun K hK => ?_) AllReadyH.nil
 go_simp
 refine (like_same HPW.out.2.1 r1 r2 wd2 HA_2.out HC_2.out (HTB.out wd2 HB_2.out)).mono ?_
 rintro e wd3 ⟨rfl, hb⟩
 clear HA_2 HC_2
 have E7_3 := Lib.hid (ent_below E7_2.out hb)
 have E9_3 := Lib.hid (ent_below E9_2.out hb)
 have E11_3 := Lib.hid (ent_below E11_2.out hb)
 have E17_3 := Lib.hid (ent_below E17_2.out hb)
 have HX_3 := Lib.hid (tyP_below HX_2.out hb)
 have HY_3 := Lib.hid (tyP_below HY_2.out hb)
 have HZ_3 := Lib.hid (tyP_below HZ_2.out hb)
 have HT_3 := Lib.hid (tyP_below HT_2.out hb)
 have S3_3 := Lib.hid (S3_2.out.below hb)
 have HB_3 := Lib.hid (HB_2.out.trans (hb.mono HB_2.out.size))
 clear hb HB_2 E7_2 E9_2 E11_2 E17_2 HX_2 HY_2 HZ_2 HT_2 S3_2
 refine hK.out _ _ ⟨E7_3.out, E9_3.out, E11_3.out, E17_3.out⟩ (fun hHeld => ?_)
 clear hK K
 refine wpAnyH_take (i := 7) (v := .bool true) rfl (by kernel_rfl) (by kernel_rfl) (by kernel_rfl) (fun _ _ _ h => h) (Or.inl ⟨by rfl, fun w' hSw => by go_simp⟩) hHeld ?_
 simp only [Act.put, List.getElem_toArray, List.getElem_cons_succ, List.getElem_cons_zero, List.setIfInBounds_toArray, List.set_cons_zero, List.set_cons_succ]
 refine wpAnyH_take (i := 8) (v := .map (some sb)) rfl (by kernel_rfl) (by kernel_rfl) (by kernel_rfl) (fun _ _ _ h => h) (Or.inl ⟨by go_simp, fun w' hSw => by go_simp⟩) hHeld ?_
 simp only [Act.put, List.getElem_toArray, List.getElem_cons_succ, List.getElem_cons_zero, List.setIfInBounds_toArray, List.set_cons_zero, List.set_cons_succ]
 refine wpAnyH_take (i := 9) (v := .agg #[.int .i64 i7, .string s7, .slice q7 m7 c7]) rfl (by kernel_rfl) (by kernel_rfl) (by kernel_rfl) (fun _ _ _ h => h) (Or.inl ⟨by go_simp, fun w' hSw => by have h0 := ent_cell hSw.1 0 _ rfl; have h1 := ent_cell hSw.1 1 _ rfl; have h2 := ent_cell hSw.1 2 _ rfl; go_simp⟩) hHeld ?_
 simp only [Act.put, List.getElem_toArray, List.getElem_cons_succ, List.getElem_cons_zero, List.setIfInBounds_toArray, List.set_cons_zero, List.set_cons_succ]
 refine wpAnyH_take (i := 11) (v := .map (some sb)) rfl (by kernel_rfl) (by kernel_rfl) (by kernel_rfl) (fun _ _ _ h => h) (Or.inl ⟨by go_simp, fun w' hSw => by go_simp⟩) hHeld ?_
 simp only [Act.put, List.getElem_toArray, List.getElem_cons_succ, List.getElem_cons_zero, List.setIfInBounds_toArray, List.set_cons_zero, List.set_cons_succ]
 refine wpAnyH_take (i := 12) (v := .agg #[.int .i64 i11, .string s11, .slice q11 m11 c11]) rfl (by kernel_rfl) (by kernel_rfl) (by kernel_rfl) (fun _ _ _ h => h) (Or.inl ⟨by go_simp, fun w' hSw => by have h0 := ent_cell hSw.2.2.1 0 _ rfl; have h1 := ent_cell hSw.2.2.1 1 _ rfl; have h2 := ent_cell hSw.2.2.1 2 _ rfl; go_simp⟩) hHeld ?_
 simp only [Act.put, List.getElem_toArray, List.getElem_cons_succ, List.getElem_cons_zero, List.setIfInBounds_toArray, List.set_cons_zero, List.set_cons_succ]
 refine wpAnyH_ready (rs := [10]) (by kernel_rfl) (by simp) ?_
 refine AllReadyH.cons rfl (fun K hK => ?_) AllReadyH.nil
 go_simp
 refine (apply_ok HM3.out.1 HN3.out (t := x) S3_3.out.p HX_3.out HPW.out.1 HPW.out.2.1).mono ?_
 rintro e wd4 ⟨r4, rfl, hb, hr⟩
 have HA_4 := Lib.hid hr; clear hr
 have E7_4 := Lib.hid (ent_below E7_3.out hb)
 have E9_4 := Lib.hid (ent_below E9_3.out hb)
 have E11_4 := Lib.hid (ent_below E11_3.out hb)
 have E17_4 := Lib.hid (ent_below E17_3.out hb)
 have HX_4 := Lib.hid (tyP_below HX_3.out hb)
 have HY_4 := Lib.hid (tyP_below HY_3.out hb)
 have HZ_4 := Lib.hid (tyP_below HZ_3.out hb)
 have HT_4 := Lib.hid (tyP_below HT_3.out hb)
 have S3_4 := Lib.hid (S3_3.out.below hb)
 have HB_4 := Lib.hid (HB_3.out.trans (hb.mono HB_3.out.size))
 clear hb HB_3 E7_3 E9_3 E11_3 E17_3 HX_3 HY_3 HZ_3 HT_3 S3_3
 refine hK.out _ _ ⟨E7_4.out, E9_4.out, E11_4.out, E17_4.out⟩ (fun hHeld => ?_)
 clear hK K
 refine wpAnyH_ready (rs := [13]) (by kernel_rfl) (by simp) ?_
 refine AllReadyH.cons rfl (fun K hK => ?_) AllReadyH.nil
 go_simp
 refine (apply_ok HM3.out.1 HN3.out (t := z) S3_4.out.p HZ_4.out HPW.out.1 (by rw [← HPW.out.2.2.2.1]; exact HPW.out.2.1)).mono ?_
 rintro e wd5 ⟨r5, rfl, hb, hr⟩
 have HC_5 := Lib.hid (show TyP wd5 r5 (x.app M) by rw [HPW.out.2.2.2.1]; exact hr); clear hr
 have E7_5 := Lib.hid (ent_below E7_4.out hb)
 have E9_5 := Lib.hid (ent_below E9_4.out hb)
 have E11_5 := Lib.hid (ent_below E11_4.out hb)
 have E17_5 := Lib.hid (ent_below E17_4.out hb)
 have HX_5 := Lib.hid (tyP_below HX_4.out hb)
 have HY_5 := Lib.hid (tyP_below HY_4.out hb)
 have HZ_5 := Lib.hid (tyP_below HZ_4.out hb)
 have HT_5 := Lib.hid (tyP_below HT_4.out hb)
 have HA_5 := Lib.hid (tyP_below HA_4.out hb)
 have S3_5 := Lib.hid (S3_4.out.below hb)
 have HB_5 := Lib.hid (HB_4.out.trans (hb.mono HB_4.out.size))
 clear hb HB_4 E7_4 E9_4 E11_4 E17_4 HX_4 HY_4 HZ_4 HT_4 HA_4 S3_4
 refine hK.out _ _ ⟨E7_5.out, E9_5.out, E11_5.out, E17_5.out⟩ (fun hHeld => ?_)
 clear hK K
 refine wpAnyH_ready (rs := [14]) (by kernel_rfl) (by simp) ?_
 refine AllReadyH.cons rfl (fun K hK => ?_) AllReadyH.nil
 go_simp
 refine (like_same HPW.out.2.1 r4 r5 wd5 HA_5.out HC_5.out (HTB.out wd5 HB_5.out)).mono ?_
 rintro e wd6 ⟨rfl, hb⟩
 clear HA_5 HC_5
 have E7_6 := Lib.hid (ent_below E7_5.out hb)
 have E9_6 := Lib.hid (ent_below E9_5.out hb)
 have E11_6 := Lib.hid (ent_below E11_5.out hb)
 have E17_6 := Lib.hid (ent_below E17_5.out hb)
 have HX_6 := Lib.hid (tyP_below HX_5.out hb)
 have HY_6 := Lib.hid (tyP_below HY_5.out hb)
 have HZ_6 := Lib.hid (tyP_below HZ_5.out hb)
 have HT_6 := Lib.hid (tyP_below HT_5.out hb)
 have S3_6 := Lib.hid (S3_5.out.below hb)
 have HB_6 := Lib.hid (HB_5.out.trans (hb.mono HB_5.out.size))
 clear hb HB_5 E7_5 E9_5 E11_5 E17_5 HX_5 HY_5 HZ_5 HT_5 S3_5
 refine hK.out _ _ ⟨E7_6.out, E9_6.out, E11_6.out, E17_6.out⟩ (fun hHeld => ?_)
 clear hK K
 refine wpAnyH_take (i := 15) (v := .bool true) rfl (by kernel_rfl) (by kernel_rfl) (by kernel_rfl) (fun _ _ _ h => h) (Or.inl ⟨by rfl, fun w' hSw => by go_simp⟩) hHeld ?_
 simp only [Act.put, List.getElem_toArray, List.getElem_cons_succ, List.getElem_cons_zero, List.setIfInBounds_toArray, List.set_cons_zero, List.set_cons_succ]
 refine wpAnyH_take (i := 16) (v := .bool true) rfl (by kernel_rfl) (by kernel_rfl) (by kernel_rfl) (fun _ _ _ h => h) (Or.inl ⟨by rfl, fun w' hSw => by go_simp⟩) hHeld ?_
 simp only [Act.put, List.getElem_toArray, List.getElem_cons_succ, List.getElem_cons_zero, List.setIfInBounds_toArray, List.set_cons_zero, List.set_cons_succ]
 refine wpAnyH_take (i := 17) (v := .map (some sb)) rfl (by kernel_rfl) (by kernel_rfl) (by kernel_rfl) (fun _ _ _ h => h) (Or.inl ⟨by go_simp, fun w' hSw => by go_simp⟩) hHeld ?_
 simp only [Act.put, List.getElem_toArray, List.getElem_cons_succ, List.getElem_cons_zero, List.setIfInBounds_toArray, List.set_cons_zero, List.set_cons_succ]
 refine wpAnyH_take (i := 18) (v := .map (some sb)) rfl (by kernel_rfl) (by kernel_rfl) (by kernel_rfl) (fun _ _ _ h => h) (Or.inl ⟨by go_simp, fun w' hSw => by go_simp⟩) hHeld ?_
 simp only [Act.put, List.getElem_toArray, List.getElem_cons_succ, List.getElem_cons_zero, List.setIfInBounds_toArray, List.set_cons_zero, List.set_cons_succ]
 refine wpAnyH_take (i := 19) (v := .agg #[.int .i64 i17, .string s17, .slice q17 m17 c17]) rfl (by kernel_rfl) (by kernel_rfl) (by kernel_rfl) (fun _ _ _ h => h) (Or.inl ⟨by go_simp, fun w' hSw => by have h0 := ent_cell hSw.2.2.2 0 _ rfl; have h1 := ent_cell hSw.2.2.2 1 _ rfl; have h2 := ent_cell hSw.2.2.2 2 _ rfl; go_simp⟩) hHeld ?_
 simp only [Act.put, List.getElem_toArray, List.getElem_cons_succ, List.getElem_cons_zero, List.setIfInBounds_toArray, List.set_cons_zero, List.set_cons_succ]
 refine wpAnyH_take (i := 23) (v := .map (some sb)) rfl (by kernel_rfl) (by kernel_rfl) (by kernel_rfl) (fun _ _ _ h => h) (Or.inl ⟨by go_simp, fun w' hSw => by go_simp⟩) hHeld ?_
 simp only [Act.put, List.getElem_toArray, List.getElem_cons_succ, List.getElem_cons_zero, List.setIfInBounds_toArray, List.set_cons_zero, List.set_cons_succ]
 refine wpAnyH_take (i := 24) (v := .agg #[.int .i64 i17, .string s17, .slice q17 m17 c17]) rfl (by kernel_rfl) (by kernel_rfl) (by kernel_rfl) (fun _ _ _ h => h) (Or.inl ⟨by go_simp, fun w' hSw => by have h0 := ent_cell hSw.2.2.2 0 _ rfl; have h1 := ent_cell hSw.2.2.2 1 _ rfl; have h2 := ent_cell hSw.2.2.2 2 _ rfl; go_simp⟩) hHeld ?_
 simp only [Act.put, List.getElem_toArray, List.getElem_cons_succ, List.getElem_cons_zero, List.setIfInBounds_toArray, List.set_cons_zero, List.set_cons_succ]
 refine wpAnyH_ready (rs := [20]) (by kernel_rfl) (by simp) ?_
 refine AllReadyH.cons rfl (fun K hK => ?_) AllReadyH.nil
 go_simp
 refine (apply_ok HM3.out.1 HN3.out (t := bt) S3_6.out.p HT_6.out HPW.out.1 HPW.out.2.2.2.2).mono ?_
 rintro e wd7 ⟨r7, rfl, hb, hr⟩
 have HA_7 := Lib.hid hr; clear hr
 have E7_7 := Lib.hid (ent_below E7_6.out hb)
 have E9_7 := Lib.hid (ent_below E9_6.out hb)
 have E11_7 := Lib.hid (ent_below E11_6.out hb)
 have E17_7 := Lib.hid (ent_below E17_6.out hb)
 have HX_7 := Lib.hid (tyP_below HX_6.out hb)
 have HY_7 := Lib.hid (tyP_below HY_6.out hb)
 have HZ_7 := Lib.hid (tyP_below HZ_6.out hb)
 have HT_7 := Lib.hid (tyP_below HT_6.out hb)
 have S3_7 := Lib.hid (S3_6.out.below hb)
 have HB_7 := Lib.hid (HB_6.out.trans (hb.mono HB_6.out.size))
 clear hb HB_6 E7_6 E9_6 E11_6 E17_6 HX_6 HY_6 HZ_6 HT_6 S3_6
 refine hK.out _ _ ⟨E7_7.out, E9_7.out, E11_7.out, E17_7.out⟩ (fun hHeld => ?_)
 clear hK K
 refine wpAnyH_ready (rs := [21]) (by kernel_rfl) (by simp) ?_
 refine AllReadyH.cons rfl (fun K hK => ?_) AllReadyH.nil
 go_simp
 refine (apply_ok HM3.out.1 HN3.out (t := bt.app M) S3_7.out.p HA_7.out HPW.out.1 (by rw [norm_idem HM3.out.1 HN3.out]; exact HPW.out.2.2.2.2)).mono ?_
 rintro e wd8 ⟨r8, rfl, hb, hr⟩
 have HC_8 := Lib.hid (show TyP wd8 r8 (bt.app M) by rw [norm_idem HM3.out.1 HN3.out] at hr; exact hr); clear hr HA_7
 have E7_8 := Lib.hid (ent_below E7_7.out hb)
 have E9_8 := Lib.hid (ent_below E9_7.out hb)
 have E11_8 := Lib.hid (ent_below E11_7.out hb)
 have E17_8 := Lib.hid (ent_below E17_7.out hb)
 have HX_8 := Lib.hid (tyP_below HX_7.out hb)
 have HY_8 := Lib.hid (tyP_below HY_7.out hb)
 have HZ_8 := Lib.hid (tyP_below HZ_7.out hb)
 have HT_8 := Lib.hid (tyP_below HT_7.out hb)
 have S3_8 := Lib.hid (S3_7.out.below hb)
 have HB_8 := Lib.hid (HB_7.out.trans (hb.mono HB_7.out.size))
 clear hb HB_7 E7_7 E9_7 E11_7 E17_7 HX_7 HY_7 HZ_7 HT_7 S3_7
 refine hK.out _ _ ⟨E7_8.out, E9_8.out, E11_8.out, E17_8.out⟩ (fun hHeld => ?_)
 clear hK K
 refine wpAnyH_ready (rs := [22]) (by kernel_rfl) (by simp) ?_
 refine AllReadyH.cons rfl (fun K hK => ?_) AllReadyH.nil
 go_simp
 refine (rtext_ok HPW.out.2.2.2.2 r8 wd8 HC_8.out (HTB.out wd8 HB_8.out)).mono ?_
 rintro e wd9 ⟨rfl, hb⟩
 rw [← HTX.out]
 clear HC_8
 have E7_9 := Lib.hid (ent_below E7_8.out hb)
 have E9_9 := Lib.hid (ent_below E9_8.out hb)
 have E11_9 := Lib.hid (ent_below E11_8.out hb)
 have E17_9 := Lib.hid (ent_below E17_8.out hb)
 have HX_9 := Lib.hid (tyP_below HX_8.out hb)
 have HY_9 := Lib.hid (tyP_below HY_8.out hb)
 have HZ_9 := Lib.hid (tyP_below HZ_8.out hb)
 have HT_9 := Lib.hid (tyP_below HT_8.out hb)
 have S3_9 := Lib.hid (S3_8.out.below hb)
 have HB_9 := Lib.hid (HB_8.out.trans (hb.mono HB_8.out.size))
 clear hb HB_8 E7_8 E9_8 E11_8 E17_8 HX_8 HY_8 HZ_8 HT_8 S3_8
 refine hK.out _ _ ⟨E7_9.out, E9_9.out, E11_9.out, E17_9.out⟩ (fun hHeld => ?_)
 clear hK K
 refine wpAnyH_ready (rs := [25]) (by kernel_rfl) (by simp) ?_
 refine AllReadyH.cons rfl (fun K hK => ?_) AllReadyH.nil
 go_simp
 refine (apply_ok HM3.out.1 HN3.out (t := bt) S3_9.out.p HT_9.out HPW.out.1 HPW.out.2.2.2.2).mono ?_
 rintro e wd10 ⟨r10, rfl, hb, hr⟩
 have HA_10 := Lib.hid hr; clear hr
 have E7_10 := Lib.hid (ent_below E7_9.out hb)
 have E9_10 := Lib.hid (ent_below E9_9.out hb)
 have E11_10 := Lib.hid (ent_below E11_9.out hb)
 have E17_10 := Lib.hid (ent_below E17_9.out hb)
 have HX_10 := Lib.hid (tyP_below HX_9.out hb)
 have HY_10 := Lib.hid (tyP_below HY_9.out hb)
 have HZ_10 := Lib.hid (tyP_below HZ_9.out hb)
 have HT_10 := Lib.hid (tyP_below HT_9.out hb)
 have S3_10 := Lib.hid (S3_9.out.below hb)
 have HB_10 := Lib.hid (HB_9.out.trans (hb.mono HB_9.out.size))
 clear hb HB_9 E7_9 E9_9 E11_9 E17_9 HX_9 HY_9 HZ_9 HT_9 S3_9
 refine hK.out _ _ ⟨E7_10.out, E9_10.out, E11_10.out, E17_10.out⟩ (fun hHeld => ?_)
 clear hK K
 refine wpAnyH_ready (rs := [26]) (by kernel_rfl) (by simp) ?_
 refine AllReadyH.cons rfl (fun K hK => ?_) AllReadyH.nil
 go_simp
 refine (rtext_ok HPW.out.2.2.2.2 r10 wd10 HA_10.out (HTB.out wd10 HB_10.out)).mono ?_
 rintro e wd11 ⟨rfl, hb⟩
 rw [← HTX.out]
 clear HA_10
 have E7_11 := Lib.hid (ent_below E7_10.out hb)
 have E9_11 := Lib.hid (ent_below E9_10.out hb)
 have E11_11 := Lib.hid (ent_below E11_10.out hb)
 have E17_11 := Lib.hid (ent_below E17_10.out hb)
 have HX_11 := Lib.hid (tyP_below HX_10.out hb)
 have HY_11 := Lib.hid (tyP_below HY_10.out hb)
 have HZ_11 := Lib.hid (tyP_below HZ_10.out hb)
 have HT_11 := Lib.hid (tyP_below HT_10.out hb)
 have S3_11 := Lib.hid (S3_10.out.below hb)
 have HB_11 := Lib.hid (HB_10.out.trans (hb.mono HB_10.out.size))
 clear hb HB_10 E7_10 E9_10 E11_10 E17_10 HX_10 HY_10 HZ_10 HT_10 S3_10
 refine hK.out _ _ ⟨E7_11.out, E9_11.out, E11_11.out, E17_11.out⟩ (fun hHeld => ?_)
 clear hK K
 refine wpAnyH_take (i := 27) (v := .bool true) rfl (by kernel_rfl) (by kernel_rfl) (by kernel_rfl) (fun _ _ _ h => h) (Or.inl ⟨by go_simp, fun w' hSw => by go_simp⟩) hHeld ?_
 simp only [Act.put, List.getElem_toArray, List.getElem_cons_succ, List.getElem_cons_zero, List.setIfInBounds_toArray, List.set_cons_zero, List.set_cons_succ]
 refine wpAnyH_take (i := 28) (v := .bool true) rfl (by kernel_rfl) (by kernel_rfl) (by kernel_rfl) (fun _ _ _ h => h) (Or.inl ⟨by rfl, fun w' hSw => by go_simp⟩) hHeld ?_
 simp only [Act.put, List.getElem_toArray, List.getElem_cons_succ, List.getElem_cons_zero, List.setIfInBounds_toArray, List.set_cons_zero, List.set_cons_succ]
 refine wpAnyH_take (i := 29) (v := .bool true) rfl (by kernel_rfl) (by kernel_rfl) (by kernel_rfl) (fun _ _ _ h => h) (Or.inl ⟨by rfl, fun w' hSw => by go_simp⟩) hHeld ?_
 simp only [Act.put, List.getElem_toArray, List.getElem_cons_succ, List.getElem_cons_zero, List.setIfInBounds_toArray, List.set_cons_zero, List.set_cons_succ]
 refine wpAnyH_done (by kernel_rfl) ?_ _
 clear hHeld
 go_wp2_with fail
 go_ret
 exact ⟨rfl, HB_11.out⟩
end Go.Proofs.YthphilkihmnglaaDoor
