/-
  ScopeChecks: its walk.
-/
import Derived.Test.YtgoacbomphlhjaaP00
import Derived.Test.YtgoacbomphlhjaaP23
import Derived.Test.YtgoacbomphlhjaaP28
import Derived.Deep.DeepCutAuto
set_option linter.unusedVariables false
set_option linter.unusedSimpArgs false
namespace Go.Proofs.Ytgoacbomphlhjaa
open Go.Lib (hid)
open List renaming getElem_toArray → jX, getElem_cons_succ → jY, getElem_cons_zero → jZ, setIfInBounds_toArray → JA, set_cons_zero → JB, set_cons_succ → JC
open Go Go.RowKit
theorem enc_inj {a b : C3} (h : encK a = encK b) : a = b := by
 simp only [encK, DataW.agg.injEq, List.cons.injEq, DataW.lit.injEq, Lit.int.injEq, true_and, and_true] at h
 exact Prod.ext h.1 (Prod.ext h.2.1 h.2.2)
theorem putm_some {α : Type} {m : Nm → Option α} {s x : Nm} {a : α} (h : (m x).isSome = true) : (putm m s a x).isSome = true := by
 unfold putm; split; rfl; exact h
theorem conFold_some (i : Int) (x : Nm) : ∀ (l : List (Px.Con × Nat)) (m : Nm → Option C3), ((m x).isSome = true ∨ ∃ ck ∈ l, ck.1.name = x) → ((l.foldl (conStep i) m) x).isSome = true
 | [], m, h => h.elim id (fun ⟨_, h, _⟩ => by cases h)
 | c :: r, m, h => by
   rw [List.foldl_cons]
   refine conFold_some i x r _ ?_
   rcases h with h | ⟨ck, hk, e⟩
   · exact .inl (putm_some h)
   · rcases List.mem_cons.1 hk with rfl | hk
     · exact .inl (by rw [conStep, putm, if_pos e.symm]; rfl)
     · exact .inr ⟨ck, hk, e⟩
theorem consFold_some (x : Nm) : ∀ (l : List (Px.Data × Nat)) (m : Nm → Option C3), ((m x).isSome = true ∨ ∃ dk ∈ l, ∃ c ∈ dk.1.cons, c.name = x) → ((l.foldl consStep m) x).isSome = true
 | [], m, h => h.elim id (fun ⟨_, h, _⟩ => by cases h)
 | d :: r, m, h => by
   rw [List.foldl_cons]
   refine consFold_some x r _ ?_
   rcases h with h | ⟨dk, hk, c, hc, e⟩
   · exact .inl (conFold_some _ x _ _ (.inl h))
   · rcases List.mem_cons.1 hk with rfl | hk
     · obtain ⟨k, hk⟩ := List.mem_iff_getElem?.1 hc
       exact .inl (conFold_some _ x _ _ (.inr ⟨(c, k), List.mem_of_getElem? (zip_at hk), e⟩))
     · exact .inr ⟨dk, hk, c, hc, e⟩
theorem consTab_mem {ds : List Px.Data} {d : Px.Data} {c : Px.Con} (hd : d ∈ ds) (hc : c ∈ d.cons) : (consTab ds c.name).isSome = true := by
 obtain ⟨k, hk⟩ := List.mem_iff_getElem?.1 hd
 exact consFold_some _ _ _ (.inr ⟨(d, k), List.mem_of_getElem? (zip_at hk), c, hc, rfl⟩)
theorem consTab_true (ds : List Px.Data) : (consTab ds sTrue).isSome = true := consFold_some _ _ _ (.inl (by decide))
theorem consTab_false (ds : List Px.Data) : (consTab ds sFalse).isSome = true := consFold_some _ _ _ (.inl (by decide))
theorem lookC_run {w : World} {mb n : Nat} {m : Nm → Option C3} (s : Nm) (h : MapC w mb n m) (hs : s.length ≤ 400000) (hm : (m s).isSome = true) :
 ∃ k1 k2 k3 : Int, (Instr.lookup 35 (.map (some mb)) (.string ⟨s.toArray⟩) true).run Try.prog w = Result.ok (.tuple #[.agg #[.int .i64 k1, .int .i64 k2, .int .i64 k3], .bool true]) w := by
 obtain ⟨D, o1, t1, n1⟩ := h
 have hz : (zeroValue 38).run Try.prog w = .ok (mkC (0, 0, 0)) w := by kernel_rfl
 obtain ⟨v, ps, hrun, hv⟩ := o1.look_ok lawStr Try.underlying35 hz (zd := encK (0, 0, 0)) (zp := []) (RCon_mk _) (keyLit s (by unfold maxLen; omega))
 obtain ⟨⟨k1, k2, k3⟩, rfl, hy⟩ := RCon_inv hv
 rw [(n1 s).1, hm] at hrun
 exact ⟨k1, k2, k3, hrun⟩
set_option maxHeartbeats 16000000 in
set_option maxRecDepth 100000 in
theorem scopeChecks_walk (w : World) (a0 : Option Addr) (n c : Nat) (l : List UInt8) (hs : SrcAt w (.slice a0 n c) l) (hl : l.length = n) (hn : n ≤ 140737488351232) :
 Calls Try.prog 3 #[.slice a0 n c] w fun e w' => e = .returned (.bool true) ∧ Below w.heap.size w w' := by
 have HS := hid hs; have HL := hid hl
 clear hs hl
 go_enter Try.func3, Try.ntmps3
 go_wp2_with fail
 refine (lives_any _).mono ?_
 rintro e w1 ⟨rfl, hb1⟩
 have HB1 := hid hb1; clear hb1
 by_cases hlong : 2500 < n
 · have hl2 : (2500 : Int) < (n : Int) := by omega
   go_wp2_with fail
   refine (lives_any _).mono ?_
   rintro e w2 ⟨rfl, hb2⟩
   have HB2 := hid (HB1.out.trans (hb2.mono HB1.out.size)); clear hb2
   go_wp2_with fail
   go_ret
   exact ⟨rfl, HB2.out⟩
 have hl2 : ¬ (2500 : Int) < (n : Int) := by omega
 have hcv := conv_src (HS.out.below HB1.out)
 go_wp2_with fail
 refine (RProgram_any l _ (by have := HL.out; omega)).mono ?_
 rintro e w2 ⟨hb2, v, pp, kk, rfl, hsh, hres⟩
 have HB2 := hid (HB1.out.trans (hb2.mono HB1.out.size)); clear hb2 hcv
 generalize hout : Px.program l = out at *
 cases out with
 | lex q =>
   obtain ⟨rfl, rfl⟩ := hres
   obtain ⟨q1, n1, c1, q2, n2, c2, rfl⟩ := hsh
   go_wp2_with fail
   go_ret
   exact ⟨rfl, HB2.out.alloc HB2.out.size _⟩
 | parse q =>
   obtain ⟨rfl, rfl⟩ := hres
   obtain ⟨q1, n1, c1, q2, n2, c2, rfl⟩ := hsh
   go_wp2_with fail
   go_ret
   exact ⟨rfl, HB2.out.alloc HB2.out.size _⟩
 | done p =>
 obtain ⟨rfl, rfl, hnew⟩ := hres
 clear hsh
 obtain ⟨q1, c1, q2, c2, rfl⟩ := progAt_sh hnew.now
 have HP := hid (new_alloc hnew (.cells #[.slice q1 p.datas.length c1, .slice q2 p.defs.length c2] 27))
 have HB3 := hid (HB2.out.alloc HB2.out.size (.cells #[.slice q1 p.datas.length c1, .slice q2 p.defs.length c2] 27))
 have EX3 := hid (jI w2 #[.slice q1 p.datas.length c1, .slice q2 p.defs.length c2] 27)
 have HW := hid (Px.program_wt l p hout)
 have HG := hid (Px.program_good l p hout)
 have HPO := hid (prog_hdo p HG.out)
 clear hnew hout HS HL
 have hdw : (p.datas.map Sx.dw).sum ≤ 400000 := by have := HW.out; omega
 have hdl : p.datas.length ≤ 400000 := Nat.le_trans (Sx.len_sum Sx.dw _ (fun x _ => by unfold Sx.dw; omega)) hdw
 have e0 := jA EX3.out 0 _ rfl; have e1 := jA EX3.out 1 _ rfl
 go_wp2_with fail
 clear e0 e1
 refine (Check_any p _ _ HP.out (by have := HW.out; omega)).mono ?_
 rintro e w4 ⟨rfl, hb4⟩
 have HB4 := hid (HB3.out.trans (hb4.mono HB3.out.size))
 have EX4 := hid (jC EX3.out hb4)
 have HP4 := hid (jP HP.out hb4)
 obtain ⟨pb, hpb⟩ : ∃ b, w2.heap.size = b := ⟨_, rfl⟩
 rw [hpb] at EX4 ⊢
 clear hb4 HP EX3 HB3 hpb
 have e0 := jA EX4.out 0 _ rfl; have e1 := jA EX4.out 1 _ rfl
 go_wp2_with fail
 clear e0 e1
 refine (wrong_any p _ w4 HP4.out (by have := HW.out; omega) HG.out).mono ?_
 rintro e w5 ⟨v5, rfl, hb5, ho5⟩
 have HO5 := hid (ownI_row ho5)
 have HB5 := hid (HB4.out.trans (hb5.mono HB4.out.size))
 have EX5 := hid (jC EX4.out hb5)
 have HP5 := hid (jP HP4.out hb5)
 obtain ⟨q5, c5, rfl⟩ := jF ho5
 clear hb5 ho5 EX4 HB4
 obtain ⟨av, hav⟩ : ∃ x, progS p = x := ⟨_, rfl⟩
 obtain ⟨bv, hbv⟩ : ∃ x, checkNo av = x := ⟨_, rfl⟩
 obtain ⟨W, hW⟩ : ∃ x, wrongW p = x := ⟨_, rfl⟩
 have HAV := hid (show av = hdo (-1) W by rw [← hav, HPO.out, hW])
 have HBV := hid hbv
 rw [hW] at HO5
 rw [hav, hbv, hW]
 clear hav hbv hW
 go_upto_region 8 with fail
 go_cut [77] (fun o wx => o = .bool false ∧ Hid (Below w5.heap.size w5 wx))
 case first =>
  cases W with
  | nil =>
    obtain rfl : av = -1 := HAV.out
    obtain rfl : bv = 0 := HBV.out.symm.trans (by decide)
    simp only [List.length_nil]
    go_wp2_with fail
    go_meet
    exact ⟨rfl, hid (Below.refl _ _)⟩
  | cons p0 r =>
    obtain rfl : av = (p0 : Int) := by rw [HAV.out, hdo_cons, if_pos rfl]
    obtain rfl : bv = 4 := HBV.out.symm.trans (by rw [checkNo, if_neg (by omega)])
    rcases HO5.out with ⟨h0, _⟩ | ⟨g, of, c', hv, g1, g2, g3⟩
    · cases h0
    injection hv with hq1 _ hq2
    subst hq1; subst hq2
    obtain ⟨u, hu, _, hcell⟩ := g3 0 p0 rfl
    have hu' : u = .int .i64 p0 := hu
    subst hu'
    have h0 := hcell 0 _ rfl
    simp only [Nat.zero_mul, Nat.add_zero] at h0
    rw [List.length_cons] at g1
    have hk1 : (0 : Int) < (r.length : Int) + 1 := by omega
    have hk2 : (r.length : Int) + 1 ≤ (c5 : Int) := by omega
    have hk4 : (0 : Int) < (c5 : Int) := by omega
    have hk5 : ¬ (r.length : Int) + 1 = 0 := by omega
    have hk6 : ((r.length : Int) + 1 == 0) = false := beq_eq_false_iff_ne.2 hk5
    have hk3 := g2
    clear g1 g2 g3 hcell hu
    go_wp2_with fail
    go_meet
    exact ⟨rfl, hid (Below.refl _ _)⟩
 case rest =>
 obtain ⟨rfl, HQ⟩ := hcut
 have EX6 := hid (jC EX5.out HQ.out)
 have HP6 := hid (jP HP5.out HQ.out)
 have HB6 := hid (HB5.out.trans (HQ.out.mono HB5.out.size))
 clear EX5 HP5 HB5 HQ HO5 HPO HP4
 obtain ⟨w6, hw6⟩ : ∃ x, x = wc := ⟨wc, rfl⟩
 subst hw6
 have e0 := jA EX6.out 0 _ rfl; have e1 := jA EX6.out 1 _ rfl
 go_wp2_with fail
 clear e0 e1
 refine (cons_any 50 p _ w6 HP6.out hdw).mono ?_
 rintro e w7 ⟨mb, rfl, hb7, hmb, hmap⟩
 have EX7 := hid (jC EX6.out hb7)
 have HP7 := hid (jP HP6.out hb7)
 have HB7 := hid (HB6.out.trans (hb7.mono HB6.out.size))
 clear hb7 EX6 HP6 HB6
 obtain ⟨n0, hn0⟩ : ∃ x, 2 + (p.datas.map Sx.dw).sum = x := ⟨_, rfl⟩
 have hn4 : n0 ≤ 400010 := by omega
 rw [hn0] at hmap
 have hml := hmap.lt
 obtain ⟨D, h1, h2, h3⟩ := hmap
 have O0 := hid h1; have T0 := hid h2; have N0 := hid h3
 have hsz := owns_size h1
 clear h1 h2 h3 hmb hn0
 go_wp2_with (first
  | (at_range; refine wpList_range_own _ rfl _ 35 rfl 9 38 lawStr Try.underlying35 RCon mb n0 D rfl O0.out ?_; intro w8 hrg0 hg0 hs0)
  | go_in)
 go_frame
 have HB8 := hid ((Below.refl _ w7).grown hg0 (Nat.le_refl _) (fun j hj => by cases hj))
 have RG0 := hid hrg0
 obtain ⟨rb, hrb⟩ : ∃ x, w7.heap.size = x := ⟨_, rfl⟩
 rw [hrb] at RG0 hs0 ⊢
 have hrb2 : w7.heap.size ≤ rb := Nat.le_of_eq hrb
 clear hrg0 hg0 O0 hrb
 go_loopw [10] (fun nn wx => ∃ (left : Lit → Bool) (cnt : Nat) (V : List Nm), nn = .int .i64 V.length ∧ Hid (wx.ranges Try.prog 9 RCon mb rb n0 D left cnt) ∧ V.length + cnt ≤ n0 ∧ Hid (∀ s, left (.string s) = (Maps.has D (.string s) && !V.contains s)) ∧ Hid (V.Nodup ∧ ∀ s ∈ V, Maps.has D (.string s) = true) ∧ Hid (Below w7.heap.size w7 wx))
  (fun _ wr => wr.rangeLeft mb rb)
 case atStart => exact ⟨_, _, [], rfl, RG0, by simpa using hsz, hid (by simp), hid (by simp), HB8⟩
 case round =>
  clear RG0 HB8
  obtain ⟨left, cnt, V, rfl, RG, hcn, HLF, HV, HX⟩ := hrel
  have RGX := hid RG.out.left_eq
  have EX := hid (jC EX7.out HX.out)
  have HPR := hid (jP HP7.out HX.out)
  have HB := hid (HB7.out.trans (HX.out.mono HB7.out.size))
  go_wp2_with (first
   | (at_next; refine wpList_next_ranges _ rfl _ rfl 9 lawStr RCon Value.string mkC (fun key kl hk => by obtain ⟨s, e, _⟩ := keyStr_inv hk; exact ⟨s, e⟩) (fun v y hv => by obtain ⟨a, e, _⟩ := RCon_inv hv; exact ⟨a, e⟩) mb rb n0 D left cnt rfl RG.out ?_ ?_)
   | go_in)
  · intro hc0 hl0
    have HSZ := hid (size_is RG.out.owns T0.out V HV.out.1 HV.out.2 (fun s hs => by
     have h := HLF.out s
     rw [hl0, hs, Bool.true_and] at h
     simpa using h.symm))
    have HM : Hid (MapC wr mb n0 (consTab p.datas)) := hid ⟨D, RG.out.owns, T0.out, N0.out⟩
    have HOW := hid RG.out.owns
    have hVl : V.length ≤ 400010 := by omega
    clear hl0 hc0 RG HLF HV
    have e0 := jA EX.out 0 _ rfl; have e1 := jA EX.out 1 _ rfl
    have HR : Hid (RowAt 4 (DataAt 50 wr) wr (.slice q1 p.datas.length c1) p.datas) := hid (by
     obtain ⟨dv, fv, hpv, h1, h2⟩ := HPR.out
     simp only [Value.agg.injEq, Array.mk.injEq, List.cons.injEq, and_true] at hpv
     obtain ⟨rfl, rfl⟩ := hpv
     exact h1)
    obtain ⟨wZ, hwZ⟩ : ∃ x, x = wr := ⟨wr, rfl⟩
    subst hwZ
    go_wp2_with fail
    clear e0 e1
    go_loopw [120] (fun i wx => ∃ k : Nat, i = .int .i64 k ∧ k ≤ p.datas.length ∧ Hid (Below wZ.heap.size wZ wx)) (fun i _ => p.datas.length - (intOf i).toNat)
    case atStart => exact ⟨0, rfl, Nat.zero_le _, hid (Below.refl _ _)⟩
    case round =>
     obtain ⟨k, rfl, hk, HBZ⟩ := hrel
     by_cases hlt : k < p.datas.length
     · obtain ⟨d, hd⟩ : ∃ x, p.datas[k]? = some x := ⟨_, List.getElem?_eq_getElem hlt⟩
       rcases HR.out with ⟨h0, _⟩ | ⟨g, of, c', hv, g1, g2, g3⟩
       · rw [h0] at hlt; simp at hlt
       injection hv with hq1 _ hq2
       subst hq1; subst hq2
       obtain ⟨u, hu, _, hcell⟩ := g3 k d hd
       obtain ⟨qp, cp, qk, ck, rfl, hpr, hcr⟩ := dataAt_sh hu
       have z0 := jE HBZ.out (hcell 0 _ rfl); have z1 := jE HBZ.out (hcell 1 _ rfl); have z2 := jE HBZ.out (hcell 2 _ rfl); have z3 := jE HBZ.out (hcell 3 _ rfl)
       simp only [Nat.add_zero] at z0
       have hk1 : (k : Int) < (p.datas.length : Int) := by omega
       have hk2 : (p.datas.length : Int) ≤ (c1 : Int) := by omega
       have hk3 := g2
       have HCR := hid hcr; have HD := hid hd
       have hdd := Sx.sum_mem Sx.dw (List.mem_of_getElem? hd)
       have hcl : d.cons.length ≤ 400000 := by have := cons_le d; omega
       have HDW := hid (show Sx.dw d ≤ 400000 by omega)
       have E4 := hid (jI wr #[.int .i64 d.pos, .string ⟨d.name.toArray⟩, .slice qp d.params.length cp, .slice qk d.cons.length ck] 44)
       have HB4 := hid (HBZ.out.alloc HBZ.out.size (.cells #[.int .i64 d.pos, .string ⟨d.name.toArray⟩, .slice qp d.params.length cp, .slice qk d.cons.length ck] 44))
       have y3 := jA E4.out 3 _ rfl
       clear g1 g2 g3 hcell hu hd hpr hcr hdd
       go_wp2_with fail
       clear z0 z1 z2 z3 y3 E4
       obtain ⟨wY, hwY⟩ : ∃ x, x = wr.alloc (.cells #[.int .i64 d.pos, .string ⟨d.name.toArray⟩, .slice qp d.params.length cp, .slice qk d.cons.length ck] 44) := ⟨_, rfl⟩
       rw [← hwY] at HB4 ⊢
       clear hwY
       go_loopw [127] (fun i wx => ∃ j : Nat, i = .int .i64 j ∧ j ≤ d.cons.length ∧ Hid (Below wZ.heap.size wZ wx)) (fun i _ => d.cons.length - (intOf i).toNat)
       case atStart => exact ⟨0, rfl, Nat.zero_le _, HB4⟩
       case round =>
        clear HB4
        obtain ⟨j, rfl, hj, HBY⟩ := hrel
        by_cases hlt2 : j < d.cons.length
        · obtain ⟨x, hx⟩ : ∃ x, d.cons[j]? = some x := ⟨_, List.getElem?_eq_getElem hlt2⟩
          rcases HCR.out with ⟨h0, _⟩ | ⟨g, of, c', hv, g1, g2, g3⟩
          · rw [h0] at hlt2; simp at hlt2
          injection hv with hq1 _ hq2
          subst hq1; subst hq2
          obtain ⟨u, hu, _, hcell⟩ := g3 j x hx
          obtain ⟨qf, cf, rfl, hfr⟩ := conAt_sh hu
          have z0 := jE HBY.out (hcell 0 _ rfl); have z1 := jE HBY.out (hcell 1 _ rfl); have z2 := jE HBY.out (hcell 2 _ rfl)
          simp only [Nat.add_zero] at z0
          have hj1 : (j : Int) < (d.cons.length : Int) := by omega
          have hj2 : (d.cons.length : Int) ≤ (ck : Int) := by omega
          have hj3 := g2
          have hxw : x.name.length ≤ 400000 := by
           have h1 := Sx.sum_mem Sx.cw (List.mem_of_getElem? hx)
           have h2 : Sx.dw d = 1 + d.name.length + nw d.params + (d.cons.map Sx.cw).sum := rfl
           have h3 : Sx.cw x = 1 + x.name.length + (x.fields.map (Sx.tyw 50)).sum := rfl
           have := HDW.out; omega
          have hsome := consTab_mem (List.mem_of_getElem? HD.out) (List.mem_of_getElem? hx)
          have E5 := hid (jI wr #[.int .i64 x.pos, .string ⟨x.name.toArray⟩, .slice qf x.fields.length cf] 47)
          have HB5 := hid (HBY.out.alloc HBY.out.size (.cells #[.int .i64 x.pos, .string ⟨x.name.toArray⟩, .slice qf x.fields.length cf] 47))
          have y1 := jA E5.out 1 _ rfl
          obtain ⟨k1, k2, k3, hlk⟩ := lookC_run x.name (HM.out.below HB5.out) hxw hsome
          clear g1 g2 g3 hcell hu hfr hx hsome hxw
          go_wp2_with fail
          go_roundw
          case rel => exact ⟨j + 1, by go_num, by omega, hid (HB5.out.alloc HB5.out.size _)⟩
          case measure => simp [intOf]; omega
        · obtain rfl : j = d.cons.length := by omega
          go_wp2_with fail
          go_roundw
          case rel => exact ⟨k + 1, by go_num, by omega, HBY⟩
          case measure => simp [intOf]; omega
     · obtain rfl : k = p.datas.length := by omega
       have HMZ := hid (HM.out.below HBZ.out)
       obtain ⟨k1, k2, k3, hlk1⟩ : ∃ k1 k2 k3 : Int, (Instr.lookup 35 (.map (some mb)) (.string ⟨#[84, 114, 117, 101]⟩) true).run Try.prog wr = Result.ok (.tuple #[.agg #[.int .i64 k1, .int .i64 k2, .int .i64 k3], .bool true]) wr := lookC_run sTrue HMZ.out (by decide) (consTab_true p.datas)
       have hb1 := (Below.refl _ wr).alloc (Nat.le_refl _) (.cells #[.int .i64 k1, .int .i64 k2, .int .i64 k3] 38)
       obtain ⟨m1, m2, m3, hlk2⟩ : ∃ m1 m2 m3 : Int, (Instr.lookup 35 (.map (some mb)) (.string ⟨#[70, 97, 108, 115, 101]⟩) true).run Try.prog (wr.alloc (.cells #[.int .i64 k1, .int .i64 k2, .int .i64 k3] 38)) = Result.ok (.tuple #[.agg #[.int .i64 m1, .int .i64 m2, .int .i64 m3], .bool true]) (wr.alloc (.cells #[.int .i64 k1, .int .i64 k2, .int .i64 k3] 38)) := lookC_run sFalse (HMZ.out.below hb1) (by decide) (consTab_false p.datas)
       have hb2 := hb1.alloc hb1.size (.cells #[.int .i64 m1, .int .i64 m2, .int .i64 m3] 38)
       have hlen := fun ty => World.ownsMap.len (HOW.out.kept (grown_same (HBZ.out.trans (hb2.mono HBZ.out.size))) (by simp)) Try.underlying35 ty
       rw [HSZ.out] at hlen
       have HE := hid (HB.out.trans ((HBZ.out.trans (hb2.mono HBZ.out.size)).mono HB.out.size))
       clear hb1 hb2
       go_wp2_with fail
       go_ret
       exact ⟨rfl, HE.out⟩
  · intro x d1 d2 d3 kl ya yb w1' cnt1 hkl hlx hry hat hrg1 hlt hg1 hs1 hen
    obtain ⟨x', ex, rfl, hxl⟩ := keyStr_inv hkl
    injection ex with ex
    subst ex
    obtain ⟨s, rfl⟩ : ∃ s : List UInt8, x = ⟨s.toArray⟩ := ⟨x.data.toList, by cases x; simp⟩
    replace hlx : left (.string s) = true := hlx
    have RG1 : Hid (w1'.ranges Try.prog 9 RCon mb rb n0 D (fun z => left z && !z.sameKey (Lit.string s)) cnt1) := hid hrg1
    replace hat : ∀ zd, D.atKey (.string s) zd = ya := hat
    replace hen : (Instr.entry (.pointer (some ⟨rb, 0, none⟩))).run Try.prog w1' = .ok (.tuple #[.string ⟨s.toArray⟩, .agg #[.int .i64 d1, .int .i64 d2, .int .i64 d3]]) w1' := hen
    have hh := HLF.out s
    rw [hlx] at hh
    have hh2 := Bool.and_eq_true_iff.1 hh.symm
    have hnc : V.contains s = false := by simpa using hh2.2
    have hsome : (consTab p.datas s).isSome = true := by rw [← (N0.out s).1]; exact hh2.1
    obtain ⟨kk3, hk3⟩ := Option.isSome_iff_exists.1 hsome
    have hy : ya = encK (d1, d2, d3) := by
     have := Option.some.inj ((RCon_mk (d1, d2, d3)).symm.trans hry)
     exact (congrArg Prod.fst this).symm
    have hkc : kk3 = (d1, d2, d3) := enc_inj (by rw [← (N0.out s).2 kk3 (encK kk3) hk3, hat, hy])
    subst hkc
    have HFV := hid (findV_some hk3)
    have HLF1 : Hid (∀ t, (left (.string t) && !(Lit.string t).sameKey (.string s)) = (Maps.has D (.string t) && !(s :: V).contains t)) := hid (fun t => by
     rw [HLF.out t, List.contains_cons]
     by_cases e : t = s
     · subst e; simp [WideAt.sameKey_self (show WideAt.IsKeyLit (Lit.string t) from trivial)]
     · have h1 := Maps.sameKey_ne (show (Lit.string t) ≠ Lit.string s from fun h => e (by injection h))
       rw [h1, beq_eq_false_iff_ne.2 e]; simp)
    have HV1 : Hid ((s :: V).Nodup ∧ ∀ t ∈ s :: V, Maps.has D (.string t) = true) := hid ⟨List.nodup_cons.2 ⟨by simpa using hnc, HV.out.1⟩, fun t ht => by rcases List.mem_cons.1 ht with rfl | ht; exact hh2.1; exact HV.out.2 t ht⟩
    have HX1 := hid (HX.out.grown hg1 HX.out.size (fun j hj => by cases hj; exact hrb2))
    have HXA := hid (HX1.out.alloc HX1.out.size (.cells #[.int .i64 d1, .int .i64 d2, .int .i64 d3] 38))
    have EC := hid (jI w1' #[.int .i64 d1, .int .i64 d2, .int .i64 d3] 38)
    have RGA := hid (RG1.out.alloc (.cells #[.int .i64 d1, .int .i64 d2, .int .i64 d3] 38))
    have EXA := hid (jC EX7.out HXA.out)
    have HPA := hid (jP HP7.out HXA.out)
    clear hs1 hkl hry hat hrg1 hg1 hsome hk3 hy hh hh2 hnc hlx HLF HV RG1 EX HPR HB HX1 RG
    have e0 := jA EXA.out 0 _ rfl; have e1 := jA EXA.out 1 _ rfl
    go_wp2_with fail
    clear e0 e1 hen
    refine (find_any 50 p _ s _ HPA.out hdw).mono ?_
    rintro e w9 ⟨rfl, hb9⟩
    rw [HFV.out]
    have EC9 := hid (jC EC.out hb9)
    have RG9 := hid (RGA.out.kept (grown_same hb9) (by simp) (by simp))
    have HX9 := hid (HXA.out.trans (hb9.mono HXA.out.size))
    clear hb9 HPA EXA RGA EC
    have y0 := jA EC9.out 0 _ rfl; have y1 := jA EC9.out 1 _ rfl; have y2 := jA EC9.out 2 _ rfl
    have hVl : V.length ≤ 400010 := by omega
    go_wp2_with fail
    go_roundw
    case rel => exact ⟨_, cnt1, s :: V, by rw [List.length_cons]; go_num, RG9, by rw [List.length_cons]; omega, HLF1, HV1, HX9⟩
    case measure => rw [RG9.out.left_eq, RGX.out]; exact hlt
end Go.Proofs.Ytgoacbomphlhjaa
