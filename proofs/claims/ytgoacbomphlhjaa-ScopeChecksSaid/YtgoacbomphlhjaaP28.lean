/-
  Several texts in one: SRWrong, SGoodP, SCount, SSrc.
-/
import Derived.Test.YtgoacbomphlhjaaP00
import Derived.Test.YtgoacbomphlhjaaP27
import Derived.Test.YtgoacbomphlhjaaP22
import Derived.Test.YtgoacbomphlhjaaP24
import Derived.Test.YtgoacbomphlhjaaP05
import Derived.Test.YtgoacbomphlhjaaP01
import Derived.ProofKit
import Derived.OpenShut
import Derived.ShutString
import Derived.HandedShaped
import Derived.SizedLaws
import Derived.Carry
set_option linter.unusedVariables false
set_option linter.unusedSimpArgs false
namespace Go.Proofs.Ytgoacbomphlhjaa
open Go.Lib (hid)
open List renaming getElem_toArray → jX, getElem_cons_succ → jY, getElem_cons_zero → jZ, setIfInBounds_toArray → JA, set_cons_zero → JB, set_cons_succ → JC
open Go Go.RowKit
theorem mainW_skip : ∀ (l : List Px.Def) (k : Nat), (∀ x ∈ l.take k, x.name ≠ sMain) → mainW l = mainW (l.drop k)
 | [], k, _ => by simp
 | d :: r, 0, _ => rfl
 | d :: r, k + 1, h => by
   rw [mainW, if_neg (h d (by simp)), List.drop_succ_cons]
   exact mainW_skip r k (fun x hx => h x (by simp [hx]))
theorem defW_len (ds : List Px.Data) (ns : List Nm) (d : Px.Def) : (defW ds ns d).length ≤ 2 * Sx.fw d := by
 rw [defW, List.length_append]
 have h1 := one_len (twiceB d.params) d.pos
 have h2 := exprW_len ds 50 d.body (ns ++ d.params)
 have h3 : Sx.fw d = 1 + d.name.length + nw d.params + Sx.ew 50 d.body := rfl
 omega
theorem wrongDatas_len (p : Px.Prog) : (wrongDatas p).length ≤ p.datas.length + (p.datas.map Sx.dw).sum := by
 rw [wrongDatas, List.length_append]
 have h1 := seeW_len (p.datas.map fun d => (d.name, d.pos)) givenL
 have h2 := datasW_len p.datas p.datas consL
 rw [List.length_map] at h1
 omega
set_option maxHeartbeats 16000000 in
set_option maxRecDepth 100000 in
theorem wrong_any (p : Px.Prog) (pv : Value) (w : World) (hp : ProgAt 50 w pv p) (hpw : (p.datas.map Sx.dw).sum + (p.defs.map Sx.fw).sum ≤ 190000) (hgp : goodProg p) :
 Calls Try.prog 10 #[pv] w (RNewO w (wrongW p)) := by
 obtain ⟨q1, c1, q2, c2, rfl⟩ := progAt_sh hp
 have HP := hid hp; have HPW := hid hpw; have HGP := hid hgp
 have HR : Hid (RowAt 10 (DefAt 50 w) w (.slice q2 p.defs.length c2) p.defs) := hid (by
  obtain ⟨dv, fv, hpv, h1, h2⟩ := hp
  simp only [Value.agg.injEq, Array.mk.injEq, List.cons.injEq, and_true] at hpv
  obtain ⟨rfl, rfl⟩ := hpv
  exact h2)
 have hdl : p.defs.length ≤ 190000 := Nat.le_trans (Sx.len_sum Sx.fw _ (fun x _ => by unfold Sx.fw; omega)) (by omega)
 have HD0 : Hid ((wrongDatas p).length ≤ 400000) := hid (by
  have := wrongDatas_len p
  have h2 : p.datas.length ≤ (p.datas.map Sx.dw).sum := Sx.len_sum Sx.dw _ (fun x _ => by unfold Sx.dw; omega)
  omega)
 have hdw : (p.datas.map Sx.dw).sum ≤ 400000 := by omega
 have HDW := hid hdw
 clear hp hpw hgp hdw
 go_enter Try.func10, Try.ntmps10
 have EP0 := hid (jI w #[.slice q1 p.datas.length c1, .slice q2 p.defs.length c2] 27)
 have HB0 := hid (show Below w.heap.size w (w.alloc (.cells #[.slice q1 p.datas.length c1, .slice q2 p.defs.length c2] 27)) from (Below.refl _ _).alloc (Nat.le_refl _) _)
 go_upto_region 1 with fail
 obtain ⟨w1, hw1⟩ : ∃ x, x = w.alloc (.cells #[.slice q1 p.datas.length c1, .slice q2 p.defs.length c2] 27) := ⟨_, rfl⟩
 rw [← hw1] at EP0 HB0 ⊢
 clear hw1
 have hs0 := jK EP0.out
 have x0 := jA EP0.out 0 _ rfl; have x1 := jA EP0.out 1 _ rfl
 go_wp2_with fail
 clear x0 x1
 refine (datas_any p _ w1 (jP HP.out HB0.out) HDW.out HGP.out.1).mono ?_
 rintro e w2 ⟨v2, rfl, hb2, ho2⟩
 have HO := hid (show OwnI w2 (w.heap.size + 1) v2 (wrongDatas p) from ownI_base ho2 (by omega))
 have EP := hid (jC EP0.out hb2)
 have HB := hid (HB0.out.trans (hb2.mono HB0.out.size))
 have HS : Hid (OwnS w2 (w.heap.size + 1) (.slice none 0 0) []) := hid (World.ownsRow_nil _ _ _ _)
 clear hb2 ho2 EP0 HB0 hs0
 obtain ⟨lD, hlD⟩ : ∃ l, wrongDatas p = l := ⟨_, rfl⟩
 have HLD := hid hlD
 rw [hlD] at HO HD0
 clear hlD
 obtain ⟨va, cva, rfl⟩ := jF HO.out
 go_wp2_with fail
 go_loopw [3, 4, 5] (fun o nv j wx => ∃ (m : Nat) (l : List Nat) (ns : List Nm), j = .int .i64 m ∧ m ≤ p.defs.length ∧ Hid (l = lD ++ seeW [] ((p.defs.take m).map fun d => (d.name, d.pos))) ∧ Hid (ns = (p.defs.take m).map (·.name)) ∧ Hid (OwnI wx (w.heap.size + 1) o l) ∧ Hid (OwnS wx (w.heap.size + 1) nv ns) ∧ Hid (wx.heap[w.heap.size]? = some (.cells #[.slice q1 p.datas.length c1, .slice q2 p.defs.length c2] 27 (0, 0))) ∧ Hid (Below w.heap.size w wx)) (fun _ _ j _ => p.defs.length - (intOf j).toNat)
 case atStart => exact ⟨0, lD, [], rfl, Nat.zero_le _, hid (by simp [seeW]), hid rfl, HO, HS, EP, HB⟩
 case round =>
  clear HO HS EP HB
  obtain ⟨m, l, ns, rfl, hm, HM, HN, HO, HS, EP, HB⟩ := hrel
  have hs1 := jK EP.out
  have x1 := jA EP.out 1 _ rfl
  obtain ⟨va, cva, rfl⟩ := jF HO.out
  obtain ⟨vn, cvn, rfl⟩ := jF HS.out
  have hll : l.length ≤ 600000 := by rw [HM.out, List.length_append]; have := seeW_len ((p.defs.take m).map fun d => (d.name, d.pos)) []; rw [List.length_map, List.length_take] at this; have := HD0.out; omega
  have hnl : ns.length ≤ 400010 := by rw [HN.out, List.length_map, List.length_take]; omega
  by_cases hlt : m < p.defs.length
  · obtain ⟨d, hd⟩ : ∃ x, p.defs[m]? = some x := ⟨_, List.getElem?_eq_getElem hlt⟩
    rcases HR.out with ⟨h0, _⟩ | ⟨g, of, c', hv, g1, g2, g3⟩
    · rw [h0] at hlt; simp at hlt
    first | cases hv | (injection hv with hq1 _ hq2; subst hq1; subst hq2)
    obtain ⟨u, hu, _, hcell⟩ := g3 m d hd
    obtain ⟨qp, cp, dk, dp, dn, di, dq1, dn1, dc1, dq2, dn2, dc2, dq3, dn3, dc3, rfl, hpr, hbx⟩ := defAt_sh hu
    have HPR := hid hpr; have HBX := hid hbx; have HD := hid hd
    have hk1 : (m : Int) < (p.defs.length : Int) := by omega
    have hk2 : (p.defs.length : Int) ≤ (c2 : Int) := by omega
    have hk3 := g2
    have HCL := hid (fun (w' : World) (h : Below w.heap.size w w') => (show w'.cell? ⟨g, of + m * 10, none⟩ = some (.int .i64 d.pos) ∧ w'.cell? ⟨g, of + m * 10 + 1, none⟩ = some (.string ⟨d.name.toArray⟩) ∧ w'.cell? ⟨g, of + m * 10 + 2, none⟩ = some (.slice qp d.params.length cp) ∧ w'.cell? ⟨g, of + m * 10 + 3, none⟩ = some (.int .i64 dk) ∧ w'.cell? ⟨g, of + m * 10 + 4, none⟩ = some (.int .i64 dp) ∧ w'.cell? ⟨g, of + m * 10 + 5, none⟩ = some (.string dn) ∧ w'.cell? ⟨g, of + m * 10 + 6, none⟩ = some (.int .i64 di) ∧ w'.cell? ⟨g, of + m * 10 + 7, none⟩ = some (.slice dq1 dn1 dc1) ∧ w'.cell? ⟨g, of + m * 10 + 8, none⟩ = some (.slice dq2 dn2 dc2) ∧ w'.cell? ⟨g, of + m * 10 + 9, none⟩ = some (.slice dq3 dn3 dc3) from ⟨jE h (hcell 0 _ rfl), jE h (hcell 1 _ rfl), jE h (hcell 2 _ rfl), jE h (hcell 3 _ rfl), jE h (hcell 4 _ rfl), jE h (hcell 5 _ rfl), jE h (hcell 6 _ rfl), jE h (hcell 7 _ rfl), jE h (hcell 8 _ rfl), jE h (hcell 9 _ rfl)⟩))
    clear g1 g2 g3 hcell hu hpr hbx hd
    have HTK := hid (seeW_take (fun d : Px.Def => d.name) (fun d => d.pos) HD.out [])
    have HTN : Hid (ns ++ [d.name] = (p.defs.take (m + 1)).map (·.name)) := hid (by rw [HN.out, List.take_add_one, HD.out]; simp)
    obtain ⟨z0, z1, z2, z3, z4, z5, z6, z7, z8, z9⟩ := HCL.out wr HB.out
    go_wp2_with fail
    clear z0 z1 z2 z3 z4 z5 z6 z7 z8 z9
    clear x1
    refine (refHas_any _ ns d.name wr (rowS_own' HS.out)).mono ?_
    rintro e w0 ⟨rfl, rfl⟩
    obtain ⟨b, hb⟩ : ∃ b, hasN ns d.name = b := ⟨_, rfl⟩
    have HT2 := hid (show l ++ one b d.pos = lD ++ seeW [] ((p.defs.take (m + 1)).map fun d => (d.name, d.pos)) by rw [HTK.out, List.nil_append, ← HN.out, hb, HM.out, List.append_assoc])
    rw [hb]
    clear hb
    go_upto_if 25 with fail
    go_cut [3] (fun o wx => Hid (OwnI wx (w.heap.size + 1) o (l ++ one b d.pos)) ∧ Hid (OwnS wx (w.heap.size + 1) (.slice vn ns.length cvn) ns) ∧ Hid (wx.heap[w.heap.size]? = some (.cells #[.slice q1 p.datas.length c1, .slice (some ⟨g, of, none⟩) p.defs.length c2] 27 (0, 0))) ∧ Hid (Below w.heap.size w wx))
    case first =>
     cases b with
     | true =>
       obtain ⟨z0, z1, z2, z3, z4, z5, z6, z7, z8, z9⟩ := HCL.out w0 HB.out; have x1 := jA EP.out 1 _ rfl
       have HE := hid (jI w0 #[.int .i64 (d.pos : Int)] 3)
       have HBA := hid (show Below w0.heap.size w0 (w0.alloc (.cells #[.int .i64 (d.pos : Int)] 3)) from (Below.refl _ _).alloc (Nat.le_refl _) _)
       have HON := hid (jJ HO.out HBA.out)
       go_wp2_with (at_builtin; refine list_app_i rfl (.tmp 26) (.tmp 33) rfl (w.heap.size + 1) _ l rfl HON.out _ rfl [d.pos] (row_cell HE.out rfl rfl) (by simp; omega) (by have := HBA.out.size; omega) ?_)
       intro v7 w7 happ
       have HB7 := hid (happ.below HON.out (HB.out.trans (HBA.out.mono HB.out.size)) (by have := HBA.out.size; omega) (by omega))
       have EP7 := hid (appd_ent happ HON.out (jC EP.out HBA.out) (by decide))
       have HS7 := hid (ownS_stays happ HON.out (jJ HS.out HBA.out))
       obtain ⟨p7, q7, rfl⟩ := jF happ.1
       have HO7 := hid happ.1
       clear happ
       go_wp2
       go_meet
       exact ⟨HO7, HS7, EP7, HB7⟩
     | false =>
       go_wp2_with fail
       go_meet
       exact ⟨hid (by rw [show one false d.pos = [] from rfl, List.append_nil]; exact HO.out), HS, EP, HB⟩
    case rest =>
    clear EP HB HO HS
    obtain ⟨HO, HS, EP, HB⟩ := hcut
    obtain ⟨l2, hl2⟩ : ∃ x, x = l ++ one b d.pos := ⟨_, rfl⟩
    rw [← hl2] at HO HT2
    clear hl2
    obtain ⟨pe, ce, rfl⟩ := jF HO.out
    obtain ⟨w0, hw0⟩ : ∃ x, x = wc := ⟨wc, rfl⟩
    subst hw0
    have hs2 := jK EP.out
    obtain ⟨z0, z1, z2, z3, z4, z5, z6, z7, z8, z9⟩ := HCL.out w0 HB.out; have x1 := jA EP.out 1 _ rfl
    have HE := hid (jI w0 #[.string ⟨d.name.toArray⟩] 9)
    have HBA := hid (show Below w0.heap.size w0 (w0.alloc (.cells #[.string ⟨d.name.toArray⟩] 9)) from (Below.refl _ _).alloc (Nat.le_refl _) _)
    have HSN := hid (jJ HS.out HBA.out)
    go_wp2_with (at_builtin; refine list_app_s rfl (.tmp 35) (.tmp 42) rfl (w.heap.size + 1) _ ns rfl HSN.out _ rfl [d.name] (row_cell HE.out rfl rfl) (by simp; omega) (by have := HBA.out.size; omega) ?_)
    intro v8 w8 happ
    have HB8 := hid (happ.below HSN.out (HB.out.trans (HBA.out.mono HB.out.size)) (by have := HBA.out.size; omega) (by omega))
    have EP8 := hid (appd_ent happ HSN.out (jC EP.out HBA.out) (by decide))
    have HO8 := hid (ownI_stays happ HSN.out (jJ HO.out HBA.out))
    obtain ⟨p8, q8, rfl⟩ := jF happ.1
    have HS8 := hid happ.1
    clear happ HO HS EP HB HSN HBA HE
    obtain ⟨n2, hn2⟩ : ∃ x, x = ns ++ [d.name] := ⟨_, rfl⟩
    rw [← hn2] at HS8 HTN ⊢
    clear hn2
    go_wp2
    go_roundw
    case rel => exact ⟨m + 1, l2, n2, by go_num, by omega, HT2, HTN, HO8, HS8, EP8, HB8⟩
    case measure => simp [intOf]; omega
  · obtain rfl : m = p.defs.length := by omega
    obtain ⟨lA, hlA⟩ : ∃ x, x = l := ⟨l, rfl⟩
    have HLA := hid (show lA = lD ++ seeW [] (p.defs.map fun d => (d.name, d.pos)) by rw [hlA, HM.out, List.take_length])
    have HLA4 := hid (show lA.length ≤ 600000 by rw [hlA]; exact hll)
    have HM0 : Hid (l = lA ++ (p.defs.take 0).flatMap (defW p.datas ns)) := hid (by rw [hlA]; simp)
    have HNS := hid (show ns = p.defs.map (·.name) by rw [HN.out, List.take_length])
    clear hlA HM HN hll
    go_wp2_with fail
    clear x1
    obtain ⟨wB, hwB⟩ : ∃ x, x = wr := ⟨wr, rfl⟩
    subst hwB
    go_loopw [3, 6] (fun o j wx => ∃ (m : Nat) (l : List Nat), j = .int .i64 m ∧ m ≤ p.defs.length ∧ Hid (l = lA ++ (p.defs.take m).flatMap (defW p.datas ns)) ∧ Hid (OwnI wx (w.heap.size + 1) o l) ∧ Hid (OwnS wx (w.heap.size + 1) (.slice vn ns.length cvn) ns) ∧ Hid (wx.heap[w.heap.size]? = some (.cells #[.slice q1 p.datas.length c1, .slice q2 p.defs.length c2] 27 (0, 0))) ∧ Hid (Below w.heap.size w wx)) (fun _ j _ => p.defs.length - (intOf j).toNat)
    case atStart => exact ⟨0, l, rfl, Nat.zero_le _, HM0, HO, HS, EP, HB⟩
    case round =>
     clear HO HS EP HB HM0 hs1
     obtain ⟨m, l, rfl, hm, HM, HO, HS, EP, HB⟩ := hrel
     have hs1 := jK EP.out
     have x1 := jA EP.out 1 _ rfl
     obtain ⟨va, cva, rfl⟩ := jF HO.out
     by_cases hlt : m < p.defs.length
     · obtain ⟨d, hd⟩ : ∃ x, p.defs[m]? = some x := ⟨_, List.getElem?_eq_getElem hlt⟩
       rcases HR.out with ⟨h0, _⟩ | ⟨g, of, c', hv, g1, g2, g3⟩
       · rw [h0] at hlt; simp at hlt
       first | cases hv | (injection hv with hq1 _ hq2; subst hq1; subst hq2)
       obtain ⟨u, hu, _, hcell⟩ := g3 m d hd
       obtain ⟨qp, cp, dk, dp, dn, di, dq1, dn1, dc1, dq2, dn2, dc2, dq3, dn3, dc3, rfl, hpr, hbx⟩ := defAt_sh hu
       have HPR := hid hpr; have HBX := hid hbx; have HD := hid hd
       have hk1 : (m : Int) < (p.defs.length : Int) := by omega
       have hk2 : (p.defs.length : Int) ≤ (c2 : Int) := by omega
       have hk3 := g2
       have HCL := hid (fun (w' : World) (h : Below w.heap.size w w') => (show w'.cell? ⟨g, of + m * 10, none⟩ = some (.int .i64 d.pos) ∧ w'.cell? ⟨g, of + m * 10 + 1, none⟩ = some (.string ⟨d.name.toArray⟩) ∧ w'.cell? ⟨g, of + m * 10 + 2, none⟩ = some (.slice qp d.params.length cp) ∧ w'.cell? ⟨g, of + m * 10 + 3, none⟩ = some (.int .i64 dk) ∧ w'.cell? ⟨g, of + m * 10 + 4, none⟩ = some (.int .i64 dp) ∧ w'.cell? ⟨g, of + m * 10 + 5, none⟩ = some (.string dn) ∧ w'.cell? ⟨g, of + m * 10 + 6, none⟩ = some (.int .i64 di) ∧ w'.cell? ⟨g, of + m * 10 + 7, none⟩ = some (.slice dq1 dn1 dc1) ∧ w'.cell? ⟨g, of + m * 10 + 8, none⟩ = some (.slice dq2 dn2 dc2) ∧ w'.cell? ⟨g, of + m * 10 + 9, none⟩ = some (.slice dq3 dn3 dc3) from ⟨jE h (hcell 0 _ rfl), jE h (hcell 1 _ rfl), jE h (hcell 2 _ rfl), jE h (hcell 3 _ rfl), jE h (hcell 4 _ rfl), jE h (hcell 5 _ rfl), jE h (hcell 6 _ rfl), jE h (hcell 7 _ rfl), jE h (hcell 8 _ rfl), jE h (hcell 9 _ rfl)⟩))
       clear g1 g2 g3 hcell hu hpr hbx hd
       have hst := Sx.sum_take Sx.fw p.defs m d HD.out
       have hdd : Sx.fw d = 1 + d.name.length + nw d.params + Sx.ew 50 d.body := rfl
       have hl4 : l.length + 2 * Sx.fw d ≤ 1600000 := by
        rw [HM.out, List.length_append]
        have h1 := flat_len (defW p.datas ns) (fun d => 2 * Sx.fw d) (p.defs.take m) (fun x _ => defW_len p.datas ns x)
        rw [exprW_len.two_sum] at h1
        have := HPW.out; have := HLA4.out; omega
       have HW4 := hid (show l.length + 2 * Sx.fw d ≤ 1600000 ∧ nw d.params ≤ 190000 ∧ nw d.params + Sx.ew 50 d.body ≤ 190000 ∧ Sx.fw d ≤ 190000 by have := HPW.out; omega)
       have HTK := hid (flatN_take (defW p.datas ns) p.defs m d HD.out)
       obtain ⟨z0, z1, z2, z3, z4, z5, z6, z7, z8, z9⟩ := HCL.out wr HB.out
       have HAL := hid ((Below.refl _ wr).alloc (Nat.le_refl _) (.cells #[.int .i64 d.pos, .string ⟨d.name.toArray⟩, .slice qp d.params.length cp, .int .i64 dk, .int .i64 dp, .string dn, .int .i64 di, .slice dq1 dn1 dc1, .slice dq2 dn2 dc2, .slice dq3 dn3 dc3] 58))
       have ED1 := hid (jI wr #[.int .i64 d.pos, .string ⟨d.name.toArray⟩, .slice qp d.params.length cp, .int .i64 dk, .int .i64 dp, .string dn, .int .i64 di, .slice dq1 dn1 dc1, .slice dq2 dn2 dc2, .slice dq3 dn3 dc3] 58)
       have HO1 := hid (jJ HO.out HAL.out)
       have HS1 := hid (jJ HS.out HAL.out)
       have EP1 := hid (jC EP.out HAL.out)
       have HB1 := hid (HB.out.trans (HAL.out.mono HB.out.size))
       clear HO HS EP HB hst hdd hl4
       have hpl : d.params.length ≤ 400000 := by have := nw_len d.params; have := HW4.out; omega
       have y2 := jA ED1.out 2 _ rfl
       go_wp2_with fail
       clear z0 z1 z2 z3 z4 z5 z6 z7 z8 z9
       clear y2 x1
       obtain ⟨gd, hgd⟩ : ∃ g, wr.heap.size = g := ⟨_, rfl⟩
       rw [hgd] at ED1 ⊢
       clear hgd
       obtain ⟨wA, hwA⟩ : ∃ x, x = wr.alloc (.cells #[.int .i64 d.pos, .string ⟨d.name.toArray⟩, .slice qp d.params.length cp, .int .i64 dk, .int .i64 dp, .string dn, .int .i64 di, .slice dq1 dn1 dc1, .slice dq2 dn2 dc2, .slice dq3 dn3 dc3] 58) := ⟨_, rfl⟩
       rw [← hwA] at ED1 HO1 HS1 EP1 HB1 ⊢
       clear hwA HAL
       refine (twice_any _ d.params wA (jQ HPR.out HB1.out) hpl).mono ?_
       rintro e w0 ⟨rfl, hb4⟩
       have ED := hid (jC ED1.out hb4)
       have EP := hid (jC EP1.out hb4)
       have HB := hid (HB1.out.trans (hb4.mono HB1.out.size))
       have HO := hid (jJ HO1.out hb4)
       have HS := hid (jJ HS1.out hb4)
       have hs2 := jK EP.out
       clear hb4 ED1 HO1 HS1 EP1 HB1
       obtain ⟨b, hb⟩ : ∃ b, twiceB d.params = b := ⟨_, rfl⟩
       rw [hb]
       go_upto_if 58 with fail
       go_cut [3] (fun o wx => Hid (OwnI wx (w.heap.size + 1) o (l ++ one b d.pos)) ∧ Hid (OwnS wx (w.heap.size + 1) (.slice vn ns.length cvn) ns) ∧ Hid (wx.heap[w.heap.size]? = some (.cells #[.slice q1 p.datas.length c1, .slice (some ⟨g, of, none⟩) p.defs.length c2] 27 (0, 0))) ∧ Hid (wx.heap[gd]? = some (.cells #[.int .i64 d.pos, .string ⟨d.name.toArray⟩, .slice qp d.params.length cp, .int .i64 dk, .int .i64 dp, .string dn, .int .i64 di, .slice dq1 dn1 dc1, .slice dq2 dn2 dc2, .slice dq3 dn3 dc3] 58 (0, 0))) ∧ Hid (Below w.heap.size w wx))
       case first =>
        cases b with
        | true =>
          have y0 := jA ED.out 0 _ rfl
          have HE := hid (jI w0 #[.int .i64 (d.pos : Int)] 3)
          have HBA := hid (show Below w0.heap.size w0 (w0.alloc (.cells #[.int .i64 (d.pos : Int)] 3)) from (Below.refl _ _).alloc (Nat.le_refl _) _)
          have HON := hid (jJ HO.out HBA.out)
          go_wp2_with (at_builtin; refine list_app_i rfl (.tmp 59) (.tmp 62) rfl (w.heap.size + 1) _ l rfl HON.out _ rfl [d.pos] (row_cell HE.out rfl rfl) (by have := HW4.out; simp; omega) (by have := HBA.out.size; omega) ?_)
          intro v7 w7 happ
          have HB7 := hid (happ.below HON.out (HB.out.trans (HBA.out.mono HB.out.size)) (by have := HBA.out.size; omega) (by omega))
          have EP7 := hid (appd_ent happ HON.out (jC EP.out HBA.out) (by decide))
          have ED7 := hid (appd_ent happ HON.out (jC ED.out HBA.out) (by decide))
          have HS7 := hid (ownS_stays happ HON.out (jJ HS.out HBA.out))
          obtain ⟨p7, q7, rfl⟩ := jF happ.1
          have HO7 := hid happ.1
          clear happ
          go_wp2
          go_meet
          exact ⟨HO7, HS7, EP7, ED7, HB7⟩
        | false =>
          go_wp2_with fail
          go_meet
          exact ⟨hid (by rw [show one false d.pos = [] from rfl, List.append_nil]; exact HO.out), HS, EP, ED, HB⟩
       case rest =>
       clear EP HB HO HS ED
       obtain ⟨HO, HS, EP, ED, HB⟩ := hcut
       obtain ⟨lB, hlB⟩ : ∃ x, x = l ++ one b d.pos := ⟨_, rfl⟩
       have HLB := hid (show lB = (lA ++ (p.defs.take m).flatMap (defW p.datas ns)) ++ one (twiceB d.params) d.pos by rw [hlB, hb, HM.out])
       have HLB4 := hid (show lB.length ≤ l.length + 1 by rw [hlB, List.length_append]; have := one_len b d.pos; omega)
       rw [← hlB] at HO
       clear hlB hb hs2
       obtain ⟨pe, ce, rfl⟩ := jF HO.out
       obtain ⟨w0, hw0⟩ : ∃ x, x = wc := ⟨wc, rfl⟩
       subst hw0
       have hs2 := jK EP.out
       have HLE := hid (show lB.length + (exprW p.datas 50 d.body (([] ++ ns) ++ d.params)).length ≤ 1000000000 by
        have := exprW_len p.datas 50 d.body (([] ++ ns) ++ d.params)
        have := HW4.out; have := HLB4.out; omega)
       go_wp2_with fail
       refine wp_region_held_drew (S := fun (u : World) => u.heap[w.heap.size]? = some (.cells #[.slice q1 p.datas.length c1, .slice (some ⟨g, of, none⟩) p.defs.length c2] 27 (0, 0)) ∧ u.heap[gd]? = some (.cells #[.int .i64 d.pos, .string ⟨d.name.toArray⟩, .slice qp d.params.length cp, .int .i64 dk, .int .i64 dp, .string dn, .int .i64 di, .slice dq1 dn1 dc1, .slice dq2 dn2 dc2, .slice dq3 dn3 dc3] 58 (0, 0)) ∧ Below w.heap.size w u) (by kernel_rfl) (⟨EP.out, ED.out, HB.out.drew⟩) (fun jM => ?_)
       refine wT 0 (.slice pe lB.length ce) rfl (Or.inl ⟨by rfl, fun w' hSw => by go_simp⟩) jM ?_
       refine wT 1 (.agg #[.slice q1 p.datas.length c1, .slice (some ⟨g, of, none⟩) p.defs.length c2]) rfl (Or.inl ⟨by rfl, fun w' hSw => by have h0 := jA hSw.1 0 _ rfl; have h1 := jA hSw.1 1 _ rfl; go_simp⟩) jM ?_
       refine wT 2 (.pointer (some ⟨gd, 3, none⟩)) rfl (Or.inl ⟨by rfl, fun w' hSw => by go_simp⟩) jM ?_
       refine wT 3 (.agg #[.int .i64 dk, .int .i64 dp, .string dn, .int .i64 di, .slice dq1 dn1 dc1, .slice dq2 dn2 dc2, .slice dq3 dn3 dc3]) rfl (Or.inl ⟨by rfl, fun w' hSw => by have h3 := jA hSw.2.1 3 _ rfl; have h4 := jA hSw.2.1 4 _ rfl; have h5 := jA hSw.2.1 5 _ rfl; have h6 := jA hSw.2.1 6 _ rfl; have h7 := jA hSw.2.1 7 _ rfl; have h8 := jA hSw.2.1 8 _ rfl; have h9 := jA hSw.2.1 9 _ rfl; go_simp⟩) jM ?_
       refine wT 5 (.slice vn ns.length cvn) rfl (Or.inl ⟨by rfl, fun w' hSw => by go_simp⟩) jM ?_
       refine wT 7 (.pointer (some ⟨gd, 2, none⟩)) rfl (Or.inl ⟨by rfl, fun w' hSw => by go_simp⟩) jM ?_
       refine wT 8 (.slice qp d.params.length cp) rfl (Or.inl ⟨by rfl, fun w' hSw => by have h := jA hSw.2.1 2 _ rfl; go_simp⟩) jM ?_
       try simp only [Act.put, jX, jY, jZ, JA, JB, JC]
       refine wpAnyH_ready (rs := [4]) (by kernel_rfl) (by simp) ?_
       refine AllReadyH.cons rfl (fun K hK => ?_) AllReadyH.nil
       go_simp
       have hb1 : Below w0.heap.size w0 (w0.drew.alloc (.cells #[] 9)) := ((Below.refl _ _).drew).alloc (Nat.le_refl _) _
       have HO1 := hid (own_empty w0.drew)
       have HX1 := hid hb1
       have EP1 := hid (jC EP.out HX1.out)
       have ED1 := hid (jC ED.out HX1.out)
       have HB1 := hid (HB.out.trans (HX1.out.mono HB.out.size))
       refine hK.out _ _ ⟨EP1.out, ED1.out, HB1.out⟩ (fun jM => ?_)
       clear hb1
       clear hK K
       refine wpAnyH_ready (rs := [6]) (by kernel_rfl) (by simp) ?_
       refine AllReadyH.cons rfl (fun K hK => ?_) AllReadyH.nil
       refine step_app_s rfl (.tmp 68) (.tmp 69) rfl w0.heap.size _ [] rfl HO1.out _ rfl ns ((rowS_own' (jJ HS.out HX1.out))) (by simp; omega) HX1.out.size ?_
       intro v2 w2 ha2
       have HX2 := hid (ha2.below HO1.out HX1.out HX1.out.size (Nat.le_refl _))
       have HO2 := hid ha2.1
       have EP2 := hid (jC EP.out HX2.out)
       have ED2 := hid (jC ED.out HX2.out)
       have HB2 := hid (HB.out.trans (HX2.out.mono HB.out.size))
       refine hK.out _ _ ⟨EP2.out, ED2.out, HB2.out⟩ (fun jM => ?_)
       clear ha2
       clear hK K
       refine wpAnyH_ready (rs := [9]) (by kernel_rfl) (by simp) ?_
       refine AllReadyH.cons rfl (fun K hK => ?_) AllReadyH.nil
       refine step_app_s rfl (.tmp 70) (.tmp 72) rfl w0.heap.size _ _ rfl HO2.out _ rfl d.params (jQ HPR.out HB2.out) (by have := nw_len d.params; have := HW4.out; simp; omega) HX2.out.size ?_
       intro v3 w3 ha3
       have HX3 := hid (ha3.below HO2.out HX2.out HX2.out.size (Nat.le_refl _))
       have HO3 := hid ha3.1
       have EP3 := hid (jC EP.out HX3.out)
       have ED3 := hid (jC ED.out HX3.out)
       have HB3 := hid (HB.out.trans (HX3.out.mono HB.out.size))
       refine hK.out _ _ ⟨EP3.out, ED3.out, HB3.out⟩ (fun jM => ?_)
       clear ha3
       clear hK K
       refine wpAnyH_ready (rs := [10]) (by kernel_rfl) (by simp) ?_
       refine AllReadyH.cons rfl (fun K hK => ?_) AllReadyH.nil
       go_simp
       refine (refexpr_any p 50 d.body _ _ _ (([] ++ ns) ++ d.params) w3 (jP HP.out HB3.out) HDW.out (exprAt_below HBX.out HB3.out) (rowS_own' HO3.out) (by rw [List.nil_append, List.length_append]; have := nw_len d.params; have := HW4.out; have hns : ns.length ≤ 190000 := (by rw [HNS.out, List.length_map]; omega); omega)).mono ?_
       rintro e w5 ⟨v5, rfl, hb5, ho5⟩
       have HX5 := hid (HX3.out.trans (hb5.mono HX3.out.size))
       have HN5 := hid (ownI_row ho5)
       have HO5 := hid (jJ HO.out HX5.out)
       have HS5 := hid (jJ HS.out HX5.out)
       have EP5 := hid (jC EP.out HX5.out)
       have ED5 := hid (jC ED.out HX5.out)
       have HB5 := hid (HB.out.trans (HX5.out.mono HB.out.size))
       refine hK.out _ _ ⟨EP5.out, ED5.out, HB5.out⟩ (fun jM => ?_)
       clear hb5 ho5
       clear hK K
       refine wpAnyH_ready (rs := [11]) (by kernel_rfl) (by simp) ?_
       refine AllReadyH.cons rfl (fun K hK => ?_) AllReadyH.nil
       refine step_app_i rfl (.tmp 64) (.tmp 74) rfl (w.heap.size + 1) _ _ rfl HO5.out _ rfl _ HN5.out HLE.out (by have := HX5.out.size; omega) ?_
       intro v6 w6 ha6
       obtain ⟨p6, q6, rfl⟩ := jF ha6.1
       have HB6 := hid (ha6.below HO5.out HB5.out (by have := HX5.out.size; omega) (by omega))
       have EP6 := hid (appd_ent ha6 HO5.out EP5.out (by decide))
       have ED6 := hid (appd_ent ha6 HO5.out ED5.out (by decide))
       have HS6 := hid (ownS_stays ha6 HO5.out HS5.out)
       have HO6 := hid ha6.1
       have HT6 : Hid (lB ++ exprW p.datas 50 d.body (([] ++ ns) ++ d.params) = lA ++ (p.defs.take (m + 1)).flatMap (defW p.datas ns)) := hid (by rw [HTK.out, HLB.out, List.nil_append]; simp only [defW, List.append_assoc])
       obtain ⟨l7, hl7⟩ : ∃ l7, l7 = lB ++ exprW p.datas 50 d.body (([] ++ ns) ++ d.params) := ⟨_, rfl⟩
       rw [← hl7] at HO6 HT6 ⊢
       clear hl7 ha6
       refine hK.out _ _ ⟨EP6.out, ED6.out, HB6.out⟩ (fun jM => ?_)
       clear hK K
       refine wT 12 (.slice p6 l7.length q6) rfl (Or.inl ⟨by rfl, fun w' hSw => by go_simp⟩) jM ?_
       simp only [Act.put, jX, jY, jZ, JA, JB, JC]
       refine wpAnyH_done (by kernel_rfl) ?_ _
       go_wp2_with fail
       go_roundw
       case rel => exact ⟨m + 1, l7, by go_num, by omega, HT6, HO6, HS6, EP6, HB6⟩
       case measure => simp [intOf]; omega
     · obtain rfl : m = p.defs.length := by omega
       have HZ := hid (show l = (wrongDatas p ++ seeW [] (p.defs.map fun d => (d.name, d.pos))) ++ p.defs.flatMap (defW p.datas (p.defs.map (·.name))) by rw [HM.out, List.take_length, HLA.out, HLD.out, HNS.out])
       have HZ4 := hid (show l.length ≤ 1600000 by
        rw [HM.out, List.length_append]
        have h1 := flat_len (defW p.datas ns) (fun d => 2 * Sx.fw d) (p.defs.take p.defs.length) (fun x _ => defW_len p.datas ns x)
        rw [exprW_len.two_sum, List.take_length] at h1
        rw [List.take_length]
        have := HPW.out; have := HLA4.out; omega)
       clear HM
       go_wp2_with fail
       clear x1
       obtain ⟨wC, hwC⟩ : ∃ x, x = wr := ⟨wr, rfl⟩
       subst hwC
       go_loopw [3, 8] (fun o j wx => ∃ (m : Nat), o = .slice va l.length cva ∧ j = .int .i64 m ∧ m ≤ p.defs.length ∧ Hid (∀ x ∈ p.defs.take m, x.name ≠ sMain) ∧ Hid (OwnI wx (w.heap.size + 1) (.slice va l.length cva) l) ∧ Hid (wx.heap[w.heap.size]? = some (.cells #[.slice q1 p.datas.length c1, .slice q2 p.defs.length c2] 27 (0, 0))) ∧ Hid (Below w.heap.size w wx)) (fun _ j _ => p.defs.length - (intOf j).toNat)
       case atStart => exact ⟨0, rfl, rfl, Nat.zero_le _, hid (by simp), HO, EP, HB⟩
       case round =>
        clear HO HS EP HB hs1
        obtain ⟨m, rfl, rfl, hm, HN, HO, EP, HB⟩ := hrel
        have hs1 := jK EP.out
        have x1 := jA EP.out 1 _ rfl
        by_cases hlt : m < p.defs.length
        · obtain ⟨d, hd⟩ : ∃ x, p.defs[m]? = some x := ⟨_, List.getElem?_eq_getElem hlt⟩
          rcases HR.out with ⟨h0, _⟩ | ⟨g, of, c', hv, g1, g2, g3⟩
          · rw [h0] at hlt; simp at hlt
          first | cases hv | (injection hv with hq1 _ hq2; subst hq1; subst hq2)
          obtain ⟨u, hu, _, hcell⟩ := g3 m d hd
          obtain ⟨qp, cp, dk, dp, dn, di, dq1, dn1, dc1, dq2, dn2, dc2, dq3, dn3, dc3, rfl, hpr, hbx⟩ := defAt_sh hu
          have HPR := hid hpr; have HBX := hid hbx; have HD := hid hd
          have hk1 : (m : Int) < (p.defs.length : Int) := by omega
          have hk2 : (p.defs.length : Int) ≤ (c2 : Int) := by omega
          have hk3 := g2
          have HCL := hid (fun (w' : World) (h : Below w.heap.size w w') => (show w'.cell? ⟨g, of + m * 10, none⟩ = some (.int .i64 d.pos) ∧ w'.cell? ⟨g, of + m * 10 + 1, none⟩ = some (.string ⟨d.name.toArray⟩) ∧ w'.cell? ⟨g, of + m * 10 + 2, none⟩ = some (.slice qp d.params.length cp) ∧ w'.cell? ⟨g, of + m * 10 + 3, none⟩ = some (.int .i64 dk) ∧ w'.cell? ⟨g, of + m * 10 + 4, none⟩ = some (.int .i64 dp) ∧ w'.cell? ⟨g, of + m * 10 + 5, none⟩ = some (.string dn) ∧ w'.cell? ⟨g, of + m * 10 + 6, none⟩ = some (.int .i64 di) ∧ w'.cell? ⟨g, of + m * 10 + 7, none⟩ = some (.slice dq1 dn1 dc1) ∧ w'.cell? ⟨g, of + m * 10 + 8, none⟩ = some (.slice dq2 dn2 dc2) ∧ w'.cell? ⟨g, of + m * 10 + 9, none⟩ = some (.slice dq3 dn3 dc3) from ⟨jE h (hcell 0 _ rfl), jE h (hcell 1 _ rfl), jE h (hcell 2 _ rfl), jE h (hcell 3 _ rfl), jE h (hcell 4 _ rfl), jE h (hcell 5 _ rfl), jE h (hcell 6 _ rfl), jE h (hcell 7 _ rfl), jE h (hcell 8 _ rfl), jE h (hcell 9 _ rfl)⟩))
          clear g1 g2 g3 hcell hu hpr hbx hd
          obtain ⟨z0, z1, z2, z3, z4, z5, z6, z7, z8, z9⟩ := HCL.out wr HB.out
          by_cases hmn : d.name = sMain
          · have hq : (⟨d.name.toArray⟩ : ByteArray) = { data := #[109, 97, 105, 110] } := by rw [hmn]; rfl
            rw [hq] at z1
            have HMW := hid (show mainW p.defs = one (decide (0 < d.params.length)) d.pos by rw [mainW_skip p.defs m HN.out, drop_at HD.out, mainW, if_pos hmn])
            have hpl : d.params.length ≤ 400000 := by
             have h1 := Sx.sum_mem Sx.fw (List.mem_of_getElem? HD.out)
             have h2 : Sx.fw d = 1 + d.name.length + nw d.params + Sx.ew 50 d.body := rfl
             have h3 := nw_len d.params
             have := HPW.out; omega
            clear hq hmn
            by_cases h0 : 0 < d.params.length
            · have h1 : (0 : Int) < (d.params.length : Int) := by omega
              have HF := hid (show wrongW p = l ++ [d.pos] by rw [wrongW, HZ.out, HMW.out, decide_eq_true h0]; rfl)
              have HE := hid (jI wr #[.int .i64 (d.pos : Int)] 3)
              have HBA := hid (show Below wr.heap.size wr (wr.alloc (.cells #[.int .i64 (d.pos : Int)] 3)) from (Below.refl _ _).alloc (Nat.le_refl _) _)
              have HON := hid (jJ HO.out HBA.out)
              go_wp2_with (at_builtin; refine list_app_i rfl (.tmp 98) (.tmp 105) rfl (w.heap.size + 1) _ l rfl HON.out _ rfl [d.pos] (row_cell HE.out rfl rfl) (by have := HZ4.out; simp; omega) (by have := HBA.out.size; omega) ?_)
              intro v7 w7 happ
              have HB7 := hid (happ.below HON.out (HB.out.trans (HBA.out.mono HB.out.size)) (by have := HBA.out.size; omega) (by omega))
              have HO7 := hid happ.1
              clear happ
              go_wp2_with fail
              go_ret
              rw [HF.out]
              exact ⟨_, rfl, HB7.out, ownI_base HO7.out (by omega)⟩
            · have h1 : ¬ (0 : Int) < (d.params.length : Int) := by omega
              have HF := hid (show wrongW p = l by rw [wrongW, HZ.out, HMW.out, decide_eq_false h0]; simp [one])
              go_wp2_with fail
              go_ret
              rw [HF.out]
              exact ⟨_, rfl, HB.out, ownI_base HO.out (by omega)⟩
          · have hq : ¬ (⟨d.name.toArray⟩ : ByteArray) = { data := #[109, 97, 105, 110] } := arr_ne hmn
            have hq2 : ¬ d.name = [109, 97, 105, 110] := hmn
            have hq4 : (d.name == [109, 97, 105, 110]) = false := beq_eq_false_iff_ne.2 hq2
            have hq3 : ¬ d.name.toArray = #[109, 97, 105, 110] := fun e => hq2 (by simpa using congrArg Array.toList e)
            have HMN := hid hmn
            clear hmn
            go_wp2_with fail
            go_roundw
            case rel => exact ⟨m + 1, rfl, by go_num, by omega, hid (fun x hx => by rw [List.take_add_one, HD.out] at hx; rcases List.mem_append.1 hx with h | h; exact HN.out x h; simp at h; subst h; exact HMN.out), HO, EP, HB⟩
            case measure => simp [intOf]; omega
        · obtain rfl : m = p.defs.length := by omega
          have HF := hid (show wrongW p = l ++ [0] by rw [wrongW, HZ.out, mainW_skip p.defs p.defs.length HN.out, List.drop_length, mainW])
          have HE := hid (jI wr #[.int .i64 0] 3)
          have HBA := hid (show Below wr.heap.size wr (wr.alloc (.cells #[.int .i64 0] 3)) from (Below.refl _ _).alloc (Nat.le_refl _) _)
          have HON := hid (jJ HO.out HBA.out)
          go_wp2_with (at_builtin; refine list_app_i rfl (.tmp 108) (.tmp 109) rfl (w.heap.size + 1) _ l rfl HON.out _ rfl [0] (row_cell HE.out rfl rfl) (by have := HZ4.out; simp; omega) (by have := HBA.out.size; omega) ?_)
          intro v7 w7 happ
          have HB7 := hid (happ.below HON.out (HB.out.trans (HBA.out.mono HB.out.size)) (by have := HBA.out.size; omega) (by omega))
          have HO7 := hid happ.1
          clear happ
          go_wp2_with fail
          go_ret
          rw [HF.out]
          exact ⟨_, rfl, HB7.out, ownI_base HO7.out (by omega)⟩
end Go.Proofs.Ytgoacbomphlhjaa

namespace Go.Proofs.Ytgoacbomphlhjaa
open Go.Lib (hid)
open List renaming getElem_toArray → jX, getElem_cons_succ → jY, getElem_cons_zero → jZ, setIfInBounds_toArray → JA, set_cons_zero → JB, set_cons_succ → JC
open Go Go.RowKit
namespace Px
theorem tok3 {t : List UInt8} {n : Nat} (h : Lx.tokAt t = (3, n)) : lowB t = true := by
 unfold Lx.tokAt Lx.num Lx.one Lx.single at h
 unfold lowB
 unfold Lx.smallB at h
 simp only at h
 repeat' split at h
 all_goals first | assumption | (simp at h; done) | (simp only [Prod.mk.injEq] at h; omega) | skip
theorem tok4 {t : List UInt8} {n : Nat} (h : Lx.tokAt t = (4, n)) : uppB t = true := by
 unfold Lx.tokAt Lx.num Lx.one Lx.single at h
 unfold uppB
 unfold Lx.greatB at h
 simp only at h
 repeat' split at h
 all_goals first | assumption | (simp at h; done) | (simp only [Prod.mk.injEq] at h; omega) | skip
theorem name_low {n : Node} {s : List UInt8} (h : name n = .ok s) (hg : NodeGood n) : lowB s = true ∧ s ≠ [] := by
 unfold name at h
 split at h
 · rename_i hn
   simp only [Except.ok.injEq] at h
   subst h
   unfold isNameB at hn
   simp only [Bool.and_eq_true, beq_iff_eq] at hn
   have hk : n.tok.kind = 3 := hn.1.2
   cases hg with
   | leaf t ho h0 h1 =>
     have hw := ho.word h0 h1 (by rw [show t.kind = 3 from hk]; decide)
     have hi := hw.is [] Lx.ends_nil
     rw [List.append_nil, show t.kind = 3 from hk] at hi
     exact ⟨tok3 hi, hw.ne⟩
   | list t l ho h0 hl => rw [show t.kind = 3 from hk] at h0; cases h0
 · cases h
theorem con_upp' {n : Node} (hk : isConB n = true) (hg : NodeGood n) : uppB n.text = true ∧ n.text ≠ [] := by
 unfold isConB at hk
 simp only [beq_iff_eq] at hk
 cases hg with
 | leaf t ho h0 h1 =>
   have hw := ho.word h0 h1 (by rw [show t.kind = 4 from hk]; decide)
   have hi := hw.is [] Lx.ends_nil
   rw [List.append_nil, show t.kind = 4 from hk] at hi
   exact ⟨tok4 hi, hw.ne⟩
 | list t l ho h0 hl => rw [show t.kind = 4 from hk] at h0; cases h0
theorem conName_upp {n : Node} {s : List UInt8} (h : conName n = .ok s) (hg : NodeGood n) : uppB s = true ∧ s ≠ [] := by
 unfold conName at h
 split at h
 · rename_i hn
   simp only [Except.ok.injEq] at h
   subst h
   exact con_upp' hn hg
 · cases h
theorem each_all {α : Type} {g : Node → R α} {Q : α → Prop} : ∀ {l : List Node} {xs : List α}, (∀ n ∈ l, ∀ x, g n = .ok x → Q x) → each g l = .ok xs → ∀ x ∈ xs, Q x := by
 intro l
 induction l with
 | nil => intro xs _ h; simp only [each, Except.ok.injEq] at h; subst h; intro x hx; cases hx
 | cons n r ih =>
   intro xs hg h
   simp only [each] at h
   cases hf : g n with
   | error p => rw [hf] at h; cases h
   | ok y =>
     rw [hf] at h
     cases hr : each g r with
     | error p => rw [hr] at h; cases h
     | ok ys =>
       rw [hr] at h
       simp only [Except.ok.injEq] at h
       subst h
       intro x hx
       rcases List.mem_cons.1 hx with rfl | hx
       · exact hg n (by simp) _ hf
       · exact ih (fun m hm => hg m (by simp [hm])) hr x hx
theorem headD_memG {l : List Node} (h : 1 ≤ l.length) (n : Node) : l.headD n ∈ l := by
 cases l with
 | nil => simp at h
 | cons a r => simp
theorem getD_memG {l : List Node} {k : Nat} (h : k < l.length) (n : Node) : l.getD k n ∈ l := by
 rw [List.getD_eq_getElem?_getD, List.getElem?_eq_getElem h]; exact List.getElem_mem h
theorem typeE_good : ∀ (f : Nat) (n : Node) (t : TypeE), typeE f n = .ok t → NodeGood n → goodT f t := by
 intro f
 induction f with
 | zero => intro n t h; cases h
 | succ f ih =>
   intro n t h hg
   rw [typeE] at h
   by_cases h1 : (isConB n || isNameB n) = true
   · rw [if_pos h1] at h
     simp only [Except.ok.injEq] at h
     subst h
     rw [goodT]
     rcases Bool.or_eq_true _ _ ▸ h1 with hc | hn
     · have := con_upp' hc hg
       exact ⟨.inr (.inl this.1), this.2, fun x hx => by cases hx⟩
     · have := name_low (show name n = .ok n.text by unfold name; rw [if_pos hn]) hg
       exact ⟨.inl this.1, this.2, fun x hx => by cases hx⟩
   · rw [if_neg h1] at h
     cases hq : nodes n 2 9 with
     | error p => rw [hq] at h; cases h
     | ok l =>
       rw [hq] at h
       simp only at h
       obtain ⟨rfl, hl⟩ := jW hq
       have fin : ∀ {nm : List UInt8}, (lowB nm = true ∨ uppB nm = true ∨ (nm = sArr ∧ n.list.tail.length = 2)) ∧ nm ≠ [] → (match each (typeE f) n.list.tail with | .error p => (.error p : R TypeE) | .ok xs => .ok (.mk n.pos nm xs)) = .ok t → goodT (f + 1) t := by
        intro nm hnm e
        cases he : each (typeE f) n.list.tail with
        | error p => rw [he] at e; cases e
        | ok xs =>
          rw [he] at e
          simp only [Except.ok.injEq] at e
          subst e
          rw [goodT]
          rw [← each_len he] at hnm
          exact ⟨hnm.1, hnm.2, each_all (fun m hm x hx => ih m x hx (hg.kid (List.mem_of_mem_tail hm))) he⟩
       by_cases hA : word n = [45, 62]
       · simp only [if_pos hA] at h
         cases hh : hold n 3 3 with
         | error p => rw [hh] at h; cases h
         | ok u =>
           rw [hh] at h
           refine fin ⟨.inr (.inr ⟨rfl, ?_⟩), by decide⟩ h
           unfold hold at hh
           split at hh
           · cases hh
           · rename_i h3
             split at hh
             · cases hh
             · rename_i h4
               have := List.getElem?_eq_none_iff.1 h4
               rw [List.length_tail]; omega
       · simp only [if_neg hA] at h
         cases hc : conName (n.list.headD n) with
         | error p => rw [hc] at h; cases h
         | ok nm =>
           rw [hc] at h
           have := conName_upp hc (hg.kid (headD_memG (by omega) n))
           exact fin ⟨.inr (.inl this.1), this.2⟩ h
theorem pat_good : ∀ (f : Nat) (n : Node) (t : Pat), pat f n = .ok t → goodP f t := by
 intro f
 induction f with
 | zero => intro n t h; cases h
 | succ f ih =>
   intro n t h
   rw [pat] at h
   by_cases h1 : jS n = true
   · rw [if_pos h1] at h
     cases hq : nodes n 2 9 with
     | error p => rw [hq] at h; cases h
     | ok l =>
       rw [hq] at h
       simp only at h
       cases hc : conName (l.headD n) with
       | error p => rw [hc] at h; cases h
       | ok nm =>
         rw [hc] at h
         simp only at h
         cases he : each (pat f) l.tail with
         | error p => rw [he] at h; cases h
         | ok xs =>
           rw [he] at h
           simp only [Except.ok.injEq] at h
           subst h
           rw [goodP]
           exact ⟨fun e => by omega, each_all (fun m _ x hx => ih m x hx) he⟩
   · rw [if_neg h1] at h
     have fin : ∀ {k p : Nat} {nm : List UInt8} {i : Int}, (Except.ok (Pat.mk k p nm i []) : R Pat) = .ok t → goodP (f + 1) t := by
      intro k p nm i e
      simp only [Except.ok.injEq] at e
      subst e
      rw [goodP]
      exact ⟨fun _ => rfl, (fun x hx => by cases hx)⟩
     repeat' split at h
     all_goals first | exact fin h | cases h
theorem expr_good : ∀ (f : Nat) (n : Node) (t : Expr), expr f n = .ok t → goodX f t := by
 intro f
 induction f with
 | zero => intro n t h; cases h
 | succ f ih =>
   intro n t h
   rw [expr] at h
   by_cases h1 : jS n = true
   · rw [if_pos h1] at h
     unfold listExpr at h
     by_cases w1 : word n = [102, 110]
     · rw [if_pos w1] at h
       unfold fnExpr at h
       cases hq : nodes n 3 3 with
       | error q => rw [hq] at h; cases h
       | ok l =>
         rw [hq] at h
         simp only at h
         cases hns : names (l.getD 1 n) 1 with
         | error q => rw [hns] at h; cases h
         | ok ns =>
           rw [hns] at h
           simp only at h
           cases he : expr f (l.getD 2 n) with
           | error q => rw [he] at h; cases h
           | ok y =>
             rw [he] at h
             simp only [Except.ok.injEq] at h
             subst h
             rw [goodX]
             exact ⟨fun e => absurd rfl e, fun x hx => by simp at hx; subst hx; exact ih _ _ he, fun a ha => by cases ha⟩
     · rw [if_neg w1] at h
       by_cases w2 : word n = [108, 101, 116]
       · rw [if_pos w2] at h
         unfold letExpr at h
         cases hq : nodes n 3 3 with
         | error q => rw [hq] at h; cases h
         | ok l =>
           rw [hq] at h
           simp only at h
           cases hps : nodes (l.getD 1 n) 1 8 with
           | error q => rw [hps] at h; cases h
           | ok ps =>
             rw [hps] at h
             simp only at h
             cases hbs : each (pair (expr f)) ps with
             | error q => rw [hbs] at h; cases h
             | ok bs =>
               rw [hbs] at h
               simp only at h
               cases he : expr f (l.getD 2 n) with
               | error q => rw [he] at h; cases h
               | ok y =>
                 rw [he] at h
                 simp only [Except.ok.injEq] at h
                 subst h
                 have hb := each_all (Q := fun b : List UInt8 × Expr => goodX f b.2) (fun m hm x hx => by
                  unfold pair at hx
                  cases hz2 : nodes m 2 2 with
                  | error q => rw [hz2] at hx; cases hx
                  | ok l2 =>
                    rw [hz2] at hx
                    simp only at hx
                    cases hz3 : name (l2.headD m) with
                    | error q => rw [hz3] at hx; cases hx
                    | ok s =>
                      rw [hz3] at hx
                      simp only at hx
                      cases hz4 : expr f (l2.getD 1 m) with
                      | error q => rw [hz4] at hx; cases hx
                      | ok e =>
                        rw [hz4] at hx
                        simp only [Except.ok.injEq] at hx
                        subst hx
                        exact ih _ _ hz4) hbs
                 rw [goodX]
                 refine ⟨fun _ e => absurd rfl e, fun x hx => ?_, fun a ha => by cases ha⟩
                 rcases List.mem_append.1 hx with hx | hx
                 · obtain ⟨b, h1, rfl⟩ := List.mem_map.1 hx
                   exact hb b h1
                 · simp at hx; subst hx; exact ih _ _ he
       · rw [if_neg w2] at h
         by_cases w3 : word n = [99, 97, 115, 101]
         · rw [if_pos w3] at h
           unfold caseExpr at h
           cases hq : nodes n 3 18 with
           | error q => rw [hq] at h; cases h
           | ok l =>
             rw [hq] at h
             simp only at h
             cases he : expr f (l.getD 1 n) with
             | error q => rw [he] at h; cases h
             | ok y =>
               rw [he] at h
               simp only at h
               cases hbs : each (alt f (expr f)) (l.drop 2) with
               | error q => rw [hbs] at h; cases h
               | ok bs =>
                 rw [hbs] at h
                 simp only [Except.ok.injEq] at h
                 subst h
                 have hb := each_all (Q := fun b : Pat × Expr => goodP f b.1 ∧ goodX f b.2) (fun m hm x hx => by
                  unfold alt at hx
                  cases hz2 : nodes m 2 2 with
                  | error q => rw [hz2] at hx; cases hx
                  | ok l2 =>
                    rw [hz2] at hx
                    simp only at hx
                    cases hz3 : pat f (l2.headD m) with
                    | error q => rw [hz3] at hx; cases hx
                    | ok s =>
                      rw [hz3] at hx
                      simp only at hx
                      cases hz4 : expr f (l2.getD 1 m) with
                      | error q => rw [hz4] at hx; cases hx
                      | ok e =>
                        rw [hz4] at hx
                        simp only [Except.ok.injEq] at hx
                        subst hx
                        exact ⟨pat_good _ _ _ hz3, ih _ _ hz4⟩) hbs
                 rw [goodX]
                 exact ⟨fun _ _ => rfl, fun x hx => by simp at hx; subst hx; exact ih _ _ he, hb⟩
         · rw [if_neg w3] at h
           unfold plainExpr at h
           cases hq : nodes n 2 9 with
           | error q => rw [hq] at h; cases h
           | ok l =>
             rw [hq] at h
             simp only at h
             have fin : ∀ {k p : Nat} {nm : List UInt8} {l : List Node}, (match each (expr f) l with | .error p => (.error p : R Expr) | .ok xs => .ok (.mk k p nm 0 [] xs [])) = .ok t → goodX (f + 1) t := by
              intro k p nm l e
              cases he : each (expr f) l with
              | error q => rw [he] at e; cases e
              | ok xs =>
                rw [he] at e
                simp only [Except.ok.injEq] at e
                subst e
                rw [goodX]
                exact ⟨fun _ _ => rfl, each_all (fun m _ x hx => ih m x hx) he, fun a ha => by cases ha⟩
             split at h
             · split at h
               · cases h
               · exact fin h
             · split at h
               · exact fin h
               · exact fin h
   · rw [if_neg h1] at h
     have fin : ∀ {k p : Nat} {nm : List UInt8} {i : Int}, (Except.ok (Expr.mk k p nm i [] [] []) : R Expr) = .ok t → goodX (f + 1) t := by
      intro k p nm i e
      simp only [Except.ok.injEq] at e
      subst e
      rw [goodX]
      exact ⟨fun _ _ => rfl, (fun x hx => by cases hx), (fun a ha => by cases ha)⟩
     repeat' split at h
     all_goals first | exact fin h | cases h
theorem names_low {n : Node} {a : Nat} {ns : List (List UInt8)} (h : names n a = .ok ns) (hg : NodeGood n) : ∀ s ∈ ns, lowB s = true := by
 unfold names at h
 cases hq : nodes n a 8 with
 | error p => rw [hq] at h; cases h
 | ok l =>
   rw [hq] at h
   simp only at h
   obtain ⟨rfl, _⟩ := jW hq
   exact each_all (fun m hm x hx => (name_low hx (hg.kid hm)).1) h
theorem con_good (n : Node) (c : Con) (h : con 50 n = .ok c) (hg : NodeGood n) : ∀ t ∈ c.fields, goodT 50 t := by
 unfold con at h
 cases hq : nodes n 1 9 with
 | error p => rw [hq] at h; cases h
 | ok l =>
   rw [hq] at h
   simp only at h
   obtain ⟨rfl, hl⟩ := jW hq
   cases hc : conName (n.list.headD n) with
   | error p => rw [hc] at h; cases h
   | ok nm =>
     rw [hc] at h
     simp only at h
     cases he : each (typeE 50) n.list.tail with
     | error p => rw [he] at h; cases h
     | ok xs =>
       rw [he] at h
       simp only [Except.ok.injEq] at h
       subst h
       exact each_all (fun m hm x hx => typeE_good 50 m x hx (hg.kid (List.mem_of_mem_tail hm))) he
theorem data_good (n : Node) (c : Data) (h : data 50 n = .ok c) (hg : NodeGood n) : goodD c := by
 unfold data at h
 cases hq : nodes n 4 103 with
 | error p => rw [hq] at h; cases h
 | ok l =>
   rw [hq] at h
   simp only at h
   obtain ⟨rfl, hl⟩ := jW hq
   cases hc : conName (n.list.getD 1 n) with
   | error p => rw [hc] at h; cases h
   | ok nm =>
     rw [hc] at h
     simp only at h
     cases hns : names (n.list.getD 2 n) 0 with
     | error q => rw [hns] at h; cases h
     | ok ps =>
       rw [hns] at h
       simp only at h
       cases he : each (con 50) (n.list.drop 3) with
       | error p => rw [he] at h; cases h
       | ok xs =>
         rw [he] at h
         simp only [Except.ok.injEq] at h
         subst h
         exact ⟨(conName_upp hc (hg.kid (getD_memG (by omega) n))).1, names_low hns (hg.kid (getD_memG (by omega) n)), each_all (fun m hm x hx => con_good m x hx (hg.kid (List.mem_of_mem_drop hm))) he⟩
theorem defn_good (n : Node) (c : Def) (h : defn 50 n = .ok c) : goodX 50 c.body := by
 unfold defn at h
 cases hq : nodes n 4 4 with
 | error p => rw [hq] at h; cases h
 | ok l =>
   rw [hq] at h
   simp only at h
   cases hc : name (l.getD 1 n) with
   | error p => rw [hc] at h; cases h
   | ok nm =>
     rw [hc] at h
     simp only at h
     cases hns : names (l.getD 2 n) 0 with
     | error q => rw [hns] at h; cases h
     | ok ps =>
       rw [hns] at h
       simp only at h
       cases he : expr 50 (l.getD 3 n) with
       | error p => rw [he] at h; cases h
       | ok x =>
         rw [he] at h
         simp only [Except.ok.injEq] at h
         subst h
         exact expr_good _ _ _ he
theorem prog_good (stop : Nat) : ∀ (f c : Nat) (ts : List Lx.Tok) (p : Prog), (∀ t ∈ ts, TOk t) → prog stop f c ts = .ok p → goodProg p := by
 intro f
 induction f with
 | zero => intro c ts p _ h; simp only [prog, Except.ok.injEq] at h; subst h; exact ⟨(fun d hd => by cases hd), (fun d hd => by cases hd)⟩
 | succ f ih =>
   intro c ts p ht h
   cases ts with
   | nil => simp only [prog, Except.ok.injEq] at h; subst h; exact ⟨(fun d hd => by cases hd), (fun d hd => by cases hd)⟩
   | cons t ts =>
     rw [prog] at h
     · cases hn : node stop (2 * (t :: ts).length + 2) 0 (t :: ts) with
       | error q => rw [hn] at h; cases h
       | ok y =>
         obtain ⟨n, ts'⟩ := y
         rw [hn] at h
         simp only at h
         obtain ⟨h1, h2⟩ := (node_good stop (2 * (t :: ts).length + 2) 0 (t :: ts) ht).1 n ts' hn
         by_cases hc : c = 100
         · rw [if_pos hc] at h; cases h
         rw [if_neg hc] at h
         by_cases hw1 : word n = [100, 97, 116, 97]
         · rw [if_pos hw1] at h
           cases hd : data 50 n with
           | error q => rw [hd] at h; cases h
           | ok d =>
             rw [hd] at h
             simp only at h
             cases hr : prog stop f (c + 1) ts' with
             | error q => rw [hr] at h; cases h
             | ok q =>
               rw [hr] at h
               simp only [Except.ok.injEq] at h
               subst h
               have e1 := ih _ _ _ h2 hr
               have e2 := data_good _ _ hd h1
               exact ⟨fun x hx => by rcases List.mem_cons.1 hx with rfl | hx; exact e2; exact e1.1 x hx, e1.2⟩
         · rw [if_neg hw1] at h
           by_cases hw2 : word n = [100, 101, 102]
           · rw [if_pos hw2] at h
             cases hd : defn 50 n with
             | error q => rw [hd] at h; cases h
             | ok d =>
               rw [hd] at h
               simp only at h
               cases hr : prog stop f (c + 1) ts' with
               | error q => rw [hr] at h; cases h
               | ok q =>
                 rw [hr] at h
                 simp only [Except.ok.injEq] at h
                 subst h
                 have e1 := ih _ _ _ h2 hr
                 have e2 := defn_good _ _ hd
                 exact ⟨e1.1, fun x hx => by rcases List.mem_cons.1 hx with rfl | hx; exact e2; exact e1.2 x hx⟩
           · rw [if_neg hw2] at h; cases h
     · simp
theorem program_good (l : List UInt8) (p : Prog) (h : program l = .done p) : goodProg p := by
 unfold program parsed at h
 by_cases h0 : 4096 < l.length
 · rw [if_pos h0] at h; cases h
 rw [if_neg h0] at h
 have hw := toks_ok (l.length + 1) 0 l
 cases ht : Lx.toks (l.length + 1) 0 l with
 | mk ts r =>
   rw [ht] at h hw
   cases r with
   | some q => cases h
   | none =>
     simp only at h hw
     cases hn : prog l.length (ts.length + 1) 0 ts with
     | error q => rw [hn] at h; cases h
     | ok y =>
       rw [hn] at h
       simp only [Outcome.done.injEq] at h
       subst h
       exact prog_good _ _ _ _ _ hw hn
end Px
end Go.Proofs.Ytgoacbomphlhjaa

namespace Go.Proofs.Ytgoacbomphlhjaa
open Go.Lib (hid)
open List renaming getElem_toArray → jX, getElem_cons_succ → jY, getElem_cons_zero → jZ, setIfInBounds_toArray → JA, set_cons_zero → JB, set_cons_succ → JC
open Go Go.RowKit
open Go.WideElems (Fit rd rg pl rd_val elemAt)
theorem map_keys {w : World} {mb n : Nat} {R : RdU} {D : DU} (h : w.ownsMap Try.prog 9 R mb n D) : ∃ es, D = .map es ∧ ∀ p ∈ es, ∃ s : Nm, p.1 = .string s := by
 obtain ⟨es, clock, _, F, _, rfl⟩ := h
 refine ⟨_, rfl, fun p hp => ?_⟩
 obtain ⟨x, hx, rfl⟩ := List.mem_map.1 (mem_sorted.1 hp)
 obtain ⟨y, hy⟩ := F.reads x hx
 rw [Go.WideElems.rg_of hy]
 obtain ⟨s, _, hs, _⟩ := keyStr_inv (Go.WideElems.rd_key hy)
 exact ⟨_, hs⟩
theorem nodup_le {α : Type} (l : List α) : ∀ (m : List α), l.Nodup → (∀ x ∈ l, x ∈ m) → l.length ≤ m.length := by
 classical
 induction l with
 | nil => intro m _ _; exact Nat.zero_le _
 | cons a r ih =>
   intro m hn hs
   have ha := hs a (by simp)
   have h1 := List.nodup_cons.1 hn
   have h2 := ih (m.erase a) h1.2 (fun x hx => (List.mem_erase_of_ne (fun e => h1.1 (by rw [← e]; exact hx))).2 (hs x (by simp [hx])))
   rw [List.length_erase_of_mem ha] at h2
   have h3 := List.length_pos_of_mem ha
   rw [List.length_cons]; omega
theorem size_is {w : World} {mb n : Nat} {R : RdU} {D : DU} (h : w.ownsMap Try.prog 9 R mb n D) (ht : Maps.Tidy D) (V : List Nm) (hv : V.Nodup) (h1 : ∀ s ∈ V, Maps.has D (.string s) = true) (h2 : ∀ s, Maps.has D (.string s) = true → s ∈ V) : Maps.size D = V.length := by
 obtain ⟨es, e, hk⟩ := map_keys h
 obtain ⟨es', e', hp⟩ := ht
 rw [e] at e'
 simp only [DataW.map.injEq] at e'
 subst e'
 subst e
 have hnd : (es.map (·.1)).Nodup := by
  rw [List.nodup_iff_pairwise_ne, List.pairwise_map]
  exact hp
 rw [Maps.size_eq]
 refine Nat.le_antisymm ?_ ?_
 · have := nodup_le (es.map (·.1)) (V.map Lit.string) hnd (fun x hx => by
    obtain ⟨p, h3, rfl⟩ := List.mem_map.1 hx
    obtain ⟨s, hs⟩ := hk p h3
    rw [hs]
    refine List.mem_map.2 ⟨s, h2 s ?_, rfl⟩
    rw [Maps.has, List.any_eq_true]
    exact ⟨p, h3, by rw [hs]; exact WideAt.sameKey_self (show WideAt.IsKeyLit (Lit.string s) from trivial)⟩)
   simpa using this
 · have := nodup_le (V.map Lit.string) (es.map (·.1)) (by
    rw [List.nodup_iff_pairwise_ne, List.pairwise_map]
    exact (List.nodup_iff_pairwise_ne.1 hv).imp (fun h e => h (by injection e))) (fun x hx => by
    obtain ⟨s, h3, rfl⟩ := List.mem_map.1 hx
    have h4 := h1 s h3
    rw [Maps.has, List.any_eq_true] at h4
    obtain ⟨p, h5, h6⟩ := h4
    refine List.mem_map.2 ⟨p, h5, ?_⟩
    by_cases e : p.1 = .string s
    · exact e
    · rw [Maps.sameKey_ne e] at h6; cases h6)
   simpa using this
end Go.Proofs.Ytgoacbomphlhjaa

namespace Go.Proofs.Ytgoacbomphlhjaa
open Go.Lib (hid)
open List renaming getElem_toArray → jX, getElem_cons_succ → jY, getElem_cons_zero → jZ, setIfInBounds_toArray → JA, set_cons_zero → JB, set_cons_succ → JC
open Go.ChangeShapes Go.WideShapes Go.ChangeAt Go.RowKit
theorem own : ownKnob Try.prog.godebug = none := by kernel_rfl
theorem laidOut : laidOutB Try.prog = true := by kernel_rfl
/-- A slice of integers that came in: nil, or a row of 'cap' cells with the numbers 'zs'; the first 'len' are its elements. -/
def IsRow (k : IntKind) (w : World) (a : Option Addr) (len cap : Nat) (zs : List Int) : Prop :=
 (a = none ∧ len = 0 ∧ cap = 0 ∧ zs = []) ∨
 ∃ x, a = some x ∧ len ≤ cap ∧ cap ≤ 140737488351232 ∧ zs.length = cap ∧ (∀ i, i < zs.length → w.cell? (x.add i) = some (.int k (zs.getD i 0))) ∧ ∀ n ∈ zs, (Lit.int k n).wf = true
/-- What a slice of bytes that came in holds. -/
def bytesOf (zs : List Int) (len : Nat) : List UInt8 := (zs.take len).map fun z => UInt8.ofNat z.toNat
/-- A source of bytes for an append. -/
def SrcAt (w : World) (v : Value) (l : List UInt8) : Prop :=
 (v = .slice none 0 0 ∧ l = []) ∨ ∃ ad c, v = .slice (some ad) l.length c ∧ ∀ j u, (l.map byteV)[j]? = some u → w.cell? (ad.add j) = some u
theorem SrcAt.below {w w' : World} {v : Value} {l : List UInt8} (h : SrcAt w v l) (hb : Below w.heap.size w w') : SrcAt w' v l := by
 rcases h with h | ⟨ad, c, rfl, h⟩
 · exact .inl h
 · refine .inr ⟨ad, c, rfl, fun j u hu => ?_⟩
   have := h j u hu
   rw [hb.cell (World.block_lt_of_cell? w _ this)]; exact this
theorem row_src {w : World} {a : Option Addr} {len cap : Nat} {zs : List Int} (h : IsRow .u8 w a len cap zs) :
 SrcAt w (.slice a len cap) (bytesOf zs len) ∧ SliceAt w (.slice a len cap) (bytesOf zs len) ∧ (bytesOf zs len).length = len ∧ len ≤ 140737488351232 := by
 rcases h with ⟨rfl, rfl, rfl, rfl⟩ | ⟨x, rfl, h1, h2, h3, h4, h5⟩
 · exact ⟨.inl ⟨rfl, rfl⟩, .inl ⟨none, 0, rfl, rfl⟩, rfl, by omega⟩
 · have hl : (bytesOf zs len).length = len := by simp [bytesOf]; omega
   have hz : ∀ j, j < len → zs.getD j 0 = ((Lx.at0 (bytesOf zs len) j).toNat : Int) := by
    intro j hj
    have hjz : j < zs.length := by omega
    have hb := bounds_u8 (h5 _ (List.getElem_mem hjz))
    unfold Lx.at0
    rw [List.getD_eq_getElem?_getD, List.getD_eq_getElem?_getD, List.getElem?_eq_getElem hjz]
    simp only [bytesOf, List.getElem?_map, List.getElem?_take, if_pos hj, List.getElem?_eq_getElem hjz, Option.map_some, Option.getD_some]
    rw [UInt8.toNat_ofNat']; omega
   have hsrc : ∀ j, j < len → w.cell? (x.add j) = some (.int .u8 (Lx.at0 (bytesOf zs len) j).toNat) := by
    intro j hj
    rw [h4 j (by omega), hz j hj]
   refine ⟨.inr ⟨x, cap, by rw [hl], fun j u hu => ?_⟩, ?_, hl, by omega⟩
   · have hj : j < len := by
      have := (List.getElem?_eq_some_iff.1 hu).1
      simpa [hl] using this
     rw [hsrc j hj, ← hu, at0_get _ j (by omega)]
   · by_cases h0 : len = 0
     · subst h0
       exact .inl ⟨_, cap, rfl, List.eq_nil_of_length_eq_zero hl⟩
     · obtain ⟨b, off, rfl, hbo⟩ := ints_at (zs := zs) (k := .u8) (w := w) (a := x) h4 (by omega)
       refine .inr ⟨b, off, cap, by rw [hl], by omega, by omega, fun j hj => ?_⟩
       rw [hbo j (by omega), hz j (by omega)]
theorem conv_src {W : World} {v : Value} {l : List UInt8} (h : SrcAt W v l) : (convert 22 9 v).run Try.prog W = .ok (.string ⟨l.toArray⟩) W := by
 rcases h with ⟨rfl, rfl⟩ | ⟨ad, c, rfl, h⟩
 · exact run_convert_bytes_nil (P := Try.prog) W 22 5 Try.underlying22 Try.underlying5 0 0 9 Try.underlying9
 · refine run_convert_bytes_back (P := Try.prog) W 22 9 5 ad c l Try.underlying22 Try.underlying5 Try.underlying9 (fun j hj => ?_)
   refine h j _ ?_
   rw [List.getElem?_map, List.getElem?_eq_getElem hj]; rfl
/-- The bytes of an argument. -/
theorem open_bytes {H : Type} {enc : TypeId × Value → H} {W : World} {a0 : Option Addr} {len0 cap0 : Nat} {d0 : DataW H} {p0 : List MemPlace} {ts : List TypeId} {ds : List (DataW H)}
 (h : DataW.Trod enc Try.prog W 0 (fun _ => true) true 22 (.slice a0 len0 cap0) d0 p0) (hreach : (DataW.weightsEach Try.prog (22 :: ts) (d0 :: ds)).all (· ≤ reachBytes) = true) :
 ∃ l : List UInt8, SrcAt W (.slice a0 len0 cap0) l ∧ l.length = len0 ∧ len0 ≤ 140737488351232 := by
 obtain ⟨zs, hz⟩ : ∃ zs, IsRow .u8 W a0 len0 cap0 zs := by
  obtain ⟨fuel, hf⟩ := h
  rcases open_ints Try.underlying22 Try.underlying5 (by kernel_rfl) hf with ⟨hcs, _⟩ | ⟨x, l, c, zs, hcs, _, hl, hm, hz, hx, hcell, hwz⟩
  · simp [Value.cells] at hcs
    obtain ⟨rfl, rfl, rfl⟩ := hcs
    exact ⟨[], .inl ⟨rfl, rfl, rfl, rfl⟩⟩
  · simp [Value.cells] at hcs
    obtain ⟨rfl, rfl, rfl⟩ := hcs
    have hzz : zs.length = cap0 := by simpa using hz
    simp only [Prod.mk.injEq] at hx
    have hd : d0 = _ := hx.1
    have hr : cap0 ≤ 140737488351232 := by
     have this : ((lits (H := H) .u8 (zs.take len0)).length + (lits (H := H) .u8 (zs.drop len0)).length) * Try.prog.bytesOf 5 ≤ reachBytes := sized_slice hreach (j := 0) (t := 22) (e := 5) rfl (by rw [hd]; rfl) Try.underlying22
     rw [show Try.prog.bytesOf 5 = 1 by kernel_rfl] at this
     simp only [lits, List.length_map, List.length_take, List.length_drop, reachBytes] at this
     omega
    exact ⟨zs, .inr ⟨_, rfl, hl, hr, hzz, hcell, hwz⟩⟩
 obtain ⟨h1, _, h3, h4⟩ := row_src hz
 exact ⟨_, h1, h3, h4⟩
end Go.Proofs.Ytgoacbomphlhjaa
