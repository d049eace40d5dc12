/-
  The document's answers, layer 4: datas.
-/
import Derived.Test.YtgoacbomphlhjaaP00
import Derived.Test.YtgoacbomphlhjaaP26
set_option linter.unusedVariables false
set_option linter.unusedSimpArgs false
namespace Go.Proofs.Ytgoacbomphlhjaa
open Go.Lib (hid)
open List renaming getElem_toArray → jX, getElem_cons_succ → jY, getElem_cons_zero → jZ, setIfInBounds_toArray → JA, set_cons_zero → JB, set_cons_succ → JC
open Go Go.RowKit
/-- What is no part of a list stays while the list grows. -/
theorem appd_ent {α : Type} {enc : α → Value} {E : TypeId} {w w' : World} {b : Nat} {v v' : Value} {l l0 : List α} (h : Appd enc E w b v l v' w') (ho : w.ownsRow b E 1 v l0.length (l0.map enc)) {g : Nat} {cs : Array Value} {T : TypeId} {fr : Nat × Nat} (he : w.heap[g]? = some (.cells cs T fr)) (hT : T ≠ E) : w'.heap[g]? = some (.cells cs T fr) := by
 refine (h.2.1.block g (jK he) (fun e => ?_)).trans he
 rcases ho.2 with ⟨rfl, _⟩ | ⟨g', cap, cur, rfl, _, hg, _⟩
 · simp [Value.ownBlock] at e
 · simp only [Value.ownBlock, Option.some.injEq] at e
   subst e
   rw [he] at hg
   simp only [Option.some.injEq, Obj.cells.injEq] at hg
   exact hT hg.2.1
theorem ownI_stays {w w' : World} {b b' : Nat} {v v' iv : Value} {l l0 : List Nm} {li : List Nat} (h : Appd encS 9 w b v l v' w') (ho : OwnS w b v l0) (hi : OwnI w b' iv li) : OwnI w' b' iv li :=
 own_stays hi fun g hg => h.2.1.block g (hi.lt g hg).2 (fun e => own_type_ne ho hi (by decide) g e.symm hg)
theorem seeW_snoc (s : Nm) (p : Nat) : ∀ (l : List (Nm × Nat)) (seen : List Nm), seeW seen (l ++ [(s, p)]) = seeW seen l ++ one (hasN (seen ++ l.map (·.1)) s) p
 | [], seen => by simp [seeW]
 | (t, q) :: r, seen => by rw [List.cons_append, seeW, seeW, seeW_snoc s p r]; simp [List.append_assoc]
theorem seeW_take {α : Type} (nm : α → Nm) (ps : α → Nat) {l : List α} {k : Nat} {x : α} (h : l[k]? = some x) (seen : List Nm) : seeW seen ((l.take (k + 1)).map fun d => (nm d, ps d)) = seeW seen ((l.take k).map fun d => (nm d, ps d)) ++ one (hasN (seen ++ (l.take k).map nm) (nm x)) (ps x) := by
 rw [List.take_add_one, h, Option.toList_some, List.map_append, List.map_cons, List.map_nil, seeW_snoc, List.map_map]; rfl
theorem seeW_len : ∀ (l : List (Nm × Nat)) (seen : List Nm), (seeW seen l).length ≤ l.length
 | [], seen => by simp [seeW]
 | (t, q) :: r, seen => by rw [seeW, List.length_append, List.length_cons]; have := one_len (hasN seen t) q; have := seeW_len r (seen ++ [t]); omega
theorem consW_snoc (ds : List Px.Data) (ps : List Nm) (c : Px.Con) : ∀ (l : List Px.Con) (seen : List Nm), consW ds ps seen (l ++ [c]) = consW ds ps seen l ++ (one (hasN (seen ++ l.map (·.name)) c.name) c.pos ++ c.fields.flatMap (typW ds ps 50))
 | [], seen => by simp [consW]
 | x :: r, seen => by rw [List.cons_append, consW, consW, consW_snoc ds ps c r]; simp [List.append_assoc]
theorem consW_take (ds : List Px.Data) (ps : List Nm) {l : List Px.Con} {k : Nat} {c : Px.Con} (h : l[k]? = some c) (seen : List Nm) : consW ds ps seen (l.take (k + 1)) = consW ds ps seen (l.take k) ++ (one (hasN (seen ++ (l.take k).map (·.name)) c.name) c.pos ++ c.fields.flatMap (typW ds ps 50)) := by
 rw [List.take_add_one, h, Option.toList_some, consW_snoc]
theorem consW_len (ds : List Px.Data) (ps : List Nm) : ∀ (l : List Px.Con) (seen : List Nm), (consW ds ps seen l).length ≤ (l.map Sx.cw).sum
 | [], seen => by simp [consW]
 | x :: r, seen => by
   rw [consW, List.length_append, List.length_append, List.map_cons, List.sum_cons]
   have h1 := one_len (hasN seen x.name) x.pos
   have h2 := consW_len ds ps r (seen ++ [x.name])
   have h3 := flat_len (typW ds ps 50) (Sx.tyw 50) x.fields (fun t _ => typW_len ds ps 50 t)
   have h4 : Sx.cw x = 1 + x.name.length + (x.fields.map (Sx.tyw 50)).sum := rfl
   omega
theorem datasW_snoc (ds : List Px.Data) (d : Px.Data) : ∀ (l : List Px.Data) (seen : List Nm), datasW ds seen (l ++ [d]) = datasW ds seen l ++ (one (twiceB d.params) d.pos ++ consW ds d.params (seen ++ consNames l) d.cons)
 | [], seen => by simp [datasW, consNames]
 | x :: r, seen => by rw [List.cons_append, datasW, datasW, datasW_snoc ds d r]; simp [consNames, List.append_assoc]
theorem datasW_take (ds : List Px.Data) {l : List Px.Data} {k : Nat} {d : Px.Data} (h : l[k]? = some d) (seen : List Nm) : datasW ds seen (l.take (k + 1)) = datasW ds seen (l.take k) ++ (one (twiceB d.params) d.pos ++ consW ds d.params (seen ++ consNames (l.take k)) d.cons) := by
 rw [List.take_add_one, h, Option.toList_some, datasW_snoc]
theorem datasW_len (ds : List Px.Data) : ∀ (l : List Px.Data) (seen : List Nm), (datasW ds seen l).length ≤ (l.map Sx.dw).sum
 | [], seen => by simp [datasW]
 | x :: r, seen => by
   rw [datasW, List.length_append, List.length_append, List.map_cons, List.sum_cons]
   have h1 := one_len (twiceB x.params) x.pos
   have h2 := datasW_len ds r (seen ++ x.cons.map (·.name))
   have h3 := consW_len ds x.params x.cons seen
   have h4 : Sx.dw x = 1 + x.name.length + nw x.params + (x.cons.map Sx.cw).sum := rfl
   omega
theorem consNames_take {l : List Px.Data} {k : Nat} {d : Px.Data} (h : l[k]? = some d) : consNames (l.take (k + 1)) = consNames (l.take k) ++ d.cons.map (·.name) := by
 rw [List.take_add_one, h, Option.toList_some, consNames, List.flatMap_append]; simp [consNames]
theorem ownS_lit (w : World) (l : List Nm) (b : Nat) (hb : b ≤ w.heap.size) (hl : l.length ≤ 100) : OwnS (w.alloc (.cells (l.map encS).toArray 9)) b (.slice (some ⟨w.heap.size, 0, none⟩) l.length l.length) l :=
 ⟨by simp, .inr ⟨w.heap.size, l.length, (l.map encS).toArray, rfl, hb, jI w _ _, Nat.le_refl _, by unfold maxLen; omega, by simp, List.take_of_length_le (by simp)⟩⟩
set_option maxHeartbeats 16000000 in
set_option maxRecDepth 100000 in
theorem datas_any (p : Px.Prog) (pv : Value) (w : World) (hp : ProgAt 50 w pv p) (hpw : (p.datas.map Sx.dw).sum ≤ 400000) (hgp : ∀ d ∈ p.datas, goodD d) :
 Calls Try.prog 25 #[pv] w (RNewO w (wrongDatas p)) := by
 obtain ⟨q1, c1, q2, c2, rfl⟩ := progAt_sh hp
 have HP := hid hp; have HPW := hid hpw; have HGP := hid hgp
 have HR : Hid (RowAt 4 (DataAt 50 w) w (.slice q1 p.datas.length c1) p.datas) := hid (by
  obtain ⟨dv, fv, hpv, h1, h2⟩ := hp
  simp only [Value.agg.injEq, Array.mk.injEq, List.cons.injEq, and_true] at hpv
  obtain ⟨rfl, rfl⟩ := hpv
  exact h1)
 have hdl : p.datas.length ≤ 400000 := Nat.le_trans (Sx.len_sum Sx.dw _ (fun x _ => by unfold Sx.dw; omega)) hpw
 clear hp hpw hgp
 go_enter Try.func25, Try.ntmps25
 have EP0 := hid (jI w #[.slice q1 p.datas.length c1, .slice q2 p.defs.length c2] 27)
 have HB0 := hid (show Below w.heap.size w (w.alloc (.cells #[.slice q1 p.datas.length c1, .slice q2 p.defs.length c2] 27)) from (Below.refl _ _).alloc (Nat.le_refl _) _)
 go_upto_region 1 with fail
 obtain ⟨w1, hw1⟩ : ∃ x, x = w.alloc (.cells #[.slice q1 p.datas.length c1, .slice q2 p.defs.length c2] 27) := ⟨_, rfl⟩
 rw [← hw1] at EP0 HB0 ⊢
 clear hw1
 have hs0 := jK EP0.out
 have EP := hid (jH EP0.out (.cells (givenL.map encS).toArray 9))
 have HB := hid (HB0.out.alloc HB0.out.size (.cells (givenL.map encS).toArray 9))
 have HS : Hid (OwnS (w1.alloc (.cells (givenL.map encS).toArray 9)) (w.heap.size + 1) (.slice (some ⟨w1.heap.size, 0, none⟩) 3 3) givenL) := hid (ownS_lit w1 givenL _ (by omega) (by decide))
 have HO := hid (ownI_nil (w1.alloc (.cells (givenL.map encS).toArray 9)) (w.heap.size + 1))
 go_upto_region 2 with fail
 go_cut [4] (fun o wx => Hid (OwnS wx (w.heap.size + 1) o givenL) ∧ Hid (OwnI wx (w.heap.size + 1) (.slice none 0 0) []) ∧ Hid (wx.heap[w.heap.size]? = some (.cells #[.slice q1 p.datas.length c1, .slice q2 p.defs.length c2] 27 (0, 0))) ∧ Hid (Below w.heap.size w wx))
 case first =>
  go_wp2_with fail
  go_meet
  exact ⟨HS, HO, EP, HB⟩
 case rest =>
 clear HS HO EP HB EP0 HB0
 obtain ⟨HS, HO, EP, HB⟩ := hcut
 obtain ⟨pn, cn, rfl⟩ := jF HS.out
 obtain ⟨w0, hw0⟩ : ∃ x, x = wc := ⟨wc, rfl⟩
 subst hw0
 go_wp2_with fail
 go_loopw [3, 4, 5] (fun o nv j wx => ∃ (m : Nat) (l : List Nat) (ns : List Nm), j = .int .i64 m ∧ m ≤ p.datas.length ∧ Hid (l = seeW givenL ((p.datas.take m).map fun d => (d.name, d.pos))) ∧ Hid (ns = givenL ++ (p.datas.take m).map (·.name)) ∧ Hid (OwnI wx (w.heap.size + 1) o l) ∧ Hid (OwnS wx (w.heap.size + 1) nv ns) ∧ Hid (wx.heap[w.heap.size]? = some (.cells #[.slice q1 p.datas.length c1, .slice q2 p.defs.length c2] 27 (0, 0))) ∧ Hid (Below w.heap.size w wx)) (fun _ _ j _ => p.datas.length - (intOf j).toNat)
 case atStart => exact ⟨0, [], givenL, rfl, Nat.zero_le _, hid rfl, hid (by simp), HO, HS, EP, HB⟩
 case round =>
  clear HO HS EP HB
  obtain ⟨m, l, ns, rfl, hm, HM, HN, HO, HS, EP, HB⟩ := hrel
  have hs1 := jK EP.out
  have x0 := jA EP.out 0 _ rfl
  obtain ⟨va, cva, rfl⟩ := jF HO.out
  obtain ⟨vn, cvn, rfl⟩ := jF HS.out
  have hll : l.length ≤ 400000 := by rw [HM.out]; have := seeW_len ((p.datas.take m).map fun d => (d.name, d.pos)) givenL; rw [List.length_map, List.length_take] at this; omega
  have hnl : ns.length ≤ 400010 := by rw [HN.out, List.length_append, List.length_map, List.length_take, show givenL.length = 3 from rfl]; omega
  by_cases hlt : m < p.datas.length
  · obtain ⟨d, hd⟩ : ∃ x, p.datas[m]? = some x := ⟨_, List.getElem?_eq_getElem hlt⟩
    rcases HR.out with ⟨h0, _⟩ | ⟨g, of, c', hv, g1, g2, g3⟩
    · rw [h0] at hlt; simp at hlt
    injection hv with hq1 _ hq2
    subst hq1; subst hq2
    obtain ⟨u, hu, _, hcell⟩ := g3 m d hd
    obtain ⟨qp, cp, qk, ck, rfl, hpr, hcr⟩ := dataAt_sh hu
    have HPR := hid hpr; have HCR := hid hcr; have HD := hid hd
    have hk1 : (m : Int) < (p.datas.length : Int) := by omega
    have hk2 : (p.datas.length : Int) ≤ (c1 : Int) := by omega
    have hk3 := g2
    have HCL := hid (fun (w' : World) (h : Below w.heap.size w w') => (show w'.cell? ⟨g, of + m * 4, none⟩ = some (.int .i64 d.pos) ∧ w'.cell? ⟨g, of + m * 4 + 1, none⟩ = some (.string ⟨d.name.toArray⟩) ∧ w'.cell? ⟨g, of + m * 4 + 2, none⟩ = some (.slice qp d.params.length cp) ∧ w'.cell? ⟨g, of + m * 4 + 3, none⟩ = some (.slice qk d.cons.length ck) from ⟨jE h (hcell 0 _ rfl), jE h (hcell 1 _ rfl), jE h (hcell 2 _ rfl), jE h (hcell 3 _ rfl)⟩))
    clear g1 g2 g3 hcell hu hpr hcr hd
    have HTK := hid (seeW_take (fun d : Px.Data => d.name) (fun d => d.pos) HD.out givenL)
    have HTN : Hid (ns ++ [d.name] = givenL ++ (p.datas.take (m + 1)).map (·.name)) := hid (by rw [HN.out, List.take_add_one, HD.out]; simp)
    obtain ⟨z0, z1, z2, z3⟩ := HCL.out wr HB.out
    go_wp2_with fail
    clear z0 z1 z2 z3 x0
    refine (refHas_any _ ns d.name wr (rowS_own' HS.out)).mono ?_
    rintro e w0 ⟨rfl, rfl⟩
    obtain ⟨b, hb⟩ : ∃ b, hasN ns d.name = b := ⟨_, rfl⟩
    have HT2 := hid (show l ++ one b d.pos = seeW givenL ((p.datas.take (m + 1)).map fun d => (d.name, d.pos)) by rw [HTK.out, ← HN.out, hb, HM.out])
    rw [hb]
    clear hb
    go_upto_if 26 with fail
    go_cut [3] (fun o wx => Hid (OwnI wx (w.heap.size + 1) o (l ++ one b d.pos)) ∧ Hid (OwnS wx (w.heap.size + 1) (.slice vn ns.length cvn) ns) ∧ Hid (wx.heap[w.heap.size]? = some (.cells #[.slice (some ⟨g, of, none⟩) p.datas.length c1, .slice q2 p.defs.length c2] 27 (0, 0))) ∧ Hid (Below w.heap.size w wx))
    case first =>
     cases b with
     | true =>
       obtain ⟨z0, z1, z2, z3⟩ := HCL.out w0 HB.out; have x0 := jA EP.out 0 _ rfl
       have HE := hid (jI w0 #[.int .i64 (d.pos : Int)] 3)
       have HBA := hid (show Below w0.heap.size w0 (w0.alloc (.cells #[.int .i64 (d.pos : Int)] 3)) from (Below.refl _ _).alloc (Nat.le_refl _) _)
       have HON := hid (jJ HO.out HBA.out)
       go_wp2_with (at_builtin; refine list_app_i rfl (.tmp 27) (.tmp 34) rfl (w.heap.size + 1) _ l rfl HON.out _ rfl [d.pos] (row_cell HE.out rfl rfl) (by simp; omega) (by have := HBA.out.size; omega) ?_)
       intro v7 w7 happ
       have HB7 := hid (happ.below HON.out (HB.out.trans (HBA.out.mono HB.out.size)) (by have := HBA.out.size; omega) (by omega))
       have EP7 := hid (appd_ent happ HON.out (jC EP.out HBA.out) (by decide))
       have HS7 := hid (ownS_stays happ HON.out (jJ HS.out HBA.out))
       obtain ⟨p7, q7, rfl⟩ := jF happ.1
       have HO7 := hid happ.1
       clear happ
       go_wp2
       go_meet
       exact ⟨HO7, HS7, EP7, HB7⟩
     | false =>
       go_wp2_with fail
       go_meet
       exact ⟨hid (by rw [show one false d.pos = [] from rfl, List.append_nil]; exact HO.out), HS, EP, HB⟩
    case rest =>
    clear EP HB HO HS
    obtain ⟨HO, HS, EP, HB⟩ := hcut
    obtain ⟨l2, hl2⟩ : ∃ x, x = l ++ one b d.pos := ⟨_, rfl⟩
    rw [← hl2] at HO HT2
    clear hl2
    obtain ⟨pe, ce, rfl⟩ := jF HO.out
    obtain ⟨w0, hw0⟩ : ∃ x, x = wc := ⟨wc, rfl⟩
    subst hw0
    have hs2 := jK EP.out
    obtain ⟨z0, z1, z2, z3⟩ := HCL.out w0 HB.out; have x0 := jA EP.out 0 _ rfl
    have HE := hid (jI w0 #[.string ⟨d.name.toArray⟩] 9)
    have HBA := hid (show Below w0.heap.size w0 (w0.alloc (.cells #[.string ⟨d.name.toArray⟩] 9)) from (Below.refl _ _).alloc (Nat.le_refl _) _)
    have HSN := hid (jJ HS.out HBA.out)
    go_wp2_with (at_builtin; refine list_app_s rfl (.tmp 36) (.tmp 43) rfl (w.heap.size + 1) _ ns rfl HSN.out _ rfl [d.name] (row_cell HE.out rfl rfl) (by simp; omega) (by have := HBA.out.size; omega) ?_)
    intro v8 w8 happ
    have HB8 := hid (happ.below HSN.out (HB.out.trans (HBA.out.mono HB.out.size)) (by have := HBA.out.size; omega) (by omega))
    have EP8 := hid (appd_ent happ HSN.out (jC EP.out HBA.out) (by decide))
    have HO8 := hid (ownI_stays happ HSN.out (jJ HO.out HBA.out))
    obtain ⟨p8, q8, rfl⟩ := jF happ.1
    have HS8 := hid happ.1
    clear happ HO HS EP HB HSN HBA HE
    obtain ⟨n2, hn2⟩ : ∃ x, x = ns ++ [d.name] := ⟨_, rfl⟩
    rw [← hn2] at HS8 HTN ⊢
    clear hn2
    go_wp2
    go_roundw
    case rel => exact ⟨m + 1, l2, n2, by go_num, by omega, HT2, HTN, HO8, HS8, EP8, HB8⟩
    case measure => simp [intOf]; omega
  · obtain rfl : m = p.datas.length := by omega
    obtain ⟨lA, hlA⟩ : ∃ x, x = l := ⟨l, rfl⟩
    have HLA := hid (show lA = seeW givenL (p.datas.map fun d => (d.name, d.pos)) by rw [hlA, HM.out, List.take_length])
    have hlA4 : lA.length ≤ 400000 := by rw [hlA]; exact hll
    have HM0 : Hid (l = lA ++ datasW p.datas consL (p.datas.take 0)) := hid (by rw [hlA]; simp [datasW])
    clear hlA HM HN HS
    obtain ⟨w0, hw0⟩ : ∃ x, x = wr := ⟨wr, rfl⟩
    subst hw0
    have EPc := hid (jH EP.out (.cells (consL.map encS).toArray 9))
    have HBc := hid (HB.out.alloc HB.out.size (.cells (consL.map encS).toArray 9))
    have HSc : Hid (OwnS (w0.alloc (.cells (consL.map encS).toArray 9)) (w.heap.size + 1) (.slice (some ⟨w0.heap.size, 0, none⟩) 2 2) consL) := hid (ownS_lit w0 consL _ (by omega) (by decide))
    have HOc := hid (jJ HO.out ((Below.refl _ w0).alloc (Nat.le_refl _) (.cells (consL.map encS).toArray 9)))
    clear HO EP HB
    go_upto_region 9 with fail
    clear x0
    go_cut [6] (fun o wx => Hid (OwnS wx (w.heap.size + 1) o consL) ∧ Hid (OwnI wx (w.heap.size + 1) (.slice va l.length cva) l) ∧ Hid (wx.heap[w.heap.size]? = some (.cells #[.slice q1 p.datas.length c1, .slice q2 p.defs.length c2] 27 (0, 0))) ∧ Hid (Below w.heap.size w wx))
    case first =>
     go_wp2_with fail
     go_meet
     exact ⟨HSc, HOc, EPc, HBc⟩
    case rest =>
    clear HSc HOc EPc HBc
    obtain ⟨HS, HO, EP, HB⟩ := hcut
    obtain ⟨pm, cm, rfl⟩ := jF HS.out
    obtain ⟨w0, hw0⟩ : ∃ x, x = wc := ⟨wc, rfl⟩
    subst hw0
    go_wp2_with fail
    go_loopw [3, 6, 7] (fun o nv j wx => ∃ (m : Nat) (l : List Nat) (ns : List Nm), j = .int .i64 m ∧ m ≤ p.datas.length ∧ Hid (l = lA ++ datasW p.datas consL (p.datas.take m)) ∧ Hid (ns = consL ++ consNames (p.datas.take m)) ∧ Hid (OwnI wx (w.heap.size + 1) o l) ∧ Hid (OwnS wx (w.heap.size + 1) nv ns) ∧ Hid (wx.heap[w.heap.size]? = some (.cells #[.slice q1 p.datas.length c1, .slice q2 p.defs.length c2] 27 (0, 0))) ∧ Hid (Below w.heap.size w wx)) (fun _ _ j _ => p.datas.length - (intOf j).toNat)
    case atStart => exact ⟨0, l, consL, rfl, Nat.zero_le _, HM0, hid (by simp [consNames]), HO, HS, EP, HB⟩
    case round =>
     clear HO HS EP HB HM0 hs1
     obtain ⟨m, l, ns, rfl, hm, HM, HN, HO, HS, EP, HB⟩ := hrel
     have hs1 := jK EP.out
     have x0 := jA EP.out 0 _ rfl
     obtain ⟨va, cva, rfl⟩ := jF HO.out
     obtain ⟨vn, cvn, rfl⟩ := jF HS.out
     by_cases hlt : m < p.datas.length
     · obtain ⟨d, hd⟩ : ∃ x, p.datas[m]? = some x := ⟨_, List.getElem?_eq_getElem hlt⟩
       rcases HR.out with ⟨h0, _⟩ | ⟨g, of, c', hv, g1, g2, g3⟩
       · rw [h0] at hlt; simp at hlt
       first | cases hv | (injection hv with hq1 _ hq2; subst hq1; subst hq2)
       obtain ⟨u, hu, _, hcell⟩ := g3 m d hd
       obtain ⟨qp, cp, qk, ck, rfl, hpr, hcr⟩ := dataAt_sh hu
       have HPR := hid hpr; have HCR := hid hcr; have HD := hid hd
       have hk1 : (m : Int) < (p.datas.length : Int) := by omega
       have hk2 : (p.datas.length : Int) ≤ (c1 : Int) := by omega
       have hk3 := g2
       have HCL := hid (fun (w' : World) (h : Below w.heap.size w w') => (show w'.cell? ⟨g, of + m * 4, none⟩ = some (.int .i64 d.pos) ∧ w'.cell? ⟨g, of + m * 4 + 1, none⟩ = some (.string ⟨d.name.toArray⟩) ∧ w'.cell? ⟨g, of + m * 4 + 2, none⟩ = some (.slice qp d.params.length cp) ∧ w'.cell? ⟨g, of + m * 4 + 3, none⟩ = some (.slice qk d.cons.length ck) from ⟨jE h (hcell 0 _ rfl), jE h (hcell 1 _ rfl), jE h (hcell 2 _ rfl), jE h (hcell 3 _ rfl)⟩))
       clear g1 g2 g3 hcell hu hpr hcr hd
       have hst := Sx.sum_take Sx.dw p.datas m d HD.out
       have hdd : Sx.dw d = 1 + d.name.length + nw d.params + (d.cons.map Sx.cw).sum := rfl
       have hl4 : l.length + Sx.dw d ≤ 800000 := by
        rw [HM.out, List.length_append]
        have := datasW_len p.datas (p.datas.take m) consL
        have := HPW.out; omega
       have hn4 : ns.length + Sx.dw d ≤ 400010 := by
        rw [HN.out, List.length_append]
        have := consNames_le (p.datas.take m)
        have e2 : consL.length = 2 := rfl
        have := HPW.out; omega
       have HW4 := hid (show l.length + Sx.dw d ≤ 800000 ∧ ns.length + Sx.dw d ≤ 400010 ∧ nw d.params ≤ 400000 ∧ (d.cons.map Sx.cw).sum + 1 ≤ Sx.dw d ∧ Sx.dw d ≤ 400000 by have := HPW.out; omega)
       have HTK := hid (datasW_take p.datas HD.out consL)
       have HTN := hid (consNames_take HD.out)
       have HG := hid (HGP.out d (List.mem_of_getElem? HD.out))
       obtain ⟨z0, z1, z2, z3⟩ := HCL.out wr HB.out
       have HAL := hid ((Below.refl _ wr).alloc (Nat.le_refl _) (.cells #[.int .i64 d.pos, .string ⟨d.name.toArray⟩, .slice qp d.params.length cp, .slice qk d.cons.length ck] 44))
       have ED1 := hid (jI wr #[.int .i64 d.pos, .string ⟨d.name.toArray⟩, .slice qp d.params.length cp, .slice qk d.cons.length ck] 44)
       have HO1 := hid (jJ HO.out HAL.out)
       have HS1 := hid (jJ HS.out HAL.out)
       have EP1 := hid (jC EP.out HAL.out)
       have HB1 := hid (HB.out.trans (HAL.out.mono HB.out.size))
       clear HO HS EP HB hst hdd hl4 hn4
       have hpl : d.params.length ≤ 400000 := by have := nw_len d.params; have := HW4.out; omega
       have y2 := jA ED1.out 2 _ rfl
       go_wp2_with fail
       clear y2 z0 z1 z2 z3 x0
       obtain ⟨gd, hgd⟩ : ∃ g, wr.heap.size = g := ⟨_, rfl⟩
       rw [hgd] at ED1 ⊢
       clear hgd
       obtain ⟨wA, hwA⟩ : ∃ x, x = wr.alloc (.cells #[.int .i64 d.pos, .string ⟨d.name.toArray⟩, .slice qp d.params.length cp, .slice qk d.cons.length ck] 44) := ⟨_, rfl⟩
       rw [← hwA] at ED1 HO1 HS1 EP1 HB1 ⊢
       clear hwA HAL
       refine (twice_any _ d.params wA (jQ HPR.out HB1.out) hpl).mono ?_
       rintro e w0 ⟨rfl, hb4⟩
       have ED := hid (jC ED1.out hb4)
       have EP := hid (jC EP1.out hb4)
       have HB := hid (HB1.out.trans (hb4.mono HB1.out.size))
       have HO := hid (jJ HO1.out hb4)
       have HS := hid (jJ HS1.out hb4)
       have hs2 := jK EP.out
       clear hb4 ED1 HO1 HS1 EP1 HB1
       obtain ⟨b, hb⟩ : ∃ b, twiceB d.params = b := ⟨_, rfl⟩
       rw [hb]
       go_upto_if 60 with fail
       go_cut [3] (fun o wx => Hid (OwnI wx (w.heap.size + 1) o (l ++ one b d.pos)) ∧ Hid (OwnS wx (w.heap.size + 1) (.slice vn ns.length cvn) ns) ∧ Hid (wx.heap[w.heap.size]? = some (.cells #[.slice (some ⟨g, of, none⟩) p.datas.length c1, .slice q2 p.defs.length c2] 27 (0, 0))) ∧ Hid (wx.heap[gd]? = some (.cells #[.int .i64 d.pos, .string ⟨d.name.toArray⟩, .slice qp d.params.length cp, .slice qk d.cons.length ck] 44 (0, 0))) ∧ Hid (Below w.heap.size w wx))
       case first =>
        cases b with
        | true =>
          have y0 := jA ED.out 0 _ rfl
          have HE := hid (jI w0 #[.int .i64 (d.pos : Int)] 3)
          have HBA := hid (show Below w0.heap.size w0 (w0.alloc (.cells #[.int .i64 (d.pos : Int)] 3)) from (Below.refl _ _).alloc (Nat.le_refl _) _)
          have HON := hid (jJ HO.out HBA.out)
          go_wp2_with (at_builtin; refine list_app_i rfl (.tmp 61) (.tmp 64) rfl (w.heap.size + 1) _ l rfl HON.out _ rfl [d.pos] (row_cell HE.out rfl rfl) (by have := HW4.out; simp; omega) (by have := HBA.out.size; omega) ?_)
          intro v7 w7 happ
          have HB7 := hid (happ.below HON.out (HB.out.trans (HBA.out.mono HB.out.size)) (by have := HBA.out.size; omega) (by omega))
          have EP7 := hid (appd_ent happ HON.out (jC EP.out HBA.out) (by decide))
          have ED7 := hid (appd_ent happ HON.out (jC ED.out HBA.out) (by decide))
          have HS7 := hid (ownS_stays happ HON.out (jJ HS.out HBA.out))
          obtain ⟨p7, q7, rfl⟩ := jF happ.1
          have HO7 := hid happ.1
          clear happ
          go_wp2
          go_meet
          exact ⟨HO7, HS7, EP7, ED7, HB7⟩
        | false =>
          go_wp2_with fail
          go_meet
          exact ⟨hid (by rw [show one false d.pos = [] from rfl, List.append_nil]; exact HO.out), HS, EP, ED, HB⟩
       case rest =>
       clear EP HB HO HS ED
       obtain ⟨HO, HS, EP, ED, HB⟩ := hcut
       obtain ⟨lB, hlB⟩ : ∃ x, x = l ++ one b d.pos := ⟨_, rfl⟩
       have HLB := hid (show lB = (lA ++ datasW p.datas consL (p.datas.take m)) ++ one (twiceB d.params) d.pos by rw [hlB, hb, HM.out])
       have HLB4 := hid (show lB.length ≤ l.length + 1 by rw [hlB, List.length_append]; have := one_len b d.pos; omega)
       rw [← hlB] at HO
       clear hlB hb
       obtain ⟨pe, ce, rfl⟩ := jF HO.out
       obtain ⟨w0, hw0⟩ : ∃ x, x = wc := ⟨wc, rfl⟩
       subst hw0
       have hcl : d.cons.length ≤ 400000 := by have := cons_le d; have := HW4.out; omega
       clear hs2
       go_wp2_with fail
       go_loopw [3, 6, 9] (fun o nv j wx => ∃ (n : Nat) (l : List Nat) (n2 : List Nm), j = .int .i64 n ∧ n ≤ d.cons.length ∧ Hid (l = lB ++ consW p.datas d.params ns (d.cons.take n)) ∧ Hid (n2 = ns ++ (d.cons.take n).map (·.name)) ∧ Hid (OwnI wx (w.heap.size + 1) o l) ∧ Hid (OwnS wx (w.heap.size + 1) nv n2) ∧ Hid (wx.heap[w.heap.size]? = some (.cells #[.slice (some ⟨g, of, none⟩) p.datas.length c1, .slice q2 p.defs.length c2] 27 (0, 0))) ∧ Hid (wx.heap[gd]? = some (.cells #[.int .i64 d.pos, .string ⟨d.name.toArray⟩, .slice qp d.params.length cp, .slice qk d.cons.length ck] 44 (0, 0))) ∧ Hid (Below w.heap.size w wx)) (fun _ _ j _ => d.cons.length - (intOf j).toNat)
       case atStart => exact ⟨0, lB, ns, rfl, Nat.zero_le _, hid (by simp [consW]), hid (by simp), HO, HS, EP, ED, HB⟩
       case round =>
        clear HO HS EP HB ED
        obtain ⟨n, l3, n2, rfl, hn, HM3, HN3, HO, HS, EP, ED, HB⟩ := hrel
        have hs2 := jK EP.out
        have y3 := jA ED.out 3 _ rfl
        obtain ⟨vb, cvb, rfl⟩ := jF HO.out
        obtain ⟨vm, cvm, rfl⟩ := jF HS.out
        by_cases hlt3 : n < d.cons.length
        · obtain ⟨x, hx⟩ : ∃ x, d.cons[n]? = some x := ⟨_, List.getElem?_eq_getElem hlt3⟩
          rcases HCR.out with ⟨h0, _⟩ | ⟨gk, ofk, c', hv, g1, g2, g3⟩
          · rw [h0] at hlt3; simp at hlt3
          injection hv with hq1 _ hq2
          subst hq1; subst hq2
          obtain ⟨u, hu, _, hcell⟩ := g3 n x hx
          obtain ⟨qf, cf, rfl, hfr⟩ := conAt_sh hu
          have HFR := hid hfr; have HXD := hid hx
          have hj1 : (n : Int) < (d.cons.length : Int) := by omega
          have hj2 : (d.cons.length : Int) ≤ (ck : Int) := by omega
          have hj3 := g2
          have HCX := hid (fun (w' : World) (h : Below w.heap.size w w') => (show w'.cell? ⟨gk, ofk + n * 3, none⟩ = some (.int .i64 x.pos) ∧ w'.cell? ⟨gk, ofk + n * 3 + 1, none⟩ = some (.string ⟨x.name.toArray⟩) ∧ w'.cell? ⟨gk, ofk + n * 3 + 2, none⟩ = some (.slice qf x.fields.length cf) from ⟨jE h (hcell 0 _ rfl), jE h (hcell 1 _ rfl), jE h (hcell 2 _ rfl)⟩))
          have hst := Sx.sum_take Sx.cw d.cons n x hx
          have hcc : Sx.cw x = 1 + x.name.length + (x.fields.map (Sx.tyw 50)).sum := rfl
          have hl4 : l3.length + Sx.cw x ≤ 800010 := by
           rw [HM3.out, List.length_append]
           have := consW_len p.datas d.params (d.cons.take n) ns
           have := HW4.out; have := HLB4.out; omega
          have hn4 : n2.length ≤ 800010 := by rw [HN3.out, List.length_append, List.length_map, List.length_take]; have := cons_le d; have := HW4.out; omega
          have HW5 := hid (show l3.length + Sx.cw x ≤ 800010 ∧ n2.length ≤ 800010 ∧ (x.fields.map (Sx.tyw 50)).sum + 1 ≤ Sx.cw x ∧ Sx.cw x ≤ 400000 by have := HW4.out; omega)
          have HTC := hid (consW_take p.datas d.params hx ns)
          have HTM : Hid (n2 ++ [x.name] = ns ++ (d.cons.take (n + 1)).map (·.name)) := hid (by rw [HN3.out, List.take_add_one, hx]; simp)
          have HGX := hid (HG.out.2.2 x (List.mem_of_getElem? hx))
          have hfl : x.fields.length ≤ 400000 := by have := rowT_len hfr; have := HW5.out; omega
          clear g1 g2 g3 hcell hu hfr hx hst hcc hl4 hn4
          obtain ⟨z0, z1, z2⟩ := HCX.out wr HB.out
          go_wp2_with fail
          clear z0 z1 z2 y3
          refine (refHas_any _ n2 x.name wr (rowS_own' HS.out)).mono ?_
          rintro e w0 ⟨rfl, rfl⟩
          obtain ⟨b, hb⟩ : ∃ b, hasN n2 x.name = b := ⟨_, rfl⟩
          have HTB := hid (show one (hasN (ns ++ (d.cons.take n).map (·.name)) x.name) x.pos = one b x.pos by rw [← HN3.out, hb])
          rw [hb]
          clear hb
          go_upto_if 80 with fail
          go_cut [3] (fun o wx => Hid (OwnI wx (w.heap.size + 1) o (l3 ++ one b x.pos)) ∧ Hid (OwnS wx (w.heap.size + 1) (.slice vm n2.length cvm) n2) ∧ Hid (wx.heap[w.heap.size]? = some (.cells #[.slice (some ⟨g, of, none⟩) p.datas.length c1, .slice q2 p.defs.length c2] 27 (0, 0))) ∧ Hid (wx.heap[gd]? = some (.cells #[.int .i64 d.pos, .string ⟨d.name.toArray⟩, .slice qp d.params.length cp, .slice (some ⟨gk, ofk, none⟩) d.cons.length ck] 44 (0, 0))) ∧ Hid (Below w.heap.size w wx))
          case first =>
           cases b with
           | true =>
             obtain ⟨z0, z1, z2⟩ := HCX.out w0 HB.out; have y3 := jA ED.out 3 _ rfl
             have HE := hid (jI w0 #[.int .i64 (x.pos : Int)] 3)
             have HBA := hid (show Below w0.heap.size w0 (w0.alloc (.cells #[.int .i64 (x.pos : Int)] 3)) from (Below.refl _ _).alloc (Nat.le_refl _) _)
             have HON := hid (jJ HO.out HBA.out)
             go_wp2_with (at_builtin; refine list_app_i rfl (.tmp 81) (.tmp 88) rfl (w.heap.size + 1) _ l3 rfl HON.out _ rfl [x.pos] (row_cell HE.out rfl rfl) (by have := HW5.out; simp; omega) (by have := HBA.out.size; omega) ?_)
             intro v7 w7 happ
             have HB7 := hid (happ.below HON.out (HB.out.trans (HBA.out.mono HB.out.size)) (by have := HBA.out.size; omega) (by omega))
             have EP7 := hid (appd_ent happ HON.out (jC EP.out HBA.out) (by decide))
             have ED7 := hid (appd_ent happ HON.out (jC ED.out HBA.out) (by decide))
             have HS7 := hid (ownS_stays happ HON.out (jJ HS.out HBA.out))
             obtain ⟨p7, q7, rfl⟩ := jF happ.1
             have HO7 := hid happ.1
             clear happ
             go_wp2
             go_meet
             exact ⟨HO7, HS7, EP7, ED7, HB7⟩
           | false =>
             go_wp2_with fail
             go_meet
             exact ⟨hid (by rw [show one false x.pos = [] from rfl, List.append_nil]; exact HO.out), HS, EP, ED, HB⟩
          case rest =>
          clear EP HB HO HS ED
          obtain ⟨HO, HS, EP, ED, HB⟩ := hcut
          obtain ⟨lC, hlC⟩ : ∃ y, y = l3 ++ one b x.pos := ⟨_, rfl⟩
          have HLC4 := hid (show lC.length ≤ l3.length + 1 by rw [hlC, List.length_append]; have := one_len b x.pos; omega)
          have HLC := hid (show lC = l3 ++ one b x.pos from hlC)
          rw [← hlC] at HO
          clear hlC
          obtain ⟨pe, ce, rfl⟩ := jF HO.out
          obtain ⟨w0, hw0⟩ : ∃ x, x = wc := ⟨wc, rfl⟩
          subst hw0
          have hs3 := jK EP.out
          obtain ⟨z0, z1, z2⟩ := HCX.out w0 HB.out; have y3 := jA ED.out 3 _ rfl
          have HE := hid (jI w0 #[.string ⟨x.name.toArray⟩] 9)
          have HBA := hid (show Below w0.heap.size w0 (w0.alloc (.cells #[.string ⟨x.name.toArray⟩] 9)) from (Below.refl _ _).alloc (Nat.le_refl _) _)
          have HSN := hid (jJ HS.out HBA.out)
          go_wp2_with (at_builtin; refine list_app_s rfl (.tmp 90) (.tmp 97) rfl (w.heap.size + 1) _ n2 rfl HSN.out _ rfl [x.name] (row_cell HE.out rfl rfl) (by have := HW5.out; simp; omega) (by have := HBA.out.size; omega) ?_)
          intro v8 w8 happ
          have HB8 := hid (happ.below HSN.out (HB.out.trans (HBA.out.mono HB.out.size)) (by have := HBA.out.size; omega) (by omega))
          have EP8 := hid (appd_ent happ HSN.out (jC EP.out HBA.out) (by decide))
          have ED8 := hid (appd_ent happ HSN.out (jC ED.out HBA.out) (by decide))
          have HO8 := hid (ownI_stays happ HSN.out (jJ HO.out HBA.out))
          obtain ⟨p8, q8, rfl⟩ := jF happ.1
          have HS8 := hid happ.1
          clear happ HO HS EP HB HSN HBA HE ED
          obtain ⟨n5, hn5⟩ : ∃ y, y = n2 ++ [x.name] := ⟨_, rfl⟩
          rw [← hn5] at HS8 HTM ⊢
          clear hn5 hs3 hs2 y3
          have y3 := jA ED8.out 3 _ rfl
          obtain ⟨z0, z1, z2⟩ := HCX.out w8 HB8.out
          go_wp2
          clear y3 z0 z1 z2
          go_loopw [3, 10] (fun o j wx => ∃ (t : Nat) (l : List Nat), j = .int .i64 t ∧ t ≤ x.fields.length ∧ Hid (l = lC ++ (x.fields.take t).flatMap (typW p.datas d.params 50)) ∧ Hid (OwnI wx (w.heap.size + 1) o l) ∧ Hid (OwnS wx (w.heap.size + 1) (.slice p8 n5.length q8) n5) ∧ Hid (wx.heap[w.heap.size]? = some (.cells #[.slice (some ⟨g, of, none⟩) p.datas.length c1, .slice q2 p.defs.length c2] 27 (0, 0))) ∧ Hid (wx.heap[gd]? = some (.cells #[.int .i64 d.pos, .string ⟨d.name.toArray⟩, .slice qp d.params.length cp, .slice (some ⟨gk, ofk, none⟩) d.cons.length ck] 44 (0, 0))) ∧ Hid (Below w.heap.size w wx)) (fun _ j _ => x.fields.length - (intOf j).toNat)
          case atStart => exact ⟨0, lC, rfl, Nat.zero_le _, hid (by simp), HO8, HS8, EP8, ED8, HB8⟩
          case round =>
           clear HO8 HS8 EP8 ED8 HB8
           obtain ⟨t, l6, rfl, ht, HM6, HO, HS, EP, ED, HB⟩ := hrel
           have hs3 := jK EP.out
           have hs4 := jK ED.out
           have y3 := jA ED.out 3 _ rfl
           obtain ⟨z0, z1, z2⟩ := HCX.out wr HB.out
           obtain ⟨vb, cvb, rfl⟩ := jF HO.out
           by_cases hlt6 : t < x.fields.length
           · obtain ⟨y, hy⟩ : ∃ y, x.fields[t]? = some y := ⟨_, List.getElem?_eq_getElem hlt6⟩
             rcases HFR.out with ⟨h0, _⟩ | ⟨g9, of9, c9, hv, g1, g2, g3⟩
             · rw [h0] at hlt6; simp at hlt6
             injection hv with hq1 _ hq2
             subst hq1; subst hq2
             obtain ⟨u, hu, _, hcell⟩ := g3 t y hy
             have HU := hid hu
             obtain ⟨a0, a1, uq, un, uc, rfl⟩ := typeAt_sh hu
             have HCY := hid (fun (w' : World) (h : Below w.heap.size w w') => (show w'.cell? ⟨g9, of9 + t * 3, none⟩ = some (.int .i64 a0) ∧ w'.cell? ⟨g9, of9 + t * 3 + 1, none⟩ = some (.string a1) ∧ w'.cell? ⟨g9, of9 + t * 3 + 2, none⟩ = some (.slice uq un uc) from ⟨jE h (hcell 0 _ rfl), jE h (hcell 1 _ rfl), jE h (hcell 2 _ rfl)⟩))
             have hi1 : (t : Int) < (x.fields.length : Int) := by omega
             have hi2 : (x.fields.length : Int) ≤ (cf : Int) := by omega
             have hi3 := g2
             have hst := Sx.sum_take (Sx.tyw 50) x.fields t y hy
             have HT := hid (flatN_take (typW p.datas d.params 50) x.fields t y hy)
             have HGY := hid (HGX.out y (List.mem_of_getElem? hy))
             have HLE := hid (show l6.length + (typW p.datas d.params 50 y).length ≤ 1000000000 ∧ Sx.tyw 50 y ≤ 400000 by
              rw [HM6.out, List.length_append]
              have h1 := flat_len (typW p.datas d.params 50) (Sx.tyw 50) (x.fields.take t) (fun x _ => typW_len p.datas d.params 50 x)
              have h2 := typW_len p.datas d.params 50 y
              have := HW5.out; have := HLC4.out; omega)
             clear g1 g2 g3 hcell hu hy hst
             go_wp2_with fail
             clear y3 z0 z1 z2
             refine wp_region_held_drew (S := fun (u : World) => u.heap[w.heap.size]? = some (.cells #[.slice (some ⟨g, of, none⟩) p.datas.length c1, .slice q2 p.defs.length c2] 27 (0, 0)) ∧ u.heap[gd]? = some (.cells #[.int .i64 d.pos, .string ⟨d.name.toArray⟩, .slice qp d.params.length cp, .slice (some ⟨gk, ofk, none⟩) d.cons.length ck] 44 (0, 0)) ∧ Below w.heap.size w u) (by kernel_rfl) (⟨EP.out, ED.out, HB.out.drew⟩) (fun jM => ?_)
             refine wT 0 (.slice vb l6.length cvb) rfl (Or.inl ⟨by rfl, fun w' hSw => by go_simp⟩) jM ?_
             refine wT 1 (.agg #[.slice (some ⟨g, of, none⟩) p.datas.length c1, .slice q2 p.defs.length c2]) rfl (Or.inl ⟨by rfl, fun w' hSw => by have h0 := jA hSw.1 0 _ rfl; have h1 := jA hSw.1 1 _ rfl; go_simp⟩) jM ?_
             refine wT 2 (.pointer (some ⟨gd, 3, none⟩)) rfl (Or.inl ⟨by rfl, fun w' hSw => by go_simp⟩) jM ?_
             refine wT 3 (.slice (some ⟨gk, ofk, none⟩) d.cons.length ck) rfl (Or.inl ⟨by rfl, fun w' hSw => by have h := jA hSw.2.1 3 _ rfl; go_simp⟩) jM ?_
             refine wT 4 (.int .i64 n) rfl (Or.inl ⟨by rfl, fun w' hSw => by go_simp⟩) jM ?_
             refine wT 5 (.pointer (some ⟨gk, ofk + n * 3, none⟩)) rfl (Or.inl ⟨by rfl, fun w' hSw => by go_simp⟩) jM ?_
             refine wT 6 (.pointer (some ⟨gk, ofk + n * 3 + 2, none⟩)) rfl (Or.inl ⟨by rfl, fun w' hSw => by go_simp⟩) jM ?_
             refine wT 7 (.slice (some ⟨g9, of9, none⟩) x.fields.length cf) rfl (Or.inl ⟨by rfl, fun w' hSw => by obtain ⟨x0, x1, x2⟩ := HCX.out w' hSw.2.2; go_simp⟩) jM ?_
             refine wT 8 (.int .i64 t) rfl (Or.inl ⟨by rfl, fun w' hSw => by go_simp⟩) jM ?_
             refine wT 9 (.pointer (some ⟨g9, of9 + t * 3, none⟩)) rfl (Or.inl ⟨by rfl, fun w' hSw => by go_simp⟩) jM ?_
             refine wT 10 (.agg #[.int .i64 a0, .string a1, .slice uq un uc]) rfl (Or.inl ⟨by rfl, fun w' hSw => by obtain ⟨x0, x1, x2⟩ := HCY.out w' hSw.2.2; go_simp⟩) jM ?_
             refine wT 11 (.pointer (some ⟨gd, 2, none⟩)) rfl (Or.inl ⟨by rfl, fun w' hSw => by go_simp⟩) jM ?_
             refine wT 12 (.slice qp d.params.length cp) rfl (Or.inl ⟨by rfl, fun w' hSw => by have h := jA hSw.2.1 2 _ rfl; go_simp⟩) jM ?_
             try simp only [Act.put, jX, jY, jZ, JA, JB, JC]
             refine wpAnyH_ready (rs := [13]) (by kernel_rfl) (by simp) ?_
             refine AllReadyH.cons rfl (fun K hK => ?_) AllReadyH.nil
             go_simp
             refine (reftyp_any p d.params 50 y _ _ _ wr.drew (jP HP.out HB.out.drew) HPW.out (typeAt_below HU.out HB.out.drew) (jQ HPR.out HB.out.drew) HGY.out HLE.out.2).mono ?_
             rintro e w5 ⟨v5, rfl, hb5, ho5⟩
             have HX5 := hid (show Below wr.heap.size wr w5 from undrew hb5)
             have HN5 := hid (ownI_row ho5)
             have HO5 := hid (jJ HO.out HX5.out)
             have HS5 := hid (jJ HS.out HX5.out)
             have EP5 := hid (jC EP.out HX5.out)
             have ED5 := hid (jC ED.out HX5.out)
             have HB5 := hid (HB.out.trans (HX5.out.mono HB.out.size))
             refine hK.out _ _ ⟨EP5.out, ED5.out, HB5.out⟩ (fun jM => ?_)
             clear hb5 ho5
             clear hK K
             refine wpAnyH_ready (rs := [14]) (by kernel_rfl) (by simp) ?_
             refine AllReadyH.cons rfl (fun K hK => ?_) AllReadyH.nil
             refine step_app_i rfl (.tmp 110) (.tmp 123) rfl (w.heap.size + 1) _ _ rfl HO5.out _ rfl _ HN5.out HLE.out.1 (by have := HX5.out.size; omega) ?_
             intro v6 w6 ha6
             obtain ⟨p6, q6, rfl⟩ := jF ha6.1
             have HB6 := hid (ha6.below HO5.out HB5.out (by have := HX5.out.size; omega) (by omega))
             have EP6 := hid (appd_ent ha6 HO5.out EP5.out (by decide))
             have ED6 := hid (appd_ent ha6 HO5.out ED5.out (by decide))
             have HS6 := hid (ownS_stays ha6 HO5.out HS5.out)
             have HO6 := hid ha6.1
             have HT6 : Hid (l6 ++ typW p.datas d.params 50 y = lC ++ (x.fields.take (t + 1)).flatMap (typW p.datas d.params 50)) := hid (by rw [HT.out, HM6.out, List.append_assoc])
             obtain ⟨l7, hl7⟩ : ∃ l7, l7 = l6 ++ typW p.datas d.params 50 y := ⟨_, rfl⟩
             rw [← hl7] at HO6 HT6 ⊢
             clear hl7 ha6
             refine hK.out _ _ ⟨EP6.out, ED6.out, HB6.out⟩ (fun jM => ?_)
             clear hK K
             refine wT 15 (.slice p6 l7.length q6) rfl (Or.inl ⟨by rfl, fun w' hSw => by go_simp⟩) jM ?_
             simp only [Act.put, jX, jY, jZ, JA, JB, JC]
             refine wpAnyH_done (by kernel_rfl) ?_ _
             go_wp2_with fail
             go_roundw
             case rel => exact ⟨t + 1, l7, by go_num, by omega, HT6, HO6, HS6, EP6, ED6, HB6⟩
             case measure => simp [intOf]; omega
           · obtain rfl : t = x.fields.length := by omega
             have HZ := hid (show l6 = lB ++ consW p.datas d.params ns (d.cons.take (n + 1)) by rw [HTC.out, HM6.out, List.take_length, HLC.out, HM3.out, HTB.out]; simp [List.append_assoc])
             go_wp2_with fail
             go_roundw
             case rel => exact ⟨n + 1, l6, n5, by go_num, by omega, HZ, HTM, HO, HS, EP, ED, HB⟩
             case measure => simp [intOf]; omega
        · obtain rfl : n = d.cons.length := by omega
          have HZ := hid (show l3 = lA ++ datasW p.datas consL (p.datas.take (m + 1)) by rw [HTK.out, HM3.out, List.take_length, HLB.out, HN.out]; simp [List.append_assoc])
          have HZN := hid (show n2 = consL ++ consNames (p.datas.take (m + 1)) by rw [HN3.out, List.take_length, HTN.out, HN.out, List.append_assoc])
          go_wp2_with fail
          go_roundw
          case rel => exact ⟨m + 1, l3, n2, by go_num, by omega, HZ, HZN, HO, HS, EP, HB⟩
          case measure => simp [intOf]; omega
     · obtain rfl : m = p.datas.length := by omega
       have HF := hid (show l = wrongDatas p by rw [wrongDatas, HM.out, List.take_length, HLA.out])
       go_wp2_with fail
       go_ret
       rw [← HF.out]
       exact ⟨_, rfl, HB.out, ownI_base HO.out (by omega)⟩
end Go.Proofs.Ytgoacbomphlhjaa
