import Derived.Test.YtlnjdclmopblcaaDoorI22
set_option linter.unusedVariables false
set_option linter.unusedSimpArgs false
set_option maxHeartbeats 40000000
set_option maxRecDepth 100000
namespace Go.Proofs.YtlnjdclmopblcaaDoor
open Go Go.RowKit
open Go.Lib (hid)
theorem Qk {α : Type} {enc : α -> Value} {E : TypeId} {w w' : World} {b : Nat} {v v' : Value} {l l0 : List α} (h : uP enc E w b v l v' w') (ho : w.ownsRow b E 1 v l0.length (l0.map enc)) {g : Nat} {cs : Array Value} {T : TypeId} {fr : Nat × Nat} (he : w.heap[g]? = some (.cells cs T fr)) (hT : T ≠ E) : w'.heap[g]? = some (.cells cs T fr) := by
 refine (h.2.1.block g (ji he) (fun e => ?_)).trans he
 rcases ho.2 with ⟨rfl, _⟩ | ⟨g', cap, cur, rfl, _, hg, _⟩
 . simp [Value.ownBlock] at e
 . simp only [Value.ownBlock, Jn] at e; subst e; rw [he] at hg; simp only [Jn, kI] at hg; exact hT hg.2.1
theorem uZ {w w' : World} {b b' : Nat} {v v' iv : Value} {l l0 : List Nm} {li : List Nat} (h : uP encS 9 w b v l v' w') (ho : QW w b v l0) (hi : zW w b' iv li) : zW w' b' iv li :=
 Qp hi fun g hg => h.2.1.block g (hi.lt g hg).2 (fun e => yO ho hi (by decide) g e.symm hg)
theorem GR (s : Nm) (p : Nat) : ∀ (l : List (Nm × Nat)) (seen : List Nm), YO seen (l ++ [(s, p)]) = YO seen l ++ one (Qi (seen ++ l.map (·.1)) s) p
 | [], seen => by simp [YO]
 | (t, q) :: r, seen => by rw [JQ, YO, YO, GR s p r]; simp [jg]
theorem GU {α : Type} (nm : α -> Nm) (ps : α -> Nat) {l : List α} {k : Nat} {x : α} (h : l[k]? = some x) (seen : List Nm) : YO seen ((l.take (k + 1)).map fun d => (nm d, ps d)) = YO seen ((l.take k).map fun d => (nm d, ps d)) ++ one (Qi (seen ++ (l.take k).map nm) (nm x)) (ps x) := by
 rw [JC, h, zM, QN, je, zO, GR, List.map_map]; rfl
theorem UU : ∀ (l : List (Nm × Nat)) (seen : List Nm), (YO seen l).length <= l.length
 | [], seen => by simp [YO]
 | (t, q) :: r, seen => by rw [YO, jE, JG]; have := ZE (Qi seen t) q; have := UU r (seen ++ [t]); omega
theorem Xe (ds : List Px.Data) (ps : List Nm) (c : Px.dJ) : ∀ (l : List Px.dJ) (seen : List Nm), yV ds ps seen (l ++ [c]) = yV ds ps seen l ++ (one (Qi (seen ++ l.map (·.name)) c.name) c.pos ++ c.fields.flatMap (Zl ds ps 50))
 | [], seen => by simp [yV]
 | x :: r, seen => by rw [JQ, yV, yV, Xe ds ps c r]; simp [jg]
theorem Ef (ds : List Px.Data) (ps : List Nm) {l : List Px.dJ} {k : Nat} {c : Px.dJ} (h : l[k]? = some c) (seen : List Nm) : yV ds ps seen (l.take (k + 1)) = yV ds ps seen (l.take k) ++ (one (Qi (seen ++ (l.take k).map (·.name)) c.name) c.pos ++ c.fields.flatMap (Zl ds ps 50)) := by
 rw [JC, h, zM, Xe]
theorem kD (ds : List Px.Data) (ps : List Nm) : ∀ (l : List Px.dJ) (seen : List Nm), (yV ds ps seen l).length <= (l.map Sx.cw).sum
 | [], seen => by simp [yV]
 | x :: r, seen => by
   rw [yV, jE, jE, je, jy]; have h1 := ZE (Qi seen x.name) x.pos; have h2 := kD ds ps r (seen ++ [x.name]); have h3 := ZO (Zl ds ps 50) (Sx.KS 50) x.fields (fun t _ => Y2 ds ps 50 t); have h4 : Sx.cw x = 1 + x.name.length + (x.fields.map (Sx.KS 50)).sum := rfl; omega
theorem KD (ds : List Px.Data) (d : Px.Data) : ∀ (l : List Px.Data) (seen : List Nm), ZK ds seen (l ++ [d]) = ZK ds seen l ++ (one (Qr d.params) d.pos ++ yV ds d.params (seen ++ QM l) d.cons)
 | [], seen => by simp [ZK, QM]
 | x :: r, seen => by rw [JQ, ZK, ZK, KD ds d r]; simp [QM, jg]
theorem Bw (ds : List Px.Data) {l : List Px.Data} {k : Nat} {d : Px.Data} (h : l[k]? = some d) (seen : List Nm) : ZK ds seen (l.take (k + 1)) = ZK ds seen (l.take k) ++ (one (Qr d.params) d.pos ++ yV ds d.params (seen ++ QM (l.take k)) d.cons) := by
 rw [JC, h, zM, KD]
theorem uf (ds : List Px.Data) : ∀ (l : List Px.Data) (seen : List Nm), (ZK ds seen l).length <= (l.map Sx.dw).sum
 | [], seen => by simp [ZK]
 | x :: r, seen => by
   rw [ZK, jE, jE, je, jy]; have h1 := ZE (Qr x.params) x.pos; have h2 := uf ds r (seen ++ x.cons.map (·.name)); have h3 := kD ds x.params x.cons seen; have h4 : Sx.dw x = 1 + x.name.length + nw x.params + (x.cons.map Sx.cw).sum := rfl; omega
theorem Xf {l : List Px.Data} {k : Nat} {d : Px.Data} (h : l[k]? = some d) : QM (l.take (k + 1)) = QM (l.take k) ++ d.cons.map (·.name) := by
 rw [JC, h, zM, QM, List.flatMap_append]; simp [QM]
theorem Bz (w : World) (l : List Nm) (b : Nat) (hb : b <= w.heap.size) (hl : l.length <= 100) : QW (w.alloc (.cells (l.map encS).toArray 9)) b (.slice (some ⟨w.heap.size, 0, none⟩) l.length l.length) l :=
 ⟨by simp, .inr ⟨w.heap.size, l.length, (l.map encS).toArray, rfl, hb, jb w _ _, jB _, by unfold maxLen; omega, by simp, QR (by simp)⟩⟩
theorem Lv (p : Px.Prog) (pv : Value) (w : World) (hp : ZZ 50 w pv p) (hpw : (p.jF.map Sx.dw).sum <= 400000) (ry : ∀ d ∈ p.jF, goodD d) :
 Calls Tryd.prog 28 #[pv] w (GJ w (zL p)) := by
 obtain ⟨q1, c1, q2, c2, rfl⟩ := Zk hp; have HP := hid hp; have GQ := hid hpw; have jAS := hid ry
 have HR : Hid (JO 4 (Uq 50 w) w (.slice q1 p.jF.length c1) p.jF) := hid (by
  obtain ⟨dv, fv, hpv, h1, h2⟩ := hp; simp only [Y5, Z0, zh, dE] at hpv; obtain ⟨rfl, rfl⟩ := hpv
  exact h1)
 have hdl : p.jF.length <= 400000 := jS (Sx.ZT Sx.dw _ (fun x _ => by unfold Sx.dw; omega)) hpw; clear hp hpw ry; go_enter Tryd.func28, Tryd.ntmps28; have Pp := hid (jb w #[.slice q1 p.jF.length c1, .slice q2 p.defs.length c2] 26); have HB0 := hid (show Below w.heap.size w (w.alloc (.cells #[.slice q1 p.jF.length c1, .slice q2 p.defs.length c2] 26)) from (jD _ _).alloc (jB _) _); go_upto_region 1 with fail
 obtain ⟨w1, hw1⟩ : ∃ x, x = w.alloc (.cells #[.slice q1 p.jF.length c1, .slice q2 p.defs.length c2] 26) := ⟨_, rfl⟩
 rw [<- hw1] at Pp HB0 ⊢; clear hw1; have hs0 := ji Pp; have EP := hid (JA Pp (.cells (ZJ.map encS).toArray 9)); have HB := aB HB0 EP; have HS : Hid (QW (w1.alloc (.cells (ZJ.map encS).toArray 9)) (w.heap.size + 1) (.slice (some ⟨w1.heap.size, 0, none⟩) 3 3) ZJ) := hid (Bz w1 ZJ _ (by omega) (by decide)); have HO := hid (Y0 (w1.alloc (.cells (ZJ.map encS).toArray 9)) (w.heap.size + 1)); go_upto_region 2 with fail
 go_cut [4] (fun o wx => Hid (QW wx (w.heap.size + 1) o ZJ) /\ Hid (zW wx (w.heap.size + 1) (.slice none 0 0) []) /\ Hid (wx.heap[w.heap.size]? = some (.cells #[.slice q1 p.jF.length c1, .slice q2 p.defs.length c2] 26 (0, 0))) /\ Hid (Below w.heap.size w wx))
 case first =>
  go_wp2_with fail
  go_meet
  exact ⟨HS, HO, EP, HB⟩
 case rest =>
 clear HS HO EP HB Pp HB0; obtain ⟨HS, HO, EP, HB⟩ := hcut; obtain ⟨pn, cn, rfl⟩ := jH HS; obtain ⟨w0, hw0⟩ : ∃ x, x = wc := ⟨wc, rfl⟩
 subst hw0; go_wp2_with fail
 go_loopw [3, 4, 5] (fun o nv j wx => ∃ (m : Nat) (l : List Nat) (ns : List Nm), j = .int .i64 m /\ m <= p.jF.length /\ Hid (l = YO ZJ ((p.jF.take m).map fun d => (d.name, d.pos))) /\ Hid (ns = ZJ ++ (p.jF.take m).map (·.name)) /\ Hid (zW wx (w.heap.size + 1) o l) /\ Hid (QW wx (w.heap.size + 1) nv ns) /\ Hid (wx.heap[w.heap.size]? = some (.cells #[.slice q1 p.jF.length c1, .slice q2 p.defs.length c2] 26 (0, 0))) /\ Hid (Below w.heap.size w wx)) (fun _ _ j _ => p.jF.length - (intOf j).toNat)
 case atStart => exact ⟨0, [], ZJ, rfl, jh _, hid rfl, hid (by simp), HO, HS, EP, HB⟩
 case round =>
  clear HO HS EP HB; obtain ⟨m, l, ns, rfl, hm, HM, HN, HO, HS, EP, HB⟩ := hrel; have hs1 := ji EP; have x0 := xK EP 0 rfl; obtain ⟨va, uI, rfl⟩ := jH HO; obtain ⟨vn, SC, rfl⟩ := jH HS; have hll : l.length <= 400000 := by rw [HM.out]; have := UU ((p.jF.take m).map fun d => (d.name, d.pos)) ZJ; rw [Jv, Jh] at this; omega
  have hnl : ns.length <= 400010 := by rw [HN.out, jE, Jv, Jh, show ZJ.length = 3 from rfl]; omega
  by_cases hlt : m < p.jF.length
  . obtain ⟨d, hd⟩ : ∃ x, p.jF[m]? = some x := ⟨_, jA hlt⟩
    rcases HR.out with ⟨h0, _⟩ | ⟨g, of, c', hv, g1, g2, g3⟩
    . rw [h0] at hlt; simp at hlt
    injection hv with hq1 _ hq2
    subst hq1; subst hq2
    obtain ⟨u, hu, _, hcell⟩ := g3 m d hd; obtain ⟨qp, cp, qk, ck, rfl, hpr, hcr⟩ := Vl hu; have gZ := hid hpr; have OL := hid hcr; have HD := hid hd
    have hk1 : (m : Int) < (p.jF.length : Int) := by omega
    have hk2 : (p.jF.length : Int) <= (c1 : Int) := by omega
    have hk3 := g2; have V4 := hid (fun (w' : World) (h : Below w.heap.size w w') => (show w'.cell? ⟨g, of + m * 4, none⟩ = some (.int .i64 d.pos) /\ w'.cell? ⟨g, of + m * 4 + 1, none⟩ = some (.string ⟨d.name.toArray⟩) /\ w'.cell? ⟨g, of + m * 4 + 2, none⟩ = some (.slice qp d.params.length cp) /\ w'.cell? ⟨g, of + m * 4 + 3, none⟩ = some (.slice qk d.cons.length ck) from ⟨jC h (hcell 0 _ rfl), jC h (hcell 1 _ rfl), jC h (hcell 2 _ rfl), jC h (hcell 3 _ rfl)⟩)); clear g1 g2 g3 hcell hu hpr hcr hd; have Lf := hid (GU (fun d : Px.Data => d.name) (fun d => d.pos) HD ZJ); have CG : Hid (ns ++ [d.name] = ZJ ++ (p.jF.take (m + 1)).map (·.name)) := hid (by rw [HN.out, JC, HD.out]; simp); obtain ⟨z0, z1, z2, z3⟩ := V4.out wr HB.out; go_wp2_with fail; clear z0 z1 z2 z3 x0; refine (Qf _ ns d.name wr (Qc HS)).mono ?_; rintro e w0 ⟨rfl, rfl⟩; obtain ⟨b, hb⟩ : ∃ b, Qi ns d.name = b := ⟨_, rfl⟩
    have HT2 := hid (show l ++ one b d.pos = YO ZJ ((p.jF.take (m + 1)).map fun d => (d.name, d.pos)) by rw [Lf.out, <- HN.out, hb, HM.out]); rw [hb]; clear hb
    go_upto_if 26 with fail
    go_cut [3] (fun o wx => Hid (zW wx (w.heap.size + 1) o (l ++ one b d.pos)) /\ Hid (QW wx (w.heap.size + 1) (.slice vn ns.length SC) ns) /\ Hid (wx.heap[w.heap.size]? = some (.cells #[.slice (some ⟨g, of, none⟩) p.jF.length c1, .slice q2 p.defs.length c2] 26 (0, 0))) /\ Hid (Below w.heap.size w wx))
    case first =>
     cases b with
     | true =>
       obtain ⟨z0, z1, z2, z3⟩ := V4.out w0 HB.out; have x0 := xK EP 0 rfl
       have HE := hid (jb w0 #[.int .i64 (d.pos : Int)] 3); have QO := hid (show Below w0.heap.size w0 (w0.alloc (.cells #[.int .i64 (d.pos : Int)] 3)) from (jD _ _).alloc (jB _) _); have Z8 := hid (jc HO QO); go_wp2_with (at_builtin; refine zK rfl (.tmp 27) (.tmp 34) rfl (w.heap.size + 1) _ l rfl Z8 _ rfl [d.pos] (QY HE rfl rfl) (by simp; omega) (by have := QO.out.size; omega) ?_); intro v7 w7 happ; have uJ := hid (happ.below Z8.out (HB.out.trans (QO.out.mono HB.out.size)) (by have := QO.out.size; omega) (by omega)); have Lu := hid (Qk happ Z8 (jM EP QO) (by decide)); have Ru := hid (zg happ Z8 (jc HS QO)); obtain ⟨p7, q7, rfl⟩ := jH happ.1; have Xl := hid happ.1; clear happ; go_wp2
       go_meet
       exact ⟨Xl, Ru, Lu, uJ⟩
     | false =>
       go_wp2_with fail
       go_meet
       exact ⟨hid (by rw [show one false d.pos = [] from rfl, Jl]; exact HO.out), HS, EP, HB⟩
    case rest =>
    clear EP HB HO HS; obtain ⟨HO, HS, EP, HB⟩ := hcut; obtain ⟨l2, hl2⟩ : ∃ x, x = l ++ one b d.pos := ⟨_, rfl⟩
    rw [<- hl2] at HO HT2; clear hl2; obtain ⟨pe, ce, rfl⟩ := jH HO; obtain ⟨w0, hw0⟩ : ∃ x, x = wc := ⟨wc, rfl⟩
    subst hw0; have hs2 := ji EP; obtain ⟨z0, z1, z2, z3⟩ := V4.out w0 HB.out; have x0 := xK EP 0 rfl
    have HE := hid (jb w0 #[.string ⟨d.name.toArray⟩] 9); have QO := hid (show Below w0.heap.size w0 (w0.alloc (.cells #[.string ⟨d.name.toArray⟩] 9)) from (jD _ _).alloc (jB _) _); have Wi := hid (jc HS QO); go_wp2_with (at_builtin; refine Qe rfl (.tmp 36) (.tmp 43) rfl (w.heap.size + 1) _ ns rfl Wi _ rfl [d.name] (QY HE rfl rfl) (by simp; omega) (by have := QO.out.size; omega) ?_); intro v8 w8 happ; have WI := hid (happ.below Wi.out (HB.out.trans (QO.out.mono HB.out.size)) (by have := QO.out.size; omega) (by omega)); have Cx := hid (Qk happ Wi (jM EP QO) (by decide)); have pg := hid (uZ happ Wi (jc HO QO)); obtain ⟨p8, q8, rfl⟩ := jH happ.1; have mJ := hid happ.1; clear happ HO HS EP HB Wi QO HE; obtain ⟨n2, hn2⟩ : ∃ x, x = ns ++ [d.name] := ⟨_, rfl⟩
    rw [<- hn2] at mJ CG ⊢; clear hn2; go_wp2
    go_roundw
    case rel => exact ⟨m + 1, l2, n2, by go_num, by omega, HT2, CG, pg, mJ, Cx, WI⟩
    case measure => simp [intOf]; omega
  . obtain rfl : m = p.jF.length := by omega
    obtain ⟨lA, hlA⟩ : ∃ x, x = l := ⟨l, rfl⟩
    have jAT := hid (show lA = YO ZJ (p.jF.map fun d => (d.name, d.pos)) by rw [hlA, HM.out, jY]); have jGN : lA.length <= 400000 := by rw [hlA]; exact hll
    have SE : Hid (l = lA ++ ZK p.jF Z7 (p.jF.take 0)) := hid (by rw [hlA]; simp [ZK]); clear hlA HM HN HS; obtain ⟨w0, hw0⟩ : ∃ x, x = wr := ⟨wr, rfl⟩
    subst hw0; have jAU := hid (JA EP (.cells (Z7.map encS).toArray 9)); have jD0 := aB HB jAU; have HSc : Hid (QW (w0.alloc (.cells (Z7.map encS).toArray 9)) (w.heap.size + 1) (.slice (some ⟨w0.heap.size, 0, none⟩) 2 2) Z7) := hid (Bz w0 Z7 _ (by omega) (by decide)); have jD1 := hid (jc HO ((jD _ w0).alloc (jB _) (.cells (Z7.map encS).toArray 9))); clear HO EP HB; go_upto_region 9 with fail
    clear x0
    go_cut [6] (fun o wx => Hid (QW wx (w.heap.size + 1) o Z7) /\ Hid (zW wx (w.heap.size + 1) (.slice va l.length uI) l) /\ Hid (wx.heap[w.heap.size]? = some (.cells #[.slice q1 p.jF.length c1, .slice q2 p.defs.length c2] 26 (0, 0))) /\ Hid (Below w.heap.size w wx))
    case first =>
     go_wp2_with fail
     go_meet
     exact ⟨HSc, jD1, jAU, jD0⟩
    case rest =>
    clear HSc jD1 jAU jD0; obtain ⟨HS, HO, EP, HB⟩ := hcut; obtain ⟨pm, cm, rfl⟩ := jH HS; obtain ⟨w0, hw0⟩ : ∃ x, x = wc := ⟨wc, rfl⟩
    subst hw0; go_wp2_with fail
    go_loopw [3, 6, 7] (fun o nv j wx => ∃ (m : Nat) (l : List Nat) (ns : List Nm), j = .int .i64 m /\ m <= p.jF.length /\ Hid (l = lA ++ ZK p.jF Z7 (p.jF.take m)) /\ Hid (ns = Z7 ++ QM (p.jF.take m)) /\ Hid (zW wx (w.heap.size + 1) o l) /\ Hid (QW wx (w.heap.size + 1) nv ns) /\ Hid (wx.heap[w.heap.size]? = some (.cells #[.slice q1 p.jF.length c1, .slice q2 p.defs.length c2] 26 (0, 0))) /\ Hid (Below w.heap.size w wx)) (fun _ _ j _ => p.jF.length - (intOf j).toNat)
    case atStart => exact ⟨0, l, Z7, rfl, jh _, SE, hid (by simp [QM]), HO, HS, EP, HB⟩
    case round =>
     clear HO HS EP HB SE hs1; obtain ⟨m, l, ns, rfl, hm, HM, HN, HO, HS, EP, HB⟩ := hrel; have hs1 := ji EP; have x0 := xK EP 0 rfl; obtain ⟨va, uI, rfl⟩ := jH HO; obtain ⟨vn, SC, rfl⟩ := jH HS; by_cases hlt : m < p.jF.length
     . obtain ⟨d, hd⟩ : ∃ x, p.jF[m]? = some x := ⟨_, jA hlt⟩
       rcases HR.out with ⟨h0, _⟩ | ⟨g, of, c', hv, g1, g2, g3⟩
       . rw [h0] at hlt; simp at hlt
       first | cases hv | (injection hv with hq1 _ hq2; subst hq1; subst hq2)
       obtain ⟨u, hu, _, hcell⟩ := g3 m d hd; obtain ⟨qp, cp, qk, ck, rfl, hpr, hcr⟩ := Vl hu; have gZ := hid hpr; have OL := hid hcr; have HD := hid hd
       have hk1 : (m : Int) < (p.jF.length : Int) := by omega
       have hk2 : (p.jF.length : Int) <= (c1 : Int) := by omega
       have hk3 := g2; have V4 := hid (fun (w' : World) (h : Below w.heap.size w w') => (show w'.cell? ⟨g, of + m * 4, none⟩ = some (.int .i64 d.pos) /\ w'.cell? ⟨g, of + m * 4 + 1, none⟩ = some (.string ⟨d.name.toArray⟩) /\ w'.cell? ⟨g, of + m * 4 + 2, none⟩ = some (.slice qp d.params.length cp) /\ w'.cell? ⟨g, of + m * 4 + 3, none⟩ = some (.slice qk d.cons.length ck) from ⟨jC h (hcell 0 _ rfl), jC h (hcell 1 _ rfl), jC h (hcell 2 _ rfl), jC h (hcell 3 _ rfl)⟩)); clear g1 g2 g3 hcell hu hpr hcr hd; have hst := Sx.QD Sx.dw p.jF m d HD.out; have hdd : Sx.dw d = 1 + d.name.length + nw d.params + (d.cons.map Sx.cw).sum := rfl
       have hl4 : l.length + Sx.dw d <= 800000 := by
        rw [HM.out, jE]; have := uf p.jF (p.jF.take m) Z7; have := GQ.out; omega
       have Tq : ns.length + Sx.dw d <= 400010 := by
        rw [HN.out, jE]; have := UE (p.jF.take m); have e2 : Z7.length = 2 := rfl; have := GQ.out; omega
       have mV := hid (show l.length + Sx.dw d <= 800000 /\ ns.length + Sx.dw d <= 400010 /\ nw d.params <= 400000 /\ (d.cons.map Sx.cw).sum + 1 <= Sx.dw d /\ Sx.dw d <= 400000 by have := GQ.out; omega); have Lf := hid (Bw p.jF HD Z7); have CG := hid (Xf HD); have HG := hid (jAS.out d (jI HD.out)); obtain ⟨z0, z1, z2, z3⟩ := V4.out wr HB.out; have Eg := hid ((jD _ wr).alloc (jB _) (.cells #[.int .i64 d.pos, .string ⟨d.name.toArray⟩, .slice qp d.params.length cp, .slice qk d.cons.length ck] 56)); have L6 := hid (jb wr #[.int .i64 d.pos, .string ⟨d.name.toArray⟩, .slice qp d.params.length cp, .slice qk d.cons.length ck] 56); have VP := hid (jc HO Eg); have V5 := hid (jc HS Eg); have Rv := hid (jM EP Eg); have HB1 := hid (HB.out.trans (Eg.out.mono HB.out.size)); clear HO HS EP HB hst hdd hl4 Tq; have hpl : d.params.length <= 400000 := by have := qC d.params; have := mV.out; omega
       have y2 := xK L6 2 rfl; go_wp2_with fail; clear y2 z0 z1 z2 z3 x0; obtain ⟨gd, hgd⟩ : ∃ g, wr.heap.size = g := ⟨_, rfl⟩
       rw [hgd] at L6 ⊢; clear hgd; obtain ⟨wA, Bp⟩ : ∃ x, x = wr.alloc (.cells #[.int .i64 d.pos, .string ⟨d.name.toArray⟩, .slice qp d.params.length cp, .slice qk d.cons.length ck] 56) := ⟨_, rfl⟩
       rw [<- Bp] at L6 VP V5 Rv HB1 ⊢; clear Bp Eg; refine (Y1 _ d.params wA (JM gZ HB1) hpl).mono ?_; rintro e w0 ⟨rfl, hb4⟩; have ED := bE L6 hb4; have EP := bE Rv hb4; have HB := bT HB1 hb4; have HO := hid (jc VP hb4); have HS := hid (jc V5 hb4); have hs2 := ji EP; clear hb4 L6 VP V5 Rv HB1; obtain ⟨b, hb⟩ : ∃ b, Qr d.params = b := ⟨_, rfl⟩
       rw [hb]
       go_upto_if 60 with fail
       go_cut [3] (fun o wx => Hid (zW wx (w.heap.size + 1) o (l ++ one b d.pos)) /\ Hid (QW wx (w.heap.size + 1) (.slice vn ns.length SC) ns) /\ Hid (wx.heap[w.heap.size]? = some (.cells #[.slice (some ⟨g, of, none⟩) p.jF.length c1, .slice q2 p.defs.length c2] 26 (0, 0))) /\ Hid (wx.heap[gd]? = some (.cells #[.int .i64 d.pos, .string ⟨d.name.toArray⟩, .slice qp d.params.length cp, .slice qk d.cons.length ck] 56 (0, 0))) /\ Hid (Below w.heap.size w wx))
       case first =>
        cases b with
        | true =>
          have y0 := xK ED 0 rfl; have HE := hid (jb w0 #[.int .i64 (d.pos : Int)] 3); have QO := hid (show Below w0.heap.size w0 (w0.alloc (.cells #[.int .i64 (d.pos : Int)] 3)) from (jD _ _).alloc (jB _) _); have Z8 := hid (jc HO QO); go_wp2_with (at_builtin; refine zK rfl (.tmp 61) (.tmp 64) rfl (w.heap.size + 1) _ l rfl Z8 _ rfl [d.pos] (QY HE rfl rfl) (by have := mV.out; simp; omega) (by have := QO.out.size; omega) ?_); intro v7 w7 happ; have uJ := hid (happ.below Z8.out (HB.out.trans (QO.out.mono HB.out.size)) (by have := QO.out.size; omega) (by omega)); have Lu := hid (Qk happ Z8 (jM EP QO) (by decide)); have oQ := hid (Qk happ Z8 (jM ED QO) (by decide)); have Ru := hid (zg happ Z8 (jc HS QO)); obtain ⟨p7, q7, rfl⟩ := jH happ.1; have Xl := hid happ.1; clear happ; go_wp2
          go_meet
          exact ⟨Xl, Ru, Lu, oQ, uJ⟩
        | false =>
          go_wp2_with fail
          go_meet
          exact ⟨hid (by rw [show one false d.pos = [] from rfl, Jl]; exact HO.out), HS, EP, ED, HB⟩
       case rest =>
       clear EP HB HO HS ED; obtain ⟨HO, HS, EP, ED, HB⟩ := hcut; obtain ⟨lB, hlB⟩ : ∃ x, x = l ++ one b d.pos := ⟨_, rfl⟩
       have Sz := hid (show lB = (lA ++ ZK p.jF Z7 (p.jF.take m)) ++ one (Qr d.params) d.pos by rw [hlB, hb, HM.out]); have CJ := hid (show lB.length <= l.length + 1 by rw [hlB, jE]; have := ZE b d.pos; omega); rw [<- hlB] at HO; clear hlB hb; obtain ⟨pe, ce, rfl⟩ := jH HO; obtain ⟨w0, hw0⟩ : ∃ x, x = wc := ⟨wc, rfl⟩
       subst hw0; have hcl : d.cons.length <= 400000 := by have := Ke d; have := mV.out; omega
       clear hs2; go_wp2_with fail
       go_loopw [3, 6, 9] (fun o nv j wx => ∃ (n : Nat) (l : List Nat) (n2 : List Nm), j = .int .i64 n /\ n <= d.cons.length /\ Hid (l = lB ++ yV p.jF d.params ns (d.cons.take n)) /\ Hid (n2 = ns ++ (d.cons.take n).map (·.name)) /\ Hid (zW wx (w.heap.size + 1) o l) /\ Hid (QW wx (w.heap.size + 1) nv n2) /\ Hid (wx.heap[w.heap.size]? = some (.cells #[.slice (some ⟨g, of, none⟩) p.jF.length c1, .slice q2 p.defs.length c2] 26 (0, 0))) /\ Hid (wx.heap[gd]? = some (.cells #[.int .i64 d.pos, .string ⟨d.name.toArray⟩, .slice qp d.params.length cp, .slice qk d.cons.length ck] 56 (0, 0))) /\ Hid (Below w.heap.size w wx)) (fun _ _ j _ => d.cons.length - (intOf j).toNat)
       case atStart => exact ⟨0, lB, ns, rfl, jh _, hid (by simp [yV]), hid (by simp), HO, HS, EP, ED, HB⟩
       case round =>
        clear HO HS EP HB ED; obtain ⟨n, l3, n2, rfl, hn, CK, si, HO, HS, EP, ED, HB⟩ := hrel; have hs2 := ji EP; have y3 := xK ED 3 rfl; obtain ⟨vb, jD2, rfl⟩ := jH HO; obtain ⟨vm, jGO, rfl⟩ := jH HS; by_cases hlt3 : n < d.cons.length
        . obtain ⟨x, hx⟩ : ∃ x, d.cons[n]? = some x := ⟨_, jA hlt3⟩
          rcases OL.out with ⟨h0, _⟩ | ⟨gk, Rw, c', hv, g1, g2, g3⟩
          . rw [h0] at hlt3; simp at hlt3
          injection hv with hq1 _ hq2
          subst hq1; subst hq2
          obtain ⟨u, hu, _, hcell⟩ := g3 n x hx; obtain ⟨qf, cf, rfl, hfr⟩ := bR hu; have jAB := hid hfr; have jJ2 := hid hx
          have hj1 : (n : Int) < (d.cons.length : Int) := by omega
          have hj2 : (d.cons.length : Int) <= (ck : Int) := by omega
          have jBO := g2; have Cy := hid (fun (w' : World) (h : Below w.heap.size w w') => (show w'.cell? ⟨gk, Rw + n * 3, none⟩ = some (.int .i64 x.pos) /\ w'.cell? ⟨gk, Rw + n * 3 + 1, none⟩ = some (.string ⟨x.name.toArray⟩) /\ w'.cell? ⟨gk, Rw + n * 3 + 2, none⟩ = some (.slice qf x.fields.length cf) from ⟨jC h (hcell 0 _ rfl), jC h (hcell 1 _ rfl), jC h (hcell 2 _ rfl)⟩)); have hst := Sx.QD Sx.cw d.cons n x hx; have hcc : Sx.cw x = 1 + x.name.length + (x.fields.map (Sx.KS 50)).sum := rfl
          have hl4 : l3.length + Sx.cw x <= 800010 := by
           rw [CK.out, jE]; have := kD p.jF d.params (d.cons.take n) ns; have := mV.out; have := CJ.out; omega
          have Tq : n2.length <= 800010 := by rw [si.out, jE, Jv, Jh]; have := Ke d; have := mV.out; omega
          have Ob := hid (show l3.length + Sx.cw x <= 800010 /\ n2.length <= 800010 /\ (x.fields.map (Sx.KS 50)).sum + 1 <= Sx.cw x /\ Sx.cw x <= 400000 by have := mV.out; omega); have jAG := hid (Ef p.jF d.params hx ns); have jD3 : Hid (n2 ++ [x.name] = ns ++ (d.cons.take (n + 1)).map (·.name)) := hid (by rw [si.out, JC, hx]; simp); have jGP := hid (HG.out.2.2 x (jI hx)); have hfl : x.fields.length <= 400000 := by have := Bv hfr; have := Ob.out; omega
          clear g1 g2 g3 hcell hu hfr hx hst hcc hl4 Tq; obtain ⟨z0, z1, z2⟩ := Cy.out wr HB.out; go_wp2_with fail; clear z0 z1 z2 y3; refine (Qf _ n2 x.name wr (Qc HS)).mono ?_; rintro e w0 ⟨rfl, rfl⟩; obtain ⟨b, hb⟩ : ∃ b, Qi n2 x.name = b := ⟨_, rfl⟩
          have jGQ := hid (show one (Qi (ns ++ (d.cons.take n).map (·.name)) x.name) x.pos = one b x.pos by rw [<- si.out, hb]); rw [hb]; clear hb
          go_upto_if 80 with fail
          go_cut [3] (fun o wx => Hid (zW wx (w.heap.size + 1) o (l3 ++ one b x.pos)) /\ Hid (QW wx (w.heap.size + 1) (.slice vm n2.length jGO) n2) /\ Hid (wx.heap[w.heap.size]? = some (.cells #[.slice (some ⟨g, of, none⟩) p.jF.length c1, .slice q2 p.defs.length c2] 26 (0, 0))) /\ Hid (wx.heap[gd]? = some (.cells #[.int .i64 d.pos, .string ⟨d.name.toArray⟩, .slice qp d.params.length cp, .slice (some ⟨gk, Rw, none⟩) d.cons.length ck] 56 (0, 0))) /\ Hid (Below w.heap.size w wx))
          case first =>
           cases b with
           | true =>
             obtain ⟨z0, z1, z2⟩ := Cy.out w0 HB.out; have y3 := xK ED 3 rfl
             have HE := hid (jb w0 #[.int .i64 (x.pos : Int)] 3); have QO := hid (show Below w0.heap.size w0 (w0.alloc (.cells #[.int .i64 (x.pos : Int)] 3)) from (jD _ _).alloc (jB _) _); have Z8 := hid (jc HO QO); go_wp2_with (at_builtin; refine zK rfl (.tmp 81) (.tmp 88) rfl (w.heap.size + 1) _ l3 rfl Z8 _ rfl [x.pos] (QY HE rfl rfl) (by have := Ob.out; simp; omega) (by have := QO.out.size; omega) ?_); intro v7 w7 happ; have uJ := hid (happ.below Z8.out (HB.out.trans (QO.out.mono HB.out.size)) (by have := QO.out.size; omega) (by omega)); have Lu := hid (Qk happ Z8 (jM EP QO) (by decide)); have oQ := hid (Qk happ Z8 (jM ED QO) (by decide)); have Ru := hid (zg happ Z8 (jc HS QO)); obtain ⟨p7, q7, rfl⟩ := jH happ.1; have Xl := hid happ.1; clear happ; go_wp2
             go_meet
             exact ⟨Xl, Ru, Lu, oQ, uJ⟩
           | false =>
             go_wp2_with fail
             go_meet
             exact ⟨hid (by rw [show one false x.pos = [] from rfl, Jl]; exact HO.out), HS, EP, ED, HB⟩
          case rest =>
          clear EP HB HO HS ED; obtain ⟨HO, HS, EP, ED, HB⟩ := hcut; obtain ⟨lC, Oc⟩ : ∃ y, y = l3 ++ one b x.pos := ⟨_, rfl⟩
          have jAV := hid (show lC.length <= l3.length + 1 by rw [Oc, jE]; have := ZE b x.pos; omega); have jGR := hid (show lC = l3 ++ one b x.pos from Oc); rw [<- Oc] at HO; clear Oc; obtain ⟨pe, ce, rfl⟩ := jH HO; obtain ⟨w0, hw0⟩ : ∃ x, x = wc := ⟨wc, rfl⟩
          subst hw0; have hs3 := ji EP; obtain ⟨z0, z1, z2⟩ := Cy.out w0 HB.out; have y3 := xK ED 3 rfl
          have HE := hid (jb w0 #[.string ⟨x.name.toArray⟩] 9); have QO := hid (show Below w0.heap.size w0 (w0.alloc (.cells #[.string ⟨x.name.toArray⟩] 9)) from (jD _ _).alloc (jB _) _); have Wi := hid (jc HS QO); go_wp2_with (at_builtin; refine Qe rfl (.tmp 90) (.tmp 97) rfl (w.heap.size + 1) _ n2 rfl Wi _ rfl [x.name] (QY HE rfl rfl) (by have := Ob.out; simp; omega) (by have := QO.out.size; omega) ?_); intro v8 w8 happ; have WI := hid (happ.below Wi.out (HB.out.trans (QO.out.mono HB.out.size)) (by have := QO.out.size; omega) (by omega)); have Cx := hid (Qk happ Wi (jM EP QO) (by decide)); have jAW := hid (Qk happ Wi (jM ED QO) (by decide)); have pg := hid (uZ happ Wi (jc HO QO)); obtain ⟨p8, q8, rfl⟩ := jH happ.1; have mJ := hid happ.1; clear happ HO HS EP HB Wi QO HE ED; obtain ⟨n5, Cu⟩ : ∃ y, y = n2 ++ [x.name] := ⟨_, rfl⟩
          rw [<- Cu] at mJ jD3 ⊢; clear Cu hs3 hs2 y3; have y3 := xK jAW 3 rfl; obtain ⟨z0, z1, z2⟩ := Cy.out w8 WI.out; go_wp2; clear y3 z0 z1 z2
          go_loopw [3, 10] (fun o j wx => ∃ (t : Nat) (l : List Nat), j = .int .i64 t /\ t <= x.fields.length /\ Hid (l = lC ++ (x.fields.take t).flatMap (Zl p.jF d.params 50)) /\ Hid (zW wx (w.heap.size + 1) o l) /\ Hid (QW wx (w.heap.size + 1) (.slice p8 n5.length q8) n5) /\ Hid (wx.heap[w.heap.size]? = some (.cells #[.slice (some ⟨g, of, none⟩) p.jF.length c1, .slice q2 p.defs.length c2] 26 (0, 0))) /\ Hid (wx.heap[gd]? = some (.cells #[.int .i64 d.pos, .string ⟨d.name.toArray⟩, .slice qp d.params.length cp, .slice (some ⟨gk, Rw, none⟩) d.cons.length ck] 56 (0, 0))) /\ Hid (Below w.heap.size w wx)) (fun _ j _ => x.fields.length - (intOf j).toNat)
          case atStart => exact ⟨0, lC, rfl, jh _, hid (by simp), pg, mJ, Cx, jAW, WI⟩
          case round =>
           clear pg mJ Cx jAW WI; obtain ⟨t, l6, rfl, ht, jAX, HO, HS, EP, ED, HB⟩ := hrel; have hs3 := ji EP; have hs4 := ji ED; have y3 := xK ED 3 rfl; obtain ⟨z0, z1, z2⟩ := Cy.out wr HB.out; obtain ⟨vb, jD2, rfl⟩ := jH HO; by_cases CL : t < x.fields.length
           . obtain ⟨y, hy⟩ : ∃ y, x.fields[t]? = some y := ⟨_, jA CL⟩
             rcases jAB.out with ⟨h0, _⟩ | ⟨g9, oU, c9, hv, g1, g2, g3⟩
             . rw [h0] at CL; simp at CL
             injection hv with hq1 _ hq2
             subst hq1; subst hq2
             obtain ⟨u, hu, _, hcell⟩ := g3 t y hy; have HU := hid hu; obtain ⟨a0, a1, uq, un, uc, rfl⟩ := gu hu; have jGS := hid (fun (w' : World) (h : Below w.heap.size w w') => (show w'.cell? ⟨g9, oU + t * 3, none⟩ = some (.int .i64 a0) /\ w'.cell? ⟨g9, oU + t * 3 + 1, none⟩ = some (.string a1) /\ w'.cell? ⟨g9, oU + t * 3 + 2, none⟩ = some (.slice uq un uc) from ⟨jC h (hcell 0 _ rfl), jC h (hcell 1 _ rfl), jC h (hcell 2 _ rfl)⟩)); have hi1 : (t : Int) < (x.fields.length : Int) := by omega
             have hi2 : (x.fields.length : Int) <= (cf : Int) := by omega
             have hi3 := g2; have hst := Sx.QD (Sx.KS 50) x.fields t y hy; have HT := hid (YT (Zl p.jF d.params 50) x.fields t y hy); have jAF := hid (jGP.out y (jI hy))
             have Yn := hid (show l6.length + (Zl p.jF d.params 50 y).length <= 1000000000 /\ Sx.KS 50 y <= 400000 by
              rw [jAX.out, jE]; have h1 := ZO (Zl p.jF d.params 50) (Sx.KS 50) (x.fields.take t) (fun x _ => Y2 p.jF d.params 50 x); have h2 := Y2 p.jF d.params 50 y
              have := Ob.out; have := jAV.out; omega)
             clear g1 g2 g3 hcell hu hy hst; go_wp2_with fail; clear y3 z0 z1 z2; refine jU (S := fun (u : World) => u.heap[w.heap.size]? = some (.cells #[.slice (some ⟨g, of, none⟩) p.jF.length c1, .slice q2 p.defs.length c2] 26 (0, 0)) /\ u.heap[gd]? = some (.cells #[.int .i64 d.pos, .string ⟨d.name.toArray⟩, .slice qp d.params.length cp, .slice (some ⟨gk, Rw, none⟩) d.cons.length ck] 56 (0, 0)) /\ Below w.heap.size w u) (by kernel_rfl) (⟨EP.out, ED.out, HB.out.drew⟩) (fun hHeld => ?_); refine wS 0 (.slice vb l6.length jD2) rfl hHeld ?_; refine wT 1 (.agg #[.slice (some ⟨g, of, none⟩) p.jF.length c1, .slice q2 p.defs.length c2]) rfl (Or.inl ⟨by rfl, fun w' hSw => by have h0 := jK hSw.1 0 _ rfl; have h1 := jK hSw.1 1 _ rfl; go_simp⟩) hHeld ?_; refine wS 2 (.pointer (some ⟨gd, 3, none⟩)) rfl hHeld ?_; refine wT 3 (.slice (some ⟨gk, Rw, none⟩) d.cons.length ck) rfl (Or.inl ⟨by rfl, fun w' hSw => by have h := jK hSw.2.1 3 _ rfl; go_simp⟩) hHeld ?_; refine wS 4 (.int .i64 n) rfl hHeld ?_; refine wS 5 (.pointer (some ⟨gk, Rw + n * 3, none⟩)) rfl hHeld ?_; refine wS 6 (.pointer (some ⟨gk, Rw + n * 3 + 2, none⟩)) rfl hHeld ?_; refine wT 7 (.slice (some ⟨g9, oU, none⟩) x.fields.length cf) rfl (Or.inl ⟨by rfl, fun w' hSw => by obtain ⟨x0, x1, x2⟩ := Cy.out w' hSw.2.2; go_simp⟩) hHeld ?_; refine wS 8 (.int .i64 t) rfl hHeld ?_; refine wS 9 (.pointer (some ⟨g9, oU + t * 3, none⟩)) rfl hHeld ?_; refine wT 10 (.agg #[.int .i64 a0, .string a1, .slice uq un uc]) rfl (Or.inl ⟨by rfl, fun w' hSw => by obtain ⟨x0, x1, x2⟩ := jGS.out w' hSw.2.2; go_simp⟩) hHeld ?_; refine wS 11 (.pointer (some ⟨gd, 2, none⟩)) rfl hHeld ?_; refine wT 12 (.slice qp d.params.length cp) rfl (Or.inl ⟨by rfl, fun w' hSw => by have h := jK hSw.2.1 2 _ rfl; go_simp⟩) hHeld ?_
             try simp only [aP]
             refine wR 13 rfl (fun K hK => ?_); go_simp; refine (Xb p d.params 50 y _ _ _ wr.drew (qz HP HB.out.drew) GQ (vG HU HB.out.drew) (JM gZ HB.out.drew) jAF Yn.out.2).mono ?_; rintro e w5 ⟨v5, rfl, hb5, UR⟩; have KU := hid (show Below wr.heap.size wr w5 from Y9 hb5); have EM := hid (YR UR); have yM := hid (jc HO KU); have Co := hid (jc HS KU); have dM := hid (jM EP KU); have oV := hid (jM ED KU); have zy := hid (HB.out.trans (KU.out.mono HB.out.size)); refine hK.out _ _ ⟨dM.out, oV.out, zy.out⟩ (fun hHeld => ?_); clear hb5 UR; clear hK K; refine wR 14 rfl (fun K hK => ?_); refine ZI rfl (.tmp 110) (.tmp 123) rfl (w.heap.size + 1) _ _ rfl yM _ rfl _ EM Yn.out.1 (by have := KU.out.size; omega) ?_; intro v6 w6 Z9; obtain ⟨p6, q6, rfl⟩ := jH Z9.1; have vD := hid (Z9.below yM.out zy.out (by have := KU.out.size; omega) (by omega)); have Ed := hid (Qk Z9 yM dM (by decide)); have Od := hid (Qk Z9 yM oV (by decide)); have jAY := hid (zg Z9 yM Co); have uD := hid Z9.1; have Bq : Hid (l6 ++ Zl p.jF d.params 50 y = lC ++ (x.fields.take (t + 1)).flatMap (Zl p.jF d.params 50)) := hid (by rw [HT.out, jAX.out, jg]); obtain ⟨l7, oW⟩ : ∃ l7, l7 = l6 ++ Zl p.jF d.params 50 y := ⟨_, rfl⟩
             rw [<- oW] at uD Bq ⊢; clear oW Z9; refine hK.out _ _ ⟨Ed.out, Od.out, vD.out⟩ (fun hHeld => ?_); clear hK K; refine wS 15 (.slice p6 l7.length q6) rfl hHeld ?_; simp only [aP]; refine wD ?_; go_wp2_with fail
             go_roundw
             case rel => exact ⟨t + 1, l7, by go_num, by omega, Bq, uD, jAY, Ed, Od, vD⟩
             case measure => simp [intOf]; omega
           . obtain rfl : t = x.fields.length := by omega
             have HZ := hid (show l6 = lB ++ yV p.jF d.params ns (d.cons.take (n + 1)) by rw [jAG.out, jAX.out, jY, jGR.out, CK.out, jGQ.out]; simp [jg]); go_wp2_with fail
             go_roundw
             case rel => exact ⟨n + 1, l6, n5, by go_num, by omega, HZ, jD3, HO, HS, EP, ED, HB⟩
             case measure => simp [intOf]; omega
        . obtain rfl : n = d.cons.length := by omega
          have HZ := hid (show l3 = lA ++ ZK p.jF Z7 (p.jF.take (m + 1)) by rw [Lf.out, CK.out, jY, Sz.out, HN.out]; simp [jg]); have jGT := hid (show n2 = Z7 ++ QM (p.jF.take (m + 1)) by rw [si.out, jY, CG.out, HN.out, jg]); go_wp2_with fail
          go_roundw
          case rel => exact ⟨m + 1, l3, n2, by go_num, by omega, HZ, jGT, HO, HS, EP, HB⟩
          case measure => simp [intOf]; omega
     . obtain rfl : m = p.jF.length := by omega
       have HF := hid (show l = zL p by rw [zL, HM.out, jY, jAT.out]); go_wp2_with fail; go_ret; rw [<- HF.out]; exact ⟨_, rfl, HB.out, zx HO (by omega)⟩
theorem ug : ∀ (l : List Px.Def) (k : Nat), (∀ x ∈ l.take k, x.name ≠ fE) -> kV l = kV (l.drop k)
 | [], k, _ => by simp
 | d :: r, 0, _ => rfl
 | d :: r, k + 1, h => by
   rw [kV, if_neg (h d (by simp)), List.drop_succ_cons]; exact ug r k (fun x hx => h x (by simp [hx]))
theorem dA (ds : List Px.Data) (ns : List Nm) (d : Px.Def) : (Uv ds ns d).length <= 2 * Sx.fw d := by
 rw [Uv, jE]; have h1 := ZE (Qr d.params) d.pos; have h2 := zQ ds 50 d.body (ns ++ d.params); have h3 : Sx.fw d = 1 + d.name.length + nw d.params + Sx.ew 50 d.body := rfl; omega
theorem Xg (p : Px.Prog) : (zL p).length <= p.jF.length + (p.jF.map Sx.dw).sum := by
 rw [zL, jE]; have h1 := UU (p.jF.map fun d => (d.name, d.pos)) ZJ; have h2 := uf p.jF p.jF Z7; rw [Jv] at h1; omega
theorem GV (p : Px.Prog) (pv : Value) (w : World) (hp : ZZ 50 w pv p) (hpw : (p.jF.map Sx.dw).sum + (p.defs.map Sx.fw).sum <= 190000) (ry : xZ p) :
 Calls Tryd.prog 12 #[pv] w (GJ w (Zv p)) := by
 obtain ⟨q1, c1, q2, c2, rfl⟩ := Zk hp; have HP := hid hp; have GQ := hid hpw; have jAS := hid ry
 have HR : Hid (JO 10 (ZC 50 w) w (.slice q2 p.defs.length c2) p.defs) := hid (by
  obtain ⟨dv, fv, hpv, h1, h2⟩ := hp; simp only [Y5, Z0, zh, dE] at hpv; obtain ⟨rfl, rfl⟩ := hpv
  exact h2)
 have hdl : p.defs.length <= 190000 := jS (Sx.ZT Sx.fw _ (fun x _ => by unfold Sx.fw; omega)) (by omega)
 have HD0 : Hid ((zL p).length <= 400000) := hid (by
  have := Xg p; have h2 : p.jF.length <= (p.jF.map Sx.dw).sum := Sx.ZT Sx.dw _ (fun x _ => by unfold Sx.dw; omega)
  omega)
 have hdw : (p.jF.map Sx.dw).sum <= 400000 := by omega
 have OX := hid hdw; clear hp hpw ry hdw; go_enter Tryd.func12, Tryd.ntmps12; have Pp := hid (jb w #[.slice q1 p.jF.length c1, .slice q2 p.defs.length c2] 26); have HB0 := hid (show Below w.heap.size w (w.alloc (.cells #[.slice q1 p.jF.length c1, .slice q2 p.defs.length c2] 26)) from (jD _ _).alloc (jB _) _); go_upto_region 1 with fail
 obtain ⟨w1, hw1⟩ : ∃ x, x = w.alloc (.cells #[.slice q1 p.jF.length c1, .slice q2 p.defs.length c2] 26) := ⟨_, rfl⟩
 rw [<- hw1] at Pp HB0 ⊢; clear hw1; have hs0 := ji Pp; obtain ⟨x0, x1⟩ := xQ2 Pp; go_wp2_with fail; clear x0 x1; refine (Lv p _ w1 (qz HP HB0) OX jAS.out.1).mono ?_; rintro e w2 ⟨v2, rfl, hb2, ho2⟩; have HO := hid (show zW w2 (w.heap.size + 1) v2 (zL p) from zx ho2 (by omega)); have EP := bE Pp hb2; have HB := bT HB0 hb2; have HS : Hid (QW w2 (w.heap.size + 1) (.slice none 0 0) []) := hid (jo _ _ _ _); clear hb2 ho2 Pp HB0 hs0; obtain ⟨lD, jAZ⟩ : ∃ l, zL p = l := ⟨_, rfl⟩
 have jGU := hid jAZ; rw [jAZ] at HO HD0; clear jAZ; obtain ⟨va, uI, rfl⟩ := jH HO; go_wp2_with fail
 go_loopw [3, 4, 5] (fun o nv j wx => ∃ (m : Nat) (l : List Nat) (ns : List Nm), j = .int .i64 m /\ m <= p.defs.length /\ Hid (l = lD ++ YO [] ((p.defs.take m).map fun d => (d.name, d.pos))) /\ Hid (ns = (p.defs.take m).map (·.name)) /\ Hid (zW wx (w.heap.size + 1) o l) /\ Hid (QW wx (w.heap.size + 1) nv ns) /\ Hid (wx.heap[w.heap.size]? = some (.cells #[.slice q1 p.jF.length c1, .slice q2 p.defs.length c2] 26 (0, 0))) /\ Hid (Below w.heap.size w wx)) (fun _ _ j _ => p.defs.length - (intOf j).toNat)
 case atStart => exact ⟨0, lD, [], rfl, jh _, hid (by simp [YO]), hid rfl, HO, HS, EP, HB⟩
 case round =>
  clear HO HS EP HB; obtain ⟨m, l, ns, rfl, hm, HM, HN, HO, HS, EP, HB⟩ := hrel; have hs1 := ji EP; have x1 := xK EP 1 rfl; obtain ⟨va, uI, rfl⟩ := jH HO; obtain ⟨vn, SC, rfl⟩ := jH HS; have hll : l.length <= 600000 := by rw [HM.out, jE]; have := UU ((p.defs.take m).map fun d => (d.name, d.pos)) []; rw [Jv, Jh] at this; have := HD0.out; omega
  have hnl : ns.length <= 400010 := by rw [HN.out, Jv, Jh]; omega
  by_cases hlt : m < p.defs.length
  . obtain ⟨d, hd⟩ : ∃ x, p.defs[m]? = some x := ⟨_, jA hlt⟩
    rcases HR.out with ⟨h0, _⟩ | ⟨g, of, c', hv, g1, g2, g3⟩
    . rw [h0] at hlt; simp at hlt
    first | cases hv | (injection hv with hq1 _ hq2; subst hq1; subst hq2)
    obtain ⟨u, hu, _, hcell⟩ := g3 m d hd; obtain ⟨qp, cp, dk, dp, dn, di, XG, XH, XI, V6, V7, V8, V9, uA, uB, rfl, hpr, hbx⟩ := zm hu; have gZ := hid hpr; have PV := hid hbx; have HD := hid hd
    have hk1 : (m : Int) < (p.defs.length : Int) := by omega
    have hk2 : (p.defs.length : Int) <= (c2 : Int) := by omega
    have hk3 := g2; have V4 := hid (fun (w' : World) (h : Below w.heap.size w w') => (show w'.cell? ⟨g, of + m * 10, none⟩ = some (.int .i64 d.pos) /\ w'.cell? ⟨g, of + m * 10 + 1, none⟩ = some (.string ⟨d.name.toArray⟩) /\ w'.cell? ⟨g, of + m * 10 + 2, none⟩ = some (.slice qp d.params.length cp) /\ w'.cell? ⟨g, of + m * 10 + 3, none⟩ = some (.int .i64 dk) /\ w'.cell? ⟨g, of + m * 10 + 4, none⟩ = some (.int .i64 dp) /\ w'.cell? ⟨g, of + m * 10 + 5, none⟩ = some (.string dn) /\ w'.cell? ⟨g, of + m * 10 + 6, none⟩ = some (.int .i64 di) /\ w'.cell? ⟨g, of + m * 10 + 7, none⟩ = some (.slice XG XH XI) /\ w'.cell? ⟨g, of + m * 10 + 8, none⟩ = some (.slice V6 V7 V8) /\ w'.cell? ⟨g, of + m * 10 + 9, none⟩ = some (.slice V9 uA uB) from ⟨jC h (hcell 0 _ rfl), jC h (hcell 1 _ rfl), jC h (hcell 2 _ rfl), jC h (hcell 3 _ rfl), jC h (hcell 4 _ rfl), jC h (hcell 5 _ rfl), jC h (hcell 6 _ rfl), jC h (hcell 7 _ rfl), jC h (hcell 8 _ rfl), jC h (hcell 9 _ rfl)⟩)); clear g1 g2 g3 hcell hu hpr hbx hd; have Lf := hid (GU (fun d : Px.Def => d.name) (fun d => d.pos) HD []); have CG : Hid (ns ++ [d.name] = (p.defs.take (m + 1)).map (·.name)) := hid (by rw [HN.out, JC, HD.out]; simp); obtain ⟨z0, z1, z2, z3, z4, z5, z6, z7, z8, z9⟩ := V4.out wr HB.out; go_wp2_with fail; clear z0 z1 z2 z3 z4 z5 z6 z7 z8 z9; clear x1; refine (Qf _ ns d.name wr (Qc HS)).mono ?_; rintro e w0 ⟨rfl, rfl⟩; obtain ⟨b, hb⟩ : ∃ b, Qi ns d.name = b := ⟨_, rfl⟩
    have HT2 := hid (show l ++ one b d.pos = lD ++ YO [] ((p.defs.take (m + 1)).map fun d => (d.name, d.pos)) by rw [Lf.out, J6, <- HN.out, hb, HM.out, jg]); rw [hb]; clear hb
    go_upto_if 25 with fail
    go_cut [3] (fun o wx => Hid (zW wx (w.heap.size + 1) o (l ++ one b d.pos)) /\ Hid (QW wx (w.heap.size + 1) (.slice vn ns.length SC) ns) /\ Hid (wx.heap[w.heap.size]? = some (.cells #[.slice q1 p.jF.length c1, .slice (some ⟨g, of, none⟩) p.defs.length c2] 26 (0, 0))) /\ Hid (Below w.heap.size w wx))
    case first =>
     cases b with
     | true =>
       obtain ⟨z0, z1, z2, z3, z4, z5, z6, z7, z8, z9⟩ := V4.out w0 HB.out; have x1 := xK EP 1 rfl
       have HE := hid (jb w0 #[.int .i64 (d.pos : Int)] 3); have QO := hid (show Below w0.heap.size w0 (w0.alloc (.cells #[.int .i64 (d.pos : Int)] 3)) from (jD _ _).alloc (jB _) _); have Z8 := hid (jc HO QO); go_wp2_with (at_builtin; refine zK rfl (.tmp 26) (.tmp 33) rfl (w.heap.size + 1) _ l rfl Z8 _ rfl [d.pos] (QY HE rfl rfl) (by simp; omega) (by have := QO.out.size; omega) ?_); intro v7 w7 happ; have uJ := hid (happ.below Z8.out (HB.out.trans (QO.out.mono HB.out.size)) (by have := QO.out.size; omega) (by omega)); have Lu := hid (Qk happ Z8 (jM EP QO) (by decide)); have Ru := hid (zg happ Z8 (jc HS QO)); obtain ⟨p7, q7, rfl⟩ := jH happ.1; have Xl := hid happ.1; clear happ; go_wp2
       go_meet
       exact ⟨Xl, Ru, Lu, uJ⟩
     | false =>
       go_wp2_with fail
       go_meet
       exact ⟨hid (by rw [show one false d.pos = [] from rfl, Jl]; exact HO.out), HS, EP, HB⟩
    case rest =>
    clear EP HB HO HS; obtain ⟨HO, HS, EP, HB⟩ := hcut; obtain ⟨l2, hl2⟩ : ∃ x, x = l ++ one b d.pos := ⟨_, rfl⟩
    rw [<- hl2] at HO HT2; clear hl2; obtain ⟨pe, ce, rfl⟩ := jH HO; obtain ⟨w0, hw0⟩ : ∃ x, x = wc := ⟨wc, rfl⟩
    subst hw0; have hs2 := ji EP; obtain ⟨z0, z1, z2, z3, z4, z5, z6, z7, z8, z9⟩ := V4.out w0 HB.out; have x1 := xK EP 1 rfl
    have HE := hid (jb w0 #[.string ⟨d.name.toArray⟩] 9); have QO := hid (show Below w0.heap.size w0 (w0.alloc (.cells #[.string ⟨d.name.toArray⟩] 9)) from (jD _ _).alloc (jB _) _); have Wi := hid (jc HS QO); go_wp2_with (at_builtin; refine Qe rfl (.tmp 35) (.tmp 42) rfl (w.heap.size + 1) _ ns rfl Wi _ rfl [d.name] (QY HE rfl rfl) (by simp; omega) (by have := QO.out.size; omega) ?_); intro v8 w8 happ; have WI := hid (happ.below Wi.out (HB.out.trans (QO.out.mono HB.out.size)) (by have := QO.out.size; omega) (by omega)); have Cx := hid (Qk happ Wi (jM EP QO) (by decide)); have pg := hid (uZ happ Wi (jc HO QO)); obtain ⟨p8, q8, rfl⟩ := jH happ.1; have mJ := hid happ.1; clear happ HO HS EP HB Wi QO HE; obtain ⟨n2, hn2⟩ : ∃ x, x = ns ++ [d.name] := ⟨_, rfl⟩
    rw [<- hn2] at mJ CG ⊢; clear hn2; go_wp2
    go_roundw
    case rel => exact ⟨m + 1, l2, n2, by go_num, by omega, HT2, CG, pg, mJ, Cx, WI⟩
    case measure => simp [intOf]; omega
  . obtain rfl : m = p.defs.length := by omega
    obtain ⟨lA, hlA⟩ : ∃ x, x = l := ⟨l, rfl⟩
    have jAT := hid (show lA = lD ++ YO [] (p.defs.map fun d => (d.name, d.pos)) by rw [hlA, HM.out, jY]); have oZ := hid (show lA.length <= 600000 by rw [hlA]; exact hll); have SE : Hid (l = lA ++ (p.defs.take 0).flatMap (Uv p.jF ns)) := hid (by rw [hlA]; simp); have oD := hid (show ns = p.defs.map (·.name) by rw [HN.out, jY]); clear hlA HM HN hll; go_wp2_with fail; clear x1; obtain ⟨wB, oC⟩ : ∃ x, x = wr := ⟨wr, rfl⟩
    subst oC
    go_loopw [3, 6] (fun o j wx => ∃ (m : Nat) (l : List Nat), j = .int .i64 m /\ m <= p.defs.length /\ Hid (l = lA ++ (p.defs.take m).flatMap (Uv p.jF ns)) /\ Hid (zW wx (w.heap.size + 1) o l) /\ Hid (QW wx (w.heap.size + 1) (.slice vn ns.length SC) ns) /\ Hid (wx.heap[w.heap.size]? = some (.cells #[.slice q1 p.jF.length c1, .slice q2 p.defs.length c2] 26 (0, 0))) /\ Hid (Below w.heap.size w wx)) (fun _ j _ => p.defs.length - (intOf j).toNat)
    case atStart => exact ⟨0, l, rfl, jh _, SE, HO, HS, EP, HB⟩
    case round =>
     clear HO HS EP HB SE hs1; obtain ⟨m, l, rfl, hm, HM, HO, HS, EP, HB⟩ := hrel; have hs1 := ji EP; have x1 := xK EP 1 rfl; obtain ⟨va, uI, rfl⟩ := jH HO; by_cases hlt : m < p.defs.length
     . obtain ⟨d, hd⟩ : ∃ x, p.defs[m]? = some x := ⟨_, jA hlt⟩
       rcases HR.out with ⟨h0, _⟩ | ⟨g, of, c', hv, g1, g2, g3⟩
       . rw [h0] at hlt; simp at hlt
       first | cases hv | (injection hv with hq1 _ hq2; subst hq1; subst hq2)
       obtain ⟨u, hu, _, hcell⟩ := g3 m d hd; obtain ⟨qp, cp, dk, dp, dn, di, XG, XH, XI, V6, V7, V8, V9, uA, uB, rfl, hpr, hbx⟩ := zm hu; have gZ := hid hpr; have PV := hid hbx; have HD := hid hd
       have hk1 : (m : Int) < (p.defs.length : Int) := by omega
       have hk2 : (p.defs.length : Int) <= (c2 : Int) := by omega
       have hk3 := g2; have V4 := hid (fun (w' : World) (h : Below w.heap.size w w') => (show w'.cell? ⟨g, of + m * 10, none⟩ = some (.int .i64 d.pos) /\ w'.cell? ⟨g, of + m * 10 + 1, none⟩ = some (.string ⟨d.name.toArray⟩) /\ w'.cell? ⟨g, of + m * 10 + 2, none⟩ = some (.slice qp d.params.length cp) /\ w'.cell? ⟨g, of + m * 10 + 3, none⟩ = some (.int .i64 dk) /\ w'.cell? ⟨g, of + m * 10 + 4, none⟩ = some (.int .i64 dp) /\ w'.cell? ⟨g, of + m * 10 + 5, none⟩ = some (.string dn) /\ w'.cell? ⟨g, of + m * 10 + 6, none⟩ = some (.int .i64 di) /\ w'.cell? ⟨g, of + m * 10 + 7, none⟩ = some (.slice XG XH XI) /\ w'.cell? ⟨g, of + m * 10 + 8, none⟩ = some (.slice V6 V7 V8) /\ w'.cell? ⟨g, of + m * 10 + 9, none⟩ = some (.slice V9 uA uB) from ⟨jC h (hcell 0 _ rfl), jC h (hcell 1 _ rfl), jC h (hcell 2 _ rfl), jC h (hcell 3 _ rfl), jC h (hcell 4 _ rfl), jC h (hcell 5 _ rfl), jC h (hcell 6 _ rfl), jC h (hcell 7 _ rfl), jC h (hcell 8 _ rfl), jC h (hcell 9 _ rfl)⟩)); clear g1 g2 g3 hcell hu hpr hbx hd; have hst := Sx.QD Sx.fw p.defs m d HD.out; have hdd : Sx.fw d = 1 + d.name.length + nw d.params + Sx.ew 50 d.body := rfl
       have hl4 : l.length + 2 * Sx.fw d <= 1600000 := by
        rw [HM.out, jE]; have h1 := ZO (Uv p.jF ns) (fun d => 2 * Sx.fw d) (p.defs.take m) (fun x _ => dA p.jF ns x); rw [zQ.vO] at h1; have := GQ.out; have := oZ.out; omega
       have mV := hid (show l.length + 2 * Sx.fw d <= 1600000 /\ nw d.params <= 190000 /\ nw d.params + Sx.ew 50 d.body <= 190000 /\ Sx.fw d <= 190000 by have := GQ.out; omega); have Lf := hid (YT (Uv p.jF ns) p.defs m d HD); obtain ⟨z0, z1, z2, z3, z4, z5, z6, z7, z8, z9⟩ := V4.out wr HB.out; have Eg := hid ((jD _ wr).alloc (jB _) (.cells #[.int .i64 d.pos, .string ⟨d.name.toArray⟩, .slice qp d.params.length cp, .int .i64 dk, .int .i64 dp, .string dn, .int .i64 di, .slice XG XH XI, .slice V6 V7 V8, .slice V9 uA uB] 40)); have L6 := hid (jb wr #[.int .i64 d.pos, .string ⟨d.name.toArray⟩, .slice qp d.params.length cp, .int .i64 dk, .int .i64 dp, .string dn, .int .i64 di, .slice XG XH XI, .slice V6 V7 V8, .slice V9 uA uB] 40); have VP := hid (jc HO Eg); have V5 := hid (jc HS Eg); have Rv := hid (jM EP Eg); have HB1 := hid (HB.out.trans (Eg.out.mono HB.out.size)); clear HO HS EP HB hst hdd hl4; have hpl : d.params.length <= 400000 := by have := qC d.params; have := mV.out; omega
       have y2 := xK L6 2 rfl; go_wp2_with fail; clear z0 z1 z2 z3 z4 z5 z6 z7 z8 z9; clear y2 x1; obtain ⟨gd, hgd⟩ : ∃ g, wr.heap.size = g := ⟨_, rfl⟩
       rw [hgd] at L6 ⊢; clear hgd; obtain ⟨wA, Bp⟩ : ∃ x, x = wr.alloc (.cells #[.int .i64 d.pos, .string ⟨d.name.toArray⟩, .slice qp d.params.length cp, .int .i64 dk, .int .i64 dp, .string dn, .int .i64 di, .slice XG XH XI, .slice V6 V7 V8, .slice V9 uA uB] 40) := ⟨_, rfl⟩
       rw [<- Bp] at L6 VP V5 Rv HB1 ⊢; clear Bp Eg; refine (Y1 _ d.params wA (JM gZ HB1) hpl).mono ?_; rintro e w0 ⟨rfl, hb4⟩; have ED := bE L6 hb4; have EP := bE Rv hb4; have HB := bT HB1 hb4; have HO := hid (jc VP hb4); have HS := hid (jc V5 hb4); have hs2 := ji EP; clear hb4 L6 VP V5 Rv HB1; obtain ⟨b, hb⟩ : ∃ b, Qr d.params = b := ⟨_, rfl⟩
       rw [hb]
       go_upto_if 58 with fail
       go_cut [3] (fun o wx => Hid (zW wx (w.heap.size + 1) o (l ++ one b d.pos)) /\ Hid (QW wx (w.heap.size + 1) (.slice vn ns.length SC) ns) /\ Hid (wx.heap[w.heap.size]? = some (.cells #[.slice q1 p.jF.length c1, .slice (some ⟨g, of, none⟩) p.defs.length c2] 26 (0, 0))) /\ Hid (wx.heap[gd]? = some (.cells #[.int .i64 d.pos, .string ⟨d.name.toArray⟩, .slice qp d.params.length cp, .int .i64 dk, .int .i64 dp, .string dn, .int .i64 di, .slice XG XH XI, .slice V6 V7 V8, .slice V9 uA uB] 40 (0, 0))) /\ Hid (Below w.heap.size w wx))
       case first =>
        cases b with
        | true =>
          have y0 := xK ED 0 rfl; have HE := hid (jb w0 #[.int .i64 (d.pos : Int)] 3); have QO := hid (show Below w0.heap.size w0 (w0.alloc (.cells #[.int .i64 (d.pos : Int)] 3)) from (jD _ _).alloc (jB _) _); have Z8 := hid (jc HO QO); go_wp2_with (at_builtin; refine zK rfl (.tmp 59) (.tmp 62) rfl (w.heap.size + 1) _ l rfl Z8 _ rfl [d.pos] (QY HE rfl rfl) (by have := mV.out; simp; omega) (by have := QO.out.size; omega) ?_); intro v7 w7 happ; have uJ := hid (happ.below Z8.out (HB.out.trans (QO.out.mono HB.out.size)) (by have := QO.out.size; omega) (by omega)); have Lu := hid (Qk happ Z8 (jM EP QO) (by decide)); have oQ := hid (Qk happ Z8 (jM ED QO) (by decide)); have Ru := hid (zg happ Z8 (jc HS QO)); obtain ⟨p7, q7, rfl⟩ := jH happ.1; have Xl := hid happ.1; clear happ; go_wp2
          go_meet
          exact ⟨Xl, Ru, Lu, oQ, uJ⟩
        | false =>
          go_wp2_with fail
          go_meet
          exact ⟨hid (by rw [show one false d.pos = [] from rfl, Jl]; exact HO.out), HS, EP, ED, HB⟩
       case rest =>
       clear EP HB HO HS ED; obtain ⟨HO, HS, EP, ED, HB⟩ := hcut; obtain ⟨lB, hlB⟩ : ∃ x, x = l ++ one b d.pos := ⟨_, rfl⟩
       have Sz := hid (show lB = (lA ++ (p.defs.take m).flatMap (Uv p.jF ns)) ++ one (Qr d.params) d.pos by rw [hlB, hb, HM.out]); have CJ := hid (show lB.length <= l.length + 1 by rw [hlB, jE]; have := ZE b d.pos; omega); rw [<- hlB] at HO; clear hlB hb hs2; obtain ⟨pe, ce, rfl⟩ := jH HO; obtain ⟨w0, hw0⟩ : ∃ x, x = wc := ⟨wc, rfl⟩
       subst hw0; have hs2 := ji EP
       have Yn := hid (show lB.length + (QT p.jF 50 d.body (([] ++ ns) ++ d.params)).length <= 1000000000 by
        have := zQ p.jF 50 d.body (([] ++ ns) ++ d.params)
        have := mV.out; have := CJ.out; omega)
       go_wp2_with fail; refine jU (S := fun (u : World) => u.heap[w.heap.size]? = some (.cells #[.slice q1 p.jF.length c1, .slice (some ⟨g, of, none⟩) p.defs.length c2] 26 (0, 0)) /\ u.heap[gd]? = some (.cells #[.int .i64 d.pos, .string ⟨d.name.toArray⟩, .slice qp d.params.length cp, .int .i64 dk, .int .i64 dp, .string dn, .int .i64 di, .slice XG XH XI, .slice V6 V7 V8, .slice V9 uA uB] 40 (0, 0)) /\ Below w.heap.size w u) (by kernel_rfl) (⟨EP.out, ED.out, HB.out.drew⟩) (fun hHeld => ?_); refine wS 0 (.slice pe lB.length ce) rfl hHeld ?_; refine wT 1 (.agg #[.slice q1 p.jF.length c1, .slice (some ⟨g, of, none⟩) p.defs.length c2]) rfl (Or.inl ⟨by rfl, fun w' hSw => by have h0 := jK hSw.1 0 _ rfl; have h1 := jK hSw.1 1 _ rfl; go_simp⟩) hHeld ?_; refine wS 2 (.pointer (some ⟨gd, 3, none⟩)) rfl hHeld ?_; refine wT 3 (.agg #[.int .i64 dk, .int .i64 dp, .string dn, .int .i64 di, .slice XG XH XI, .slice V6 V7 V8, .slice V9 uA uB]) rfl (Or.inl ⟨by rfl, fun w' hSw => by have h3 := jK hSw.2.1 3 _ rfl; have h4 := jK hSw.2.1 4 _ rfl; have h5 := jK hSw.2.1 5 _ rfl; have h6 := jK hSw.2.1 6 _ rfl; have h7 := jK hSw.2.1 7 _ rfl; have h8 := jK hSw.2.1 8 _ rfl; have h9 := jK hSw.2.1 9 _ rfl; go_simp⟩) hHeld ?_; refine wS 5 (.slice vn ns.length SC) rfl hHeld ?_; refine wS 7 (.pointer (some ⟨gd, 2, none⟩)) rfl hHeld ?_; refine wT 8 (.slice qp d.params.length cp) rfl (Or.inl ⟨by rfl, fun w' hSw => by have h := jK hSw.2.1 2 _ rfl; go_simp⟩) hHeld ?_
       try simp only [aP]
       refine wR 4 rfl (fun K hK => ?_); go_simp; have hb1 : Below w0.heap.size w0 (w0.drew.alloc (.cells #[] 9)) := ((jD _ _).drew).alloc (jB _) _; have VP := hid (yH w0.drew); have Yl := hid hb1; have Rv := hid (jM EP Yl); have L6 := hid (jM ED Yl); have HB1 := hid (HB.out.trans (Yl.out.mono HB.out.size)); refine hK.out _ _ ⟨Rv.out, L6.out, HB1.out⟩ (fun hHeld => ?_); clear hb1; clear hK K; refine wR 6 rfl (fun K hK => ?_); refine qc rfl (.tmp 68) (.tmp 69) rfl w0.heap.size _ [] rfl VP _ rfl ns ((Qc (jc HS Yl))) (by simp; omega) Yl.out.size ?_; intro v2 w2 ha2; have kT := hid (ha2.below VP.out Yl.out Yl.out.size (jB _)); have zV := hid ha2.1; have U9 := hid (jM EP kT); have jGV := hid (jM ED kT); have HB2 := hid (HB.out.trans (kT.out.mono HB.out.size)); refine hK.out _ _ ⟨U9.out, jGV.out, HB2.out⟩ (fun hHeld => ?_); clear ha2; clear hK K; refine wR 9 rfl (fun K hK => ?_); refine qc rfl (.tmp 70) (.tmp 72) rfl w0.heap.size _ _ rfl zV _ rfl d.params (JM gZ HB2) (by have := qC d.params; have := mV.out; simp; omega) kT.out.size ?_; intro v3 w3 Xt; have Ct := hid (Xt.below zV.out kT.out kT.out.size (jB _)); have yQ := hid Xt.1; have jAE := hid (jM EP Ct); have jGW := hid (jM ED Ct); have HB3 := hid (HB.out.trans (Ct.out.mono HB.out.size)); refine hK.out _ _ ⟨jAE.out, jGW.out, HB3.out⟩ (fun hHeld => ?_); clear Xt; clear hK K; refine wR 10 rfl (fun K hK => ?_); go_simp; refine (KC p 50 d.body _ _ _ (([] ++ ns) ++ d.params) w3 (qz HP HB3) OX (JY PV HB3) (Qc yQ) (by rw [J6, jE]; have := qC d.params; have := mV.out; have hns : ns.length <= 190000 := (by rw [oD.out, Jv]; omega); omega)).mono ?_; rintro e w5 ⟨v5, rfl, hb5, UR⟩; have KU := bT Ct hb5; have EM := hid (YR UR); have yM := hid (jc HO KU); have Co := hid (jc HS KU); have dM := hid (jM EP KU); have oV := hid (jM ED KU); have zy := hid (HB.out.trans (KU.out.mono HB.out.size)); refine hK.out _ _ ⟨dM.out, oV.out, zy.out⟩ (fun hHeld => ?_); clear hb5 UR; clear hK K; refine wR 11 rfl (fun K hK => ?_); refine ZI rfl (.tmp 64) (.tmp 74) rfl (w.heap.size + 1) _ _ rfl yM _ rfl _ EM Yn (by have := KU.out.size; omega) ?_; intro v6 w6 Z9; obtain ⟨p6, q6, rfl⟩ := jH Z9.1; have vD := hid (Z9.below yM.out zy.out (by have := KU.out.size; omega) (by omega)); have Ed := hid (Qk Z9 yM dM (by decide)); have Od := hid (Qk Z9 yM oV (by decide)); have jAY := hid (zg Z9 yM Co); have uD := hid Z9.1; have Bq : Hid (lB ++ QT p.jF 50 d.body (([] ++ ns) ++ d.params) = lA ++ (p.defs.take (m + 1)).flatMap (Uv p.jF ns)) := hid (by rw [Lf.out, Sz.out, J6]; simp only [Uv, jg]); obtain ⟨l7, oW⟩ : ∃ l7, l7 = lB ++ QT p.jF 50 d.body (([] ++ ns) ++ d.params) := ⟨_, rfl⟩
       rw [<- oW] at uD Bq ⊢; clear oW Z9; refine hK.out _ _ ⟨Ed.out, Od.out, vD.out⟩ (fun hHeld => ?_); clear hK K; refine wS 12 (.slice p6 l7.length q6) rfl hHeld ?_; simp only [aP]; refine wD ?_; go_wp2_with fail
       go_roundw
       case rel => exact ⟨m + 1, l7, by go_num, by omega, Bq, uD, jAY, Ed, vD⟩
       case measure => simp [intOf]; omega
     . obtain rfl : m = p.defs.length := by omega
       have HZ := hid (show l = (zL p ++ YO [] (p.defs.map fun d => (d.name, d.pos))) ++ p.defs.flatMap (Uv p.jF (p.defs.map (·.name))) by rw [HM.out, jY, jAT.out, jGU.out, oD.out])
       have I6 := hid (show l.length <= 1600000 by
        rw [HM.out, jE]; have h1 := ZO (Uv p.jF ns) (fun d => 2 * Sx.fw d) (p.defs.take p.defs.length) (fun x _ => dA p.jF ns x); rw [zQ.vO, jY] at h1; rw [jY]
        have := GQ.out; have := oZ.out; omega)
       clear HM; go_wp2_with fail; clear x1; obtain ⟨wC, jAK⟩ : ∃ x, x = wr := ⟨wr, rfl⟩
       subst jAK
       go_loopw [3, 8] (fun o j wx => ∃ (m : Nat), o = .slice va l.length uI /\ j = .int .i64 m /\ m <= p.defs.length /\ Hid (∀ x ∈ p.defs.take m, x.name ≠ fE) /\ Hid (zW wx (w.heap.size + 1) (.slice va l.length uI) l) /\ Hid (wx.heap[w.heap.size]? = some (.cells #[.slice q1 p.jF.length c1, .slice q2 p.defs.length c2] 26 (0, 0))) /\ Hid (Below w.heap.size w wx)) (fun _ j _ => p.defs.length - (intOf j).toNat)
       case atStart => exact ⟨0, rfl, rfl, jh _, hid (by simp), HO, EP, HB⟩
       case round =>
        clear HO HS EP HB hs1; obtain ⟨m, rfl, rfl, hm, HN, HO, EP, HB⟩ := hrel; have hs1 := ji EP; have x1 := xK EP 1 rfl; by_cases hlt : m < p.defs.length
        . obtain ⟨d, hd⟩ : ∃ x, p.defs[m]? = some x := ⟨_, jA hlt⟩
          rcases HR.out with ⟨h0, _⟩ | ⟨g, of, c', hv, g1, g2, g3⟩
          . rw [h0] at hlt; simp at hlt
          first | cases hv | (injection hv with hq1 _ hq2; subst hq1; subst hq2)
          obtain ⟨u, hu, _, hcell⟩ := g3 m d hd; obtain ⟨qp, cp, dk, dp, dn, di, XG, XH, XI, V6, V7, V8, V9, uA, uB, rfl, hpr, hbx⟩ := zm hu; have gZ := hid hpr; have PV := hid hbx; have HD := hid hd
          have hk1 : (m : Int) < (p.defs.length : Int) := by omega
          have hk2 : (p.defs.length : Int) <= (c2 : Int) := by omega
          have hk3 := g2; have V4 := hid (fun (w' : World) (h : Below w.heap.size w w') => (show w'.cell? ⟨g, of + m * 10, none⟩ = some (.int .i64 d.pos) /\ w'.cell? ⟨g, of + m * 10 + 1, none⟩ = some (.string ⟨d.name.toArray⟩) /\ w'.cell? ⟨g, of + m * 10 + 2, none⟩ = some (.slice qp d.params.length cp) /\ w'.cell? ⟨g, of + m * 10 + 3, none⟩ = some (.int .i64 dk) /\ w'.cell? ⟨g, of + m * 10 + 4, none⟩ = some (.int .i64 dp) /\ w'.cell? ⟨g, of + m * 10 + 5, none⟩ = some (.string dn) /\ w'.cell? ⟨g, of + m * 10 + 6, none⟩ = some (.int .i64 di) /\ w'.cell? ⟨g, of + m * 10 + 7, none⟩ = some (.slice XG XH XI) /\ w'.cell? ⟨g, of + m * 10 + 8, none⟩ = some (.slice V6 V7 V8) /\ w'.cell? ⟨g, of + m * 10 + 9, none⟩ = some (.slice V9 uA uB) from ⟨jC h (hcell 0 _ rfl), jC h (hcell 1 _ rfl), jC h (hcell 2 _ rfl), jC h (hcell 3 _ rfl), jC h (hcell 4 _ rfl), jC h (hcell 5 _ rfl), jC h (hcell 6 _ rfl), jC h (hcell 7 _ rfl), jC h (hcell 8 _ rfl), jC h (hcell 9 _ rfl)⟩)); clear g1 g2 g3 hcell hu hpr hbx hd; obtain ⟨z0, z1, z2, z3, z4, z5, z6, z7, z8, z9⟩ := V4.out wr HB.out; by_cases CO : d.name = fE
          . have hq : (⟨d.name.toArray⟩ : ByteArray) = { data := #[109, 97, 105, 110] } := by rw [CO]; rfl
            rw [hq] at z1; have pQ := hid (show kV p.defs = one (decide (0 < d.params.length)) d.pos by rw [ug p.defs m HN, drop_at HD, kV, if_pos CO])
            have hpl : d.params.length <= 400000 := by
             have h1 := Sx.E9 Sx.fw (jI HD.out); have h2 : Sx.fw d = 1 + d.name.length + nw d.params + Sx.ew 50 d.body := rfl; have h3 := qC d.params; have := GQ.out; omega
            clear hq CO; by_cases h0 : 0 < d.params.length
            . have h1 : (0 : Int) < (d.params.length : Int) := by omega
              have HF := hid (show Zv p = l ++ [d.pos] by rw [Zv, HZ.out, pQ.out, JL h0]; rfl); have HE := hid (jb wr #[.int .i64 (d.pos : Int)] 3); have QO := hid (show Below wr.heap.size wr (wr.alloc (.cells #[.int .i64 (d.pos : Int)] 3)) from (jD _ _).alloc (jB _) _); have Z8 := hid (jc HO QO); go_wp2_with (at_builtin; refine zK rfl (.tmp 98) (.tmp 105) rfl (w.heap.size + 1) _ l rfl Z8 _ rfl [d.pos] (QY HE rfl rfl) (by have := I6.out; simp; omega) (by have := QO.out.size; omega) ?_); intro v7 w7 happ; have uJ := hid (happ.below Z8.out (HB.out.trans (QO.out.mono HB.out.size)) (by have := QO.out.size; omega) (by omega)); have Xl := hid happ.1; clear happ; go_wp2_with fail; go_ret; rw [HF.out]; exact ⟨_, rfl, uJ.out, zx Xl (by omega)⟩
            . have h1 : ¬ (0 : Int) < (d.params.length : Int) := by omega
              have HF := hid (show Zv p = l by rw [Zv, HZ.out, pQ.out, jl h0]; simp [one]); go_wp2_with fail; go_ret; rw [HF.out]; exact ⟨_, rfl, HB.out, zx HO (by omega)⟩
          . have hq : ¬ (⟨d.name.toArray⟩ : ByteArray) = { data := #[109, 97, 105, 110] } := Gn CO; have hq2 : ¬ d.name = [109, 97, 105, 110] := CO; have hq4 : (d.name == [109, 97, 105, 110]) = false := qF.2 hq2; have hq3 : ¬ d.name.toArray = #[109, 97, 105, 110] := fun e => hq2 (by simpa using congrArg Array.toList e)
            have jGX := hid CO; clear CO; go_wp2_with fail
            go_roundw
            case rel => exact ⟨m + 1, rfl, by go_num, by omega, hid (fun x hx => by rw [JC, HD.out] at hx; rcases jW.1 hx with h | h; exact HN.out x h; simp at h; subst h; exact jGX.out), HO, EP, HB⟩
            case measure => simp [intOf]; omega
        . obtain rfl : m = p.defs.length := by omega
          have HF := hid (show Zv p = l ++ [0] by rw [Zv, HZ.out, ug p.defs p.defs.length HN, List.drop_length, kV]); have HE := hid (jb wr #[.int .i64 0] 3); have QO := hid (show Below wr.heap.size wr (wr.alloc (.cells #[.int .i64 0] 3)) from (jD _ _).alloc (jB _) _); have Z8 := hid (jc HO QO); go_wp2_with (at_builtin; refine zK rfl (.tmp 108) (.tmp 109) rfl (w.heap.size + 1) _ l rfl Z8 _ rfl [0] (QY HE rfl rfl) (by have := I6.out; simp; omega) (by have := QO.out.size; omega) ?_); intro v7 w7 happ; have uJ := hid (happ.below Z8.out (HB.out.trans (QO.out.mono HB.out.size)) (by have := QO.out.size; omega) (by omega)); have Xl := hid happ.1; clear happ; go_wp2_with fail; go_ret; rw [HF.out]; exact ⟨_, rfl, uJ.out, zx Xl (by omega)⟩
end Go.Proofs.YtlnjdclmopblcaaDoor
