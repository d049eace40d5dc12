import Derived.Test.YtlnjdclmopblcaaDoorI21
set_option linter.unusedVariables false
set_option linter.unusedSimpArgs false
set_option maxHeartbeats 40000000
set_option maxRecDepth 100000
namespace Go.Proofs.YtlnjdclmopblcaaDoor
open Go Go.RowKit
open Go.Lib (hid)
theorem Xc (g : Px.QJ -> List Nm -> List Nat) (b : Px.QJ -> List Nm) (x : Px.QJ) : ∀ (l : List Px.QJ) (a : List Nm), yU g b (l ++ [x]) a = yU g b l a ++ g x (a ++ l.flatMap b)
 | [], a => by simp [yU]
 | y :: r, a => by rw [JQ, yU, yU, Xc g b x r, qP, jg, jg]
theorem Ee (g : Px.QJ -> List Nm -> List Nat) (b : Px.QJ -> List Nm) {l : List Px.QJ} {k : Nat} {x : Px.QJ} (h : l[k]? = some x) (a : List Nm) : yU g b (l.take (k + 1)) a = yU g b (l.take k) a ++ g x (a ++ (l.take k).flatMap b) := by
 rw [JC, h, zM, Xc]
theorem UT (ds : List Px.Data) (nm : Nm) (n : Int) (p : Nat) : (YV ds nm n p).length <= 1 := ZE _ _
theorem kC (g : Px.QJ -> List Nm -> List Nat) (b : Px.QJ -> List Nm) (h : Px.QJ -> Nat) (hg : ∀ x a, (g x a).length <= h x) : ∀ (l : List Px.QJ) (a : List Nm), (yU g b l a).length <= (l.map h).sum
 | [], a => by simp [yU]
 | x :: r, a => by
   rw [yU, jE, je, jy]; have h1 := hg x a; have h2 := kC g b h hg r (a ++ b x); omega
theorem VZ (ds : List Px.Data) : ∀ (f : Nat) (x : Px.QJ) (a : List Nm), (Zm ds f x a).length <= Sx.pw f x
 | 0, _, _ => by simp [Zm]
 | f + 1, .mk k p nm i xs, a => by
   rw [Zm, Sx.pw]
   split
   . simp; omega
   . rw [jE]; have h1 := kC (Zm ds f) (Sx.jV f) (Sx.pw f) (fun x a => VZ ds f x a) xs a; have h2 : (if k = 3 then YV ds nm xs.length p else []).length <= 1 := by split; exact UT _ _ _ _; simp
     omega
def Y3 (w : World) (B : Nat) (wr : World) (av : Value) (l : List Nm) : Prop := Yk w av l \/ QW wr B av l
theorem Y3.row {w wr : World} {B : Nat} {av : Value} {l : List Nm} (h : Y3 w B wr av l) (hb : Below w.heap.size w wr) : Yk wr av l := h.elim (fun h => JM h hb) (fun h => Qc h)
theorem Y3.below {w wr w' : World} {B : Nat} {av : Value} {l : List Nm} (h : Y3 w B wr av l) (hb : Below wr.heap.size wr w') : Y3 w B w' av l := h.imp id (fun h => jc h hb)
theorem Y3.app {w wr w' : World} {B b : Nat} {av v v' : Value} {l : List Nm} {d d0 : List Nat} (h : Y3 w B wr av l) (ha : uP encI 3 wr b v d v' w') (ho : zW wr b v d0) : Y3 w B w' av l := h.imp id (fun h => zg ha ho h)
theorem Y3.slice {w wr : World} {B : Nat} {av : Value} {l : List Nm} (h : Y3 w B wr av l) : ∃ p c, av = .slice p l.length c := h.elim (fun h => h.len) (fun h => jH h)
def cZ (p : Px.Prog) (f : Nat) : Prop := ∀ (x : Px.QJ) (pv xv av : Value) (ahead : List Nm) (w : World), ZZ 50 w pv p -> (p.jF.map Sx.dw).sum <= 400000 -> qj f w xv x -> Yk w av ahead -> ahead.length + Sx.pw f x <= 400000 ->
 Calls Tryd.prog 50 #[pv, xv, av] w (GJ w (Zm p.jF f x ahead))
theorem pY (p : Px.Prog) (f : Nat) (ih : cZ p f) : cZ p (f + 1) := by
 intro x pv xv av ahead w hp hpw ht hs hw; cases x with | mk k pos nm i0 xs =>
 obtain ⟨q1, c1, q2, c2, rfl⟩ := Zk hp; obtain ⟨xv, rfl, hx⟩ := ht; obtain ⟨qt, ct, rfl⟩ := hx.len; obtain ⟨qs, cs, rfl⟩ := hs.len; have HP := hid hp; have GQ := hid hpw; have HX := hid hx; have HS := hid hs
 have HW : Hid (ahead.length + (1 + nm.length + (xs.map (Sx.pw f)).sum) <= 400000) := hid (by rw [Sx.pw] at hw; exact hw); clear hp hpw hx hs hw; go_enter Tryd.func50, Tryd.ntmps50; have EP := hid (JA (jb w #[.slice q1 p.jF.length c1, .slice q2 p.defs.length c2] 26) (.cells #[.int .i64 k, .int .i64 pos, .string ⟨nm.toArray⟩, .int .i64 i0, .slice qt xs.length ct] 85)); have ET := hid (jb (w.alloc (.cells #[.slice q1 p.jF.length c1, .slice q2 p.defs.length c2] 26)) #[.int .i64 k, .int .i64 pos, .string ⟨nm.toArray⟩, .int .i64 i0, .slice qt xs.length ct] 85); have HB := hid (show Below w.heap.size w ((w.alloc (.cells #[.slice q1 p.jF.length c1, .slice q2 p.defs.length c2] 26)).alloc (.cells #[.int .i64 k, .int .i64 pos, .string ⟨nm.toArray⟩, .int .i64 i0, .slice qt xs.length ct] 85)) from ((jD _ _).alloc (jB _) _).alloc (by simp) _); have hsz : ((w.alloc (.cells #[.slice q1 p.jF.length c1, .slice q2 p.defs.length c2] 26)).alloc (.cells #[.int .i64 k, .int .i64 pos, .string ⟨nm.toArray⟩, .int .i64 i0, .slice qt xs.length ct] 85)).heap.size = w.heap.size + 2 := by simp
 rw [show (w.alloc (.cells #[.slice q1 p.jF.length c1, .slice q2 p.defs.length c2] 26)).heap.size = w.heap.size + 1 by simp] at ET; go_upto_region 1 with fail
 generalize (w.alloc (.cells #[.slice q1 p.jF.length c1, .slice q2 p.defs.length c2] 26)).alloc (.cells #[.int .i64 k, .int .i64 pos, .string ⟨nm.toArray⟩, .int .i64 i0, .slice qt xs.length ct] 85) = w1 at EP ET HB hsz ⊢
 go_cut [17] (fun o wx => o = .bool (decide (k = 1) && Qi ahead nm) /\ wx = w1)
 case first =>
  have e0 := xK ET 0 rfl; have e2 := xK ET 2 rfl; by_cases hk : k = 1
  . have hkb : ((k : Int) == 1) = true := by simp [hk]
    have uU := hid (Qf _ ahead nm w1 (JM HS HB)); have HK := hid hk; clear hk; go_wp2_with fail; refine uU.out.mono ?_; rintro e w2 ⟨rfl, rfl⟩; go_wp2_with fail
    go_meet
    exact ⟨by rw [HK.out]; simp, rfl⟩
  . have hkb : ((k : Int) == 1) = false := qF.2 (by omega); have HK := hid hk; clear hk; go_wp2_with fail
    go_meet
    exact ⟨by rw [jl HK.out]; rfl, rfl⟩
 case rest =>
 obtain ⟨rfl, rfl⟩ := hcut; have HL : Hid (Zm p.jF (f + 1) (.mk k pos nm i0 xs) ahead = if (decide (k = 1) && Qi ahead nm) = true then [pos] else (if k = 3 then YV p.jF nm xs.length pos else []) ++ yU (Zm p.jF f) (Sx.jV f) xs ahead) := hid (by rw [Zm]; simp); obtain ⟨b0, hb0⟩ : ∃ b, (decide (k = 1) && Qi ahead nm) = b := ⟨_, rfl⟩
 rw [hb0] at HL ⊢; clear hb0; cases b0 with
 | true =>
   have e1 := xK ET 1 rfl; have E3 := hid (jb wc #[encI pos] 3); go_wp2_with fail; go_ret; rw [HL.out]; exact ⟨_, rfl, HB.out.alloc HB.out.size _, XN (show (wc.alloc (.cells #[encI pos] 3)).heap[w.heap.size + 2]? = some (.cells #[encI pos] 3 (0, 0)) by rw [<- hsz]; exact E3.out) (by omega)⟩
 | false =>
 have Yd := hid (show Zm p.jF (f + 1) (.mk k pos nm i0 xs) ahead = (if k = 3 then YV p.jF nm xs.length pos else []) ++ yU (Zm p.jF f) (Sx.jV f) xs ahead from HL.out); clear HL; have e0 := xK ET 0 rfl
 go_upto_if 23 with fail
 clear e0
 go_cut [7] (fun o wx => Hid (zW wx (w.heap.size + 2) o (if k = 3 then YV p.jF nm xs.length pos else [])) /\ Hid (wx.heap[w.heap.size]? = some (.cells #[.slice q1 p.jF.length c1, .slice q2 p.defs.length c2] 26 (0, 0))) /\ Hid (wx.heap[w.heap.size + 1]? = some (.cells #[.int .i64 k, .int .i64 pos, .string ⟨nm.toArray⟩, .int .i64 i0, .slice qt xs.length ct] 85 (0, 0))) /\ Hid (Below w.heap.size w wx))
 case first =>
  by_cases hk : k = 3
  . have hkb : ((k : Int) == 3) = true := by simp [hk]
    have HK := hid (show (if k = 3 then YV p.jF nm xs.length pos else []) = YV p.jF nm xs.length pos by rw [if_pos hk]); clear hk; obtain ⟨x0, x1⟩ := xQ2 EP; have e1 := xK ET 1 rfl; have e2 := xK ET 2 rfl; have e4 := xK ET 4 rfl; go_wp2_with fail; clear x0 x1 e1 e2 e4; refine (XO 50 p _ nm (xs.length : Int) pos wc (qz HP HB) GQ).mono ?_; rintro e w2 ⟨v2, rfl, hb2, ho2⟩; have zV := hid (show zW w2 (w.heap.size + 2) v2 (YV p.jF nm xs.length pos) from zx ho2 (by omega)); have U9 := bE EP hb2; have sw := bE ET hb2; have HB2 := bT HB hb2; clear hb2 ho2; go_wp2_with fail
    go_meet
    exact ⟨hid (by rw [HK.out]; exact zV.out), U9, sw, HB2⟩
  . have hkb : ((k : Int) == 3) = false := qF.2 (by omega); have HK := hid (show (if k = 3 then YV p.jF nm xs.length pos else []) = [] by rw [if_neg hk]); clear hk; go_wp2_with fail
    go_meet
    exact ⟨hid (by rw [HK.out]; exact Y0 _ _), EP, ET, HB⟩
 case rest =>
 clear EP ET HB hsz; obtain ⟨HO, EP, ET, HB⟩ := hcut; obtain ⟨l0, hl0⟩ : ∃ l, (if k = 3 then YV p.jF nm xs.length pos else []) = l := ⟨_, rfl⟩
 have UD : Hid (l0.length <= 1) := hid (by rw [<- hl0]; split; exact UT _ _ _ _; simp); rw [hl0] at HO Yd; clear hl0; obtain ⟨pa, ca, rfl⟩ := jH HO; obtain ⟨w4, hw4⟩ : ∃ x, x = wc := ⟨wc, rfl⟩
 subst hw4; have HA : Hid (Y3 w (w.heap.size + 2) w4 (.slice qs ahead.length cs) ahead) := hid (.inl HS.out)
 have hxl : xs.length <= 400000 := by
  have h2 : xs.length <= (xs.map (Sx.pw f)).sum := by
   refine Sx.ZT _ _ (fun x hx => ?_)
   rcases HX.out with ⟨h0, _⟩ | ⟨_, _, _, _, _, _, h3⟩
   . subst h0; cases hx
   . obtain ⟨j, hj⟩ := ZQ.1 hx; obtain ⟨_, hu, _⟩ := h3 j x hj; cases f with
     | zero => exact hu.elim
     | succ f => cases x with | mk a b c d e => rw [Sx.pw]; omega
  have := HW.out; omega
 go_wp2_with fail
 go_loopw [2, 7, 8] (fun a o j wr => ∃ (m : Nat) (l : List Nat) (cur : List Nm), j = .int .i64 m /\ m <= xs.length /\ Hid (l = l0 ++ yU (Zm p.jF f) (Sx.jV f) (xs.take m) ahead) /\ Hid (cur = ahead ++ (xs.take m).flatMap (Sx.jV f)) /\ Hid (zW wr (w.heap.size + 2) o l) /\ Hid (Y3 w (w.heap.size + 2) wr a cur) /\ Hid (wr.heap[w.heap.size]? = some (.cells #[.slice q1 p.jF.length c1, .slice q2 p.defs.length c2] 26 (0, 0))) /\ Hid (wr.heap[w.heap.size + 1]? = some (.cells #[.int .i64 k, .int .i64 pos, .string ⟨nm.toArray⟩, .int .i64 i0, .slice qt xs.length ct] 85 (0, 0))) /\ Hid (Below w.heap.size w wr)) (fun _ _ j _ => xs.length - (intOf j).toNat)
 case atStart => exact ⟨0, l0, ahead, rfl, jh _, hid (by simp [yU]), hid (by simp), HO, HA, EP, ET, HB⟩
 case round =>
  clear EP ET HB HO HA; obtain ⟨m, l, cur, rfl, hm, HM, HC, HO, HA, EP, ET, HB⟩ := hrel; have hs1 := ji ET; have e4 := xK ET 4 rfl; obtain ⟨va, uI, rfl⟩ := jH HO; obtain ⟨vc, jCU, rfl⟩ := HA.out.slice; by_cases hlt : m < xs.length
  . obtain ⟨y, hy⟩ : ∃ y, xs[m]? = some y := ⟨_, jA hlt⟩
    rcases HX.out with ⟨h0, _⟩ | ⟨g, of, c', hv, g1, g2, g3⟩
    . rw [h0] at hlt; simp at hlt
    injection hv with hq1 _ hq2
    subst hq1; subst hq2
    obtain ⟨u, hu, _, hcell⟩ := g3 m y hy; have HU := hid hu; obtain ⟨a0, a1, a2, a3, uq, un, uc, rfl⟩ := yT hu
    have V4 := hid (fun (w' : World) (h : Below w.heap.size w w') =>
     have up : ∀ j z, (Value.agg #[.int .i64 a0, .int .i64 a1, .string a2, .int .i64 a3, .slice uq un uc]).cells[j]? = some z -> w'.cell? ⟨g, of + m * 5 + j, none⟩ = some z := fun j z hz => jC h (hcell j z hz)
     (show w'.cell? ⟨g, of + m * 5, none⟩ = some (.int .i64 a0) /\ w'.cell? ⟨g, of + m * 5 + 1, none⟩ = some (.int .i64 a1) /\ w'.cell? ⟨g, of + m * 5 + 2, none⟩ = some (.string a2) /\ w'.cell? ⟨g, of + m * 5 + 3, none⟩ = some (.int .i64 a3) /\ w'.cell? ⟨g, of + m * 5 + 4, none⟩ = some (.slice uq un uc) from ⟨up 0 _ rfl, up 1 _ rfl, up 2 _ rfl, up 3 _ rfl, up 4 _ rfl⟩))
    have hk1 : (m : Int) < (xs.length : Int) := by omega
    have hst := Sx.QD (Sx.pw f) xs m y hy
    have hcl : cur.length <= ahead.length + ((xs.take m).map (Sx.pw f)).sum := by
     have h1 := qC ((xs.take m).flatMap (Sx.jV f)); have h2 := Sx.yx (Sx.jV f) (Sx.pw f) (xs.take m) (fun x _ => Sx.zB f x); rw [HC.out, jE]; omega
    have Zj := hid (show cur.length + Sx.pw f y <= 400000 /\ Sx.pw f y <= 400000 by have := HW.out; omega); have HT := hid (Ee (Zm p.jF f) (Sx.jV f) hy ahead); have jAG := hid (Sx.YB (Sx.jV f) xs m y hy)
    have hlen : l.length + (Zm p.jF f y cur).length <= 1000000000 := by
     rw [HM.out, jE]; have h1 := kC (Zm p.jF f) (Sx.jV f) (Sx.pw f) (fun x a => VZ p.jF f x a) (xs.take m) ahead; have h2 := VZ p.jF f y cur; have h3 := UD.out; have := HW.out; omega
    have Yn := hid hlen; clear g1 g2 g3 hcell hu hy hst hlen hcl; go_wp2_with fail; clear e4; refine jU (S := fun (u : World) => Below (w.heap.size + 2) wr u) (by kernel_rfl) ((jD _ _).drew) (fun hHeld => ?_); refine wS 0 (.slice va l.length uI) rfl hHeld ?_; refine wT 1 (.agg #[.slice q1 p.jF.length c1, .slice q2 p.defs.length c2]) rfl (Or.inl ⟨by rfl, fun w' hSw => by have h0 := jK ((hSw.block _ (by omega)).trans EP.out) 0 _ rfl; have h1 := jK ((hSw.block _ (by omega)).trans EP.out) 1 _ rfl; go_simp⟩) hHeld ?_; refine wS 2 (.pointer (some ⟨w.heap.size + 1, 4, none⟩)) rfl hHeld ?_; refine wT 3 (.slice (some ⟨g, of, none⟩) xs.length ct) rfl (Or.inl ⟨by rfl, fun w' hSw => by have h := jK ((hSw.block _ (by omega)).trans ET.out) 4 _ rfl; go_simp⟩) hHeld ?_; refine wS 4 (.int .i64 m) rfl hHeld ?_; refine wS 5 (.pointer (some ⟨g, of + m * 5, none⟩)) rfl hHeld ?_; refine wT 6 (.agg #[.int .i64 a0, .int .i64 a1, .string a2, .int .i64 a3, .slice uq un uc]) rfl (Or.inl ⟨by rfl, fun w' hSw => by obtain ⟨x0, x1, x2, x3, x4⟩ := V4.out w' (HB.out.trans (hSw.mono (by omega))); go_simp⟩) hHeld ?_; refine wS 7 (.slice vc cur.length jCU) rfl hHeld ?_
    try simp only [aP]
    refine wR 8 rfl (fun K hK => ?_); go_simp; refine (ih y _ _ _ cur wr.drew (qz HP HB.out.drew) GQ.out (qB HU HB.out.drew) ((HA.out.below (jD _ _).drew).row HB.out.drew) Zj.out.1).mono ?_; rintro e w5 ⟨v5, rfl, hb5, UR⟩; have zy := hid (show Below wr.heap.size wr w5 from Y9 hb5); have EM := hid (YR UR); have yM := hid (jc HO zy); have dM := hid (jM EP zy); have Po := hid (jM ET zy); have jCV := hid (HA.out.below zy.out); refine hK.out _ _ (zy.out.mono (by omega)) (fun hHeld => ?_); clear hb5 UR; clear hK K; refine wR 9 rfl (fun K hK => ?_); refine ZI rfl (.tmp 40) (.tmp 48) rfl (w.heap.size + 2) _ _ rfl yM _ rfl _ EM Yn (by have := zy.out.size; omega) ?_; intro v6 w6 Z9; obtain ⟨p6, q6, rfl⟩ := jH Z9.1; have vD := hid (Z9.below yM.out (HB.out.trans (zy.out.mono (by omega))) (by have := zy.out.size; omega) (by omega)); have X9 := hid (Z9.below yM.out (zy.out.mono (B' := w.heap.size + 2) (by omega)) (by have := zy.out.size; omega) (jB _)); have Ed := hid (Z9.at yM.out dM.out (by omega)); have mU := hid (Z9.at yM.out Po.out (by omega)); have jGE := hid (jCV.out.app Z9 yM.out); have uD := hid Z9.1; have Bq : Hid (l ++ Zm p.jF f y cur = l0 ++ yU (Zm p.jF f) (Sx.jV f) (xs.take (m + 1)) ahead) := hid (by rw [HT.out, HM.out, jg, HC.out]); obtain ⟨l3, hl3⟩ : ∃ l3, l3 = l ++ Zm p.jF f y cur := ⟨_, rfl⟩
    rw [<- hl3] at uD Bq ⊢; clear hl3 Z9 yM jCV dM Po; refine hK.out _ _ X9.out (fun hHeld => ?_); clear hK K; refine wS 10 (.slice p6 l3.length q6) rfl hHeld ?_; simp only [aP]; refine wD ?_; clear HO EP ET HB HA hs1; have hs1 := ji mU; have jGF := Zj.out; go_wp2_with fail; refine jU (S := fun (u : World) => Below (w.heap.size + 2) w6 u) (by kernel_rfl) ((jD _ _).drew) (fun hHeld => ?_); refine wS 1 (.slice vc cur.length jCU) rfl hHeld ?_; refine wS 3 (.pointer (some ⟨w.heap.size + 1, 4, none⟩)) rfl hHeld ?_; refine wT 4 (.slice (some ⟨g, of, none⟩) xs.length ct) rfl (Or.inl ⟨by rfl, fun w' hSw => by have h := jK ((hSw.block _ (by omega)).trans mU.out) 4 _ rfl; go_simp⟩) hHeld ?_; refine wS 5 (.int .i64 m) rfl hHeld ?_; refine wS 6 (.pointer (some ⟨g, of + m * 5, none⟩)) rfl hHeld ?_; refine wT 7 (.agg #[.int .i64 a0, .int .i64 a1, .string a2, .int .i64 a3, .slice uq un uc]) rfl (Or.inl ⟨by rfl, fun w' hSw => by obtain ⟨x0, x1, x2, x3, x4⟩ := V4.out w' (vD.out.trans (hSw.mono (by omega))); go_simp⟩) hHeld ?_
    try simp only [aP]
    refine wR 0 rfl (fun K hK => ?_); go_simp; have hb1 : Below w6.heap.size w6 (w6.drew.alloc (.cells #[] 9)) := ((jD _ _).drew).alloc (jB _) _; have VP := hid (yH w6.drew); have HB1 := hid hb1; refine hK.out _ _ (hb1.mono (by omega)) (fun hHeld => ?_); clear hb1; clear hK K; refine wR 2 rfl (fun K hK => ?_); refine qc rfl (.tmp 50) (.tmp 51) rfl w6.heap.size _ [] rfl VP _ rfl cur ((jGE.out.below HB1.out).row (vD.out.trans (HB1.out.mono (by omega)))) (by simp; omega) HB1.out.size ?_; intro v2 w7 ha2; have uJ := hid (ha2.below VP.out HB1.out HB1.out.size (jB _)); have Xl := hid ha2.1; refine hK.out _ _ (uJ.out.mono (by omega)) (fun hHeld => ?_); clear ha2; clear hK K; refine wR 8 rfl (fun K hK => ?_); go_simp; refine (ze f y _ w7 (qB HU (vD.out.trans (uJ.out.mono (by omega)))) (jS Zj.out.2 (by decide))).mono ?_; rintro e w8 ⟨v8, rfl, jAH, SA⟩; have WI := bT uJ jAH; have jGG := hid SA.now; have pg := hid (jc Xl jAH); refine hK.out _ _ (WI.out.mono (by omega)) (fun hHeld => ?_); clear jAH SA; clear hK K; refine wR 9 rfl (fun K hK => ?_); refine qc rfl (.tmp 52) (.tmp 58) rfl w6.heap.size _ _ rfl pg _ rfl (Sx.jV f y) jGG (by have h1 := qC (Sx.jV f y); have h2 := Sx.zB f y; simp; omega) WI.out.size ?_; intro v9 w9 OZ; obtain ⟨p9, q9, rfl⟩ := jH OZ.1; have oM := hid (OZ.below pg.out WI.out WI.out.size (jB _)); have Cw := hid (vD.out.trans (oM.out.mono (by omega))); have jGH := hid (jM Ed oM); have jGI := hid (jM mU oM); have Oa := hid (jc uD oM); have OW : Hid (([] ++ cur) ++ Sx.jV f y = ahead ++ (xs.take (m + 1)).flatMap (Sx.jV f)) := hid (by rw [jAG.out, HC.out, J6, jg]); have jCW : Hid (Y3 w (w.heap.size + 2) w9 (.slice p9 (([] ++ cur) ++ Sx.jV f y).length q9) (([] ++ cur) ++ Sx.jV f y)) := hid (.inr (UQ OZ.1 (by omega))); obtain ⟨oN, hc2⟩ : ∃ c2, c2 = ([] ++ cur) ++ Sx.jV f y := ⟨_, rfl⟩
    rw [<- hc2] at OW jCW ⊢; clear hc2 OZ; refine hK.out _ _ (oM.out.mono (by omega)) (fun hHeld => ?_); clear hK K; refine wS 10 (.slice p9 oN.length q9) rfl hHeld ?_; simp only [aP]; refine wD ?_; go_wp2_with fail
    go_roundw
    case rel => exact ⟨m + 1, l3, oN, by go_num, by omega, Bq, OW, Oa, jCW, jGH, jGI, Cw⟩
    case measure => simp [intOf]; omega
  . obtain rfl : m = xs.length := by omega
    have HF := hid (show l = Zm p.jF (f + 1) (.mk k pos nm i0 xs) ahead by rw [Yd.out, HM.out, jY]); go_wp2_with fail; go_ret; rw [<- HF.out]; exact ⟨_, rfl, HB.out, zx HO (by omega)⟩
theorem Xd (p : Px.Prog) : ∀ f, cZ p f
 | 0 => fun x pv xv av ahead w _ _ ht => ht.elim
 | f + 1 => pY p f (Xd p f)
theorem zQ (ds : List Px.Data) : ∀ (f : Nat) (x : Px.Expr) (a : List Nm), (QT ds f x a).length <= 2 * Sx.ew f x
 | 0, _, _ => by simp [QT]
 | f + 1, .mk k p nm i ns xs al, a => by
   rw [QT, Sx.ew, jE, jE, jE]; have h1 : (VI ds a k p nm xs.length).length <= 1 := by unfold VI; split; exact ZE _ _; split; exact UT _ _ _ _; simp
   have h2 := ZE (Qr ns) p; have h3 := ZO (fun y => QT ds f y (a ++ ns)) (fun y => 2 * Sx.ew f y) xs (fun x _ => zQ ds f x _)
   have h4 := ZO (fun b : Px.QJ × Px.Expr => Zm ds f b.1 [] ++ QT ds f b.2 (a ++ Sx.jV f b.1)) (fun b => 2 * (Sx.pw f b.1 + Sx.ew f b.2)) al (fun b _ => by
    rw [jE]; have h5 := VZ ds f b.1 []; have h6 := zQ ds f b.2 (a ++ Sx.jV f b.1)
    omega)
   have h7 : (xs.map fun y => 2 * Sx.ew f y).sum = 2 * (xs.map (Sx.ew f)).sum := vO (Sx.ew f) xs; have h8 : (al.map fun b => 2 * (Sx.pw f b.1 + Sx.ew f b.2)).sum = 2 * (al.map fun b => Sx.pw f b.1 + Sx.ew f b.2).sum := vO (fun b : Px.QJ × Px.Expr => Sx.pw f b.1 + Sx.ew f b.2) al; omega
where vO {α : Type} (g : α -> Nat) : ∀ (l : List α), (l.map fun y => 2 * g y).sum = 2 * (l.map g).sum
 | [] => rfl
 | a :: r => by rw [je, jy, vO g r, je, jy]; omega
theorem FL {α : Type} (g : α -> List Nat) (h : α -> Nat) (l : List α) (k : Nat) (x : α) (hx : l[k]? = some x) (hg : ∀ x, (g x).length <= 2 * h x) : ((l.take k).flatMap g).length + (g x).length <= 2 * (l.map h).sum := by
 have h1 := ZO g (fun y => 2 * h y) (l.take k) (fun x _ => hg x); have h2 := Sx.QD h l k x hx; have h3 := zQ.vO h (l.take k); have h4 := hg x; omega
def cu (p : Px.Prog) (f : Nat) : Prop := ∀ (x : Px.Expr) (pv xv sv : Value) (vars : List Nm) (w : World), ZZ 50 w pv p -> (p.jF.map Sx.dw).sum <= 400000 -> JB f w xv x -> Yk w sv vars -> vars.length + Sx.ew f x <= 400000 ->
 Calls Tryd.prog 29 #[pv, xv, sv] w (GJ w (QT p.jF f x vars))
theorem Lt (p : Px.Prog) (f : Nat) (ih : cu p f) : cu p (f + 1) := by
 intro x pv xv sv vars w hp hpw ht hs hw; cases x with | mk k pos nm i0 ns xs al =>
 obtain ⟨q1, c1, q2, c2, rfl⟩ := Zk hp; obtain ⟨nv, xv, av, rfl, hn, hx, ha⟩ := ht; obtain ⟨qn, cn, rfl⟩ := hn.len; obtain ⟨qx, cx, rfl⟩ := hx.len; obtain ⟨qa, ca, rfl⟩ := ha.len; obtain ⟨qs, cs, rfl⟩ := hs.len; have HP := hid hp; have GQ := hid hpw; have HX := hid hx; have HA := hid ha; have HS := hid hs; have HN := hid hn
 have Zj : Hid (vars.length + nw ns + (xs.map (Sx.ew f)).sum + (al.map fun a => Sx.pw f a.1 + Sx.ew f a.2).sum <= 400000) := hid (by rw [Sx.ew] at hw; omega); clear hp hpw hx ha hs hn hw; go_enter Tryd.func29, Tryd.ntmps29; have EP := hid (JA (jb w #[.slice q1 p.jF.length c1, .slice q2 p.defs.length c2] 26) (.cells #[.int .i64 k, .int .i64 pos, .string ⟨nm.toArray⟩, .int .i64 i0, .slice qn ns.length cn, .slice qx xs.length cx, .slice qa al.length ca] 38)); have ET := hid (jb (w.alloc (.cells #[.slice q1 p.jF.length c1, .slice q2 p.defs.length c2] 26)) #[.int .i64 k, .int .i64 pos, .string ⟨nm.toArray⟩, .int .i64 i0, .slice qn ns.length cn, .slice qx xs.length cx, .slice qa al.length ca] 38); have HB := hid (show Below w.heap.size w ((w.alloc (.cells #[.slice q1 p.jF.length c1, .slice q2 p.defs.length c2] 26)).alloc (.cells #[.int .i64 k, .int .i64 pos, .string ⟨nm.toArray⟩, .int .i64 i0, .slice qn ns.length cn, .slice qx xs.length cx, .slice qa al.length ca] 38)) from ((jD _ _).alloc (jB _) _).alloc (by simp) _); have hsz : ((w.alloc (.cells #[.slice q1 p.jF.length c1, .slice q2 p.defs.length c2] 26)).alloc (.cells #[.int .i64 k, .int .i64 pos, .string ⟨nm.toArray⟩, .int .i64 i0, .slice qn ns.length cn, .slice qx xs.length cx, .slice qa al.length ca] 38)).heap.size = w.heap.size + 2 := by simp
 rw [show (w.alloc (.cells #[.slice q1 p.jF.length c1, .slice q2 p.defs.length c2] 26)).heap.size = w.heap.size + 1 by simp] at ET; go_upto_region 1 with fail
 generalize (w.alloc (.cells #[.slice q1 p.jF.length c1, .slice q2 p.defs.length c2] 26)).alloc (.cells #[.int .i64 k, .int .i64 pos, .string ⟨nm.toArray⟩, .int .i64 i0, .slice qn ns.length cn, .slice qx xs.length cx, .slice qa al.length ca] 38) = w1 at EP ET HB hsz ⊢; have hsg := JS hsz.symm; clear hsz; go_upto_region 2 with fail
 go_cut [20] (fun o wx => o = .bool (decide (k = 1) && !Qi vars nm) /\ wx = w1)
 case first =>
  have e0 := xK ET 0 rfl; have e2 := xK ET 2 rfl; by_cases hk : k = 1
  . have hkb : ((k : Int) == 1) = true := by simp [hk]
    have uU := hid (Qf _ vars nm w1 (JM HS HB)); have HK := hid hk; clear hk; go_wp2_with fail; refine uU.out.mono ?_; rintro e w2 ⟨rfl, rfl⟩; go_wp2_with fail
    go_meet
    exact ⟨by rw [HK.out]; simp, rfl⟩
  . have hkb : ((k : Int) == 1) = false := qF.2 (by omega); have HK := hid hk; clear hk; go_wp2_with fail
    go_meet
    exact ⟨by rw [jl HK.out]; rfl, rfl⟩
 case rest =>
 obtain ⟨rfl, rfl⟩ := hcut
 have HH : Hid (VI p.jF vars k pos nm xs.length = if k = 2 then YV p.jF nm xs.length pos else one (decide (k = 1) && !Qi vars nm) pos) := hid (by
  unfold VI; by_cases h1 : k = 1
  . subst h1; simp
  . by_cases h2 : k = 2
    . simp [h2]
    . simp [h1, h2, one])
 obtain ⟨b0, hb0⟩ : ∃ b, (decide (k = 1) && !Qi vars nm) = b := ⟨_, rfl⟩
 rw [hb0] at HH ⊢; clear hb0; have HO := hid (Y0 wc (w.heap.size + 2))
 go_upto_if 20 with fail
 go_cut [7] (fun o wx => Hid (zW wx (w.heap.size + 2) o (one b0 pos)) /\ Hid (wx.heap[w.heap.size]? = some (.cells #[.slice q1 p.jF.length c1, .slice q2 p.defs.length c2] 26 (0, 0))) /\ Hid (wx.heap[w.heap.size + 1]? = some (.cells #[.int .i64 k, .int .i64 pos, .string ⟨nm.toArray⟩, .int .i64 i0, .slice qn ns.length cn, .slice qx xs.length cx, .slice qa al.length ca] 38 (0, 0))) /\ Hid (Below w.heap.size w wx))
 case first =>
  cases b0 with
  | true =>
    have y1 := xK ET 1 rfl; have HE := hid (jb wc #[.int .i64 (pos : Int)] 3); have QO := hid (show Below wc.heap.size wc (wc.alloc (.cells #[.int .i64 (pos : Int)] 3)) from (jD _ _).alloc (jB _) _); have Z8 := hid (jc HO QO); go_wp2_with (at_builtin; refine zK rfl (.tmp 21) (.tmp 24) rfl (w.heap.size + 2) _ [] rfl Z8 _ rfl [pos] (QY HE rfl rfl) (by simp) (by have := QO.out.size; omega) ?_); intro v7 w7 happ; have uJ := hid (happ.below Z8.out (HB.out.trans (QO.out.mono HB.out.size)) (by have := QO.out.size; omega) (by omega)); have Lu := hid (happ.at Z8.out (jM EP QO) (by omega)); have jAI := hid (happ.at Z8.out (jM ET QO) (by omega)); obtain ⟨p7, q7, rfl⟩ := jH happ.1; have Xl := hid happ.1; clear happ y1; go_wp2
    go_meet
    exact ⟨Xl, Lu, jAI, uJ⟩
  | false =>
    go_wp2_with fail
    go_meet
    exact ⟨HO, EP, ET, HB⟩
 case rest =>
 clear EP ET HB HO hsg; obtain ⟨HO, EP, ET, HB⟩ := hcut; obtain ⟨pb, cb, rfl⟩ := jH HO; obtain ⟨w2, hw2⟩ : ∃ x, x = wc := ⟨wc, rfl⟩
 subst hw2; have hsg := ji ET; have e0 := xK ET 0 rfl
 go_upto_if 28 with fail
 clear e0
 go_cut [7] (fun o wx => Hid (zW wx (w.heap.size + 2) o (VI p.jF vars k pos nm xs.length)) /\ Hid (wx.heap[w.heap.size]? = some (.cells #[.slice q1 p.jF.length c1, .slice q2 p.defs.length c2] 26 (0, 0))) /\ Hid (wx.heap[w.heap.size + 1]? = some (.cells #[.int .i64 k, .int .i64 pos, .string ⟨nm.toArray⟩, .int .i64 i0, .slice qn ns.length cn, .slice qx xs.length cx, .slice qa al.length ca] 38 (0, 0))) /\ Hid (Below w.heap.size w wx))
 case first =>
  by_cases hk : k = 2
  . have hkb : ((k : Int) == 2) = true := by simp [hk]
    have HK := hid (show VI p.jF vars k pos nm xs.length = YV p.jF nm xs.length pos by rw [HH.out, if_pos hk]); clear hk; obtain ⟨x0, x1⟩ := xQ2 EP; have e1 := xK ET 1 rfl; have e2 := xK ET 2 rfl; have e5 := xK ET 5 rfl; go_wp2_with fail; clear x0 x1 e1 e2 e5; refine (XO 50 p _ nm (xs.length : Int) pos w2 (qz HP HB) GQ).mono ?_; rintro e w3 ⟨v2, rfl, hb2, ho2⟩; have zV := hid (show zW w3 (w.heap.size + 2) v2 (YV p.jF nm xs.length pos) from zx ho2 (by omega)); have U9 := bE EP hb2; have sw := bE ET hb2; have HB2 := bT HB hb2; clear hb2 ho2; go_wp2_with fail
    go_meet
    exact ⟨hid (by rw [HK.out]; exact zV.out), U9, sw, HB2⟩
  . have hkb : ((k : Int) == 2) = false := qF.2 (by omega); have HK := hid (show VI p.jF vars k pos nm xs.length = one b0 pos by rw [HH.out, if_neg hk]); clear hk; go_wp2_with fail
    go_meet
    exact ⟨hid (by rw [HK.out]; exact HO.out), EP, ET, HB⟩
 case rest =>
 clear EP ET HB HO hsg HH; obtain ⟨HO, EP, ET, HB⟩ := hcut; obtain ⟨lh, hlh⟩ : ∃ l, VI p.jF vars k pos nm xs.length = l := ⟨_, rfl⟩
 have jCX := hid hlh; have CB : Hid (lh.length <= 1) := hid (by rw [<- hlh]; unfold VI; split; exact ZE _ _; split; exact UT _ _ _ _; simp); rw [hlh] at HO; clear hlh; obtain ⟨pc, cc, rfl⟩ := jH HO; obtain ⟨w3, hw3⟩ : ∃ x, x = wc := ⟨wc, rfl⟩
 subst hw3; have hsg := ji ET; have hnl : ns.length <= 400000 := by have := qC ns; have := Zj.out; omega
 have e4 := xK ET 4 rfl; go_wp2_with fail; clear e4; refine (Y1 _ ns w3 (JM HN HB) hnl).mono ?_; rintro e w4 ⟨rfl, hb4⟩; replace EP := bE EP hb4; replace ET := bE ET hb4; replace HB := bT HB hb4; replace HO := hid (jc HO hb4); have jAJ := ji ET; clear hb4 hsg; obtain ⟨b1, hb1⟩ : ∃ b, Qr ns = b := ⟨_, rfl⟩
 have HT0 := hid hb1; rw [hb1]; clear hb1
 go_upto_if 40 with fail
 go_cut [7] (fun o wx => Hid (zW wx (w.heap.size + 2) o (lh ++ one b1 pos)) /\ Hid (wx.heap[w.heap.size]? = some (.cells #[.slice q1 p.jF.length c1, .slice q2 p.defs.length c2] 26 (0, 0))) /\ Hid (wx.heap[w.heap.size + 1]? = some (.cells #[.int .i64 k, .int .i64 pos, .string ⟨nm.toArray⟩, .int .i64 i0, .slice qn ns.length cn, .slice qx xs.length cx, .slice qa al.length ca] 38 (0, 0))) /\ Hid (Below w.heap.size w wx))
 case first =>
  cases b1 with
  | true =>
    have y1 := xK ET 1 rfl; have HE := hid (jb w4 #[.int .i64 (pos : Int)] 3); have QO := hid (show Below w4.heap.size w4 (w4.alloc (.cells #[.int .i64 (pos : Int)] 3)) from (jD _ _).alloc (jB _) _); have Z8 := hid (jc HO QO); go_wp2_with (at_builtin; refine zK rfl (.tmp 41) (.tmp 44) rfl (w.heap.size + 2) _ _ rfl Z8 _ rfl [pos] (QY HE rfl rfl) (by simp; have := CB.out; omega) (by have := QO.out.size; omega) ?_); intro v7 w7 happ; have uJ := hid (happ.below Z8.out (HB.out.trans (QO.out.mono HB.out.size)) (by have := QO.out.size; omega) (by omega)); have Lu := hid (happ.at Z8.out (jM EP QO) (by omega)); have jAI := hid (happ.at Z8.out (jM ET QO) (by omega)); obtain ⟨p7, q7, rfl⟩ := jH happ.1; have Xl := hid happ.1; clear happ y1; go_wp2
    go_meet
    exact ⟨Xl, Lu, jAI, uJ⟩
  | false =>
    go_wp2_with fail
    go_meet
    exact ⟨hid (by rw [show one false pos = [] from rfl, Jl]; exact HO.out), EP, ET, HB⟩
 case rest =>
 clear EP ET HB HO jAJ; obtain ⟨HO, EP, ET, HB⟩ := hcut; obtain ⟨l0, hl0⟩ : ∃ l, lh ++ one b1 pos = l := ⟨_, rfl⟩
 have UD : Hid (l0.length <= 2) := hid (by rw [<- hl0, jE]; have := CB.out; have := ZE b1 pos; omega); have Yd : Hid (QT p.jF (f + 1) (.mk k pos nm i0 ns xs al) vars = (l0 ++ xs.flatMap fun y => QT p.jF f y (vars ++ ns)) ++ al.flatMap fun a => Zm p.jF f a.1 [] ++ QT p.jF f a.2 (vars ++ Sx.jV f a.1)) := hid (by rw [QT, jCX.out, HT0.out, hl0]); rw [hl0] at HO; clear hl0 jCX CB HT0; obtain ⟨pd, cd, rfl⟩ := jH HO; have hw1 := ji ET; have hb4 : vars.length <= 400000 := by have := Zj.out; omega
 obtain ⟨Z4, XZ⟩ : ∃ Z4 : List Nm, Z4 = vars ++ ns := ⟨_, rfl⟩
 have pO := hid XZ; have hinl : Z4.length <= vars.length + nw ns := by rw [XZ, jE]; have := qC ns; omega
 have Lm := hid hinl; clear XZ hinl; obtain ⟨wA, Bp⟩ : ∃ x, x = wc := ⟨wc, rfl⟩
 subst Bp; go_upto_region 8 with fail
 go_cut [8] (fun iv wx => Hid (QW wx wA.heap.size iv Z4) /\ Hid (Below wA.heap.size wA wx))
 case first =>
  refine jU (S := fun (u : World) => Below (w.heap.size + 2) wA u) (by kernel_rfl) ((jD _ _).drew) (fun hHeld => ?_); refine wS 1 (.slice qs vars.length cs) rfl hHeld ?_; refine wS 3 (.pointer (some ⟨w.heap.size + 1, 4, none⟩)) rfl hHeld ?_; refine wT 4 (.slice qn ns.length cn) rfl (Or.inl ⟨by rfl, fun w' hSw => by have h := jK ((hSw.block _ (by omega)).trans ET.out) 4 _ rfl; go_simp⟩) hHeld ?_
  try simp only [aP]
  refine wR 0 rfl (fun K hK => ?_); go_simp; have hb1 : Below wA.heap.size wA (wA.drew.alloc (.cells #[] 9)) := ((jD _ _).drew).alloc (jB _) _; have VP := hid (yH wA.drew); have HB1 := hid hb1; refine hK.out _ _ (hb1.mono (by omega)) (fun hHeld => ?_); clear hb1; clear hK K; refine wR 2 rfl (fun K hK => ?_); refine qc rfl (.tmp 46) (.tmp 47) rfl wA.heap.size _ [] rfl VP _ rfl vars (JM HS (HB.out.trans (HB1.out.mono (by omega)))) (by simp; omega) HB1.out.size ?_; intro v2 w2 ha2; have HB2 := hid (ha2.below VP.out HB1.out HB1.out.size (jB _)); have zV := hid ha2.1; refine hK.out _ _ (HB2.out.mono (by omega)) (fun hHeld => ?_); clear ha2; clear hK K; refine wR 5 rfl (fun K hK => ?_); refine qc rfl (.tmp 48) (.tmp 50) rfl wA.heap.size _ _ rfl zV _ rfl ns (JM HN (HB.out.trans (HB2.out.mono (by omega)))) (by have := qC ns; have := Zj.out; simp; omega) HB2.out.size ?_; intro v3 w3 Xt; have HB3 := hid (Xt.below zV.out HB2.out HB2.out.size (jB _)); have yQ := hid Xt.1; refine hK.out _ _ (HB3.out.mono (by omega)) (fun hHeld => ?_); clear Xt; clear hK K; refine wS 6 (v3) rfl hHeld ?_; simp only [aP]; refine wD ?_; go_wp2_with fail
  go_meet
  exact ⟨hid (by rw [pO.out]; exact yQ.out), HB3⟩
 case rest =>
 obtain ⟨HI, PX⟩ := hcut; obtain ⟨pi, ci, rfl⟩ := jH HI; replace HO := hid (jc HO PX); have HD : Hid (QW wc (w.heap.size + 2) (.slice pi Z4.length ci) Z4) := hid (UQ HI (by omega)); replace EP := hid (jM EP PX); replace ET := hid (jM ET PX); replace HB := hid (HB.out.trans (PX.out.mono (by omega))); clear HI PX; obtain ⟨wB, oC⟩ : ∃ x, x = wc := ⟨wc, rfl⟩
 subst oC
 have hxl : xs.length <= 400000 := by
  have h2 : xs.length <= (xs.map (Sx.ew f)).sum := by
   refine Sx.ZT _ _ (fun x hx => ?_)
   rcases HX.out with ⟨h0, _⟩ | ⟨_, _, _, _, _, _, h3⟩
   . subst h0; cases hx
   . obtain ⟨j, hj⟩ := ZQ.1 hx; obtain ⟨_, hu, _⟩ := h3 j x hj; cases f with
     | zero => exact hu.elim
     | succ f => cases x with | mk a b c d e g h => rw [Sx.ew]; omega
  have := Zj.out; omega
 have hal : al.length <= 400000 := by
  have h2 : al.length <= (al.map fun a => Sx.pw f a.1 + Sx.ew f a.2).sum := by
   refine Sx.ZT _ _ (fun x hx => ?_)
   rcases HA.out with ⟨h0, _⟩ | ⟨_, _, _, _, _, _, h3⟩
   . subst h0; cases hx
   . obtain ⟨j, hj⟩ := ZQ.1 hx; obtain ⟨_, hu, _⟩ := h3 j x hj; obtain ⟨_, _, _, _, _, _, _, _, _, _, _, _, _, _, dL⟩ := hu; cases f with
     | zero => exact dL.elim
     | succ f => obtain ⟨x1, x2⟩ := x; cases x2 with | mk a b c d e g h => show 1 <= _ + Sx.ew (f + 1) _; rw [Sx.ew]; omega
  have := Zj.out; omega
 go_wp2_with fail
 go_loopw [7, 9] (fun o j wx => ∃ (m : Nat) (l : List Nat), j = .int .i64 m /\ m <= xs.length /\ Hid (l = l0 ++ (xs.take m).flatMap (fun y => QT p.jF f y Z4)) /\ Hid (zW wx (w.heap.size + 2) o l) /\ Hid (QW wx (w.heap.size + 2) (.slice pi Z4.length ci) Z4) /\ Hid (wx.heap[w.heap.size]? = some (.cells #[.slice q1 p.jF.length c1, .slice q2 p.defs.length c2] 26 (0, 0))) /\ Hid (wx.heap[w.heap.size + 1]? = some (.cells #[.int .i64 k, .int .i64 pos, .string ⟨nm.toArray⟩, .int .i64 i0, .slice qn ns.length cn, .slice qx xs.length cx, .slice qa al.length ca] 38 (0, 0))) /\ Hid (Below w.heap.size w wx)) (fun _ j _ => xs.length - (intOf j).toNat)
 case atStart => exact ⟨0, l0, rfl, jh _, hid (by simp), HO, HD, EP, ET, HB⟩
 case round =>
  clear EP ET HB HO HD; obtain ⟨m, l, rfl, hm, HM, HO, HD, EP, ET, HB⟩ := hrel; have hs1 := ji ET; have e5 := xK ET 5 rfl; obtain ⟨va, uI, rfl⟩ := jH HO; by_cases hlt : m < xs.length
  . obtain ⟨y, hy⟩ : ∃ y, xs[m]? = some y := ⟨_, jA hlt⟩
    rcases HX.out with ⟨h0, _⟩ | ⟨g, of, c', hv, g1, g2, g3⟩
    . rw [h0] at hlt; simp at hlt
    injection hv with hq1 _ hq2
    subst hq1; subst hq2
    obtain ⟨u, hu, _, hcell⟩ := g3 m y hy; have HU := hid hu; obtain ⟨a0, a1, a2, a3, PY, PZ, Pb, Pf, Pg, Ph, Pj, Pk, Pm, rfl⟩ := zw hu
    have V4 := hid (fun (w' : World) (h : Below w.heap.size w w') =>
     have up : ∀ j z, (Value.agg #[.int .i64 a0, .int .i64 a1, .string a2, .int .i64 a3, .slice PY PZ Pb, .slice Pf Pg Ph, .slice Pj Pk Pm]).cells[j]? = some z -> w'.cell? ⟨g, of + m * 7 + j, none⟩ = some z := fun j z hz => jC h (hcell j z hz)
     (show w'.cell? ⟨g, of + m * 7, none⟩ = some (.int .i64 a0) /\ w'.cell? ⟨g, of + m * 7 + 1, none⟩ = some (.int .i64 a1) /\ w'.cell? ⟨g, of + m * 7 + 2, none⟩ = some (.string a2) /\ w'.cell? ⟨g, of + m * 7 + 3, none⟩ = some (.int .i64 a3) /\ w'.cell? ⟨g, of + m * 7 + 4, none⟩ = some (.slice PY PZ Pb) /\ w'.cell? ⟨g, of + m * 7 + 5, none⟩ = some (.slice Pf Pg Ph) /\ w'.cell? ⟨g, of + m * 7 + 6, none⟩ = some (.slice Pj Pk Pm) from ⟨up 0 _ rfl, up 1 _ rfl, up 2 _ rfl, up 3 _ rfl, up 4 _ rfl, up 5 _ rfl, up 6 _ rfl⟩))
    have hk1 : (m : Int) < (xs.length : Int) := by omega
    have hst := Sx.QD (Sx.ew f) xs m y hy; have HST := hid hst; have HT := hid (YT (fun y => QT p.jF f y Z4) xs m y hy)
    have Yn := hid (show l.length + (QT p.jF f y Z4).length <= 1000000000 by
     rw [HM.out, jE]; have h1 := FL (fun y => QT p.jF f y Z4) (Sx.ew f) xs m y hy (fun x => zQ p.jF f x Z4)
     try dsimp only at h1
     have h3 := UD.out
     have := Zj.out; omega)
    clear g1 g2 g3 hcell hu hy hst; go_wp2_with fail; clear e5; refine jU (S := fun (u : World) => Below (w.heap.size + 2) wr u) (by kernel_rfl) ((jD _ _).drew) (fun hHeld => ?_); refine wS 0 (.slice va l.length uI) rfl hHeld ?_; refine wT 1 (.agg #[.slice q1 p.jF.length c1, .slice q2 p.defs.length c2]) rfl (Or.inl ⟨by rfl, fun w' hSw => by have h0 := jK ((hSw.block _ (by omega)).trans EP.out) 0 _ rfl; have h1 := jK ((hSw.block _ (by omega)).trans EP.out) 1 _ rfl; go_simp⟩) hHeld ?_; refine wS 2 (.pointer (some ⟨w.heap.size + 1, 5, none⟩)) rfl hHeld ?_; refine wT 3 (.slice (some ⟨g, of, none⟩) xs.length cx) rfl (Or.inl ⟨by rfl, fun w' hSw => by have h := jK ((hSw.block _ (by omega)).trans ET.out) 5 _ rfl; go_simp⟩) hHeld ?_; refine wS 4 (.int .i64 m) rfl hHeld ?_; refine wS 5 (.pointer (some ⟨g, of + m * 7, none⟩)) rfl hHeld ?_; refine wT 6 (.agg #[.int .i64 a0, .int .i64 a1, .string a2, .int .i64 a3, .slice PY PZ Pb, .slice Pf Pg Ph, .slice Pj Pk Pm]) rfl (Or.inl ⟨by rfl, fun w' hSw => by obtain ⟨x0, x1, x2, x3, x4, x5, x6⟩ := V4.out w' (HB.out.trans (hSw.mono (by omega))); go_simp⟩) hHeld ?_; refine wS 7 (.slice pi Z4.length ci) rfl hHeld ?_
    try simp only [aP]
    refine wR 8 rfl (fun K hK => ?_); go_simp; refine (ih y _ _ _ Z4 wr.drew (qz HP HB.out.drew) GQ.out (JY HU HB.out.drew) (JM (Qc HD) ((jD _ _).drew)) (by have := HST.out; have := Zj.out; have := Lm.out; omega)).mono ?_; rintro e w5 ⟨v5, rfl, hb5, UR⟩; have zy := hid (show Below wr.heap.size wr w5 from Y9 hb5); have EM := hid (YR UR); have yM := hid (jc HO zy); have dM := hid (jM EP zy); have Po := hid (jM ET zy); have HD5 := hid (jc HD zy); refine hK.out _ _ (zy.out.mono (by omega)) (fun hHeld => ?_); clear hb5 UR; clear hK K; refine wR 9 rfl (fun K hK => ?_); refine ZI rfl (.tmp 59) (.tmp 67) rfl (w.heap.size + 2) _ _ rfl yM _ rfl _ EM (by have := Yn.out; omega) (by have := zy.out.size; omega) ?_; intro v6 w6 Z9; obtain ⟨p6, q6, rfl⟩ := jH Z9.1; have vD := hid (Z9.below yM.out (HB.out.trans (zy.out.mono (by omega))) (by have := zy.out.size; omega) (by omega)); have X9 := hid (Z9.below yM.out (zy.out.mono (B' := w.heap.size + 2) (by omega)) (by have := zy.out.size; omega) (jB _)); have Ed := hid (Z9.at yM.out dM.out (by omega)); have mU := hid (Z9.at yM.out Po.out (by omega)); have HD6 := hid (zg Z9 yM HD5); have uD := hid Z9.1; have Bq : Hid (l ++ QT p.jF f y Z4 = l0 ++ (xs.take (m + 1)).flatMap (fun y => QT p.jF f y Z4)) := hid (by rw [HT.out, HM.out, jg]); obtain ⟨l3, hl3⟩ : ∃ l3, l3 = l ++ QT p.jF f y Z4 := ⟨_, rfl⟩
    rw [<- hl3] at uD Bq ⊢; clear hl3 Z9 yM dM Po; refine hK.out _ _ X9.out (fun hHeld => ?_); clear hK K; refine wS 10 (.slice p6 l3.length q6) rfl hHeld ?_; simp only [aP]; refine wD ?_; go_wp2_with fail
    go_roundw
    case rel => exact ⟨m + 1, l3, by go_num, by omega, Bq, uD, HD6, Ed, mU, vD⟩
    case measure => simp [intOf]; omega
  . obtain rfl : m = xs.length := by omega
    obtain ⟨l1, hl1⟩ : ∃ l1, l1 = l := ⟨l, rfl⟩
    have EL : Hid (l1.length <= 2 + 2 * (xs.map (Sx.ew f)).sum) := hid (by
     rw [hl1, HM.out, jE, jY]; have h1 := ZO (fun y => QT p.jF f y Z4) (fun y => 2 * Sx.ew f y) xs (fun x _ => zQ p.jF f x Z4); rw [zQ.vO] at h1
     have := UD.out; omega)
    have Rp : Hid (QT p.jF (f + 1) (.mk k pos nm i0 ns xs al) vars = l1 ++ al.flatMap fun a => Zm p.jF f a.1 [] ++ QT p.jF f a.2 (vars ++ Sx.jV f a.1)) := hid (by rw [Yd.out, hl1, HM.out, jY, pO.out]); have HL2 : Hid (l = l1 ++ (al.take 0).flatMap (fun a => Zm p.jF f a.1 [] ++ QT p.jF f a.2 (vars ++ Sx.jV f a.1))) := hid (by rw [hl1]; simp); clear hl1 HM Yd HD UD; go_wp2_with fail; clear e5; obtain ⟨wC, jAK⟩ : ∃ x, x = wr := ⟨wr, rfl⟩
    subst jAK
    go_loopw [7, 10] (fun o j wx => ∃ (m : Nat) (l : List Nat), j = .int .i64 m /\ m <= al.length /\ Hid (l = l1 ++ (al.take m).flatMap (fun a => Zm p.jF f a.1 [] ++ QT p.jF f a.2 (vars ++ Sx.jV f a.1))) /\ Hid (zW wx (w.heap.size + 2) o l) /\ Hid (wx.heap[w.heap.size]? = some (.cells #[.slice q1 p.jF.length c1, .slice q2 p.defs.length c2] 26 (0, 0))) /\ Hid (wx.heap[w.heap.size + 1]? = some (.cells #[.int .i64 k, .int .i64 pos, .string ⟨nm.toArray⟩, .int .i64 i0, .slice qn ns.length cn, .slice qx xs.length cx, .slice qa al.length ca] 38 (0, 0))) /\ Hid (Below w.heap.size w wx)) (fun _ j _ => al.length - (intOf j).toNat)
    case atStart => exact ⟨0, l, rfl, jh _, HL2, HO, EP, ET, HB⟩
    case round =>
     clear EP ET HB HO HL2 hs1; obtain ⟨m, l, rfl, hm, HM, HO, EP, ET, HB⟩ := hrel; have hs1 := ji ET; have e6 := xK ET 6 rfl; obtain ⟨va, uI, rfl⟩ := jH HO; by_cases hlt : m < al.length
     . obtain ⟨⟨pt, ey⟩, hy⟩ : ∃ y, al[m]? = some y := ⟨_, jA hlt⟩
       rcases HA.out with ⟨h0, _⟩ | ⟨g, of, c', hv, g1, g2, g3⟩
       . rw [h0] at hlt; simp at hlt
       injection hv with hq1 _ hq2
       subst hq1; subst hq2
       obtain ⟨u, hu, _, hcell⟩ := g3 m _ hy; obtain ⟨a0, a1, a2, a3, a4, b0, b1, b2, b3, b4, b5, b6, rfl, hpt, dL⟩ := hu; have Pn := hid hpt; have Tt := hid dL
       have V4 := hid (fun (w' : World) (h : Below w.heap.size w w') =>
        have up : ∀ j z, (Value.agg #[a0, a1, a2, a3, a4, b0, b1, b2, b3, b4, b5, b6]).cells[j]? = some z -> w'.cell? ⟨g, of + m * 12 + j, none⟩ = some z := fun j z hz => jC h (hcell j z hz)
        (show w'.cell? ⟨g, of + m * 12, none⟩ = some a0 /\ w'.cell? ⟨g, of + m * 12 + 1, none⟩ = some a1 /\ w'.cell? ⟨g, of + m * 12 + 2, none⟩ = some a2 /\ w'.cell? ⟨g, of + m * 12 + 3, none⟩ = some a3 /\ w'.cell? ⟨g, of + m * 12 + 4, none⟩ = some a4 /\
          w'.cell? ⟨g, of + m * 12 + 5, none⟩ = some b0 /\ w'.cell? ⟨g, of + m * 12 + 5 + 1, none⟩ = some b1 /\ w'.cell? ⟨g, of + m * 12 + 5 + 2, none⟩ = some b2 /\ w'.cell? ⟨g, of + m * 12 + 5 + 3, none⟩ = some b3 /\ w'.cell? ⟨g, of + m * 12 + 5 + 4, none⟩ = some b4 /\ w'.cell? ⟨g, of + m * 12 + 5 + 5, none⟩ = some b5 /\ w'.cell? ⟨g, of + m * 12 + 5 + 6, none⟩ = some b6
          from ⟨up 0 _ rfl, up 1 _ rfl, up 2 _ rfl, up 3 _ rfl, up 4 _ rfl, up 5 _ rfl, up 6 _ rfl, up 7 _ rfl, up 8 _ rfl, up 9 _ rfl, up 10 _ rfl, up 11 _ rfl⟩))
       have hk1 : (m : Int) < (al.length : Int) := by omega
       have hst := Sx.QD (fun a : Px.QJ × Px.Expr => Sx.pw f a.1 + Sx.ew f a.2) al m _ hy; have pQ : Hid (Sx.pw f pt + Sx.ew f ey <= (al.map fun a => Sx.pw f a.1 + Sx.ew f a.2).sum) := hid (by dsimp only at hst; omega); have HT := hid (YT (fun a : Px.QJ × Px.Expr => Zm p.jF f a.1 [] ++ QT p.jF f a.2 (vars ++ Sx.jV f a.1)) al m _ hy)
       have Yn := hid (show l.length + (Zm p.jF f pt []).length + (QT p.jF f ey (vars ++ Sx.jV f pt)).length <= 1000000000 by
        rw [HM.out, jE]
        have h1 := FL (fun a : Px.QJ × Px.Expr => Zm p.jF f a.1 [] ++ QT p.jF f a.2 (vars ++ Sx.jV f a.1)) (fun a => Sx.pw f a.1 + Sx.ew f a.2) al m _ hy (fun x => by
         rw [jE]; have h5 := VZ p.jF f x.1 []; have h6 := zQ p.jF f x.2 (vars ++ Sx.jV f x.1)
         omega)
        try dsimp only at h1
        rw [jE] at h1; have h3 := EL.out
        have := Zj.out; omega)
       clear g1 g2 g3 hcell hpt dL hy hst; go_wp2_with fail; clear e6; refine jU (S := fun (u : World) => Below (w.heap.size + 2) wr u) (by kernel_rfl) ((jD _ _).drew) (fun hHeld => ?_); refine wS 0 (.slice va l.length uI) rfl hHeld ?_; refine wT 1 (.agg #[.slice q1 p.jF.length c1, .slice q2 p.defs.length c2]) rfl (Or.inl ⟨by rfl, fun w' hSw => by have h0 := jK ((hSw.block _ (by omega)).trans EP.out) 0 _ rfl; have h1 := jK ((hSw.block _ (by omega)).trans EP.out) 1 _ rfl; go_simp⟩) hHeld ?_; refine wS 2 (.pointer (some ⟨w.heap.size + 1, 6, none⟩)) rfl hHeld ?_; refine wT 3 (.slice (some ⟨g, of, none⟩) al.length ca) rfl (Or.inl ⟨by rfl, fun w' hSw => by have h := jK ((hSw.block _ (by omega)).trans ET.out) 6 _ rfl; go_simp⟩) hHeld ?_; refine wS 4 (.int .i64 m) rfl hHeld ?_; refine wS 5 (.pointer (some ⟨g, of + m * 12, none⟩)) rfl hHeld ?_; refine wS 6 (.pointer (some ⟨g, of + m * 12, none⟩)) rfl hHeld ?_; refine wT 7 (.agg #[a0, a1, a2, a3, a4]) rfl (Or.inl ⟨by rfl, fun w' hSw => by obtain ⟨x0, x1, x2, x3, x4, -, -, -, -, -, -, -⟩ := V4.out w' (HB.out.trans (hSw.mono (by omega))); go_simp⟩) hHeld ?_
       try simp only [aP]
       refine wR 8 rfl (fun K hK => ?_); go_simp; refine (Xd p f pt _ _ _ [] wr.drew (qz HP HB.out.drew) GQ (qB Pn HB.out.drew) (En _ _ _) (by have := pQ.out; have := Zj.out; simp; omega)).mono ?_; rintro e w5 ⟨v5, rfl, hb5, UR⟩; have zy := hid (show Below wr.heap.size wr w5 from Y9 hb5); have EM := hid (YR UR); have yM := hid (jc HO zy); have dM := hid (jM EP zy); have Po := hid (jM ET zy); refine hK.out _ _ (zy.out.mono (by omega)) (fun hHeld => ?_); clear hb5 UR; clear hK K; refine wR 9 rfl (fun K hK => ?_); refine ZI rfl (.tmp 76) (.tmp 84) rfl (w.heap.size + 2) _ _ rfl yM _ rfl _ EM (by have := Yn.out; omega) (by have := zy.out.size; omega) ?_; intro v6 w6 Z9; obtain ⟨p6, q6, rfl⟩ := jH Z9.1; have vD := hid (Z9.below yM.out (HB.out.trans (zy.out.mono (by omega))) (by have := zy.out.size; omega) (by omega)); have X9 := hid (Z9.below yM.out (zy.out.mono (B' := w.heap.size + 2) (by omega)) (by have := zy.out.size; omega) (jB _)); have Ed := hid (Z9.at yM.out dM.out (by omega)); have mU := hid (Z9.at yM.out Po.out (by omega)); have uD := hid Z9.1; obtain ⟨l3, hl3⟩ : ∃ l3, l3 = l ++ Zm p.jF f pt [] := ⟨_, rfl⟩
       replace gB := hid hl3; rw [<- hl3] at uD ⊢; clear hl3 Z9 yM dM Po; refine hK.out _ _ X9.out (fun hHeld => ?_); clear hK K; refine wS 10 (.slice p6 l3.length q6) rfl hHeld ?_; simp only [aP]; refine wD ?_; clear HO EP ET HB hs1; have hs1 := ji mU; go_wp2_with fail; refine jU (S := fun (u : World) => Below (w.heap.size + 2) w6 u) (by kernel_rfl) ((jD _ _).drew) (fun hHeld => ?_); refine wS 0 (.slice p6 l3.length q6) rfl hHeld ?_; refine wT 1 (.agg #[.slice q1 p.jF.length c1, .slice q2 p.defs.length c2]) rfl (Or.inl ⟨by rfl, fun w' hSw => by have h0 := jK ((hSw.block _ (by omega)).trans Ed.out) 0 _ rfl; have h1 := jK ((hSw.block _ (by omega)).trans Ed.out) 1 _ rfl; go_simp⟩) hHeld ?_; refine wS 2 (.pointer (some ⟨w.heap.size + 1, 6, none⟩)) rfl hHeld ?_; refine wT 3 (.slice (some ⟨g, of, none⟩) al.length ca) rfl (Or.inl ⟨by rfl, fun w' hSw => by have h := jK ((hSw.block _ (by omega)).trans mU.out) 6 _ rfl; go_simp⟩) hHeld ?_; refine wS 4 (.int .i64 m) rfl hHeld ?_; refine wS 5 (.pointer (some ⟨g, of + m * 12, none⟩)) rfl hHeld ?_; refine wS 6 (.pointer (some ⟨g, of + m * 12 + 5, none⟩)) rfl hHeld ?_; refine wT 7 (.agg #[b0, b1, b2, b3, b4, b5, b6]) rfl (Or.inl ⟨by rfl, fun w' hSw => by obtain ⟨-, -, -, -, -, x5, x6, x7, x8, x9, Tu, Tv⟩ := V4.out w' (vD.out.trans (hSw.mono (by omega))); go_simp⟩) hHeld ?_; refine wS 9 (.slice qs vars.length cs) rfl hHeld ?_; refine wS 11 (.pointer (some ⟨w.heap.size + 1, 6, none⟩)) rfl hHeld ?_; refine wT 12 (.slice (some ⟨g, of, none⟩) al.length ca) rfl (Or.inl ⟨by rfl, fun w' hSw => by have h := jK ((hSw.block _ (by omega)).trans mU.out) 6 _ rfl; go_simp⟩) hHeld ?_; refine wS 13 (.int .i64 m) rfl hHeld ?_; refine wS 14 (.pointer (some ⟨g, of + m * 12, none⟩)) rfl hHeld ?_; refine wS 15 (.pointer (some ⟨g, of + m * 12, none⟩)) rfl hHeld ?_; refine wT 16 (.agg #[a0, a1, a2, a3, a4]) rfl (Or.inl ⟨by rfl, fun w' hSw => by obtain ⟨x0, x1, x2, x3, x4, -, -, -, -, -, -, -⟩ := V4.out w' (vD.out.trans (hSw.mono (by omega))); go_simp⟩) hHeld ?_
       try simp only [aP]
       refine wR 8 rfl (fun K hK => ?_); go_simp; have hb1 : Below w6.heap.size w6 (w6.drew.alloc (.cells #[] 9)) := ((jD _ _).drew).alloc (jB _) _; have Xl := hid (yH w6.drew); have uJ := hid hb1; refine hK.out _ _ (hb1.mono (by omega)) (fun hHeld => ?_); clear hb1; clear hK K; refine wR 10 rfl (fun K hK => ?_); refine qc rfl (.tmp 94) (.tmp 95) rfl w6.heap.size _ [] rfl Xl _ rfl vars (JM HS (vD.out.trans (uJ.out.mono (by omega)))) (by simp; omega) uJ.out.size ?_; intro v8 w8 jAL; have WI := hid (jAL.below Xl.out uJ.out uJ.out.size (jB _)); have pg := hid jAL.1; refine hK.out _ _ (WI.out.mono (by omega)) (fun hHeld => ?_); clear jAL; clear hK K; refine wR 17 rfl (fun K hK => ?_); go_simp; refine (ze f pt _ w8 (qB Pn (vD.out.trans (WI.out.mono (by omega)))) (by have := pQ.out; have := Zj.out; omega)).mono ?_; rintro e w9 ⟨v9, rfl, jAM, SB⟩; have Cw := bT WI jAM; have jGJ := hid SB.now; have Oa := hid (jc pg jAM); refine hK.out _ _ (Cw.out.mono (by omega)) (fun hHeld => ?_); clear jAM SB; clear hK K; refine wR 18 rfl (fun K hK => ?_); refine qc rfl (.tmp 96) (.tmp 103) rfl w6.heap.size _ _ rfl Oa _ rfl (Sx.jV f pt) jGJ (by have h1 := qC (Sx.jV f pt); have h2 := Sx.zB f pt; have := pQ.out; have := Zj.out; simp; omega) Cw.out.size ?_; intro v10 jGK CE; have Rt := hid (CE.below Oa.out Cw.out Cw.out.size (jB _)); have jAN := hid CE.1; refine hK.out _ _ (Rt.out.mono (by omega)) (fun hHeld => ?_); clear CE; clear hK K; refine wR 19 rfl (fun K hK => ?_); go_simp; refine (ih ey _ _ _ (([] ++ vars) ++ Sx.jV f pt) jGK (qz HP (vD.out.trans (Rt.out.mono (by omega)))) GQ.out (JY Tt (vD.out.trans (Rt.out.mono (by omega)))) (Qc jAN) (by have h1 := qC (Sx.jV f pt); have h2 := Sx.zB f pt; have := pQ.out; have := Zj.out; simp; omega)).mono ?_; rintro e jJ1 ⟨v11, rfl, oO, oP⟩; have WK := bT Rt oO; have jAO := hid (YR oP); have pq := hid (jc uD WK); have jAP := hid (jM Ed WK); have jAQ := hid (jM mU WK); refine hK.out _ _ (WK.out.mono (by omega)) (fun hHeld => ?_); clear oO oP; clear hK K; refine wR 20 rfl (fun K hK => ?_); refine ZI rfl (.tmp 86) (.tmp 105) rfl (w.heap.size + 2) _ _ rfl pq _ rfl _ jAO (by have := Yn.out; rw [gB.out, jE, J6]; omega) (by have := WK.out.size; omega) ?_; intro vZ wZ CF; obtain ⟨pZ, qZ, rfl⟩ := jH CF.1; have De := hid (CF.below pq.out (vD.out.trans (WK.out.mono (by omega))) (by have := WK.out.size; omega) (by omega)); have jAR := hid (CF.below pq.out (WK.out.mono (B' := w.heap.size + 2) (by omega)) (by have := WK.out.size; omega) (jB _)); have jGL := hid (CF.at pq.out jAP.out (by omega)); have jGM := hid (CF.at pq.out jAQ.out (by omega)); have jCY := hid CF.1; have jCZ : Hid (l3 ++ QT p.jF f ey (([] ++ vars) ++ Sx.jV f pt) = l1 ++ (al.take (m + 1)).flatMap (fun a => Zm p.jF f a.1 [] ++ QT p.jF f a.2 (vars ++ Sx.jV f a.1))) := hid (by rw [HT.out, gB.out, HM.out, J6]; simp [jg]); obtain ⟨l5, hl5⟩ : ∃ l5, l5 = l3 ++ QT p.jF f ey (([] ++ vars) ++ Sx.jV f pt) := ⟨_, rfl⟩
       rw [<- hl5] at jCY jCZ ⊢; clear hl5 CF; refine hK.out _ _ jAR.out (fun hHeld => ?_); clear hK K; refine wS 21 (.slice pZ l5.length qZ) rfl hHeld ?_; simp only [aP]; refine wD ?_; go_wp2_with fail
       go_roundw
       case rel => exact ⟨m + 1, l5, by go_num, by omega, jCZ, jCY, jGL, jGM, De⟩
       case measure => simp [intOf]; omega
     . obtain rfl : m = al.length := by omega
       have HF := hid (show l = QT p.jF (f + 1) (.mk k pos nm i0 ns xs al) vars by rw [Rp.out, HM.out, jY]); go_wp2_with fail; go_ret; rw [<- HF.out]; exact ⟨_, rfl, HB.out, zx HO (by omega)⟩
theorem KC (p : Px.Prog) : ∀ f, cu p f
 | 0 => fun x pv xv sv vars w _ _ ht => ht.elim
 | f + 1 => Lt p f (KC p f)
end Go.Proofs.YtlnjdclmopblcaaDoor
