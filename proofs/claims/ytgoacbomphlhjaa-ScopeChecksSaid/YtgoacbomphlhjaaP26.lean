/-
  Several texts in one: SRPat, SRExpr.
-/
import Derived.Test.YtgoacbomphlhjaaP00
import Derived.Test.YtgoacbomphlhjaaP25
set_option linter.unusedVariables false
set_option linter.unusedSimpArgs false
namespace Go.Proofs.Ytgoacbomphlhjaa
open Go.Lib (hid)
open List renaming getElem_toArray → jX, getElem_cons_succ → jY, getElem_cons_zero → jZ, setIfInBounds_toArray → JA, set_cons_zero → JB, set_cons_succ → JC
open Go Go.RowKit
theorem patsW_snoc (g : Px.Pat → List Nm → List Nat) (b : Px.Pat → List Nm) (x : Px.Pat) : ∀ (l : List Px.Pat) (a : List Nm), patsW g b (l ++ [x]) a = patsW g b l a ++ g x (a ++ l.flatMap b)
 | [], a => by simp [patsW]
 | y :: r, a => by rw [List.cons_append, patsW, patsW, patsW_snoc g b x r, List.flatMap_cons, List.append_assoc, List.append_assoc]
theorem patsW_take (g : Px.Pat → List Nm → List Nat) (b : Px.Pat → List Nm) {l : List Px.Pat} {k : Nat} {x : Px.Pat} (h : l[k]? = some x) (a : List Nm) : patsW g b (l.take (k + 1)) a = patsW g b (l.take k) a ++ g x (a ++ (l.take k).flatMap b) := by
 rw [List.take_add_one, h, Option.toList_some, patsW_snoc]
theorem conW_len (ds : List Px.Data) (nm : Nm) (n : Int) (p : Nat) : (conW ds nm n p).length ≤ 1 := one_len _ _
theorem patsW_len (g : Px.Pat → List Nm → List Nat) (b : Px.Pat → List Nm) (h : Px.Pat → Nat) (hg : ∀ x a, (g x a).length ≤ h x) : ∀ (l : List Px.Pat) (a : List Nm), (patsW g b l a).length ≤ (l.map h).sum
 | [], a => by simp [patsW]
 | x :: r, a => by
   rw [patsW, List.length_append, List.map_cons, List.sum_cons]
   have h1 := hg x a
   have h2 := patsW_len g b h hg r (a ++ b x)
   omega
theorem patW_len (ds : List Px.Data) : ∀ (f : Nat) (x : Px.Pat) (a : List Nm), (patW ds f x a).length ≤ Sx.pw f x
 | 0, _, _ => by simp [patW]
 | f + 1, .mk k p nm i xs, a => by
   rw [patW, Sx.pw]
   split
   · simp; omega
   · rw [List.length_append]
     have h1 := patsW_len (patW ds f) (Sx.boundP f) (Sx.pw f) (fun x a => patW_len ds f x a) xs a
     have h2 : (if k = 3 then conW ds nm xs.length p else []).length ≤ 1 := by split; exact conW_len _ _ _ _; simp
     omega
/-- Names that were handed in, or that the call itself has put together. -/
def AhdAt (w : World) (B : Nat) (wr : World) (av : Value) (l : List Nm) : Prop := RowS w av l ∨ OwnS wr B av l
theorem AhdAt.row {w wr : World} {B : Nat} {av : Value} {l : List Nm} (h : AhdAt w B wr av l) (hb : Below w.heap.size w wr) : RowS wr av l := h.elim (fun h => jQ h hb) (fun h => rowS_own' h)
theorem AhdAt.below {w wr w' : World} {B : Nat} {av : Value} {l : List Nm} (h : AhdAt w B wr av l) (hb : Below wr.heap.size wr w') : AhdAt w B w' av l := h.imp id (fun h => jJ h hb)
theorem AhdAt.app {w wr w' : World} {B b : Nat} {av v v' : Value} {l : List Nm} {d d0 : List Nat} (h : AhdAt w B wr av l) (ha : Appd encI 3 wr b v d v' w') (ho : OwnI wr b v d0) : AhdAt w B w' av l := h.imp id (fun h => ownS_stays ha ho h)
theorem AhdAt.slice {w wr : World} {B : Nat} {av : Value} {l : List Nm} (h : AhdAt w B wr av l) : ∃ p c, av = .slice p l.length c := h.elim (fun h => h.len) (fun h => jF h)
def PatC (p : Px.Prog) (f : Nat) : Prop := ∀ (x : Px.Pat) (pv xv av : Value) (ahead : List Nm) (w : World), ProgAt 50 w pv p → (p.datas.map Sx.dw).sum ≤ 400000 → PatAt f w xv x → RowS w av ahead → ahead.length + Sx.pw f x ≤ 400000 →
 Calls Try.prog 52 #[pv, xv, av] w (RNewO w (patW p.datas f x ahead))
set_option maxHeartbeats 8000000 in
set_option maxRecDepth 100000 in
theorem pat_step (p : Px.Prog) (f : Nat) (ih : PatC p f) : PatC p (f + 1) := by
 intro x pv xv av ahead w hp hpw ht hs hw
 cases x with | mk k pos nm i0 xs =>
 obtain ⟨q1, c1, q2, c2, rfl⟩ := progAt_sh hp
 obtain ⟨xv, rfl, hx⟩ := ht
 obtain ⟨qt, ct, rfl⟩ := hx.len
 obtain ⟨qs, cs, rfl⟩ := hs.len
 have HP := hid hp; have HPW := hid hpw; have HX := hid hx; have HS := hid hs
 have HW : Hid (ahead.length + (1 + nm.length + (xs.map (Sx.pw f)).sum) ≤ 400000) := hid (by rw [Sx.pw] at hw; exact hw)
 clear hp hpw hx hs hw
 go_enter Try.func52, Try.ntmps52
 have EP := hid (jH (jI w #[.slice q1 p.datas.length c1, .slice q2 p.defs.length c2] 27) (.cells #[.int .i64 k, .int .i64 pos, .string ⟨nm.toArray⟩, .int .i64 i0, .slice qt xs.length ct] 94))
 have ET := hid (jI (w.alloc (.cells #[.slice q1 p.datas.length c1, .slice q2 p.defs.length c2] 27)) #[.int .i64 k, .int .i64 pos, .string ⟨nm.toArray⟩, .int .i64 i0, .slice qt xs.length ct] 94)
 have HB := hid (show Below w.heap.size w ((w.alloc (.cells #[.slice q1 p.datas.length c1, .slice q2 p.defs.length c2] 27)).alloc (.cells #[.int .i64 k, .int .i64 pos, .string ⟨nm.toArray⟩, .int .i64 i0, .slice qt xs.length ct] 94)) from ((Below.refl _ _).alloc (Nat.le_refl _) _).alloc (by simp) _)
 have hsz : ((w.alloc (.cells #[.slice q1 p.datas.length c1, .slice q2 p.defs.length c2] 27)).alloc (.cells #[.int .i64 k, .int .i64 pos, .string ⟨nm.toArray⟩, .int .i64 i0, .slice qt xs.length ct] 94)).heap.size = w.heap.size + 2 := by simp
 rw [show (w.alloc (.cells #[.slice q1 p.datas.length c1, .slice q2 p.defs.length c2] 27)).heap.size = w.heap.size + 1 by simp] at ET
 go_upto_region 1 with fail
 generalize (w.alloc (.cells #[.slice q1 p.datas.length c1, .slice q2 p.defs.length c2] 27)).alloc (.cells #[.int .i64 k, .int .i64 pos, .string ⟨nm.toArray⟩, .int .i64 i0, .slice qt xs.length ct] 94) = w1 at EP ET HB hsz ⊢
 go_cut [17] (fun o wx => o = .bool (decide (k = 1) && hasN ahead nm) ∧ wx = w1)
 case first =>
  have e0 := jA ET.out 0 _ rfl; have e2 := jA ET.out 2 _ rfl
  by_cases hk : k = 1
  · have hkb : ((k : Int) == 1) = true := by simp [hk]
    have HHAS := hid (refHas_any _ ahead nm w1 (jQ HS.out HB.out))
    have HK := hid hk
    clear hk
    go_wp2_with fail
    refine HHAS.out.mono ?_
    rintro e w2 ⟨rfl, rfl⟩
    go_wp2_with fail
    go_meet
    exact ⟨by rw [HK.out]; simp, rfl⟩
  · have hkb : ((k : Int) == 1) = false := beq_eq_false_iff_ne.2 (by omega)
    have HK := hid hk
    clear hk
    go_wp2_with fail
    go_meet
    exact ⟨by rw [decide_eq_false HK.out]; rfl, rfl⟩
 case rest =>
 obtain ⟨rfl, rfl⟩ := hcut
 have HL : Hid (patW p.datas (f + 1) (.mk k pos nm i0 xs) ahead = if (decide (k = 1) && hasN ahead nm) = true then [pos] else (if k = 3 then conW p.datas nm xs.length pos else []) ++ patsW (patW p.datas f) (Sx.boundP f) xs ahead) := hid (by rw [patW]; simp)
 obtain ⟨b0, hb0⟩ : ∃ b, (decide (k = 1) && hasN ahead nm) = b := ⟨_, rfl⟩
 rw [hb0] at HL ⊢
 clear hb0
 cases b0 with
 | true =>
   have e1 := jA ET.out 1 _ rfl
   have E3 := hid (jI wc #[encI pos] 3)
   go_wp2_with fail
   go_ret
   rw [HL.out]
   exact ⟨_, rfl, HB.out.alloc HB.out.size _, ownI_one (show (wc.alloc (.cells #[encI pos] 3)).heap[w.heap.size + 2]? = some (.cells #[encI pos] 3 (0, 0)) by rw [← hsz]; exact E3.out) (by omega)⟩
 | false =>
 have HLL := hid (show patW p.datas (f + 1) (.mk k pos nm i0 xs) ahead = (if k = 3 then conW p.datas nm xs.length pos else []) ++ patsW (patW p.datas f) (Sx.boundP f) xs ahead from HL.out)
 clear HL
 have e0 := jA ET.out 0 _ rfl
 go_upto_if 23 with fail
 clear e0
 go_cut [7] (fun o wx => Hid (OwnI wx (w.heap.size + 2) o (if k = 3 then conW p.datas nm xs.length pos else [])) ∧ Hid (wx.heap[w.heap.size]? = some (.cells #[.slice q1 p.datas.length c1, .slice q2 p.defs.length c2] 27 (0, 0))) ∧ Hid (wx.heap[w.heap.size + 1]? = some (.cells #[.int .i64 k, .int .i64 pos, .string ⟨nm.toArray⟩, .int .i64 i0, .slice qt xs.length ct] 94 (0, 0))) ∧ Hid (Below w.heap.size w wx))
 case first =>
  by_cases hk : k = 3
  · have hkb : ((k : Int) == 3) = true := by simp [hk]
    have HK := hid (show (if k = 3 then conW p.datas nm xs.length pos else []) = conW p.datas nm xs.length pos by rw [if_pos hk])
    clear hk
    have x0 := jA EP.out 0 _ rfl; have x1 := jA EP.out 1 _ rfl
    have e1 := jA ET.out 1 _ rfl; have e2 := jA ET.out 2 _ rfl; have e4 := jA ET.out 4 _ rfl
    go_wp2_with fail
    clear x0 x1 e1 e2 e4
    refine (refcon_any 50 p _ nm (xs.length : Int) pos wc (jP HP.out HB.out) HPW.out).mono ?_
    rintro e w2 ⟨v2, rfl, hb2, ho2⟩
    have HO2 := hid (show OwnI w2 (w.heap.size + 2) v2 (conW p.datas nm xs.length pos) from ownI_base ho2 (by omega))
    have EP2 := hid (jC EP.out hb2)
    have ET2 := hid (jC ET.out hb2)
    have HB2 := hid (HB.out.trans (hb2.mono HB.out.size))
    clear hb2 ho2
    go_wp2_with fail
    go_meet
    exact ⟨hid (by rw [HK.out]; exact HO2.out), EP2, ET2, HB2⟩
  · have hkb : ((k : Int) == 3) = false := beq_eq_false_iff_ne.2 (by omega)
    have HK := hid (show (if k = 3 then conW p.datas nm xs.length pos else []) = [] by rw [if_neg hk])
    clear hk
    go_wp2_with fail
    go_meet
    exact ⟨hid (by rw [HK.out]; exact ownI_nil _ _), EP, ET, HB⟩
 case rest =>
 clear EP ET HB hsz
 obtain ⟨HO, EP, ET, HB⟩ := hcut
 obtain ⟨l0, hl0⟩ : ∃ l, (if k = 3 then conW p.datas nm xs.length pos else []) = l := ⟨_, rfl⟩
 have HL0 : Hid (l0.length ≤ 1) := hid (by rw [← hl0]; split; exact conW_len _ _ _ _; simp)
 rw [hl0] at HO HLL
 clear hl0
 obtain ⟨pa, ca, rfl⟩ := jF HO.out
 obtain ⟨w4, hw4⟩ : ∃ x, x = wc := ⟨wc, rfl⟩
 subst hw4
 have HA : Hid (AhdAt w (w.heap.size + 2) w4 (.slice qs ahead.length cs) ahead) := hid (.inl HS.out)
 have hxl : xs.length ≤ 400000 := by
  have h2 : xs.length ≤ (xs.map (Sx.pw f)).sum := by
   refine Sx.len_sum _ _ (fun x hx => ?_)
   rcases HX.out with ⟨h0, _⟩ | ⟨_, _, _, _, _, _, h3⟩
   · subst h0; cases hx
   · obtain ⟨j, hj⟩ := List.mem_iff_getElem?.1 hx
     obtain ⟨_, hu, _⟩ := h3 j x hj
     cases f with
     | zero => exact hu.elim
     | succ f => cases x with | mk a b c d e => rw [Sx.pw]; omega
  have := HW.out; omega
 go_wp2_with fail
 go_loopw [2, 7, 8] (fun a o j wr => ∃ (m : Nat) (l : List Nat) (cur : List Nm), j = .int .i64 m ∧ m ≤ xs.length ∧ Hid (l = l0 ++ patsW (patW p.datas f) (Sx.boundP f) (xs.take m) ahead) ∧ Hid (cur = ahead ++ (xs.take m).flatMap (Sx.boundP f)) ∧ Hid (OwnI wr (w.heap.size + 2) o l) ∧ Hid (AhdAt w (w.heap.size + 2) wr a cur) ∧ Hid (wr.heap[w.heap.size]? = some (.cells #[.slice q1 p.datas.length c1, .slice q2 p.defs.length c2] 27 (0, 0))) ∧ Hid (wr.heap[w.heap.size + 1]? = some (.cells #[.int .i64 k, .int .i64 pos, .string ⟨nm.toArray⟩, .int .i64 i0, .slice qt xs.length ct] 94 (0, 0))) ∧ Hid (Below w.heap.size w wr)) (fun _ _ j _ => xs.length - (intOf j).toNat)
 case atStart => exact ⟨0, l0, ahead, rfl, Nat.zero_le _, hid (by simp [patsW]), hid (by simp), HO, HA, EP, ET, HB⟩
 case round =>
  clear EP ET HB HO HA
  obtain ⟨m, l, cur, rfl, hm, HM, HC, HO, HA, EP, ET, HB⟩ := hrel
  have hs1 := jK ET.out
  have e4 := jA ET.out 4 _ rfl
  obtain ⟨va, cva, rfl⟩ := jF HO.out
  obtain ⟨vc, cvc, rfl⟩ := HA.out.slice
  by_cases hlt : m < xs.length
  · obtain ⟨y, hy⟩ : ∃ y, xs[m]? = some y := ⟨_, List.getElem?_eq_getElem hlt⟩
    rcases HX.out with ⟨h0, _⟩ | ⟨g, of, c', hv, g1, g2, g3⟩
    · rw [h0] at hlt; simp at hlt
    injection hv with hq1 _ hq2
    subst hq1; subst hq2
    obtain ⟨u, hu, _, hcell⟩ := g3 m y hy
    have HU := hid hu
    obtain ⟨a0, a1, a2, a3, uq, un, uc, rfl⟩ := patAt_sh hu
    have hgl : g < w.heap.size := World.block_lt_of_cell? w _ (hcell 0 _ rfl)
    have HCL := hid (fun (w' : World) (h : Below w.heap.size w w') =>
     have up : ∀ j z, (Value.agg #[.int .i64 a0, .int .i64 a1, .string a2, .int .i64 a3, .slice uq un uc]).cells[j]? = some z → w'.cell? ⟨g, of + m * 5 + j, none⟩ = some z := fun j z hz => jE h (hcell j z hz)
     (show w'.cell? ⟨g, of + m * 5, none⟩ = some (.int .i64 a0) ∧ w'.cell? ⟨g, of + m * 5 + 1, none⟩ = some (.int .i64 a1) ∧ w'.cell? ⟨g, of + m * 5 + 2, none⟩ = some (.string a2) ∧ w'.cell? ⟨g, of + m * 5 + 3, none⟩ = some (.int .i64 a3) ∧ w'.cell? ⟨g, of + m * 5 + 4, none⟩ = some (.slice uq un uc) from ⟨up 0 _ rfl, up 1 _ rfl, up 2 _ rfl, up 3 _ rfl, up 4 _ rfl⟩))
    have hk1 : (m : Int) < (xs.length : Int) := by omega
    have hk2 : (xs.length : Int) ≤ (ct : Int) := by omega
    have hk3 := g2
    have hst := Sx.sum_take (Sx.pw f) xs m y hy
    have hcl : cur.length ≤ ahead.length + ((xs.take m).map (Sx.pw f)).sum := by
     have h1 := nw_len ((xs.take m).flatMap (Sx.boundP f))
     have h2 := Sx.nw_flat (Sx.boundP f) (Sx.pw f) (xs.take m) (fun x _ => Sx.nw_bound f x)
     rw [HC.out, List.length_append]; omega
    have HBW := hid (show cur.length + Sx.pw f y ≤ 400000 ∧ Sx.pw f y ≤ 400000 by have := HW.out; omega)
    have HT := hid (patsW_take (patW p.datas f) (Sx.boundP f) hy ahead)
    have HTC := hid (Sx.flat_take (Sx.boundP f) xs m y hy)
    have hlen : l.length + (patW p.datas f y cur).length ≤ 1000000000 := by
     rw [HM.out, List.length_append]
     have h1 := patsW_len (patW p.datas f) (Sx.boundP f) (Sx.pw f) (fun x a => patW_len p.datas f x a) (xs.take m) ahead
     have h2 := patW_len p.datas f y cur
     have h3 := HL0.out
     have := HW.out; omega
    have HLE := hid hlen
    clear g1 g2 g3 hcell hu hy hst hlen hcl
    go_wp2_with fail
    clear e4
    refine wp_region_held_drew (S := fun (u : World) => Below (w.heap.size + 2) wr u) (by kernel_rfl) ((Below.refl _ _).drew) (fun jM => ?_)
    refine wT 0 (.slice va l.length cva) rfl (Or.inl ⟨by rfl, fun w' hSw => by go_simp⟩) jM ?_
    refine wT 1 (.agg #[.slice q1 p.datas.length c1, .slice q2 p.defs.length c2]) rfl (Or.inl ⟨by rfl, fun w' hSw => by have h0 := jA ((hSw.block _ (by omega)).trans EP.out) 0 _ rfl; have h1 := jA ((hSw.block _ (by omega)).trans EP.out) 1 _ rfl; go_simp⟩) jM ?_
    refine wT 2 (.pointer (some ⟨w.heap.size + 1, 4, none⟩)) rfl (Or.inl ⟨by rfl, fun w' hSw => by go_simp⟩) jM ?_
    refine wT 3 (.slice (some ⟨g, of, none⟩) xs.length ct) rfl (Or.inl ⟨by rfl, fun w' hSw => by have h := jA ((hSw.block _ (by omega)).trans ET.out) 4 _ rfl; go_simp⟩) jM ?_
    refine wT 4 (.int .i64 m) rfl (Or.inl ⟨by rfl, fun w' hSw => by go_simp⟩) jM ?_
    refine wT 5 (.pointer (some ⟨g, of + m * 5, none⟩)) rfl (Or.inl ⟨by rfl, fun w' hSw => by go_simp⟩) jM ?_
    refine wT 6 (.agg #[.int .i64 a0, .int .i64 a1, .string a2, .int .i64 a3, .slice uq un uc]) rfl (Or.inl ⟨by rfl, fun w' hSw => by obtain ⟨x0, x1, x2, x3, x4⟩ := HCL.out w' (HB.out.trans (hSw.mono (by omega))); go_simp⟩) jM ?_
    refine wT 7 (.slice vc cur.length cvc) rfl (Or.inl ⟨by rfl, fun w' hSw => by go_simp⟩) jM ?_
    try simp only [Act.put, jX, jY, jZ, JA, JB, JC]
    refine wpAnyH_ready (rs := [8]) (by kernel_rfl) (by simp) ?_
    refine AllReadyH.cons rfl (fun K hK => ?_) AllReadyH.nil
    go_simp
    refine (ih y _ _ _ cur wr.drew (jP HP.out HB.out.drew) HPW.out (patAt_below HU.out HB.out.drew) ((HA.out.below (Below.refl _ _).drew).row HB.out.drew) HBW.out.1).mono ?_
    rintro e w5 ⟨v5, rfl, hb5, ho5⟩
    have HB5 := hid (show Below wr.heap.size wr w5 from undrew hb5)
    have HN5 := hid (ownI_row ho5)
    have HO5 := hid (jJ HO.out HB5.out)
    have EP5 := hid (jC EP.out HB5.out)
    have ET5 := hid (jC ET.out HB5.out)
    have HA5 := hid (HA.out.below HB5.out)
    refine hK.out _ _ (HB5.out.mono (by omega)) (fun jM => ?_)
    clear hb5 ho5
    clear hK K
    refine wpAnyH_ready (rs := [9]) (by kernel_rfl) (by simp) ?_
    refine AllReadyH.cons rfl (fun K hK => ?_) AllReadyH.nil
    refine step_app_i rfl (.tmp 40) (.tmp 48) rfl (w.heap.size + 2) _ _ rfl HO5.out _ rfl _ HN5.out HLE.out (by have := HB5.out.size; omega) ?_
    intro v6 w6 ha6
    obtain ⟨p6, q6, rfl⟩ := jF ha6.1
    have HB6 := hid (ha6.below HO5.out (HB.out.trans (HB5.out.mono (by omega))) (by have := HB5.out.size; omega) (by omega))
    have HB6' := hid (ha6.below HO5.out (HB5.out.mono (B' := w.heap.size + 2) (by omega)) (by have := HB5.out.size; omega) (Nat.le_refl _))
    have EP6 := hid (ha6.at HO5.out EP5.out (by omega))
    have ET6 := hid (ha6.at HO5.out ET5.out (by omega))
    have HA6 := hid (HA5.out.app ha6 HO5.out)
    have HO6 := hid ha6.1
    have HT6 : Hid (l ++ patW p.datas f y cur = l0 ++ patsW (patW p.datas f) (Sx.boundP f) (xs.take (m + 1)) ahead) := hid (by rw [HT.out, HM.out, List.append_assoc, HC.out])
    obtain ⟨l3, hl3⟩ : ∃ l3, l3 = l ++ patW p.datas f y cur := ⟨_, rfl⟩
    rw [← hl3] at HO6 HT6 ⊢
    clear hl3 ha6 HO5 HA5 EP5 ET5
    refine hK.out _ _ HB6'.out (fun jM => ?_)
    clear hK K
    refine wT 10 (.slice p6 l3.length q6) rfl (Or.inl ⟨by rfl, fun w' hSw => by go_simp⟩) jM ?_
    simp only [Act.put, jX, jY, jZ, JA, JB, JC]
    refine wpAnyH_done (by kernel_rfl) ?_ _
    clear HO EP ET HB HA hs1
    have hs1 := jK ET6.out
    have hcl4 := HBW.out
    go_wp2_with fail
    refine wp_region_held_drew (S := fun (u : World) => Below (w.heap.size + 2) w6 u) (by kernel_rfl) ((Below.refl _ _).drew) (fun jM => ?_)
    refine wT 1 (.slice vc cur.length cvc) rfl (Or.inl ⟨by rfl, fun w' hSw => by go_simp⟩) jM ?_
    refine wT 3 (.pointer (some ⟨w.heap.size + 1, 4, none⟩)) rfl (Or.inl ⟨by rfl, fun w' hSw => by go_simp⟩) jM ?_
    refine wT 4 (.slice (some ⟨g, of, none⟩) xs.length ct) rfl (Or.inl ⟨by rfl, fun w' hSw => by have h := jA ((hSw.block _ (by omega)).trans ET6.out) 4 _ rfl; go_simp⟩) jM ?_
    refine wT 5 (.int .i64 m) rfl (Or.inl ⟨by rfl, fun w' hSw => by go_simp⟩) jM ?_
    refine wT 6 (.pointer (some ⟨g, of + m * 5, none⟩)) rfl (Or.inl ⟨by rfl, fun w' hSw => by go_simp⟩) jM ?_
    refine wT 7 (.agg #[.int .i64 a0, .int .i64 a1, .string a2, .int .i64 a3, .slice uq un uc]) rfl (Or.inl ⟨by rfl, fun w' hSw => by obtain ⟨x0, x1, x2, x3, x4⟩ := HCL.out w' (HB6.out.trans (hSw.mono (by omega))); go_simp⟩) jM ?_
    try simp only [Act.put, jX, jY, jZ, JA, JB, JC]
    refine wpAnyH_ready (rs := [0]) (by kernel_rfl) (by simp) ?_
    refine AllReadyH.cons rfl (fun K hK => ?_) AllReadyH.nil
    go_simp
    have hb1 : Below w6.heap.size w6 (w6.drew.alloc (.cells #[] 9)) := ((Below.refl _ _).drew).alloc (Nat.le_refl _) _
    have HO1 := hid (own_empty w6.drew)
    have HB1 := hid hb1
    refine hK.out _ _ (hb1.mono (by omega)) (fun jM => ?_)
    clear hb1
    clear hK K
    refine wpAnyH_ready (rs := [2]) (by kernel_rfl) (by simp) ?_
    refine AllReadyH.cons rfl (fun K hK => ?_) AllReadyH.nil
    refine step_app_s rfl (.tmp 50) (.tmp 51) rfl w6.heap.size _ [] rfl HO1.out _ rfl cur ((HA6.out.below HB1.out).row (HB6.out.trans (HB1.out.mono (by omega)))) (by simp; omega) HB1.out.size ?_
    intro v2 w7 ha2
    have HB7 := hid (ha2.below HO1.out HB1.out HB1.out.size (Nat.le_refl _))
    have HO7 := hid ha2.1
    refine hK.out _ _ (HB7.out.mono (by omega)) (fun jM => ?_)
    clear ha2
    clear hK K
    refine wpAnyH_ready (rs := [8]) (by kernel_rfl) (by simp) ?_
    refine AllReadyH.cons rfl (fun K hK => ?_) AllReadyH.nil
    go_simp
    refine (refBound_any f y _ w7 (patAt_below HU.out (HB6.out.trans (HB7.out.mono (by omega)))) HBW.out.2).mono ?_
    rintro e w8 ⟨v8, rfl, hb8, hnew8⟩
    have HB8 := hid (HB7.out.trans (hb8.mono HB7.out.size))
    have HN8 := hid hnew8.now
    have HO8 := hid (jJ HO7.out hb8)
    refine hK.out _ _ (HB8.out.mono (by omega)) (fun jM => ?_)
    clear hb8 hnew8
    clear hK K
    refine wpAnyH_ready (rs := [9]) (by kernel_rfl) (by simp) ?_
    refine AllReadyH.cons rfl (fun K hK => ?_) AllReadyH.nil
    refine step_app_s rfl (.tmp 52) (.tmp 58) rfl w6.heap.size _ _ rfl HO8.out _ rfl (Sx.boundP f y) HN8.out (by have h1 := nw_len (Sx.boundP f y); have h2 := Sx.nw_bound f y; simp; omega) HB8.out.size ?_
    intro v9 w9 ha9
    obtain ⟨p9, q9, rfl⟩ := jF ha9.1
    have HX9 := hid (ha9.below HO8.out HB8.out HB8.out.size (Nat.le_refl _))
    have HB9 := hid (HB6.out.trans (HX9.out.mono (by omega)))
    have EP9 := hid (jC EP6.out HX9.out)
    have ET9 := hid (jC ET6.out HX9.out)
    have HO9 := hid (jJ HO6.out HX9.out)
    have HC2 : Hid (([] ++ cur) ++ Sx.boundP f y = ahead ++ (xs.take (m + 1)).flatMap (Sx.boundP f)) := hid (by rw [HTC.out, HC.out, List.nil_append, List.append_assoc])
    have HA9 : Hid (AhdAt w (w.heap.size + 2) w9 (.slice p9 (([] ++ cur) ++ Sx.boundP f y).length q9) (([] ++ cur) ++ Sx.boundP f y)) := hid (.inr (own_base ha9.1 (by omega)))
    obtain ⟨cur2, hc2⟩ : ∃ c2, c2 = ([] ++ cur) ++ Sx.boundP f y := ⟨_, rfl⟩
    rw [← hc2] at HC2 HA9 ⊢
    clear hc2 ha9
    refine hK.out _ _ (HX9.out.mono (by omega)) (fun jM => ?_)
    clear hK K
    refine wT 10 (.slice p9 cur2.length q9) rfl (Or.inl ⟨by rfl, fun w' hSw => by go_simp⟩) jM ?_
    simp only [Act.put, jX, jY, jZ, JA, JB, JC]
    refine wpAnyH_done (by kernel_rfl) ?_ _
    go_wp2_with fail
    go_roundw
    case rel => exact ⟨m + 1, l3, cur2, by go_num, by omega, HT6, HC2, HO9, HA9, EP9, ET9, HB9⟩
    case measure => simp [intOf]; omega
  · obtain rfl : m = xs.length := by omega
    have HF := hid (show l = patW p.datas (f + 1) (.mk k pos nm i0 xs) ahead by rw [HLL.out, HM.out, List.take_length])
    go_wp2_with fail
    go_ret
    rw [← HF.out]
    exact ⟨_, rfl, HB.out, ownI_base HO.out (by omega)⟩
theorem refpat_any (p : Px.Prog) : ∀ f, PatC p f
 | 0 => fun x pv xv av ahead w _ _ ht => ht.elim
 | f + 1 => pat_step p f (refpat_any p f)
end Go.Proofs.Ytgoacbomphlhjaa

namespace Go.Proofs.Ytgoacbomphlhjaa
open Go.Lib (hid)
open List renaming getElem_toArray → jX, getElem_cons_succ → jY, getElem_cons_zero → jZ, setIfInBounds_toArray → JA, set_cons_zero → JB, set_cons_succ → JC
open Go Go.RowKit
theorem exprW_len (ds : List Px.Data) : ∀ (f : Nat) (x : Px.Expr) (a : List Nm), (exprW ds f x a).length ≤ 2 * Sx.ew f x
 | 0, _, _ => by simp [exprW]
 | f + 1, .mk k p nm i ns xs al, a => by
   rw [exprW, Sx.ew, List.length_append, List.length_append, List.length_append]
   have h1 : (exprH ds a k p nm xs.length).length ≤ 1 := by unfold exprH; split; exact one_len _ _; split; exact conW_len _ _ _ _; simp
   have h2 := one_len (twiceB ns) p
   have h3 := flat_len (fun y => exprW ds f y (a ++ ns)) (fun y => 2 * Sx.ew f y) xs (fun x _ => exprW_len ds f x _)
   have h4 := flat_len (fun b : Px.Pat × Px.Expr => patW ds f b.1 [] ++ exprW ds f b.2 (a ++ Sx.boundP f b.1)) (fun b => 2 * (Sx.pw f b.1 + Sx.ew f b.2)) al (fun b _ => by
    rw [List.length_append]
    have h5 := patW_len ds f b.1 []
    have h6 := exprW_len ds f b.2 (a ++ Sx.boundP f b.1)
    omega)
   have h7 : (xs.map fun y => 2 * Sx.ew f y).sum = 2 * (xs.map (Sx.ew f)).sum := two_sum (Sx.ew f) xs
   have h8 : (al.map fun b => 2 * (Sx.pw f b.1 + Sx.ew f b.2)).sum = 2 * (al.map fun b => Sx.pw f b.1 + Sx.ew f b.2).sum := two_sum (fun b : Px.Pat × Px.Expr => Sx.pw f b.1 + Sx.ew f b.2) al
   omega
where two_sum {α : Type} (g : α → Nat) : ∀ (l : List α), (l.map fun y => 2 * g y).sum = 2 * (l.map g).sum
 | [] => rfl
 | a :: r => by rw [List.map_cons, List.sum_cons, two_sum g r, List.map_cons, List.sum_cons]; omega
theorem flat_le {α : Type} (g : α → List Nat) (h : α → Nat) (l : List α) (k : Nat) (x : α) (hx : l[k]? = some x) (hg : ∀ x, (g x).length ≤ 2 * h x) : ((l.take k).flatMap g).length + (g x).length ≤ 2 * (l.map h).sum := by
 have h1 := flat_len g (fun y => 2 * h y) (l.take k) (fun x _ => hg x)
 have h2 := Sx.sum_take h l k x hx
 have h3 := exprW_len.two_sum h (l.take k)
 have h4 := hg x
 omega
def ExpC (p : Px.Prog) (f : Nat) : Prop := ∀ (x : Px.Expr) (pv xv sv : Value) (vars : List Nm) (w : World), ProgAt 50 w pv p → (p.datas.map Sx.dw).sum ≤ 400000 → ExprAt f w xv x → RowS w sv vars → vars.length + Sx.ew f x ≤ 400000 →
 Calls Try.prog 27 #[pv, xv, sv] w (RNewO w (exprW p.datas f x vars))
set_option maxHeartbeats 8000000 in
set_option maxRecDepth 100000 in
theorem expw_step (p : Px.Prog) (f : Nat) (ih : ExpC p f) : ExpC p (f + 1) := by
 intro x pv xv sv vars w hp hpw ht hs hw
 cases x with | mk k pos nm i0 ns xs al =>
 obtain ⟨q1, c1, q2, c2, rfl⟩ := progAt_sh hp
 obtain ⟨nv, xv, av, rfl, hn, hx, ha⟩ := ht
 obtain ⟨qn, cn, rfl⟩ := hn.len
 obtain ⟨qx, cx, rfl⟩ := hx.len
 obtain ⟨qa, ca, rfl⟩ := ha.len
 obtain ⟨qs, cs, rfl⟩ := hs.len
 have HP := hid hp; have HPW := hid hpw; have HX := hid hx; have HA := hid ha; have HS := hid hs; have HN := hid hn
 have HBW : Hid (vars.length + nw ns + (xs.map (Sx.ew f)).sum + (al.map fun a => Sx.pw f a.1 + Sx.ew f a.2).sum ≤ 400000) := hid (by rw [Sx.ew] at hw; omega)
 clear hp hpw hx ha hs hn hw
 go_enter Try.func27, Try.ntmps27
 have EP := hid (jH (jI w #[.slice q1 p.datas.length c1, .slice q2 p.defs.length c2] 27) (.cells #[.int .i64 k, .int .i64 pos, .string ⟨nm.toArray⟩, .int .i64 i0, .slice qn ns.length cn, .slice qx xs.length cx, .slice qa al.length ca] 53))
 have ET := hid (jI (w.alloc (.cells #[.slice q1 p.datas.length c1, .slice q2 p.defs.length c2] 27)) #[.int .i64 k, .int .i64 pos, .string ⟨nm.toArray⟩, .int .i64 i0, .slice qn ns.length cn, .slice qx xs.length cx, .slice qa al.length ca] 53)
 have HB := hid (show Below w.heap.size w ((w.alloc (.cells #[.slice q1 p.datas.length c1, .slice q2 p.defs.length c2] 27)).alloc (.cells #[.int .i64 k, .int .i64 pos, .string ⟨nm.toArray⟩, .int .i64 i0, .slice qn ns.length cn, .slice qx xs.length cx, .slice qa al.length ca] 53)) from ((Below.refl _ _).alloc (Nat.le_refl _) _).alloc (by simp) _)
 have hsz : ((w.alloc (.cells #[.slice q1 p.datas.length c1, .slice q2 p.defs.length c2] 27)).alloc (.cells #[.int .i64 k, .int .i64 pos, .string ⟨nm.toArray⟩, .int .i64 i0, .slice qn ns.length cn, .slice qx xs.length cx, .slice qa al.length ca] 53)).heap.size = w.heap.size + 2 := by simp
 rw [show (w.alloc (.cells #[.slice q1 p.datas.length c1, .slice q2 p.defs.length c2] 27)).heap.size = w.heap.size + 1 by simp] at ET
 go_upto_region 1 with fail
 generalize (w.alloc (.cells #[.slice q1 p.datas.length c1, .slice q2 p.defs.length c2] 27)).alloc (.cells #[.int .i64 k, .int .i64 pos, .string ⟨nm.toArray⟩, .int .i64 i0, .slice qn ns.length cn, .slice qx xs.length cx, .slice qa al.length ca] 53) = w1 at EP ET HB hsz ⊢
 have hsg := Nat.le_of_eq hsz.symm
 clear hsz
 go_upto_region 2 with fail
 go_cut [20] (fun o wx => o = .bool (decide (k = 1) && !hasN vars nm) ∧ wx = w1)
 case first =>
  have e0 := jA ET.out 0 _ rfl; have e2 := jA ET.out 2 _ rfl
  by_cases hk : k = 1
  · have hkb : ((k : Int) == 1) = true := by simp [hk]
    have HHAS := hid (refHas_any _ vars nm w1 (jQ HS.out HB.out))
    have HK := hid hk
    clear hk
    go_wp2_with fail
    refine HHAS.out.mono ?_
    rintro e w2 ⟨rfl, rfl⟩
    go_wp2_with fail
    go_meet
    exact ⟨by rw [HK.out]; simp, rfl⟩
  · have hkb : ((k : Int) == 1) = false := beq_eq_false_iff_ne.2 (by omega)
    have HK := hid hk
    clear hk
    go_wp2_with fail
    go_meet
    exact ⟨by rw [decide_eq_false HK.out]; rfl, rfl⟩
 case rest =>
 obtain ⟨rfl, rfl⟩ := hcut
 have HH : Hid (exprH p.datas vars k pos nm xs.length = if k = 2 then conW p.datas nm xs.length pos else one (decide (k = 1) && !hasN vars nm) pos) := hid (by
  unfold exprH
  by_cases h1 : k = 1
  · subst h1; simp
  · by_cases h2 : k = 2
    · simp [h2]
    · simp [h1, h2, one])
 obtain ⟨b0, hb0⟩ : ∃ b, (decide (k = 1) && !hasN vars nm) = b := ⟨_, rfl⟩
 rw [hb0] at HH ⊢
 clear hb0
 have HO := hid (ownI_nil wc (w.heap.size + 2))
 go_upto_if 20 with fail
 go_cut [7] (fun o wx => Hid (OwnI wx (w.heap.size + 2) o (one b0 pos)) ∧ Hid (wx.heap[w.heap.size]? = some (.cells #[.slice q1 p.datas.length c1, .slice q2 p.defs.length c2] 27 (0, 0))) ∧ Hid (wx.heap[w.heap.size + 1]? = some (.cells #[.int .i64 k, .int .i64 pos, .string ⟨nm.toArray⟩, .int .i64 i0, .slice qn ns.length cn, .slice qx xs.length cx, .slice qa al.length ca] 53 (0, 0))) ∧ Hid (Below w.heap.size w wx))
 case first =>
  cases b0 with
  | true =>
    have y1 := jA ET.out 1 _ rfl
    have HE := hid (jI wc #[.int .i64 (pos : Int)] 3)
    have HBA := hid (show Below wc.heap.size wc (wc.alloc (.cells #[.int .i64 (pos : Int)] 3)) from (Below.refl _ _).alloc (Nat.le_refl _) _)
    have HON := hid (jJ HO.out HBA.out)
    go_wp2_with (at_builtin; refine list_app_i rfl (.tmp 21) (.tmp 24) rfl (w.heap.size + 2) _ [] rfl HON.out _ rfl [pos] (row_cell HE.out rfl rfl) (by simp) (by have := HBA.out.size; omega) ?_)
    intro v7 w7 happ
    have HB7 := hid (happ.below HON.out (HB.out.trans (HBA.out.mono HB.out.size)) (by have := HBA.out.size; omega) (by omega))
    have EP7 := hid (happ.at HON.out (jC EP.out HBA.out) (by omega))
    have ET7 := hid (happ.at HON.out (jC ET.out HBA.out) (by omega))
    obtain ⟨p7, q7, rfl⟩ := jF happ.1
    have HO7 := hid happ.1
    clear happ y1
    go_wp2
    go_meet
    exact ⟨HO7, EP7, ET7, HB7⟩
  | false =>
    go_wp2_with fail
    go_meet
    exact ⟨HO, EP, ET, HB⟩
 case rest =>
 clear EP ET HB HO hsg
 obtain ⟨HO, EP, ET, HB⟩ := hcut
 obtain ⟨pb, cb, rfl⟩ := jF HO.out
 obtain ⟨w2, hw2⟩ : ∃ x, x = wc := ⟨wc, rfl⟩
 subst hw2
 have hsg := jK ET.out
 have e0 := jA ET.out 0 _ rfl
 go_upto_if 28 with fail
 clear e0
 go_cut [7] (fun o wx => Hid (OwnI wx (w.heap.size + 2) o (exprH p.datas vars k pos nm xs.length)) ∧ Hid (wx.heap[w.heap.size]? = some (.cells #[.slice q1 p.datas.length c1, .slice q2 p.defs.length c2] 27 (0, 0))) ∧ Hid (wx.heap[w.heap.size + 1]? = some (.cells #[.int .i64 k, .int .i64 pos, .string ⟨nm.toArray⟩, .int .i64 i0, .slice qn ns.length cn, .slice qx xs.length cx, .slice qa al.length ca] 53 (0, 0))) ∧ Hid (Below w.heap.size w wx))
 case first =>
  by_cases hk : k = 2
  · have hkb : ((k : Int) == 2) = true := by simp [hk]
    have HK := hid (show exprH p.datas vars k pos nm xs.length = conW p.datas nm xs.length pos by rw [HH.out, if_pos hk])
    clear hk
    have x0 := jA EP.out 0 _ rfl; have x1 := jA EP.out 1 _ rfl
    have e1 := jA ET.out 1 _ rfl; have e2 := jA ET.out 2 _ rfl; have e5 := jA ET.out 5 _ rfl
    go_wp2_with fail
    clear x0 x1 e1 e2 e5
    refine (refcon_any 50 p _ nm (xs.length : Int) pos w2 (jP HP.out HB.out) HPW.out).mono ?_
    rintro e w3 ⟨v2, rfl, hb2, ho2⟩
    have HO2 := hid (show OwnI w3 (w.heap.size + 2) v2 (conW p.datas nm xs.length pos) from ownI_base ho2 (by omega))
    have EP2 := hid (jC EP.out hb2)
    have ET2 := hid (jC ET.out hb2)
    have HB2 := hid (HB.out.trans (hb2.mono HB.out.size))
    clear hb2 ho2
    go_wp2_with fail
    go_meet
    exact ⟨hid (by rw [HK.out]; exact HO2.out), EP2, ET2, HB2⟩
  · have hkb : ((k : Int) == 2) = false := beq_eq_false_iff_ne.2 (by omega)
    have HK := hid (show exprH p.datas vars k pos nm xs.length = one b0 pos by rw [HH.out, if_neg hk])
    clear hk
    go_wp2_with fail
    go_meet
    exact ⟨hid (by rw [HK.out]; exact HO.out), EP, ET, HB⟩
 case rest =>
 clear EP ET HB HO hsg HH
 obtain ⟨HO, EP, ET, HB⟩ := hcut
 obtain ⟨lh, hlh⟩ : ∃ l, exprH p.datas vars k pos nm xs.length = l := ⟨_, rfl⟩
 have HLH := hid hlh
 have HLH1 : Hid (lh.length ≤ 1) := hid (by rw [← hlh]; unfold exprH; split; exact one_len _ _; split; exact conW_len _ _ _ _; simp)
 rw [hlh] at HO
 clear hlh
 obtain ⟨pc, cc, rfl⟩ := jF HO.out
 obtain ⟨w3, hw3⟩ : ∃ x, x = wc := ⟨wc, rfl⟩
 subst hw3
 have hsg := jK ET.out
 have hnl : ns.length ≤ 400000 := by have := nw_len ns; have := HBW.out; omega
 have e4 := jA ET.out 4 _ rfl
 go_wp2_with fail
 clear e4
 refine (twice_any _ ns w3 (jQ HN.out HB.out) hnl).mono ?_
 rintro e w4 ⟨rfl, hb4⟩
 replace EP := hid (jC EP.out hb4)
 replace ET := hid (jC ET.out hb4)
 replace HB := hid (HB.out.trans (hb4.mono HB.out.size))
 replace HO := hid (jJ HO.out hb4)
 have hsg4 := jK ET.out
 clear hb4 hsg
 obtain ⟨b1, hb1⟩ : ∃ b, twiceB ns = b := ⟨_, rfl⟩
 have HT0 := hid hb1
 rw [hb1]
 clear hb1
 go_upto_if 40 with fail
 go_cut [7] (fun o wx => Hid (OwnI wx (w.heap.size + 2) o (lh ++ one b1 pos)) ∧ Hid (wx.heap[w.heap.size]? = some (.cells #[.slice q1 p.datas.length c1, .slice q2 p.defs.length c2] 27 (0, 0))) ∧ Hid (wx.heap[w.heap.size + 1]? = some (.cells #[.int .i64 k, .int .i64 pos, .string ⟨nm.toArray⟩, .int .i64 i0, .slice qn ns.length cn, .slice qx xs.length cx, .slice qa al.length ca] 53 (0, 0))) ∧ Hid (Below w.heap.size w wx))
 case first =>
  cases b1 with
  | true =>
    have y1 := jA ET.out 1 _ rfl
    have HE := hid (jI w4 #[.int .i64 (pos : Int)] 3)
    have HBA := hid (show Below w4.heap.size w4 (w4.alloc (.cells #[.int .i64 (pos : Int)] 3)) from (Below.refl _ _).alloc (Nat.le_refl _) _)
    have HON := hid (jJ HO.out HBA.out)
    go_wp2_with (at_builtin; refine list_app_i rfl (.tmp 41) (.tmp 44) rfl (w.heap.size + 2) _ _ rfl HON.out _ rfl [pos] (row_cell HE.out rfl rfl) (by simp; have := HLH1.out; omega) (by have := HBA.out.size; omega) ?_)
    intro v7 w7 happ
    have HB7 := hid (happ.below HON.out (HB.out.trans (HBA.out.mono HB.out.size)) (by have := HBA.out.size; omega) (by omega))
    have EP7 := hid (happ.at HON.out (jC EP.out HBA.out) (by omega))
    have ET7 := hid (happ.at HON.out (jC ET.out HBA.out) (by omega))
    obtain ⟨p7, q7, rfl⟩ := jF happ.1
    have HO7 := hid happ.1
    clear happ y1
    go_wp2
    go_meet
    exact ⟨HO7, EP7, ET7, HB7⟩
  | false =>
    go_wp2_with fail
    go_meet
    exact ⟨hid (by rw [show one false pos = [] from rfl, List.append_nil]; exact HO.out), EP, ET, HB⟩
 case rest =>
 clear EP ET HB HO hsg4
 obtain ⟨HO, EP, ET, HB⟩ := hcut
 obtain ⟨l0, hl0⟩ : ∃ l, lh ++ one b1 pos = l := ⟨_, rfl⟩
 have HL0 : Hid (l0.length ≤ 2) := hid (by rw [← hl0, List.length_append]; have := HLH1.out; have := one_len b1 pos; omega)
 have HLL : Hid (exprW p.datas (f + 1) (.mk k pos nm i0 ns xs al) vars = (l0 ++ xs.flatMap fun y => exprW p.datas f y (vars ++ ns)) ++ al.flatMap fun a => patW p.datas f a.1 [] ++ exprW p.datas f a.2 (vars ++ Sx.boundP f a.1)) := hid (by rw [exprW, HLH.out, HT0.out, hl0])
 rw [hl0] at HO
 clear hl0 HLH HLH1 HT0
 obtain ⟨pd, cd, rfl⟩ := jF HO.out
 have hw1 := jK ET.out
 have hb4 : vars.length ≤ 400000 := by have := HBW.out; omega
 obtain ⟨inn, hinn⟩ : ∃ inn : List Nm, inn = vars ++ ns := ⟨_, rfl⟩
 have HINN := hid hinn
 have hinl : inn.length ≤ vars.length + nw ns := by rw [hinn, List.length_append]; have := nw_len ns; omega
 have HINL := hid hinl
 clear hinn hinl
 obtain ⟨wA, hwA⟩ : ∃ x, x = wc := ⟨wc, rfl⟩
 subst hwA
 go_upto_region 8 with fail
 go_cut [8] (fun iv wx => Hid (OwnS wx wA.heap.size iv inn) ∧ Hid (Below wA.heap.size wA wx))
 case first =>
  refine wp_region_held_drew (S := fun (u : World) => Below (w.heap.size + 2) wA u) (by kernel_rfl) ((Below.refl _ _).drew) (fun jM => ?_)
  refine wT 1 (.slice qs vars.length cs) rfl (Or.inl ⟨by rfl, fun w' hSw => by go_simp⟩) jM ?_
  refine wT 3 (.pointer (some ⟨w.heap.size + 1, 4, none⟩)) rfl (Or.inl ⟨by rfl, fun w' hSw => by go_simp⟩) jM ?_
  refine wT 4 (.slice qn ns.length cn) rfl (Or.inl ⟨by rfl, fun w' hSw => by have h := jA ((hSw.block _ (by omega)).trans ET.out) 4 _ rfl; go_simp⟩) jM ?_
  try simp only [Act.put, jX, jY, jZ, JA, JB, JC]
  refine wpAnyH_ready (rs := [0]) (by kernel_rfl) (by simp) ?_
  refine AllReadyH.cons rfl (fun K hK => ?_) AllReadyH.nil
  go_simp
  have hb1 : Below wA.heap.size wA (wA.drew.alloc (.cells #[] 9)) := ((Below.refl _ _).drew).alloc (Nat.le_refl _) _
  have HO1 := hid (own_empty wA.drew)
  have HB1 := hid hb1
  refine hK.out _ _ (hb1.mono (by omega)) (fun jM => ?_)
  clear hb1
  clear hK K
  refine wpAnyH_ready (rs := [2]) (by kernel_rfl) (by simp) ?_
  refine AllReadyH.cons rfl (fun K hK => ?_) AllReadyH.nil
  refine step_app_s rfl (.tmp 46) (.tmp 47) rfl wA.heap.size _ [] rfl HO1.out _ rfl vars (jQ HS.out (HB.out.trans (HB1.out.mono (by omega)))) (by simp; omega) HB1.out.size ?_
  intro v2 w2 ha2
  have HB2 := hid (ha2.below HO1.out HB1.out HB1.out.size (Nat.le_refl _))
  have HO2 := hid ha2.1
  refine hK.out _ _ (HB2.out.mono (by omega)) (fun jM => ?_)
  clear ha2
  clear hK K
  refine wpAnyH_ready (rs := [5]) (by kernel_rfl) (by simp) ?_
  refine AllReadyH.cons rfl (fun K hK => ?_) AllReadyH.nil
  refine step_app_s rfl (.tmp 48) (.tmp 50) rfl wA.heap.size _ _ rfl HO2.out _ rfl ns (jQ HN.out (HB.out.trans (HB2.out.mono (by omega)))) (by have := nw_len ns; have := HBW.out; simp; omega) HB2.out.size ?_
  intro v3 w3 ha3
  have HB3 := hid (ha3.below HO2.out HB2.out HB2.out.size (Nat.le_refl _))
  have HO3 := hid ha3.1
  refine hK.out _ _ (HB3.out.mono (by omega)) (fun jM => ?_)
  clear ha3
  clear hK K
  refine wT 6 (v3) rfl (Or.inl ⟨by rfl, fun w' hSw => by go_simp⟩) jM ?_
  simp only [Act.put, jX, jY, jZ, JA, JB, JC]
  refine wpAnyH_done (by kernel_rfl) ?_ _
  go_wp2_with fail
  go_meet
  exact ⟨hid (by rw [HINN.out]; exact HO3.out), HB3⟩
 case rest =>
 obtain ⟨HI, HBI⟩ := hcut
 obtain ⟨pi, ci, rfl⟩ := jF HI.out
 replace HO := hid (jJ HO.out HBI.out)
 have HD : Hid (OwnS wc (w.heap.size + 2) (.slice pi inn.length ci) inn) := hid (own_base HI.out (by omega))
 replace EP := hid (jC EP.out HBI.out)
 replace ET := hid (jC ET.out HBI.out)
 replace HB := hid (HB.out.trans (HBI.out.mono (by omega)))
 clear HI HBI
 obtain ⟨wB, hwB⟩ : ∃ x, x = wc := ⟨wc, rfl⟩
 subst hwB
 have hxl : xs.length ≤ 400000 := by
  have h2 : xs.length ≤ (xs.map (Sx.ew f)).sum := by
   refine Sx.len_sum _ _ (fun x hx => ?_)
   rcases HX.out with ⟨h0, _⟩ | ⟨_, _, _, _, _, _, h3⟩
   · subst h0; cases hx
   · obtain ⟨j, hj⟩ := List.mem_iff_getElem?.1 hx
     obtain ⟨_, hu, _⟩ := h3 j x hj
     cases f with
     | zero => exact hu.elim
     | succ f => cases x with | mk a b c d e g h => rw [Sx.ew]; omega
  have := HBW.out; omega
 have hal : al.length ≤ 400000 := by
  have h2 : al.length ≤ (al.map fun a => Sx.pw f a.1 + Sx.ew f a.2).sum := by
   refine Sx.len_sum _ _ (fun x hx => ?_)
   rcases HA.out with ⟨h0, _⟩ | ⟨_, _, _, _, _, _, h3⟩
   · subst h0; cases hx
   · obtain ⟨j, hj⟩ := List.mem_iff_getElem?.1 hx
     obtain ⟨_, hu, _⟩ := h3 j x hj
     obtain ⟨_, _, _, _, _, _, _, _, _, _, _, _, _, _, hey⟩ := hu
     cases f with
     | zero => exact hey.elim
     | succ f => obtain ⟨x1, x2⟩ := x; cases x2 with | mk a b c d e g h => show 1 ≤ _ + Sx.ew (f + 1) _; rw [Sx.ew]; omega
  have := HBW.out; omega
 go_wp2_with fail
 go_loopw [7, 9] (fun o j wx => ∃ (m : Nat) (l : List Nat), j = .int .i64 m ∧ m ≤ xs.length ∧ Hid (l = l0 ++ (xs.take m).flatMap (fun y => exprW p.datas f y inn)) ∧ Hid (OwnI wx (w.heap.size + 2) o l) ∧ Hid (OwnS wx (w.heap.size + 2) (.slice pi inn.length ci) inn) ∧ Hid (wx.heap[w.heap.size]? = some (.cells #[.slice q1 p.datas.length c1, .slice q2 p.defs.length c2] 27 (0, 0))) ∧ Hid (wx.heap[w.heap.size + 1]? = some (.cells #[.int .i64 k, .int .i64 pos, .string ⟨nm.toArray⟩, .int .i64 i0, .slice qn ns.length cn, .slice qx xs.length cx, .slice qa al.length ca] 53 (0, 0))) ∧ Hid (Below w.heap.size w wx)) (fun _ j _ => xs.length - (intOf j).toNat)
 case atStart => exact ⟨0, l0, rfl, Nat.zero_le _, hid (by simp), HO, HD, EP, ET, HB⟩
 case round =>
  clear EP ET HB HO HD
  obtain ⟨m, l, rfl, hm, HM, HO, HD, EP, ET, HB⟩ := hrel
  have hs1 := jK ET.out
  have e5 := jA ET.out 5 _ rfl
  obtain ⟨va, cva, rfl⟩ := jF HO.out
  by_cases hlt : m < xs.length
  · obtain ⟨y, hy⟩ : ∃ y, xs[m]? = some y := ⟨_, List.getElem?_eq_getElem hlt⟩
    rcases HX.out with ⟨h0, _⟩ | ⟨g, of, c', hv, g1, g2, g3⟩
    · rw [h0] at hlt; simp at hlt
    injection hv with hq1 _ hq2
    subst hq1; subst hq2
    obtain ⟨u, hu, _, hcell⟩ := g3 m y hy
    have HU := hid hu
    obtain ⟨a0, a1, a2, a3, uq1, un1, uc1, uq2, un2, uc2, uq3, un3, uc3, rfl⟩ := exprAt_sh hu
    have hgl : g < w.heap.size := World.block_lt_of_cell? w _ (hcell 0 _ rfl)
    have HCL := hid (fun (w' : World) (h : Below w.heap.size w w') =>
     have up : ∀ j z, (Value.agg #[.int .i64 a0, .int .i64 a1, .string a2, .int .i64 a3, .slice uq1 un1 uc1, .slice uq2 un2 uc2, .slice uq3 un3 uc3]).cells[j]? = some z → w'.cell? ⟨g, of + m * 7 + j, none⟩ = some z := fun j z hz => jE h (hcell j z hz)
     (show w'.cell? ⟨g, of + m * 7, none⟩ = some (.int .i64 a0) ∧ w'.cell? ⟨g, of + m * 7 + 1, none⟩ = some (.int .i64 a1) ∧ w'.cell? ⟨g, of + m * 7 + 2, none⟩ = some (.string a2) ∧ w'.cell? ⟨g, of + m * 7 + 3, none⟩ = some (.int .i64 a3) ∧ w'.cell? ⟨g, of + m * 7 + 4, none⟩ = some (.slice uq1 un1 uc1) ∧ w'.cell? ⟨g, of + m * 7 + 5, none⟩ = some (.slice uq2 un2 uc2) ∧ w'.cell? ⟨g, of + m * 7 + 6, none⟩ = some (.slice uq3 un3 uc3) from ⟨up 0 _ rfl, up 1 _ rfl, up 2 _ rfl, up 3 _ rfl, up 4 _ rfl, up 5 _ rfl, up 6 _ rfl⟩))
    have hk1 : (m : Int) < (xs.length : Int) := by omega
    have hk2 : (xs.length : Int) ≤ (cx : Int) := by omega
    have hk3 := g2
    have hst := Sx.sum_take (Sx.ew f) xs m y hy
    have HST := hid hst
    have HT := hid (flatN_take (fun y => exprW p.datas f y inn) xs m y hy)
    have HLE := hid (show l.length + (exprW p.datas f y inn).length ≤ 1000000000 by
     rw [HM.out, List.length_append]
     have h1 := flat_le (fun y => exprW p.datas f y inn) (Sx.ew f) xs m y hy (fun x => exprW_len p.datas f x inn)
     try dsimp only at h1
     have h3 := HL0.out
     have := HBW.out; omega)
    clear g1 g2 g3 hcell hu hy hst
    go_wp2_with fail
    clear e5
    refine wp_region_held_drew (S := fun (u : World) => Below (w.heap.size + 2) wr u) (by kernel_rfl) ((Below.refl _ _).drew) (fun jM => ?_)
    refine wT 0 (.slice va l.length cva) rfl (Or.inl ⟨by rfl, fun w' hSw => by go_simp⟩) jM ?_
    refine wT 1 (.agg #[.slice q1 p.datas.length c1, .slice q2 p.defs.length c2]) rfl (Or.inl ⟨by rfl, fun w' hSw => by have h0 := jA ((hSw.block _ (by omega)).trans EP.out) 0 _ rfl; have h1 := jA ((hSw.block _ (by omega)).trans EP.out) 1 _ rfl; go_simp⟩) jM ?_
    refine wT 2 (.pointer (some ⟨w.heap.size + 1, 5, none⟩)) rfl (Or.inl ⟨by rfl, fun w' hSw => by go_simp⟩) jM ?_
    refine wT 3 (.slice (some ⟨g, of, none⟩) xs.length cx) rfl (Or.inl ⟨by rfl, fun w' hSw => by have h := jA ((hSw.block _ (by omega)).trans ET.out) 5 _ rfl; go_simp⟩) jM ?_
    refine wT 4 (.int .i64 m) rfl (Or.inl ⟨by rfl, fun w' hSw => by go_simp⟩) jM ?_
    refine wT 5 (.pointer (some ⟨g, of + m * 7, none⟩)) rfl (Or.inl ⟨by rfl, fun w' hSw => by go_simp⟩) jM ?_
    refine wT 6 (.agg #[.int .i64 a0, .int .i64 a1, .string a2, .int .i64 a3, .slice uq1 un1 uc1, .slice uq2 un2 uc2, .slice uq3 un3 uc3]) rfl (Or.inl ⟨by rfl, fun w' hSw => by obtain ⟨x0, x1, x2, x3, x4, x5, x6⟩ := HCL.out w' (HB.out.trans (hSw.mono (by omega))); go_simp⟩) jM ?_
    refine wT 7 (.slice pi inn.length ci) rfl (Or.inl ⟨by rfl, fun w' hSw => by go_simp⟩) jM ?_
    try simp only [Act.put, jX, jY, jZ, JA, JB, JC]
    refine wpAnyH_ready (rs := [8]) (by kernel_rfl) (by simp) ?_
    refine AllReadyH.cons rfl (fun K hK => ?_) AllReadyH.nil
    go_simp
    refine (ih y _ _ _ inn wr.drew (jP HP.out HB.out.drew) HPW.out (exprAt_below HU.out HB.out.drew) (jQ (rowS_own' HD.out) ((Below.refl _ _).drew)) (by have := HST.out; have := HBW.out; have := HINL.out; omega)).mono ?_
    rintro e w5 ⟨v5, rfl, hb5, ho5⟩
    have HB5 := hid (show Below wr.heap.size wr w5 from undrew hb5)
    have HN5 := hid (ownI_row ho5)
    have HO5 := hid (jJ HO.out HB5.out)
    have EP5 := hid (jC EP.out HB5.out)
    have ET5 := hid (jC ET.out HB5.out)
    have HD5 := hid (jJ HD.out HB5.out)
    refine hK.out _ _ (HB5.out.mono (by omega)) (fun jM => ?_)
    clear hb5 ho5
    clear hK K
    refine wpAnyH_ready (rs := [9]) (by kernel_rfl) (by simp) ?_
    refine AllReadyH.cons rfl (fun K hK => ?_) AllReadyH.nil
    refine step_app_i rfl (.tmp 59) (.tmp 67) rfl (w.heap.size + 2) _ _ rfl HO5.out _ rfl _ HN5.out (by have := HLE.out; omega) (by have := HB5.out.size; omega) ?_
    intro v6 w6 ha6
    obtain ⟨p6, q6, rfl⟩ := jF ha6.1
    have HB6 := hid (ha6.below HO5.out (HB.out.trans (HB5.out.mono (by omega))) (by have := HB5.out.size; omega) (by omega))
    have HB6' := hid (ha6.below HO5.out (HB5.out.mono (B' := w.heap.size + 2) (by omega)) (by have := HB5.out.size; omega) (Nat.le_refl _))
    have EP6 := hid (ha6.at HO5.out EP5.out (by omega))
    have ET6 := hid (ha6.at HO5.out ET5.out (by omega))
    have HD6 := hid (ownS_stays ha6 HO5.out HD5.out)
    have HO6 := hid ha6.1
    have HT6 : Hid (l ++ exprW p.datas f y inn = l0 ++ (xs.take (m + 1)).flatMap (fun y => exprW p.datas f y inn)) := hid (by rw [HT.out, HM.out, List.append_assoc])
    obtain ⟨l3, hl3⟩ : ∃ l3, l3 = l ++ exprW p.datas f y inn := ⟨_, rfl⟩
    rw [← hl3] at HO6 HT6 ⊢
    clear hl3 ha6 HO5 EP5 ET5
    refine hK.out _ _ HB6'.out (fun jM => ?_)
    clear hK K
    refine wT 10 (.slice p6 l3.length q6) rfl (Or.inl ⟨by rfl, fun w' hSw => by go_simp⟩) jM ?_
    simp only [Act.put, jX, jY, jZ, JA, JB, JC]
    refine wpAnyH_done (by kernel_rfl) ?_ _
    go_wp2_with fail
    go_roundw
    case rel => exact ⟨m + 1, l3, by go_num, by omega, HT6, HO6, HD6, EP6, ET6, HB6⟩
    case measure => simp [intOf]; omega
  · obtain rfl : m = xs.length := by omega
    obtain ⟨l1, hl1⟩ : ∃ l1, l1 = l := ⟨l, rfl⟩
    have HL1L : Hid (l1.length ≤ 2 + 2 * (xs.map (Sx.ew f)).sum) := hid (by
     rw [hl1, HM.out, List.length_append, List.take_length]
     have h1 := flat_len (fun y => exprW p.datas f y inn) (fun y => 2 * Sx.ew f y) xs (fun x _ => exprW_len p.datas f x inn)
     rw [exprW_len.two_sum] at h1
     have := HL0.out; omega)
    have HLL2 : Hid (exprW p.datas (f + 1) (.mk k pos nm i0 ns xs al) vars = l1 ++ al.flatMap fun a => patW p.datas f a.1 [] ++ exprW p.datas f a.2 (vars ++ Sx.boundP f a.1)) := hid (by rw [HLL.out, hl1, HM.out, List.take_length, HINN.out])
    have HL2 : Hid (l = l1 ++ (al.take 0).flatMap (fun a => patW p.datas f a.1 [] ++ exprW p.datas f a.2 (vars ++ Sx.boundP f a.1))) := hid (by rw [hl1]; simp)
    clear hl1 HM HLL HD HL0
    go_wp2_with fail
    clear e5
    obtain ⟨wC, hwC⟩ : ∃ x, x = wr := ⟨wr, rfl⟩
    subst hwC
    go_loopw [7, 10] (fun o j wx => ∃ (m : Nat) (l : List Nat), j = .int .i64 m ∧ m ≤ al.length ∧ Hid (l = l1 ++ (al.take m).flatMap (fun a => patW p.datas f a.1 [] ++ exprW p.datas f a.2 (vars ++ Sx.boundP f a.1))) ∧ Hid (OwnI wx (w.heap.size + 2) o l) ∧ Hid (wx.heap[w.heap.size]? = some (.cells #[.slice q1 p.datas.length c1, .slice q2 p.defs.length c2] 27 (0, 0))) ∧ Hid (wx.heap[w.heap.size + 1]? = some (.cells #[.int .i64 k, .int .i64 pos, .string ⟨nm.toArray⟩, .int .i64 i0, .slice qn ns.length cn, .slice qx xs.length cx, .slice qa al.length ca] 53 (0, 0))) ∧ Hid (Below w.heap.size w wx)) (fun _ j _ => al.length - (intOf j).toNat)
    case atStart => exact ⟨0, l, rfl, Nat.zero_le _, HL2, HO, EP, ET, HB⟩
    case round =>
     clear EP ET HB HO HL2 hs1
     obtain ⟨m, l, rfl, hm, HM, HO, EP, ET, HB⟩ := hrel
     have hs1 := jK ET.out
     have e6 := jA ET.out 6 _ rfl
     obtain ⟨va, cva, rfl⟩ := jF HO.out
     by_cases hlt : m < al.length
     · obtain ⟨⟨pt, ey⟩, hy⟩ : ∃ y, al[m]? = some y := ⟨_, List.getElem?_eq_getElem hlt⟩
       rcases HA.out with ⟨h0, _⟩ | ⟨g, of, c', hv, g1, g2, g3⟩
       · rw [h0] at hlt; simp at hlt
       injection hv with hq1 _ hq2
       subst hq1; subst hq2
       obtain ⟨u, hu, _, hcell⟩ := g3 m _ hy
       obtain ⟨a0, a1, a2, a3, a4, b0, b1, b2, b3, b4, b5, b6, rfl, hpt, hey⟩ := hu
       have HPT := hid hpt; have HEY := hid hey
       have hgl : g < w.heap.size := World.block_lt_of_cell? w _ (hcell 0 _ rfl)
       have HCL := hid (fun (w' : World) (h : Below w.heap.size w w') =>
        have up : ∀ j z, (Value.agg #[a0, a1, a2, a3, a4, b0, b1, b2, b3, b4, b5, b6]).cells[j]? = some z → w'.cell? ⟨g, of + m * 12 + j, none⟩ = some z := fun j z hz => jE h (hcell j z hz)
        (show w'.cell? ⟨g, of + m * 12, none⟩ = some a0 ∧ w'.cell? ⟨g, of + m * 12 + 1, none⟩ = some a1 ∧ w'.cell? ⟨g, of + m * 12 + 2, none⟩ = some a2 ∧ w'.cell? ⟨g, of + m * 12 + 3, none⟩ = some a3 ∧ w'.cell? ⟨g, of + m * 12 + 4, none⟩ = some a4 ∧
          w'.cell? ⟨g, of + m * 12 + 5, none⟩ = some b0 ∧ w'.cell? ⟨g, of + m * 12 + 5 + 1, none⟩ = some b1 ∧ w'.cell? ⟨g, of + m * 12 + 5 + 2, none⟩ = some b2 ∧ w'.cell? ⟨g, of + m * 12 + 5 + 3, none⟩ = some b3 ∧ w'.cell? ⟨g, of + m * 12 + 5 + 4, none⟩ = some b4 ∧ w'.cell? ⟨g, of + m * 12 + 5 + 5, none⟩ = some b5 ∧ w'.cell? ⟨g, of + m * 12 + 5 + 6, none⟩ = some b6
          from ⟨up 0 _ rfl, up 1 _ rfl, up 2 _ rfl, up 3 _ rfl, up 4 _ rfl, up 5 _ rfl, up 6 _ rfl, up 7 _ rfl, up 8 _ rfl, up 9 _ rfl, up 10 _ rfl, up 11 _ rfl⟩))
       have hk1 : (m : Int) < (al.length : Int) := by omega
       have hk2 : (al.length : Int) ≤ (ca : Int) := by omega
       have hk3 := g2
       have hst := Sx.sum_take (fun a : Px.Pat × Px.Expr => Sx.pw f a.1 + Sx.ew f a.2) al m _ hy
       have HMW : Hid (Sx.pw f pt + Sx.ew f ey ≤ (al.map fun a => Sx.pw f a.1 + Sx.ew f a.2).sum) := hid (by dsimp only at hst; omega)
       have HT := hid (flatN_take (fun a : Px.Pat × Px.Expr => patW p.datas f a.1 [] ++ exprW p.datas f a.2 (vars ++ Sx.boundP f a.1)) al m _ hy)
       have HLE := hid (show l.length + (patW p.datas f pt []).length + (exprW p.datas f ey (vars ++ Sx.boundP f pt)).length ≤ 1000000000 by
        rw [HM.out, List.length_append]
        have h1 := flat_le (fun a : Px.Pat × Px.Expr => patW p.datas f a.1 [] ++ exprW p.datas f a.2 (vars ++ Sx.boundP f a.1)) (fun a => Sx.pw f a.1 + Sx.ew f a.2) al m _ hy (fun x => by
         rw [List.length_append]
         have h5 := patW_len p.datas f x.1 []
         have h6 := exprW_len p.datas f x.2 (vars ++ Sx.boundP f x.1)
         omega)
        try dsimp only at h1
        rw [List.length_append] at h1
        have h3 := HL1L.out
        have := HBW.out; omega)
       clear g1 g2 g3 hcell hpt hey hy hst
       go_wp2_with fail
       clear e6
       refine wp_region_held_drew (S := fun (u : World) => Below (w.heap.size + 2) wr u) (by kernel_rfl) ((Below.refl _ _).drew) (fun jM => ?_)
       refine wT 0 (.slice va l.length cva) rfl (Or.inl ⟨by rfl, fun w' hSw => by go_simp⟩) jM ?_
       refine wT 1 (.agg #[.slice q1 p.datas.length c1, .slice q2 p.defs.length c2]) rfl (Or.inl ⟨by rfl, fun w' hSw => by have h0 := jA ((hSw.block _ (by omega)).trans EP.out) 0 _ rfl; have h1 := jA ((hSw.block _ (by omega)).trans EP.out) 1 _ rfl; go_simp⟩) jM ?_
       refine wT 2 (.pointer (some ⟨w.heap.size + 1, 6, none⟩)) rfl (Or.inl ⟨by rfl, fun w' hSw => by go_simp⟩) jM ?_
       refine wT 3 (.slice (some ⟨g, of, none⟩) al.length ca) rfl (Or.inl ⟨by rfl, fun w' hSw => by have h := jA ((hSw.block _ (by omega)).trans ET.out) 6 _ rfl; go_simp⟩) jM ?_
       refine wT 4 (.int .i64 m) rfl (Or.inl ⟨by rfl, fun w' hSw => by go_simp⟩) jM ?_
       refine wT 5 (.pointer (some ⟨g, of + m * 12, none⟩)) rfl (Or.inl ⟨by rfl, fun w' hSw => by go_simp⟩) jM ?_
       refine wT 6 (.pointer (some ⟨g, of + m * 12, none⟩)) rfl (Or.inl ⟨by rfl, fun w' hSw => by go_simp⟩) jM ?_
       refine wT 7 (.agg #[a0, a1, a2, a3, a4]) rfl (Or.inl ⟨by rfl, fun w' hSw => by obtain ⟨x0, x1, x2, x3, x4, -, -, -, -, -, -, -⟩ := HCL.out w' (HB.out.trans (hSw.mono (by omega))); go_simp⟩) jM ?_
       try simp only [Act.put, jX, jY, jZ, JA, JB, JC]
       refine wpAnyH_ready (rs := [8]) (by kernel_rfl) (by simp) ?_
       refine AllReadyH.cons rfl (fun K hK => ?_) AllReadyH.nil
       go_simp
       refine (refpat_any p f pt _ _ _ [] wr.drew (jP HP.out HB.out.drew) HPW.out (patAt_below HPT.out HB.out.drew) (row_nil _ _ _) (by have := HMW.out; have := HBW.out; simp; omega)).mono ?_
       rintro e w5 ⟨v5, rfl, hb5, ho5⟩
       have HB5 := hid (show Below wr.heap.size wr w5 from undrew hb5)
       have HN5 := hid (ownI_row ho5)
       have HO5 := hid (jJ HO.out HB5.out)
       have EP5 := hid (jC EP.out HB5.out)
       have ET5 := hid (jC ET.out HB5.out)
       refine hK.out _ _ (HB5.out.mono (by omega)) (fun jM => ?_)
       clear hb5 ho5
       clear hK K
       refine wpAnyH_ready (rs := [9]) (by kernel_rfl) (by simp) ?_
       refine AllReadyH.cons rfl (fun K hK => ?_) AllReadyH.nil
       refine step_app_i rfl (.tmp 76) (.tmp 84) rfl (w.heap.size + 2) _ _ rfl HO5.out _ rfl _ HN5.out (by have := HLE.out; omega) (by have := HB5.out.size; omega) ?_
       intro v6 w6 ha6
       obtain ⟨p6, q6, rfl⟩ := jF ha6.1
       have HB6 := hid (ha6.below HO5.out (HB.out.trans (HB5.out.mono (by omega))) (by have := HB5.out.size; omega) (by omega))
       have HB6' := hid (ha6.below HO5.out (HB5.out.mono (B' := w.heap.size + 2) (by omega)) (by have := HB5.out.size; omega) (Nat.le_refl _))
       have EP6 := hid (ha6.at HO5.out EP5.out (by omega))
       have ET6 := hid (ha6.at HO5.out ET5.out (by omega))
       have HO6 := hid ha6.1
       have HL3 : Hid (l ++ patW p.datas f pt [] = l ++ patW p.datas f pt []) := hid rfl
       obtain ⟨l3, hl3⟩ : ∃ l3, l3 = l ++ patW p.datas f pt [] := ⟨_, rfl⟩
       replace HL3 := hid hl3
       rw [← hl3] at HO6 ⊢
       clear hl3 ha6 HO5 EP5 ET5
       refine hK.out _ _ HB6'.out (fun jM => ?_)
       clear hK K
       refine wT 10 (.slice p6 l3.length q6) rfl (Or.inl ⟨by rfl, fun w' hSw => by go_simp⟩) jM ?_
       simp only [Act.put, jX, jY, jZ, JA, JB, JC]
       refine wpAnyH_done (by kernel_rfl) ?_ _
       clear HO EP ET HB hs1
       have hs1 := jK ET6.out
       go_wp2_with fail
       refine wp_region_held_drew (S := fun (u : World) => Below (w.heap.size + 2) w6 u) (by kernel_rfl) ((Below.refl _ _).drew) (fun jM => ?_)
       refine wT 0 (.slice p6 l3.length q6) rfl (Or.inl ⟨by rfl, fun w' hSw => by go_simp⟩) jM ?_
       refine wT 1 (.agg #[.slice q1 p.datas.length c1, .slice q2 p.defs.length c2]) rfl (Or.inl ⟨by rfl, fun w' hSw => by have h0 := jA ((hSw.block _ (by omega)).trans EP6.out) 0 _ rfl; have h1 := jA ((hSw.block _ (by omega)).trans EP6.out) 1 _ rfl; go_simp⟩) jM ?_
       refine wT 2 (.pointer (some ⟨w.heap.size + 1, 6, none⟩)) rfl (Or.inl ⟨by rfl, fun w' hSw => by go_simp⟩) jM ?_
       refine wT 3 (.slice (some ⟨g, of, none⟩) al.length ca) rfl (Or.inl ⟨by rfl, fun w' hSw => by have h := jA ((hSw.block _ (by omega)).trans ET6.out) 6 _ rfl; go_simp⟩) jM ?_
       refine wT 4 (.int .i64 m) rfl (Or.inl ⟨by rfl, fun w' hSw => by go_simp⟩) jM ?_
       refine wT 5 (.pointer (some ⟨g, of + m * 12, none⟩)) rfl (Or.inl ⟨by rfl, fun w' hSw => by go_simp⟩) jM ?_
       refine wT 6 (.pointer (some ⟨g, of + m * 12 + 5, none⟩)) rfl (Or.inl ⟨by rfl, fun w' hSw => by go_simp⟩) jM ?_
       refine wT 7 (.agg #[b0, b1, b2, b3, b4, b5, b6]) rfl (Or.inl ⟨by rfl, fun w' hSw => by obtain ⟨-, -, -, -, -, x5, x6, x7, x8, x9, x10, x11⟩ := HCL.out w' (HB6.out.trans (hSw.mono (by omega))); go_simp⟩) jM ?_
       refine wT 9 (.slice qs vars.length cs) rfl (Or.inl ⟨by rfl, fun w' hSw => by go_simp⟩) jM ?_
       refine wT 11 (.pointer (some ⟨w.heap.size + 1, 6, none⟩)) rfl (Or.inl ⟨by rfl, fun w' hSw => by go_simp⟩) jM ?_
       refine wT 12 (.slice (some ⟨g, of, none⟩) al.length ca) rfl (Or.inl ⟨by rfl, fun w' hSw => by have h := jA ((hSw.block _ (by omega)).trans ET6.out) 6 _ rfl; go_simp⟩) jM ?_
       refine wT 13 (.int .i64 m) rfl (Or.inl ⟨by rfl, fun w' hSw => by go_simp⟩) jM ?_
       refine wT 14 (.pointer (some ⟨g, of + m * 12, none⟩)) rfl (Or.inl ⟨by rfl, fun w' hSw => by go_simp⟩) jM ?_
       refine wT 15 (.pointer (some ⟨g, of + m * 12, none⟩)) rfl (Or.inl ⟨by rfl, fun w' hSw => by go_simp⟩) jM ?_
       refine wT 16 (.agg #[a0, a1, a2, a3, a4]) rfl (Or.inl ⟨by rfl, fun w' hSw => by obtain ⟨x0, x1, x2, x3, x4, -, -, -, -, -, -, -⟩ := HCL.out w' (HB6.out.trans (hSw.mono (by omega))); go_simp⟩) jM ?_
       try simp only [Act.put, jX, jY, jZ, JA, JB, JC]
       refine wpAnyH_ready (rs := [8]) (by kernel_rfl) (by simp) ?_
       refine AllReadyH.cons rfl (fun K hK => ?_) AllReadyH.nil
       go_simp
       have hb1 : Below w6.heap.size w6 (w6.drew.alloc (.cells #[] 9)) := ((Below.refl _ _).drew).alloc (Nat.le_refl _) _
       have HO7 := hid (own_empty w6.drew)
       have HB7 := hid hb1
       refine hK.out _ _ (hb1.mono (by omega)) (fun jM => ?_)
       clear hb1
       clear hK K
       refine wpAnyH_ready (rs := [10]) (by kernel_rfl) (by simp) ?_
       refine AllReadyH.cons rfl (fun K hK => ?_) AllReadyH.nil
       refine step_app_s rfl (.tmp 94) (.tmp 95) rfl w6.heap.size _ [] rfl HO7.out _ rfl vars (jQ HS.out (HB6.out.trans (HB7.out.mono (by omega)))) (by simp; omega) HB7.out.size ?_
       intro v8 w8 ha8
       have HB8 := hid (ha8.below HO7.out HB7.out HB7.out.size (Nat.le_refl _))
       have HO8 := hid ha8.1
       refine hK.out _ _ (HB8.out.mono (by omega)) (fun jM => ?_)
       clear ha8
       clear hK K
       refine wpAnyH_ready (rs := [17]) (by kernel_rfl) (by simp) ?_
       refine AllReadyH.cons rfl (fun K hK => ?_) AllReadyH.nil
       go_simp
       refine (refBound_any f pt _ w8 (patAt_below HPT.out (HB6.out.trans (HB8.out.mono (by omega)))) (by have := HMW.out; have := HBW.out; omega)).mono ?_
       rintro e w9 ⟨v9, rfl, hb9, hnew9⟩
       have HB9 := hid (HB8.out.trans (hb9.mono HB8.out.size))
       have HN9 := hid hnew9.now
       have HO9 := hid (jJ HO8.out hb9)
       refine hK.out _ _ (HB9.out.mono (by omega)) (fun jM => ?_)
       clear hb9 hnew9
       clear hK K
       refine wpAnyH_ready (rs := [18]) (by kernel_rfl) (by simp) ?_
       refine AllReadyH.cons rfl (fun K hK => ?_) AllReadyH.nil
       refine step_app_s rfl (.tmp 96) (.tmp 103) rfl w6.heap.size _ _ rfl HO9.out _ rfl (Sx.boundP f pt) HN9.out (by have h1 := nw_len (Sx.boundP f pt); have h2 := Sx.nw_bound f pt; have := HMW.out; have := HBW.out; simp; omega) HB9.out.size ?_
       intro v10 w10 ha10
       have HB10 := hid (ha10.below HO9.out HB9.out HB9.out.size (Nat.le_refl _))
       have HO10 := hid ha10.1
       refine hK.out _ _ (HB10.out.mono (by omega)) (fun jM => ?_)
       clear ha10
       clear hK K
       refine wpAnyH_ready (rs := [19]) (by kernel_rfl) (by simp) ?_
       refine AllReadyH.cons rfl (fun K hK => ?_) AllReadyH.nil
       go_simp
       refine (ih ey _ _ _ (([] ++ vars) ++ Sx.boundP f pt) w10 (jP HP.out (HB6.out.trans (HB10.out.mono (by omega)))) HPW.out (exprAt_below HEY.out (HB6.out.trans (HB10.out.mono (by omega)))) (rowS_own' HO10.out) (by have h1 := nw_len (Sx.boundP f pt); have h2 := Sx.nw_bound f pt; have := HMW.out; have := HBW.out; simp; omega)).mono ?_
       rintro e w11 ⟨v11, rfl, hb11, ho11⟩
       have HB11 := hid (HB10.out.trans (hb11.mono HB10.out.size))
       have HN11 := hid (ownI_row ho11)
       have HO11 := hid (jJ HO6.out HB11.out)
       have EP11 := hid (jC EP6.out HB11.out)
       have ET11 := hid (jC ET6.out HB11.out)
       refine hK.out _ _ (HB11.out.mono (by omega)) (fun jM => ?_)
       clear hb11 ho11
       clear hK K
       refine wpAnyH_ready (rs := [20]) (by kernel_rfl) (by simp) ?_
       refine AllReadyH.cons rfl (fun K hK => ?_) AllReadyH.nil
       refine step_app_i rfl (.tmp 86) (.tmp 105) rfl (w.heap.size + 2) _ _ rfl HO11.out _ rfl _ HN11.out (by have := HLE.out; rw [HL3.out, List.length_append, List.nil_append]; omega) (by have := HB11.out.size; omega) ?_
       intro vZ wZ haZ
       obtain ⟨pZ, qZ, rfl⟩ := jF haZ.1
       have HBZ := hid (haZ.below HO11.out (HB6.out.trans (HB11.out.mono (by omega))) (by have := HB11.out.size; omega) (by omega))
       have HBZ' := hid (haZ.below HO11.out (HB11.out.mono (B' := w.heap.size + 2) (by omega)) (by have := HB11.out.size; omega) (Nat.le_refl _))
       have EPZ := hid (haZ.at HO11.out EP11.out (by omega))
       have ETZ := hid (haZ.at HO11.out ET11.out (by omega))
       have HOZ := hid haZ.1
       have HTZ : Hid (l3 ++ exprW p.datas f ey (([] ++ vars) ++ Sx.boundP f pt) = l1 ++ (al.take (m + 1)).flatMap (fun a => patW p.datas f a.1 [] ++ exprW p.datas f a.2 (vars ++ Sx.boundP f a.1))) := hid (by rw [HT.out, HL3.out, HM.out, List.nil_append]; simp [List.append_assoc])
       obtain ⟨l5, hl5⟩ : ∃ l5, l5 = l3 ++ exprW p.datas f ey (([] ++ vars) ++ Sx.boundP f pt) := ⟨_, rfl⟩
       rw [← hl5] at HOZ HTZ ⊢
       clear hl5 haZ
       refine hK.out _ _ HBZ'.out (fun jM => ?_)
       clear hK K
       refine wT 21 (.slice pZ l5.length qZ) rfl (Or.inl ⟨by rfl, fun w' hSw => by go_simp⟩) jM ?_
       simp only [Act.put, jX, jY, jZ, JA, JB, JC]
       refine wpAnyH_done (by kernel_rfl) ?_ _
       go_wp2_with fail
       go_roundw
       case rel => exact ⟨m + 1, l5, by go_num, by omega, HTZ, HOZ, EPZ, ETZ, HBZ⟩
       case measure => simp [intOf]; omega
     · obtain rfl : m = al.length := by omega
       have HF := hid (show l = exprW p.datas (f + 1) (.mk k pos nm i0 ns xs al) vars by rw [HLL2.out, HM.out, List.take_length])
       go_wp2_with fail
       go_ret
       rw [← HF.out]
       exact ⟨_, rfl, HB.out, ownI_base HO.out (by omega)⟩
theorem refexpr_any (p : Px.Prog) : ∀ f, ExpC p f
 | 0 => fun x pv xv sv vars w _ _ ht => ht.elim
 | f + 1 => expw_step p f (refexpr_any p f)
end Go.Proofs.Ytgoacbomphlhjaa
