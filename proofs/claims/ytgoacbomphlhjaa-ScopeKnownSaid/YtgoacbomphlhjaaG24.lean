/-
  Several texts in one: SUses, SRFree, SSrc, SFreeW.
-/
import Derived.Test.YtgoacbomphlhjaaG19
import Derived.Deep.DeepCutAuto
import Derived.Test.YtgoacbomphlhjaaG20
import Derived.Test.YtgoacbomphlhjaaG00
import Derived.ProofKit
import Derived.OpenShut
import Derived.ShutString
import Derived.HandedShaped
import Derived.SizedLaws
import Derived.Carry
import Derived.Test.YtgoacbomphlhjaaG23
namespace Go.Proofs.Ytgoacbomphlhjaa
open Go Go.RowKit
set_option linter.unusedVariables false
set_option linter.unusedSimpArgs false
def UsesC (f : Nat) : Prop := ∀ (x : Px.Expr) (v bv : Value) (but : List Nm) (w : World), ExprAt f w v x → RowS w bv but → but.length + Sx.ew f x ≤ 400000 → Calls Try.prog 60 #[v, bv] w (RNewS w (Sx.usesE f x but))
/-- Two lists of the call's own: the first grows. -/
theorem appd_other {w w' : World} {base base' : Nat} {v v' iv : Value} {l li : List Nm} (h : Appd encS 9 w base v l v' w') (hi : OwnS w base' iv li) (hd : ∀ b, iv.ownBlock = some b → v.ownBlock ≠ some b) :
 OwnS w' base' iv li ∧ ∀ b, iv.ownBlock = some b → v'.ownBlock ≠ some b :=
 ⟨own_stays hi fun b hb => h.2.1.block b (hi.lt b hb).2 (fun e => hd b hb e.symm),
  fun b hb => h.2.2.elim (fun e => e ▸ hd b hb) (fun e e2 => by have := e b e2; have := (hi.lt b hb).2; omega)⟩
theorem own_empty (w : World) : OwnS (w.alloc (.cells #[] 9)) w.heap.size (.slice (some ⟨w.heap.size, 0, none⟩) 0 0) [] :=
 ⟨rfl, .inr ⟨w.heap.size, 0, #[], rfl, Nat.le_refl _, ent_new w _ _, Nat.le_refl _, by unfold maxLen; omega, rfl, rfl⟩⟩
theorem own_base {w : World} {b b' : Nat} {v : Value} {l : List Nm} (h : OwnS w b v l) (hb : b' ≤ b) : OwnS w b' v l := by
 refine ⟨h.1, ?_⟩
 rcases h.2 with h | ⟨g, cap, cur, h1, h2, h3⟩
 · exact .inl h
 · exact .inr ⟨g, cap, cur, h1, Nat.le_trans hb h2, h3⟩
theorem rowS_own' {w : World} {base : Nat} {v : Value} {l : List Nm} (h : OwnS w base v l) : RowS w v l := rowS_own h rfl
def EXC (k p : Nat) (nm : Nm) (i : Int) (n1 n2 n3 : Value) : Array Value := #[.int .i64 k, .int .i64 p, .string ⟨nm.toArray⟩, .int .i64 i, n1, n2, n3]
set_option maxHeartbeats 8000000 in
set_option maxRecDepth 100000 in
theorem uses_step (f : Nat) (ih : UsesC f) : UsesC (f + 1) := by
 intro x v bv but w hx hrow hw
 cases x with | mk k p nm i ns xs al =>
 obtain ⟨nv, xv, av, rfl, h1, h2, h3⟩ := hx
 obtain ⟨q1, c1, rfl⟩ := h1.len
 obtain ⟨q2, c2, rfl⟩ := h2.len
 obtain ⟨q3, c3, rfl⟩ := h3.len
 obtain ⟨qb, cb, rfl⟩ := hrow.len
 have HR1 := Lib.hid h1; have HR2 := Lib.hid h2; have HR3 := Lib.hid h3; have HRB := Lib.hid hrow; have HW := Lib.hid hw
 clear h1 h2 h3 hrow hw
 go_enter Try.func60, Try.ntmps60
 have EX := Lib.hid (ent_new w #[.int .i64 k, .int .i64 p, .string ⟨nm.toArray⟩, .int .i64 i, .slice q1 ns.length c1, .slice q2 xs.length c2, .slice q3 al.length c3] 53)
 have HB := Lib.hid ((Below.refl w.heap.size w).alloc (Nat.le_refl _) (.cells #[.int .i64 k, .int .i64 p, .string ⟨nm.toArray⟩, .int .i64 i, .slice q1 ns.length c1, .slice q2 xs.length c2, .slice q3 al.length c3] 53))
 have hsz : w.heap.size + 1 ≤ (w.alloc (.cells #[.int .i64 k, .int .i64 p, .string ⟨nm.toArray⟩, .int .i64 i, .slice q1 ns.length c1, .slice q2 xs.length c2, .slice q3 al.length c3] 53)).heap.size := by simp
 go_upto_region 1 with fail
 generalize w.alloc (.cells #[.int .i64 k, .int .i64 p, .string ⟨nm.toArray⟩, .int .i64 i, .slice q1 ns.length c1, .slice q2 xs.length c2, .slice q3 al.length c3] 53) = w1 at EX HB hsz ⊢
 go_upto_region 2 with fail
 go_cut [18] (fun o wx => o = .bool (decide (k = 1) && !hasN but nm) ∧ wx = w1)
 case first =>
  have e0 := ent_cell EX.out 0 _ rfl; have e2 := ent_cell EX.out 2 _ rfl
  by_cases hk : k = 1
  · have hkb : ((k : Int) == 1) = true := by simp [hk]
    have HHAS := Lib.hid (refHas_any _ but nm w1 (rowS_below HRB.out HB.out))
    have HK := Lib.hid hk
    clear hk
    go_wp2_with fail
    refine HHAS.out.mono ?_
    rintro e w2 ⟨rfl, rfl⟩
    go_wp2_with fail
    go_meet
    exact ⟨by rw [HK.out]; simp, rfl⟩
  · have hkb : ((k : Int) == 1) = false := beq_eq_false_iff_ne.2 (by omega)
    have HK := Lib.hid hk
    clear hk
    go_wp2_with fail
    go_meet
    exact ⟨by rw [decide_eq_false HK.out]; rfl, rfl⟩
 case rest =>
 obtain ⟨rfl, rfl⟩ := hcut
 have HL : Hid ((if k = 1 ∧ but.contains nm = false then [nm] else []) = if (decide (k = 1) && !hasN but nm) = true then [nm] else []) := Lib.hid (by unfold hasN; simp)
 generalize (decide (k = 1) && !hasN but nm) = b0 at HL ⊢
 go_upto_if 18 with fail
 go_cut [5] (fun o wx => ∃ l : List Nm, Hid (l = if k = 1 ∧ but.contains nm = false then [nm] else []) ∧ Hid (OwnS wx (w.heap.size + 1) o l) ∧ Hid (wx.heap[w.heap.size]? = some (.cells #[.int .i64 k, .int .i64 p, .string ⟨nm.toArray⟩, .int .i64 i, .slice q1 ns.length c1, .slice q2 xs.length c2, .slice q3 al.length c3] 53 (0, 0))) ∧ Hid (Below w.heap.size w wx))
 case first =>
  cases b0 with
  | true =>
    have e2 := ent_cell EX.out 2 _ rfl
    have HE := Lib.hid (ent_new wc #[.string ⟨nm.toArray⟩] 9)
    have HBA := Lib.hid (show Below wc.heap.size wc (wc.alloc (.cells #[.string ⟨nm.toArray⟩] 9)) from (Below.refl _ _).alloc (Nat.le_refl _) _)
    have HON : Hid (OwnS (wc.alloc (.cells #[.string ⟨nm.toArray⟩] 9)) (w.heap.size + 1) (.slice none 0 0) []) := Lib.hid (World.ownsRow_nil _ _ _ _)
    go_wp2_with (at_builtin; refine list_app_s rfl (.tmp 19) (.tmp 22) rfl (w.heap.size + 1) _ [] rfl HON.out _ rfl [nm] (row_cell HE.out rfl rfl) (by simp) (by have := HBA.out.size; omega) ?_)
    intro v3 w3 happ
    have HB3 := Lib.hid (happ.below HON.out (HB.out.trans (HBA.out.mono HB.out.size)) (by have := HBA.out.size; omega) (by omega))
    have EX3 := Lib.hid (happ.at HON.out (ent_below EX.out HBA.out) (by omega))
    obtain ⟨p3, q3', rfl⟩ := own_slice happ.1
    have HO3 := Lib.hid happ.1
    clear happ e2
    go_wp2
    go_meet
    exact ⟨[nm], Lib.hid (by rw [HL.out]; rfl), HO3, EX3, HB3⟩
  | false =>
    go_wp2_with fail
    go_meet
    exact ⟨[], Lib.hid (by rw [HL.out]; rfl), Lib.hid (World.ownsRow_nil _ _ _ _), EX, HB⟩
 case rest =>
  clear EX HB hsz HL
  obtain ⟨l0, HL0, HO, EX, HB⟩ := hcut
  have HL0L : Hid (l0.length ≤ 1) := Lib.hid (by rw [HL0.out]; split <;> simp)
  have hw1 := ent_lt EX.out
  have hnsl : ns.length ≤ nw ns := nw_len ns
  have hbw : but.length + nw ns + (xs.map (Sx.ew f)).sum + (al.map fun a => Sx.pw f a.1 + Sx.ew f a.2).sum ≤ 400000 := by have := HW.out; rw [Sx.ew] at this; omega
  have HBW := Lib.hid hbw
  have hb4 : but.length ≤ 400000 := by omega
  have hn4 : ns.length ≤ 400000 := by omega
  clear hbw
  obtain ⟨pa, ca, rfl⟩ := own_slice HO.out
  obtain ⟨inn, hinn⟩ : ∃ inn : List Nm, inn = but ++ ns := ⟨_, rfl⟩
  have HINN := Lib.hid hinn
  have hinl : inn.length ≤ but.length + nw ns := by rw [hinn, List.length_append]; omega
  have HINL := Lib.hid hinl
  clear hinn hinl
  obtain ⟨wA, hwA⟩ : ∃ x, x = wc := ⟨wc, rfl⟩
  subst hwA
  go_upto_region 4 with fail
  go_cut [6] (fun iv wx => Hid (OwnS wx wA.heap.size iv inn) ∧ Hid (Below wA.heap.size wA wx))
  case first =>
   have e4 := ent_cell EX.out 4 _ rfl
   refine wp_region_held_drew (S := fun w' => Below (w.heap.size + 1) wA w') (by kernel_rfl) ((Below.refl _ _).drew) (fun hHeld => ?_)
   refine wpAnyH_take (i := 1) (v := .slice qb but.length cb) rfl (by kernel_rfl) (by kernel_rfl) (by kernel_rfl) (fun _ _ _ h => h) (Or.inl ⟨by rfl, fun w' hSw => by go_simp⟩) hHeld ?_
   refine wpAnyH_take (i := 3) (v := .pointer (some ⟨w.heap.size, 4, none⟩)) rfl (by kernel_rfl) (by kernel_rfl) (by kernel_rfl) (fun _ _ _ h => h) (Or.inl ⟨by rfl, fun w' hSw => by go_simp⟩) hHeld ?_
   refine wpAnyH_take (i := 4) (v := .slice q1 ns.length c1) rfl (by kernel_rfl) (by kernel_rfl) (by kernel_rfl) (fun _ _ _ h => h) (Or.inl ⟨by rfl, fun w' hSw => by have h4 := (hSw.cell (p := ⟨w.heap.size, 4, none⟩) (by dsimp only; omega)).trans e4; go_simp⟩) hHeld ?_
   simp only [Act.put, List.setIfInBounds_toArray, List.set_cons_zero, List.set_cons_succ]
   refine wpAnyH_ready (rs := [0]) (by kernel_rfl) (by simp) ?_
   refine AllReadyH.cons rfl (fun K hK => ?_) AllReadyH.nil
   go_simp
   have hb1 : Below wA.heap.size wA (wA.drew.alloc (.cells #[] 9)) := ((Below.refl _ _).drew).alloc (Nat.le_refl _) _
   have HO1 := Lib.hid (own_empty wA.drew)
   have HB1 := Lib.hid hb1
   refine hK.out _ _ (hb1.mono (by omega)) (fun hHeld => ?_)
   clear hK K hb1
   refine wpAnyH_ready (rs := [2]) (by kernel_rfl) (by simp) ?_
   refine AllReadyH.cons rfl (fun K hK => ?_) AllReadyH.nil
   refine step_app_s rfl (.tmp 24) (.tmp 25) rfl wA.heap.size _ [] rfl HO1.out _ rfl but (rowS_below HRB.out (HB.out.trans (HB1.out.mono (by omega)))) (by simp; omega) HB1.out.size ?_
   intro v2 w2 ha2
   have HB2 := Lib.hid (ha2.below HO1.out HB1.out HB1.out.size (Nat.le_refl _))
   have HO2 := Lib.hid ha2.1
   refine hK.out _ _ (HB2.out.mono (by omega)) (fun hHeld => ?_)
   clear hK K ha2
   refine wpAnyH_ready (rs := [5]) (by kernel_rfl) (by simp) ?_
   refine AllReadyH.cons rfl (fun K hK => ?_) AllReadyH.nil
   refine step_app_s rfl (.tmp 26) (.tmp 28) rfl wA.heap.size _ _ rfl HO2.out _ rfl ns (rowS_below HR1.out (HB.out.trans (HB2.out.mono (by omega)))) (by simp; omega) HB2.out.size ?_
   intro v3 w3 ha3
   have HB3 := Lib.hid (ha3.below HO2.out HB2.out HB2.out.size (Nat.le_refl _))
   have HO3 := Lib.hid ha3.1
   refine hK.out _ _ (HB3.out.mono (by omega)) (fun hHeld => ?_)
   clear hK K ha3
   refine wpAnyH_ready (rs := [6]) (by kernel_rfl) (by simp) ?_
   refine AllReadyH.cons rfl (fun K hK => ?_) AllReadyH.nil
   go_simp
   refine hK.out _ _ (HB3.out.mono (by omega)) (fun hHeld => ?_)
   clear hK K
   refine wpAnyH_done (by kernel_rfl) ?_ _
   go_wp2_with fail
   go_meet
   exact ⟨Lib.hid (by rw [HINN.out]; exact HO3.out), HB3⟩
  case rest =>
  obtain ⟨HI, HBI⟩ := hcut
  obtain ⟨pi, ci, rfl⟩ := own_slice HI.out
  have HO' := Lib.hid (own_kept HO.out HBI.out)
  have HD : Hid (OwnS wc (w.heap.size + 1) (.slice pi inn.length ci) inn ∧ ∀ b, (Value.slice pi inn.length ci).ownBlock = some b → (Value.slice pa l0.length ca).ownBlock ≠ some b) := Lib.hid ⟨own_base HI.out (by omega), fun b hb e => by have := (HI.out.lt b hb).1; have := (HO.out.lt b e).2; omega⟩
  replace EX := Lib.hid (ent_below EX.out HBI.out)
  replace HB := Lib.hid (HB.out.trans (HBI.out.mono (by omega)))
  clear HI HBI HO
  go_wp2_with fail
  go_loopw [5, 7] (fun o j wr => ∃ (m : Nat) (l : List Nm), j = .int .i64 m ∧ m ≤ xs.length ∧ Hid (l = l0 ++ (xs.take m).flatMap (fun y => Sx.usesE f y inn)) ∧ Hid (OwnS wr (w.heap.size + 1) o l) ∧ Hid (OwnS wr (w.heap.size + 1) (.slice pi inn.length ci) inn ∧ ∀ b, (Value.slice pi inn.length ci).ownBlock = some b → o.ownBlock ≠ some b) ∧ Hid (wr.heap[w.heap.size]? = some (.cells #[.int .i64 k, .int .i64 p, .string ⟨nm.toArray⟩, .int .i64 i, .slice q1 ns.length c1, .slice q2 xs.length c2, .slice q3 al.length c3] 53 (0, 0))) ∧ Hid (Below w.heap.size w wr)) (fun _ j _ => xs.length - (intOf j).toNat)
  case atStart => exact ⟨0, l0, rfl, Nat.zero_le _, Lib.hid (by simp), HO', HD, EX, HB⟩
  case round =>
   clear EX HB HO' HD
   obtain ⟨m, l, rfl, hm, HLL, HO, HD, EX, HB⟩ := hrel
   have hs1 := ent_lt EX.out
   have e5 := ent_cell EX.out 5 _ rfl
   obtain ⟨va, cva, rfl⟩ := own_slice HO.out
   by_cases hlt : m < xs.length
   · obtain ⟨y, hy⟩ : ∃ y, xs[m]? = some y := ⟨_, List.getElem?_eq_getElem hlt⟩
     rcases HR2.out with ⟨h0, _⟩ | ⟨g, of, c', hv, g1, g2, g3⟩
     · rw [h0] at hlt; simp at hlt
     injection hv with hq1 _ hq2
     subst hq1; subst hq2
     obtain ⟨u, hu, _, hcell⟩ := g3 m y hy
     have hu2 := exprAt_below hu HB.out
     obtain ⟨a0, a1, a2, a3, uq1, un1, uc1, uq2, un2, uc2, uq3, un3, uc3, rfl⟩ := exprAt_sh hu
     have d0 := cell_up HB.out (hcell 0 _ rfl); have d1 := cell_up HB.out (hcell 1 _ rfl); have d2 := cell_up HB.out (hcell 2 _ rfl); have d3 := cell_up HB.out (hcell 3 _ rfl); have d4 := cell_up HB.out (hcell 4 _ rfl); have d5 := cell_up HB.out (hcell 5 _ rfl); have d6 := cell_up HB.out (hcell 6 _ rfl)
     simp only [Nat.add_zero] at d0
     have hk1 : (m : Int) < (xs.length : Int) := by omega
     have hk2 : (xs.length : Int) ≤ (c2 : Int) := by omega
     have hk3 := g2
     have hst := Sx.sum_take (Sx.ew f) xs m y hy
     have HST := Lib.hid hst
     have HT := Lib.hid (Sx.flat_take (fun y => Sx.usesE f y inn) xs m y hy)
     have HIH := Lib.hid (ih y _ _ inn wr hu2 (rowS_own' HD.out.1) (by have := HBW.out; have := HINL.out; omega))
     clear g1 g2 g3 hcell hu hy hu2 hst
     go_wp2_with fail
     clear e5 d0 d1 d2 d3 d4 d5 d6
     refine HIH.out.mono ?_
     rintro e w2 ⟨v2, rfl, hb, hnew⟩
     have HO2 := Lib.hid (own_kept HO.out hb)
     have HD2 := Lib.hid (show OwnS w2 (w.heap.size + 1) (.slice pi inn.length ci) inn ∧ _ from ⟨own_kept HD.out.1 hb, HD.out.2⟩)
     have HN2 := Lib.hid hnew.now
     have HB2 := Lib.hid (HB.out.trans (hb.mono HB.out.size))
     have hs2 := hb.size
     replace EX := Lib.hid (ent_below EX.out hb)
     have hlen : l.length + (Sx.usesE f y inn).length ≤ 1000000000 := by
      rw [HLL.out, List.length_append]
      have h1 := nw_len ((xs.take m).flatMap (fun y => Sx.usesE f y inn))
      have h2 := Sx.nw_flat (fun y => Sx.usesE f y inn) (Sx.ew f) (xs.take m) (fun x _ => Sx.nw_uses f x inn)
      have h3 := nw_len (Sx.usesE f y inn)
      have h4 := Sx.nw_uses f y inn
      have h5 := HL0L.out
      have := HST.out; have := HBW.out; omega
     have HLE := Lib.hid hlen
     clear hb hnew HIH hlen HB HO HD
     go_wp2_with (at_builtin; refine list_app_s rfl (.tmp 37) (.tmp 44) rfl (w.heap.size + 1) _ _ rfl HO2.out _ rfl _ HN2.out HLE.out (by omega) ?_)
     intro v3 w3 happ
     have HD3 := Lib.hid (appd_other happ HD2.out.1 HD2.out.2)
     obtain ⟨p3, q3', rfl⟩ := own_slice happ.1
     obtain ⟨hb3, ho3⟩ := appd_grow happ HO2.out HB2.out (by omega) (by omega)
     have HB3 := Lib.hid hb3
     have HO3 := Lib.hid ho3
     have HT3 : Hid (l ++ Sx.usesE f y inn = l0 ++ (xs.take (m + 1)).flatMap (fun y => Sx.usesE f y inn)) := Lib.hid (by rw [HT.out, HLL.out, List.append_assoc])
     obtain ⟨l3, hl3⟩ : ∃ l3, l3 = l ++ Sx.usesE f y inn := ⟨_, rfl⟩
     rw [← hl3] at HO3 HT3 HD3 ⊢
     clear hl3
     replace EX := Lib.hid (happ.at HO2.out EX.out (by omega))
     clear happ hb3 ho3
     go_wp2
     go_roundw
     case rel => exact ⟨m + 1, l3, by go_num, by omega, HT3, HO3, HD3, EX, HB3⟩
     case measure => simp [intOf]; omega
   · obtain rfl : m = xs.length := by omega
     have hll := HLL.out
     rw [List.take_length] at hll
     have HL1 := Lib.hid hll
     clear hll HLL
     go_wp2_with fail
     clear e5
     have HL1L : Hid (l.length ≤ 1 + (xs.map (Sx.ew f)).sum) := Lib.hid (by
      rw [HL1.out, List.length_append]
      have h1 := nw_len (xs.flatMap (fun y => Sx.usesE f y inn))
      have h2 := Sx.nw_flat (fun y => Sx.usesE f y inn) (Sx.ew f) xs (fun x _ => Sx.nw_uses f x inn)
      have := HL0L.out; omega)
     obtain ⟨l1, hl1⟩ : ∃ l1, l1 = l := ⟨l, rfl⟩
     obtain ⟨wB, hwB⟩ : ∃ x, x = wr := ⟨wr, rfl⟩
     subst hwB
     have HL2 : Hid (l = l1 ++ (al.take 0).flatMap (fun a => Sx.usesE f a.2 (but ++ Sx.boundP f a.1))) := Lib.hid (by rw [hl1]; simp)
     rw [← hl1] at HL1 HL1L
     clear hl1
     go_loopw [5, 8] (fun o j wr => ∃ (m : Nat) (l : List Nm), j = .int .i64 m ∧ m ≤ al.length ∧ Hid (l = l1 ++ (al.take m).flatMap (fun a => Sx.usesE f a.2 (but ++ Sx.boundP f a.1))) ∧ Hid (OwnS wr (w.heap.size + 1) o l) ∧ Hid (wr.heap[w.heap.size]? = some (.cells #[.int .i64 k, .int .i64 p, .string ⟨nm.toArray⟩, .int .i64 i, .slice q1 ns.length c1, .slice q2 xs.length c2, .slice q3 al.length c3] 53 (0, 0))) ∧ Hid (Below w.heap.size w wr)) (fun _ j _ => al.length - (intOf j).toNat)
     case atStart => exact ⟨0, l, rfl, Nat.zero_le _, HL2, HO, EX, HB⟩
     case round =>
      clear EX HB HO HL2 hs1
      obtain ⟨m, l, rfl, hm, HLL, HO, EX, HB⟩ := hrel
      have hs1 := ent_lt EX.out
      have e6 := ent_cell EX.out 6 _ rfl
      obtain ⟨va, cva, rfl⟩ := own_slice HO.out
      by_cases hlt : m < al.length
      · obtain ⟨⟨pt, ey⟩, hy⟩ : ∃ y, al[m]? = some y := ⟨_, List.getElem?_eq_getElem hlt⟩
        rcases HR3.out with ⟨h0, _⟩ | ⟨g, of, c', hv, g1, g2, g3⟩
        · rw [h0] at hlt; simp at hlt
        injection hv with hq1 _ hq2
        subst hq1; subst hq2
        obtain ⟨u, hu, _, hcell⟩ := g3 m _ hy
        obtain ⟨a0, a1, a2, a3, a4, b0, b1, b2, b3, b4, b5, b6, rfl, hpt, hey⟩ := hu
        have HPT := Lib.hid hpt; have HEY := Lib.hid hey
        have hgl : g < w.heap.size := World.block_lt_of_cell? w _ (hcell 0 _ rfl)
        have HCL := Lib.hid (fun (w' : World) (h : Below (w.heap.size + 1) wr w') =>
         have up : ∀ j z, (Value.agg #[a0, a1, a2, a3, a4, b0, b1, b2, b3, b4, b5, b6]).cells[j]? = some z → w'.cell? ⟨g, of + m * 12 + j, none⟩ = some z := fun j z hz => (h.cell (p := ⟨g, of + m * 12 + j, none⟩) (by dsimp only; omega)).trans (cell_up HB.out (hcell j z hz))
         (show w'.cell? ⟨g, of + m * 12, none⟩ = some a0 ∧ w'.cell? ⟨g, of + m * 12 + 1, none⟩ = some a1 ∧ w'.cell? ⟨g, of + m * 12 + 2, none⟩ = some a2 ∧ w'.cell? ⟨g, of + m * 12 + 3, none⟩ = some a3 ∧ w'.cell? ⟨g, of + m * 12 + 4, none⟩ = some a4 ∧
           w'.cell? ⟨g, of + m * 12 + 5, none⟩ = some b0 ∧ w'.cell? ⟨g, of + m * 12 + 5 + 1, none⟩ = some b1 ∧ w'.cell? ⟨g, of + m * 12 + 5 + 2, none⟩ = some b2 ∧ w'.cell? ⟨g, of + m * 12 + 5 + 3, none⟩ = some b3 ∧ w'.cell? ⟨g, of + m * 12 + 5 + 4, none⟩ = some b4 ∧ w'.cell? ⟨g, of + m * 12 + 5 + 5, none⟩ = some b5 ∧ w'.cell? ⟨g, of + m * 12 + 5 + 6, none⟩ = some b6
           from ⟨up 0 _ rfl, up 1 _ rfl, up 2 _ rfl, up 3 _ rfl, up 4 _ rfl, up 5 _ rfl, up 6 _ rfl, up 7 _ rfl, up 8 _ rfl, up 9 _ rfl, up 10 _ rfl, up 11 _ rfl⟩))
        have hk1 : (m : Int) < (al.length : Int) := by omega
        have hk2 : (al.length : Int) ≤ (c3 : Int) := by omega
        have hk3 := g2
        have hst := Sx.sum_take (fun a : Px.Pat × Px.Expr => Sx.pw f a.1 + Sx.ew f a.2) al m _ hy
        have HST := Lib.hid hst
        have HMW : Hid (Sx.pw f pt + Sx.ew f ey ≤ (al.map fun a => Sx.pw f a.1 + Sx.ew f a.2).sum) := Lib.hid (by dsimp only at hst; omega)
        have HT := Lib.hid (Sx.flat_take (fun a : Px.Pat × Px.Expr => Sx.usesE f a.2 (but ++ Sx.boundP f a.1)) al m _ hy)
        have hlen : l.length + (Sx.usesE f ey (but ++ Sx.boundP f pt)).length ≤ 1000000000 := by
         rw [HLL.out, List.length_append]
         have h1 := nw_len ((al.take m).flatMap (fun a => Sx.usesE f a.2 (but ++ Sx.boundP f a.1)))
         have h2 := Sx.nw_flat (fun a : Px.Pat × Px.Expr => Sx.usesE f a.2 (but ++ Sx.boundP f a.1)) (fun a => Sx.pw f a.1 + Sx.ew f a.2) (al.take m) (fun x _ => by have := Sx.nw_uses f x.2 (but ++ Sx.boundP f x.1); omega)
         have h3 := nw_len (Sx.usesE f ey (but ++ Sx.boundP f pt))
         have h4 := Sx.nw_uses f ey (but ++ Sx.boundP f pt)
         have h5 := HL1L.out
         have := HST.out; have := HBW.out; dsimp only at *; omega
        have HLE := Lib.hid hlen
        clear g1 g2 g3 hcell hpt hey hy hst hlen
        go_wp2_with fail
        refine wp_region_held_drew (S := fun w' => Below (w.heap.size + 1) wr w') (by kernel_rfl) ((Below.refl _ _).drew) (fun hHeld => ?_)
        refine wpAnyH_take (i := 0) (v := .slice va l.length cva) rfl (by kernel_rfl) (by kernel_rfl) (by kernel_rfl) (fun _ _ _ h => h) (Or.inl ⟨by rfl, fun w' hSw => by go_simp⟩) hHeld ?_
        refine wpAnyH_take (i := 1) (v := .pointer (some ⟨w.heap.size, 6, none⟩)) rfl (by kernel_rfl) (by kernel_rfl) (by kernel_rfl) (fun _ _ _ h => h) (Or.inl ⟨by rfl, fun w' hSw => by go_simp⟩) hHeld ?_
        refine wpAnyH_take (i := 2) (v := .slice (some ⟨g, of, none⟩) al.length c3) rfl (by kernel_rfl) (by kernel_rfl) (by kernel_rfl) (fun _ _ _ h => h) (Or.inl ⟨by rfl, fun w' hSw => by have h6 := (hSw.cell (p := ⟨w.heap.size, 6, none⟩) (by dsimp only; omega)).trans e6; go_simp⟩) hHeld ?_
        refine wpAnyH_take (i := 3) (v := .int .i64 m) rfl (by kernel_rfl) (by kernel_rfl) (by kernel_rfl) (fun _ _ _ h => h) (Or.inl ⟨by rfl, fun w' hSw => by go_simp⟩) hHeld ?_
        refine wpAnyH_take (i := 4) (v := .pointer (some ⟨g, of + m * 12, none⟩)) rfl (by kernel_rfl) (by kernel_rfl) (by kernel_rfl) (fun _ _ _ h => h) (Or.inl ⟨by rfl, fun w' hSw => by go_simp⟩) hHeld ?_
        refine wpAnyH_take (i := 5) (v := .pointer (some ⟨g, of + m * 12 + 5, none⟩)) rfl (by kernel_rfl) (by kernel_rfl) (by kernel_rfl) (fun _ _ _ h => h) (Or.inl ⟨by rfl, fun w' hSw => by go_simp⟩) hHeld ?_
        refine wpAnyH_take (i := 6) (v := .agg #[b0, b1, b2, b3, b4, b5, b6]) rfl (by kernel_rfl) (by kernel_rfl) (by kernel_rfl) (fun _ _ _ h => h) (Or.inl ⟨by rfl, fun w' hSw => by have hx := HCL.out w' hSw; obtain ⟨-, -, -, -, -, x5, x6, x7, x8, x9, x10, x11⟩ := hx; go_simp⟩) hHeld ?_
        refine wpAnyH_take (i := 8) (v := .slice qb but.length cb) rfl (by kernel_rfl) (by kernel_rfl) (by kernel_rfl) (fun _ _ _ h => h) (Or.inl ⟨by rfl, fun w' hSw => by go_simp⟩) hHeld ?_
        refine wpAnyH_take (i := 10) (v := .pointer (some ⟨w.heap.size, 6, none⟩)) rfl (by kernel_rfl) (by kernel_rfl) (by kernel_rfl) (fun _ _ _ h => h) (Or.inl ⟨by rfl, fun w' hSw => by go_simp⟩) hHeld ?_
        refine wpAnyH_take (i := 11) (v := .slice (some ⟨g, of, none⟩) al.length c3) rfl (by kernel_rfl) (by kernel_rfl) (by kernel_rfl) (fun _ _ _ h => h) (Or.inl ⟨by rfl, fun w' hSw => by have h6 := (hSw.cell (p := ⟨w.heap.size, 6, none⟩) (by dsimp only; omega)).trans e6; go_simp⟩) hHeld ?_
        refine wpAnyH_take (i := 12) (v := .int .i64 m) rfl (by kernel_rfl) (by kernel_rfl) (by kernel_rfl) (fun _ _ _ h => h) (Or.inl ⟨by rfl, fun w' hSw => by go_simp⟩) hHeld ?_
        refine wpAnyH_take (i := 13) (v := .pointer (some ⟨g, of + m * 12, none⟩)) rfl (by kernel_rfl) (by kernel_rfl) (by kernel_rfl) (fun _ _ _ h => h) (Or.inl ⟨by rfl, fun w' hSw => by go_simp⟩) hHeld ?_
        refine wpAnyH_take (i := 14) (v := .pointer (some ⟨g, of + m * 12, none⟩)) rfl (by kernel_rfl) (by kernel_rfl) (by kernel_rfl) (fun _ _ _ h => h) (Or.inl ⟨by rfl, fun w' hSw => by go_simp⟩) hHeld ?_
        refine wpAnyH_take (i := 15) (v := .agg #[a0, a1, a2, a3, a4]) rfl (by kernel_rfl) (by kernel_rfl) (by kernel_rfl) (fun _ _ _ h => h) (Or.inl ⟨by rfl, fun w' hSw => by have hx := HCL.out w' hSw; obtain ⟨x0, x1, x2, x3, x4, -, -, -, -, -, -, -⟩ := hx; go_simp⟩) hHeld ?_
        simp only [Act.put, List.setIfInBounds_toArray, List.set_cons_zero, List.set_cons_succ]
        refine wpAnyH_ready (rs := [7]) (by kernel_rfl) (by simp) ?_
        refine AllReadyH.cons rfl (fun K hK => ?_) AllReadyH.nil
        go_simp
        have hb1 : Below wr.heap.size wr (wr.drew.alloc (.cells #[] 9)) := ((Below.refl _ _).drew).alloc (Nat.le_refl _) _
        have HO1 := Lib.hid (own_empty wr.drew)
        have HB1 := Lib.hid hb1
        refine hK.out _ _ (hb1.mono (by omega)) (fun hHeld => ?_)
        clear hK K hb1
        refine wpAnyH_ready (rs := [9]) (by kernel_rfl) (by simp) ?_
        refine AllReadyH.cons rfl (fun K hK => ?_) AllReadyH.nil
        refine step_app_s rfl (.tmp 60) (.tmp 61) rfl wr.heap.size _ [] rfl HO1.out _ rfl but (rowS_below HRB.out (HB.out.trans (HB1.out.mono (by omega)))) (by simp; omega) HB1.out.size ?_
        intro v2 w2 ha2
        have HB2 := Lib.hid (ha2.below HO1.out HB1.out HB1.out.size (Nat.le_refl _))
        have HO2 := Lib.hid ha2.1
        refine hK.out _ _ (HB2.out.mono (by omega)) (fun hHeld => ?_)
        clear hK K ha2
        refine wpAnyH_ready (rs := [16]) (by kernel_rfl) (by simp) ?_
        refine AllReadyH.cons rfl (fun K hK => ?_) AllReadyH.nil
        go_simp
        refine (refBound_any f pt _ w2 (patAt_below HPT.out (HB.out.trans (HB2.out.mono (by omega)))) (by have := HMW.out; have := HBW.out; omega)).mono ?_
        rintro e w3 ⟨v3, rfl, hb3, hnew3⟩
        have HB3 := Lib.hid (HB2.out.trans (hb3.mono HB2.out.size))
        have HN3 := Lib.hid hnew3.now
        have HO3 := Lib.hid (own_kept HO2.out hb3)
        refine hK.out _ _ (HB3.out.mono (by omega)) (fun hHeld => ?_)
        clear hK K hb3 hnew3
        refine wpAnyH_ready (rs := [17]) (by kernel_rfl) (by simp) ?_
        refine AllReadyH.cons rfl (fun K hK => ?_) AllReadyH.nil
        refine step_app_s rfl (.tmp 62) (.tmp 69) rfl wr.heap.size _ _ rfl HO3.out _ rfl (Sx.boundP f pt) HN3.out (by have h1 := nw_len (Sx.boundP f pt); have h2 := Sx.nw_bound f pt; have := HMW.out; have := HBW.out; simp; omega) HB3.out.size ?_
        intro v4 w4 ha4
        have HB4 := Lib.hid (ha4.below HO3.out HB3.out HB3.out.size (Nat.le_refl _))
        have HO4 := Lib.hid ha4.1
        refine hK.out _ _ (HB4.out.mono (by omega)) (fun hHeld => ?_)
        clear hK K ha4
        refine wpAnyH_ready (rs := [18]) (by kernel_rfl) (by simp) ?_
        refine AllReadyH.cons rfl (fun K hK => ?_) AllReadyH.nil
        go_simp
        refine (ih ey _ _ (but ++ Sx.boundP f pt) w4 (exprAt_below HEY.out (HB.out.trans (HB4.out.mono (by omega)))) (rowS_own' HO4.out) (by have h1 := nw_len (Sx.boundP f pt); have h2 := Sx.nw_bound f pt; have := HMW.out; have := HBW.out; rw [List.length_append]; omega)).mono ?_
        rintro e w5 ⟨v5, rfl, hb5, hnew5⟩
        have HB5 := Lib.hid (HB4.out.trans (hb5.mono HB4.out.size))
        have HN5 := Lib.hid hnew5.now
        have HO5 := Lib.hid (own_kept HO.out HB5.out)
        have EX5 := Lib.hid (ent_below EX.out HB5.out)
        refine hK.out _ _ (HB5.out.mono (by omega)) (fun hHeld => ?_)
        clear hK K hb5 hnew5
        refine wpAnyH_ready (rs := [19]) (by kernel_rfl) (by simp) ?_
        refine AllReadyH.cons rfl (fun K hK => ?_) AllReadyH.nil
        refine step_app_s rfl (.tmp 53) (.tmp 71) rfl (w.heap.size + 1) _ _ rfl HO5.out _ rfl _ HN5.out HLE.out (by have := HB5.out.size; omega) ?_
        intro v6 w6 ha6
        obtain ⟨p6, q6, rfl⟩ := own_slice ha6.1
        have HB6 := Lib.hid (ha6.below HO5.out (HB.out.trans (HB5.out.mono (by omega))) (by have := HB5.out.size; omega) (by omega))
        have HB6' := Lib.hid (ha6.below HO5.out (HB5.out.mono (B' := w.heap.size + 1) (by omega)) (by have := HB5.out.size; omega) (Nat.le_refl _))
        have EX6 := Lib.hid (ha6.at HO5.out EX5.out (by omega))
        have HO6 := Lib.hid ha6.1
        have HT6 : Hid (l ++ Sx.usesE f ey (but ++ Sx.boundP f pt) = (l1 ++ (al.take (m + 1)).flatMap (fun a => Sx.usesE f a.2 (but ++ Sx.boundP f a.1)))) := Lib.hid (by rw [HT.out, HLL.out, List.append_assoc])
        obtain ⟨l3, hl3⟩ : ∃ l3, l3 = l ++ Sx.usesE f ey (but ++ Sx.boundP f pt) := ⟨_, rfl⟩
        rw [← hl3] at HO6 HT6 ⊢
        clear hl3 ha6
        refine hK.out _ _ HB6'.out (fun hHeld => ?_)
        clear hK K
        refine wpAnyH_ready (rs := [20]) (by kernel_rfl) (by simp) ?_
        refine AllReadyH.cons rfl (fun K hK => ?_) AllReadyH.nil
        go_simp
        refine hK.out _ _ HB6'.out (fun hHeld => ?_)
        clear hK K
        refine wpAnyH_done (by kernel_rfl) ?_ _
        go_wp2_with fail
        go_roundw
        case rel => exact ⟨m + 1, l3, by go_num, by omega, HT6, HO6, EX6, HB6⟩
        case measure => simp [intOf]; omega
      · obtain rfl : m = al.length := by omega
        have hll := HLL.out
        rw [List.take_length] at hll
        have hfin : l = Sx.usesE (f + 1) (.mk k p nm i ns xs al) but := by
         rw [hll, HL1.out, HL0.out, Sx.usesE, HINN.out]
        have HF := Lib.hid hfin
        clear hll HLL hfin
        go_wp2_with fail
        go_ret
        rw [← HF.out]
        exact ⟨_, rfl, HB.out, newS_own HO.out rfl (by omega)⟩
theorem uses_any : ∀ f, UsesC f
 | 0 => fun x v bv but w hx => hx.elim
 | f + 1 => uses_step f (uses_any f)
end Go.Proofs.Ytgoacbomphlhjaa
namespace Go.Proofs.Ytgoacbomphlhjaa
open Go Go.RowKit
set_option linter.unusedVariables false
set_option linter.unusedSimpArgs false
set_option maxHeartbeats 4000000 in
theorem refFree_any (f : Nat) (x : Px.Expr) (v : Value) (w : World) (hx : ExprAt f w v x) (hw : Sx.ew f x ≤ 400000) : Calls Try.prog 30 #[v] w (RNewS w (Sx.freeE f x)) := by
 have HX := Lib.hid hx; have HW := Lib.hid hw
 obtain ⟨k, p, sn, i, q1, n1, c1, q2, n2, c2, q3, n3, c3, rfl⟩ := exprAt_sh hx
 clear hx hw
 go_enter Try.func30, Try.ntmps30
 have EX := Lib.hid (ent_new w #[.int .i64 k, .int .i64 p, .string sn, .int .i64 i, .slice q1 n1 c1, .slice q2 n2 c2, .slice q3 n3 c3] 53)
 have HB := Lib.hid (show Below w.heap.size w (w.alloc (.cells #[.int .i64 k, .int .i64 p, .string sn, .int .i64 i, .slice q1 n1 c1, .slice q2 n2 c2, .slice q3 n3 c3] 53)) from (Below.refl _ _).alloc (Nat.le_refl _) _)
 go_upto_region 1 with fail
 generalize w.alloc (.cells #[.int .i64 k, .int .i64 p, .string sn, .int .i64 i, .slice q1 n1 c1, .slice q2 n2 c2, .slice q3 n3 c3] 53) = w1 at EX HB ⊢
 have e0 := ent_cell EX.out 0 _ rfl; have e1 := ent_cell EX.out 1 _ rfl; have e2 := ent_cell EX.out 2 _ rfl; have e3 := ent_cell EX.out 3 _ rfl; have e4 := ent_cell EX.out 4 _ rfl; have e5 := ent_cell EX.out 5 _ rfl; have e6 := ent_cell EX.out 6 _ rfl
 have HU := Lib.hid (uses_any f x _ (.slice none 0 0) [] w1 (exprAt_below HX.out HB.out) (.inl ⟨rfl, none, 0, rfl⟩) (by have := HW.out; simpa using this))
 go_wp2_with fail
 clear e0 e1 e2 e3 e4 e5 e6 EX
 refine HU.out.mono ?_
 rintro e w2 ⟨v2, rfl, hb, hnew⟩
 have hul : (Sx.usesE f x []).length ≤ 400000 := by have h1 := nw_len (Sx.usesE f x []); have h2 := Sx.nw_uses f x []; have := HW.out; omega
 obtain ⟨us, hus⟩ : ∃ us, us = Sx.usesE f x [] := ⟨_, rfl⟩
 have hr := hnew.now
 rw [← hus] at hr hul
 have HUS := Lib.hid hus
 obtain ⟨q, cp, rfl⟩ := hr.len
 have HR := Lib.hid hr
 have HB2 := Lib.hid (HB.out.trans (hb.mono HB.out.size))
 have hs2 : w.heap.size ≤ w2.heap.size := HB2.out.size
 clear hb hnew hr hus HU HB
 go_wp2_with fail
 go_loopw [4, 5] (fun o j wr => ∃ (m : Nat) (l : List Nm), j = .int .i64 m ∧ m ≤ us.length ∧ Hid (l = Sx.once [] (us.take m)) ∧ Hid (OwnS wr w2.heap.size o l) ∧ Hid (Below w2.heap.size w2 wr)) (fun _ j _ => us.length - (intOf j).toNat)
 case atStart => exact ⟨0, [], rfl, Nat.zero_le _, Lib.hid (by simp [Sx.once]), Lib.hid (World.ownsRow_nil _ _ _ _), Lib.hid (Below.refl _ _)⟩
 case round =>
  obtain ⟨m, l, rfl, hm, HL, HO, HB⟩ := hrel
  obtain ⟨lq, lc, rfl⟩ := own_slice HO.out
  by_cases hlt : m < us.length
  · obtain ⟨y, hy⟩ : ∃ y, us[m]? = some y := ⟨_, List.getElem?_eq_getElem hlt⟩
    rcases HR.out with ⟨h0, _⟩ | ⟨g, of, c', hv, g1, g2, g3⟩
    · rw [h0] at hlt; simp at hlt
    injection hv with hq1 _ hq2
    subst hq1; subst hq2
    obtain ⟨u, hu, _, hcell⟩ := g3 m y hy
    have hu' : u = .string ⟨y.toArray⟩ := hu
    subst hu'
    have h0 := cell_up HB.out (hcell 0 _ rfl)
    simp only [Nat.mul_one, Nat.add_zero] at h0
    have hk1 : (m : Int) < (us.length : Int) := by omega
    have hk2 : (us.length : Int) ≤ (cp : Int) := by omega
    have hk3 := g2
    have htk : us.take (m + 1) = us.take m ++ [y] := by rw [List.take_add_one, hy]; rfl
    have HTK := Lib.hid htk
    have hll : l.length ≤ 400000 := by rw [HL.out]; have := Sx.once_len (us.take m) []; simp at this; omega
    clear g1 g2 g3 hcell hu hy htk
    have HHAS := Lib.hid (refHas_any _ l y wr (rowS_own' HO.out))
    go_wp2_with fail
    refine HHAS.out.mono ?_
    rintro e w3 ⟨rfl, rfl⟩
    cases hh : hasN l y with
    | true =>
      have HH := Lib.hid hh; clear hh
      go_wp2_with fail
      go_roundw
      case rel => exact ⟨m + 1, l, by go_num, by omega, Lib.hid (by rw [HTK.out, Sx.once_snoc, ← HL.out, if_pos (show l.contains y = true from HH.out)]), HO, HB⟩
      case measure => simp [intOf]; omega
    | false =>
      have HH := Lib.hid hh; clear hh
      have HE := Lib.hid (ent_new w3 #[.string ⟨y.toArray⟩] 9)
      have HBA := Lib.hid (show Below w3.heap.size w3 (w3.alloc (.cells #[.string ⟨y.toArray⟩] 9)) from (Below.refl _ _).alloc (Nat.le_refl _) _)
      have HO4 := Lib.hid (own_kept HO.out HBA.out)
      go_wp2_with (at_builtin; refine list_app_s rfl (.tmp 21) (.tmp 26) rfl w2.heap.size _ _ rfl HO4.out _ rfl [y] (row_cell HE.out rfl rfl) (by simp; omega) (by have := HBA.out.size; have := HB.out.size; omega) ?_)
      intro v5 w5 happ
      have HB5 := Lib.hid (happ.below HO4.out (HB.out.trans (HBA.out.mono HB.out.size)) (by have := HBA.out.size; have := HB.out.size; omega) (Nat.le_refl _))
      obtain ⟨p5, c5, rfl⟩ := own_slice happ.1
      have HO5 := Lib.hid happ.1
      have HL5 : Hid (l ++ [y] = Sx.once [] (us.take (m + 1))) := Lib.hid (by rw [HTK.out, Sx.once_snoc, ← HL.out, if_neg (by rw [show l.contains y = false from HH.out]; decide)])
      obtain ⟨l5, hl5⟩ : ∃ l5, l5 = l ++ [y] := ⟨_, rfl⟩
      rw [← hl5] at HO5 HL5 ⊢
      clear happ hl5
      go_wp2
      go_roundw
      case rel => exact ⟨m + 1, l5, by go_num, by omega, HL5, HO5, HB5⟩
      case measure => simp [intOf]; omega
  · obtain rfl : m = us.length := by omega
    have hl := HL.out
    rw [List.take_length] at hl
    have HF := Lib.hid (show Sx.freeE f x = l by rw [Sx.freeE, ← HUS.out, hl])
    clear hl
    go_wp2_with fail
    go_ret
    rw [HF.out]
    exact ⟨_, rfl, HB2.out.trans (HB.out.mono hs2), newS_own HO.out rfl hs2⟩
set_option maxHeartbeats 8000000 in
set_option maxRecDepth 100000 in
theorem lawfree_any : ∀ (f : Nat) (x : Px.Expr) (v : Value) (w : World), ExprAt f w v x → Sx.ew f x ≤ 400000 → Calls Try.prog 14 #[v] w fun e w' => e = .returned (.bool true) ∧ Below w.heap.size w w' := by
 intro f
 induction f with
 | zero => intro x v w hx; exact hx.elim
 | succ f ih =>
   intro x v w hx hw
   have HX := Lib.hid hx; have HW := Lib.hid hw
   cases x with | mk k p nm i ns xs al =>
   obtain ⟨nv, xv, av, rfl, h1, h2, h3⟩ := hx
   obtain ⟨q1, c1, rfl⟩ := h1.len
   obtain ⟨q2, c2, rfl⟩ := h2.len
   obtain ⟨q3, c3, rfl⟩ := h3.len
   have HR2 := Lib.hid h2; have HR3 := Lib.hid h3
   have HBW : Hid ((xs.map (Sx.ew f)).sum ≤ 400000 ∧ (al.map fun a => Sx.pw f a.1 + Sx.ew f a.2).sum ≤ 400000) := Lib.hid (by rw [Sx.ew] at hw; omega)
   clear h1 h2 h3 hw
   go_enter Try.func14, Try.ntmps14
   have EX := Lib.hid (ent_new w #[.int .i64 k, .int .i64 p, .string ⟨nm.toArray⟩, .int .i64 i, .slice q1 ns.length c1, .slice q2 xs.length c2, .slice q3 al.length c3] 53)
   have HB := Lib.hid (show Below w.heap.size w (w.alloc (.cells #[.int .i64 k, .int .i64 p, .string ⟨nm.toArray⟩, .int .i64 i, .slice q1 ns.length c1, .slice q2 xs.length c2, .slice q3 al.length c3] 53)) from (Below.refl _ _).alloc (Nat.le_refl _) _)
   have hsz : w.heap.size + 1 ≤ (w.alloc (.cells #[.int .i64 k, .int .i64 p, .string ⟨nm.toArray⟩, .int .i64 i, .slice q1 ns.length c1, .slice q2 xs.length c2, .slice q3 al.length c3] 53)).heap.size := by simp
   go_upto_region 1 with fail
   generalize w.alloc (.cells #[.int .i64 k, .int .i64 p, .string ⟨nm.toArray⟩, .int .i64 i, .slice q1 ns.length c1, .slice q2 xs.length c2, .slice q3 al.length c3] 53) = w1 at EX HB hsz ⊢
   go_cut [12] (fun b wx => b = .bool false ∧ Hid (Below w1.heap.size w1 wx))
   case first =>
    refine wp_region_held_drew (S := fun w' => Below (w.heap.size + 1) w1 w') (by kernel_rfl) ((Below.refl _ _).drew) (fun hHeld => ?_)
    refine wpAnyH_take (i := 0) (v := .agg #[.int .i64 k, .int .i64 p, .string ⟨nm.toArray⟩, .int .i64 i, .slice q1 ns.length c1, .slice q2 xs.length c2, .slice q3 al.length c3]) rfl (by kernel_rfl) (by kernel_rfl) (by kernel_rfl) (fun _ _ _ h => h) (Or.inl ⟨by rfl, fun w' hSw => by have h := (hSw.block _ (by omega)).trans EX.out; have y0 := ent_cell h 0 _ rfl; have y1 := ent_cell h 1 _ rfl; have y2 := ent_cell h 2 _ rfl; have y3 := ent_cell h 3 _ rfl; have y4 := ent_cell h 4 _ rfl; have y5 := ent_cell h 5 _ rfl; have y6 := ent_cell h 6 _ rfl; go_simp⟩) hHeld ?_
    refine wpAnyH_take (i := 2) (v := .agg #[.int .i64 k, .int .i64 p, .string ⟨nm.toArray⟩, .int .i64 i, .slice q1 ns.length c1, .slice q2 xs.length c2, .slice q3 al.length c3]) rfl (by kernel_rfl) (by kernel_rfl) (by kernel_rfl) (fun _ _ _ h => h) (Or.inl ⟨by rfl, fun w' hSw => by have h := (hSw.block _ (by omega)).trans EX.out; have y0 := ent_cell h 0 _ rfl; have y1 := ent_cell h 1 _ rfl; have y2 := ent_cell h 2 _ rfl; have y3 := ent_cell h 3 _ rfl; have y4 := ent_cell h 4 _ rfl; have y5 := ent_cell h 5 _ rfl; have y6 := ent_cell h 6 _ rfl; go_simp⟩) hHeld ?_
    simp only [Act.put, List.setIfInBounds_toArray, List.set_cons_zero, List.set_cons_succ]
    refine wpAnyH_ready (rs := [1]) (by kernel_rfl) (by simp) ?_
    refine AllReadyH.cons rfl (fun K hK => ?_) AllReadyH.nil
    go_simp
    refine (Free_any (f + 1) _ _ w1.drew (exprAt_below HX.out (HB.out.drew)) HW.out).mono ?_
    rintro e w2 ⟨v2, rfl, hb2, hn2⟩
    have HN2 := Lib.hid hn2
    have HB2 := Lib.hid (show Below w1.heap.size w1 w2 from (show Below w1.heap.size w1 w1.drew from (Below.refl _ _).drew).trans hb2)
    refine hK.out _ _ (HB2.out.mono (by omega)) (fun hHeld => ?_)
    clear hK K hb2 hn2
    refine wpAnyH_ready (rs := [3]) (by kernel_rfl) (by simp) ?_
    refine AllReadyH.cons rfl (fun K hK => ?_) AllReadyH.nil
    go_simp
    refine (refFree_any (f + 1) _ _ w2 (exprAt_below HX.out (HB.out.trans (HB2.out.mono (by omega)))) HW.out).mono ?_
    rintro e w3 ⟨v3, rfl, hb3, hn3⟩
    have HB3 := Lib.hid (HB2.out.trans (hb3.mono HB2.out.size))
    have HR2 := Lib.hid (HN2.out w3 fun g h1 h2 => hb3.block g h2)
    have HR3 := Lib.hid hn3.now
    refine hK.out _ _ (HB3.out.mono (by omega)) (fun hHeld => ?_)
    clear hK K hb3 hn3
    refine wpAnyH_ready (rs := [4]) (by kernel_rfl) (by simp) ?_
    refine AllReadyH.cons rfl (fun K hK => ?_) AllReadyH.nil
    go_simp
    refine (refSame_any _ _ _ _ w3 HR2.out HR3.out).mono ?_
    rintro e w4 ⟨rfl, hb4⟩
    rw [decide_eq_true rfl]
    have HB4 := Lib.hid (HB3.out.trans (hb4.mono HB3.out.size))
    refine hK.out _ _ (HB4.out.mono (by omega)) (fun hHeld => ?_)
    clear hK K hb4
    refine wpAnyH_ready (rs := [5]) (by kernel_rfl) (by simp) ?_
    refine AllReadyH.cons rfl (fun K hK => ?_) AllReadyH.nil
    go_simp
    refine hK.out _ _ (HB4.out.mono (by omega)) (fun hHeld => ?_)
    clear hK K
    refine wpAnyH_done (by kernel_rfl) ?_ _
    go_wp2_with fail
    go_meet
    exact ⟨rfl, HB4⟩
   case rest =>
   obtain ⟨rfl, HBR⟩ := hcut
   replace EX := Lib.hid (ent_below EX.out HBR.out)
   replace HB := Lib.hid (HB.out.trans (HBR.out.mono (by omega)))
   clear HBR
   have e5 := ent_cell EX.out 5 _ rfl
   go_wp2_with fail
   clear e5 hsz
   go_loopw [4, 16] (fun _ j wr => ∃ m : Nat, j = .int .i64 m ∧ m ≤ xs.length ∧ Hid (wr.heap[w.heap.size]? = some (.cells #[.int .i64 k, .int .i64 p, .string ⟨nm.toArray⟩, .int .i64 i, .slice q1 ns.length c1, .slice q2 xs.length c2, .slice q3 al.length c3] 53 (0, 0))) ∧ Hid (Below w.heap.size w wr)) (fun _ j _ => xs.length - (intOf j).toNat)
   case atStart => exact ⟨0, rfl, Nat.zero_le _, EX, HB⟩
   case round =>
    clear EX HB
    obtain ⟨m, rfl, hm, EX, HB⟩ := hrel
    by_cases hlt : m < xs.length
    · obtain ⟨y, hy⟩ : ∃ y, xs[m]? = some y := ⟨_, List.getElem?_eq_getElem hlt⟩
      rcases HR2.out with ⟨h0, _⟩ | ⟨g, of, c', hv, g1, g2, g3⟩
      · rw [h0] at hlt; simp at hlt
      injection hv with hq1 _ hq2
      subst hq1; subst hq2
      obtain ⟨u, hu, _, hcell⟩ := g3 m y hy
      obtain ⟨z0, z1, z2, z3, zq1, zn1, zc1, zq2, zn2, zc2, zq3, zn3, zc3, rfl⟩ := exprAt_sh hu
      have d0 := cell_up HB.out (hcell 0 _ rfl)
      have d1 := cell_up HB.out (hcell 1 _ rfl)
      have d2 := cell_up HB.out (hcell 2 _ rfl)
      have d3 := cell_up HB.out (hcell 3 _ rfl)
      have d4 := cell_up HB.out (hcell 4 _ rfl)
      have d5 := cell_up HB.out (hcell 5 _ rfl)
      have d6 := cell_up HB.out (hcell 6 _ rfl)
      simp only [Nat.add_zero] at d0
      have hk1 : (m : Int) < (xs.length : Int) := by omega
      have hk2 : (xs.length : Int) ≤ (c2 : Int) := by omega
      have hk3 := g2
      have hst := Sx.sum_take (Sx.ew f) xs m y hy
      try dsimp only at hst
      have HST := Lib.hid hst
      have HBA := Lib.hid (show Below wr.heap.size wr (wr.alloc (.cells #[.int .i64 z0, .int .i64 z1, .string z2, .int .i64 z3, .slice zq1 zn1 zc1, .slice zq2 zn2 zc2, .slice zq3 zn3 zc3] 53)) from (Below.refl _ _).alloc (Nat.le_refl _) _)
      have HHU := Lib.hid hu
      clear g1 g2 g3 hcell hy hst hu
      go_wp2_with fail
      clear d0 d1 d2 d3 d4 d5 d6
      refine (ih y _ _ (exprAt_below HHU.out (HB.out.trans (HBA.out.mono HB.out.size))) (by have := HST.out; have := HBW.out; omega)).mono ?_
      rintro e w5 ⟨rfl, hb5⟩
      have HB5 := Lib.hid ((HB.out.trans (HBA.out.mono HB.out.size)).trans (hb5.mono (Nat.le_trans HB.out.size HBA.out.size)))
      have EX5 := Lib.hid (ent_below (ent_below EX.out HBA.out) hb5)
      clear hb5
      go_wp2_with fail
      go_roundw
      case rel => exact ⟨m + 1, by go_num, by omega, EX5, HB5⟩
      case measure => simp [intOf]; omega
    · obtain rfl : m = xs.length := by omega
      have e6 := ent_cell EX.out 6 _ rfl
      go_wp2_with fail
      clear e6
      obtain ⟨wz, hwz⟩ : ∃ x, x = wr := ⟨wr, rfl⟩
      subst hwz
      go_loopw [6, 27] (fun _ j wr => ∃ m : Nat, j = .int .i64 m ∧ m ≤ al.length ∧ Hid (wr.heap[w.heap.size]? = some (.cells #[.int .i64 k, .int .i64 p, .string ⟨nm.toArray⟩, .int .i64 i, .slice q1 ns.length c1, .slice q2 xs.length c2, .slice q3 al.length c3] 53 (0, 0))) ∧ Hid (Below w.heap.size w wr)) (fun _ j _ => al.length - (intOf j).toNat)
      case atStart => exact ⟨0, rfl, Nat.zero_le _, EX, HB⟩
      case round =>
       clear EX HB
       obtain ⟨m, rfl, hm, EX, HB⟩ := hrel
       by_cases hlt : m < al.length
       · obtain ⟨y, hy⟩ : ∃ y, al[m]? = some y := ⟨_, List.getElem?_eq_getElem hlt⟩
         rcases HR3.out with ⟨h0, _⟩ | ⟨g, of, c', hv, g1, g2, g3⟩
         · rw [h0] at hlt; simp at hlt
         injection hv with hq1 _ hq2
         subst hq1; subst hq2
         obtain ⟨u, hu, _, hcell⟩ := g3 m y hy
         obtain ⟨a0, a1, a2, a3, a4, b0, b1, b2, b3, b4, b5, b6, rfl, hpu, heu⟩ := hu
         obtain ⟨y0, y1, y2, y3, yq1, yn1, yc1, yq2, yn2, yc2, yq3, yn3, yc3, hy'⟩ := exprAt_sh heu
         obtain ⟨z0, z1, z2, z3, zq, zn, zc, hz⟩ := patAt_sh hpu
         simp only [Value.agg.injEq, Array.mk.injEq, List.cons.injEq, and_true] at hz hy'
         obtain ⟨rfl, rfl, rfl, rfl, rfl⟩ := hz
         obtain ⟨rfl, rfl, rfl, rfl, rfl, rfl, rfl⟩ := hy'
         have d0 := cell_up HB.out (hcell 0 _ rfl)
         have d1 := cell_up HB.out (hcell 1 _ rfl)
         have d2 := cell_up HB.out (hcell 2 _ rfl)
         have d3 := cell_up HB.out (hcell 3 _ rfl)
         have d4 := cell_up HB.out (hcell 4 _ rfl)
         have d5 := cell_up HB.out (hcell 5 _ rfl)
         have d6 := cell_up HB.out (hcell 6 _ rfl)
         have d7 := cell_up HB.out (hcell 7 _ rfl)
         have d8 := cell_up HB.out (hcell 8 _ rfl)
         have d9 := cell_up HB.out (hcell 9 _ rfl)
         have d10 := cell_up HB.out (hcell 10 _ rfl)
         have d11 := cell_up HB.out (hcell 11 _ rfl)
         simp only [Nat.add_zero] at d0
         have hk1 : (m : Int) < (al.length : Int) := by omega
         have hk2 : (al.length : Int) ≤ (c3 : Int) := by omega
         have hk3 := g2
         have hst := Sx.sum_take (fun a : Px.Pat × Px.Expr => Sx.pw f a.1 + Sx.ew f a.2) al m y hy
         try dsimp only at hst
         have HST := Lib.hid hst
         have HBA := Lib.hid (show Below wr.heap.size wr (wr.alloc (.cells #[.int .i64 z0, .int .i64 z1, .string z2, .int .i64 z3, .slice zq zn zc, .int .i64 y0, .int .i64 y1, .string y2, .int .i64 y3, .slice yq1 yn1 yc1, .slice yq2 yn2 yc2, .slice yq3 yn3 yc3] 96)) from (Below.refl _ _).alloc (Nat.le_refl _) _)
         have HHU := Lib.hid heu
         clear g1 g2 g3 hcell hy hst hpu heu
         go_wp2_with fail
         clear d0 d1 d2 d3 d4 d5 d6 d7 d8 d9 d10 d11
         refine (ih y.2 _ _ (exprAt_below HHU.out (HB.out.trans (HBA.out.mono HB.out.size))) (by have := HST.out; have := HBW.out; omega)).mono ?_
         rintro e w5 ⟨rfl, hb5⟩
         have HB5 := Lib.hid ((HB.out.trans (HBA.out.mono HB.out.size)).trans (hb5.mono (Nat.le_trans HB.out.size HBA.out.size)))
         have EX5 := Lib.hid (ent_below (ent_below EX.out HBA.out) hb5)
         clear hb5
         go_wp2_with fail
         go_roundw
         case rel => exact ⟨m + 1, by go_num, by omega, EX5, HB5⟩
         case measure => simp [intOf]; omega
       · obtain rfl : m = al.length := by omega
         go_wp2_with fail
         go_ret
         exact ⟨rfl, HB.out⟩
end Go.Proofs.Ytgoacbomphlhjaa
namespace Go.Proofs.Ytgoacbomphlhjaa
open Go.ChangeShapes Go.WideShapes Go.ChangeAt Go.RowKit
set_option linter.unusedVariables false
set_option linter.unusedSimpArgs false
theorem own : ownKnob Try.prog.godebug = none := by kernel_rfl
theorem laidOut : laidOutB Try.prog = true := by kernel_rfl
/-- A slice of integers that came in: nil, or a row of 'cap' cells with the numbers 'zs'; the first 'len' are its elements. -/
def IsRow (k : IntKind) (w : World) (a : Option Addr) (len cap : Nat) (zs : List Int) : Prop :=
 (a = none ∧ len = 0 ∧ cap = 0 ∧ zs = []) ∨
 ∃ x, a = some x ∧ len ≤ cap ∧ cap ≤ 140737488351232 ∧ zs.length = cap ∧ (∀ i, i < zs.length → w.cell? (x.add i) = some (.int k (zs.getD i 0))) ∧ ∀ n ∈ zs, (Lit.int k n).wf = true
/-- What a slice of bytes that came in holds. -/
def bytesOf (zs : List Int) (len : Nat) : List UInt8 := (zs.take len).map fun z => UInt8.ofNat z.toNat
/-- A source of bytes for an append. -/
def SrcAt (w : World) (v : Value) (l : List UInt8) : Prop :=
 (v = .slice none 0 0 ∧ l = []) ∨ ∃ ad c, v = .slice (some ad) l.length c ∧ ∀ j u, (l.map byteV)[j]? = some u → w.cell? (ad.add j) = some u
theorem SrcAt.below {w w' : World} {v : Value} {l : List UInt8} (h : SrcAt w v l) (hb : Below w.heap.size w w') : SrcAt w' v l := by
 rcases h with h | ⟨ad, c, rfl, h⟩
 · exact .inl h
 · refine .inr ⟨ad, c, rfl, fun j u hu => ?_⟩
   have := h j u hu
   rw [hb.cell (World.block_lt_of_cell? w _ this)]; exact this
theorem row_src {w : World} {a : Option Addr} {len cap : Nat} {zs : List Int} (h : IsRow .u8 w a len cap zs) :
 SrcAt w (.slice a len cap) (bytesOf zs len) ∧ SliceAt w (.slice a len cap) (bytesOf zs len) ∧ (bytesOf zs len).length = len ∧ len ≤ 140737488351232 := by
 rcases h with ⟨rfl, rfl, rfl, rfl⟩ | ⟨x, rfl, h1, h2, h3, h4, h5⟩
 · exact ⟨.inl ⟨rfl, rfl⟩, .inl ⟨none, 0, rfl, rfl⟩, rfl, by omega⟩
 · have hl : (bytesOf zs len).length = len := by simp [bytesOf]; omega
   have hz : ∀ j, j < len → zs.getD j 0 = ((Lx.at0 (bytesOf zs len) j).toNat : Int) := by
    intro j hj
    have hjz : j < zs.length := by omega
    have hb := bounds_u8 (h5 _ (List.getElem_mem hjz))
    unfold Lx.at0
    rw [List.getD_eq_getElem?_getD, List.getD_eq_getElem?_getD, List.getElem?_eq_getElem hjz]
    simp only [bytesOf, List.getElem?_map, List.getElem?_take, if_pos hj, List.getElem?_eq_getElem hjz, Option.map_some, Option.getD_some]
    rw [UInt8.toNat_ofNat']; omega
   have hsrc : ∀ j, j < len → w.cell? (x.add j) = some (.int .u8 (Lx.at0 (bytesOf zs len) j).toNat) := by
    intro j hj
    rw [h4 j (by omega), hz j hj]
   refine ⟨.inr ⟨x, cap, by rw [hl], fun j u hu => ?_⟩, ?_, hl, by omega⟩
   · have hj : j < len := by
      have := (List.getElem?_eq_some_iff.1 hu).1
      simpa [hl] using this
     rw [hsrc j hj, ← hu, at0_get _ j (by omega)]
   · by_cases h0 : len = 0
     · subst h0
       exact .inl ⟨_, cap, rfl, List.eq_nil_of_length_eq_zero hl⟩
     · obtain ⟨b, off, rfl, hbo⟩ := ints_at (zs := zs) (k := .u8) (w := w) (a := x) h4 (by omega)
       refine .inr ⟨b, off, cap, by rw [hl], by omega, by omega, fun j hj => ?_⟩
       rw [hbo j (by omega), hz j (by omega)]
theorem conv_src {W : World} {v : Value} {l : List UInt8} (h : SrcAt W v l) : (convert 22 9 v).run Try.prog W = .ok (.string ⟨l.toArray⟩) W := by
 rcases h with ⟨rfl, rfl⟩ | ⟨ad, c, rfl, h⟩
 · exact run_convert_bytes_nil (P := Try.prog) W 22 5 Try.underlying22 Try.underlying5 0 0 9 Try.underlying9
 · refine run_convert_bytes_back (P := Try.prog) W 22 9 5 ad c l Try.underlying22 Try.underlying5 Try.underlying9 (fun j hj => ?_)
   refine h j _ ?_
   rw [List.getElem?_map, List.getElem?_eq_getElem hj]; rfl
/-- The bytes of an argument. -/
theorem open_bytes {H : Type} {enc : TypeId × Value → H} {W : World} {a0 : Option Addr} {len0 cap0 : Nat} {d0 : DataW H} {p0 : List MemPlace} {ts : List TypeId} {ds : List (DataW H)}
 (h : DataW.Trod enc Try.prog W 0 (fun _ => true) true 22 (.slice a0 len0 cap0) d0 p0) (hreach : (DataW.weightsEach Try.prog (22 :: ts) (d0 :: ds)).all (· ≤ reachBytes) = true) :
 ∃ l : List UInt8, SrcAt W (.slice a0 len0 cap0) l ∧ l.length = len0 ∧ len0 ≤ 140737488351232 := by
 obtain ⟨zs, hz⟩ : ∃ zs, IsRow .u8 W a0 len0 cap0 zs := by
  obtain ⟨fuel, hf⟩ := h
  rcases open_ints Try.underlying22 Try.underlying5 (by kernel_rfl) hf with ⟨hcs, _⟩ | ⟨x, l, c, zs, hcs, _, hl, hm, hz, hx, hcell, hwz⟩
  · simp [Value.cells] at hcs
    obtain ⟨rfl, rfl, rfl⟩ := hcs
    exact ⟨[], .inl ⟨rfl, rfl, rfl, rfl⟩⟩
  · simp [Value.cells] at hcs
    obtain ⟨rfl, rfl, rfl⟩ := hcs
    have hzz : zs.length = cap0 := by simpa using hz
    simp only [Prod.mk.injEq] at hx
    have hd : d0 = _ := hx.1
    have hr : cap0 ≤ 140737488351232 := by
     have this : ((lits (H := H) .u8 (zs.take len0)).length + (lits (H := H) .u8 (zs.drop len0)).length) * Try.prog.bytesOf 5 ≤ reachBytes := sized_slice hreach (j := 0) (t := 22) (e := 5) rfl (by rw [hd]; rfl) Try.underlying22
     rw [show Try.prog.bytesOf 5 = 1 by kernel_rfl] at this
     simp only [lits, List.length_map, List.length_take, List.length_drop, reachBytes] at this
     omega
    exact ⟨zs, .inr ⟨_, rfl, hl, hr, hzz, hcell, hwz⟩⟩
 obtain ⟨h1, _, h3, h4⟩ := row_src hz
 exact ⟨_, h1, h3, h4⟩
end Go.Proofs.Ytgoacbomphlhjaa
namespace Go.Proofs.Ytgoacbomphlhjaa
open Go Go.RowKit
set_option linter.unusedVariables false
set_option linter.unusedSimpArgs false
set_option maxHeartbeats 4000000 in
set_option maxRecDepth 100000 in
theorem scopeFree_walk (w : World) (a0 : Option Addr) (n c : Nat) (l : List UInt8) (hs : SrcAt w (.slice a0 n c) l) (hl : l.length = n) (hn : n ≤ 140737488351232) :
 Calls Try.prog 4 #[.slice a0 n c] w fun e w' => e = .returned (.bool true) ∧ Below w.heap.size w w' := by
 have HS := Lib.hid hs; have HL := Lib.hid hl
 clear hs hl
 go_enter Try.func4, Try.ntmps4
 go_wp2_with fail
 refine (lives_any _).mono ?_
 rintro e w1 ⟨rfl, hb1⟩
 have HB1 := Lib.hid hb1; clear hb1
 by_cases hlong : 2000 < n
 · have hl2 : (2000 : Int) < (n : Int) := by omega
   go_wp2_with fail
   refine (lives_any _).mono ?_
   rintro e w2 ⟨rfl, hb2⟩
   have HB2 := Lib.hid (HB1.out.trans (hb2.mono HB1.out.size)); clear hb2
   go_wp2_with fail
   go_ret
   exact ⟨rfl, HB2.out⟩
 · have hl2 : ¬ (2000 : Int) < (n : Int) := by omega
   have hcv := conv_src (HS.out.below HB1.out)
   go_wp2_with fail
   refine (RExpr_any l _ (by have := HL.out; omega)).mono ?_
   rintro e w2 ⟨hb2, v, p, k, rfl, hsh, hres⟩
   have HB2 := Lib.hid (HB1.out.trans (hb2.mono HB1.out.size)); clear hb2 hcv
   obtain ⟨x0, x1, x2, x3, q1, n1, c1, q2, n2, c2, q3, n3, c3, rfl⟩ := hsh
   have HB3 := Lib.hid (HB2.out.alloc HB2.out.size (.cells #[.int .i64 x0, .int .i64 x1, .string x2, .int .i64 x3, .slice q1 n1 c1, .slice q2 n2 c2, .slice q3 n3 c3] 53))
   generalize hout : Px.exprOf l = out at *
   cases out with
   | lex q =>
     obtain ⟨rfl, rfl⟩ := hres
     go_wp2_with fail
     go_ret
     exact ⟨rfl, HB3.out⟩
   | parse q =>
     obtain ⟨rfl, rfl⟩ := hres
     go_wp2_with fail
     go_ret
     exact ⟨rfl, HB3.out⟩
   | done q =>
     obtain ⟨rfl, rfl, hnew⟩ := hres
     have HX := Lib.hid (new_alloc hnew (.cells #[.int .i64 x0, .int .i64 x1, .string x2, .int .i64 x3, .slice q1 n1 c1, .slice q2 n2 c2, .slice q3 n3 c3] 53))
     have HW := Lib.hid (Px.exprOf_wt l q hout)
     clear hnew hout
     go_wp2_with fail
     refine (lawfree_any 50 q _ _ HX.out (by have := HW.out; omega)).mono ?_
     rintro e w4 ⟨rfl, hb4⟩
     have HB4 := Lib.hid (HB3.out.trans (hb4.mono HB3.out.size))
     clear hb4
     go_wp2_with fail
     go_ret
     exact ⟨rfl, HB4.out⟩
end Go.Proofs.Ytgoacbomphlhjaa
