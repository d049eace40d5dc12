/-
  Several texts in one: PFn, PCase.
-/
import Derived.Test.YtnhndamfbeiljaaGreatDoorGCon
namespace Go.Proofs.YtnhndamfbeiljaaGreatDoor
open Go Go.RowKit
set_option linter.unusedVariables false
set_option linter.unusedSimpArgs false

set_option maxHeartbeats 2000000 in
theorem fn_bad (k : Nat) (n : Px.Node) (lv : Value) (w : World) (hk : KidsAt w k lv n.list) (p : Nat) (hp : Px.nodes n 3 3 = .error p) :
    Calls Tryz.prog 143 #[nodeV n lv] w (fun e w' => e = wrongAt p ∧ Below w.heap.size w w') := by
  have HK := Lib.hid hk
  clear hk
  go_enter Tryz.func143, Tryz.ntmps143
  unfold nodeV
  go_wp2_with fail
  have EN := Lib.hid (ent_alloc (ent_new w #[.int .i64 n.tok.kind, .int .i64 n.tok.pos, .string ⟨n.tok.text.toArray⟩, .int .i64 n.tok.int, lv, .int .i64 n.takes] 105) (.cells #[.int .i64 0, .int .i64 0, .string ⟨#[]⟩, .int .i64 0, .slice none 0 0, .slice none 0 0, .slice none 0 0] 47))
  have ER0 := ent_new (w.alloc (.cells #[.int .i64 n.tok.kind, .int .i64 n.tok.pos, .string ⟨n.tok.text.toArray⟩, .int .i64 n.tok.int, lv, .int .i64 n.takes] 105)) #[.int .i64 0, .int .i64 0, .string ⟨#[]⟩, .int .i64 0, .slice none 0 0, .slice none 0 0, .slice none 0 0] 47
  rw [World.size_alloc] at ER0
  have ER := Lib.hid ER0
  have HB := Lib.hid (((Below.refl w.heap.size w).alloc (Nat.le_refl _) (.cells #[.int .i64 n.tok.kind, .int .i64 n.tok.pos, .string ⟨n.tok.text.toArray⟩, .int .i64 n.tok.int, lv, .int .i64 n.takes] 105)).alloc (by simp) (.cells #[.int .i64 0, .int .i64 0, .string ⟨#[]⟩, .int .i64 0, .slice none 0 0, .slice none 0 0, .slice none 0 0] 47))
  clear ER0
  refine (nodes_badI k n lv 3 3 3 3 _ rfl rfl (HK.out.below HB.out) (by omega) (by omega) p hp).mono ?_
  rintro e w1 ⟨rfl, hb⟩
  replace HB := Lib.hid (HB.out.trans (hb.mono HB.out.size))
  clear hb
  exact ⟨rfl, rfl, HB.out⟩

set_option maxHeartbeats 4000000 in
set_option maxRecDepth 100000 in
theorem fn_ok (k : Nat) (n : Px.Node) (lv : Value) (w : World) (hk : KidsAt w k lv n.list) (l : List Px.Node) (hp : Px.nodes n 3 3 = .ok l) (m1 : Px.Node) (hm1 : n.list[1]? = some m1) (m2 : Px.Node) (hm2 : n.list[2]? = some m2) (f : Nat) (hex : ExprC f k) (out : Px.R Px.Expr) (hout : Px.fnExpr (Px.expr f) n = out) :
    Calls Tryz.prog 143 #[nodeV n lv] w (ToldN w (ExprAt (f + 1)) out) := by
  obtain ⟨hle, h2, h9, _⟩ := nodes_is hp
  have hle0 := hle
  rw [hle] at h2 h9
  obtain ⟨j, g, o, c, rfl, rfl, h3, h4, h5⟩ := hk.some (by intro e; rw [e] at h2; simp at h2)
  obtain ⟨kv1, hat1, hkm1⟩ := h5 1 m1 hm1
  simp only [Nat.reduceMul] at hat1
  have HAT1 := Lib.hid hat1; have HKM1 := Lib.hid hkm1; have HM1 := Lib.hid hm1
  clear hat1 hkm1 hm1
  obtain ⟨kv2, hat2, hkm2⟩ := h5 2 m2 hm2
  simp only [Nat.reduceMul] at hat2
  have HAT2 := Lib.hid hat2; have HKM2 := Lib.hid hkm2; have HM2 := Lib.hid hm2
  clear hat2 hkm2 hm2
  have hne : ¬ n.list = [] := by intro e; rw [e] at h2; simp at h2
  have hbi1 : ¬ ((n.list.length : Int) < 1) := by omega
  have hbi2 : ¬ ((n.list.length : Int) < 2) := by omega
  have hbi3 : ¬ ((n.list.length : Int) < 3) := by omega
  have hbj0 : (0 : Int) < (n.list.length : Int) := by omega
  have hbj1 : (1 : Int) < (n.list.length : Int) := by omega
  have hbj2 : (2 : Int) < (n.list.length : Int) := by omega
  have HK := Lib.hid hk; have HP := Lib.hid hp
  clear h5 hk hp hle
  have HOUT := Lib.hid hout; clear hout
  have hgw : g < w.heap.size := World.block_lt_of_cell? w _ HAT1.out.c0
  have hgne : g ≠ w.heap.size + 1 := by omega
  have HLE := Lib.hid hle0
  have HH1 := Lib.hid (show l.getD 1 n = m1 by rw [hle0, List.getD_eq_getElem?_getD, HM1.out]; rfl)
  have HH2 := Lib.hid (show l.getD 2 n = m2 by rw [hle0, List.getD_eq_getElem?_getD, HM2.out]; rfl)
  clear hle0
  have HEX := Lib.hid hex; clear hex
  go_enter Tryz.func143, Tryz.ntmps143
  unfold nodeV
  go_wp2_with fail
  have EN := Lib.hid (ent_alloc (ent_new w #[.int .i64 n.tok.kind, .int .i64 n.tok.pos, .string ⟨n.tok.text.toArray⟩, .int .i64 n.tok.int, (.slice (some ⟨g, o, none⟩) n.list.length c), .int .i64 n.takes] 105) (.cells #[.int .i64 0, .int .i64 0, .string ⟨#[]⟩, .int .i64 0, .slice none 0 0, .slice none 0 0, .slice none 0 0] 47))
  have ER0 := ent_new (w.alloc (.cells #[.int .i64 n.tok.kind, .int .i64 n.tok.pos, .string ⟨n.tok.text.toArray⟩, .int .i64 n.tok.int, (.slice (some ⟨g, o, none⟩) n.list.length c), .int .i64 n.takes] 105)) #[.int .i64 0, .int .i64 0, .string ⟨#[]⟩, .int .i64 0, .slice none 0 0, .slice none 0 0, .slice none 0 0] 47
  rw [World.size_alloc] at ER0
  have ER := Lib.hid ER0
  have HB := Lib.hid (((Below.refl w.heap.size w).alloc (Nat.le_refl _) (.cells #[.int .i64 n.tok.kind, .int .i64 n.tok.pos, .string ⟨n.tok.text.toArray⟩, .int .i64 n.tok.int, (.slice (some ⟨g, o, none⟩) n.list.length c), .int .i64 n.takes] 105)).alloc (by simp) (.cells #[.int .i64 0, .int .i64 0, .string ⟨#[]⟩, .int .i64 0, .slice none 0 0, .slice none 0 0, .slice none 0 0] 47))
  clear ER0
  refine (nodes_okI (j + 1) n (.slice (some ⟨g, o, none⟩) n.list.length c) 3 3 3 3 _ rfl rfl (HK.out.below HB.out) (by omega) (by omega) l HP.out).mono ?_
  rintro e w1 ⟨rfl, hb⟩
  replace EN := Lib.hid (ent_below EN.out hb)
  replace ER := Lib.hid (ent_below ER.out hb)
  replace HB := Lib.hid (HB.out.trans (hb.mono HB.out.size))
  clear hb
  go_wp2_with fail
  refine wp_region_held_drew (S := (fun w' => w'.heap[w.heap.size]? = some (.cells #[.int .i64 n.tok.kind, .int .i64 n.tok.pos, .string ⟨n.tok.text.toArray⟩, .int .i64 n.tok.int, (.slice (some ⟨g, o, none⟩) n.list.length c), .int .i64 n.takes] 105 (0, 0)) ∧ NodeAt w' g (o + 6) m1 kv1 ∧ NodeAt w' g (o + 12) m2 kv2)) (by kernel_rfl) (⟨EN.out, HAT1.out.below (HB.out.drew), HAT2.out.below (HB.out.drew)⟩) (fun hHeld => ?_)
  refine wpAnyH_take (i := 0) (v := .agg #[.int .i64 n.tok.kind, .int .i64 n.tok.pos, .string ⟨n.tok.text.toArray⟩, .int .i64 n.tok.int, (.slice (some ⟨g, o, none⟩) n.list.length c), .int .i64 n.takes]) rfl (by kernel_rfl) (by kernel_rfl) (by kernel_rfl) (fun _ _ _ h => h) (Or.inl ⟨by rfl, fun w' hSw => by have h1 := hSw.1; have q0 := ent_cell h1 0 _ rfl; have q1 := ent_cell h1 1 _ rfl; have q2 := ent_cell h1 2 _ rfl; have q3 := ent_cell h1 3 _ rfl; have q4 := ent_cell h1 4 _ rfl; have q5 := ent_cell h1 5 _ rfl; go_simp⟩) hHeld ?_
  refine wpAnyH_take (i := 2) (v := (.slice (some ⟨g, o, none⟩) n.list.length c)) rfl (by kernel_rfl) (by kernel_rfl) (by kernel_rfl) (fun _ _ _ h => h) (Or.inl ⟨by rfl, fun w' hSw => by go_simp⟩) hHeld ?_
  refine wpAnyH_take (i := 3) (v := .pointer (some ⟨g, o + 6, none⟩)) rfl (by kernel_rfl) (by kernel_rfl) (by kernel_rfl) (fun _ _ _ h => h) (Or.inl ⟨by rfl, fun w' hSw => by go_simp⟩) hHeld ?_
  refine wpAnyH_take (i := 4) (v := .agg #[.int .i64 m1.tok.kind, .int .i64 m1.tok.pos, .string ⟨m1.tok.text.toArray⟩, .int .i64 m1.tok.int, kv1, .int .i64 m1.takes]) rfl (by kernel_rfl) (by kernel_rfl) (by kernel_rfl) (fun _ _ _ h => h) (Or.inl ⟨by rfl, fun w' hSw => by obtain ⟨m0, m1, m2, m3, m4, m5⟩ := hSw.2.1; go_simp⟩) hHeld ?_
  refine wpAnyH_take (i := 6) (v := (.slice (some ⟨g, o, none⟩) n.list.length c)) rfl (by kernel_rfl) (by kernel_rfl) (by kernel_rfl) (fun _ _ _ h => h) (Or.inl ⟨by rfl, fun w' hSw => by go_simp⟩) hHeld ?_
  refine wpAnyH_take (i := 7) (v := .pointer (some ⟨g, o + 12, none⟩)) rfl (by kernel_rfl) (by kernel_rfl) (by kernel_rfl) (fun _ _ _ h => h) (Or.inl ⟨by rfl, fun w' hSw => by go_simp⟩) hHeld ?_
  refine wpAnyH_take (i := 8) (v := .agg #[.int .i64 m2.tok.kind, .int .i64 m2.tok.pos, .string ⟨m2.tok.text.toArray⟩, .int .i64 m2.tok.int, kv2, .int .i64 m2.takes]) rfl (by kernel_rfl) (by kernel_rfl) (by kernel_rfl) (fun _ _ _ h => h) (Or.inl ⟨by rfl, fun w' hSw => by obtain ⟨m0, m1, m2, m3, m4, m5⟩ := hSw.2.2; go_simp⟩) hHeld ?_
  simp only [Act.put, List.setIfInBounds_toArray, List.set_cons_zero, List.set_cons_succ]
  refine wpAnyH_ready (rs := [1]) (by kernel_rfl) (by simp) ?_
  refine AllReadyH.cons rfl (fun K hK => ?_) AllReadyH.nil
  go_simp
  refine (pos_any n (.slice (some ⟨g, o, none⟩) n.list.length c) _).mono ?_
  rintro e w2 ⟨rfl, hb⟩
  have hbd := hb; replace hb := undrew hb
  replace ER := Lib.hid (ent_below ER.out hb)
  replace HB := Lib.hid (HB.out.trans (hb.mono HB.out.size))
  refine hK.out _ _ (⟨ent_below hHeld.1 hbd, (hHeld.2.1).below hbd, (hHeld.2.2).below hbd⟩) (fun hHeld => ?_)
  clear hK K
  clear hb hbd
  refine wpAnyH_ready (rs := [5]) (by kernel_rfl) (by simp) ?_
  refine AllReadyH.cons rfl (fun K hK => ?_) AllReadyH.nil
  go_simp
  refine (names_any j m1 kv1 1 1 _ rfl (by omega) (HKM1.out.below HB.out)).mono ?_
  intro e w3 ht
  cases hr1 : Px.names m1 1 with
  | error p =>
    obtain ⟨rfl, hb⟩ := toldN_bad ht hr1
    have ho : out = .error p := by rw [← HOUT.out, Px.fnExpr, HP.out]; dsimp only; rw [HH1.out, hr1]
    subst ho
    exact ⟨rfl, HB.out.trans (hb.mono HB.out.size), rfl⟩
  | ok x1 =>
    obtain ⟨av1, rfl, hnew, hb⟩ := toldN_ok ht hr1
    obtain ⟨pn, cn, rfl⟩ := hnew.now.len
    have Hn1 := Lib.hid hnew; have HR1 := Lib.hid hr1
    have hlo1 := HB.out.size; have hlt1 := ent_lt ER.out
    have Hst1 := Lib.hid (Stay.refl w2.heap.size w3)
    replace ER := Lib.hid (ent_below ER.out hb)
    replace HB := Lib.hid (HB.out.trans (hb.mono HB.out.size))
    refine hK.out _ _ (⟨ent_below hHeld.1 hb, (hHeld.2.1).below hb, (hHeld.2.2).below hb⟩) (fun hHeld => ?_)
    clear hK K
    clear hb hr1 ht hnew
    refine wpAnyH_ready (rs := [9]) (by kernel_rfl) (by simp) ?_
    refine AllReadyH.cons rfl (fun K hK => ?_) AllReadyH.nil
    go_simp
    refine (HEX.out m2 kv2 j _ (HKM2.out.below HB.out) (by omega)).mono ?_
    intro e w4 ht
    cases hr2 : Px.expr f m2 with
    | error p =>
      obtain ⟨rfl, hb⟩ := toldN_bad ht hr2
      have ho : out = .error p := by rw [← HOUT.out, Px.fnExpr, HP.out]; dsimp only; rw [HH1.out, HR1.out]; dsimp only; rw [HH2.out, hr2]
      subst ho
      exact ⟨rfl, HB.out.trans (hb.mono HB.out.size), rfl⟩
    | ok x2 =>
      obtain ⟨av2, rfl, hnew, hb⟩ := toldN_ok ht hr2
      obtain ⟨xk, xp, xi, xs, q1, n1, c1, q2, n2, c2, q3, n3, c3, rfl⟩ := exprAt_form f _ _ _ hnew.now
      have Hn2 := Lib.hid hnew; have HR2 := Lib.hid hr2
      have hlo2 := HB.out.size; have hlt2 := ent_lt ER.out
      have Hst2 := Lib.hid (Stay.refl w3.heap.size w4)
      replace Hst1 := Lib.hid (Hst1.out.below hb)
      replace ER := Lib.hid (ent_below ER.out hb)
      replace HB := Lib.hid (HB.out.trans (hb.mono HB.out.size))
      refine hK.out _ _ (⟨ent_below hHeld.1 hb, (hHeld.2.1).below hb, (hHeld.2.2).below hb⟩) (fun hHeld => ?_)
      clear hK K
      clear hb hr2 ht hnew
      refine wpAnyH_ready (rs := [10]) (by kernel_rfl) (by simp) ?_
      refine AllReadyH.cons rfl (fun K hK => ?_) AllReadyH.nil
      go_simp
      refine hK.out _ _ (⟨ent_alloc hHeld.1 (.cells #[.int .i64 xk, .int .i64 xp, .string xs, .int .i64 xi, .slice q1 n1 c1, .slice q2 n2 c2, .slice q3 n3 c3] 47), (hHeld.2.1).below ((Below.refl _ _).alloc (Nat.le_refl _) (.cells #[.int .i64 xk, .int .i64 xp, .string xs, .int .i64 xi, .slice q1 n1 c1, .slice q2 n2 c2, .slice q3 n3 c3] 47)), (hHeld.2.2).below ((Below.refl _ _).alloc (Nat.le_refl _) (.cells #[.int .i64 xk, .int .i64 xp, .string xs, .int .i64 xi, .slice q1 n1 c1, .slice q2 n2 c2, .slice q3 n3 c3] 47))⟩) (fun hHeld => ?_)
      clear hK K
      have EB := Lib.hid (ent_new w4 #[.int .i64 xk, .int .i64 xp, .string xs, .int .i64 xi, .slice q1 n1 c1, .slice q2 n2 c2, .slice q3 n3 c3] 47)
      have hgb := HB.out.size; have Hlb := Lib.hid (ent_lt ER.out)
      replace ER := Lib.hid (ent_alloc ER.out (.cells #[.int .i64 xk, .int .i64 xp, .string xs, .int .i64 xi, .slice q1 n1 c1, .slice q2 n2 c2, .slice q3 n3 c3] 47))
      replace HB := Lib.hid (HB.out.alloc HB.out.size (.cells #[.int .i64 xk, .int .i64 xp, .string xs, .int .i64 xi, .slice q1 n1 c1, .slice q2 n2 c2, .slice q3 n3 c3] 47))
      replace Hst1 := Lib.hid (Hst1.out.alloc (.cells #[.int .i64 xk, .int .i64 xp, .string xs, .int .i64 xi, .slice q1 n1 c1, .slice q2 n2 c2, .slice q3 n3 c3] 47))
      replace Hst2 := Lib.hid (Hst2.out.alloc (.cells #[.int .i64 xk, .int .i64 xp, .string xs, .int .i64 xi, .slice q1 n1 c1, .slice q2 n2 c2, .slice q3 n3 c3] 47))
      refine wpAnyH_ready (rs := [11]) (by kernel_rfl) (by simp) ?_
      refine AllReadyH.cons rfl (fun K hK => ?_) AllReadyH.nil
      go_simp
      refine hK.out _ _ (hHeld) (fun hHeld => ?_)
      clear hK K
      have ho : out = .ok (.mk 3 n.pos [] 0 x1 [x2] []) := by rw [← HOUT.out, Px.fnExpr, HP.out]; dsimp only; rw [HH1.out, HR1.out]; dsimp only; rw [HH2.out, HR2.out]
      subst ho
      have hws := ent_lt ER.out
      have rf := ent_free ER.out
      have r0 := ent_cell ER.out 0 _ rfl
      have r1 := ent_cell ER.out 1 _ rfl
      have r2 := ent_cell ER.out 2 _ rfl
      have r3 := ent_cell ER.out 3 _ rfl
      have r4 := ent_cell ER.out 4 _ rfl
      have r5 := ent_cell ER.out 5 _ rfl
      have r6 := ent_cell ER.out 6 _ rfl
      refine wpAnyH_ready (rs := [12]) (by kernel_rfl) (by simp) ?_
      refine AllReadyH.cons rfl (fun K hK => ?_) AllReadyH.nil
      go_simp
      refine hK.out _ _ (⟨ent_other (ent_other (ent_other (ent_other (ent_other (ent_other (ent_other (hHeld.1) (w.heap.size + 1) 0 _ (by omega)) (w.heap.size + 1) 1 _ (by omega)) (w.heap.size + 1) 2 _ (by omega)) (w.heap.size + 1) 3 _ (by omega)) (w.heap.size + 1) 4 _ (by omega)) (w.heap.size + 1) 5 _ (by omega)) (w.heap.size + 1) 6 _ (by omega), (NodeAt.other (NodeAt.other (NodeAt.other (NodeAt.other (NodeAt.other (NodeAt.other (NodeAt.other (hHeld.2.1) (w.heap.size + 1) 0 _ hgne) (w.heap.size + 1) 1 _ hgne) (w.heap.size + 1) 2 _ hgne) (w.heap.size + 1) 3 _ hgne) (w.heap.size + 1) 4 _ hgne) (w.heap.size + 1) 5 _ hgne) (w.heap.size + 1) 6 _ hgne), (NodeAt.other (NodeAt.other (NodeAt.other (NodeAt.other (NodeAt.other (NodeAt.other (NodeAt.other (hHeld.2.2) (w.heap.size + 1) 0 _ hgne) (w.heap.size + 1) 1 _ hgne) (w.heap.size + 1) 2 _ hgne) (w.heap.size + 1) 3 _ hgne) (w.heap.size + 1) 4 _ hgne) (w.heap.size + 1) 5 _ hgne) (w.heap.size + 1) 6 _ hgne)⟩) (fun hHeld => ?_)
      clear hK K
      refine wpAnyH_done (by kernel_rfl) ?_ _
      go_wp2_with fail
      all_goals
        have hlb := Hlb.out
        refine bodyPost_ret (v := .agg #[.int .i64 3, .int .i64 n.pos, .string ⟨#[]⟩, .int .i64 0, .slice pn x1.length cn, .slice (some ⟨w4.heap.size, 0, none⟩) 1 1, .slice none 0 0]) (by simp [results, Tryz.results143, go_sem, Px.Node.text, r0, r1, r2, r3, r4, r5, r6]) rfl ?_
        refine ⟨?_, _, rfl, fun u hu => ?_⟩
        · repeat (first | with_reducible exact HB.out | with_reducible refine Below.drew ?_ | with_reducible refine Below.setCell ?_ (by dsimp only; omega) _)
        refine ⟨_, _, _, rfl, ?_, ?_, row_nil _ _ _⟩
        · refine New.stay (w := w) Hn1.out hlo1 ?_ u hu
          repeat (first | with_reducible exact Hst1.out | with_reducible refine Stay.set ?_ _ _ _ (by omega))
        · refine row_one (cs := #[.int .i64 xk, .int .i64 xp, .string xs, .int .i64 xi, .slice q1 n1 c1, .slice q2 n2 c2, .slice q3 n3 c3]) (T := 47) (fr := (0, 0)) ((hu w4.heap.size hgb (by simp)).trans ?_) rfl ?_
          · repeat (first | with_reducible exact EB.out | with_reducible refine ent_other ?_ _ _ _ (by omega))
          · refine New.stay (w := w) Hn2.out hlo2 ?_ u hu
            repeat (first | with_reducible exact Hst2.out | with_reducible refine Stay.set ?_ _ _ _ (by omega))

theorem fn_any (f k : Nat) (n : Px.Node) (lv : Value) (w : World) (hk : KidsAt w k lv n.list) (hex : ExprC f k) : Calls Tryz.prog 143 #[nodeV n lv] w (ToldN w (ExprAt (f + 1)) (Px.fnExpr (Px.expr f) n)) := by
  cases hnd : Px.nodes n 3 3 with
  | error p =>
    have : Px.fnExpr (Px.expr f) n = .error p := by rw [Px.fnExpr, hnd]
    rw [this]
    exact (fn_bad k n lv w hk p hnd).mono fun e w' ⟨h1, h2⟩ => ⟨h2, h1⟩
  | ok l =>
    obtain ⟨hle, h2, _, _⟩ := nodes_is hnd
    exact fn_ok k n lv w hk l hnd (n.list[1]'(by rw [← hle]; omega)) (List.getElem?_eq_getElem _) (n.list[2]'(by rw [← hle]; omega)) (List.getElem?_eq_getElem _) f hex _ rfl
end Go.Proofs.YtnhndamfbeiljaaGreatDoor

namespace Go.Proofs.YtnhndamfbeiljaaGreatDoor
open Go Go.RowKit
set_option linter.unusedVariables false
set_option linter.unusedSimpArgs false

set_option maxHeartbeats 2000000 in
theorem case_bad (k : Nat) (n : Px.Node) (lv : Value) (w : World) (hk : KidsAt w k lv n.list) (p : Nat) (hp : Px.nodes n 3 18 = .error p) :
    Calls Tryz.prog 145 #[nodeV n lv] w (fun e w' => e = wrongAt p ∧ Below w.heap.size w w') := by
  have HK := Lib.hid hk
  clear hk
  go_enter Tryz.func145, Tryz.ntmps145
  unfold nodeV
  go_wp2_with fail
  have EN := Lib.hid (ent_alloc (ent_new w #[.int .i64 n.tok.kind, .int .i64 n.tok.pos, .string ⟨n.tok.text.toArray⟩, .int .i64 n.tok.int, lv, .int .i64 n.takes] 105) (.cells #[.int .i64 0, .int .i64 0, .string ⟨#[]⟩, .int .i64 0, .slice none 0 0, .slice none 0 0, .slice none 0 0] 47))
  have ER0 := ent_new (w.alloc (.cells #[.int .i64 n.tok.kind, .int .i64 n.tok.pos, .string ⟨n.tok.text.toArray⟩, .int .i64 n.tok.int, lv, .int .i64 n.takes] 105)) #[.int .i64 0, .int .i64 0, .string ⟨#[]⟩, .int .i64 0, .slice none 0 0, .slice none 0 0, .slice none 0 0] 47
  rw [World.size_alloc] at ER0
  have ER := Lib.hid ER0
  have HB := Lib.hid (((Below.refl w.heap.size w).alloc (Nat.le_refl _) (.cells #[.int .i64 n.tok.kind, .int .i64 n.tok.pos, .string ⟨n.tok.text.toArray⟩, .int .i64 n.tok.int, lv, .int .i64 n.takes] 105)).alloc (by simp) (.cells #[.int .i64 0, .int .i64 0, .string ⟨#[]⟩, .int .i64 0, .slice none 0 0, .slice none 0 0, .slice none 0 0] 47))
  clear ER0
  refine (nodes_badI k n lv 3 18 3 18 _ rfl rfl (HK.out.below HB.out) (by omega) (by omega) p hp).mono ?_
  rintro e w1 ⟨rfl, hb⟩
  replace HB := Lib.hid (HB.out.trans (hb.mono HB.out.size))
  clear hb
  exact ⟨rfl, rfl, HB.out⟩

set_option maxHeartbeats 4000000 in
set_option maxRecDepth 100000 in
theorem case_ok (k : Nat) (n : Px.Node) (lv : Value) (w : World) (hk : KidsAt w k lv n.list) (l : List Px.Node) (hp : Px.nodes n 3 18 = .ok l) (m1 : Px.Node) (hm1 : n.list[1]? = some m1) (f : Nat) (hkf : k ≤ f) (hex : ExprC f k) (out : Px.R Px.Expr) (hout : Px.caseExpr f (Px.expr f) n = out) :
    Calls Tryz.prog 145 #[nodeV n lv] w (ToldN w (ExprAt (f + 1)) out) := by
  obtain ⟨hle, h2, h9, _⟩ := nodes_is hp
  have hle0 := hle
  rw [hle] at h2 h9
  obtain ⟨j, g, o, c, rfl, rfl, h3, h4, h5⟩ := hk.some (by intro e; rw [e] at h2; simp at h2)
  obtain ⟨kv1, hat1, hkm1⟩ := h5 1 m1 hm1
  simp only [Nat.reduceMul] at hat1
  have HAT1 := Lib.hid hat1; have HKM1 := Lib.hid hkm1; have HM1 := Lib.hid hm1
  clear hat1 hkm1 hm1
  have hc1 : ¬ c = 2 := by omega
  have hne : ¬ n.list = [] := by intro e; rw [e] at h2; simp at h2
  have hbi1 : ¬ ((n.list.length : Int) < 1) := by omega
  have hbi2 : ¬ ((n.list.length : Int) < 2) := by omega
  have hbi3 : ¬ ((n.list.length : Int) < 3) := by omega
  have hbj0 : (0 : Int) < (n.list.length : Int) := by omega
  have hbj1 : (1 : Int) < (n.list.length : Int) := by omega
  have hbj2 : (2 : Int) < (n.list.length : Int) := by omega
  have HK := Lib.hid hk; have HP := Lib.hid hp
  clear h5 hk hp hle
  have HOUT := Lib.hid hout; clear hout
  have hgw : g < w.heap.size := World.block_lt_of_cell? w _ HAT1.out.c0
  have hgne : g ≠ w.heap.size + 1 := by omega
  have HLE := Lib.hid hle0
  have HH1 := Lib.hid (show l.getD 1 n = m1 by rw [hle0, List.getD_eq_getElem?_getD, HM1.out]; rfl)
  clear hle0
  have HEX := Lib.hid hex; clear hex
  go_enter Tryz.func145, Tryz.ntmps145
  unfold nodeV
  go_wp2_with fail
  have EN := Lib.hid (ent_alloc (ent_new w #[.int .i64 n.tok.kind, .int .i64 n.tok.pos, .string ⟨n.tok.text.toArray⟩, .int .i64 n.tok.int, (.slice (some ⟨g, o, none⟩) n.list.length c), .int .i64 n.takes] 105) (.cells #[.int .i64 0, .int .i64 0, .string ⟨#[]⟩, .int .i64 0, .slice none 0 0, .slice none 0 0, .slice none 0 0] 47))
  have ER0 := ent_new (w.alloc (.cells #[.int .i64 n.tok.kind, .int .i64 n.tok.pos, .string ⟨n.tok.text.toArray⟩, .int .i64 n.tok.int, (.slice (some ⟨g, o, none⟩) n.list.length c), .int .i64 n.takes] 105)) #[.int .i64 0, .int .i64 0, .string ⟨#[]⟩, .int .i64 0, .slice none 0 0, .slice none 0 0, .slice none 0 0] 47
  rw [World.size_alloc] at ER0
  have ER := Lib.hid ER0
  have HB := Lib.hid (((Below.refl w.heap.size w).alloc (Nat.le_refl _) (.cells #[.int .i64 n.tok.kind, .int .i64 n.tok.pos, .string ⟨n.tok.text.toArray⟩, .int .i64 n.tok.int, (.slice (some ⟨g, o, none⟩) n.list.length c), .int .i64 n.takes] 105)).alloc (by simp) (.cells #[.int .i64 0, .int .i64 0, .string ⟨#[]⟩, .int .i64 0, .slice none 0 0, .slice none 0 0, .slice none 0 0] 47))
  clear ER0
  refine (nodes_okI (j + 1) n (.slice (some ⟨g, o, none⟩) n.list.length c) 3 18 3 18 _ rfl rfl (HK.out.below HB.out) (by omega) (by omega) l HP.out).mono ?_
  rintro e w1 ⟨rfl, hb⟩
  replace EN := Lib.hid (ent_below EN.out hb)
  replace ER := Lib.hid (ent_below ER.out hb)
  replace HB := Lib.hid (HB.out.trans (hb.mono HB.out.size))
  clear hb
  go_wp2_with fail
  refine wp_region_held_drew (S := (fun w' => w'.heap[w.heap.size]? = some (.cells #[.int .i64 n.tok.kind, .int .i64 n.tok.pos, .string ⟨n.tok.text.toArray⟩, .int .i64 n.tok.int, (.slice (some ⟨g, o, none⟩) n.list.length c), .int .i64 n.takes] 105 (0, 0)) ∧ NodeAt w' g (o + 6) m1 kv1)) (by kernel_rfl) (⟨EN.out, HAT1.out.below (HB.out.drew)⟩) (fun hHeld => ?_)
  refine wpAnyH_take (i := 0) (v := .agg #[.int .i64 n.tok.kind, .int .i64 n.tok.pos, .string ⟨n.tok.text.toArray⟩, .int .i64 n.tok.int, (.slice (some ⟨g, o, none⟩) n.list.length c), .int .i64 n.takes]) rfl (by kernel_rfl) (by kernel_rfl) (by kernel_rfl) (fun _ _ _ h => h) (Or.inl ⟨by rfl, fun w' hSw => by have h1 := hSw.1; have q0 := ent_cell h1 0 _ rfl; have q1 := ent_cell h1 1 _ rfl; have q2 := ent_cell h1 2 _ rfl; have q3 := ent_cell h1 3 _ rfl; have q4 := ent_cell h1 4 _ rfl; have q5 := ent_cell h1 5 _ rfl; go_simp⟩) hHeld ?_
  refine wpAnyH_take (i := 2) (v := (.slice (some ⟨g, o, none⟩) n.list.length c)) rfl (by kernel_rfl) (by kernel_rfl) (by kernel_rfl) (fun _ _ _ h => h) (Or.inl ⟨by rfl, fun w' hSw => by go_simp⟩) hHeld ?_
  refine wpAnyH_take (i := 3) (v := .pointer (some ⟨g, o + 6, none⟩)) rfl (by kernel_rfl) (by kernel_rfl) (by kernel_rfl) (fun _ _ _ h => h) (Or.inl ⟨by rfl, fun w' hSw => by go_simp⟩) hHeld ?_
  refine wpAnyH_take (i := 4) (v := .agg #[.int .i64 m1.tok.kind, .int .i64 m1.tok.pos, .string ⟨m1.tok.text.toArray⟩, .int .i64 m1.tok.int, kv1, .int .i64 m1.takes]) rfl (by kernel_rfl) (by kernel_rfl) (by kernel_rfl) (fun _ _ _ h => h) (Or.inl ⟨by rfl, fun w' hSw => by obtain ⟨m0, m1, m2, m3, m4, m5⟩ := hSw.2; go_simp⟩) hHeld ?_
  refine wpAnyH_take (i := 7) (v := (.slice (some ⟨g, o, none⟩) n.list.length c)) rfl (by kernel_rfl) (by kernel_rfl) (by kernel_rfl) (fun _ _ _ h => h) (Or.inl ⟨by rfl, fun w' hSw => by go_simp⟩) hHeld ?_
  refine wpAnyH_take (i := 8) (v := .slice (some ⟨g, o + 12, none⟩) (n.list.length - 2) (c - 2)) rfl (by kernel_rfl) (by kernel_rfl) (by kernel_rfl) (fun _ _ _ h => h) (Or.inl ⟨by rfl, fun w' hSw => by go_simp⟩) hHeld ?_
  simp only [Act.put, List.setIfInBounds_toArray, List.set_cons_zero, List.set_cons_succ]
  refine wpAnyH_ready (rs := [1]) (by kernel_rfl) (by simp) ?_
  refine AllReadyH.cons rfl (fun K hK => ?_) AllReadyH.nil
  go_simp
  refine (pos_any n (.slice (some ⟨g, o, none⟩) n.list.length c) _).mono ?_
  rintro e w2 ⟨rfl, hb⟩
  have hbd := hb; replace hb := undrew hb
  replace ER := Lib.hid (ent_below ER.out hb)
  replace HB := Lib.hid (HB.out.trans (hb.mono HB.out.size))
  refine hK.out _ _ (⟨ent_below hHeld.1 hbd, (hHeld.2).below hbd⟩) (fun hHeld => ?_)
  clear hK K
  clear hb hbd
  refine wpAnyH_ready (rs := [5]) (by kernel_rfl) (by simp) ?_
  refine AllReadyH.cons rfl (fun K hK => ?_) AllReadyH.nil
  go_simp
  refine (HEX.out m1 kv1 j _ (HKM1.out.below HB.out) (by omega)).mono ?_
  intro e w3 ht
  cases hr1 : Px.expr f m1 with
  | error p =>
    obtain ⟨rfl, hb⟩ := toldN_bad ht hr1
    have ho : out = .error p := by rw [← HOUT.out, Px.caseExpr, HP.out]; dsimp only; rw [HH1.out, hr1]
    subst ho
    exact ⟨rfl, HB.out.trans (hb.mono HB.out.size), rfl⟩
  | ok x1 =>
    obtain ⟨av1, rfl, hnew, hb⟩ := toldN_ok ht hr1
    obtain ⟨xk, xp, xi, xs, q1, n1, c1, q2, n2, c2, q3, n3, c3, rfl⟩ := exprAt_form f _ _ _ hnew.now
    have Hn1 := Lib.hid hnew; have HR1 := Lib.hid hr1
    have hlo1 := HB.out.size; have hlt1 := ent_lt ER.out
    have Hst1 := Lib.hid (Stay.refl w2.heap.size w3)
    replace ER := Lib.hid (ent_below ER.out hb)
    replace HB := Lib.hid (HB.out.trans (hb.mono HB.out.size))
    refine hK.out _ _ (⟨ent_below hHeld.1 hb, (hHeld.2).below hb⟩) (fun hHeld => ?_)
    clear hK K
    clear hb hr1 ht hnew
    refine wpAnyH_ready (rs := [6, 9]) (by kernel_rfl) (by simp) ?_
    refine AllReadyH.cons rfl (fun K hK => ?_) (AllReadyH.cons rfl (fun K hK => ?_) AllReadyH.nil)
    · go_simp
      refine hK.out _ _ (⟨ent_alloc hHeld.1 (.cells #[.int .i64 xk, .int .i64 xp, .string xs, .int .i64 xi, .slice q1 n1 c1, .slice q2 n2 c2, .slice q3 n3 c3] 47), (hHeld.2).below ((Below.refl _ _).alloc (Nat.le_refl _) (.cells #[.int .i64 xk, .int .i64 xp, .string xs, .int .i64 xi, .slice q1 n1 c1, .slice q2 n2 c2, .slice q3 n3 c3] 47))⟩) (fun hHeld => ?_)
      clear hK K
      have EB := Lib.hid (ent_new w3 #[.int .i64 xk, .int .i64 xp, .string xs, .int .i64 xi, .slice q1 n1 c1, .slice q2 n2 c2, .slice q3 n3 c3] 47)
      have hgb := HB.out.size; have Hlb := Lib.hid (ent_lt ER.out)
      replace ER := Lib.hid (ent_alloc ER.out (.cells #[.int .i64 xk, .int .i64 xp, .string xs, .int .i64 xi, .slice q1 n1 c1, .slice q2 n2 c2, .slice q3 n3 c3] 47))
      replace HB := Lib.hid (HB.out.alloc HB.out.size (.cells #[.int .i64 xk, .int .i64 xp, .string xs, .int .i64 xi, .slice q1 n1 c1, .slice q2 n2 c2, .slice q3 n3 c3] 47))
      replace Hst1 := Lib.hid (Hst1.out.alloc (.cells #[.int .i64 xk, .int .i64 xp, .string xs, .int .i64 xi, .slice q1 n1 c1, .slice q2 n2 c2, .slice q3 n3 c3] 47))
      refine wpAnyH_ready (rs := [9]) (by kernel_rfl) (by simp) ?_
      refine AllReadyH.cons rfl (fun K hK => ?_) AllReadyH.nil
      go_simp
      refine (eachAlt_any 156 (fun _ _ => by kernel_rfl) (Px.alt f (Px.expr f)) (AltAt f) (altAt_shape f) (j + 1) _ (n.list.drop 2) _ (kids_drop' (HK.out.below HB.out) 2 (o + 12) (by omega) hc1 (by omega) rfl) (by rw [List.length_drop]; omega) (fun m _ j' kv' w1 hj _ hk' => alt_any f j' m kv' w1 hk' (by omega) (fun a b i w h hi => HEX.out a b i w h (by omega)))).mono ?_
      intro e w4 ht
      cases hr2 : Px.each (Px.alt f (Px.expr f)) (n.list.drop 2) with
      | error p =>
        obtain ⟨rfl, hb⟩ := toldN_bad ht hr2
        have ho : out = .error p := by rw [← HOUT.out, Px.caseExpr, HP.out]; dsimp only; rw [HH1.out, HR1.out]; dsimp only; rw [HLE.out, hr2]
        subst ho
        exact ⟨rfl, HB.out.trans (hb.mono HB.out.size), rfl⟩
      | ok x2 =>
        obtain ⟨av2, rfl, hnew, hb⟩ := toldN_ok ht hr2
        obtain ⟨pa, ca, rfl⟩ := hnew.now.len
        replace EB := Lib.hid (ent_below EB.out hb)
        have hgs := HB.out.size
        have Hbs2 := Lib.hid (show w3.heap.size + 1 ≤ w4.heap.size by simpa using hb.size)
        have Hn2 := Lib.hid hnew; have HR2 := Lib.hid hr2
        have hlo2 := HB.out.size; have hlt2 := ent_lt ER.out
        have Hst2 := Lib.hid (Stay.refl (w3.alloc (.cells #[.int .i64 xk, .int .i64 xp, .string xs, .int .i64 xi, .slice q1 n1 c1, .slice q2 n2 c2, .slice q3 n3 c3] 47)).heap.size w4)
        replace Hst1 := Lib.hid (Hst1.out.below hb)
        replace ER := Lib.hid (ent_below ER.out hb)
        replace HB := Lib.hid (HB.out.trans (hb.mono HB.out.size))
        refine hK.out _ _ (⟨ent_below hHeld.1 hb, (hHeld.2).below hb⟩) (fun hHeld => ?_)
        clear hK K
        clear hb hr2 ht hnew
        refine wpAnyH_ready (rs := [10]) (by kernel_rfl) (by simp) ?_
        refine AllReadyH.cons rfl (fun K hK => ?_) AllReadyH.nil
        go_simp
        refine hK.out _ _ (hHeld) (fun hHeld => ?_)
        clear hK K
        have ho : out = .ok (.mk 5 n.pos [] 0 [] [x1] x2) := by rw [← HOUT.out, Px.caseExpr, HP.out]; dsimp only; rw [HH1.out, HR1.out]; dsimp only; rw [HLE.out, HR2.out]
        subst ho
        have hws := ent_lt ER.out
        have rf := ent_free ER.out
        have r0 := ent_cell ER.out 0 _ rfl
        have r1 := ent_cell ER.out 1 _ rfl
        have r2 := ent_cell ER.out 2 _ rfl
        have r3 := ent_cell ER.out 3 _ rfl
        have r4 := ent_cell ER.out 4 _ rfl
        have r5 := ent_cell ER.out 5 _ rfl
        have r6 := ent_cell ER.out 6 _ rfl
        refine wpAnyH_ready (rs := [11]) (by kernel_rfl) (by simp) ?_
        refine AllReadyH.cons rfl (fun K hK => ?_) AllReadyH.nil
        go_simp
        refine hK.out _ _ (⟨ent_other (ent_other (ent_other (ent_other (ent_other (ent_other (ent_other (hHeld.1) (w.heap.size + 1) 0 _ (by omega)) (w.heap.size + 1) 1 _ (by omega)) (w.heap.size + 1) 2 _ (by omega)) (w.heap.size + 1) 3 _ (by omega)) (w.heap.size + 1) 4 _ (by omega)) (w.heap.size + 1) 5 _ (by omega)) (w.heap.size + 1) 6 _ (by omega), (NodeAt.other (NodeAt.other (NodeAt.other (NodeAt.other (NodeAt.other (NodeAt.other (NodeAt.other (hHeld.2) (w.heap.size + 1) 0 _ hgne) (w.heap.size + 1) 1 _ hgne) (w.heap.size + 1) 2 _ hgne) (w.heap.size + 1) 3 _ hgne) (w.heap.size + 1) 4 _ hgne) (w.heap.size + 1) 5 _ hgne) (w.heap.size + 1) 6 _ hgne)⟩) (fun hHeld => ?_)
        clear hK K
        refine wpAnyH_done (by kernel_rfl) ?_ _
        go_wp2_with fail
        all_goals
          have hlb := Hlb.out
          refine bodyPost_ret (v := .agg #[.int .i64 5, .int .i64 n.pos, .string ⟨#[]⟩, .int .i64 0, .slice none 0 0, .slice (some ⟨w3.heap.size, 0, none⟩) 1 1, .slice pa x2.length ca]) (by simp [results, Tryz.results145, go_sem, Px.Node.text, r0, r1, r2, r3, r4, r5, r6]) rfl ?_
          refine ⟨?_, _, rfl, fun u hu => ?_⟩
          · repeat (first | with_reducible exact HB.out | with_reducible refine Below.drew ?_ | with_reducible refine Below.setCell ?_ (by dsimp only; omega) _)
          refine ⟨_, _, _, rfl, row_nil _ _ _, ?_, ?_⟩
          · refine row_one (cs := #[.int .i64 xk, .int .i64 xp, .string xs, .int .i64 xi, .slice q1 n1 c1, .slice q2 n2 c2, .slice q3 n3 c3]) (T := 47) (fr := (0, 0)) ((hu w3.heap.size hgb (by have := Hbs2.out; simp; omega)).trans ?_) rfl ?_
            · repeat (first | with_reducible exact EB.out | with_reducible refine ent_other ?_ _ _ _ (by omega))
            · refine New.stay (w := w) Hn1.out hlo1 ?_ u hu
              repeat (first | with_reducible exact Hst1.out | with_reducible refine Stay.set ?_ _ _ _ (by omega))
          · refine New.stay (w := w) Hn2.out hlo2 ?_ u hu
            repeat (first | with_reducible exact Hst2.out | with_reducible refine Stay.set ?_ _ _ _ (by omega))
    · go_simp
      refine (eachAlt_any 156 (fun _ _ => by kernel_rfl) (Px.alt f (Px.expr f)) (AltAt f) (altAt_shape f) (j + 1) _ (n.list.drop 2) _ (kids_drop' (HK.out.below HB.out) 2 (o + 12) (by omega) hc1 (by omega) rfl) (by rw [List.length_drop]; omega) (fun m _ j' kv' w1 hj _ hk' => alt_any f j' m kv' w1 hk' (by omega) (fun a b i w h hi => HEX.out a b i w h (by omega)))).mono ?_
      intro e w4 ht
      cases hr2 : Px.each (Px.alt f (Px.expr f)) (n.list.drop 2) with
      | error p =>
        obtain ⟨rfl, hb⟩ := toldN_bad ht hr2
        have ho : out = .error p := by rw [← HOUT.out, Px.caseExpr, HP.out]; dsimp only; rw [HH1.out, HR1.out]; dsimp only; rw [HLE.out, hr2]
        subst ho
        exact ⟨rfl, HB.out.trans (hb.mono HB.out.size), rfl⟩
      | ok x2 =>
        obtain ⟨av2, rfl, hnew, hb⟩ := toldN_ok ht hr2
        obtain ⟨pa, ca, rfl⟩ := hnew.now.len
        have Hn2 := Lib.hid hnew; have HR2 := Lib.hid hr2
        have hlo2 := HB.out.size; have hlt2 := ent_lt ER.out
        have Hst2 := Lib.hid (Stay.refl w3.heap.size w4)
        replace Hst1 := Lib.hid (Hst1.out.below hb)
        replace ER := Lib.hid (ent_below ER.out hb)
        replace HB := Lib.hid (HB.out.trans (hb.mono HB.out.size))
        refine hK.out _ _ (⟨ent_below hHeld.1 hb, (hHeld.2).below hb⟩) (fun hHeld => ?_)
        clear hK K
        clear hb hr2 ht hnew
        refine wpAnyH_ready (rs := [6]) (by kernel_rfl) (by simp) ?_
        refine AllReadyH.cons rfl (fun K hK => ?_) AllReadyH.nil
        go_simp
        refine hK.out _ _ (⟨ent_alloc hHeld.1 (.cells #[.int .i64 xk, .int .i64 xp, .string xs, .int .i64 xi, .slice q1 n1 c1, .slice q2 n2 c2, .slice q3 n3 c3] 47), (hHeld.2).below ((Below.refl _ _).alloc (Nat.le_refl _) (.cells #[.int .i64 xk, .int .i64 xp, .string xs, .int .i64 xi, .slice q1 n1 c1, .slice q2 n2 c2, .slice q3 n3 c3] 47))⟩) (fun hHeld => ?_)
        clear hK K
        have EB := Lib.hid (ent_new w4 #[.int .i64 xk, .int .i64 xp, .string xs, .int .i64 xi, .slice q1 n1 c1, .slice q2 n2 c2, .slice q3 n3 c3] 47)
        have hgb := HB.out.size; have Hlb := Lib.hid (ent_lt ER.out)
        replace ER := Lib.hid (ent_alloc ER.out (.cells #[.int .i64 xk, .int .i64 xp, .string xs, .int .i64 xi, .slice q1 n1 c1, .slice q2 n2 c2, .slice q3 n3 c3] 47))
        replace HB := Lib.hid (HB.out.alloc HB.out.size (.cells #[.int .i64 xk, .int .i64 xp, .string xs, .int .i64 xi, .slice q1 n1 c1, .slice q2 n2 c2, .slice q3 n3 c3] 47))
        replace Hst1 := Lib.hid (Hst1.out.alloc (.cells #[.int .i64 xk, .int .i64 xp, .string xs, .int .i64 xi, .slice q1 n1 c1, .slice q2 n2 c2, .slice q3 n3 c3] 47))
        replace Hst2 := Lib.hid (Hst2.out.alloc (.cells #[.int .i64 xk, .int .i64 xp, .string xs, .int .i64 xi, .slice q1 n1 c1, .slice q2 n2 c2, .slice q3 n3 c3] 47))
        refine wpAnyH_ready (rs := [10]) (by kernel_rfl) (by simp) ?_
        refine AllReadyH.cons rfl (fun K hK => ?_) AllReadyH.nil
        go_simp
        refine hK.out _ _ (hHeld) (fun hHeld => ?_)
        clear hK K
        have ho : out = .ok (.mk 5 n.pos [] 0 [] [x1] x2) := by rw [← HOUT.out, Px.caseExpr, HP.out]; dsimp only; rw [HH1.out, HR1.out]; dsimp only; rw [HLE.out, HR2.out]
        subst ho
        have hws := ent_lt ER.out
        have rf := ent_free ER.out
        have r0 := ent_cell ER.out 0 _ rfl
        have r1 := ent_cell ER.out 1 _ rfl
        have r2 := ent_cell ER.out 2 _ rfl
        have r3 := ent_cell ER.out 3 _ rfl
        have r4 := ent_cell ER.out 4 _ rfl
        have r5 := ent_cell ER.out 5 _ rfl
        have r6 := ent_cell ER.out 6 _ rfl
        refine wpAnyH_ready (rs := [11]) (by kernel_rfl) (by simp) ?_
        refine AllReadyH.cons rfl (fun K hK => ?_) AllReadyH.nil
        go_simp
        refine hK.out _ _ (⟨ent_other (ent_other (ent_other (ent_other (ent_other (ent_other (ent_other (hHeld.1) (w.heap.size + 1) 0 _ (by omega)) (w.heap.size + 1) 1 _ (by omega)) (w.heap.size + 1) 2 _ (by omega)) (w.heap.size + 1) 3 _ (by omega)) (w.heap.size + 1) 4 _ (by omega)) (w.heap.size + 1) 5 _ (by omega)) (w.heap.size + 1) 6 _ (by omega), (NodeAt.other (NodeAt.other (NodeAt.other (NodeAt.other (NodeAt.other (NodeAt.other (NodeAt.other (hHeld.2) (w.heap.size + 1) 0 _ hgne) (w.heap.size + 1) 1 _ hgne) (w.heap.size + 1) 2 _ hgne) (w.heap.size + 1) 3 _ hgne) (w.heap.size + 1) 4 _ hgne) (w.heap.size + 1) 5 _ hgne) (w.heap.size + 1) 6 _ hgne)⟩) (fun hHeld => ?_)
        clear hK K
        refine wpAnyH_done (by kernel_rfl) ?_ _
        go_wp2_with fail
        all_goals
          have hlb := Hlb.out
          refine bodyPost_ret (v := .agg #[.int .i64 5, .int .i64 n.pos, .string ⟨#[]⟩, .int .i64 0, .slice none 0 0, .slice (some ⟨w4.heap.size, 0, none⟩) 1 1, .slice pa x2.length ca]) (by simp [results, Tryz.results145, go_sem, Px.Node.text, r0, r1, r2, r3, r4, r5, r6]) rfl ?_
          refine ⟨?_, _, rfl, fun u hu => ?_⟩
          · repeat (first | with_reducible exact HB.out | with_reducible refine Below.drew ?_ | with_reducible refine Below.setCell ?_ (by dsimp only; omega) _)
          refine ⟨_, _, _, rfl, row_nil _ _ _, ?_, ?_⟩
          · refine row_one (cs := #[.int .i64 xk, .int .i64 xp, .string xs, .int .i64 xi, .slice q1 n1 c1, .slice q2 n2 c2, .slice q3 n3 c3]) (T := 47) (fr := (0, 0)) ((hu w4.heap.size hgb (by simp)).trans ?_) rfl ?_
            · repeat (first | with_reducible exact EB.out | with_reducible refine ent_other ?_ _ _ _ (by omega))
            · refine New.stay (w := w) Hn1.out hlo1 ?_ u hu
              repeat (first | with_reducible exact Hst1.out | with_reducible refine Stay.set ?_ _ _ _ (by omega))
          · refine New.stay (w := w) Hn2.out hlo2 ?_ u hu
            repeat (first | with_reducible exact Hst2.out | with_reducible refine Stay.set ?_ _ _ _ (by omega))

theorem case_any (f k : Nat) (n : Px.Node) (lv : Value) (w : World) (hk : KidsAt w k lv n.list) (hkf : k ≤ f) (hex : ExprC f k) : Calls Tryz.prog 145 #[nodeV n lv] w (ToldN w (ExprAt (f + 1)) (Px.caseExpr f (Px.expr f) n)) := by
  cases hnd : Px.nodes n 3 18 with
  | error p =>
    have : Px.caseExpr f (Px.expr f) n = .error p := by rw [Px.caseExpr, hnd]
    rw [this]
    exact (case_bad k n lv w hk p hnd).mono fun e w' ⟨h1, h2⟩ => ⟨h2, h1⟩
  | ok l =>
    obtain ⟨hle, h2, _, _⟩ := nodes_is hnd
    exact case_ok k n lv w hk l hnd (n.list[1]'(by rw [← hle]; omega)) (List.getElem?_eq_getElem _) f hkf hex _ rfl
end Go.Proofs.YtnhndamfbeiljaaGreatDoor
