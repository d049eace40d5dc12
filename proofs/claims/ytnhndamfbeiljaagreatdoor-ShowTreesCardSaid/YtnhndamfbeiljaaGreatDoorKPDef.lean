/-
  parse.def, parse.data: their contracts, given what expressions come to.
-/
import Derived.Test.YtnhndamfbeiljaaGreatDoorGCon
namespace Go.Proofs.YtnhndamfbeiljaaGreatDoor
open Go Go.RowKit
set_option linter.unusedVariables false
set_option linter.unusedSimpArgs false

def DefAt (f : Nat) (u : World) (v : Value) (x : Px.Def) : Prop := ∃ nv b0 b1 b2 b3 b4 b5 b6 : Value, v = .agg #[.int .i64 x.pos, .string ⟨x.name.toArray⟩, nv, b0, b1, b2, b3, b4, b5, b6] ∧ RowAt 1 (StrAt u) u nv x.params ∧ ExprAt f u (.agg #[b0, b1, b2, b3, b4, b5, b6]) x.body
def DataAt (f : Nat) (u : World) (v : Value) (x : Px.Data) : Prop := ∃ nv cv : Value, v = .agg #[.int .i64 x.pos, .string ⟨x.name.toArray⟩, nv, cv] ∧ RowAt 1 (StrAt u) u nv x.params ∧ RowAt 3 (ConAt f u) u cv x.cons

set_option maxHeartbeats 2000000 in
theorem def_bad (k : Nat) (n : Px.Node) (lv : Value) (w : World) (hk : KidsAt w k lv n.list) (p : Nat) (hp : Px.nodes n 4 4 = .error p) :
    Calls Tryz.prog 50 #[nodeV n lv] w (fun e w' => e = wrongAt p ∧ Below w.heap.size w w') := by
  have HK := Lib.hid hk
  clear hk
  go_enter Tryz.func50, Tryz.ntmps50
  unfold nodeV
  go_wp2_with fail
  have EN := Lib.hid (ent_alloc (ent_new w #[.int .i64 n.tok.kind, .int .i64 n.tok.pos, .string ⟨n.tok.text.toArray⟩, .int .i64 n.tok.int, lv, .int .i64 n.takes] 105) (.cells #[.int .i64 0, .string ⟨#[]⟩, .slice none 0 0, .int .i64 0, .int .i64 0, .string ⟨#[]⟩, .int .i64 0, .slice none 0 0, .slice none 0 0, .slice none 0 0] 49))
  have ER0 := ent_new (w.alloc (.cells #[.int .i64 n.tok.kind, .int .i64 n.tok.pos, .string ⟨n.tok.text.toArray⟩, .int .i64 n.tok.int, lv, .int .i64 n.takes] 105)) #[.int .i64 0, .string ⟨#[]⟩, .slice none 0 0, .int .i64 0, .int .i64 0, .string ⟨#[]⟩, .int .i64 0, .slice none 0 0, .slice none 0 0, .slice none 0 0] 49
  rw [World.size_alloc] at ER0
  have ER := Lib.hid ER0
  have HB := Lib.hid (((Below.refl w.heap.size w).alloc (Nat.le_refl _) (.cells #[.int .i64 n.tok.kind, .int .i64 n.tok.pos, .string ⟨n.tok.text.toArray⟩, .int .i64 n.tok.int, lv, .int .i64 n.takes] 105)).alloc (by simp) (.cells #[.int .i64 0, .string ⟨#[]⟩, .slice none 0 0, .int .i64 0, .int .i64 0, .string ⟨#[]⟩, .int .i64 0, .slice none 0 0, .slice none 0 0, .slice none 0 0] 49))
  clear ER0
  refine (nodes_badI k n lv 4 4 4 4 _ rfl rfl (HK.out.below HB.out) (by omega) (by omega) p hp).mono ?_
  rintro e w1 ⟨rfl, hb⟩
  replace HB := Lib.hid (HB.out.trans (hb.mono HB.out.size))
  clear hb
  exact ⟨rfl, rfl, HB.out⟩

set_option maxHeartbeats 4000000 in
set_option maxRecDepth 100000 in
theorem def_ok (k : Nat) (n : Px.Node) (lv : Value) (w : World) (hk : KidsAt w k lv n.list) (l : List Px.Node) (hp : Px.nodes n 4 4 = .ok l) (m1 : Px.Node) (hm1 : n.list[1]? = some m1) (m2 : Px.Node) (hm2 : n.list[2]? = some m2) (m3 : Px.Node) (hm3 : n.list[3]? = some m3) (f : Nat) (hex : ExprC f k) (out : Px.R Px.Def) (hout : Px.defn f n = out) :
    Calls Tryz.prog 50 #[nodeV n lv] w (ToldN w (DefAt f) out) := by
  obtain ⟨hle, h2, h9, _⟩ := nodes_is hp
  have hle0 := hle
  rw [hle] at h2 h9
  obtain ⟨j, g, o, c, rfl, rfl, h3, h4, h5⟩ := hk.some (by intro e; rw [e] at h2; simp at h2)
  obtain ⟨kv1, hat1, hkm1⟩ := h5 1 m1 hm1
  simp only [Nat.reduceMul] at hat1
  have HAT1 := Lib.hid hat1; have HKM1 := Lib.hid hkm1; have HM1 := Lib.hid hm1
  clear hat1 hkm1 hm1
  obtain ⟨kv2, hat2, hkm2⟩ := h5 2 m2 hm2
  simp only [Nat.reduceMul] at hat2
  have HAT2 := Lib.hid hat2; have HKM2 := Lib.hid hkm2; have HM2 := Lib.hid hm2
  clear hat2 hkm2 hm2
  obtain ⟨kv3, hat3, hkm3⟩ := h5 3 m3 hm3
  simp only [Nat.reduceMul] at hat3
  have HAT3 := Lib.hid hat3; have HKM3 := Lib.hid hkm3; have HM3 := Lib.hid hm3
  clear hat3 hkm3 hm3
  have hne : ¬ n.list = [] := by intro e; rw [e] at h2; simp at h2
  have hbi1 : ¬ ((n.list.length : Int) < 1) := by omega
  have hbi2 : ¬ ((n.list.length : Int) < 2) := by omega
  have hbi3 : ¬ ((n.list.length : Int) < 3) := by omega
  have hbi4 : ¬ ((n.list.length : Int) < 4) := by omega
  have hbj0 : (0 : Int) < (n.list.length : Int) := by omega
  have hbj1 : (1 : Int) < (n.list.length : Int) := by omega
  have hbj2 : (2 : Int) < (n.list.length : Int) := by omega
  have hbj3 : (3 : Int) < (n.list.length : Int) := by omega
  have HK := Lib.hid hk; have HP := Lib.hid hp
  clear h5 hk hp hle
  have HOUT := Lib.hid hout; clear hout
  have hgw : g < w.heap.size := World.block_lt_of_cell? w _ HAT1.out.c0
  have hgne : g ≠ w.heap.size + 1 := by omega
  have HLE := Lib.hid hle0
  have HH1 := Lib.hid (show l.getD 1 n = m1 by rw [hle0, List.getD_eq_getElem?_getD, HM1.out]; rfl)
  have HH2 := Lib.hid (show l.getD 2 n = m2 by rw [hle0, List.getD_eq_getElem?_getD, HM2.out]; rfl)
  have HH3 := Lib.hid (show l.getD 3 n = m3 by rw [hle0, List.getD_eq_getElem?_getD, HM3.out]; rfl)
  clear hle0
  have HEX := Lib.hid hex; clear hex
  go_enter Tryz.func50, Tryz.ntmps50
  unfold nodeV
  go_wp2_with fail
  have EN := Lib.hid (ent_alloc (ent_new w #[.int .i64 n.tok.kind, .int .i64 n.tok.pos, .string ⟨n.tok.text.toArray⟩, .int .i64 n.tok.int, (.slice (some ⟨g, o, none⟩) n.list.length c), .int .i64 n.takes] 105) (.cells #[.int .i64 0, .string ⟨#[]⟩, .slice none 0 0, .int .i64 0, .int .i64 0, .string ⟨#[]⟩, .int .i64 0, .slice none 0 0, .slice none 0 0, .slice none 0 0] 49))
  have ER0 := ent_new (w.alloc (.cells #[.int .i64 n.tok.kind, .int .i64 n.tok.pos, .string ⟨n.tok.text.toArray⟩, .int .i64 n.tok.int, (.slice (some ⟨g, o, none⟩) n.list.length c), .int .i64 n.takes] 105)) #[.int .i64 0, .string ⟨#[]⟩, .slice none 0 0, .int .i64 0, .int .i64 0, .string ⟨#[]⟩, .int .i64 0, .slice none 0 0, .slice none 0 0, .slice none 0 0] 49
  rw [World.size_alloc] at ER0
  have ER := Lib.hid ER0
  have HB := Lib.hid (((Below.refl w.heap.size w).alloc (Nat.le_refl _) (.cells #[.int .i64 n.tok.kind, .int .i64 n.tok.pos, .string ⟨n.tok.text.toArray⟩, .int .i64 n.tok.int, (.slice (some ⟨g, o, none⟩) n.list.length c), .int .i64 n.takes] 105)).alloc (by simp) (.cells #[.int .i64 0, .string ⟨#[]⟩, .slice none 0 0, .int .i64 0, .int .i64 0, .string ⟨#[]⟩, .int .i64 0, .slice none 0 0, .slice none 0 0, .slice none 0 0] 49))
  clear ER0
  refine (nodes_okI (j + 1) n (.slice (some ⟨g, o, none⟩) n.list.length c) 4 4 4 4 _ rfl rfl (HK.out.below HB.out) (by omega) (by omega) l HP.out).mono ?_
  rintro e w1 ⟨rfl, hb⟩
  replace EN := Lib.hid (ent_below EN.out hb)
  replace ER := Lib.hid (ent_below ER.out hb)
  replace HB := Lib.hid (HB.out.trans (hb.mono HB.out.size))
  clear hb
  go_wp2_with fail
  refine wp_region_held_drew (S := (fun w' => w'.heap[w.heap.size]? = some (.cells #[.int .i64 n.tok.kind, .int .i64 n.tok.pos, .string ⟨n.tok.text.toArray⟩, .int .i64 n.tok.int, (.slice (some ⟨g, o, none⟩) n.list.length c), .int .i64 n.takes] 105 (0, 0)) ∧ NodeAt w' g (o + 6) m1 kv1 ∧ NodeAt w' g (o + 12) m2 kv2 ∧ NodeAt w' g (o + 18) m3 kv3)) (by kernel_rfl) (⟨EN.out, HAT1.out.below (HB.out.drew), HAT2.out.below (HB.out.drew), HAT3.out.below (HB.out.drew)⟩) (fun hHeld => ?_)
  refine wpAnyH_take (i := 0) (v := .agg #[.int .i64 n.tok.kind, .int .i64 n.tok.pos, .string ⟨n.tok.text.toArray⟩, .int .i64 n.tok.int, (.slice (some ⟨g, o, none⟩) n.list.length c), .int .i64 n.takes]) rfl (by kernel_rfl) (by kernel_rfl) (by kernel_rfl) (fun _ _ _ h => h) (Or.inl ⟨by rfl, fun w' hSw => by have h1 := hSw.1; have q0 := ent_cell h1 0 _ rfl; have q1 := ent_cell h1 1 _ rfl; have q2 := ent_cell h1 2 _ rfl; have q3 := ent_cell h1 3 _ rfl; have q4 := ent_cell h1 4 _ rfl; have q5 := ent_cell h1 5 _ rfl; go_simp⟩) hHeld ?_
  refine wpAnyH_take (i := 2) (v := (.slice (some ⟨g, o, none⟩) n.list.length c)) rfl (by kernel_rfl) (by kernel_rfl) (by kernel_rfl) (fun _ _ _ h => h) (Or.inl ⟨by rfl, fun w' hSw => by go_simp⟩) hHeld ?_
  refine wpAnyH_take (i := 3) (v := .pointer (some ⟨g, o + 6, none⟩)) rfl (by kernel_rfl) (by kernel_rfl) (by kernel_rfl) (fun _ _ _ h => h) (Or.inl ⟨by rfl, fun w' hSw => by go_simp⟩) hHeld ?_
  refine wpAnyH_take (i := 4) (v := .agg #[.int .i64 m1.tok.kind, .int .i64 m1.tok.pos, .string ⟨m1.tok.text.toArray⟩, .int .i64 m1.tok.int, kv1, .int .i64 m1.takes]) rfl (by kernel_rfl) (by kernel_rfl) (by kernel_rfl) (fun _ _ _ h => h) (Or.inl ⟨by rfl, fun w' hSw => by obtain ⟨m0, m1, m2, m3, m4, m5⟩ := hSw.2.1; go_simp⟩) hHeld ?_
  refine wpAnyH_take (i := 6) (v := (.slice (some ⟨g, o, none⟩) n.list.length c)) rfl (by kernel_rfl) (by kernel_rfl) (by kernel_rfl) (fun _ _ _ h => h) (Or.inl ⟨by rfl, fun w' hSw => by go_simp⟩) hHeld ?_
  refine wpAnyH_take (i := 7) (v := .pointer (some ⟨g, o + 12, none⟩)) rfl (by kernel_rfl) (by kernel_rfl) (by kernel_rfl) (fun _ _ _ h => h) (Or.inl ⟨by rfl, fun w' hSw => by go_simp⟩) hHeld ?_
  refine wpAnyH_take (i := 8) (v := .agg #[.int .i64 m2.tok.kind, .int .i64 m2.tok.pos, .string ⟨m2.tok.text.toArray⟩, .int .i64 m2.tok.int, kv2, .int .i64 m2.takes]) rfl (by kernel_rfl) (by kernel_rfl) (by kernel_rfl) (fun _ _ _ h => h) (Or.inl ⟨by rfl, fun w' hSw => by obtain ⟨m0, m1, m2, m3, m4, m5⟩ := hSw.2.2.1; go_simp⟩) hHeld ?_
  refine wpAnyH_take (i := 10) (v := (.slice (some ⟨g, o, none⟩) n.list.length c)) rfl (by kernel_rfl) (by kernel_rfl) (by kernel_rfl) (fun _ _ _ h => h) (Or.inl ⟨by rfl, fun w' hSw => by go_simp⟩) hHeld ?_
  refine wpAnyH_take (i := 11) (v := .pointer (some ⟨g, o + 18, none⟩)) rfl (by kernel_rfl) (by kernel_rfl) (by kernel_rfl) (fun _ _ _ h => h) (Or.inl ⟨by rfl, fun w' hSw => by go_simp⟩) hHeld ?_
  refine wpAnyH_take (i := 12) (v := .agg #[.int .i64 m3.tok.kind, .int .i64 m3.tok.pos, .string ⟨m3.tok.text.toArray⟩, .int .i64 m3.tok.int, kv3, .int .i64 m3.takes]) rfl (by kernel_rfl) (by kernel_rfl) (by kernel_rfl) (fun _ _ _ h => h) (Or.inl ⟨by rfl, fun w' hSw => by obtain ⟨m0, m1, m2, m3, m4, m5⟩ := hSw.2.2.2; go_simp⟩) hHeld ?_
  simp only [Act.put, List.setIfInBounds_toArray, List.set_cons_zero, List.set_cons_succ]
  refine wpAnyH_ready (rs := [1]) (by kernel_rfl) (by simp) ?_
  refine AllReadyH.cons rfl (fun K hK => ?_) AllReadyH.nil
  go_simp
  refine (pos_any n (.slice (some ⟨g, o, none⟩) n.list.length c) _).mono ?_
  rintro e w2 ⟨rfl, hb⟩
  have hbd := hb; replace hb := undrew hb
  replace ER := Lib.hid (ent_below ER.out hb)
  replace HB := Lib.hid (HB.out.trans (hb.mono HB.out.size))
  refine hK.out _ _ (⟨ent_below hHeld.1 hbd, (hHeld.2.1).below hbd, (hHeld.2.2.1).below hbd, (hHeld.2.2.2).below hbd⟩) (fun hHeld => ?_)
  clear hK K
  clear hb hbd
  refine wpAnyH_ready (rs := [5]) (by kernel_rfl) (by simp) ?_
  refine AllReadyH.cons rfl (fun K hK => ?_) AllReadyH.nil
  go_simp
  refine (name_part m1 kv1 _).mono ?_
  intro e w3 ht
  cases hr1 : Px.name m1 with
  | error p =>
    obtain ⟨rfl, hb⟩ := toldN_bad ht hr1
    have ho : out = .error p := by rw [← HOUT.out, Px.defn, HP.out]; dsimp only; rw [HH1.out, hr1]
    subst ho
    exact ⟨rfl, HB.out.trans (hb.mono HB.out.size), rfl⟩
  | ok x1 =>
    obtain ⟨av1, rfl, hnew, hb⟩ := toldN_ok ht hr1
    obtain rfl := hnew.now
    have Hn1 := Lib.hid hnew; have HR1 := Lib.hid hr1
    have hlo1 := HB.out.size; have hlt1 := ent_lt ER.out
    have Hst1 := Lib.hid (Stay.refl w2.heap.size w3)
    replace ER := Lib.hid (ent_below ER.out hb)
    replace HB := Lib.hid (HB.out.trans (hb.mono HB.out.size))
    refine hK.out _ _ (⟨ent_below hHeld.1 hb, (hHeld.2.1).below hb, (hHeld.2.2.1).below hb, (hHeld.2.2.2).below hb⟩) (fun hHeld => ?_)
    clear hK K
    clear hb hr1 ht hnew
    refine wpAnyH_ready (rs := [9]) (by kernel_rfl) (by simp) ?_
    refine AllReadyH.cons rfl (fun K hK => ?_) AllReadyH.nil
    go_simp
    refine (names_any j m2 kv2 0 0 _ rfl (by omega) (HKM2.out.below HB.out)).mono ?_
    intro e w4 ht
    cases hr2 : Px.names m2 0 with
    | error p =>
      obtain ⟨rfl, hb⟩ := toldN_bad ht hr2
      have ho : out = .error p := by rw [← HOUT.out, Px.defn, HP.out]; dsimp only; rw [HH1.out, HR1.out]; dsimp only; rw [HH2.out, hr2]
      subst ho
      exact ⟨rfl, HB.out.trans (hb.mono HB.out.size), rfl⟩
    | ok x2 =>
      obtain ⟨av2, rfl, hnew, hb⟩ := toldN_ok ht hr2
      obtain ⟨pn, cn, rfl⟩ := hnew.now.len
      have Hn2 := Lib.hid hnew; have HR2 := Lib.hid hr2
      have hlo2 := HB.out.size; have hlt2 := ent_lt ER.out
      have Hst2 := Lib.hid (Stay.refl w3.heap.size w4)
      replace Hst1 := Lib.hid (Hst1.out.below hb)
      replace ER := Lib.hid (ent_below ER.out hb)
      replace HB := Lib.hid (HB.out.trans (hb.mono HB.out.size))
      refine hK.out _ _ (⟨ent_below hHeld.1 hb, (hHeld.2.1).below hb, (hHeld.2.2.1).below hb, (hHeld.2.2.2).below hb⟩) (fun hHeld => ?_)
      clear hK K
      clear hb hr2 ht hnew
      refine wpAnyH_ready (rs := [13]) (by kernel_rfl) (by simp) ?_
      refine AllReadyH.cons rfl (fun K hK => ?_) AllReadyH.nil
      go_simp
      refine (HEX.out m3 kv3 j _ (HKM3.out.below HB.out) (by omega)).mono ?_
      intro e w5 ht
      cases hr3 : Px.expr f m3 with
      | error p =>
        obtain ⟨rfl, hb⟩ := toldN_bad ht hr3
        have ho : out = .error p := by rw [← HOUT.out, Px.defn, HP.out]; dsimp only; rw [HH1.out, HR1.out]; dsimp only; rw [HH2.out, HR2.out]; dsimp only; rw [HH3.out, hr3]
        subst ho
        exact ⟨rfl, HB.out.trans (hb.mono HB.out.size), rfl⟩
      | ok x3 =>
        obtain ⟨av3, rfl, hnew, hb⟩ := toldN_ok ht hr3
        obtain ⟨xk, xp, xi, xs, q1, n1, c1, q2, n2, c2, q3, n3, c3, rfl⟩ := exprAt_form f _ _ _ hnew.now
        have Hn3 := Lib.hid hnew; have HR3 := Lib.hid hr3
        have hlo3 := HB.out.size; have hlt3 := ent_lt ER.out
        have Hst3 := Lib.hid (Stay.refl w4.heap.size w5)
        replace Hst1 := Lib.hid (Hst1.out.below hb)
        replace Hst2 := Lib.hid (Hst2.out.below hb)
        replace ER := Lib.hid (ent_below ER.out hb)
        replace HB := Lib.hid (HB.out.trans (hb.mono HB.out.size))
        refine hK.out _ _ (⟨ent_below hHeld.1 hb, (hHeld.2.1).below hb, (hHeld.2.2.1).below hb, (hHeld.2.2.2).below hb⟩) (fun hHeld => ?_)
        clear hK K
        clear hb hr3 ht hnew
        refine wpAnyH_ready (rs := [14]) (by kernel_rfl) (by simp) ?_
        refine AllReadyH.cons rfl (fun K hK => ?_) AllReadyH.nil
        go_simp
        refine hK.out _ _ (hHeld) (fun hHeld => ?_)
        clear hK K
        have ho : out = .ok ⟨n.pos, x1, x2, x3⟩ := by rw [← HOUT.out, Px.defn, HP.out]; dsimp only; rw [HH1.out, HR1.out]; dsimp only; rw [HH2.out, HR2.out]; dsimp only; rw [HH3.out, HR3.out]
        subst ho
        have hws := ent_lt ER.out
        have rf := ent_free ER.out
        have r0 := ent_cell ER.out 0 _ rfl
        have r1 := ent_cell ER.out 1 _ rfl
        have r2 := ent_cell ER.out 2 _ rfl
        have r3 := ent_cell ER.out 3 _ rfl
        have r4 := ent_cell ER.out 4 _ rfl
        have r5 := ent_cell ER.out 5 _ rfl
        have r6 := ent_cell ER.out 6 _ rfl
        have r7 := ent_cell ER.out 7 _ rfl
        have r8 := ent_cell ER.out 8 _ rfl
        have r9 := ent_cell ER.out 9 _ rfl
        refine wpAnyH_ready (rs := [15]) (by kernel_rfl) (by simp) ?_
        refine AllReadyH.cons rfl (fun K hK => ?_) AllReadyH.nil
        go_simp
        refine hK.out _ _ (⟨ent_other (ent_other (ent_other (ent_other (ent_other (ent_other (ent_other (ent_other (ent_other (ent_other (hHeld.1) (w.heap.size + 1) 0 _ (by omega)) (w.heap.size + 1) 1 _ (by omega)) (w.heap.size + 1) 2 _ (by omega)) (w.heap.size + 1) 3 _ (by omega)) (w.heap.size + 1) 4 _ (by omega)) (w.heap.size + 1) 5 _ (by omega)) (w.heap.size + 1) 6 _ (by omega)) (w.heap.size + 1) 7 _ (by omega)) (w.heap.size + 1) 8 _ (by omega)) (w.heap.size + 1) 9 _ (by omega), (NodeAt.other (NodeAt.other (NodeAt.other (NodeAt.other (NodeAt.other (NodeAt.other (NodeAt.other (NodeAt.other (NodeAt.other (NodeAt.other (hHeld.2.1) (w.heap.size + 1) 0 _ hgne) (w.heap.size + 1) 1 _ hgne) (w.heap.size + 1) 2 _ hgne) (w.heap.size + 1) 3 _ hgne) (w.heap.size + 1) 4 _ hgne) (w.heap.size + 1) 5 _ hgne) (w.heap.size + 1) 6 _ hgne) (w.heap.size + 1) 7 _ hgne) (w.heap.size + 1) 8 _ hgne) (w.heap.size + 1) 9 _ hgne), (NodeAt.other (NodeAt.other (NodeAt.other (NodeAt.other (NodeAt.other (NodeAt.other (NodeAt.other (NodeAt.other (NodeAt.other (NodeAt.other (hHeld.2.2.1) (w.heap.size + 1) 0 _ hgne) (w.heap.size + 1) 1 _ hgne) (w.heap.size + 1) 2 _ hgne) (w.heap.size + 1) 3 _ hgne) (w.heap.size + 1) 4 _ hgne) (w.heap.size + 1) 5 _ hgne) (w.heap.size + 1) 6 _ hgne) (w.heap.size + 1) 7 _ hgne) (w.heap.size + 1) 8 _ hgne) (w.heap.size + 1) 9 _ hgne), (NodeAt.other (NodeAt.other (NodeAt.other (NodeAt.other (NodeAt.other (NodeAt.other (NodeAt.other (NodeAt.other (NodeAt.other (NodeAt.other (hHeld.2.2.2) (w.heap.size + 1) 0 _ hgne) (w.heap.size + 1) 1 _ hgne) (w.heap.size + 1) 2 _ hgne) (w.heap.size + 1) 3 _ hgne) (w.heap.size + 1) 4 _ hgne) (w.heap.size + 1) 5 _ hgne) (w.heap.size + 1) 6 _ hgne) (w.heap.size + 1) 7 _ hgne) (w.heap.size + 1) 8 _ hgne) (w.heap.size + 1) 9 _ hgne)⟩) (fun hHeld => ?_)
        clear hK K
        refine wpAnyH_done (by kernel_rfl) ?_ _
        go_wp2_with fail
        all_goals
          refine bodyPost_ret (v := .agg #[.int .i64 n.pos, .string ⟨x1.toArray⟩, .slice pn x2.length cn, .int .i64 xk, .int .i64 xp, .string xs, .int .i64 xi, .slice q1 n1 c1, .slice q2 n2 c2, .slice q3 n3 c3]) (by simp [results, Tryz.results50, go_sem, Px.Node.text, r0, r1, r2, r3, r4, r5, r6, r7, r8, r9]) rfl ?_
          refine ⟨?_, _, rfl, fun u hu => ?_⟩
          · repeat (first | with_reducible exact HB.out | with_reducible refine Below.drew ?_ | with_reducible refine Below.setCell ?_ (by dsimp only; omega) _)
          refine ⟨_, _, _, _, _, _, _, _, rfl, ?_, ?_⟩
          · refine New.stay (w := w) Hn2.out hlo2 ?_ u hu
            repeat (first | with_reducible exact Hst2.out | with_reducible refine Stay.set ?_ _ _ _ (by omega))
          · refine New.stay (w := w) Hn3.out hlo3 ?_ u hu
            repeat (first | with_reducible exact Hst3.out | with_reducible refine Stay.set ?_ _ _ _ (by omega))

theorem def_any (f k : Nat) (n : Px.Node) (lv : Value) (w : World) (hk : KidsAt w k lv n.list) (hex : ExprC f k) : Calls Tryz.prog 50 #[nodeV n lv] w (ToldN w (DefAt f) (Px.defn f n)) := by
  cases hnd : Px.nodes n 4 4 with
  | error p =>
    have : Px.defn f n = .error p := by rw [Px.defn, hnd]
    rw [this]
    exact (def_bad k n lv w hk p hnd).mono fun e w' ⟨h1, h2⟩ => ⟨h2, h1⟩
  | ok l =>
    obtain ⟨hle, h2, _, _⟩ := nodes_is hnd
    exact def_ok k n lv w hk l hnd (n.list[1]'(by rw [← hle]; omega)) (List.getElem?_eq_getElem _) (n.list[2]'(by rw [← hle]; omega)) (List.getElem?_eq_getElem _) (n.list[3]'(by rw [← hle]; omega)) (List.getElem?_eq_getElem _) f hex _ rfl
set_option maxHeartbeats 2000000 in
theorem data_bad (k : Nat) (n : Px.Node) (lv : Value) (w : World) (hk : KidsAt w k lv n.list) (p : Nat) (hp : Px.nodes n 4 103 = .error p) :
    Calls Tryz.prog 49 #[nodeV n lv] w (fun e w' => e = wrongAt p ∧ Below w.heap.size w w') := by
  have HK := Lib.hid hk
  clear hk
  go_enter Tryz.func49, Tryz.ntmps49
  unfold nodeV
  go_wp2_with fail
  have EN := Lib.hid (ent_alloc (ent_new w #[.int .i64 n.tok.kind, .int .i64 n.tok.pos, .string ⟨n.tok.text.toArray⟩, .int .i64 n.tok.int, lv, .int .i64 n.takes] 105) (.cells #[.int .i64 0, .string ⟨#[]⟩, .slice none 0 0, .slice none 0 0] 36))
  have ER0 := ent_new (w.alloc (.cells #[.int .i64 n.tok.kind, .int .i64 n.tok.pos, .string ⟨n.tok.text.toArray⟩, .int .i64 n.tok.int, lv, .int .i64 n.takes] 105)) #[.int .i64 0, .string ⟨#[]⟩, .slice none 0 0, .slice none 0 0] 36
  rw [World.size_alloc] at ER0
  have ER := Lib.hid ER0
  have HB := Lib.hid (((Below.refl w.heap.size w).alloc (Nat.le_refl _) (.cells #[.int .i64 n.tok.kind, .int .i64 n.tok.pos, .string ⟨n.tok.text.toArray⟩, .int .i64 n.tok.int, lv, .int .i64 n.takes] 105)).alloc (by simp) (.cells #[.int .i64 0, .string ⟨#[]⟩, .slice none 0 0, .slice none 0 0] 36))
  clear ER0
  refine (nodes_badI k n lv 4 103 4 103 _ rfl rfl (HK.out.below HB.out) (by omega) (by omega) p hp).mono ?_
  rintro e w1 ⟨rfl, hb⟩
  replace HB := Lib.hid (HB.out.trans (hb.mono HB.out.size))
  clear hb
  exact ⟨rfl, rfl, HB.out⟩

set_option maxHeartbeats 4000000 in
set_option maxRecDepth 100000 in
theorem data_ok (k : Nat) (n : Px.Node) (lv : Value) (w : World) (hk : KidsAt w k lv n.list) (l : List Px.Node) (hp : Px.nodes n 4 103 = .ok l) (m1 : Px.Node) (hm1 : n.list[1]? = some m1) (m2 : Px.Node) (hm2 : n.list[2]? = some m2) (f : Nat) (hkf : k ≤ f) (out : Px.R Px.Data) (hout : Px.data f n = out) :
    Calls Tryz.prog 49 #[nodeV n lv] w (ToldN w (DataAt f) out) := by
  obtain ⟨hle, h2, h9, _⟩ := nodes_is hp
  have hle0 := hle
  rw [hle] at h2 h9
  obtain ⟨j, g, o, c, rfl, rfl, h3, h4, h5⟩ := hk.some (by intro e; rw [e] at h2; simp at h2)
  obtain ⟨kv1, hat1, hkm1⟩ := h5 1 m1 hm1
  simp only [Nat.reduceMul] at hat1
  have HAT1 := Lib.hid hat1; have HKM1 := Lib.hid hkm1; have HM1 := Lib.hid hm1
  clear hat1 hkm1 hm1
  obtain ⟨kv2, hat2, hkm2⟩ := h5 2 m2 hm2
  simp only [Nat.reduceMul] at hat2
  have HAT2 := Lib.hid hat2; have HKM2 := Lib.hid hkm2; have HM2 := Lib.hid hm2
  clear hat2 hkm2 hm2
  have hc1 : ¬ c = 3 := by omega
  have hne : ¬ n.list = [] := by intro e; rw [e] at h2; simp at h2
  have hbi1 : ¬ ((n.list.length : Int) < 1) := by omega
  have hbi2 : ¬ ((n.list.length : Int) < 2) := by omega
  have hbi3 : ¬ ((n.list.length : Int) < 3) := by omega
  have hbi4 : ¬ ((n.list.length : Int) < 4) := by omega
  have hbj0 : (0 : Int) < (n.list.length : Int) := by omega
  have hbj1 : (1 : Int) < (n.list.length : Int) := by omega
  have hbj2 : (2 : Int) < (n.list.length : Int) := by omega
  have hbj3 : (3 : Int) < (n.list.length : Int) := by omega
  have HK := Lib.hid hk; have HP := Lib.hid hp
  clear h5 hk hp hle
  have HOUT := Lib.hid hout; clear hout
  have hgw : g < w.heap.size := World.block_lt_of_cell? w _ HAT1.out.c0
  have hgne : g ≠ w.heap.size + 1 := by omega
  have HLE := Lib.hid hle0
  have HH1 := Lib.hid (show l.getD 1 n = m1 by rw [hle0, List.getD_eq_getElem?_getD, HM1.out]; rfl)
  have HH2 := Lib.hid (show l.getD 2 n = m2 by rw [hle0, List.getD_eq_getElem?_getD, HM2.out]; rfl)
  clear hle0
  go_enter Tryz.func49, Tryz.ntmps49
  unfold nodeV
  go_wp2_with fail
  have EN := Lib.hid (ent_alloc (ent_new w #[.int .i64 n.tok.kind, .int .i64 n.tok.pos, .string ⟨n.tok.text.toArray⟩, .int .i64 n.tok.int, (.slice (some ⟨g, o, none⟩) n.list.length c), .int .i64 n.takes] 105) (.cells #[.int .i64 0, .string ⟨#[]⟩, .slice none 0 0, .slice none 0 0] 36))
  have ER0 := ent_new (w.alloc (.cells #[.int .i64 n.tok.kind, .int .i64 n.tok.pos, .string ⟨n.tok.text.toArray⟩, .int .i64 n.tok.int, (.slice (some ⟨g, o, none⟩) n.list.length c), .int .i64 n.takes] 105)) #[.int .i64 0, .string ⟨#[]⟩, .slice none 0 0, .slice none 0 0] 36
  rw [World.size_alloc] at ER0
  have ER := Lib.hid ER0
  have HB := Lib.hid (((Below.refl w.heap.size w).alloc (Nat.le_refl _) (.cells #[.int .i64 n.tok.kind, .int .i64 n.tok.pos, .string ⟨n.tok.text.toArray⟩, .int .i64 n.tok.int, (.slice (some ⟨g, o, none⟩) n.list.length c), .int .i64 n.takes] 105)).alloc (by simp) (.cells #[.int .i64 0, .string ⟨#[]⟩, .slice none 0 0, .slice none 0 0] 36))
  clear ER0
  refine (nodes_okI (j + 1) n (.slice (some ⟨g, o, none⟩) n.list.length c) 4 103 4 103 _ rfl rfl (HK.out.below HB.out) (by omega) (by omega) l HP.out).mono ?_
  rintro e w1 ⟨rfl, hb⟩
  replace EN := Lib.hid (ent_below EN.out hb)
  replace ER := Lib.hid (ent_below ER.out hb)
  replace HB := Lib.hid (HB.out.trans (hb.mono HB.out.size))
  clear hb
  go_wp2_with fail
  refine wp_region_held_drew (S := (fun w' => w'.heap[w.heap.size]? = some (.cells #[.int .i64 n.tok.kind, .int .i64 n.tok.pos, .string ⟨n.tok.text.toArray⟩, .int .i64 n.tok.int, (.slice (some ⟨g, o, none⟩) n.list.length c), .int .i64 n.takes] 105 (0, 0)) ∧ NodeAt w' g (o + 6) m1 kv1 ∧ NodeAt w' g (o + 12) m2 kv2)) (by kernel_rfl) (⟨EN.out, HAT1.out.below (HB.out.drew), HAT2.out.below (HB.out.drew)⟩) (fun hHeld => ?_)
  refine wpAnyH_take (i := 0) (v := .agg #[.int .i64 n.tok.kind, .int .i64 n.tok.pos, .string ⟨n.tok.text.toArray⟩, .int .i64 n.tok.int, (.slice (some ⟨g, o, none⟩) n.list.length c), .int .i64 n.takes]) rfl (by kernel_rfl) (by kernel_rfl) (by kernel_rfl) (fun _ _ _ h => h) (Or.inl ⟨by rfl, fun w' hSw => by have h1 := hSw.1; have q0 := ent_cell h1 0 _ rfl; have q1 := ent_cell h1 1 _ rfl; have q2 := ent_cell h1 2 _ rfl; have q3 := ent_cell h1 3 _ rfl; have q4 := ent_cell h1 4 _ rfl; have q5 := ent_cell h1 5 _ rfl; go_simp⟩) hHeld ?_
  refine wpAnyH_take (i := 2) (v := (.slice (some ⟨g, o, none⟩) n.list.length c)) rfl (by kernel_rfl) (by kernel_rfl) (by kernel_rfl) (fun _ _ _ h => h) (Or.inl ⟨by rfl, fun w' hSw => by go_simp⟩) hHeld ?_
  refine wpAnyH_take (i := 3) (v := .pointer (some ⟨g, o + 6, none⟩)) rfl (by kernel_rfl) (by kernel_rfl) (by kernel_rfl) (fun _ _ _ h => h) (Or.inl ⟨by rfl, fun w' hSw => by go_simp⟩) hHeld ?_
  refine wpAnyH_take (i := 4) (v := .agg #[.int .i64 m1.tok.kind, .int .i64 m1.tok.pos, .string ⟨m1.tok.text.toArray⟩, .int .i64 m1.tok.int, kv1, .int .i64 m1.takes]) rfl (by kernel_rfl) (by kernel_rfl) (by kernel_rfl) (fun _ _ _ h => h) (Or.inl ⟨by rfl, fun w' hSw => by obtain ⟨m0, m1, m2, m3, m4, m5⟩ := hSw.2.1; go_simp⟩) hHeld ?_
  refine wpAnyH_take (i := 6) (v := (.slice (some ⟨g, o, none⟩) n.list.length c)) rfl (by kernel_rfl) (by kernel_rfl) (by kernel_rfl) (fun _ _ _ h => h) (Or.inl ⟨by rfl, fun w' hSw => by go_simp⟩) hHeld ?_
  refine wpAnyH_take (i := 7) (v := .pointer (some ⟨g, o + 12, none⟩)) rfl (by kernel_rfl) (by kernel_rfl) (by kernel_rfl) (fun _ _ _ h => h) (Or.inl ⟨by rfl, fun w' hSw => by go_simp⟩) hHeld ?_
  refine wpAnyH_take (i := 8) (v := .agg #[.int .i64 m2.tok.kind, .int .i64 m2.tok.pos, .string ⟨m2.tok.text.toArray⟩, .int .i64 m2.tok.int, kv2, .int .i64 m2.takes]) rfl (by kernel_rfl) (by kernel_rfl) (by kernel_rfl) (fun _ _ _ h => h) (Or.inl ⟨by rfl, fun w' hSw => by obtain ⟨m0, m1, m2, m3, m4, m5⟩ := hSw.2.2; go_simp⟩) hHeld ?_
  refine wpAnyH_take (i := 10) (v := (.slice (some ⟨g, o, none⟩) n.list.length c)) rfl (by kernel_rfl) (by kernel_rfl) (by kernel_rfl) (fun _ _ _ h => h) (Or.inl ⟨by rfl, fun w' hSw => by go_simp⟩) hHeld ?_
  refine wpAnyH_take (i := 11) (v := .slice (some ⟨g, o + 18, none⟩) (n.list.length - 3) (c - 3)) rfl (by kernel_rfl) (by kernel_rfl) (by kernel_rfl) (fun _ _ _ h => h) (Or.inl ⟨by rfl, fun w' hSw => by go_simp⟩) hHeld ?_
  simp only [Act.put, List.setIfInBounds_toArray, List.set_cons_zero, List.set_cons_succ]
  refine wpAnyH_ready (rs := [1]) (by kernel_rfl) (by simp) ?_
  refine AllReadyH.cons rfl (fun K hK => ?_) AllReadyH.nil
  go_simp
  refine (pos_any n (.slice (some ⟨g, o, none⟩) n.list.length c) _).mono ?_
  rintro e w2 ⟨rfl, hb⟩
  have hbd := hb; replace hb := undrew hb
  replace ER := Lib.hid (ent_below ER.out hb)
  replace HB := Lib.hid (HB.out.trans (hb.mono HB.out.size))
  refine hK.out _ _ (⟨ent_below hHeld.1 hbd, (hHeld.2.1).below hbd, (hHeld.2.2).below hbd⟩) (fun hHeld => ?_)
  clear hK K
  clear hb hbd
  refine wpAnyH_ready (rs := [5]) (by kernel_rfl) (by simp) ?_
  refine AllReadyH.cons rfl (fun K hK => ?_) AllReadyH.nil
  go_simp
  refine (conName_part m1 kv1 _).mono ?_
  intro e w3 ht
  cases hr1 : Px.conName m1 with
  | error p =>
    obtain ⟨rfl, hb⟩ := toldN_bad ht hr1
    have ho : out = .error p := by rw [← HOUT.out, Px.data, HP.out]; dsimp only; rw [HH1.out, hr1]
    subst ho
    exact ⟨rfl, HB.out.trans (hb.mono HB.out.size), rfl⟩
  | ok x1 =>
    obtain ⟨av1, rfl, hnew, hb⟩ := toldN_ok ht hr1
    obtain rfl := hnew.now
    have Hn1 := Lib.hid hnew; have HR1 := Lib.hid hr1
    have hlo1 := HB.out.size; have hlt1 := ent_lt ER.out
    have Hst1 := Lib.hid (Stay.refl w2.heap.size w3)
    replace ER := Lib.hid (ent_below ER.out hb)
    replace HB := Lib.hid (HB.out.trans (hb.mono HB.out.size))
    refine hK.out _ _ (⟨ent_below hHeld.1 hb, (hHeld.2.1).below hb, (hHeld.2.2).below hb⟩) (fun hHeld => ?_)
    clear hK K
    clear hb hr1 ht hnew
    refine wpAnyH_ready (rs := [9]) (by kernel_rfl) (by simp) ?_
    refine AllReadyH.cons rfl (fun K hK => ?_) AllReadyH.nil
    go_simp
    refine (names_any j m2 kv2 0 0 _ rfl (by omega) (HKM2.out.below HB.out)).mono ?_
    intro e w4 ht
    cases hr2 : Px.names m2 0 with
    | error p =>
      obtain ⟨rfl, hb⟩ := toldN_bad ht hr2
      have ho : out = .error p := by rw [← HOUT.out, Px.data, HP.out]; dsimp only; rw [HH1.out, HR1.out]; dsimp only; rw [HH2.out, hr2]
      subst ho
      exact ⟨rfl, HB.out.trans (hb.mono HB.out.size), rfl⟩
    | ok x2 =>
      obtain ⟨av2, rfl, hnew, hb⟩ := toldN_ok ht hr2
      obtain ⟨pn, cn, rfl⟩ := hnew.now.len
      have Hn2 := Lib.hid hnew; have HR2 := Lib.hid hr2
      have hlo2 := HB.out.size; have hlt2 := ent_lt ER.out
      have Hst2 := Lib.hid (Stay.refl w3.heap.size w4)
      replace Hst1 := Lib.hid (Hst1.out.below hb)
      replace ER := Lib.hid (ent_below ER.out hb)
      replace HB := Lib.hid (HB.out.trans (hb.mono HB.out.size))
      refine hK.out _ _ (⟨ent_below hHeld.1 hb, (hHeld.2.1).below hb, (hHeld.2.2).below hb⟩) (fun hHeld => ?_)
      clear hK K
      clear hb hr2 ht hnew
      refine wpAnyH_ready (rs := [12]) (by kernel_rfl) (by simp) ?_
      refine AllReadyH.cons rfl (fun K hK => ?_) AllReadyH.nil
      go_simp
      refine (eachCon_any 91 (fun _ _ => by kernel_rfl) (Px.con f) (ConAt f) (conAt_shape f) (j + 1) _ (n.list.drop 3) _ (kids_drop' (HK.out.below HB.out) 3 (o + 18) (by omega) hc1 (by omega) rfl) (by rw [List.length_drop]; omega) (fun m _ j' kv' w1 hj _ hk' => con_any f j' m kv' w1 hk' (by omega))).mono ?_
      intro e w5 ht
      cases hr3 : Px.each (Px.con f) (n.list.drop 3) with
      | error p =>
        obtain ⟨rfl, hb⟩ := toldN_bad ht hr3
        have ho : out = .error p := by rw [← HOUT.out, Px.data, HP.out]; dsimp only; rw [HH1.out, HR1.out]; dsimp only; rw [HH2.out, HR2.out]; dsimp only; rw [HLE.out, hr3]
        subst ho
        exact ⟨rfl, HB.out.trans (hb.mono HB.out.size), rfl⟩
      | ok x3 =>
        obtain ⟨av3, rfl, hnew, hb⟩ := toldN_ok ht hr3
        obtain ⟨pc, cc, rfl⟩ := hnew.now.len
        have Hn3 := Lib.hid hnew; have HR3 := Lib.hid hr3
        have hlo3 := HB.out.size; have hlt3 := ent_lt ER.out
        have Hst3 := Lib.hid (Stay.refl w4.heap.size w5)
        replace Hst1 := Lib.hid (Hst1.out.below hb)
        replace Hst2 := Lib.hid (Hst2.out.below hb)
        replace ER := Lib.hid (ent_below ER.out hb)
        replace HB := Lib.hid (HB.out.trans (hb.mono HB.out.size))
        refine hK.out _ _ (⟨ent_below hHeld.1 hb, (hHeld.2.1).below hb, (hHeld.2.2).below hb⟩) (fun hHeld => ?_)
        clear hK K
        clear hb hr3 ht hnew
        refine wpAnyH_ready (rs := [13]) (by kernel_rfl) (by simp) ?_
        refine AllReadyH.cons rfl (fun K hK => ?_) AllReadyH.nil
        go_simp
        refine hK.out _ _ (hHeld) (fun hHeld => ?_)
        clear hK K
        have ho : out = .ok ⟨n.pos, x1, x2, x3⟩ := by rw [← HOUT.out, Px.data, HP.out]; dsimp only; rw [HH1.out, HR1.out]; dsimp only; rw [HH2.out, HR2.out]; dsimp only; rw [HLE.out, HR3.out]
        subst ho
        have hws := ent_lt ER.out
        have rf := ent_free ER.out
        have r0 := ent_cell ER.out 0 _ rfl
        have r1 := ent_cell ER.out 1 _ rfl
        have r2 := ent_cell ER.out 2 _ rfl
        have r3 := ent_cell ER.out 3 _ rfl
        refine wpAnyH_ready (rs := [14]) (by kernel_rfl) (by simp) ?_
        refine AllReadyH.cons rfl (fun K hK => ?_) AllReadyH.nil
        go_simp
        refine hK.out _ _ (⟨ent_other (ent_other (ent_other (ent_other (hHeld.1) (w.heap.size + 1) 0 _ (by omega)) (w.heap.size + 1) 1 _ (by omega)) (w.heap.size + 1) 2 _ (by omega)) (w.heap.size + 1) 3 _ (by omega), (NodeAt.other (NodeAt.other (NodeAt.other (NodeAt.other (hHeld.2.1) (w.heap.size + 1) 0 _ hgne) (w.heap.size + 1) 1 _ hgne) (w.heap.size + 1) 2 _ hgne) (w.heap.size + 1) 3 _ hgne), (NodeAt.other (NodeAt.other (NodeAt.other (NodeAt.other (hHeld.2.2) (w.heap.size + 1) 0 _ hgne) (w.heap.size + 1) 1 _ hgne) (w.heap.size + 1) 2 _ hgne) (w.heap.size + 1) 3 _ hgne)⟩) (fun hHeld => ?_)
        clear hK K
        refine wpAnyH_done (by kernel_rfl) ?_ _
        go_wp2_with fail
        all_goals
          refine bodyPost_ret (v := .agg #[.int .i64 n.pos, .string ⟨x1.toArray⟩, .slice pn x2.length cn, .slice pc x3.length cc]) (by simp [results, Tryz.results49, go_sem, Px.Node.text, r0, r1, r2, r3]) rfl ?_
          refine ⟨?_, _, rfl, fun u hu => ?_⟩
          · repeat (first | with_reducible exact HB.out | with_reducible refine Below.drew ?_ | with_reducible refine Below.setCell ?_ (by dsimp only; omega) _)
          refine ⟨_, _, rfl, ?_, ?_⟩
          · refine New.stay (w := w) Hn2.out hlo2 ?_ u hu
            repeat (first | with_reducible exact Hst2.out | with_reducible refine Stay.set ?_ _ _ _ (by omega))
          · refine New.stay (w := w) Hn3.out hlo3 ?_ u hu
            repeat (first | with_reducible exact Hst3.out | with_reducible refine Stay.set ?_ _ _ _ (by omega))

theorem data_any (f k : Nat) (n : Px.Node) (lv : Value) (w : World) (hk : KidsAt w k lv n.list) (hkf : k ≤ f) : Calls Tryz.prog 49 #[nodeV n lv] w (ToldN w (DataAt f) (Px.data f n)) := by
  cases hnd : Px.nodes n 4 103 with
  | error p =>
    have : Px.data f n = .error p := by rw [Px.data, hnd]
    rw [this]
    exact (data_bad k n lv w hk p hnd).mono fun e w' ⟨h1, h2⟩ => ⟨h2, h1⟩
  | ok l =>
    obtain ⟨hle, h2, _, _⟩ := nodes_is hnd
    exact data_ok k n lv w hk l hnd (n.list[1]'(by rw [← hle]; omega)) (List.getElem?_eq_getElem _) (n.list[2]'(by rw [← hle]; omega)) (List.getElem?_eq_getElem _) f hkf _ rfl
end Go.Proofs.YtnhndamfbeiljaaGreatDoor
