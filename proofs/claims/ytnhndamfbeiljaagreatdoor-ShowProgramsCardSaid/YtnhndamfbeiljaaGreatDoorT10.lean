/-
  Several texts in one: PDef, PLetA.
-/
import Derived.Test.YtnhndamfbeiljaaGreatDoorT00
import Derived.Test.YtnhndamfbeiljaaGreatDoorT09
set_option linter.unusedVariables false
set_option linter.unusedSimpArgs false
set_option maxHeartbeats 4000000
set_option maxRecDepth 100000
namespace Go.Proofs.YtnhndamfbeiljaaGreatDoor
open Go Go.RowKit
open Go.Lib (hid)
open List renaming getElem_toArray → jR, getElem_cons_succ → jR0, getElem_cons_zero → jR1, setIfInBounds_toArray → jR2, set_cons_zero → jR3, set_cons_succ → jR4
def jGD (f : Nat) (u : World) (v : Value) (x : Px.Def) : Prop := ∃ nv b0 b1 b2 b3 b4 b5 b6 : Value, v = .agg #[.int .i64 x.pos, .string ⟨x.name.toArray⟩, nv, b0, b1, b2, b3, b4, b5, b6] /\ jAI 1 (jEL u) u nv x.params /\ jB f u (.agg #[b0, b1, b2, b3, b4, b5, b6]) x.body
def jD5 (f : Nat) (u : World) (v : Value) (x : Px.Data) : Prop := ∃ nv cv : Value, v = .agg #[.int .i64 x.pos, .string ⟨x.name.toArray⟩, nv, cv] /\ jAI 1 (jEL u) u nv x.params /\ jAI 3 (jG4 f u) u cv x.cons
theorem def_bad (k : Nat) (n : Px.Node) (lv : Value) (w : World) (hk : jAC w k lv n.list) (p : Nat) (hp : Px.nodes n 4 4 = .error p) :
 Calls Tryz.prog 50 #[jA7 n lv] w (fun e w' => e = jAW p /\ Below w.heap.size w w') := by
 have HK := hid hk; clear hk; go_enter Tryz.func50, Tryz.ntmps50; unfold jA7; go_wp2_with fail; have EN := hid (jA2 (jA3 w #[.int .i64 n.tok.kind, .int .i64 n.tok.pos, .string ⟨n.tok.text.toArray⟩, .int .i64 n.tok.int, lv, .int .i64 n.takes] 105) (.cells #[.int .i64 0, .string ⟨#[]⟩, .slice none 0 0, .int .i64 0, .int .i64 0, .string ⟨#[]⟩, .int .i64 0, .slice none 0 0, .slice none 0 0, .slice none 0 0] 49)); have ER0 := jA3 (w.alloc (.cells #[.int .i64 n.tok.kind, .int .i64 n.tok.pos, .string ⟨n.tok.text.toArray⟩, .int .i64 n.tok.int, lv, .int .i64 n.takes] 105)) #[.int .i64 0, .string ⟨#[]⟩, .slice none 0 0, .int .i64 0, .int .i64 0, .string ⟨#[]⟩, .int .i64 0, .slice none 0 0, .slice none 0 0, .slice none 0 0] 49; rw [World.size_alloc] at ER0; have ER := hid ER0; have HB := hid (((Below.refl w.heap.size w).alloc (Nat.le_refl _) (.cells #[.int .i64 n.tok.kind, .int .i64 n.tok.pos, .string ⟨n.tok.text.toArray⟩, .int .i64 n.tok.int, lv, .int .i64 n.takes] 105)).alloc (by simp) (.cells #[.int .i64 0, .string ⟨#[]⟩, .slice none 0 0, .int .i64 0, .int .i64 0, .string ⟨#[]⟩, .int .i64 0, .slice none 0 0, .slice none 0 0, .slice none 0 0] 49)); clear ER0; refine (jBU k n lv 4 4 4 4 _ rfl rfl (HK.out.below HB.out) (by omega) (by omega) p hp).mono ?_; rintro e w1 ⟨rfl, hb⟩; replace HB := bT HB hb; clear hb; exact ⟨rfl, rfl, HB.out⟩
theorem def_ok (k : Nat) (n : Px.Node) (lv : Value) (w : World) (hk : jAC w k lv n.list) (l : List Px.Node) (hp : Px.nodes n 4 4 = .ok l) (m1 : Px.Node) (hm1 : n.list[1]? = some m1) (m2 : Px.Node) (hm2 : n.list[2]? = some m2) (m3 : Px.Node) (hm3 : n.list[3]? = some m3) (f : Nat) (hex : jE0 f k) (out : Px.R Px.Def) (hout : Px.defn f n = out) :
 Calls Tryz.prog 50 #[jA7 n lv] w (jB3 w (jGD f) out) := by
 obtain ⟨hle, h2, h9, _⟩ := jA9 hp; have hle0 := hle; rw [hle] at h2 h9; obtain ⟨j, g, o, c, rfl, rfl, h3, h4, h5⟩ := hk.some (by intro e; rw [e] at h2; simp at h2); obtain ⟨kv1, hat1, hkm1⟩ := h5 1 m1 hm1; simp only [Nat.reduceMul] at hat1; have HAT1 := hid hat1; have HKM1 := hid hkm1; have HM1 := hid hm1
 clear hat1 hkm1 hm1; obtain ⟨kv2, hat2, hkm2⟩ := h5 2 m2 hm2; simp only [Nat.reduceMul] at hat2; have HAT2 := hid hat2; have HKM2 := hid hkm2; have HM2 := hid hm2
 clear hat2 hkm2 hm2; obtain ⟨kv3, hat3, hkm3⟩ := h5 3 m3 hm3; simp only [Nat.reduceMul] at hat3; have HAT3 := hid hat3; have HKM3 := hid hkm3; have HM3 := hid hm3
 clear hat3 hkm3 hm3; have hne : ¬ n.list = [] := by intro e; rw [e] at h2; simp at h2
 have hbi1 : ¬ ((n.list.length : Int) < 1) := by omega
 have hbi2 : ¬ ((n.list.length : Int) < 2) := by omega
 have hbi3 : ¬ ((n.list.length : Int) < 3) := by omega
 have hbi4 : ¬ ((n.list.length : Int) < 4) := by omega
 have hbj0 : (0 : Int) < (n.list.length : Int) := by omega
 have hbj1 : (1 : Int) < (n.list.length : Int) := by omega
 have hbj2 : (2 : Int) < (n.list.length : Int) := by omega
 have hbj3 : (3 : Int) < (n.list.length : Int) := by omega
 have HK := hid hk; have HP := hid hp
 clear h5 hk hp hle; have HOUT := hid hout; clear hout
 have hgw : g < w.heap.size := World.block_lt_of_cell? w _ HAT1.out.c0; have hgne : g ≠ w.heap.size + 1 := by omega
 have HLE := hid hle0; have HH1 := hid (show l.getD 1 n = m1 by rw [hle0, List.getD_eq_getElem?_getD, HM1.out]; rfl); have HH2 := hid (show l.getD 2 n = m2 by rw [hle0, List.getD_eq_getElem?_getD, HM2.out]; rfl); have HH3 := hid (show l.getD 3 n = m3 by rw [hle0, List.getD_eq_getElem?_getD, HM3.out]; rfl); clear hle0; have HEX := hid hex; clear hex
 go_enter Tryz.func50, Tryz.ntmps50; unfold jA7; go_wp2_with fail; have EN := hid (jA2 (jA3 w #[.int .i64 n.tok.kind, .int .i64 n.tok.pos, .string ⟨n.tok.text.toArray⟩, .int .i64 n.tok.int, (.slice (some ⟨g, o, none⟩) n.list.length c), .int .i64 n.takes] 105) (.cells #[.int .i64 0, .string ⟨#[]⟩, .slice none 0 0, .int .i64 0, .int .i64 0, .string ⟨#[]⟩, .int .i64 0, .slice none 0 0, .slice none 0 0, .slice none 0 0] 49)); have ER0 := jA3 (w.alloc (.cells #[.int .i64 n.tok.kind, .int .i64 n.tok.pos, .string ⟨n.tok.text.toArray⟩, .int .i64 n.tok.int, (.slice (some ⟨g, o, none⟩) n.list.length c), .int .i64 n.takes] 105)) #[.int .i64 0, .string ⟨#[]⟩, .slice none 0 0, .int .i64 0, .int .i64 0, .string ⟨#[]⟩, .int .i64 0, .slice none 0 0, .slice none 0 0, .slice none 0 0] 49; rw [World.size_alloc] at ER0; have ER := hid ER0; have HB := hid (((Below.refl w.heap.size w).alloc (Nat.le_refl _) (.cells #[.int .i64 n.tok.kind, .int .i64 n.tok.pos, .string ⟨n.tok.text.toArray⟩, .int .i64 n.tok.int, (.slice (some ⟨g, o, none⟩) n.list.length c), .int .i64 n.takes] 105)).alloc (by simp) (.cells #[.int .i64 0, .string ⟨#[]⟩, .slice none 0 0, .int .i64 0, .int .i64 0, .string ⟨#[]⟩, .int .i64 0, .slice none 0 0, .slice none 0 0, .slice none 0 0] 49)); clear ER0; refine (jBA (j + 1) n (.slice (some ⟨g, o, none⟩) n.list.length c) 4 4 4 4 _ rfl rfl (HK.out.below HB.out) (by omega) (by omega) l HP.out).mono ?_; rintro e w1 ⟨rfl, hb⟩; replace EN := hid (jA0 EN.out hb); replace ER := hid (jA0 ER.out hb); replace HB := bT HB hb; clear hb; go_wp2_with fail; refine wp_region_held_drew (S := (fun w' => w'.heap[w.heap.size]? = some (.cells #[.int .i64 n.tok.kind, .int .i64 n.tok.pos, .string ⟨n.tok.text.toArray⟩, .int .i64 n.tok.int, (.slice (some ⟨g, o, none⟩) n.list.length c), .int .i64 n.takes] 105 (0, 0)) /\ NodeAt w' g (o + 6) m1 kv1 /\ NodeAt w' g (o + 12) m2 kv2 /\ NodeAt w' g (o + 18) m3 kv3)) (by kernel_rfl) (⟨EN.out, HAT1.out.below (HB.out.drew), HAT2.out.below (HB.out.drew), HAT3.out.below (HB.out.drew)⟩) (fun hHeld => ?_); refine wT 0 (.agg #[.int .i64 n.tok.kind, .int .i64 n.tok.pos, .string ⟨n.tok.text.toArray⟩, .int .i64 n.tok.int, (.slice (some ⟨g, o, none⟩) n.list.length c), .int .i64 n.takes]) rfl (Or.inl ⟨by rfl, fun w' hSw => by have h1 := hSw.1; have q0 := jA h1 0 _ rfl; have q1 := jA h1 1 _ rfl; have q2 := jA h1 2 _ rfl; have q3 := jA h1 3 _ rfl; have q4 := jA h1 4 _ rfl; have q5 := jA h1 5 _ rfl; go_simp⟩) hHeld ?_; refine wT 2 ((.slice (some ⟨g, o, none⟩) n.list.length c)) rfl (Or.inl ⟨by rfl, fun w' hSw => by go_simp⟩) hHeld ?_; refine wT 3 (.pointer (some ⟨g, o + 6, none⟩)) rfl (Or.inl ⟨by rfl, fun w' hSw => by go_simp⟩) hHeld ?_; refine wT 4 (.agg #[.int .i64 m1.tok.kind, .int .i64 m1.tok.pos, .string ⟨m1.tok.text.toArray⟩, .int .i64 m1.tok.int, kv1, .int .i64 m1.takes]) rfl (Or.inl ⟨by rfl, fun w' hSw => by obtain ⟨m0, m1, m2, m3, m4, m5⟩ := hSw.2.1; go_simp⟩) hHeld ?_; refine wT 6 ((.slice (some ⟨g, o, none⟩) n.list.length c)) rfl (Or.inl ⟨by rfl, fun w' hSw => by go_simp⟩) hHeld ?_; refine wT 7 (.pointer (some ⟨g, o + 12, none⟩)) rfl (Or.inl ⟨by rfl, fun w' hSw => by go_simp⟩) hHeld ?_; refine wT 8 (.agg #[.int .i64 m2.tok.kind, .int .i64 m2.tok.pos, .string ⟨m2.tok.text.toArray⟩, .int .i64 m2.tok.int, kv2, .int .i64 m2.takes]) rfl (Or.inl ⟨by rfl, fun w' hSw => by obtain ⟨m0, m1, m2, m3, m4, m5⟩ := hSw.2.2.1; go_simp⟩) hHeld ?_; refine wT 10 ((.slice (some ⟨g, o, none⟩) n.list.length c)) rfl (Or.inl ⟨by rfl, fun w' hSw => by go_simp⟩) hHeld ?_; refine wT 11 (.pointer (some ⟨g, o + 18, none⟩)) rfl (Or.inl ⟨by rfl, fun w' hSw => by go_simp⟩) hHeld ?_; refine wT 12 (.agg #[.int .i64 m3.tok.kind, .int .i64 m3.tok.pos, .string ⟨m3.tok.text.toArray⟩, .int .i64 m3.tok.int, kv3, .int .i64 m3.takes]) rfl (Or.inl ⟨by rfl, fun w' hSw => by obtain ⟨m0, m1, m2, m3, m4, m5⟩ := hSw.2.2.2; go_simp⟩) hHeld ?_; simp only [Act.put, jR2, jR3, jR4]; refine wR 1 rfl (fun K hK => ?_); go_simp; refine (jAL n (.slice (some ⟨g, o, none⟩) n.list.length c) _).mono ?_; rintro e w2 ⟨rfl, hb⟩; have hbd := hb; replace hb := jBF hb
 replace ER := hid (jA0 ER.out hb); replace HB := bT HB hb; refine hK.out _ _ (⟨jA0 hHeld.1 hbd, (hHeld.2.1).below hbd, (hHeld.2.2.1).below hbd, (hHeld.2.2.2).below hbd⟩) (fun hHeld => ?_); clear hK K; clear hb hbd; refine wR 5 rfl (fun K hK => ?_); go_simp; refine (jKE m1 kv1 _).mono ?_; intro e w3 ht; cases hr1 : Px.name m1 with
 | error p =>
   obtain ⟨rfl, hb⟩ := jAQ ht hr1; have ho : out = .error p := by rw [<- HOUT.out, Px.defn, HP.out]; dsimp only; rw [HH1.out, hr1]
   subst ho; exact ⟨rfl, HB.out.trans (hb.mono HB.out.size), rfl⟩
 | ok x1 =>
   obtain ⟨av1, rfl, hnew, hb⟩ := jAP ht hr1; obtain rfl := hnew.now; have Hn1 := hid hnew; have HR1 := hid hr1
   have hlo1 := HB.out.size; have hlt1 := jA6 ER.out
   have Hst1 := hid (Stay.refl w2.heap.size w3); replace ER := hid (jA0 ER.out hb); replace HB := bT HB hb; refine hK.out _ _ (⟨jA0 hHeld.1 hb, (hHeld.2.1).below hb, (hHeld.2.2.1).below hb, (hHeld.2.2.2).below hb⟩) (fun hHeld => ?_); clear hK K; clear hb hr1 ht hnew; refine wR 9 rfl (fun K hK => ?_); go_simp; refine (jDS j m2 kv2 0 0 _ rfl (by omega) (HKM2.out.below HB.out)).mono ?_; intro e w4 ht; cases hr2 : Px.names m2 0 with
   | error p =>
     obtain ⟨rfl, hb⟩ := jAQ ht hr2; have ho : out = .error p := by rw [<- HOUT.out, Px.defn, HP.out]; dsimp only; rw [HH1.out, HR1.out]; dsimp only; rw [HH2.out, hr2]
     subst ho; exact ⟨rfl, HB.out.trans (hb.mono HB.out.size), rfl⟩
   | ok x2 =>
     obtain ⟨av2, rfl, hnew, hb⟩ := jAP ht hr2; obtain ⟨pn, cn, rfl⟩ := hnew.now.len; have Hn2 := hid hnew; have HR2 := hid hr2
     have hlo2 := HB.out.size; have hlt2 := jA6 ER.out
     have Hst2 := hid (Stay.refl w3.heap.size w4); replace Hst1 := hid (Hst1.out.below hb); replace ER := hid (jA0 ER.out hb); replace HB := bT HB hb; refine hK.out _ _ (⟨jA0 hHeld.1 hb, (hHeld.2.1).below hb, (hHeld.2.2.1).below hb, (hHeld.2.2.2).below hb⟩) (fun hHeld => ?_); clear hK K; clear hb hr2 ht hnew; refine wR 13 rfl (fun K hK => ?_); go_simp; refine (HEX.out m3 kv3 j _ (HKM3.out.below HB.out) (by omega)).mono ?_; intro e w5 ht; cases hr3 : Px.expr f m3 with
     | error p =>
       obtain ⟨rfl, hb⟩ := jAQ ht hr3; have ho : out = .error p := by rw [<- HOUT.out, Px.defn, HP.out]; dsimp only; rw [HH1.out, HR1.out]; dsimp only; rw [HH2.out, HR2.out]; dsimp only; rw [HH3.out, hr3]
       subst ho; exact ⟨rfl, HB.out.trans (hb.mono HB.out.size), rfl⟩
     | ok x3 =>
       obtain ⟨av3, rfl, hnew, hb⟩ := jAP ht hr3; obtain ⟨xk, xp, xi, xs, q1, n1, c1, q2, n2, c2, q3, n3, c3, rfl⟩ := jAU f _ _ _ hnew.now; have Hn3 := hid hnew; have HR3 := hid hr3
       have hlo3 := HB.out.size; have hlt3 := jA6 ER.out
       have Hst3 := hid (Stay.refl w4.heap.size w5); replace Hst1 := hid (Hst1.out.below hb); replace Hst2 := hid (Hst2.out.below hb); replace ER := hid (jA0 ER.out hb); replace HB := bT HB hb; refine hK.out _ _ (⟨jA0 hHeld.1 hb, (hHeld.2.1).below hb, (hHeld.2.2.1).below hb, (hHeld.2.2.2).below hb⟩) (fun hHeld => ?_); clear hK K; clear hb hr3 ht hnew; refine wR 14 rfl (fun K hK => ?_); go_simp; refine hK.out _ _ (hHeld) (fun hHeld => ?_); clear hK K; have ho : out = .ok ⟨n.pos, x1, x2, x3⟩ := by rw [<- HOUT.out, Px.defn, HP.out]; dsimp only; rw [HH1.out, HR1.out]; dsimp only; rw [HH2.out, HR2.out]; dsimp only; rw [HH3.out, HR3.out]
       subst ho; have hws := jA6 ER.out; have rf := jA1 ER.out; have r0 := jA ER.out 0 _ rfl; have r1 := jA ER.out 1 _ rfl; have r2 := jA ER.out 2 _ rfl; have r3 := jA ER.out 3 _ rfl; have r4 := jA ER.out 4 _ rfl; have r5 := jA ER.out 5 _ rfl; have r6 := jA ER.out 6 _ rfl; have r7 := jA ER.out 7 _ rfl; have r8 := jA ER.out 8 _ rfl; have r9 := jA ER.out 9 _ rfl; refine wR 15 rfl (fun K hK => ?_); go_simp; refine hK.out _ _ (⟨jA4 (jA4 (jA4 (jA4 (jA4 (jA4 (jA4 (jA4 (jA4 (jA4 (hHeld.1) (w.heap.size + 1) 0 _ (by omega)) (w.heap.size + 1) 1 _ (by omega)) (w.heap.size + 1) 2 _ (by omega)) (w.heap.size + 1) 3 _ (by omega)) (w.heap.size + 1) 4 _ (by omega)) (w.heap.size + 1) 5 _ (by omega)) (w.heap.size + 1) 6 _ (by omega)) (w.heap.size + 1) 7 _ (by omega)) (w.heap.size + 1) 8 _ (by omega)) (w.heap.size + 1) 9 _ (by omega), (NodeAt.other (NodeAt.other (NodeAt.other (NodeAt.other (NodeAt.other (NodeAt.other (NodeAt.other (NodeAt.other (NodeAt.other (NodeAt.other (hHeld.2.1) (w.heap.size + 1) 0 _ hgne) (w.heap.size + 1) 1 _ hgne) (w.heap.size + 1) 2 _ hgne) (w.heap.size + 1) 3 _ hgne) (w.heap.size + 1) 4 _ hgne) (w.heap.size + 1) 5 _ hgne) (w.heap.size + 1) 6 _ hgne) (w.heap.size + 1) 7 _ hgne) (w.heap.size + 1) 8 _ hgne) (w.heap.size + 1) 9 _ hgne), (NodeAt.other (NodeAt.other (NodeAt.other (NodeAt.other (NodeAt.other (NodeAt.other (NodeAt.other (NodeAt.other (NodeAt.other (NodeAt.other (hHeld.2.2.1) (w.heap.size + 1) 0 _ hgne) (w.heap.size + 1) 1 _ hgne) (w.heap.size + 1) 2 _ hgne) (w.heap.size + 1) 3 _ hgne) (w.heap.size + 1) 4 _ hgne) (w.heap.size + 1) 5 _ hgne) (w.heap.size + 1) 6 _ hgne) (w.heap.size + 1) 7 _ hgne) (w.heap.size + 1) 8 _ hgne) (w.heap.size + 1) 9 _ hgne), (NodeAt.other (NodeAt.other (NodeAt.other (NodeAt.other (NodeAt.other (NodeAt.other (NodeAt.other (NodeAt.other (NodeAt.other (NodeAt.other (hHeld.2.2.2) (w.heap.size + 1) 0 _ hgne) (w.heap.size + 1) 1 _ hgne) (w.heap.size + 1) 2 _ hgne) (w.heap.size + 1) 3 _ hgne) (w.heap.size + 1) 4 _ hgne) (w.heap.size + 1) 5 _ hgne) (w.heap.size + 1) 6 _ hgne) (w.heap.size + 1) 7 _ hgne) (w.heap.size + 1) 8 _ hgne) (w.heap.size + 1) 9 _ hgne)⟩) (fun hHeld => ?_); clear hK K; refine wpAnyH_done (by kernel_rfl) ?_ _; go_wp2_with fail
       all_goals
        refine bodyPost_ret (v := .agg #[.int .i64 n.pos, .string ⟨x1.toArray⟩, .slice pn x2.length cn, .int .i64 xk, .int .i64 xp, .string xs, .int .i64 xi, .slice q1 n1 c1, .slice q2 n2 c2, .slice q3 n3 c3]) (by simp [results, Tryz.results50, go_sem, Px.Node.text, r0, r1, r2, r3, r4, r5, r6, r7, r8, r9]) rfl ?_; refine ⟨?_, _, rfl, fun u hu => ?_⟩
        . repeat (first | with_reducible exact HB.out | with_reducible refine Below.drew ?_ | with_reducible refine Below.setCell ?_ (by dsimp only; omega) _)
        refine ⟨_, _, _, _, _, _, _, _, rfl, ?_, ?_⟩
        . refine New.stay (w := w) Hn2.out hlo2 ?_ u hu
          repeat (first | with_reducible exact Hst2.out | with_reducible refine Stay.set ?_ _ _ _ (by omega))
        . refine New.stay (w := w) Hn3.out hlo3 ?_ u hu
          repeat (first | with_reducible exact Hst3.out | with_reducible refine Stay.set ?_ _ _ _ (by omega))
theorem jI3 (f k : Nat) (n : Px.Node) (lv : Value) (w : World) (hk : jAC w k lv n.list) (hex : jE0 f k) : Calls Tryz.prog 50 #[jA7 n lv] w (jB3 w (jGD f) (Px.defn f n)) := by
 cases hnd : Px.nodes n 4 4 with
 | error p =>
   have : Px.defn f n = .error p := by rw [Px.defn, hnd]
   rw [this]; exact (def_bad k n lv w hk p hnd).mono fun e w' ⟨h1, h2⟩ => ⟨h2, h1⟩
 | ok l =>
   obtain ⟨hle, h2, _, _⟩ := jA9 hnd; exact def_ok k n lv w hk l hnd (n.list[1]'(by rw [<- hle]; omega)) (List.getElem?_eq_getElem _) (n.list[2]'(by rw [<- hle]; omega)) (List.getElem?_eq_getElem _) (n.list[3]'(by rw [<- hle]; omega)) (List.getElem?_eq_getElem _) f hex _ rfl
theorem data_bad (k : Nat) (n : Px.Node) (lv : Value) (w : World) (hk : jAC w k lv n.list) (p : Nat) (hp : Px.nodes n 4 103 = .error p) :
 Calls Tryz.prog 49 #[jA7 n lv] w (fun e w' => e = jAW p /\ Below w.heap.size w w') := by
 have HK := hid hk; clear hk; go_enter Tryz.func49, Tryz.ntmps49; unfold jA7; go_wp2_with fail; have EN := hid (jA2 (jA3 w #[.int .i64 n.tok.kind, .int .i64 n.tok.pos, .string ⟨n.tok.text.toArray⟩, .int .i64 n.tok.int, lv, .int .i64 n.takes] 105) (.cells #[.int .i64 0, .string ⟨#[]⟩, .slice none 0 0, .slice none 0 0] 36)); have ER0 := jA3 (w.alloc (.cells #[.int .i64 n.tok.kind, .int .i64 n.tok.pos, .string ⟨n.tok.text.toArray⟩, .int .i64 n.tok.int, lv, .int .i64 n.takes] 105)) #[.int .i64 0, .string ⟨#[]⟩, .slice none 0 0, .slice none 0 0] 36; rw [World.size_alloc] at ER0; have ER := hid ER0; have HB := hid (((Below.refl w.heap.size w).alloc (Nat.le_refl _) (.cells #[.int .i64 n.tok.kind, .int .i64 n.tok.pos, .string ⟨n.tok.text.toArray⟩, .int .i64 n.tok.int, lv, .int .i64 n.takes] 105)).alloc (by simp) (.cells #[.int .i64 0, .string ⟨#[]⟩, .slice none 0 0, .slice none 0 0] 36)); clear ER0; refine (jBU k n lv 4 103 4 103 _ rfl rfl (HK.out.below HB.out) (by omega) (by omega) p hp).mono ?_; rintro e w1 ⟨rfl, hb⟩; replace HB := bT HB hb; clear hb; exact ⟨rfl, rfl, HB.out⟩
theorem data_ok (k : Nat) (n : Px.Node) (lv : Value) (w : World) (hk : jAC w k lv n.list) (l : List Px.Node) (hp : Px.nodes n 4 103 = .ok l) (m1 : Px.Node) (hm1 : n.list[1]? = some m1) (m2 : Px.Node) (hm2 : n.list[2]? = some m2) (f : Nat) (hkf : k <= f) (out : Px.R Px.Data) (hout : Px.data f n = out) :
 Calls Tryz.prog 49 #[jA7 n lv] w (jB3 w (jD5 f) out) := by
 obtain ⟨hle, h2, h9, _⟩ := jA9 hp; have hle0 := hle; rw [hle] at h2 h9; obtain ⟨j, g, o, c, rfl, rfl, h3, h4, h5⟩ := hk.some (by intro e; rw [e] at h2; simp at h2); obtain ⟨kv1, hat1, hkm1⟩ := h5 1 m1 hm1; simp only [Nat.reduceMul] at hat1; have HAT1 := hid hat1; have HKM1 := hid hkm1; have HM1 := hid hm1
 clear hat1 hkm1 hm1; obtain ⟨kv2, hat2, hkm2⟩ := h5 2 m2 hm2; simp only [Nat.reduceMul] at hat2; have HAT2 := hid hat2; have HKM2 := hid hkm2; have HM2 := hid hm2
 clear hat2 hkm2 hm2; have hc1 : ¬ c = 3 := by omega
 have hne : ¬ n.list = [] := by intro e; rw [e] at h2; simp at h2
 have hbi1 : ¬ ((n.list.length : Int) < 1) := by omega
 have hbi2 : ¬ ((n.list.length : Int) < 2) := by omega
 have hbi3 : ¬ ((n.list.length : Int) < 3) := by omega
 have hbi4 : ¬ ((n.list.length : Int) < 4) := by omega
 have hbj0 : (0 : Int) < (n.list.length : Int) := by omega
 have hbj1 : (1 : Int) < (n.list.length : Int) := by omega
 have hbj2 : (2 : Int) < (n.list.length : Int) := by omega
 have hbj3 : (3 : Int) < (n.list.length : Int) := by omega
 have HK := hid hk; have HP := hid hp
 clear h5 hk hp hle; have HOUT := hid hout; clear hout
 have hgw : g < w.heap.size := World.block_lt_of_cell? w _ HAT1.out.c0; have hgne : g ≠ w.heap.size + 1 := by omega
 have HLE := hid hle0; have HH1 := hid (show l.getD 1 n = m1 by rw [hle0, List.getD_eq_getElem?_getD, HM1.out]; rfl); have HH2 := hid (show l.getD 2 n = m2 by rw [hle0, List.getD_eq_getElem?_getD, HM2.out]; rfl); clear hle0; go_enter Tryz.func49, Tryz.ntmps49; unfold jA7; go_wp2_with fail; have EN := hid (jA2 (jA3 w #[.int .i64 n.tok.kind, .int .i64 n.tok.pos, .string ⟨n.tok.text.toArray⟩, .int .i64 n.tok.int, (.slice (some ⟨g, o, none⟩) n.list.length c), .int .i64 n.takes] 105) (.cells #[.int .i64 0, .string ⟨#[]⟩, .slice none 0 0, .slice none 0 0] 36)); have ER0 := jA3 (w.alloc (.cells #[.int .i64 n.tok.kind, .int .i64 n.tok.pos, .string ⟨n.tok.text.toArray⟩, .int .i64 n.tok.int, (.slice (some ⟨g, o, none⟩) n.list.length c), .int .i64 n.takes] 105)) #[.int .i64 0, .string ⟨#[]⟩, .slice none 0 0, .slice none 0 0] 36; rw [World.size_alloc] at ER0; have ER := hid ER0; have HB := hid (((Below.refl w.heap.size w).alloc (Nat.le_refl _) (.cells #[.int .i64 n.tok.kind, .int .i64 n.tok.pos, .string ⟨n.tok.text.toArray⟩, .int .i64 n.tok.int, (.slice (some ⟨g, o, none⟩) n.list.length c), .int .i64 n.takes] 105)).alloc (by simp) (.cells #[.int .i64 0, .string ⟨#[]⟩, .slice none 0 0, .slice none 0 0] 36)); clear ER0; refine (jBA (j + 1) n (.slice (some ⟨g, o, none⟩) n.list.length c) 4 103 4 103 _ rfl rfl (HK.out.below HB.out) (by omega) (by omega) l HP.out).mono ?_; rintro e w1 ⟨rfl, hb⟩; replace EN := hid (jA0 EN.out hb); replace ER := hid (jA0 ER.out hb); replace HB := bT HB hb; clear hb; go_wp2_with fail; refine wp_region_held_drew (S := (fun w' => w'.heap[w.heap.size]? = some (.cells #[.int .i64 n.tok.kind, .int .i64 n.tok.pos, .string ⟨n.tok.text.toArray⟩, .int .i64 n.tok.int, (.slice (some ⟨g, o, none⟩) n.list.length c), .int .i64 n.takes] 105 (0, 0)) /\ NodeAt w' g (o + 6) m1 kv1 /\ NodeAt w' g (o + 12) m2 kv2)) (by kernel_rfl) (⟨EN.out, HAT1.out.below (HB.out.drew), HAT2.out.below (HB.out.drew)⟩) (fun hHeld => ?_); refine wT 0 (.agg #[.int .i64 n.tok.kind, .int .i64 n.tok.pos, .string ⟨n.tok.text.toArray⟩, .int .i64 n.tok.int, (.slice (some ⟨g, o, none⟩) n.list.length c), .int .i64 n.takes]) rfl (Or.inl ⟨by rfl, fun w' hSw => by have h1 := hSw.1; have q0 := jA h1 0 _ rfl; have q1 := jA h1 1 _ rfl; have q2 := jA h1 2 _ rfl; have q3 := jA h1 3 _ rfl; have q4 := jA h1 4 _ rfl; have q5 := jA h1 5 _ rfl; go_simp⟩) hHeld ?_; refine wT 2 ((.slice (some ⟨g, o, none⟩) n.list.length c)) rfl (Or.inl ⟨by rfl, fun w' hSw => by go_simp⟩) hHeld ?_; refine wT 3 (.pointer (some ⟨g, o + 6, none⟩)) rfl (Or.inl ⟨by rfl, fun w' hSw => by go_simp⟩) hHeld ?_; refine wT 4 (.agg #[.int .i64 m1.tok.kind, .int .i64 m1.tok.pos, .string ⟨m1.tok.text.toArray⟩, .int .i64 m1.tok.int, kv1, .int .i64 m1.takes]) rfl (Or.inl ⟨by rfl, fun w' hSw => by obtain ⟨m0, m1, m2, m3, m4, m5⟩ := hSw.2.1; go_simp⟩) hHeld ?_; refine wT 6 ((.slice (some ⟨g, o, none⟩) n.list.length c)) rfl (Or.inl ⟨by rfl, fun w' hSw => by go_simp⟩) hHeld ?_; refine wT 7 (.pointer (some ⟨g, o + 12, none⟩)) rfl (Or.inl ⟨by rfl, fun w' hSw => by go_simp⟩) hHeld ?_; refine wT 8 (.agg #[.int .i64 m2.tok.kind, .int .i64 m2.tok.pos, .string ⟨m2.tok.text.toArray⟩, .int .i64 m2.tok.int, kv2, .int .i64 m2.takes]) rfl (Or.inl ⟨by rfl, fun w' hSw => by obtain ⟨m0, m1, m2, m3, m4, m5⟩ := hSw.2.2; go_simp⟩) hHeld ?_; refine wT 10 ((.slice (some ⟨g, o, none⟩) n.list.length c)) rfl (Or.inl ⟨by rfl, fun w' hSw => by go_simp⟩) hHeld ?_; refine wT 11 (.slice (some ⟨g, o + 18, none⟩) (n.list.length - 3) (c - 3)) rfl (Or.inl ⟨by rfl, fun w' hSw => by go_simp⟩) hHeld ?_; simp only [Act.put, jR2, jR3, jR4]; refine wR 1 rfl (fun K hK => ?_); go_simp; refine (jAL n (.slice (some ⟨g, o, none⟩) n.list.length c) _).mono ?_; rintro e w2 ⟨rfl, hb⟩; have hbd := hb; replace hb := jBF hb
 replace ER := hid (jA0 ER.out hb); replace HB := bT HB hb; refine hK.out _ _ (⟨jA0 hHeld.1 hbd, (hHeld.2.1).below hbd, (hHeld.2.2).below hbd⟩) (fun hHeld => ?_); clear hK K; clear hb hbd; refine wR 5 rfl (fun K hK => ?_); go_simp; refine (jLO m1 kv1 _).mono ?_; intro e w3 ht; cases hr1 : Px.jAJ m1 with
 | error p =>
   obtain ⟨rfl, hb⟩ := jAQ ht hr1; have ho : out = .error p := by rw [<- HOUT.out, Px.data, HP.out]; dsimp only; rw [HH1.out, hr1]
   subst ho; exact ⟨rfl, HB.out.trans (hb.mono HB.out.size), rfl⟩
 | ok x1 =>
   obtain ⟨av1, rfl, hnew, hb⟩ := jAP ht hr1; obtain rfl := hnew.now; have Hn1 := hid hnew; have HR1 := hid hr1
   have hlo1 := HB.out.size; have hlt1 := jA6 ER.out
   have Hst1 := hid (Stay.refl w2.heap.size w3); replace ER := hid (jA0 ER.out hb); replace HB := bT HB hb; refine hK.out _ _ (⟨jA0 hHeld.1 hb, (hHeld.2.1).below hb, (hHeld.2.2).below hb⟩) (fun hHeld => ?_); clear hK K; clear hb hr1 ht hnew; refine wR 9 rfl (fun K hK => ?_); go_simp; refine (jDS j m2 kv2 0 0 _ rfl (by omega) (HKM2.out.below HB.out)).mono ?_; intro e w4 ht; cases hr2 : Px.names m2 0 with
   | error p =>
     obtain ⟨rfl, hb⟩ := jAQ ht hr2; have ho : out = .error p := by rw [<- HOUT.out, Px.data, HP.out]; dsimp only; rw [HH1.out, HR1.out]; dsimp only; rw [HH2.out, hr2]
     subst ho; exact ⟨rfl, HB.out.trans (hb.mono HB.out.size), rfl⟩
   | ok x2 =>
     obtain ⟨av2, rfl, hnew, hb⟩ := jAP ht hr2; obtain ⟨pn, cn, rfl⟩ := hnew.now.len; have Hn2 := hid hnew; have HR2 := hid hr2
     have hlo2 := HB.out.size; have hlt2 := jA6 ER.out
     have Hst2 := hid (Stay.refl w3.heap.size w4); replace Hst1 := hid (Hst1.out.below hb); replace ER := hid (jA0 ER.out hb); replace HB := bT HB hb; refine hK.out _ _ (⟨jA0 hHeld.1 hb, (hHeld.2.1).below hb, (hHeld.2.2).below hb⟩) (fun hHeld => ?_); clear hK K; clear hb hr2 ht hnew; refine wR 12 rfl (fun K hK => ?_); go_simp; refine (jN6 91 (fun _ _ => by kernel_rfl) (Px.con f) (jG4 f) (jNC f) (j + 1) _ (n.list.drop 3) _ (jCZ (HK.out.below HB.out) 3 (o + 18) (by omega) hc1 (by omega) rfl) (by rw [List.length_drop]; omega) (fun m _ j' kv' w1 hj _ hk' => con_any f j' m kv' w1 hk' (by omega))).mono ?_; intro e w5 ht; cases hr3 : Px.each (Px.con f) (n.list.drop 3) with
     | error p =>
       obtain ⟨rfl, hb⟩ := jAQ ht hr3; have ho : out = .error p := by rw [<- HOUT.out, Px.data, HP.out]; dsimp only; rw [HH1.out, HR1.out]; dsimp only; rw [HH2.out, HR2.out]; dsimp only; rw [HLE.out, hr3]
       subst ho; exact ⟨rfl, HB.out.trans (hb.mono HB.out.size), rfl⟩
     | ok x3 =>
       obtain ⟨av3, rfl, hnew, hb⟩ := jAP ht hr3; obtain ⟨pc, cc, rfl⟩ := hnew.now.len; have Hn3 := hid hnew; have HR3 := hid hr3
       have hlo3 := HB.out.size; have hlt3 := jA6 ER.out
       have Hst3 := hid (Stay.refl w4.heap.size w5); replace Hst1 := hid (Hst1.out.below hb); replace Hst2 := hid (Hst2.out.below hb); replace ER := hid (jA0 ER.out hb); replace HB := bT HB hb; refine hK.out _ _ (⟨jA0 hHeld.1 hb, (hHeld.2.1).below hb, (hHeld.2.2).below hb⟩) (fun hHeld => ?_); clear hK K; clear hb hr3 ht hnew; refine wR 13 rfl (fun K hK => ?_); go_simp; refine hK.out _ _ (hHeld) (fun hHeld => ?_); clear hK K; have ho : out = .ok ⟨n.pos, x1, x2, x3⟩ := by rw [<- HOUT.out, Px.data, HP.out]; dsimp only; rw [HH1.out, HR1.out]; dsimp only; rw [HH2.out, HR2.out]; dsimp only; rw [HLE.out, HR3.out]
       subst ho; have hws := jA6 ER.out; have rf := jA1 ER.out; have r0 := jA ER.out 0 _ rfl; have r1 := jA ER.out 1 _ rfl; have r2 := jA ER.out 2 _ rfl; have r3 := jA ER.out 3 _ rfl; refine wR 14 rfl (fun K hK => ?_); go_simp; refine hK.out _ _ (⟨jA4 (jA4 (jA4 (jA4 (hHeld.1) (w.heap.size + 1) 0 _ (by omega)) (w.heap.size + 1) 1 _ (by omega)) (w.heap.size + 1) 2 _ (by omega)) (w.heap.size + 1) 3 _ (by omega), (NodeAt.other (NodeAt.other (NodeAt.other (NodeAt.other (hHeld.2.1) (w.heap.size + 1) 0 _ hgne) (w.heap.size + 1) 1 _ hgne) (w.heap.size + 1) 2 _ hgne) (w.heap.size + 1) 3 _ hgne), (NodeAt.other (NodeAt.other (NodeAt.other (NodeAt.other (hHeld.2.2) (w.heap.size + 1) 0 _ hgne) (w.heap.size + 1) 1 _ hgne) (w.heap.size + 1) 2 _ hgne) (w.heap.size + 1) 3 _ hgne)⟩) (fun hHeld => ?_); clear hK K; refine wpAnyH_done (by kernel_rfl) ?_ _; go_wp2_with fail
       all_goals
        refine bodyPost_ret (v := .agg #[.int .i64 n.pos, .string ⟨x1.toArray⟩, .slice pn x2.length cn, .slice pc x3.length cc]) (by simp [results, Tryz.results49, go_sem, Px.Node.text, r0, r1, r2, r3]) rfl ?_; refine ⟨?_, _, rfl, fun u hu => ?_⟩
        . repeat (first | with_reducible exact HB.out | with_reducible refine Below.drew ?_ | with_reducible refine Below.setCell ?_ (by dsimp only; omega) _)
        refine ⟨_, _, rfl, ?_, ?_⟩
        . refine New.stay (w := w) Hn2.out hlo2 ?_ u hu
          repeat (first | with_reducible exact Hst2.out | with_reducible refine Stay.set ?_ _ _ _ (by omega))
        . refine New.stay (w := w) Hn3.out hlo3 ?_ u hu
          repeat (first | with_reducible exact Hst3.out | with_reducible refine Stay.set ?_ _ _ _ (by omega))
theorem jGW (f k : Nat) (n : Px.Node) (lv : Value) (w : World) (hk : jAC w k lv n.list) (hkf : k <= f) : Calls Tryz.prog 49 #[jA7 n lv] w (jB3 w (jD5 f) (Px.data f n)) := by
 cases hnd : Px.nodes n 4 103 with
 | error p =>
   have : Px.data f n = .error p := by rw [Px.data, hnd]
   rw [this]; exact (data_bad k n lv w hk p hnd).mono fun e w' ⟨h1, h2⟩ => ⟨h2, h1⟩
 | ok l =>
   obtain ⟨hle, h2, _, _⟩ := jA9 hnd; exact data_ok k n lv w hk l hnd (n.list[1]'(by rw [<- hle]; omega)) (List.getElem?_eq_getElem _) (n.list[2]'(by rw [<- hle]; omega)) (List.getElem?_eq_getElem _) f hkf _ rfl
def jEZ {α : Type} (rep : World -> Value -> α -> Prop) (base : Nat) (w : World) (S : Nat -> Prop) (v : Value) (x : α) : Prop :=
 ∃ lo hi, base <= lo /\ hi <= w.heap.size /\ (∀ g, S g -> g < lo \/ hi <= g) /\ ∀ u : World, (∀ b, lo <= b -> b < hi -> u.heap[b]? = w.heap[b]?) -> rep u v x
theorem jEZ.step {α : Type} {rep : World -> Value -> α -> Prop} {base : Nat} {w w' : World} {S S' : Nat -> Prop} {v : Value} {x : α} (h : jEZ rep base w S v x) (hs : w.heap.size <= w'.heap.size)
 (hk : ∀ b, b < w.heap.size -> base <= b -> ¬ S b -> w'.heap[b]? = w.heap[b]?) (ho : ∀ g, S' g -> S g \/ w.heap.size <= g) : jEZ rep base w' S' v x := by
 obtain ⟨lo, hi, h0, h1, h2, h3⟩ := h; refine ⟨lo, hi, h0, by omega, fun g hg => ?_, fun u hu => h3 u fun b hb1 hb2 => ?_⟩
 . rcases ho g hg with hg | hg
   . exact h2 g hg
   . omega
 . rw [hu b hb1 hb2]; exact hk b (by omega) (by omega) (fun e => by have := h2 b e; omega)
theorem jEZ.below {α : Type} {rep : World -> Value -> α -> Prop} {base : Nat} {w w' : World} {S : Nat -> Prop} {v : Value} {x : α} (h : jEZ rep base w S v x) (hb : Below w.heap.size w w') : jEZ rep base w' S v x :=
 h.step hb.size (fun b hb1 _ _ => hb.block b hb1) (fun _ h => .inl h)
theorem New.keptS {α : Type} {rep : World -> Value -> α -> Prop} {base : Nat} {w w' : World} {S : Nat -> Prop} {v : Value} {x : α} (h : New rep w w' v x) (hb : base <= w.heap.size) (ho : ∀ g, S g -> g < w.heap.size) : jEZ rep base w' S v x :=
 ⟨w.heap.size, w'.heap.size, hb, Nat.le_refl _, fun g hg => .inl (ho g hg), h⟩
theorem rowS {α : Type} {sz : Nat} {rep : World -> Value -> α -> Prop} {w u : World} {base E n : Nat} {S : Nat -> Prop} {v : Value} {vs : List Value} {xs : List α} (h : w.ownsRow base E sz v n (cellsOf vs)) (hn : n = xs.length)
 (hr : Reps (jEZ rep base w S) vs xs) (hs : ∀ v ∈ vs, v.cells.size = sz) (hu : ∀ b, base <= b -> b < w.heap.size -> u.heap[b]? = w.heap[b]?) : jAI sz (rep u) u v xs := by
 subst hn
 rcases h.2 with ⟨rfl, hn⟩ | ⟨g, cap, cur, rfl, hb, hg, hc1, hc2, hc3, hc4⟩
 . exact .inl ⟨List.eq_nil_of_length_eq_zero hn, none, 0, rfl⟩
 . refine .inr ⟨g, 0, cap, rfl, hc1, by unfold maxLen at hc2; omega, fun i x hx => ?_⟩; obtain ⟨y, hy, lo, hi, h0, h1, _, h3⟩ := hr.at hx; refine ⟨y, h3 u fun b hb1 hb2 => hu b (by omega) (by omega), hs y (List.mem_of_getElem? hy), fun j z hz => ?_⟩; have hcell := World.ownsRow.cells h (g := g) rfl (i * sz + j) z (jFN sz hs hy hz); have e : (⟨g, 0, none⟩ : Addr).add (i * sz + j) = ⟨g, 0 + i * sz + j, none⟩ := by unfold Addr.add; split <;> simp_all
   rw [e] at hcell; have hlt : g < w.heap.size := (Array.getElem?_eq_some_iff.1 hg).1; rw [World.cell?_of_block (w := w) (hu g hb hlt)]; exact hcell
theorem jAA {w w' : World} {base : Nat} {e : TypeId} {size : Nat} {v : Value} {n : Nat} {xs : List Value} (h : w.ownsRow base e size v n xs) (hk : ∀ b, v.ownBlock = some b -> w'.heap[b]? = w.heap[b]?) : w'.ownsRow base e size v n xs := by
 refine ⟨h.1, ?_⟩
 rcases h.2 with h | ⟨g, cap, cur, rfl, hb, hg, hc1, hc2, hc3, hc4⟩
 . exact .inl h
 . exact .inr ⟨g, cap, cur, rfl, hb, (hk g rfl).trans hg, hc1, hc2, hc3, hc4⟩
theorem jAY {w : World} {base base' n n' size size' : Nat} {e e' : TypeId} {v v' : Value} {xs xs' : List Value} (h : w.ownsRow base e size v n xs) (h' : w.ownsRow base' e' size' v' n' xs') (hT : e ≠ e') (b : Nat) (hb : v.ownBlock = some b) : v'.ownBlock ≠ some b := by
 intro hb'
 rcases h.2 with ⟨rfl, _⟩ | ⟨g, cap, cur, rfl, _, hg, _⟩
 . simp [Value.ownBlock] at hb
 . rcases h'.2 with ⟨rfl, _⟩ | ⟨g', cap', cur', rfl, _, hg', _⟩
   . simp [Value.ownBlock] at hb'
   . simp only [Value.ownBlock, Option.some.injEq] at hb hb'; subst hb; subst hb'
     rw [hg] at hg'; simp only [Option.some.injEq, Obj.cells.injEq] at hg'; exact hT hg'.2.1
theorem jAH {w : World} {ops : Array Oper} {o : Oper} {a : Act} {K : Act -> World -> Prop} {Q : Exit -> Act -> World -> Prop} {X : Prop} (hgd : o.guard = none) (s x : Operand) (t : TypeId)
 (ho : o.op = .call { callee := .builtin .append, args := #[s, x], argTypes := #[t, t] })
 (base : Nat) (e : TypeId) (i : TypeInfo) (z : Value) (size bytes : Nat) (ht : Tryz.prog.underlying t = some (.slice e)) (hi : Tryz.prog.info? e = some i) (hz : i.zero = some z)
 (hsize : i.size = size) (hby : i.bytes = bytes) (hzs : z.cells.size = size) (hsz : 0 < size)
 (v : Value) (n : Nat) (xs : List Value) (hs : a.eval s = v) (hown : w.ownsRow base e size v n xs)
 (ad : Addr) (m c : Nat) (news : List Value) (hx : a.eval x = .slice (some ad) m c) (hm : 0 < m) (hl : news.length = m * size) (hnews : ∀ j u, news[j]? = some u -> w.cell? (ad.add j) = some u) (h1 : ∀ u ∈ news, u.oneCell' = true)
 (h63 : n + m <= maxLen) (hbytes : (n + m) * bytes <= 140737488355328) (hbase : base <= w.heap.size)
 (h : ∀ v' w', w'.ownsRow base e size v' (n + m) (xs ++ news) -> w.grownBy w' v.ownBlock -> (v'.ownBlock = v.ownBlock \/ ∀ g, v'.ownBlock = some g -> w.heap.size <= g) -> K (a.put o.dst v') w') :
 if Region.wanted o (yielded ops a.tmps) = true then Oper.wp Tryz.prog o a w K Q else X := by
 have hw : Region.wanted o (yielded ops a.tmps) = true := by simp [Region.wanted, hgd]
 rw [if_pos hw]; obtain ⟨v', w', hr, h2, h3, h4⟩ := jDK w base t o.type e i z size bytes ht hi hz hsize hby hzs hsz v n xs hown ad m c hm news hl hnews h1 h63 hbytes hbase; unfold Oper.wp execOp; simp only [ho, resolve, invoke, builtin, Sem.run_bind, Sem.run_pure, Result.andThen_ok, List.map_toArray, List.map_cons, List.map_nil, hs, hx, hr]; exact h v' w' h2 h3 h4
theorem jB0 {w : World} {base e size n : Nat} {v : Value} {xs : List Value} (h : w.ownsRow base e size v n xs) : ∃ p cap, v = .slice p n cap := by
 rcases h.2 with ⟨rfl, rfl⟩ | ⟨g, cap, cur, rfl, _⟩
 . exact ⟨none, 0, rfl⟩
 . exact ⟨_, cap, rfl⟩
theorem NodeAt.of_block {w w' : World} {g o : Nat} {n : Px.Node} {lv : Value} (h : NodeAt w g o n lv) (e : w'.heap[g]? = w.heap[g]?) : NodeAt w' g o n lv := by
 have ec : ∀ i, w'.cell? ⟨g, i, none⟩ = w.cell? ⟨g, i, none⟩ := fun i => World.cell?_of_block (w := w) (a := ⟨g, i, none⟩) e
 exact ⟨by rw [ec]; exact h.c0, by rw [ec]; exact h.c1, by rw [ec]; exact h.c2, by rw [ec]; exact h.c3, by rw [ec]; exact h.c4, by rw [ec]; exact h.c5, h.small⟩
end Go.Proofs.YtnhndamfbeiljaaGreatDoor
