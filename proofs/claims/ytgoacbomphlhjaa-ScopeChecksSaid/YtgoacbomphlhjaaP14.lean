/-
  The document's answers, layer 2: let.
-/
import Derived.Test.YtgoacbomphlhjaaP00
import Derived.Test.YtgoacbomphlhjaaP13
import Derived.Test.YtgoacbomphlhjaaP11
set_option linter.unusedVariables false
set_option linter.unusedSimpArgs false
namespace Go.Proofs.Ytgoacbomphlhjaa
open Go.Lib (hid)
open List renaming getElem_toArray → jX, getElem_cons_succ → jY, getElem_cons_zero → jZ, setIfInBounds_toArray → JA, set_cons_zero → JB, set_cons_succ → JC
open Go Go.RowKit
set_option maxHeartbeats 16000000 in
set_option maxRecDepth 100000 in
theorem let_any (f k : Nat) (n : Px.Node) (v : Value) (w : World) (hn : NdAt (k + 1) w v n) (hg : Px.NodeGood n) (hl : Px.jS n = true) (ih : ∀ j m v w1, j ≤ k → NdAt j w1 v m → Px.NodeGood m → Calls Try.prog 28 #[v] w1 (RTold w1 (ExprAt f) ShExpr (Px.expr f m))) : Calls Try.prog 56 #[v] w (RTold w (ExprAt (f + 1)) ShExpr (Px.letExpr (Px.expr f) n)) := by
 have HN0 := hid hn
 have HIH := hid ih
 obtain ⟨lv, rfl, hr⟩ := hn
 obtain ⟨q, c, rfl⟩ := hr.len
 have HR := hid hr
 have HG := hid hg
 have hp0 : Px.letExpr (Px.expr f) n = (match Px.nodes n 3 3 with
  | .error p => .error p
  | .ok l =>
    match Px.nodes (l.getD 1 n) 1 8 with
    | .error p => .error p
    | .ok ps =>
      match Px.each (Px.pair (Px.expr f)) ps with
      | .error p => .error p
      | .ok bs =>
        match Px.expr f (l.getD 2 n) with
        | .error p => .error p
        | .ok x => .ok (.mk 4 n.pos [] 0 (bs.map (·.1)) (bs.map (·.2) ++ [x]) [])) := rfl
 have HP := hid hp0
 have HS2 := hid (fun w1 (hb : Below w.heap.size w w1) => size_any (k + 1) n _ 3 3 w1 (HN0.out.below hb) (by omega) (by omega))
 clear hr hg hp0 ih
 unfold nV at *
 rw [hl] at *
 clear hl
 go_enter Try.func56, Try.ntmps56
 obtain ⟨en, er, et, hb, hsz⟩ := ent3 w #[.int .i64 n.tok.kind, .int .i64 n.tok.pos, .string ⟨n.tok.text.toArray⟩, .int .i64 n.tok.int, .bool true, (.slice q n.list.length c)] #[.int .i64 0, .int .i64 0, .string ⟨#[]⟩, .int .i64 0, .slice none 0 0, .slice none 0 0, .slice none 0 0] #[.int .i64 4, .int .i64 n.tok.pos, .string ⟨#[]⟩, .int .i64 0, .slice none 0 0, .slice none 0 0, .slice none 0 0] 73 53 53
 have EN := hid en; have ER := hid er; have ET := hid et; have HB := hid hb
 replace hsz := Nat.le_of_eq hsz.symm
 clear en er et hb
 go_wp2_with fail
 refine (HS2.out _ HB.out).mono ?_
 rintro e w1 ⟨rfl, hb⟩
 replace hsz := Nat.le_trans hsz hb.size
 replace EN := hid (jC EN.out hb)
 replace ER := hid (jC ER.out hb)
 replace ET := hid (jC ET.out hb)
 replace HB := hid (HB.out.trans (hb.mono HB.out.size))
 clear hb
 unfold sizeP
 cases hnd : Px.nodes n 3 3 with
 | error p =>
   dsimp only
   have hge : (p : Int) ≥ 0 := by omega
   have HND := hid hnd; clear hnd
   have erc0 := jA ER.out 0 _ rfl
   have erc1 := jA ER.out 1 _ rfl
   have erc2 := jA ER.out 2 _ rfl
   have erc3 := jA ER.out 3 _ rfl
   have erc4 := jA ER.out 4 _ rfl
   have erc5 := jA ER.out 5 _ rfl
   have erc6 := jA ER.out 6 _ rfl
   have erf := jD ER.out
   have etc0 := jA ET.out 0 _ rfl
   have etc1 := jA ET.out 1 _ rfl
   have etc2 := jA ET.out 2 _ rfl
   have etc3 := jA ET.out 3 _ rfl
   have etc4 := jA ET.out 4 _ rfl
   have etc5 := jA ET.out 5 _ rfl
   have etc6 := jA ET.out 6 _ rfl
   have etf := jD ET.out
   go_wp2_with fail
   replace EN := hid (jB (jB (jB (jB (jB (jB (jB (EN.out) (w.heap.size + 1) 0 (.int .i64 4) (by omega)) (w.heap.size + 1) 1 (.int .i64 n.tok.pos) (by omega)) (w.heap.size + 1) 2 (.string ⟨#[]⟩) (by omega)) (w.heap.size + 1) 3 (.int .i64 0) (by omega)) (w.heap.size + 1) 4 (.slice none 0 0) (by omega)) (w.heap.size + 1) 5 (.slice none 0 0) (by omega)) (w.heap.size + 1) 6 (.slice none 0 0) (by omega))
   replace ER := hid (jU (ER.out) (.int .i64 4) (.int .i64 n.tok.pos) (.string ⟨#[]⟩) (.int .i64 0) (.slice none 0 0) (.slice none 0 0) (.slice none 0 0))
   replace ET := hid (jB (jB (jB (jB (jB (jB (jB (ET.out) (w.heap.size + 1) 0 (.int .i64 4) (by omega)) (w.heap.size + 1) 1 (.int .i64 n.tok.pos) (by omega)) (w.heap.size + 1) 2 (.string ⟨#[]⟩) (by omega)) (w.heap.size + 1) 3 (.int .i64 0) (by omega)) (w.heap.size + 1) 4 (.slice none 0 0) (by omega)) (w.heap.size + 1) 5 (.slice none 0 0) (by omega)) (w.heap.size + 1) 6 (.slice none 0 0) (by omega))
   replace HB := hid (Below.setCell (Below.setCell (Below.setCell (Below.setCell (Below.setCell (Below.setCell (Below.setCell (HB.out) (p := ⟨w.heap.size + 1, 0, none⟩) (by dsimp only; omega) (.int .i64 4)) (p := ⟨w.heap.size + 1, 1, none⟩) (by dsimp only; omega) (.int .i64 n.tok.pos)) (p := ⟨w.heap.size + 1, 2, none⟩) (by dsimp only; omega) (.string ⟨#[]⟩)) (p := ⟨w.heap.size + 1, 3, none⟩) (by dsimp only; omega) (.int .i64 0)) (p := ⟨w.heap.size + 1, 4, none⟩) (by dsimp only; omega) (.slice none 0 0)) (p := ⟨w.heap.size + 1, 5, none⟩) (by dsimp only; omega) (.slice none 0 0)) (p := ⟨w.heap.size + 1, 6, none⟩) (by dsimp only; omega) (.slice none 0 0))
   have r0 := jA ER.out 0 _ rfl
   have r1 := jA ER.out 1 _ rfl
   have r2 := jA ER.out 2 _ rfl
   have r3 := jA ER.out 3 _ rfl
   have r4 := jA ER.out 4 _ rfl
   have r5 := jA ER.out 5 _ rfl
   have r6 := jA ER.out 6 _ rfl
   refine bodyPost_ret (v := .tuple #[.agg #[.int .i64 4, .int .i64 n.tok.pos, .string ⟨#[]⟩, .int .i64 0, .slice none 0 0, .slice none 0 0, .slice none 0 0], .int .i64 p]) (by simp [results, Try.results56, go_sem, r0, r1, r2, r3, r4, r5, r6]) rfl ?_
   exact jL (by rw [HP.out, HND.out]) HB.out ⟨_, _, _, _, _, _, _, _, _, _, _, _, _, rfl⟩
 | ok l =>
   dsimp only
   have hni := jW hnd
   have hll := hni.1
   have hlen2 := hni.2.1
   have hlen9 := hni.2.2.1
   clear hni
   subst hll
   have hlen : n.list.length = 3 := by omega
   replace HP := HP.out
   rw [hnd] at HP
   dsimp only at HP
   rcases HR.out with ⟨h0, _⟩ | ⟨g, of, c', hv, g1, g2, g3⟩
   · rw [h0] at hlen2; simp at hlen2
   injection hv with hq1 _ hq2
   subst hq1; subst hq2
   obtain ⟨m1, hm⟩ : ∃ m, n.list[1]? = some m := ⟨_, List.getElem?_eq_getElem (by omega)⟩
   have hgtm1 : n.list.getD 1 n = m1 := by rw [List.getD_eq_getElem?_getD, hm]; rfl
   have HGm1 := hid (HG.out.kid (List.mem_of_getElem? hm))
   obtain ⟨u, hu, _, hcell⟩ := g3 1 m1 hm
   obtain ⟨km1, kvm1, hkm1, hue, hkr, q0, q1, q2, q3, q4, q5⟩ := jR hu hcell
   subst hue
   have HVm1 := hid hu; have HKm1 := hid hkr
   try simp only [Nat.reduceMul, Nat.add_zero, Nat.zero_add] at q0 q1 q2 q3 q4 q5
   have m1q0 := hid q0; have m1q1 := hid q1; have m1q2 := hid q2; have m1q3 := hid q3; have m1q4 := hid q4; have m1q5 := hid q5
   clear hu hcell hkr q0 q1 q2 q3 q4 q5 hm
   obtain ⟨m2, hm⟩ : ∃ m, n.list[2]? = some m := ⟨_, List.getElem?_eq_getElem (by omega)⟩
   have hgtm2 : n.list.getD 2 n = m2 := by rw [List.getD_eq_getElem?_getD, hm]; rfl
   have HGm2 := hid (HG.out.kid (List.mem_of_getElem? hm))
   obtain ⟨u, hu, _, hcell⟩ := g3 2 m2 hm
   obtain ⟨km2, kvm2, hkm2, hue, hkr, q0, q1, q2, q3, q4, q5⟩ := jR hu hcell
   subst hue
   have HVm2 := hid hu; have HKm2 := hid hkr
   try simp only [Nat.reduceMul, Nat.add_zero, Nat.zero_add] at q0 q1 q2 q3 q4 q5
   have m2q0 := hid q0; have m2q1 := hid q1; have m2q2 := hid q2; have m2q3 := hid q3; have m2q4 := hid q4; have m2q5 := hid q5
   clear hu hcell hkr q0 q1 q2 q3 q4 q5 hm
   rw [hgtm1, hgtm2] at HP
   have HPP := hid HP
   have HLEN := hid hlen
   have HKK := hid hkm1
   have hz1 : (1 : Int) < (n.list.length : Int) := by omega
   have hz2 : (2 : Int) < (n.list.length : Int) := by omega
   have hz3 : (n.list.length : Int) ≤ (c : Int) := by omega
   clear HP hgtm1 hgtm2 hnd g3 hlen hlen2 hlen9 hkm1 hkm2
   have n0 := jE HB.out m1q0.out
   have n1 := jE HB.out m1q1.out
   have n2 := jE HB.out m1q2.out
   have n3 := jE HB.out m1q3.out
   have n4 := jE HB.out m1q4.out
   have n5 := jE HB.out m1q5.out
   have enc0 := jA EN.out 0 _ rfl
   have enc1 := jA EN.out 1 _ rfl
   have enc2 := jA EN.out 2 _ rfl
   have enc3 := jA EN.out 3 _ rfl
   have enc4 := jA EN.out 4 _ rfl
   have enc5 := jA EN.out 5 _ rfl
   have enf := jD EN.out
   go_wp2_with fail
   clear enc0 enc1 enc2 enc3 enc4 enc5 enf
   clear n0 n1 n2 n3 n4 n5
   refine (size_any k m1 _ 1 8 _ (HVm1.out.below HB.out) (by omega) (by omega)).mono ?_
   rintro e w2 ⟨rfl, hb⟩
   replace hsz := Nat.le_trans hsz hb.size
   replace EN := hid (jC EN.out hb)
   replace ER := hid (jC ER.out hb)
   replace ET := hid (jC ET.out hb)
   replace HB := hid (HB.out.trans (hb.mono HB.out.size))
   clear hb
   unfold sizeP
   cases hn1 : Px.nodes m1 1 8 with
   | error p =>
     dsimp only
     have hge : (p : Int) ≥ 0 := by omega
     have HN1 := hid hn1
     clear hn1
     have erc0 := jA ER.out 0 _ rfl
     have erc1 := jA ER.out 1 _ rfl
     have erc2 := jA ER.out 2 _ rfl
     have erc3 := jA ER.out 3 _ rfl
     have erc4 := jA ER.out 4 _ rfl
     have erc5 := jA ER.out 5 _ rfl
     have erc6 := jA ER.out 6 _ rfl
     have erf := jD ER.out
     have etc0 := jA ET.out 0 _ rfl
     have etc1 := jA ET.out 1 _ rfl
     have etc2 := jA ET.out 2 _ rfl
     have etc3 := jA ET.out 3 _ rfl
     have etc4 := jA ET.out 4 _ rfl
     have etc5 := jA ET.out 5 _ rfl
     have etc6 := jA ET.out 6 _ rfl
     have etf := jD ET.out
     go_wp2_with fail
     replace EN := hid (jB (jB (jB (jB (jB (jB (jB (EN.out) (w.heap.size + 1) 0 (.int .i64 4) (by omega)) (w.heap.size + 1) 1 (.int .i64 n.tok.pos) (by omega)) (w.heap.size + 1) 2 (.string ⟨#[]⟩) (by omega)) (w.heap.size + 1) 3 (.int .i64 0) (by omega)) (w.heap.size + 1) 4 (.slice none 0 0) (by omega)) (w.heap.size + 1) 5 (.slice none 0 0) (by omega)) (w.heap.size + 1) 6 (.slice none 0 0) (by omega))
     replace ER := hid (jU (ER.out) (.int .i64 4) (.int .i64 n.tok.pos) (.string ⟨#[]⟩) (.int .i64 0) (.slice none 0 0) (.slice none 0 0) (.slice none 0 0))
     replace ET := hid (jB (jB (jB (jB (jB (jB (jB (ET.out) (w.heap.size + 1) 0 (.int .i64 4) (by omega)) (w.heap.size + 1) 1 (.int .i64 n.tok.pos) (by omega)) (w.heap.size + 1) 2 (.string ⟨#[]⟩) (by omega)) (w.heap.size + 1) 3 (.int .i64 0) (by omega)) (w.heap.size + 1) 4 (.slice none 0 0) (by omega)) (w.heap.size + 1) 5 (.slice none 0 0) (by omega)) (w.heap.size + 1) 6 (.slice none 0 0) (by omega))
     replace HB := hid (Below.setCell (Below.setCell (Below.setCell (Below.setCell (Below.setCell (Below.setCell (Below.setCell (HB.out) (p := ⟨w.heap.size + 1, 0, none⟩) (by dsimp only; omega) (.int .i64 4)) (p := ⟨w.heap.size + 1, 1, none⟩) (by dsimp only; omega) (.int .i64 n.tok.pos)) (p := ⟨w.heap.size + 1, 2, none⟩) (by dsimp only; omega) (.string ⟨#[]⟩)) (p := ⟨w.heap.size + 1, 3, none⟩) (by dsimp only; omega) (.int .i64 0)) (p := ⟨w.heap.size + 1, 4, none⟩) (by dsimp only; omega) (.slice none 0 0)) (p := ⟨w.heap.size + 1, 5, none⟩) (by dsimp only; omega) (.slice none 0 0)) (p := ⟨w.heap.size + 1, 6, none⟩) (by dsimp only; omega) (.slice none 0 0))
     have r0 := jA ER.out 0 _ rfl
     have r1 := jA ER.out 1 _ rfl
     have r2 := jA ER.out 2 _ rfl
     have r3 := jA ER.out 3 _ rfl
     have r4 := jA ER.out 4 _ rfl
     have r5 := jA ER.out 5 _ rfl
     have r6 := jA ER.out 6 _ rfl
     refine bodyPost_ret (v := .tuple #[.agg #[.int .i64 4, .int .i64 n.tok.pos, .string ⟨#[]⟩, .int .i64 0, .slice none 0 0, .slice none 0 0, .slice none 0 0], .int .i64 p]) (by simp [results, Try.results56, go_sem, r0, r1, r2, r3, r4, r5, r6]) rfl ?_
     exact jL (by rw [HPP.out, HN1.out]) HB.out ⟨_, _, _, _, _, _, _, _, _, _, _, _, _, rfl⟩
   | ok l1 =>
     dsimp only
     have hni := jW hn1
     have hll := hni.1
     have hs1 := hni.2.1
     have hs8 := hni.2.2.1
     clear hni
     subst hll
     have hpq := HPP.out
     rw [hn1] at hpq
     dsimp only at hpq
     have HPQ := hid hpq
     clear hpq hn1
     rcases HKm1.out with ⟨h0, _⟩ | ⟨g1, o1, c1, hkv, d1, d2, d3⟩
     · rw [h0] at hs1; simp at hs1
     subst hkv
     have HROW := hid d3
     have HS1 := hid hs1; have HS8 := hid hs8
     have hd1 : (m1.list.length : Int) ≤ (c1 : Int) := by omega
     clear d1 d2 d3 hs1 hs8
     have htwo : Two w2 (w.heap.size + 2) f n.tok.pos (.slice none 0 0) (.slice none 0 0) (.slice none 0 0) (.slice none 0 0) (0) (0) ([]) ([]) ([]) ([]) [] w2 := ⟨Below.refl _ _, by omega, ET.out, World.ownsRow_nil _ _ _ _, World.ownsRow_nil _ _ _ _, trivial, (fun _ h => by cases h), (fun _ h => by cases h)⟩
     have TWO0 := hid htwo
     have EN0 := EN; have ER0 := ER; have HB0 := HB
     clear htwo EN ER ET HB
     go_wp2_with fail
     go_loopw [3, 5, 6, 7, 8, 9, 10, 11] (fun _ _ i _ _ _ _ _ wr => ∃ (q : Nat) (nv xv : Value) (vs : List Value) (bs : List (List UInt8 × Px.Expr)), i = .int .i64 (q : Nat) ∧ q ≤ m1.list.length ∧ Hid (Px.each (Px.pair (Px.expr f)) (m1.list.take q) = .ok bs) ∧ Hid (bs.length = q) ∧ Hid (Two w2 (w.heap.size + 2) f n.tok.pos (nv) (xv) (nv) (xv) (q) (q) (strVs (bs.map (·.1))) (vs) (vs) (bs.map (·.2)) [] wr)) (fun _ _ i _ _ _ _ _ _ => m1.list.length - (intOf i).toNat)
     case atStart => exact ⟨0, _, _, [], [], rfl, Nat.zero_le _, hid (by simp [Px.each]), hid rfl, TWO0⟩
     case round =>
      clear TWO0
      obtain ⟨q, nv, xv, vs, bs, rfl, hq, HE, HBL, TWO⟩ := hrel
      have EN := hid (ent_low TWO.out.low EN0.out (by omega))
      have ET := hid TWO.out.et
      have HB := hid (HB0.out.trans (TWO.out.low.mono (by omega)))
      have enc0 := jA EN.out 0 _ rfl
      have enc1 := jA EN.out 1 _ rfl
      have enc2 := jA EN.out 2 _ rfl
      have enc3 := jA EN.out 3 _ rfl
      have enc4 := jA EN.out 4 _ rfl
      have enc5 := jA EN.out 5 _ rfl
      have enf := jD EN.out
      have n0 := jE HB.out m1q0.out
      have n1 := jE HB.out m1q1.out
      have n2 := jE HB.out m1q2.out
      have n3 := jE HB.out m1q3.out
      have n4 := jE HB.out m1q4.out
      have n5 := jE HB.out m1q5.out
      by_cases hlt : q < m1.list.length
      · skip
        have hrow := HROW.out
        obtain ⟨pn, hm⟩ : ∃ m, m1.list[q]? = some m := ⟨_, List.getElem?_eq_getElem (by omega)⟩
        have hgtpn : m1.list.getD q n = pn := by rw [List.getD_eq_getElem?_getD, hm]; rfl
        have HGpn := hid (HGm1.out.kid (List.mem_of_getElem? hm))
        obtain ⟨u, hu, _, hcell⟩ := hrow q pn hm
        obtain ⟨kpn, kvpn, hkpn, hue, hkr, q0, q1, q2, q3, q4, q5⟩ := jR hu hcell
        subst hue
        have HMpn := hid hm; have HVpn := hid hu; have HKpn := hid hkr
        try simp only [Nat.reduceMul, Nat.add_zero, Nat.zero_add] at q0 q1 q2 q3 q4 q5
        have pnq0 := hid q0; have pnq1 := hid q1; have pnq2 := hid q2; have pnq3 := hid q3; have pnq4 := hid q4; have pnq5 := hid q5
        clear hu hcell hkr q0 q1 q2 q3 q4 q5 hm
        clear hrow hgtpn
        obtain ⟨pvp, cvp, rfl⟩ := HKpn.out.len
        have k0 := jE HB.out pnq0.out
        have k1 := jE HB.out pnq1.out
        have k2 := jE HB.out pnq2.out
        have k3 := jE HB.out pnq3.out
        have k4 := jE HB.out pnq4.out
        have k5 := jE HB.out pnq5.out
        go_wp2_with fail
        clear enc0 enc1 enc2 enc3 enc4 enc5 enf
        clear n0 n1 n2 n3 n4 n5
        clear k0 k1 k2 k3 k4 k5
        replace TWO := hid (TWO.out.alloc #[.int .i64 pn.tok.kind, .int .i64 pn.tok.pos, .string ⟨pn.tok.text.toArray⟩, .int .i64 pn.tok.int, .bool (Px.jS pn), .slice pvp pn.list.length cvp] 73)
        have HB2 := hid (HB0.out.trans (TWO.out.low.mono (by omega)))
        obtain ⟨gb, hgb⟩ : ∃ gb, gb = wr.heap.size := ⟨_, rfl⟩
        rw [← hgb] at TWO
        rw [← hgb]
        generalize wr.alloc (.cells #[.int .i64 pn.tok.kind, .int .i64 pn.tok.pos, .string ⟨pn.tok.text.toArray⟩, .int .i64 pn.tok.int, .bool (Px.jS pn), .slice pvp pn.list.length cvp] 73) = wa at *
        clear hgb EN ET HB
        refine (size_any _ pn _ 2 2 _ (HVpn.out.below HB2.out) (by omega) (by omega)).mono ?_
        rintro e w3 ⟨rfl, hb⟩
        replace TWO := hid (TWO.out.below hb)
        clear hb HB2
        unfold sizeP
        cases hnb : Px.nodes pn 2 2 with
        | error p =>
          dsimp only
          have hge : (p : Int) ≥ 0 := by omega
          have hx : Px.each (Px.pair (Px.expr f)) m1.list = .error p := (Px.each_take HMpn.out HE.out).2 p (by rw [Px.pair, hnb])
          have HX := hid hx; clear hx hnb
          have ER := hid (ent_low TWO.out.low ER0.out (by omega))
          have ET := hid TWO.out.et
          have HB := hid (HB0.out.trans (TWO.out.low.mono (by omega)))
          obtain ⟨pa, ca, rfl⟩ := jF TWO.out.on
          obtain ⟨pb, cb, rfl⟩ := jF TWO.out.ox
          have erc0 := jA ER.out 0 _ rfl
          have erc1 := jA ER.out 1 _ rfl
          have erc2 := jA ER.out 2 _ rfl
          have erc3 := jA ER.out 3 _ rfl
          have erc4 := jA ER.out 4 _ rfl
          have erc5 := jA ER.out 5 _ rfl
          have erc6 := jA ER.out 6 _ rfl
          have erf := jD ER.out
          have etc0 := jA ET.out 0 _ rfl
          have etc1 := jA ET.out 1 _ rfl
          have etc2 := jA ET.out 2 _ rfl
          have etc3 := jA ET.out 3 _ rfl
          have etc4 := jA ET.out 4 _ rfl
          have etc5 := jA ET.out 5 _ rfl
          have etc6 := jA ET.out 6 _ rfl
          have etf := jD ET.out
          go_wp2_with fail
          replace ER := hid (jU (ER.out) (.int .i64 4) (.int .i64 n.tok.pos) (.string ⟨#[]⟩) (.int .i64 0) (.slice pa q ca) (.slice pb q cb) (.slice none 0 0))
          replace ET := hid (jB (jB (jB (jB (jB (jB (jB (ET.out) (w.heap.size + 1) 0 (.int .i64 4) (by omega)) (w.heap.size + 1) 1 (.int .i64 n.tok.pos) (by omega)) (w.heap.size + 1) 2 (.string ⟨#[]⟩) (by omega)) (w.heap.size + 1) 3 (.int .i64 0) (by omega)) (w.heap.size + 1) 4 (.slice pa q ca) (by omega)) (w.heap.size + 1) 5 (.slice pb q cb) (by omega)) (w.heap.size + 1) 6 (.slice none 0 0) (by omega))
          replace HB := hid (Below.setCell (Below.setCell (Below.setCell (Below.setCell (Below.setCell (Below.setCell (Below.setCell (HB.out) (p := ⟨w.heap.size + 1, 0, none⟩) (by dsimp only; omega) (.int .i64 4)) (p := ⟨w.heap.size + 1, 1, none⟩) (by dsimp only; omega) (.int .i64 n.tok.pos)) (p := ⟨w.heap.size + 1, 2, none⟩) (by dsimp only; omega) (.string ⟨#[]⟩)) (p := ⟨w.heap.size + 1, 3, none⟩) (by dsimp only; omega) (.int .i64 0)) (p := ⟨w.heap.size + 1, 4, none⟩) (by dsimp only; omega) (.slice pa q ca)) (p := ⟨w.heap.size + 1, 5, none⟩) (by dsimp only; omega) (.slice pb q cb)) (p := ⟨w.heap.size + 1, 6, none⟩) (by dsimp only; omega) (.slice none 0 0))
          have r0 := jA ER.out 0 _ rfl
          have r1 := jA ER.out 1 _ rfl
          have r2 := jA ER.out 2 _ rfl
          have r3 := jA ER.out 3 _ rfl
          have r4 := jA ER.out 4 _ rfl
          have r5 := jA ER.out 5 _ rfl
          have r6 := jA ER.out 6 _ rfl
          refine bodyPost_ret (v := .tuple #[.agg #[.int .i64 4, .int .i64 n.tok.pos, .string ⟨#[]⟩, .int .i64 0, .slice pa q ca, .slice pb q cb, .slice none 0 0], .int .i64 p]) (by simp [results, Try.results56, go_sem, r0, r1, r2, r3, r4, r5, r6]) rfl ?_
          exact jL (by rw [HPQ.out, HX.out]) HB.out ⟨_, _, _, _, _, _, _, _, _, _, _, _, _, rfl⟩
        | ok lb =>
          dsimp only
          have hni := jW hnb
          have hll := hni.1
          have hs1 := hni.2.1
          have hs8 := hni.2.2.1
          clear hni
          subst hll
          have hlp : pn.list.length = 2 := by omega
          rcases HKpn.out with ⟨h0, _⟩ | ⟨g2, o2, c2, hkv, d1, d2, d3⟩
          · rw [h0] at hs1; simp at hs1
          injection hkv with hkv1 _ hkv2
          subst hkv1; subst hkv2
          obtain ⟨b0, hm⟩ : ∃ m, pn.list[0]? = some m := ⟨_, List.getElem?_eq_getElem (by omega)⟩
          have hgtb0 : pn.list.getD 0 n = b0 := by rw [List.getD_eq_getElem?_getD, hm]; rfl
          have HGb0 := hid (HGpn.out.kid (List.mem_of_getElem? hm))
          obtain ⟨u, hu, _, hcell⟩ := d3 0 b0 hm
          obtain ⟨kb0, kvb0, hkb0, hue, hkr, q0, q1, q2, q3, q4, q5⟩ := jR hu hcell
          subst hue
          have HVb0 := hid hu; have HKb0 := hid hkr
          try simp only [Nat.reduceMul, Nat.add_zero, Nat.zero_add] at q0 q1 q2 q3 q4 q5
          have b0q0 := hid q0; have b0q1 := hid q1; have b0q2 := hid q2; have b0q3 := hid q3; have b0q4 := hid q4; have b0q5 := hid q5
          clear hu hcell hkr q0 q1 q2 q3 q4 q5 hm
          obtain ⟨b1, hm⟩ : ∃ m, pn.list[1]? = some m := ⟨_, List.getElem?_eq_getElem (by omega)⟩
          have hgtb1 : pn.list.getD 1 n = b1 := by rw [List.getD_eq_getElem?_getD, hm]; rfl
          have HGb1 := hid (HGpn.out.kid (List.mem_of_getElem? hm))
          obtain ⟨u, hu, _, hcell⟩ := d3 1 b1 hm
          obtain ⟨kb1, kvb1, hkb1, hue, hkr, q0, q1, q2, q3, q4, q5⟩ := jR hu hcell
          subst hue
          have HVb1 := hid hu; have HKb1 := hid hkr
          try simp only [Nat.reduceMul, Nat.add_zero, Nat.zero_add] at q0 q1 q2 q3 q4 q5
          have b1q0 := hid q0; have b1q1 := hid q1; have b1q2 := hid q2; have b1q3 := hid q3; have b1q4 := hid q4; have b1q5 := hid q5
          clear hu hcell hkr q0 q1 q2 q3 q4 q5 hm
          have hh0 : pn.list.headD pn = b0 := by
           rw [← hgtb0]
           cases hh : pn.list with
           | nil => rw [hh] at hs1; simp at hs1
           | cons a r => rfl
          have hh1 : pn.list.getD 1 pn = b1 := by
           rw [← hgtb1, List.getD_eq_getElem?_getD, List.getD_eq_getElem?_getD, List.getElem?_eq_getElem (by omega)]; rfl
          have HPR : Hid (Px.pair (Px.expr f) pn = (match Px.name b0 with | .error p => .error p | .ok s => match Px.expr f b1 with | .error p => .error p | .ok x => .ok (s, x))) := hid (by rw [Px.pair, hnb]; dsimp only; rw [hh0, hh1]; rfl)
          have HKB : Hid (kb1 + 1 ≤ k) := hid (by have := HKK.out; omega)
          have HKB' : Hid (kpn = kb1 + 1) := hid (by omega)
          have hp1 : (1 : Int) < (pn.list.length : Int) := by omega
          have hp2 : (0 : Int) < (pn.list.length : Int) := by omega
          have hp3 : (pn.list.length : Int) ≤ (cvp : Int) := by omega
          have HLP := hid hlp
          clear hh0 hh1 hgtb0 hgtb1 hnb d1 d2 d3 hs1 hs8 hlp hkb0 hkb1 hkpn
          have EB := hid (TWO.out.bx _ (List.Mem.head _)).2.1
          have bc0 := jA EB.out 0 _ rfl
          have bc1 := jA EB.out 1 _ rfl
          have bc2 := jA EB.out 2 _ rfl
          have bc3 := jA EB.out 3 _ rfl
          have bc4 := jA EB.out 4 _ rfl
          have bc5 := jA EB.out 5 _ rfl
          have bf := jD EB.out
          have ET := hid TWO.out.et
          have HB := hid (HB0.out.trans (TWO.out.low.mono (by omega)))
          have n0 := jE HB.out b0q0.out
          have n1 := jE HB.out b0q1.out
          have n2 := jE HB.out b0q2.out
          have n3 := jE HB.out b0q3.out
          have n4 := jE HB.out b0q4.out
          have n5 := jE HB.out b0q5.out
          go_wp2_with fail
          clear n0 n1 n2 n3 n4 n5
          clear EB bc0 bc1 bc2 bc3 bc4 bc5 bf
          refine (name_any b0 _ _ HGb0.out).mono ?_
          intro e w4 ht
          clear ET HB
          cases hnm : Px.name b0 with
          | error p =>
            obtain ⟨z, rfl, ⟨zs, rfl⟩, hb⟩ := jN ht hnm
            have hge : (p : Int) ≥ 0 := by omega
            replace TWO := hid (TWO.out.below hb)
            have hx : Px.each (Px.pair (Px.expr f)) m1.list = .error p := (Px.each_take HMpn.out HE.out).2 p (by rw [HPR.out, hnm])
            have HX := hid hx; clear hx hnm hb ht
            have ER := hid (ent_low TWO.out.low ER0.out (by omega))
            have ET := hid TWO.out.et
            have HB := hid (HB0.out.trans (TWO.out.low.mono (by omega)))
            obtain ⟨pa, ca, rfl⟩ := jF TWO.out.on
            obtain ⟨pb, cb, rfl⟩ := jF TWO.out.ox
            have erc0 := jA ER.out 0 _ rfl
            have erc1 := jA ER.out 1 _ rfl
            have erc2 := jA ER.out 2 _ rfl
            have erc3 := jA ER.out 3 _ rfl
            have erc4 := jA ER.out 4 _ rfl
            have erc5 := jA ER.out 5 _ rfl
            have erc6 := jA ER.out 6 _ rfl
            have erf := jD ER.out
            have etc0 := jA ET.out 0 _ rfl
            have etc1 := jA ET.out 1 _ rfl
            have etc2 := jA ET.out 2 _ rfl
            have etc3 := jA ET.out 3 _ rfl
            have etc4 := jA ET.out 4 _ rfl
            have etc5 := jA ET.out 5 _ rfl
            have etc6 := jA ET.out 6 _ rfl
            have etf := jD ET.out
            go_wp2_with fail
            replace ER := hid (jU (ER.out) (.int .i64 4) (.int .i64 n.tok.pos) (.string ⟨#[]⟩) (.int .i64 0) (.slice pa q ca) (.slice pb q cb) (.slice none 0 0))
            replace ET := hid (jB (jB (jB (jB (jB (jB (jB (ET.out) (w.heap.size + 1) 0 (.int .i64 4) (by omega)) (w.heap.size + 1) 1 (.int .i64 n.tok.pos) (by omega)) (w.heap.size + 1) 2 (.string ⟨#[]⟩) (by omega)) (w.heap.size + 1) 3 (.int .i64 0) (by omega)) (w.heap.size + 1) 4 (.slice pa q ca) (by omega)) (w.heap.size + 1) 5 (.slice pb q cb) (by omega)) (w.heap.size + 1) 6 (.slice none 0 0) (by omega))
            replace HB := hid (Below.setCell (Below.setCell (Below.setCell (Below.setCell (Below.setCell (Below.setCell (Below.setCell (HB.out) (p := ⟨w.heap.size + 1, 0, none⟩) (by dsimp only; omega) (.int .i64 4)) (p := ⟨w.heap.size + 1, 1, none⟩) (by dsimp only; omega) (.int .i64 n.tok.pos)) (p := ⟨w.heap.size + 1, 2, none⟩) (by dsimp only; omega) (.string ⟨#[]⟩)) (p := ⟨w.heap.size + 1, 3, none⟩) (by dsimp only; omega) (.int .i64 0)) (p := ⟨w.heap.size + 1, 4, none⟩) (by dsimp only; omega) (.slice pa q ca)) (p := ⟨w.heap.size + 1, 5, none⟩) (by dsimp only; omega) (.slice pb q cb)) (p := ⟨w.heap.size + 1, 6, none⟩) (by dsimp only; omega) (.slice none 0 0))
            have r0 := jA ER.out 0 _ rfl
            have r1 := jA ER.out 1 _ rfl
            have r2 := jA ER.out 2 _ rfl
            have r3 := jA ER.out 3 _ rfl
            have r4 := jA ER.out 4 _ rfl
            have r5 := jA ER.out 5 _ rfl
            have r6 := jA ER.out 6 _ rfl
            refine bodyPost_ret (v := .tuple #[.agg #[.int .i64 4, .int .i64 n.tok.pos, .string ⟨#[]⟩, .int .i64 0, .slice pa q ca, .slice pb q cb, .slice none 0 0], .int .i64 p]) (by simp [results, Try.results56, go_sem, r0, r1, r2, r3, r4, r5, r6]) rfl ?_
            exact jL (by rw [HPQ.out, HX.out]) HB.out ⟨_, _, _, _, _, _, _, _, _, _, _, _, _, rfl⟩
          | ok s =>
            obtain ⟨z, rfl, _, hnew, hb⟩ := rtold_ok ht hnm
            obtain rfl : z = .string ⟨s.toArray⟩ := hnew.now
            replace TWO := hid (TWO.out.below hb)
            have HNM := hid hnm; clear ht hnm hnew hb
            have EB := hid (TWO.out.bx _ (List.Mem.head _)).2.1
            have bc0 := jA EB.out 0 _ rfl
            have bc1 := jA EB.out 1 _ rfl
            have bc2 := jA EB.out 2 _ rfl
            have bc3 := jA EB.out 3 _ rfl
            have bc4 := jA EB.out 4 _ rfl
            have bc5 := jA EB.out 5 _ rfl
            have bf := jD EB.out
            have ET := hid TWO.out.et
            have HB := hid (HB0.out.trans (TWO.out.low.mono (by omega)))
            have n0 := jE HB.out b1q0.out
            have n1 := jE HB.out b1q1.out
            have n2 := jE HB.out b1q2.out
            have n3 := jE HB.out b1q3.out
            have n4 := jE HB.out b1q4.out
            have n5 := jE HB.out b1q5.out
            go_wp2_with fail
            clear n0 n1 n2 n3 n4 n5
            clear EB bc0 bc1 bc2 bc3 bc4 bc5 bf
            refine (HIH.out _ b1 _ _ (by have := HKB.out; have := HKB'.out; omega) (HVb1.out.below HB.out) HGb1.out).mono ?_
            intro e w5 ht
            clear ET HB
            cases hx1 : Px.expr f b1 with
            | error p =>
              obtain ⟨z, rfl, ⟨yk, yp, yz, yi, yq1, yn1, yc1, yq2, yn2, yc2, yq3, yn3, yc3, rfl⟩, hb⟩ := jN ht hx1
              have hge : (p : Int) ≥ 0 := by omega
              replace TWO := hid ((TWO.out.below hb).alloc #[.int .i64 yk, .int .i64 yp, .string yz, .int .i64 yi, .slice yq1 yn1 yc1, .slice yq2 yn2 yc2, .slice yq3 yn3 yc3] 53)
              have hx : Px.each (Px.pair (Px.expr f)) m1.list = .error p := (Px.each_take HMpn.out HE.out).2 p (by rw [HPR.out, HNM.out]; dsimp only; rw [hx1])
              have HX := hid hx; clear hx hx1 hb ht
              have ER := hid (ent_low TWO.out.low ER0.out (by omega))
              have ET := hid TWO.out.et
              have HB := hid (HB0.out.trans (TWO.out.low.mono (by omega)))
              obtain ⟨pa, ca, rfl⟩ := jF TWO.out.on
              obtain ⟨pb, cb, rfl⟩ := jF TWO.out.ox
              have erc0 := jA ER.out 0 _ rfl
              have erc1 := jA ER.out 1 _ rfl
              have erc2 := jA ER.out 2 _ rfl
              have erc3 := jA ER.out 3 _ rfl
              have erc4 := jA ER.out 4 _ rfl
              have erc5 := jA ER.out 5 _ rfl
              have erc6 := jA ER.out 6 _ rfl
              have erf := jD ER.out
              have etc0 := jA ET.out 0 _ rfl
              have etc1 := jA ET.out 1 _ rfl
              have etc2 := jA ET.out 2 _ rfl
              have etc3 := jA ET.out 3 _ rfl
              have etc4 := jA ET.out 4 _ rfl
              have etc5 := jA ET.out 5 _ rfl
              have etc6 := jA ET.out 6 _ rfl
              have etf := jD ET.out
              go_wp2_with fail
              replace ER := hid (jU (ER.out) (.int .i64 4) (.int .i64 n.tok.pos) (.string ⟨#[]⟩) (.int .i64 0) (.slice pa q ca) (.slice pb q cb) (.slice none 0 0))
              replace ET := hid (jB (jB (jB (jB (jB (jB (jB (ET.out) (w.heap.size + 1) 0 (.int .i64 4) (by omega)) (w.heap.size + 1) 1 (.int .i64 n.tok.pos) (by omega)) (w.heap.size + 1) 2 (.string ⟨#[]⟩) (by omega)) (w.heap.size + 1) 3 (.int .i64 0) (by omega)) (w.heap.size + 1) 4 (.slice pa q ca) (by omega)) (w.heap.size + 1) 5 (.slice pb q cb) (by omega)) (w.heap.size + 1) 6 (.slice none 0 0) (by omega))
              replace HB := hid (Below.setCell (Below.setCell (Below.setCell (Below.setCell (Below.setCell (Below.setCell (Below.setCell (HB.out) (p := ⟨w.heap.size + 1, 0, none⟩) (by dsimp only; omega) (.int .i64 4)) (p := ⟨w.heap.size + 1, 1, none⟩) (by dsimp only; omega) (.int .i64 n.tok.pos)) (p := ⟨w.heap.size + 1, 2, none⟩) (by dsimp only; omega) (.string ⟨#[]⟩)) (p := ⟨w.heap.size + 1, 3, none⟩) (by dsimp only; omega) (.int .i64 0)) (p := ⟨w.heap.size + 1, 4, none⟩) (by dsimp only; omega) (.slice pa q ca)) (p := ⟨w.heap.size + 1, 5, none⟩) (by dsimp only; omega) (.slice pb q cb)) (p := ⟨w.heap.size + 1, 6, none⟩) (by dsimp only; omega) (.slice none 0 0))
              have r0 := jA ER.out 0 _ rfl
              have r1 := jA ER.out 1 _ rfl
              have r2 := jA ER.out 2 _ rfl
              have r3 := jA ER.out 3 _ rfl
              have r4 := jA ER.out 4 _ rfl
              have r5 := jA ER.out 5 _ rfl
              have r6 := jA ER.out 6 _ rfl
              refine bodyPost_ret (v := .tuple #[.agg #[.int .i64 4, .int .i64 n.tok.pos, .string ⟨#[]⟩, .int .i64 0, .slice pa q ca, .slice pb q cb, .slice none 0 0], .int .i64 p]) (by simp [results, Try.results56, go_sem, r0, r1, r2, r3, r4, r5, r6]) rfl ?_
              exact jL (by rw [HPQ.out, HX.out]) HB.out ⟨_, _, _, _, _, _, _, _, _, _, _, _, _, rfl⟩
            | ok x =>
              obtain ⟨z, rfl, ⟨yk, yp, yz, yi, yq1, yn1, yc1, yq2, yn2, yc2, yq3, yn3, yc3, rfl⟩, hnew, hb⟩ := rtold_ok ht hx1
              replace TWO := hid ((TWO.out.add hnew ⟨_, _, _, _, _, _, _, _, _, _, _, _, _, rfl⟩ hb).alloc #[.int .i64 yk, .int .i64 yp, .string yz, .int .i64 yi, .slice yq1 yn1 yc1, .slice yq2 yn2 yc2, .slice yq3 yn3 yc3] 53)
              have HX1 := hid hx1; clear ht hx1 hnew hb
              go_upto_region 21 with fail
              obtain ⟨gy, hgy⟩ : ∃ gy, gy = w5.heap.size := ⟨_, rfl⟩
              rw [← hgy] at TWO
              rw [← hgy]
              generalize w5.alloc (.cells #[.int .i64 yk, .int .i64 yp, .string yz, .int .i64 yi, .slice yq1 yn1 yc1, .slice yq2 yn2 yc2, .slice yq3 yn3 yc3] 53) = W5 at *
              clear hgy
              have hone : Px.pair (Px.expr f) pn = .ok (s, x) := by rw [HPR.out, HNM.out]; dsimp only; rw [HX1.out]
              have HNEXT := hid ((Px.each_take HMpn.out HE.out).1 (s, x) hone)
              clear hone
              have HSTEP := hid (show ∀ (LL : List (Nat × Obj)) (a b : Value) (u : World), Two w2 (w.heap.size + 2) f n.tok.pos a b a b (q + 1) (q + 1) (strVs (bs.map (·.1)) ++ [.string ⟨s.toArray⟩]) (vs ++ [.agg #[.int .i64 yk, .int .i64 yp, .string yz, .int .i64 yi, .slice yq1 yn1 yc1, .slice yq2 yn2 yc2, .slice yq3 yn3 yc3]]) (vs ++ [.agg #[.int .i64 yk, .int .i64 yp, .string yz, .int .i64 yi, .slice yq1 yn1 yc1, .slice yq2 yn2 yc2, .slice yq3 yn3 yc3]]) (bs.map (·.2) ++ [x]) LL u → Two w2 (w.heap.size + 2) f n.tok.pos (a) (b) (a) (b) (q + 1) (q + 1) (strVs ((bs ++ [(s, x)]).map (·.1))) (vs ++ [.agg #[.int .i64 yk, .int .i64 yp, .string yz, .int .i64 yi, .slice yq1 yn1 yc1, .slice yq2 yn2 yc2, .slice yq3 yn3 yc3]]) (vs ++ [.agg #[.int .i64 yk, .int .i64 yp, .string yz, .int .i64 yi, .slice yq1 yn1 yc1, .slice yq2 yn2 yc2, .slice yq3 yn3 yc3]]) ((bs ++ [(s, x)]).map (·.2)) [] u from fun LL a b u h => by
              have e1 : strVs ((bs ++ [(s, x)]).map (·.1)) = strVs (bs.map (·.1)) ++ [.string ⟨s.toArray⟩] := by simp [strVs]
              have e2 : (bs ++ [(s, x)]).map (·.2) = bs.map (·.2) ++ [x] := by simp
              rw [e1, e2]; exact h.only (fun _ h => by cases h))
              have TD := hid (TWO.out.below ((Below.refl _ _).drew)); clear TWO
              have hq8 : q ≤ 8 := by have := HS8.out; omega
              refine wp_region_L (S := S3 4 9 8 (fun u => u.cell? ⟨w.heap.size + 2, 4, none⟩ = some nv) (fun u => u.cell? ⟨w.heap.size + 2, 5, none⟩ = some xv) (fun u => u.heap[gy]? = some (.cells #[.int .i64 yk, .int .i64 yp, .string yz, .int .i64 yi, .slice yq1 yn1 yc1, .slice yq2 yn2 yc2, .slice yq3 yn3 yc3] 53 (0, 0)))) (by kernel_rfl) ?_
              have HS0 := hid (fun l => Two.s3 TD.out (List.Mem.head _) (l := l) (fun _ => rfl) (fun _ => rfl))
              refine anyL_take (i := 0) 1 (v := .pointer (some ⟨w.heap.size + 2, 4, none⟩)) rfl (by kernel_rfl) (by kernel_rfl) (by kernel_rfl) (fun _ _ _ h => h) (by kernel_rfl) (by kernel_rfl) (S3.iff (by decide) (by decide) (by decide)) (Or.inl ⟨by rfl, fun u hu => by go_simp⟩) (HS0.out _) ?_
              refine anyL_take (i := 1) 4 (v := nv) rfl (by kernel_rfl) (by kernel_rfl) (by kernel_rfl) (fun _ _ _ h => h) (by kernel_rfl) (by kernel_rfl) (S3.iff (by decide) (by decide) (by decide)) (Or.inl ⟨by rfl, fun u hu => by obtain ⟨m, hm, h⟩ := hu; have h1 := h.1 hm; go_simp⟩) (HS0.out _) ?_
              refine anyL_take (i := 2) 3 (v := .string ⟨s.toArray⟩) rfl (by kernel_rfl) (by kernel_rfl) (by kernel_rfl) (fun _ _ _ h => h) (by kernel_rfl) (by kernel_rfl) (S3.iff (by decide) (by decide) (by decide)) (Or.inl ⟨by rfl, fun u hu => by go_simp⟩) (HS0.out _) ?_
              refine anyL_take (i := 5) 6 (v := .pointer (some ⟨w.heap.size + 2, 5, none⟩)) rfl (by kernel_rfl) (by kernel_rfl) (by kernel_rfl) (fun _ _ _ h => h) (by kernel_rfl) (by kernel_rfl) (S3.iff (by decide) (by decide) (by decide)) (Or.inl ⟨by rfl, fun u hu => by go_simp⟩) (HS0.out _) ?_
              refine anyL_take (i := 6) 9 (v := xv) rfl (by kernel_rfl) (by kernel_rfl) (by kernel_rfl) (fun _ _ _ h => h) (by kernel_rfl) (by kernel_rfl) (S3.iff (by decide) (by decide) (by decide)) (Or.inl ⟨by rfl, fun u hu => by obtain ⟨m, hm, h⟩ := hu; have h1 := h.2.1 hm; go_simp⟩) (HS0.out _) ?_
              refine anyL_take (i := 7) 8 (v := .agg #[.int .i64 yk, .int .i64 yp, .string yz, .int .i64 yi, .slice yq1 yn1 yc1, .slice yq2 yn2 yc2, .slice yq3 yn3 yc3]) rfl (by kernel_rfl) (by kernel_rfl) (by kernel_rfl) (fun _ _ _ h => h) (by kernel_rfl) (by kernel_rfl) (S3.iff (by decide) (by decide) (by decide)) (Or.inl ⟨by rfl, fun u hu => by obtain ⟨m, hm, h⟩ := hu; have h1 := h.2.2 hm; have y0 := jA h1 0 _ rfl; have y1 := jA h1 1 _ rfl; have y2 := jA h1 2 _ rfl; have y3 := jA h1 3 _ rfl; have y4 := jA h1 4 _ rfl; have y5 := jA h1 5 _ rfl; have y6 := jA h1 6 _ rfl; go_simp⟩) (HS0.out _) ?_
              clear HS0
              generalize W5.drew = W6 at *
              refine anyL_ready2 (i := 3) (j := 8) (by kernel_rfl) rfl rfl (fun K hK => ?_) (fun K hK => ?_)
              · skip
                go_simp
                have T1 := hid (TD.out.alloc #[.string ⟨s.toArray⟩] 9)
                refine hK.out _ _ (Two.s3 T1.out (List.Mem.tail _ (List.Mem.head _)) (fun _ => rfl) (fun _ => rfl)) ?_
                clear hK K
                obtain ⟨g1, hgg⟩ : ∃ g, g = W6.heap.size := ⟨_, rfl⟩
                rw [← hgg] at T1 ⊢
                generalize (W6.alloc (.cells #[.string ⟨s.toArray⟩] 9)) = W101 at T1 ⊢
                clear hgg
                refine anyL_ready2 (i := 4) (j := 8) (by kernel_rfl) rfl rfl (fun K hK => ?_) (fun K hK => ?_)
                · skip
                  refine Two.stepN T1.out (s := ⟨s.toArray⟩) (gb := g1) (List.Mem.head _) (by omega) rfl (.tmp 82) (.tmp 84) rfl rfl rfl ?_
                  intro v2 u2 h2
                  obtain ⟨p2, e2, rfl⟩ := jF h2.on
                  have T2 := hid h2; clear h2
                  refine hK.out _ _ (Two.s3 T2.out (List.Mem.tail _ (List.Mem.head _)) (fun h => Bool.noConfusion (show true = false from h)) (fun _ => rfl)) ?_
                  clear hK K
                  refine anyL_take (i := 10) 11 (v := .pointer (some ⟨w.heap.size + 2, 4, none⟩)) rfl (by kernel_rfl) (by kernel_rfl) (by kernel_rfl) (fun _ _ _ h => h) (by kernel_rfl) (by kernel_rfl) (S3.iff (by decide) (by decide) (by decide)) (Or.inl ⟨by rfl, fun u hu => by go_simp⟩) (Two.s3 T2.out (List.Mem.tail _ (List.Mem.head _)) (fun h => Bool.noConfusion (show true = false from h)) (fun _ => rfl)) ?_
                  refine anyL_ready1 (i := 8) (by kernel_rfl) rfl (fun K hK => ?_)
                  go_simp
                  have T3 := hid (T2.out.alloc #[.int .i64 yk, .int .i64 yp, .string yz, .int .i64 yi, .slice yq1 yn1 yc1, .slice yq2 yn2 yc2, .slice yq3 yn3 yc3] 53)
                  refine hK.out _ _ (Two.s3 T3.out (List.Mem.tail _ (List.Mem.tail _ (List.Mem.head _))) (fun h => Bool.noConfusion (show true = false from h)) (fun _ => rfl)) ?_
                  clear hK K
                  obtain ⟨g3, hgg⟩ : ∃ g, g = u2.heap.size := ⟨_, rfl⟩
                  rw [← hgg] at T3 ⊢
                  generalize (u2.alloc (.cells #[.int .i64 yk, .int .i64 yp, .string yz, .int .i64 yi, .slice yq1 yn1 yc1, .slice yq2 yn2 yc2, .slice yq3 yn3 yc3] 53)) = W103 at T3 ⊢
                  clear hgg
                  refine anyL_ready1 (i := 9) (by kernel_rfl) rfl (fun K hK => ?_)
                  refine Two.stepX T3.out (gb := g3) (List.Mem.head _) (by omega) (by simp [Value.oneCell']) rfl (.tmp 87) (.tmp 89) rfl rfl rfl ?_
                  intro v4 u4 h4
                  obtain ⟨p4, e4, rfl⟩ := jF h4.ox
                  have T4 := hid h4; clear h4
                  refine hK.out _ _ (Two.s3 T4.out (List.Mem.tail _ (List.Mem.tail _ (List.Mem.head _))) (fun h => Bool.noConfusion (show true = false from h)) (fun h => Bool.noConfusion (show true = false from h))) ?_
                  clear hK K
                  refine anyL_ready1 (i := 11) (by kernel_rfl) rfl (fun K hK => ?_)
                  have ET := hid T4.out.et
                  have etc0 := jA ET.out 0 _ rfl
                  have etc1 := jA ET.out 1 _ rfl
                  have etc2 := jA ET.out 2 _ rfl
                  have etc3 := jA ET.out 3 _ rfl
                  have etc4 := jA ET.out 4 _ rfl
                  have etc5 := jA ET.out 5 _ rfl
                  have etc6 := jA ET.out 6 _ rfl
                  have etf := jD ET.out
                  go_simp
                  clear ET etf etc0 etc1 etc2 etc3 etc4 etc5 etc6
                  have T5 := hid (T4.out.st 4 (.slice p2 (q + 1) e2) _ _ rfl)
                  refine hK.out _ _ (Two.s3 T5.out (List.Mem.tail _ (List.Mem.tail _ (List.Mem.head _))) (fun h => Bool.noConfusion (show true = false from h)) (fun h => Bool.noConfusion (show true = false from h))) ?_
                  clear hK K
                  refine anyL_take (i := 12) 13 (v := .pointer (some ⟨w.heap.size + 2, 5, none⟩)) rfl (by kernel_rfl) (by kernel_rfl) (by kernel_rfl) (fun _ _ _ h => h) (by kernel_rfl) (by kernel_rfl) (S3.iff (by decide) (by decide) (by decide)) (Or.inl ⟨by rfl, fun u hu => by go_simp⟩) (Two.s3 T5.out (List.Mem.tail _ (List.Mem.tail _ (List.Mem.head _))) (fun h => Bool.noConfusion (show true = false from h)) (fun h => Bool.noConfusion (show true = false from h))) ?_
                  refine anyL_ready1 (i := 13) (by kernel_rfl) rfl (fun K hK => ?_)
                  have ET := hid T5.out.et
                  have etc0 := jA ET.out 0 _ rfl
                  have etc1 := jA ET.out 1 _ rfl
                  have etc2 := jA ET.out 2 _ rfl
                  have etc3 := jA ET.out 3 _ rfl
                  have etc4 := jA ET.out 4 _ rfl
                  have etc5 := jA ET.out 5 _ rfl
                  have etc6 := jA ET.out 6 _ rfl
                  have etf := jD ET.out
                  go_simp
                  clear ET etf etc0 etc1 etc2 etc3 etc4 etc5 etc6
                  have T6 := hid (T5.out.st 5 (.slice p4 (q + 1) e4) _ _ rfl)
                  refine hK.out _ _ (Two.s3 T6.out (List.Mem.tail _ (List.Mem.tail _ (List.Mem.head _))) (fun h => Bool.noConfusion (show true = false from h)) (fun h => Bool.noConfusion (show true = false from h))) ?_
                  clear hK K
                  refine anyL_done (by kernel_rfl) ?_ _
                  try simp only [Act.put, JA, JB, JC]
                  have hrel2 := HSTEP.out _ _ _ _ T6.out
                  have HREL2 := hid hrel2
                  clear hrel2
                  go_wp2_with fail
                  go_roundw
                  case rel => exact ⟨q + 1, _, _, vs ++ [.agg #[.int .i64 yk, .int .i64 yp, .string yz, .int .i64 yi, .slice yq1 yn1 yc1, .slice yq2 yn2 yc2, .slice yq3 yn3 yc3]], bs ++ [(s, x)], by go_num, by omega, HNEXT, hid (by rw [List.length_append, HBL.out]; rfl), HREL2⟩
                  case measure => simp [intOf]; omega
                · skip
                  go_simp
                  have T7 := hid (T1.out.alloc #[.int .i64 yk, .int .i64 yp, .string yz, .int .i64 yi, .slice yq1 yn1 yc1, .slice yq2 yn2 yc2, .slice yq3 yn3 yc3] 53)
                  refine hK.out _ _ (Two.s3 T7.out (List.Mem.tail _ (List.Mem.tail _ (List.Mem.head _))) (fun _ => rfl) (fun _ => rfl)) ?_
                  clear hK K
                  obtain ⟨g7, hgg⟩ : ∃ g, g = W101.heap.size := ⟨_, rfl⟩
                  rw [← hgg] at T7 ⊢
                  generalize (W101.alloc (.cells #[.int .i64 yk, .int .i64 yp, .string yz, .int .i64 yi, .slice yq1 yn1 yc1, .slice yq2 yn2 yc2, .slice yq3 yn3 yc3] 53)) = W107 at T7 ⊢
                  clear hgg
                  refine anyL_ready1 (i := 4) (by kernel_rfl) rfl (fun K hK => ?_)
                  refine Two.stepN T7.out (s := ⟨s.toArray⟩) (gb := g1) (List.Mem.tail _ (List.Mem.head _)) (by omega) rfl (.tmp 82) (.tmp 84) rfl rfl rfl ?_
                  intro v8 u8 h8
                  obtain ⟨p8, e8, rfl⟩ := jF h8.on
                  have T8 := hid h8; clear h8
                  refine hK.out _ _ (Two.s3 T8.out (List.Mem.tail _ (List.Mem.tail _ (List.Mem.head _))) (fun h => Bool.noConfusion (show true = false from h)) (fun _ => rfl)) ?_
                  clear hK K
                  refine anyL_take (i := 10) 11 (v := .pointer (some ⟨w.heap.size + 2, 4, none⟩)) rfl (by kernel_rfl) (by kernel_rfl) (by kernel_rfl) (fun _ _ _ h => h) (by kernel_rfl) (by kernel_rfl) (S3.iff (by decide) (by decide) (by decide)) (Or.inl ⟨by rfl, fun u hu => by go_simp⟩) (Two.s3 T8.out (List.Mem.tail _ (List.Mem.tail _ (List.Mem.head _))) (fun h => Bool.noConfusion (show true = false from h)) (fun _ => rfl)) ?_
                  refine anyL_ready1 (i := 9) (by kernel_rfl) rfl (fun K hK => ?_)
                  refine Two.stepX T8.out (gb := g7) (List.Mem.head _) (by omega) (by simp [Value.oneCell']) rfl (.tmp 87) (.tmp 89) rfl rfl rfl ?_
                  intro v9 u9 h9
                  obtain ⟨p9, e9, rfl⟩ := jF h9.ox
                  have T9 := hid h9; clear h9
                  refine hK.out _ _ (Two.s3 T9.out (List.Mem.tail _ (List.Mem.tail _ (List.Mem.head _))) (fun h => Bool.noConfusion (show true = false from h)) (fun h => Bool.noConfusion (show true = false from h))) ?_
                  clear hK K
                  refine anyL_ready1 (i := 11) (by kernel_rfl) rfl (fun K hK => ?_)
                  have ET := hid T9.out.et
                  have etc0 := jA ET.out 0 _ rfl
                  have etc1 := jA ET.out 1 _ rfl
                  have etc2 := jA ET.out 2 _ rfl
                  have etc3 := jA ET.out 3 _ rfl
                  have etc4 := jA ET.out 4 _ rfl
                  have etc5 := jA ET.out 5 _ rfl
                  have etc6 := jA ET.out 6 _ rfl
                  have etf := jD ET.out
                  go_simp
                  clear ET etf etc0 etc1 etc2 etc3 etc4 etc5 etc6
                  have T10 := hid (T9.out.st 4 (.slice p8 (q + 1) e8) _ _ rfl)
                  refine hK.out _ _ (Two.s3 T10.out (List.Mem.tail _ (List.Mem.tail _ (List.Mem.head _))) (fun h => Bool.noConfusion (show true = false from h)) (fun h => Bool.noConfusion (show true = false from h))) ?_
                  clear hK K
                  refine anyL_take (i := 12) 13 (v := .pointer (some ⟨w.heap.size + 2, 5, none⟩)) rfl (by kernel_rfl) (by kernel_rfl) (by kernel_rfl) (fun _ _ _ h => h) (by kernel_rfl) (by kernel_rfl) (S3.iff (by decide) (by decide) (by decide)) (Or.inl ⟨by rfl, fun u hu => by go_simp⟩) (Two.s3 T10.out (List.Mem.tail _ (List.Mem.tail _ (List.Mem.head _))) (fun h => Bool.noConfusion (show true = false from h)) (fun h => Bool.noConfusion (show true = false from h))) ?_
                  refine anyL_ready1 (i := 13) (by kernel_rfl) rfl (fun K hK => ?_)
                  have ET := hid T10.out.et
                  have etc0 := jA ET.out 0 _ rfl
                  have etc1 := jA ET.out 1 _ rfl
                  have etc2 := jA ET.out 2 _ rfl
                  have etc3 := jA ET.out 3 _ rfl
                  have etc4 := jA ET.out 4 _ rfl
                  have etc5 := jA ET.out 5 _ rfl
                  have etc6 := jA ET.out 6 _ rfl
                  have etf := jD ET.out
                  go_simp
                  clear ET etf etc0 etc1 etc2 etc3 etc4 etc5 etc6
                  have T11 := hid (T10.out.st 5 (.slice p9 (q + 1) e9) _ _ rfl)
                  refine hK.out _ _ (Two.s3 T11.out (List.Mem.tail _ (List.Mem.tail _ (List.Mem.head _))) (fun h => Bool.noConfusion (show true = false from h)) (fun h => Bool.noConfusion (show true = false from h))) ?_
                  clear hK K
                  refine anyL_done (by kernel_rfl) ?_ _
                  try simp only [Act.put, JA, JB, JC]
                  have hrel2 := HSTEP.out _ _ _ _ T11.out
                  have HREL2 := hid hrel2
                  clear hrel2
                  go_wp2_with fail
                  go_roundw
                  case rel => exact ⟨q + 1, _, _, vs ++ [.agg #[.int .i64 yk, .int .i64 yp, .string yz, .int .i64 yi, .slice yq1 yn1 yc1, .slice yq2 yn2 yc2, .slice yq3 yn3 yc3]], bs ++ [(s, x)], by go_num, by omega, HNEXT, hid (by rw [List.length_append, HBL.out]; rfl), HREL2⟩
                  case measure => simp [intOf]; omega
              · skip
                go_simp
                have T12 := hid (TD.out.alloc #[.int .i64 yk, .int .i64 yp, .string yz, .int .i64 yi, .slice yq1 yn1 yc1, .slice yq2 yn2 yc2, .slice yq3 yn3 yc3] 53)
                refine hK.out _ _ (Two.s3 T12.out (List.Mem.tail _ (List.Mem.head _)) (fun _ => rfl) (fun _ => rfl)) ?_
                clear hK K
                obtain ⟨g12, hgg⟩ : ∃ g, g = W6.heap.size := ⟨_, rfl⟩
                rw [← hgg] at T12 ⊢
                generalize (W6.alloc (.cells #[.int .i64 yk, .int .i64 yp, .string yz, .int .i64 yi, .slice yq1 yn1 yc1, .slice yq2 yn2 yc2, .slice yq3 yn3 yc3] 53)) = W112 at T12 ⊢
                clear hgg
                refine anyL_ready1 (i := 3) (by kernel_rfl) rfl (fun K hK => ?_)
                go_simp
                have T13 := hid (T12.out.alloc #[.string ⟨s.toArray⟩] 9)
                refine hK.out _ _ (Two.s3 T13.out (List.Mem.tail _ (List.Mem.tail _ (List.Mem.head _))) (fun _ => rfl) (fun _ => rfl)) ?_
                clear hK K
                obtain ⟨g13, hgg⟩ : ∃ g, g = W112.heap.size := ⟨_, rfl⟩
                rw [← hgg] at T13 ⊢
                generalize (W112.alloc (.cells #[.string ⟨s.toArray⟩] 9)) = W113 at T13 ⊢
                clear hgg
                refine anyL_ready1 (i := 4) (by kernel_rfl) rfl (fun K hK => ?_)
                refine Two.stepN T13.out (s := ⟨s.toArray⟩) (gb := g13) (List.Mem.head _) (by omega) rfl (.tmp 82) (.tmp 84) rfl rfl rfl ?_
                intro v14 u14 h14
                obtain ⟨p14, e14, rfl⟩ := jF h14.on
                have T14 := hid h14; clear h14
                refine hK.out _ _ (Two.s3 T14.out (List.Mem.tail _ (List.Mem.tail _ (List.Mem.head _))) (fun h => Bool.noConfusion (show true = false from h)) (fun _ => rfl)) ?_
                clear hK K
                refine anyL_take (i := 10) 11 (v := .pointer (some ⟨w.heap.size + 2, 4, none⟩)) rfl (by kernel_rfl) (by kernel_rfl) (by kernel_rfl) (fun _ _ _ h => h) (by kernel_rfl) (by kernel_rfl) (S3.iff (by decide) (by decide) (by decide)) (Or.inl ⟨by rfl, fun u hu => by go_simp⟩) (Two.s3 T14.out (List.Mem.tail _ (List.Mem.tail _ (List.Mem.head _))) (fun h => Bool.noConfusion (show true = false from h)) (fun _ => rfl)) ?_
                refine anyL_ready1 (i := 9) (by kernel_rfl) rfl (fun K hK => ?_)
                refine Two.stepX T14.out (gb := g12) (List.Mem.tail _ (List.Mem.head _)) (by omega) (by simp [Value.oneCell']) rfl (.tmp 87) (.tmp 89) rfl rfl rfl ?_
                intro v15 u15 h15
                obtain ⟨p15, e15, rfl⟩ := jF h15.ox
                have T15 := hid h15; clear h15
                refine hK.out _ _ (Two.s3 T15.out (List.Mem.tail _ (List.Mem.tail _ (List.Mem.head _))) (fun h => Bool.noConfusion (show true = false from h)) (fun h => Bool.noConfusion (show true = false from h))) ?_
                clear hK K
                refine anyL_ready1 (i := 11) (by kernel_rfl) rfl (fun K hK => ?_)
                have ET := hid T15.out.et
                have etc0 := jA ET.out 0 _ rfl
                have etc1 := jA ET.out 1 _ rfl
                have etc2 := jA ET.out 2 _ rfl
                have etc3 := jA ET.out 3 _ rfl
                have etc4 := jA ET.out 4 _ rfl
                have etc5 := jA ET.out 5 _ rfl
                have etc6 := jA ET.out 6 _ rfl
                have etf := jD ET.out
                go_simp
                clear ET etf etc0 etc1 etc2 etc3 etc4 etc5 etc6
                have T16 := hid (T15.out.st 4 (.slice p14 (q + 1) e14) _ _ rfl)
                refine hK.out _ _ (Two.s3 T16.out (List.Mem.tail _ (List.Mem.tail _ (List.Mem.head _))) (fun h => Bool.noConfusion (show true = false from h)) (fun h => Bool.noConfusion (show true = false from h))) ?_
                clear hK K
                refine anyL_take (i := 12) 13 (v := .pointer (some ⟨w.heap.size + 2, 5, none⟩)) rfl (by kernel_rfl) (by kernel_rfl) (by kernel_rfl) (fun _ _ _ h => h) (by kernel_rfl) (by kernel_rfl) (S3.iff (by decide) (by decide) (by decide)) (Or.inl ⟨by rfl, fun u hu => by go_simp⟩) (Two.s3 T16.out (List.Mem.tail _ (List.Mem.tail _ (List.Mem.head _))) (fun h => Bool.noConfusion (show true = false from h)) (fun h => Bool.noConfusion (show true = false from h))) ?_
                refine anyL_ready1 (i := 13) (by kernel_rfl) rfl (fun K hK => ?_)
                have ET := hid T16.out.et
                have etc0 := jA ET.out 0 _ rfl
                have etc1 := jA ET.out 1 _ rfl
                have etc2 := jA ET.out 2 _ rfl
                have etc3 := jA ET.out 3 _ rfl
                have etc4 := jA ET.out 4 _ rfl
                have etc5 := jA ET.out 5 _ rfl
                have etc6 := jA ET.out 6 _ rfl
                have etf := jD ET.out
                go_simp
                clear ET etf etc0 etc1 etc2 etc3 etc4 etc5 etc6
                have T17 := hid (T16.out.st 5 (.slice p15 (q + 1) e15) _ _ rfl)
                refine hK.out _ _ (Two.s3 T17.out (List.Mem.tail _ (List.Mem.tail _ (List.Mem.head _))) (fun h => Bool.noConfusion (show true = false from h)) (fun h => Bool.noConfusion (show true = false from h))) ?_
                clear hK K
                refine anyL_done (by kernel_rfl) ?_ _
                try simp only [Act.put, JA, JB, JC]
                have hrel2 := HSTEP.out _ _ _ _ T17.out
                have HREL2 := hid hrel2
                clear hrel2
                go_wp2_with fail
                go_roundw
                case rel => exact ⟨q + 1, _, _, vs ++ [.agg #[.int .i64 yk, .int .i64 yp, .string yz, .int .i64 yi, .slice yq1 yn1 yc1, .slice yq2 yn2 yc2, .slice yq3 yn3 yc3]], bs ++ [(s, x)], by go_num, by omega, HNEXT, hid (by rw [List.length_append, HBL.out]; rfl), HREL2⟩
                case measure => simp [intOf]; omega
      · skip
        have hqe : q = m1.list.length := by omega
        have he := HE.out
        rw [hqe, List.take_length] at he
        have HEE := hid he; clear he
        have HQE := hid hqe; clear hqe
        have k0 := jE HB.out m2q0.out
        have k1 := jE HB.out m2q1.out
        have k2 := jE HB.out m2q2.out
        have k3 := jE HB.out m2q3.out
        have k4 := jE HB.out m2q4.out
        have k5 := jE HB.out m2q5.out
        go_wp2_with fail
        clear enc0 enc1 enc2 enc3 enc4 enc5 enf
        clear n0 n1 n2 n3 n4 n5
        clear k0 k1 k2 k3 k4 k5
        refine (HIH.out _ m2 _ _ (Nat.le_refl _) (HVm2.out.below HB.out) HGm2.out).mono ?_
        intro e w5 ht
        clear EN ET HB
        have hq8 : q ≤ 8 := by have := HS8.out; omega
        cases hx1 : Px.expr f m2 with
        | error p =>
          obtain ⟨z, rfl, ⟨yk, yp, yz, yi, yq1, yn1, yc1, yq2, yn2, yc2, yq3, yn3, yc3, rfl⟩, hb⟩ := jN ht hx1
          have T1 := hid (TWO.out.below hb)
          have HX1 := hid hx1; clear ht hx1 hb TWO
          obtain ⟨pb, cb, rfl⟩ := jF T1.out.ox
          obtain ⟨pa, ca, rfl⟩ := jF T1.out.on
          replace T1 := hid (T1.out.alloc #[.int .i64 yk, .int .i64 yp, .string yz, .int .i64 yi, .slice yq1 yn1 yc1, .slice yq2 yn2 yc2, .slice yq3 yn3 yc3] 53)
          obtain ⟨gy, hgy⟩ : ∃ gy, gy = w5.heap.size := ⟨_, rfl⟩
          go_upto_region 23 with fail
          rw [← hgy] at T1
          rw [← hgy]
          generalize w5.alloc (.cells #[.int .i64 yk, .int .i64 yp, .string yz, .int .i64 yi, .slice yq1 yn1 yc1, .slice yq2 yn2 yc2, .slice yq3 yn3 yc3] 53) = W5 at *
          clear hgy
          have ET := hid T1.out.et
          have EY := hid (T1.out.bx _ (List.Mem.head _)).2.1
          have etc0 := jA ET.out 0 _ rfl; have ye0 := jA EY.out 0 _ rfl
          have etc1 := jA ET.out 1 _ rfl; have ye1 := jA EY.out 1 _ rfl
          have etc2 := jA ET.out 2 _ rfl; have ye2 := jA EY.out 2 _ rfl
          have etc3 := jA ET.out 3 _ rfl; have ye3 := jA EY.out 3 _ rfl
          have etc4 := jA ET.out 4 _ rfl; have ye4 := jA EY.out 4 _ rfl
          have etc5 := jA ET.out 5 _ rfl; have ye5 := jA EY.out 5 _ rfl
          have etc6 := jA ET.out 6 _ rfl; have ye6 := jA EY.out 6 _ rfl
          have etf := jD ET.out
          go_wp2_with (at_builtin; refine Two.listX (T1.out.alloc #[.int .i64 yk, .int .i64 yp, .string yz, .int .i64 yi, .slice yq1 yn1 yc1, .slice yq2 yn2 yc2, .slice yq3 yn3 yc3] 53) (gb := W5.heap.size) (List.Mem.head _) (by omega) (by simp [Value.oneCell']) rfl (.tmp 102) (.tmp 104) rfl rfl rfl ?_)
          intro v6 w6 h6
          obtain ⟨pc, cc, rfl⟩ := jF h6.ox
          clear ET EY etf etc0 ye0 etc1 ye1 etc2 ye2 etc3 ye3 etc4 ye4 etc5 ye5 etc6 ye6
          have T2 := hid h6; clear h6
          have ET := hid T2.out.et
          have etc0 := jA ET.out 0 _ rfl
          have etc1 := jA ET.out 1 _ rfl
          have etc2 := jA ET.out 2 _ rfl
          have etc3 := jA ET.out 3 _ rfl
          have etc4 := jA ET.out 4 _ rfl
          have etc5 := jA ET.out 5 _ rfl
          have etc6 := jA ET.out 6 _ rfl
          have etf := jD ET.out
          go_upto_region 24 with fail
          clear ET etf etc0 etc1 etc2 etc3 etc4 etc5 etc6
          have T3 := hid (T2.out.st 5 (.slice pc (q + 1) cc) _ _ rfl)
          generalize w6.setCell ⟨w.heap.size + 2, 5, none⟩ (.slice pc (q + 1) cc) = w7 at *
          have ER := hid (ent_low T3.out.low ER0.out (by omega))
          have ET := hid T3.out.et
          have HB := hid (HB0.out.trans (T3.out.low.mono (by omega)))
          have erc0 := jA ER.out 0 _ rfl
          have erc1 := jA ER.out 1 _ rfl
          have erc2 := jA ER.out 2 _ rfl
          have erc3 := jA ER.out 3 _ rfl
          have erc4 := jA ER.out 4 _ rfl
          have erc5 := jA ER.out 5 _ rfl
          have erc6 := jA ER.out 6 _ rfl
          have erf := jD ER.out
          have etc0 := jA ET.out 0 _ rfl
          have etc1 := jA ET.out 1 _ rfl
          have etc2 := jA ET.out 2 _ rfl
          have etc3 := jA ET.out 3 _ rfl
          have etc4 := jA ET.out 4 _ rfl
          have etc5 := jA ET.out 5 _ rfl
          have etc6 := jA ET.out 6 _ rfl
          have etf := jD ET.out
          go_wp2_with fail
          replace ER := hid (jU (ER.out) (.int .i64 4) (.int .i64 n.tok.pos) (.string ⟨#[]⟩) (.int .i64 0) (.slice pa q ca) (.slice pc (q + 1) cc) (.slice none 0 0))
          replace ET := hid (jB (jB (jB (jB (jB (jB (jB (ET.out) (w.heap.size + 1) 0 (.int .i64 4) (by omega)) (w.heap.size + 1) 1 (.int .i64 n.tok.pos) (by omega)) (w.heap.size + 1) 2 (.string ⟨#[]⟩) (by omega)) (w.heap.size + 1) 3 (.int .i64 0) (by omega)) (w.heap.size + 1) 4 (.slice pa q ca) (by omega)) (w.heap.size + 1) 5 (.slice pc (q + 1) cc) (by omega)) (w.heap.size + 1) 6 (.slice none 0 0) (by omega))
          replace HB := hid (Below.setCell (Below.setCell (Below.setCell (Below.setCell (Below.setCell (Below.setCell (Below.setCell (HB.out) (p := ⟨w.heap.size + 1, 0, none⟩) (by dsimp only; omega) (.int .i64 4)) (p := ⟨w.heap.size + 1, 1, none⟩) (by dsimp only; omega) (.int .i64 n.tok.pos)) (p := ⟨w.heap.size + 1, 2, none⟩) (by dsimp only; omega) (.string ⟨#[]⟩)) (p := ⟨w.heap.size + 1, 3, none⟩) (by dsimp only; omega) (.int .i64 0)) (p := ⟨w.heap.size + 1, 4, none⟩) (by dsimp only; omega) (.slice pa q ca)) (p := ⟨w.heap.size + 1, 5, none⟩) (by dsimp only; omega) (.slice pc (q + 1) cc)) (p := ⟨w.heap.size + 1, 6, none⟩) (by dsimp only; omega) (.slice none 0 0))
          have r0 := jA ER.out 0 _ rfl
          have r1 := jA ER.out 1 _ rfl
          have r2 := jA ER.out 2 _ rfl
          have r3 := jA ER.out 3 _ rfl
          have r4 := jA ER.out 4 _ rfl
          have r5 := jA ER.out 5 _ rfl
          have r6 := jA ER.out 6 _ rfl
          refine bodyPost_ret (v := .tuple #[.agg #[.int .i64 4, .int .i64 n.tok.pos, .string ⟨#[]⟩, .int .i64 0, .slice pa q ca, .slice pc (q + 1) cc, .slice none 0 0], .int .i64 p]) (by simp [results, Try.results56, go_sem, r0, r1, r2, r3, r4, r5, r6]) rfl ?_
          exact jL (by rw [HPQ.out, HEE.out]; dsimp only; rw [HX1.out]) HB.out ⟨_, _, _, _, _, _, _, _, _, _, _, _, _, rfl⟩
        | ok x =>
          obtain ⟨z, rfl, ⟨yk, yp, yz, yi, yq1, yn1, yc1, yq2, yn2, yc2, yq3, yn3, yc3, rfl⟩, hnew, hb⟩ := rtold_ok ht hx1
          have T1 := hid (TWO.out.add hnew ⟨_, _, _, _, _, _, _, _, _, _, _, _, _, rfl⟩ hb)
          have HX1 := hid hx1; clear ht hx1 hb TWO hnew
          obtain ⟨pb, cb, rfl⟩ := jF T1.out.ox
          obtain ⟨pa, ca, rfl⟩ := jF T1.out.on
          replace T1 := hid (T1.out.alloc #[.int .i64 yk, .int .i64 yp, .string yz, .int .i64 yi, .slice yq1 yn1 yc1, .slice yq2 yn2 yc2, .slice yq3 yn3 yc3] 53)
          obtain ⟨gy, hgy⟩ : ∃ gy, gy = w5.heap.size := ⟨_, rfl⟩
          go_upto_region 23 with fail
          rw [← hgy] at T1
          rw [← hgy]
          generalize w5.alloc (.cells #[.int .i64 yk, .int .i64 yp, .string yz, .int .i64 yi, .slice yq1 yn1 yc1, .slice yq2 yn2 yc2, .slice yq3 yn3 yc3] 53) = W5 at *
          clear hgy
          have ET := hid T1.out.et
          have EY := hid (T1.out.bx _ (List.Mem.head _)).2.1
          have etc0 := jA ET.out 0 _ rfl; have ye0 := jA EY.out 0 _ rfl
          have etc1 := jA ET.out 1 _ rfl; have ye1 := jA EY.out 1 _ rfl
          have etc2 := jA ET.out 2 _ rfl; have ye2 := jA EY.out 2 _ rfl
          have etc3 := jA ET.out 3 _ rfl; have ye3 := jA EY.out 3 _ rfl
          have etc4 := jA ET.out 4 _ rfl; have ye4 := jA EY.out 4 _ rfl
          have etc5 := jA ET.out 5 _ rfl; have ye5 := jA EY.out 5 _ rfl
          have etc6 := jA ET.out 6 _ rfl; have ye6 := jA EY.out 6 _ rfl
          have etf := jD ET.out
          go_wp2_with (at_builtin; refine Two.listX (T1.out.alloc #[.int .i64 yk, .int .i64 yp, .string yz, .int .i64 yi, .slice yq1 yn1 yc1, .slice yq2 yn2 yc2, .slice yq3 yn3 yc3] 53) (gb := W5.heap.size) (List.Mem.head _) (by omega) (by simp [Value.oneCell']) rfl (.tmp 102) (.tmp 104) rfl rfl rfl ?_)
          intro v6 w6 h6
          obtain ⟨pc, cc, rfl⟩ := jF h6.ox
          clear ET EY etf etc0 ye0 etc1 ye1 etc2 ye2 etc3 ye3 etc4 ye4 etc5 ye5 etc6 ye6
          have T2 := hid h6; clear h6
          have ET := hid T2.out.et
          have etc0 := jA ET.out 0 _ rfl
          have etc1 := jA ET.out 1 _ rfl
          have etc2 := jA ET.out 2 _ rfl
          have etc3 := jA ET.out 3 _ rfl
          have etc4 := jA ET.out 4 _ rfl
          have etc5 := jA ET.out 5 _ rfl
          have etc6 := jA ET.out 6 _ rfl
          have etf := jD ET.out
          go_upto_region 24 with fail
          clear ET etf etc0 etc1 etc2 etc3 etc4 etc5 etc6
          have T3 := hid (T2.out.st 5 (.slice pc (q + 1) cc) _ _ rfl)
          generalize w6.setCell ⟨w.heap.size + 2, 5, none⟩ (.slice pc (q + 1) cc) = w7 at *
          have ER := hid (ent_low T3.out.low ER0.out (by omega))
          have ET := hid T3.out.et
          have HB := hid (HB0.out.trans (T3.out.low.mono (by omega)))
          have erc0 := jA ER.out 0 _ rfl
          have erc1 := jA ER.out 1 _ rfl
          have erc2 := jA ER.out 2 _ rfl
          have erc3 := jA ER.out 3 _ rfl
          have erc4 := jA ER.out 4 _ rfl
          have erc5 := jA ER.out 5 _ rfl
          have erc6 := jA ER.out 6 _ rfl
          have erf := jD ER.out
          have etc0 := jA ET.out 0 _ rfl
          have etc1 := jA ET.out 1 _ rfl
          have etc2 := jA ET.out 2 _ rfl
          have etc3 := jA ET.out 3 _ rfl
          have etc4 := jA ET.out 4 _ rfl
          have etc5 := jA ET.out 5 _ rfl
          have etc6 := jA ET.out 6 _ rfl
          have etf := jD ET.out
          have HLO := hid (show w.heap.size + 2 < w7.heap.size from T3.out.lt)
          have S1 := hid (Stay.refl (w.heap.size + 3) w7)
          go_wp2_with fail
          replace ER := hid (jU (ER.out) (.int .i64 4) (.int .i64 n.tok.pos) (.string ⟨#[]⟩) (.int .i64 0) (.slice pa q ca) (.slice pc (q + 1) cc) (.slice none 0 0))
          replace ET := hid (jB (jB (jB (jB (jB (jB (jB (ET.out) (w.heap.size + 1) 0 (.int .i64 4) (by omega)) (w.heap.size + 1) 1 (.int .i64 n.tok.pos) (by omega)) (w.heap.size + 1) 2 (.string ⟨#[]⟩) (by omega)) (w.heap.size + 1) 3 (.int .i64 0) (by omega)) (w.heap.size + 1) 4 (.slice pa q ca) (by omega)) (w.heap.size + 1) 5 (.slice pc (q + 1) cc) (by omega)) (w.heap.size + 1) 6 (.slice none 0 0) (by omega))
          replace HB := hid (Below.setCell (Below.setCell (Below.setCell (Below.setCell (Below.setCell (Below.setCell (Below.setCell (HB.out) (p := ⟨w.heap.size + 1, 0, none⟩) (by dsimp only; omega) (.int .i64 4)) (p := ⟨w.heap.size + 1, 1, none⟩) (by dsimp only; omega) (.int .i64 n.tok.pos)) (p := ⟨w.heap.size + 1, 2, none⟩) (by dsimp only; omega) (.string ⟨#[]⟩)) (p := ⟨w.heap.size + 1, 3, none⟩) (by dsimp only; omega) (.int .i64 0)) (p := ⟨w.heap.size + 1, 4, none⟩) (by dsimp only; omega) (.slice pa q ca)) (p := ⟨w.heap.size + 1, 5, none⟩) (by dsimp only; omega) (.slice pc (q + 1) cc)) (p := ⟨w.heap.size + 1, 6, none⟩) (by dsimp only; omega) (.slice none 0 0))
          have r0 := jA ER.out 0 _ rfl
          have r1 := jA ER.out 1 _ rfl
          have r2 := jA ER.out 2 _ rfl
          have r3 := jA ER.out 3 _ rfl
          have r4 := jA ER.out 4 _ rfl
          have r5 := jA ER.out 5 _ rfl
          have r6 := jA ER.out 6 _ rfl
          refine bodyPost_ret (v := .tuple #[.agg #[.int .i64 4, .int .i64 n.tok.pos, .string ⟨#[]⟩, .int .i64 0, .slice pa q ca, .slice pc (q + 1) cc, .slice none 0 0], .int .i64 (-1)]) (by simp [results, Try.results56, go_sem, r0, r1, r2, r3, r4, r5, r6]) rfl ?_
          exact jO (x := Px.Expr.mk 4 n.pos [] 0 (bs.map (·.1)) (bs.map (·.2) ++ [x]) []) (by rw [HPQ.out, HEE.out]; dsimp only; rw [HX1.out]) HB.out ⟨_, _, _, _, _, _, _, _, _, _, _, _, _, rfl⟩ (fun u hu => have hr := T3.out.rows (ns := bs.map (·.1)) (by rw [List.length_append, List.length_map, HBL.out]; rfl) (u := u) (fun b h1 h2 => (hu b (by omega) (by simpa using h2)).trans (set7_other _ _ b _ _ _ _ _ _ _ (by omega))); ⟨_, _, _, rfl, hr.1, hr.2, .inl ⟨rfl, none, 0, rfl⟩⟩)
end Go.Proofs.Ytgoacbomphlhjaa
