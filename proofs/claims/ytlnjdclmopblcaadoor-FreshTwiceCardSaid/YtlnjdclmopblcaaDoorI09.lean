import Derived.Test.YtlnjdclmopblcaaDoorI08
import Derived.Test.YtlnjdclmopblcaaDoorI07
set_option linter.unusedVariables false
set_option linter.unusedSimpArgs false
set_option maxHeartbeats 40000000
set_option maxRecDepth 100000
namespace Go.Proofs.YtlnjdclmopblcaaDoor
open Go Go.RowKit
open Go.Lib (hid)
theorem rX (f k : Nat) (n : Px.Node) (v : Value) (w : World) (hn : Qw (k + 1) w v n) (hg : Px.jq n) (hl : Px.jR n = true) (ih : ∀ j m v w1, j <= k -> Qw j w1 v m -> Px.jq m -> Calls Tryd.prog 47 #[v] w1 (qN w1 (JB f) qH (Px.expr f m))) : Calls Tryd.prog 64 #[v] w (qN w (JB (f + 1)) qH (Px.letExpr (Px.expr f) n)) := by
 have Vv := hid hn; have YZ := hid ih; obtain ⟨lv, rfl, hr⟩ := hn; obtain ⟨q, c, rfl⟩ := hr.len; have HR := hid hr; have HG := hid hg
 have hp0 : Px.letExpr (Px.expr f) n = (match Px.nodes n 3 3 with
  | .error p => .error p
  | .ok l =>
    match Px.nodes (l.getD 1 n) 1 8 with
    | .error p => .error p
    | .ok ps =>
      match Px.each (Px.pair (Px.expr f)) ps with
      | .error p => .error p
      | .ok bs =>
        match Px.expr f (l.getD 2 n) with
        | .error p => .error p
        | .ok x => .ok (.mk 4 n.pos [] 0 (bs.map (·.1)) (bs.map (·.2) ++ [x]) [])) := rfl
 have HP := hid hp0; have HS2 := hid (fun w1 (hb : Below w.heap.size w w1) => Qg (k + 1) n _ 3 3 w1 (Vv.out.below hb) (by omega) (by omega)); clear hr hg hp0 ih; unfold nV at *; rw [hl] at *; clear hl; go_enter Tryd.func64, Tryd.ntmps64; obtain ⟨en, er, et, hb, hsz⟩ := Yv w #[.int .i64 n.tok.kind, .int .i64 n.tok.pos, .string ⟨n.tok.text.toArray⟩, .int .i64 n.tok.int, .bool true, (.slice q n.list.length c)] #[.int .i64 0, .int .i64 0, .string ⟨#[]⟩, .int .i64 0, .slice none 0 0, .slice none 0 0, .slice none 0 0] #[.int .i64 4, .int .i64 n.tok.pos, .string ⟨#[]⟩, .int .i64 0, .slice none 0 0, .slice none 0 0, .slice none 0 0] 73 38 38; have EN := hid en; have ER := hid er; have ET := hid et; have HB := hid hb
 replace hsz := JS hsz.symm; clear en er et hb; go_wp2_with fail; refine (HS2.out _ HB.out).mono ?_; rintro e w1 ⟨rfl, hb⟩; replace hsz := bS hsz hb; replace EN := bE EN hb; replace ER := bE ER hb; replace ET := bE ET hb; replace HB := bT HB hb; clear hb; unfold Zb; cases hnd : Px.nodes n 3 3 with
 | error p =>
   dsimp only
   have hge : (p : Int) >= 0 := by omega
   have Fz := hid hnd; clear hnd
   obtain ⟨J3, J4, qA, qJ, qW, QQ, zN, Qx⟩ := xF7 ER; obtain ⟨j3, jv, jw, JH, JX, Jy, Jz⟩ := xQ7 ET; go_wp2_with fail; replace ER := hid (Je (ER.out) (.int .i64 4) (.int .i64 n.tok.pos) (.string ⟨#[]⟩) (.int .i64 0) (.slice none 0 0) (.slice none 0 0) (.slice none 0 0)); replace HB := xS HB ER; obtain ⟨r0, r1, r2, r3, r4, r5, r6⟩ := xQ7 ER; refine jG (v := .tuple #[.agg #[.int .i64 4, .int .i64 n.tok.pos, .string ⟨#[]⟩, .int .i64 0, .slice none 0 0, .slice none 0 0, .slice none 0 0], .int .i64 p]) (by simp [results, Tryd.results64, go_sem, r0, r1, r2, r3, r4, r5, r6]) rfl ?_; exact jr (by rw [HP.out, Fz.out]) HB ⟨_, _, _, _, _, _, _, _, _, _, _, _, _, rfl⟩
 | ok l =>
   dsimp only
   have hni := JJ hnd; have hll := hni.1; have Qb := hni.2.1; have yu := hni.2.2.1; clear hni; subst hll; have hlen : n.list.length = 3 := by omega
   replace HP := HP.out; rw [hnd] at HP
   dsimp only at HP
   rcases HR.out with ⟨h0, _⟩ | ⟨g, of, c', hv, g1, g2, g3⟩
   . rw [h0] at Qb; simp at Qb
   injection hv with hq1 _ hq2
   subst hq1; subst hq2
   obtain ⟨m1, hm⟩ : ∃ m, n.list[1]? = some m := ⟨_, jA (by omega)⟩
   have VH : n.list.getD 1 n = m1 := by rw [jL, hm]; rfl
   have KQ := hid (HG.out.kid (jI hm)); obtain ⟨u, hu, _, hcell⟩ := g3 1 m1 hm; obtain ⟨iI, Mr, bA, hue, hkr, q0, q1, q2, q3, q4, q5⟩ := Jk hu hcell; subst hue; have Hz := hid hu; have rY := hid hkr
   try simp only [Nat.reduceMul, jZ, JN] at q0 q1 q2 q3 q4 q5
   have Uh := hid q0; have Ui := hid q1; have Uj := hid q2; have Uk := hid q3; have Ul := hid q4; have Um := hid q5
   clear hu hcell hkr q0 q1 q2 q3 q4 q5 hm; obtain ⟨m2, hm⟩ : ∃ m, n.list[2]? = some m := ⟨_, jA (by omega)⟩
   have kQ : n.list.getD 2 n = m2 := by rw [jL, hm]; rfl
   have Mx := hid (HG.out.kid (jI hm)); obtain ⟨u, hu, _, hcell⟩ := g3 2 m2 hm; obtain ⟨Oz, Sw, M6, hue, hkr, q0, q1, q2, q3, q4, q5⟩ := Jk hu hcell; subst hue; have lG := hid hu; have iO := hid hkr
   try simp only [Nat.reduceMul, jZ, JN] at q0 q1 q2 q3 q4 q5
   have lH := hid q0; have lI := hid q1; have lJ := hid q2; have lK := hid q3; have lL := hid q4; have lM := hid q5
   clear hu hcell hkr q0 q1 q2 q3 q4 q5 hm; rw [VH, kQ] at HP; have vV := hid HP; have HKK := hid bA; have hz1 : (1 : Int) < (n.list.length : Int) := by omega
   have hz2 : (2 : Int) < (n.list.length : Int) := by omega
   clear HP VH kQ hnd g3 hlen Qb yu bA M6; have n0 := jC HB Uh; have n1 := jC HB Ui; have n2 := jC HB Uj; have n3 := jC HB Uk; have n4 := jC HB Ul; have n5 := jC HB Um; obtain ⟨Jd, enc1, enc2, enc3, enc4, JZ, QI⟩ := xF6 EN; go_wp2_with fail; clear Jd enc1 enc2 enc3 enc4 JZ QI; clear n0 n1 n2 n3 n4 n5; refine (Qg k m1 _ 1 8 _ (Hz.out.below HB.out) (by omega) (by omega)).mono ?_; rintro e w2 ⟨rfl, hb⟩; replace hsz := bS hsz hb; replace EN := bE EN hb; replace ER := bE ER hb; replace ET := bE ET hb; replace HB := bT HB hb; clear hb; unfold Zb; cases hn1 : Px.nodes m1 1 8 with
   | error p =>
     dsimp only
     have hge : (p : Int) >= 0 := by omega
     have iJ := hid hn1; clear hn1; obtain ⟨J3, J4, qA, qJ, qW, QQ, zN, Qx⟩ := xF7 ER; obtain ⟨j3, jv, jw, JH, JX, Jy, Jz⟩ := xQ7 ET; go_wp2_with fail; replace ER := hid (Je (ER.out) (.int .i64 4) (.int .i64 n.tok.pos) (.string ⟨#[]⟩) (.int .i64 0) (.slice none 0 0) (.slice none 0 0) (.slice none 0 0)); replace HB := xS HB ER; obtain ⟨r0, r1, r2, r3, r4, r5, r6⟩ := xQ7 ER; refine jG (v := .tuple #[.agg #[.int .i64 4, .int .i64 n.tok.pos, .string ⟨#[]⟩, .int .i64 0, .slice none 0 0, .slice none 0 0, .slice none 0 0], .int .i64 p]) (by simp [results, Tryd.results64, go_sem, r0, r1, r2, r3, r4, r5, r6]) rfl ?_; exact jr (by rw [vV.out, iJ.out]) HB ⟨_, _, _, _, _, _, _, _, _, _, _, _, _, rfl⟩
   | ok l1 =>
     dsimp only
     have hni := JJ hn1; have hll := hni.1; have hs1 := hni.2.1; have rZ := hni.2.2.1; clear hni; subst hll; have hpq := vV.out; rw [hn1] at hpq
     dsimp only at hpq
     have Db := hid hpq; clear hpq hn1
     rcases rY.out with ⟨h0, _⟩ | ⟨g1, o1, c1, S9, d1, d2, d3⟩
     . rw [h0] at hs1; simp at hs1
     subst S9; have vW := hid d3; have mJ := hid rZ; clear d1 d2 d3 hs1 rZ; have bB : Two w2 (w.heap.size + 2) f n.tok.pos (.slice none 0 0) (.slice none 0 0) (.slice none 0 0) (.slice none 0 0) (0) (0) ([]) ([]) ([]) ([]) [] w2 := ⟨jD _ _, by omega, ET.out, jo _ _ _ _, jo _ _ _ _, trivial, (fun _ h => by cases h), (fun _ h => by cases h)⟩; have xQ := hid bB; have iP := EN; have Xi := ER; have HB0 := HB
     clear bB EN ER ET HB; go_wp2_with fail
     go_loopw [3, 5, 6, 7, 8, 9, 10, 11] (fun _ _ i _ _ _ _ _ wr => ∃ (q : Nat) (nv xv : Value) (vs : List Value) (bs : List (List UInt8 × Px.Expr)), i = .int .i64 (q : Nat) /\ q <= m1.list.length /\ Hid (Px.each (Px.pair (Px.expr f)) (m1.list.take q) = .ok bs) /\ Hid (bs.length = q) /\ Hid (Two w2 (w.heap.size + 2) f n.tok.pos (nv) (xv) (nv) (xv) (q) (q) (yt (bs.map (·.1))) (vs) (vs) (bs.map (·.2)) [] wr)) (fun _ _ i _ _ _ _ _ _ => m1.list.length - (intOf i).toNat)
     case atStart => exact ⟨0, _, _, [], [], rfl, jh _, hid (by simp [Px.each]), hid rfl, xQ⟩
     case round =>
      clear xQ; obtain ⟨q, nv, xv, vs, bs, rfl, hq, HE, mK, TWO⟩ := hrel; have EN := hid (qV TWO.out.low iP (by omega)); have ET := hid TWO.out.et; have HB := hid (HB0.out.trans (TWO.out.low.mono (by omega))); obtain ⟨Jd, enc1, enc2, enc3, enc4, JZ, QI⟩ := xF6 EN; have n0 := jC HB Uh; have n1 := jC HB Ui; have n2 := jC HB Uj; have n3 := jC HB Uk; have n4 := jC HB Ul; have n5 := jC HB Um; by_cases hlt : q < m1.list.length
      . skip
        have hrow := vW.out; obtain ⟨pn, hm⟩ : ∃ m, m1.list[q]? = some m := ⟨_, jA (by omega)⟩
        have bC : m1.list.getD q n = pn := by rw [jL, hm]; rfl
        have bD := hid (KQ.out.kid (jI hm)); obtain ⟨u, hu, _, hcell⟩ := hrow q pn hm; obtain ⟨iQ, iR, M7, hue, hkr, q0, q1, q2, q3, q4, q5⟩ := Jk hu hcell; subst hue; have bF := hid hm; have M8 := hid hu; have bG := hid hkr
        try simp only [Nat.reduceMul, jZ, JN] at q0 q1 q2 q3 q4 q5
        have M9 := hid q0; have nA := hid q1; have nC := hid q2; have nD := hid q3; have nE := hid q4; have nG := hid q5
        clear hu hcell hkr q0 q1 q2 q3 q4 q5 hm; clear hrow bC; obtain ⟨sI, sJ, rfl⟩ := bG.out.len; have k0 := jC HB M9; have k1 := jC HB nA; have k2 := jC HB nC; have k3 := jC HB nD; have k4 := jC HB nE; have k5 := jC HB nG; go_wp2_with fail; clear Jd enc1 enc2 enc3 enc4 JZ QI; clear n0 n1 n2 n3 n4 n5; clear k0 k1 k2 k3 k4 k5; replace TWO := hid (TWO.out.alloc #[.int .i64 pn.tok.kind, .int .i64 pn.tok.pos, .string ⟨pn.tok.text.toArray⟩, .int .i64 pn.tok.int, .bool (Px.jR pn), .slice sI pn.list.length sJ] 73); have HB2 := hid (HB0.out.trans (TWO.out.low.mono (by omega))); obtain ⟨gb, hgb⟩ : ∃ gb, gb = wr.heap.size := ⟨_, rfl⟩
        rw [<- hgb] at TWO; rw [<- hgb]; generalize wr.alloc (.cells #[.int .i64 pn.tok.kind, .int .i64 pn.tok.pos, .string ⟨pn.tok.text.toArray⟩, .int .i64 pn.tok.int, .bool (Px.jR pn), .slice sI pn.list.length sJ] 73) = wa at *; clear hgb EN ET HB; refine (Qg _ pn _ 2 2 _ (M8.out.below HB2.out) (by omega) (by omega)).mono ?_; rintro e w3 ⟨rfl, hb⟩; replace TWO := hid (TWO.out.below hb); clear hb HB2; unfold Zb; cases hnb : Px.nodes pn 2 2 with
        | error p =>
          dsimp only
          have hge : (p : Int) >= 0 := by omega
          have hx : Px.each (Px.pair (Px.expr f)) m1.list = .error p := (Px.qU bF.out HE.out).2 p (by rw [Px.pair, hnb]); have HX := hid hx; clear hx hnb
          have ER := hid (qV TWO.out.low Xi (by omega)); have ET := hid TWO.out.et; have HB := hid (HB0.out.trans (TWO.out.low.mono (by omega))); obtain ⟨pa, ca, rfl⟩ := jH TWO.out.on; obtain ⟨pb, cb, rfl⟩ := jH TWO.out.ox; obtain ⟨J3, J4, qA, qJ, qW, QQ, zN, Qx⟩ := xF7 ER; obtain ⟨j3, jv, jw, JH, JX, Jy, Jz⟩ := xQ7 ET; go_wp2_with fail; replace ER := hid (Je (ER.out) (.int .i64 4) (.int .i64 n.tok.pos) (.string ⟨#[]⟩) (.int .i64 0) (.slice pa q ca) (.slice pb q cb) (.slice none 0 0)); replace HB := xS HB ER; obtain ⟨r0, r1, r2, r3, r4, r5, r6⟩ := xQ7 ER; refine jG (v := .tuple #[.agg #[.int .i64 4, .int .i64 n.tok.pos, .string ⟨#[]⟩, .int .i64 0, .slice pa q ca, .slice pb q cb, .slice none 0 0], .int .i64 p]) (by simp [results, Tryd.results64, go_sem, r0, r1, r2, r3, r4, r5, r6]) rfl ?_; exact jr (by rw [Db.out, HX.out]) HB ⟨_, _, _, _, _, _, _, _, _, _, _, _, _, rfl⟩
        | ok lb =>
          dsimp only
          have hni := JJ hnb; have hll := hni.1; have hs1 := hni.2.1; have rZ := hni.2.2.1; clear hni; subst hll; have hlp : pn.list.length = 2 := by omega
          rcases bG.out with ⟨h0, _⟩ | ⟨g2, o2, c2, S9, d1, d2, d3⟩
          . rw [h0] at hs1; simp at hs1
          injection S9 with nH _ nI
          subst nH; subst nI
          obtain ⟨b0, hm⟩ : ∃ m, pn.list[0]? = some m := ⟨_, jA (by omega)⟩
          have kR : pn.list.getD 0 n = b0 := by rw [jL, hm]; rfl
          have nJ := hid (bD.out.kid (jI hm)); obtain ⟨u, hu, _, hcell⟩ := d3 0 b0 hm; obtain ⟨jBB, iT, nK, hue, hkr, q0, q1, q2, q3, q4, q5⟩ := Jk hu hcell; subst hue; have tC := hid hu; have iU := hid hkr
          try simp only [Nat.reduceMul, jZ, JN] at q0 q1 q2 q3 q4 q5
          have nL := hid q0; have nM := hid q1; have nN := hid q2; have nO := hid q3; have nP := hid q4; have nQ := hid q5
          clear hu hcell hkr q0 q1 q2 q3 q4 q5 hm; obtain ⟨b1, hm⟩ : ∃ m, pn.list[1]? = some m := ⟨_, jA (by omega)⟩
          have bH : pn.list.getD 1 n = b1 := by rw [jL, hm]; rfl
          have tF := hid (bD.out.kid (jI hm)); obtain ⟨u, hu, _, hcell⟩ := d3 1 b1 hm; obtain ⟨O9, aA, tH, hue, hkr, q0, q1, q2, q3, q4, q5⟩ := Jk hu hcell; subst hue; have tJ := hid hu; have aC := hid hkr
          try simp only [Nat.reduceMul, jZ, JN] at q0 q1 q2 q3 q4 q5
          have tK := hid q0; have tL := hid q1; have tN := hid q2; have tO := hid q3; have tQ := hid q4; have tT := hid q5
          clear hu hcell hkr q0 q1 q2 q3 q4 q5 hm
          have hh0 : pn.list.headD pn = b0 := by
           rw [<- kR]; cases hh : pn.list with
           | nil => rw [hh] at hs1; simp at hs1
           | cons a r => rfl
          have Hy : pn.list.getD 1 pn = b1 := by
           rw [<- bH, jL, jL, jA (by omega)]; rfl
          have gZ : Hid (Px.pair (Px.expr f) pn = (match Px.name b0 with | .error p => .error p | .ok s => match Px.expr f b1 with | .error p => .error p | .ok x => .ok (s, x))) := hid (by rw [Px.pair, hnb]; dsimp only; rw [hh0, Hy]; rfl); have CV : Hid (O9 + 1 <= k) := hid (by have := HKK.out; omega); have aD : Hid (iQ = O9 + 1) := hid (by omega); have hp1 : (1 : Int) < (pn.list.length : Int) := by omega
          clear hh0 Hy kR bH hnb d1 d2 d3 hs1 rZ hlp nK tH M7; have EB := hid (TWO.out.bx _ (List.Mem.head _)).2.1; obtain ⟨bc0, bc1, bc2, bc3, Xj, Xk, bf⟩ := xF6 EB; have ET := hid TWO.out.et; have HB := hid (HB0.out.trans (TWO.out.low.mono (by omega))); have n0 := jC HB nL; have n1 := jC HB nM; have n2 := jC HB nN; have n3 := jC HB nO; have n4 := jC HB nP; have n5 := jC HB nQ; go_wp2_with fail; clear n0 n1 n2 n3 n4 n5; clear EB bc0 bc1 bc2 bc3 Xj Xk bf; refine (YJ b0 _ _ nJ).mono ?_; intro e w4 ht; clear ET HB; cases hnm : Px.name b0 with
          | error p =>
            obtain ⟨z, rfl, ⟨zs, rfl⟩, hb⟩ := Jb ht hnm; have hge : (p : Int) >= 0 := by omega
            replace TWO := hid (TWO.out.below hb); have hx : Px.each (Px.pair (Px.expr f)) m1.list = .error p := (Px.qU bF.out HE.out).2 p (by rw [gZ.out, hnm]); have HX := hid hx; clear hx hnm hb ht
            have ER := hid (qV TWO.out.low Xi (by omega)); have ET := hid TWO.out.et; have HB := hid (HB0.out.trans (TWO.out.low.mono (by omega))); obtain ⟨pa, ca, rfl⟩ := jH TWO.out.on; obtain ⟨pb, cb, rfl⟩ := jH TWO.out.ox; obtain ⟨J3, J4, qA, qJ, qW, QQ, zN, Qx⟩ := xF7 ER; obtain ⟨j3, jv, jw, JH, JX, Jy, Jz⟩ := xQ7 ET; go_wp2_with fail; replace ER := hid (Je (ER.out) (.int .i64 4) (.int .i64 n.tok.pos) (.string ⟨#[]⟩) (.int .i64 0) (.slice pa q ca) (.slice pb q cb) (.slice none 0 0)); replace HB := xS HB ER; obtain ⟨r0, r1, r2, r3, r4, r5, r6⟩ := xQ7 ER; refine jG (v := .tuple #[.agg #[.int .i64 4, .int .i64 n.tok.pos, .string ⟨#[]⟩, .int .i64 0, .slice pa q ca, .slice pb q cb, .slice none 0 0], .int .i64 p]) (by simp [results, Tryd.results64, go_sem, r0, r1, r2, r3, r4, r5, r6]) rfl ?_; exact jr (by rw [Db.out, HX.out]) HB ⟨_, _, _, _, _, _, _, _, _, _, _, _, _, rfl⟩
          | ok s =>
            obtain ⟨z, rfl, _, hnew, hb⟩ := Jm ht hnm; obtain rfl : z = .string ⟨s.toArray⟩ := hnew.now; replace TWO := hid (TWO.out.below hb); have VE := hid hnm; clear ht hnm hnew hb
            have EB := hid (TWO.out.bx _ (List.Mem.head _)).2.1; obtain ⟨bc0, bc1, bc2, bc3, Xj, Xk, bf⟩ := xF6 EB; have ET := hid TWO.out.et; have HB := hid (HB0.out.trans (TWO.out.low.mono (by omega))); have n0 := jC HB tK; have n1 := jC HB tL; have n2 := jC HB tN; have n3 := jC HB tO; have n4 := jC HB tQ; have n5 := jC HB tT; go_wp2_with fail; clear n0 n1 n2 n3 n4 n5; clear EB bc0 bc1 bc2 bc3 Xj Xk bf; refine (YZ.out _ b1 _ _ (by have := CV.out; have := aD.out; omega) (tJ.out.below HB.out) tF.out).mono ?_; intro e w5 ht; clear ET HB; cases hx1 : Px.expr f b1 with
            | error p =>
              obtain ⟨z, rfl, ⟨yk, yp, yz, yi, Q6, Q7, Q8, zH, zI, zJ, zX, zY, zZ, rfl⟩, hb⟩ := Jb ht hx1; have hge : (p : Int) >= 0 := by omega
              replace TWO := hid ((TWO.out.below hb).alloc #[.int .i64 yk, .int .i64 yp, .string yz, .int .i64 yi, .slice Q6 Q7 Q8, .slice zH zI zJ, .slice zX zY zZ] 38); have hx : Px.each (Px.pair (Px.expr f)) m1.list = .error p := (Px.qU bF.out HE.out).2 p (by rw [gZ.out, VE.out]; dsimp only; rw [hx1]); have HX := hid hx; clear hx hx1 hb ht
              have ER := hid (qV TWO.out.low Xi (by omega)); have ET := hid TWO.out.et; have HB := hid (HB0.out.trans (TWO.out.low.mono (by omega))); obtain ⟨pa, ca, rfl⟩ := jH TWO.out.on; obtain ⟨pb, cb, rfl⟩ := jH TWO.out.ox; obtain ⟨J3, J4, qA, qJ, qW, QQ, zN, Qx⟩ := xF7 ER; obtain ⟨j3, jv, jw, JH, JX, Jy, Jz⟩ := xQ7 ET; go_wp2_with fail; replace ER := hid (Je (ER.out) (.int .i64 4) (.int .i64 n.tok.pos) (.string ⟨#[]⟩) (.int .i64 0) (.slice pa q ca) (.slice pb q cb) (.slice none 0 0)); replace HB := xS HB ER; obtain ⟨r0, r1, r2, r3, r4, r5, r6⟩ := xQ7 ER; refine jG (v := .tuple #[.agg #[.int .i64 4, .int .i64 n.tok.pos, .string ⟨#[]⟩, .int .i64 0, .slice pa q ca, .slice pb q cb, .slice none 0 0], .int .i64 p]) (by simp [results, Tryd.results64, go_sem, r0, r1, r2, r3, r4, r5, r6]) rfl ?_; exact jr (by rw [Db.out, HX.out]) HB ⟨_, _, _, _, _, _, _, _, _, _, _, _, _, rfl⟩
            | ok x =>
              obtain ⟨z, rfl, ⟨yk, yp, yz, yi, Q6, Q7, Q8, zH, zI, zJ, zX, zY, zZ, rfl⟩, hnew, hb⟩ := Jm ht hx1; replace TWO := hid ((TWO.out.add hnew ⟨_, _, _, _, _, _, _, _, _, _, _, _, _, rfl⟩ hb).alloc #[.int .i64 yk, .int .i64 yp, .string yz, .int .i64 yi, .slice Q6 Q7 Q8, .slice zH zI zJ, .slice zX zY zZ] 38); have Yl := hid hx1; clear ht hx1 hnew hb
              go_upto_region 21 with fail
              obtain ⟨gy, Dc⟩ : ∃ gy, gy = w5.heap.size := ⟨_, rfl⟩
              rw [<- Dc] at TWO; rw [<- Dc]; generalize w5.alloc (.cells #[.int .i64 yk, .int .i64 yp, .string yz, .int .i64 yi, .slice Q6 Q7 Q8, .slice zH zI zJ, .slice zX zY zZ] 38) = W5 at *; clear Dc; have hone : Px.pair (Px.expr f) pn = .ok (s, x) := by rw [gZ.out, VE.out]; dsimp only; rw [Yl.out]
              have UB := hid ((Px.qU bF.out HE.out).1 (s, x) hone); clear hone
              have nR := hid (show ∀ (LL : List (Nat × Obj)) (a b : Value) (u : World), Two w2 (w.heap.size + 2) f n.tok.pos a b a b (q + 1) (q + 1) (yt (bs.map (·.1)) ++ [.string ⟨s.toArray⟩]) (vs ++ [.agg #[.int .i64 yk, .int .i64 yp, .string yz, .int .i64 yi, .slice Q6 Q7 Q8, .slice zH zI zJ, .slice zX zY zZ]]) (vs ++ [.agg #[.int .i64 yk, .int .i64 yp, .string yz, .int .i64 yi, .slice Q6 Q7 Q8, .slice zH zI zJ, .slice zX zY zZ]]) (bs.map (·.2) ++ [x]) LL u -> Two w2 (w.heap.size + 2) f n.tok.pos (a) (b) (a) (b) (q + 1) (q + 1) (yt ((bs ++ [(s, x)]).map (·.1))) (vs ++ [.agg #[.int .i64 yk, .int .i64 yp, .string yz, .int .i64 yi, .slice Q6 Q7 Q8, .slice zH zI zJ, .slice zX zY zZ]]) (vs ++ [.agg #[.int .i64 yk, .int .i64 yp, .string yz, .int .i64 yi, .slice Q6 Q7 Q8, .slice zH zI zJ, .slice zX zY zZ]]) ((bs ++ [(s, x)]).map (·.2)) [] u from fun LL a b u h => by
              have e1 : yt ((bs ++ [(s, x)]).map (·.1)) = yt (bs.map (·.1)) ++ [.string ⟨s.toArray⟩] := by simp [yt]
              have e2 : (bs ++ [(s, x)]).map (·.2) = bs.map (·.2) ++ [x] := by simp
              rw [e1, e2]; exact h.only (fun _ h => by cases h))
              have TD := hid (TWO.out.below ((jD _ _).drew)); clear TWO
              have hq8 : q <= 8 := by have := mJ.out; omega
              refine H9 (S := S3 4 9 8 (fun u => u.cell? ⟨w.heap.size + 2, 4, none⟩ = some nv) (fun u => u.cell? ⟨w.heap.size + 2, 5, none⟩ = some xv) (fun u => u.heap[gy]? = some (.cells #[.int .i64 yk, .int .i64 yp, .string yz, .int .i64 yi, .slice Q6 Q7 Q8, .slice zH zI zJ, .slice zX zY zZ] 38 (0, 0)))) (by kernel_rfl) ?_; have mM := hid (fun l => Two.s3 TD (List.Mem.head _) (l := l) (fun _ => rfl) (fun _ => rfl)); refine Q5 (i := 0) 1 (v := .pointer (some ⟨w.heap.size + 2, 4, none⟩)) rfl (by kernel_rfl) (by kernel_rfl) (by kernel_rfl) (fun _ _ _ h => h) (by kernel_rfl) (by kernel_rfl) (S3.iff (by decide) (by decide) (by decide)) (Or.inl ⟨by rfl, fun u hu => by go_simp⟩) (mM.out _) ?_; refine Q5 (i := 1) 4 (v := nv) rfl (by kernel_rfl) (by kernel_rfl) (by kernel_rfl) (fun _ _ _ h => h) (by kernel_rfl) (by kernel_rfl) (S3.iff (by decide) (by decide) (by decide)) (Or.inl ⟨by rfl, fun u hu => by obtain ⟨m, hm, h⟩ := hu; have h1 := h.1 hm; go_simp⟩) (mM.out _) ?_; refine Q5 (i := 2) 3 (v := .string ⟨s.toArray⟩) rfl (by kernel_rfl) (by kernel_rfl) (by kernel_rfl) (fun _ _ _ h => h) (by kernel_rfl) (by kernel_rfl) (S3.iff (by decide) (by decide) (by decide)) (Or.inl ⟨by rfl, fun u hu => by go_simp⟩) (mM.out _) ?_; refine Q5 (i := 5) 6 (v := .pointer (some ⟨w.heap.size + 2, 5, none⟩)) rfl (by kernel_rfl) (by kernel_rfl) (by kernel_rfl) (fun _ _ _ h => h) (by kernel_rfl) (by kernel_rfl) (S3.iff (by decide) (by decide) (by decide)) (Or.inl ⟨by rfl, fun u hu => by go_simp⟩) (mM.out _) ?_; refine Q5 (i := 6) 9 (v := xv) rfl (by kernel_rfl) (by kernel_rfl) (by kernel_rfl) (fun _ _ _ h => h) (by kernel_rfl) (by kernel_rfl) (S3.iff (by decide) (by decide) (by decide)) (Or.inl ⟨by rfl, fun u hu => by obtain ⟨m, hm, h⟩ := hu; have h1 := h.2.1 hm; go_simp⟩) (mM.out _) ?_; refine Q5 (i := 7) 8 (v := .agg #[.int .i64 yk, .int .i64 yp, .string yz, .int .i64 yi, .slice Q6 Q7 Q8, .slice zH zI zJ, .slice zX zY zZ]) rfl (by kernel_rfl) (by kernel_rfl) (by kernel_rfl) (fun _ _ _ h => h) (by kernel_rfl) (by kernel_rfl) (S3.iff (by decide) (by decide) (by decide)) (Or.inl ⟨by rfl, fun u hu => by obtain ⟨m, hm, h⟩ := hu; have h1 := h.2.2 hm; have y0 := xK h1 0 rfl; have y1 := xK h1 1 rfl; have y2 := xK h1 2 rfl; have y3 := xK h1 3 rfl; have y4 := xK h1 4 rfl; have y5 := xK h1 5 rfl; have y6 := xK h1 6 rfl; go_simp⟩) (mM.out _) ?_; clear mM; generalize W5.drew = W6 at *; refine kP (i := 3) (j := 8) (by kernel_rfl) rfl rfl (fun K hK => ?_) (fun K hK => ?_)
              . skip
                go_simp; have T1 := hid (TD.out.alloc #[.string ⟨s.toArray⟩] 9); refine hK.out _ _ (Two.s3 T1 (List.Mem.tail _ (List.Mem.head _)) (fun _ => rfl) (fun _ => rfl)) ?_; clear hK K; obtain ⟨g1, hgg⟩ : ∃ g, g = W6.heap.size := ⟨_, rfl⟩
                rw [<- hgg] at T1 ⊢; generalize (W6.alloc (.cells #[.string ⟨s.toArray⟩] 9)) = iV at T1 ⊢; clear hgg; refine kP (i := 4) (j := 8) (by kernel_rfl) rfl rfl (fun K hK => ?_) (fun K hK => ?_)
                . skip
                  refine Two.Mv T1 (s := ⟨s.toArray⟩) (gb := g1) (List.Mem.head _) (by omega) rfl (.tmp 82) (.tmp 84) rfl rfl rfl ?_; intro v2 u2 h2; obtain ⟨p2, e2, rfl⟩ := jH h2.on; have T2 := hid h2; clear h2
                  refine hK.out _ _ (Two.s3 T2 (List.Mem.tail _ (List.Mem.head _)) (fun h => Bool.noConfusion (show true = false from h)) (fun _ => rfl)) ?_; clear hK K; refine Q5 (i := 10) 11 (v := .pointer (some ⟨w.heap.size + 2, 4, none⟩)) rfl (by kernel_rfl) (by kernel_rfl) (by kernel_rfl) (fun _ _ _ h => h) (by kernel_rfl) (by kernel_rfl) (S3.iff (by decide) (by decide) (by decide)) (Or.inl ⟨by rfl, fun u hu => by go_simp⟩) (Two.s3 T2 (List.Mem.tail _ (List.Mem.head _)) (fun h => Bool.noConfusion (show true = false from h)) (fun _ => rfl)) ?_; refine QE (i := 8) (by kernel_rfl) rfl (fun K hK => ?_); go_simp; have T3 := hid (T2.out.alloc #[.int .i64 yk, .int .i64 yp, .string yz, .int .i64 yi, .slice Q6 Q7 Q8, .slice zH zI zJ, .slice zX zY zZ] 38); refine hK.out _ _ (Two.s3 T3 (List.Mem.tail _ (List.Mem.tail _ (List.Mem.head _))) (fun h => Bool.noConfusion (show true = false from h)) (fun _ => rfl)) ?_; clear hK K; obtain ⟨g3, hgg⟩ : ∃ g, g = u2.heap.size := ⟨_, rfl⟩
                  rw [<- hgg] at T3 ⊢; generalize (u2.alloc (.cells #[.int .i64 yk, .int .i64 yp, .string yz, .int .i64 yi, .slice Q6 Q7 Q8, .slice zH zI zJ, .slice zX zY zZ] 38)) = jE3 at T3 ⊢; clear hgg; refine QE (i := 9) (by kernel_rfl) rfl (fun K hK => ?_); refine Two.Mw T3 (gb := g3) (List.Mem.head _) (by omega) (by simp [Value.oneCell']) rfl (.tmp 87) (.tmp 89) rfl rfl rfl ?_; intro v4 u4 h4; obtain ⟨p4, e4, rfl⟩ := jH h4.ox; have T4 := hid h4; clear h4
                  refine hK.out _ _ (Two.s3 T4 (List.Mem.tail _ (List.Mem.tail _ (List.Mem.head _))) (fun h => Bool.noConfusion (show true = false from h)) (fun h => Bool.noConfusion (show true = false from h))) ?_; clear hK K; refine QE (i := 11) (by kernel_rfl) rfl (fun K hK => ?_); have ET := hid T4.out.et; obtain ⟨j3, jv, jw, JH, JX, Jy, Jz, QH⟩ := xF7 ET; go_simp; clear ET QH j3 jv jw JH JX Jy Jz; have T5 := hid (T4.out.st 4 (.slice p2 (q + 1) e2) _ _ rfl); refine hK.out _ _ (Two.s3 T5 (List.Mem.tail _ (List.Mem.tail _ (List.Mem.head _))) (fun h => Bool.noConfusion (show true = false from h)) (fun h => Bool.noConfusion (show true = false from h))) ?_; clear hK K; refine Q5 (i := 12) 13 (v := .pointer (some ⟨w.heap.size + 2, 5, none⟩)) rfl (by kernel_rfl) (by kernel_rfl) (by kernel_rfl) (fun _ _ _ h => h) (by kernel_rfl) (by kernel_rfl) (S3.iff (by decide) (by decide) (by decide)) (Or.inl ⟨by rfl, fun u hu => by go_simp⟩) (Two.s3 T5 (List.Mem.tail _ (List.Mem.tail _ (List.Mem.head _))) (fun h => Bool.noConfusion (show true = false from h)) (fun h => Bool.noConfusion (show true = false from h))) ?_; refine QE (i := 13) (by kernel_rfl) rfl (fun K hK => ?_); have ET := hid T5.out.et; obtain ⟨j3, jv, jw, JH, JX, Jy, Jz, QH⟩ := xF7 ET; go_simp; clear ET QH j3 jv jw JH JX Jy Jz; have T6 := hid (T5.out.st 5 (.slice p4 (q + 1) e4) _ _ rfl); refine hK.out _ _ (Two.s3 T6 (List.Mem.tail _ (List.Mem.tail _ (List.Mem.head _))) (fun h => Bool.noConfusion (show true = false from h)) (fun h => Bool.noConfusion (show true = false from h))) ?_; clear hK K; refine Uo (by kernel_rfl) ?_ _
                  try simp only [Act.put, jd, JE, JF]
                  have kS := nR.out _ _ _ _ T6.out; have bI := hid kS; clear kS; go_wp2_with fail
                  go_roundw
                  case rel => exact ⟨q + 1, _, _, vs ++ [.agg #[.int .i64 yk, .int .i64 yp, .string yz, .int .i64 yi, .slice Q6 Q7 Q8, .slice zH zI zJ, .slice zX zY zZ]], bs ++ [(s, x)], by go_num, by omega, UB, hid (by rw [jE, mK.out]; rfl), bI⟩
                  case measure => simp [intOf]; omega
                . skip
                  go_simp; have T7 := hid (T1.out.alloc #[.int .i64 yk, .int .i64 yp, .string yz, .int .i64 yi, .slice Q6 Q7 Q8, .slice zH zI zJ, .slice zX zY zZ] 38); refine hK.out _ _ (Two.s3 T7 (List.Mem.tail _ (List.Mem.tail _ (List.Mem.head _))) (fun _ => rfl) (fun _ => rfl)) ?_; clear hK K; obtain ⟨g7, hgg⟩ : ∃ g, g = iV.heap.size := ⟨_, rfl⟩
                  rw [<- hgg] at T7 ⊢; generalize (iV.alloc (.cells #[.int .i64 yk, .int .i64 yp, .string yz, .int .i64 yi, .slice Q6 Q7 Q8, .slice zH zI zJ, .slice zX zY zZ] 38)) = jE4 at T7 ⊢; clear hgg; refine QE (i := 4) (by kernel_rfl) rfl (fun K hK => ?_); refine Two.Mv T7 (s := ⟨s.toArray⟩) (gb := g1) (List.Mem.tail _ (List.Mem.head _)) (by omega) rfl (.tmp 82) (.tmp 84) rfl rfl rfl ?_; intro v8 u8 h8; obtain ⟨p8, e8, rfl⟩ := jH h8.on; have T8 := hid h8; clear h8
                  refine hK.out _ _ (Two.s3 T8 (List.Mem.tail _ (List.Mem.tail _ (List.Mem.head _))) (fun h => Bool.noConfusion (show true = false from h)) (fun _ => rfl)) ?_; clear hK K; refine Q5 (i := 10) 11 (v := .pointer (some ⟨w.heap.size + 2, 4, none⟩)) rfl (by kernel_rfl) (by kernel_rfl) (by kernel_rfl) (fun _ _ _ h => h) (by kernel_rfl) (by kernel_rfl) (S3.iff (by decide) (by decide) (by decide)) (Or.inl ⟨by rfl, fun u hu => by go_simp⟩) (Two.s3 T8 (List.Mem.tail _ (List.Mem.tail _ (List.Mem.head _))) (fun h => Bool.noConfusion (show true = false from h)) (fun _ => rfl)) ?_; refine QE (i := 9) (by kernel_rfl) rfl (fun K hK => ?_); refine Two.Mw T8 (gb := g7) (List.Mem.head _) (by omega) (by simp [Value.oneCell']) rfl (.tmp 87) (.tmp 89) rfl rfl rfl ?_; intro v9 u9 h9; obtain ⟨p9, e9, rfl⟩ := jH h9.ox; have T9 := hid h9; clear h9
                  refine hK.out _ _ (Two.s3 T9 (List.Mem.tail _ (List.Mem.tail _ (List.Mem.head _))) (fun h => Bool.noConfusion (show true = false from h)) (fun h => Bool.noConfusion (show true = false from h))) ?_; clear hK K; refine QE (i := 11) (by kernel_rfl) rfl (fun K hK => ?_); have ET := hid T9.out.et; obtain ⟨j3, jv, jw, JH, JX, Jy, Jz, QH⟩ := xF7 ET; go_simp; clear ET QH j3 jv jw JH JX Jy Jz; have OE := hid (T9.out.st 4 (.slice p8 (q + 1) e8) _ _ rfl); refine hK.out _ _ (Two.s3 OE (List.Mem.tail _ (List.Mem.tail _ (List.Mem.head _))) (fun h => Bool.noConfusion (show true = false from h)) (fun h => Bool.noConfusion (show true = false from h))) ?_; clear hK K; refine Q5 (i := 12) 13 (v := .pointer (some ⟨w.heap.size + 2, 5, none⟩)) rfl (by kernel_rfl) (by kernel_rfl) (by kernel_rfl) (fun _ _ _ h => h) (by kernel_rfl) (by kernel_rfl) (S3.iff (by decide) (by decide) (by decide)) (Or.inl ⟨by rfl, fun u hu => by go_simp⟩) (Two.s3 OE (List.Mem.tail _ (List.Mem.tail _ (List.Mem.head _))) (fun h => Bool.noConfusion (show true = false from h)) (fun h => Bool.noConfusion (show true = false from h))) ?_; refine QE (i := 13) (by kernel_rfl) rfl (fun K hK => ?_); have ET := hid OE.out.et; obtain ⟨j3, jv, jw, JH, JX, Jy, Jz, QH⟩ := xF7 ET; go_simp; clear ET QH j3 jv jw JH JX Jy Jz; have jBC := hid (OE.out.st 5 (.slice p9 (q + 1) e9) _ _ rfl); refine hK.out _ _ (Two.s3 jBC (List.Mem.tail _ (List.Mem.tail _ (List.Mem.head _))) (fun h => Bool.noConfusion (show true = false from h)) (fun h => Bool.noConfusion (show true = false from h))) ?_; clear hK K; refine Uo (by kernel_rfl) ?_ _
                  try simp only [Act.put, jd, JE, JF]
                  have kS := nR.out _ _ _ _ jBC.out; have bI := hid kS; clear kS; go_wp2_with fail
                  go_roundw
                  case rel => exact ⟨q + 1, _, _, vs ++ [.agg #[.int .i64 yk, .int .i64 yp, .string yz, .int .i64 yi, .slice Q6 Q7 Q8, .slice zH zI zJ, .slice zX zY zZ]], bs ++ [(s, x)], by go_num, by omega, UB, hid (by rw [jE, mK.out]; rfl), bI⟩
                  case measure => simp [intOf]; omega
              . skip
                go_simp; have OG := hid (TD.out.alloc #[.int .i64 yk, .int .i64 yp, .string yz, .int .i64 yi, .slice Q6 Q7 Q8, .slice zH zI zJ, .slice zX zY zZ] 38); refine hK.out _ _ (Two.s3 OG (List.Mem.tail _ (List.Mem.head _)) (fun _ => rfl) (fun _ => rfl)) ?_; clear hK K; obtain ⟨g12, hgg⟩ : ∃ g, g = W6.heap.size := ⟨_, rfl⟩
                rw [<- hgg] at OG ⊢; generalize (W6.alloc (.cells #[.int .i64 yk, .int .i64 yp, .string yz, .int .i64 yi, .slice Q6 Q7 Q8, .slice zH zI zJ, .slice zX zY zZ] 38)) = iW at OG ⊢; clear hgg; refine QE (i := 3) (by kernel_rfl) rfl (fun K hK => ?_); go_simp; have OH := hid (OG.out.alloc #[.string ⟨s.toArray⟩] 9); refine hK.out _ _ (Two.s3 OH (List.Mem.tail _ (List.Mem.tail _ (List.Mem.head _))) (fun _ => rfl) (fun _ => rfl)) ?_; clear hK K; obtain ⟨g13, hgg⟩ : ∃ g, g = iW.heap.size := ⟨_, rfl⟩
                rw [<- hgg] at OH ⊢; generalize (iW.alloc (.cells #[.string ⟨s.toArray⟩] 9)) = jE5 at OH ⊢; clear hgg; refine QE (i := 4) (by kernel_rfl) rfl (fun K hK => ?_); refine Two.Mv OH (s := ⟨s.toArray⟩) (gb := g13) (List.Mem.head _) (by omega) rfl (.tmp 82) (.tmp 84) rfl rfl rfl ?_; intro v14 jHM aF; obtain ⟨jE6, e14, rfl⟩ := jH aF.on; have aG := hid aF; clear aF
                refine hK.out _ _ (Two.s3 aG (List.Mem.tail _ (List.Mem.tail _ (List.Mem.head _))) (fun h => Bool.noConfusion (show true = false from h)) (fun _ => rfl)) ?_; clear hK K; refine Q5 (i := 10) 11 (v := .pointer (some ⟨w.heap.size + 2, 4, none⟩)) rfl (by kernel_rfl) (by kernel_rfl) (by kernel_rfl) (fun _ _ _ h => h) (by kernel_rfl) (by kernel_rfl) (S3.iff (by decide) (by decide) (by decide)) (Or.inl ⟨by rfl, fun u hu => by go_simp⟩) (Two.s3 aG (List.Mem.tail _ (List.Mem.tail _ (List.Mem.head _))) (fun h => Bool.noConfusion (show true = false from h)) (fun _ => rfl)) ?_; refine QE (i := 9) (by kernel_rfl) rfl (fun K hK => ?_); refine Two.Mw aG (gb := g12) (List.Mem.tail _ (List.Mem.head _)) (by omega) (by simp [Value.oneCell']) rfl (.tmp 87) (.tmp 89) rfl rfl rfl ?_; intro v15 jHN aH; obtain ⟨jE7, e15, rfl⟩ := jH aH.ox; have aI := hid aH; clear aH
                refine hK.out _ _ (Two.s3 aI (List.Mem.tail _ (List.Mem.tail _ (List.Mem.head _))) (fun h => Bool.noConfusion (show true = false from h)) (fun h => Bool.noConfusion (show true = false from h))) ?_; clear hK K; refine QE (i := 11) (by kernel_rfl) rfl (fun K hK => ?_); have ET := hid aI.out.et; obtain ⟨j3, jv, jw, JH, JX, Jy, Jz, QH⟩ := xF7 ET; go_simp; clear ET QH j3 jv jw JH JX Jy Jz; have OI := hid (aI.out.st 4 (.slice jE6 (q + 1) e14) _ _ rfl); refine hK.out _ _ (Two.s3 OI (List.Mem.tail _ (List.Mem.tail _ (List.Mem.head _))) (fun h => Bool.noConfusion (show true = false from h)) (fun h => Bool.noConfusion (show true = false from h))) ?_; clear hK K; refine Q5 (i := 12) 13 (v := .pointer (some ⟨w.heap.size + 2, 5, none⟩)) rfl (by kernel_rfl) (by kernel_rfl) (by kernel_rfl) (fun _ _ _ h => h) (by kernel_rfl) (by kernel_rfl) (S3.iff (by decide) (by decide) (by decide)) (Or.inl ⟨by rfl, fun u hu => by go_simp⟩) (Two.s3 OI (List.Mem.tail _ (List.Mem.tail _ (List.Mem.head _))) (fun h => Bool.noConfusion (show true = false from h)) (fun h => Bool.noConfusion (show true = false from h))) ?_; refine QE (i := 13) (by kernel_rfl) rfl (fun K hK => ?_); have ET := hid OI.out.et; obtain ⟨j3, jv, jw, JH, JX, Jy, Jz, QH⟩ := xF7 ET; go_simp; clear ET QH j3 jv jw JH JX Jy Jz; have jBD := hid (OI.out.st 5 (.slice jE7 (q + 1) e15) _ _ rfl); refine hK.out _ _ (Two.s3 jBD (List.Mem.tail _ (List.Mem.tail _ (List.Mem.head _))) (fun h => Bool.noConfusion (show true = false from h)) (fun h => Bool.noConfusion (show true = false from h))) ?_; clear hK K; refine Uo (by kernel_rfl) ?_ _
                try simp only [Act.put, jd, JE, JF]
                have kS := nR.out _ _ _ _ jBD.out; have bI := hid kS; clear kS; go_wp2_with fail
                go_roundw
                case rel => exact ⟨q + 1, _, _, vs ++ [.agg #[.int .i64 yk, .int .i64 yp, .string yz, .int .i64 yi, .slice Q6 Q7 Q8, .slice zH zI zJ, .slice zX zY zZ]], bs ++ [(s, x)], by go_num, by omega, UB, hid (by rw [jE, mK.out]; rfl), bI⟩
                case measure => simp [intOf]; omega
      . skip
        have hqe : q = m1.list.length := by omega
        have he := HE.out; rw [hqe, jY] at he; have uh := hid he; clear he
        clear hqe; have k0 := jC HB lH; have k1 := jC HB lI; have k2 := jC HB lJ; have k3 := jC HB lK; have k4 := jC HB lL; have k5 := jC HB lM; go_wp2_with fail; clear Jd enc1 enc2 enc3 enc4 JZ QI; clear n0 n1 n2 n3 n4 n5; clear k0 k1 k2 k3 k4 k5; refine (YZ.out _ m2 _ _ (jB _) (lG.out.below HB.out) Mx.out).mono ?_; intro e w5 ht; clear EN ET HB; have hq8 : q <= 8 := by have := mJ.out; omega
        cases hx1 : Px.expr f m2 with
        | error p =>
          obtain ⟨z, rfl, ⟨yk, yp, yz, yi, Q6, Q7, Q8, zH, zI, zJ, zX, zY, zZ, rfl⟩, hb⟩ := Jb ht hx1; have T1 := hid (TWO.out.below hb); have Yl := hid hx1; clear ht hx1 hb TWO
          obtain ⟨pb, cb, rfl⟩ := jH T1.out.ox; obtain ⟨pa, ca, rfl⟩ := jH T1.out.on; replace T1 := hid (T1.out.alloc #[.int .i64 yk, .int .i64 yp, .string yz, .int .i64 yi, .slice Q6 Q7 Q8, .slice zH zI zJ, .slice zX zY zZ] 38); obtain ⟨gy, Dc⟩ : ∃ gy, gy = w5.heap.size := ⟨_, rfl⟩
          go_upto_region 23 with fail
          rw [<- Dc] at T1; rw [<- Dc]; generalize w5.alloc (.cells #[.int .i64 yk, .int .i64 yp, .string yz, .int .i64 yi, .slice Q6 Q7 Q8, .slice zH zI zJ, .slice zX zY zZ] 38) = W5 at *; clear Dc; have ET := hid T1.out.et; have EY := hid (T1.out.bx _ (List.Mem.head _)).2.1; have j3 := xK ET 0 rfl; have iX := xK EY 0 rfl; have jv := xK ET 1 rfl; have iY := xK EY 1 rfl; have jw := xK ET 2 rfl; have iZ := xK EY 2 rfl; have JH := xK ET 3 rfl; have ig := xK EY 3 rfl; have JX := xK ET 4 rfl; have ik := xK EY 4 rfl; have Jy := xK ET 5 rfl; have il := xK EY 5 rfl; have Jz := xK ET 6 rfl; have iq := xK EY 6 rfl; have QH := jX ET; go_wp2_with (at_builtin; refine Two.sH (T1.out.alloc #[.int .i64 yk, .int .i64 yp, .string yz, .int .i64 yi, .slice Q6 Q7 Q8, .slice zH zI zJ, .slice zX zY zZ] 38) (gb := W5.heap.size) (List.Mem.head _) (by omega) (by simp [Value.oneCell']) rfl (.tmp 102) (.tmp 104) rfl rfl rfl ?_); intro v6 w6 h6; obtain ⟨pc, cc, rfl⟩ := jH h6.ox; clear ET EY QH j3 iX jv iY jw iZ JH ig JX ik Jy il Jz iq; have T2 := hid h6; clear h6
          have ET := hid T2.out.et; obtain ⟨j3, jv, jw, JH, JX, Jy, Jz, QH⟩ := xF7 ET; go_upto_region 24 with fail
          clear ET QH j3 jv jw JH JX Jy Jz; have T3 := hid (T2.out.st 5 (.slice pc (q + 1) cc) _ _ rfl); generalize w6.setCell ⟨w.heap.size + 2, 5, none⟩ (.slice pc (q + 1) cc) = w7 at *; have ER := hid (qV T3.out.low Xi (by omega)); have ET := hid T3.out.et; have HB := hid (HB0.out.trans (T3.out.low.mono (by omega))); obtain ⟨J3, J4, qA, qJ, qW, QQ, zN, Qx⟩ := xF7 ER; obtain ⟨j3, jv, jw, JH, JX, Jy, Jz⟩ := xQ7 ET; go_wp2_with fail; replace ER := hid (Je (ER.out) (.int .i64 4) (.int .i64 n.tok.pos) (.string ⟨#[]⟩) (.int .i64 0) (.slice pa q ca) (.slice pc (q + 1) cc) (.slice none 0 0)); replace HB := xS HB ER; obtain ⟨r0, r1, r2, r3, r4, r5, r6⟩ := xQ7 ER; refine jG (v := .tuple #[.agg #[.int .i64 4, .int .i64 n.tok.pos, .string ⟨#[]⟩, .int .i64 0, .slice pa q ca, .slice pc (q + 1) cc, .slice none 0 0], .int .i64 p]) (by simp [results, Tryd.results64, go_sem, r0, r1, r2, r3, r4, r5, r6]) rfl ?_; exact jr (by rw [Db.out, uh.out]; dsimp only; rw [Yl.out]) HB ⟨_, _, _, _, _, _, _, _, _, _, _, _, _, rfl⟩
        | ok x =>
          obtain ⟨z, rfl, ⟨yk, yp, yz, yi, Q6, Q7, Q8, zH, zI, zJ, zX, zY, zZ, rfl⟩, hnew, hb⟩ := Jm ht hx1; have T1 := hid (TWO.out.add hnew ⟨_, _, _, _, _, _, _, _, _, _, _, _, _, rfl⟩ hb); have Yl := hid hx1; clear ht hx1 hb TWO hnew
          obtain ⟨pb, cb, rfl⟩ := jH T1.out.ox; obtain ⟨pa, ca, rfl⟩ := jH T1.out.on; replace T1 := hid (T1.out.alloc #[.int .i64 yk, .int .i64 yp, .string yz, .int .i64 yi, .slice Q6 Q7 Q8, .slice zH zI zJ, .slice zX zY zZ] 38); obtain ⟨gy, Dc⟩ : ∃ gy, gy = w5.heap.size := ⟨_, rfl⟩
          go_upto_region 23 with fail
          rw [<- Dc] at T1; rw [<- Dc]; generalize w5.alloc (.cells #[.int .i64 yk, .int .i64 yp, .string yz, .int .i64 yi, .slice Q6 Q7 Q8, .slice zH zI zJ, .slice zX zY zZ] 38) = W5 at *; clear Dc; have ET := hid T1.out.et; have EY := hid (T1.out.bx _ (List.Mem.head _)).2.1; have j3 := xK ET 0 rfl; have iX := xK EY 0 rfl; have jv := xK ET 1 rfl; have iY := xK EY 1 rfl; have jw := xK ET 2 rfl; have iZ := xK EY 2 rfl; have JH := xK ET 3 rfl; have ig := xK EY 3 rfl; have JX := xK ET 4 rfl; have ik := xK EY 4 rfl; have Jy := xK ET 5 rfl; have il := xK EY 5 rfl; have Jz := xK ET 6 rfl; have iq := xK EY 6 rfl; have QH := jX ET; go_wp2_with (at_builtin; refine Two.sH (T1.out.alloc #[.int .i64 yk, .int .i64 yp, .string yz, .int .i64 yi, .slice Q6 Q7 Q8, .slice zH zI zJ, .slice zX zY zZ] 38) (gb := W5.heap.size) (List.Mem.head _) (by omega) (by simp [Value.oneCell']) rfl (.tmp 102) (.tmp 104) rfl rfl rfl ?_); intro v6 w6 h6; obtain ⟨pc, cc, rfl⟩ := jH h6.ox; clear ET EY QH j3 iX jv iY jw iZ JH ig JX ik Jy il Jz iq; have T2 := hid h6; clear h6
          have ET := hid T2.out.et; obtain ⟨j3, jv, jw, JH, JX, Jy, Jz, QH⟩ := xF7 ET; go_upto_region 24 with fail
          clear ET QH j3 jv jw JH JX Jy Jz; have T3 := hid (T2.out.st 5 (.slice pc (q + 1) cc) _ _ rfl); generalize w6.setCell ⟨w.heap.size + 2, 5, none⟩ (.slice pc (q + 1) cc) = w7 at *; have ER := hid (qV T3.out.low Xi (by omega)); have ET := hid T3.out.et; have HB := hid (HB0.out.trans (T3.out.low.mono (by omega))); obtain ⟨J3, J4, qA, qJ, qW, QQ, zN, Qx⟩ := xF7 ER; obtain ⟨j3, jv, jw, JH, JX, Jy, Jz⟩ := xQ7 ET; go_wp2_with fail; replace ER := hid (Je (ER.out) (.int .i64 4) (.int .i64 n.tok.pos) (.string ⟨#[]⟩) (.int .i64 0) (.slice pa q ca) (.slice pc (q + 1) cc) (.slice none 0 0)); replace HB := xS HB ER; obtain ⟨r0, r1, r2, r3, r4, r5, r6⟩ := xQ7 ER; refine jG (v := .tuple #[.agg #[.int .i64 4, .int .i64 n.tok.pos, .string ⟨#[]⟩, .int .i64 0, .slice pa q ca, .slice pc (q + 1) cc, .slice none 0 0], .int .i64 (-1)]) (by simp [results, Tryd.results64, go_sem, r0, r1, r2, r3, r4, r5, r6]) rfl ?_; exact Jq (x := Px.Expr.mk 4 n.pos [] 0 (bs.map (·.1)) (bs.map (·.2) ++ [x]) []) (by rw [Db.out, uh.out]; dsimp only; rw [Yl.out]) HB ⟨_, _, _, _, _, _, _, _, _, _, _, _, _, rfl⟩ (fun u hu => have hr := T3.out.rows (ns := bs.map (·.1)) (by rw [jE, Jv, mK.out]; rfl) (u := u) (fun b h1 h2 => (hu b (by omega) (by simpa using h2)).trans (xM _ _ b _ _ _ _ _ _ _ (by omega))); ⟨_, _, _, rfl, hr.1, hr.2, .inl ⟨rfl, none, 0, rfl⟩⟩)
structure G2 {α β : Type} (E1 s1 : Nat) (r1 : World -> Value -> α -> Prop) (E2 s2 : Nat) (r2 : World -> Value -> β -> Prop) (W0 : World) (gx : Nat) (TX : TypeId) (cs : Array Value) (a b : Value) (an bn : Nat)
 (va vb ya yb : List Value) (xa : List α) (xb : List β) (L : List (Nat × Obj)) (w : World) : Prop where
 low : Below gx W0 w
 lt : gx < w.heap.size
 et : w.heap[gx]? = some (.cells cs TX (0, 0))
 oa : w.ownsRow (gx + 1) E1 s1 a an (cellsOf va)
 ob : w.ownsRow (gx + 1) E2 s2 b bn (cellsOf vb)
 ka : qw (YX r1 (gx + 1) w (fun g => a.ownBlock = some g \/ b.ownBlock = some g)) ya xa
 kb : qw (YX r2 (gx + 1) w (fun g => a.ownBlock = some g \/ b.ownBlock = some g)) yb xb
 sa : ∀ u ∈ ya, u.cells.size = s1
 sb : ∀ u ∈ yb, u.cells.size = s2
 bx : ∀ b' ∈ L, gx < b'.1 /\ w.heap[b'.1]? = some b'.2 /\ a.ownBlock ≠ some b'.1 /\ b.ownBlock ≠ some b'.1
section
variable {α β : Type} {E1 s1 : Nat} {r1 : World -> Value -> α -> Prop} {E2 s2 : Nat} {r2 : World -> Value -> β -> Prop} {W0 : World} {gx : Nat} {TX : TypeId} {cs : Array Value} {a b : Value} {an bn : Nat} {va vb ya yb : List Value} {xa : List α} {xb : List β} {L : List (Nat × Obj)} {w w' : World}
theorem G2.below (h : G2 E1 s1 r1 E2 s2 r2 W0 gx TX cs a b an bn va vb ya yb xa xb L w) (hb : Below w.heap.size w w') : G2 E1 s1 r1 E2 s2 r2 W0 gx TX cs a b an bn va vb ya yb xa xb L w' where
 low := h.low.trans (hb.mono (Nat.le_of_lt h.lt))
 lt := Jo h.lt hb.size
 et := (hb.block _ h.lt).trans h.et
 oa := jc h.oa hb
 ob := jc h.ob hb
 ka := h.ka.mono fun _ _ k => k.below hb
 kb := h.kb.mono fun _ _ k => k.below hb
 sa := h.sa
 sb := h.sb
 bx := fun b hm => ⟨(h.bx b hm).1, (hb.block _ (ji (h.bx b hm).2.1)).trans (h.bx b hm).2.1, (h.bx b hm).2.2⟩
theorem G2.alloc (h : G2 E1 s1 r1 E2 s2 r2 W0 gx TX cs a b an bn va vb ya yb xa xb L w) (ds : Array Value) (T : TypeId) : G2 E1 s1 r1 E2 s2 r2 W0 gx TX cs a b an bn va vb ya yb xa xb ((w.heap.size, .cells ds T (0, 0)) :: L) (w.alloc (.cells ds T)) := by
 have hb : Below w.heap.size w (w.alloc (.cells ds T)) := (jD _ _).alloc (jB _) _; have h1 := h.below hb; refine { h1 with bx := fun b hm => ?_ }
 rcases jf.1 hm with rfl | hm
 . exact ⟨h.lt, jb w ds T, fun e => by have := (h.oa.lt _ e).2; omega, fun e => by have := (h.ob.lt _ e).2; omega⟩
 . exact h1.bx b hm
theorem G2.only (h : G2 E1 s1 r1 E2 s2 r2 W0 gx TX cs a b an bn va vb ya yb xa xb L w) {M : List (Nat × Obj)} (hM : ∀ b ∈ M, b ∈ L) : G2 E1 s1 r1 E2 s2 r2 W0 gx TX cs a b an bn va vb ya yb xa xb M w := { h with bx := fun b hm => h.bx b (hM b hm) }
theorem G2.since (h : G2 E1 s1 r1 E2 s2 r2 W0 gx TX cs a b an bn va vb ya yb xa xb L w) {γ : Type} {r : World -> Value -> γ -> Prop} {y : Value} {x : γ} (hk : New r w w' y x) : YX r (gx + 1) w' (fun g => a.ownBlock = some g \/ b.ownBlock = some g) y x :=
 hk.Eo (by have := h.lt; omega) (fun g hg => hg.elim (fun e => (h.oa.lt g e).2) (fun e => (h.ob.lt g e).2))
theorem G2.rf (h : G2 E1 s1 r1 E2 s2 r2 W0 gx TX cs a b an bn va vb ya yb xa xb L w) {y : Value} {x : α} (hk : YX r1 (gx + 1) w (fun g => a.ownBlock = some g \/ b.ownBlock = some g) y x) (hs : y.cells.size = s1) : G2 E1 s1 r1 E2 s2 r2 W0 gx TX cs a b an bn va vb (ya ++ [y]) yb (xa ++ [x]) xb L w := by
 refine { h with ka := qw.snoc hk h.ka, sa := fun u hu => ?_ }
 rcases jW.1 hu with hu | hu
 . exact h.sa u hu
 . rw [j4.1 hu]; exact hs
theorem G2.aJ (h : G2 E1 s1 r1 E2 s2 r2 W0 gx TX cs a b an bn va vb ya yb xa xb L w) {y : Value} {x : β} (hk : YX r2 (gx + 1) w (fun g => a.ownBlock = some g \/ b.ownBlock = some g) y x) (hs : y.cells.size = s2) : G2 E1 s1 r1 E2 s2 r2 W0 gx TX cs a b an bn va vb ya (yb ++ [y]) xa (xb ++ [x]) L w := by
 refine { h with kb := qw.snoc hk h.kb, sb := fun u hu => ?_ }
 rcases jW.1 hu with hu | hu
 . exact h.sb u hu
 . rw [j4.1 hu]; exact hs
theorem G2.iw (h : G2 E1 s1 r1 E2 s2 r2 W0 gx TX cs a b an bn va vb ya yb xa xb L w) (hE : E1 ≠ E2) {v' : Value} {m : Nat} {more : List Value} (ho : w'.ownsRow (gx + 1) E1 s1 v' m (cellsOf more)) (hg : w.grownBy w' a.ownBlock)
 (hl : v'.ownBlock = a.ownBlock \/ ∀ g, v'.ownBlock = some g -> w.heap.size <= g) : G2 E1 s1 r1 E2 s2 r2 W0 gx TX cs v' b m bn more vb ya yb xa xb L w' where
 low := h.low.trans ⟨hg.os, hg.tape, hg.output, hg.size, fun b hb => hg.block b (by have := h.lt; omega) (fun e => by have := (h.oa.lt b e.symm).1; omega)⟩
 lt := Jo h.lt hg.size
 et := (hg.block _ h.lt (fun e => by have := (h.oa.lt gx e.symm).1; omega)).trans h.et
 oa := ho
 ob := Qp h.ob fun b hb => hg.block b (h.ob.lt b hb).2 (fun e => yO h.oa h.ob hE b e.symm hb)
 ka := h.ka.mono fun _ _ k => k.step (S' := fun g => v'.ownBlock = some g \/ b.ownBlock = some g) hg.size (fun b hb1 _ hb3 => hg.block b hb1 (fun e => hb3 (.inl e.symm)))
  (fun g hg' => hg'.elim (fun e => hl.elim (fun e' => .inl (.inl (e' ▸ e))) (fun e' => .inr (e' g e))) (fun e => .inl (.inr e)))
 kb := h.kb.mono fun _ _ k => k.step (S' := fun g => v'.ownBlock = some g \/ b.ownBlock = some g) hg.size (fun b hb1 _ hb3 => hg.block b hb1 (fun e => hb3 (.inl e.symm)))
  (fun g hg' => hg'.elim (fun e => hl.elim (fun e' => .inl (.inl (e' ▸ e))) (fun e' => .inr (e' g e))) (fun e => .inl (.inr e)))
 sa := h.sa
 sb := h.sb
 bx := fun b hm => ⟨(h.bx b hm).1, (hg.block _ (ji (h.bx b hm).2.1) (fun e => (h.bx b hm).2.2.1 e.symm)).trans (h.bx b hm).2.1,
  fun e => hl.elim (fun e' => (h.bx b hm).2.2.1 (e' ▸ e)) (fun e' => by have := e' _ e; have := ji (h.bx b hm).2.1; omega), (h.bx b hm).2.2.2⟩
theorem G2.swap (h : G2 E1 s1 r1 E2 s2 r2 W0 gx TX cs a b an bn va vb ya yb xa xb L w) : G2 E2 s2 r2 E1 s1 r1 W0 gx TX cs b a bn an vb va yb ya xb xa L w where
 low := h.low
 lt := h.lt
 et := h.et
 oa := h.ob
 ob := h.oa
 ka := h.kb.mono fun _ _ k => k.step (jB _) (fun _ _ _ _ => rfl) (fun g hg => .inl hg.symm)
 kb := h.ka.mono fun _ _ k => k.step (jB _) (fun _ _ _ _ => rfl) (fun g hg => .inl hg.symm)
 sa := h.sb
 sb := h.sa
 bx := fun b hm => ⟨(h.bx b hm).1, (h.bx b hm).2.1, (h.bx b hm).2.2.2, (h.bx b hm).2.2.1⟩
theorem G2.st (h : G2 E1 s1 r1 E2 s2 r2 W0 gx TX cs a b an bn va vb ya yb xa xb L w) (j : Nat) (z : Value) (cs' : Array Value) (he : cs.setIfInBounds j z = cs') :
 G2 E1 s1 r1 E2 s2 r2 W0 gx TX cs' a b an bn va vb ya yb xa xb L (w.setCell ⟨gx, j, none⟩ z) := by
 have hst : ∀ b, b ≠ gx -> (w.setCell ⟨gx, j, none⟩ z).heap[b]? = w.heap[b]? := fun b hb => jP w ⟨gx, j, none⟩ z b hb
 have hsz : (w.setCell ⟨gx, j, none⟩ z).heap.size = w.heap.size := by simp
 refine ⟨h.low.setCell (p := ⟨gx, j, none⟩) (jB _) z, by rw [hsz]; exact h.lt, ?_, Qp h.oa fun b hb => hst b (by have := (h.oa.lt b hb).1; omega), Qp h.ob fun b hb => hst b (by have := (h.ob.lt b hb).1; omega),
  h.ka.mono fun _ _ k => k.step (JS hsz.symm) (fun b _ hb2 _ => hst b (by omega)) (fun g hg => .inl hg), h.kb.mono fun _ _ k => k.step (JS hsz.symm) (fun b _ hb2 _ => hst b (by omega)) (fun g hg => .inl hg), h.sa, h.sb,
  fun b hm => ⟨(h.bx b hm).1, (hst b.1 (by have := (h.bx b hm).1; omega)).trans (h.bx b hm).2.1, (h.bx b hm).2.2⟩⟩
 have := Jf h.et j z; rw [he] at this; exact this
theorem Gu (vs : List Value) (u : Value) : cellsOf (vs ++ [u]) = cellsOf vs ++ u.cells.toList := by simp [cellsOf]
theorem G2.bJ (h : G2 E1 s1 r1 E2 s2 r2 W0 gx TX cs a b an bn va vb ya yb xa xb L w) (hE : E1 ≠ E2) (TL : TypeId) (ht : Tryd.prog.underlying TL = some (.slice E1)) {z : Value} {bytes : Nat}
 (hinfo : (Tryd.prog.info? E1).map (fun i => (i.zero, i.size, i.bytes)) = some (some z, s1, bytes)) (hzs : z.cells.size = s1) (hs : 0 < s1) (hby : bytes <= 1000) {ds : Array Value} {T : TypeId} {gb : Nat} (hb : (gb, .cells ds T (0, 0)) ∈ L) (hd : ds.size = s1)
 (hone : ∀ u ∈ ds.toList, u.oneCell' = true) (hn : an <= 1000)
 {ops : Array Oper} {rest : List Oper} {o : Oper} {ac : Act} {Q : Exit -> Act -> World -> Prop} (hgd : o.guard = none) (l r : Operand)
 (ho : o.op = .call { callee := .builtin .append, args := #[l, r], argTypes := #[TL, TL] }) (hl : ac.eval l = a) (hr : ac.eval r = .slice (some ⟨gb, 0, none⟩) 1 1)
 (hK : ∀ v' w', G2 E1 s1 r1 E2 s2 r2 W0 gx TX cs v' b (an + 1) bn (va ++ [.agg ds]) vb ya yb xa xb L w' -> wpList Tryd.prog ops Q rest (ac.put o.dst v') w') : wpList Tryd.prog ops Q (o :: rest) ac w := by
 obtain ⟨i0, h0, h1, h2, h3⟩ := QL hinfo; refine qi w hgd l r TL ho (gx + 1) E1 i0 z s1 bytes ht h0 h1 h2 h3 hzs hs a an (cellsOf va) hl h.oa ⟨gb, 0, none⟩ 1 1 ds.toList hr (by decide) (by simpa using hd) ?_ hone (by unfold maxLen; omega) ?_ (by have := h.lt; omega) ?_
 . intro j u hu; have e : (⟨gb, 0, none⟩ : Addr).add j = ⟨gb, j, none⟩ := by unfold Addr.add; split <;> simp_all
   rw [e]; exact jK (h.bx _ hb).2.1 j u (by simpa using hu)
 . have : (an + 1) * bytes <= 1001 * 1000 := Nat.mul_le_mul (by omega) hby
   omega
 . intro v' w' hown hgr hloc; rw [show ds.toList = (Value.agg ds).cells.toList from rfl, <- Gu] at hown; exact hK v' w' (h.iw hE hown hgr hloc)
theorem G2.rows (h : G2 E1 s1 r1 E2 s2 r2 W0 gx TX cs a b an bn va vb va vb xa xb L w) (ha : an = xa.length) (hb : bn = xb.length) {u : World} (hu : ∀ b, gx < b -> b < w.heap.size -> u.heap[b]? = w.heap[b]?) : JO s1 (r1 u) u a xa /\ JO s2 (r2 u) u b xb :=
 ⟨mi h.oa ha h.ka h.sa (fun b h1 h2 => hu b (by omega) h2), mi h.ob hb h.kb h.sb (fun b h1 h2 => hu b (by omega) h2)⟩
end
theorem nS {α β : Type} {E1 s1 : Nat} {r1 : World -> Value -> α -> Prop} {E2 s2 : Nat} {r2 : World -> Value -> β -> Prop} {w : World} {gx : Nat} {TX : TypeId} {cs : Array Value} (h : w.heap[gx]? = some (.cells cs TX (0, 0))) :
 G2 E1 s1 r1 E2 s2 r2 w gx TX cs (.slice none 0 0) (.slice none 0 0) 0 0 [] [] [] [] ([] : List α) ([] : List β) [] w :=
 ⟨jD _ _, ji h, h, jo _ _ _ _, jo _ _ _ _, trivial, trivial, (fun _ h => by cases h), (fun _ h => by cases h), (fun _ h => by cases h)⟩
theorem ru {f : Nat} {w1 w2 w3 w4 : World} {a0 a1 a2 a3 a4 b0 b1 b2 b3 b4 b5 b6 : Value} {p : Px.QJ} {x : Px.Expr} (hp : New (qj f) w1 w2 (.agg #[a0, a1, a2, a3, a4]) p) (hb : Below w2.heap.size w2 w3) (he : New (JB f) w3 w4 (.agg #[b0, b1, b2, b3, b4, b5, b6]) x) (hb2 : Below w3.heap.size w3 w4) (hs : w1.heap.size <= w2.heap.size) :
 New (fun u => vo (qj f u) (JB f u)) w1 w4 (.agg #[a0, a1, a2, a3, a4, b0, b1, b2, b3, b4, b5, b6]) (p, x) := by
 intro u hu; refine ⟨a0, a1, a2, a3, a4, b0, b1, b2, b3, b4, b5, b6, rfl, hp u fun b h1 h2 => ?_, he u fun b h1 h2 => ?_⟩
 . have := hb.size; have := hb2.size
   rw [hu b h1 (by omega), hb2.block b (by omega), hb.block b h2]
 . have := hb.size; exact hu b (by omega) h2
end Go.Proofs.YtlnjdclmopblcaaDoor
