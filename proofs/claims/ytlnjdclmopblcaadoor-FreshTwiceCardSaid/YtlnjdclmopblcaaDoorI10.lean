import Derived.Test.YtlnjdclmopblcaaDoorI09
set_option linter.unusedVariables false
set_option linter.unusedSimpArgs false
set_option maxHeartbeats 40000000
set_option maxRecDepth 100000
namespace Go.Proofs.YtlnjdclmopblcaaDoor
open Go Go.RowKit
open Go.Lib (hid)
theorem fB : (Tryd.prog.info? 87).map (fun i => (i.zero, i.size, i.bytes)) = some (some (.agg #[.int .i64 0, .int .i64 0, .string ⟨#[]⟩, .int .i64 0, .slice none 0 0, .int .i64 0, .int .i64 0, .string ⟨#[]⟩, .int .i64 0, .slice none 0 0, .slice none 0 0, .slice none 0 0]), 12, 176) := by kernel_rfl
theorem row_one {α : Type} {sz : Nat} {Js : Value -> α -> Prop} {u : World} {ga : Nat} {cs : Array Value} {T : TypeId} {fr : Nat × Nat} {x : α} (h : u.heap[ga]? = some (.cells cs T fr)) (hr : Js (.agg cs) x) (hs : cs.size = sz) : JO sz Js u (.slice (some ⟨ga, 0, none⟩) 1 1) [x] := by
 refine .inr ⟨ga, 0, 1, rfl, jB _, by decide, fun i y hi => ?_⟩; cases i with
 | zero =>
   simp at hi; subst hi; refine ⟨_, hr, hs, fun j z hz => ?_⟩; rw [show 0 + 0 * sz + j = j from by omega]; exact jK h j z hz
 | succ i => simp at hi
theorem lV (f k : Nat) (jBE : k <= f) (n : Px.Node) (v : Value) (w : World) (hn : Qw (k + 1) w v n) (hg : Px.jq n) (hl : Px.jR n = true) (ih : ∀ j m v w1, j <= k -> Qw j w1 v m -> Px.jq m -> Calls Tryd.prog 47 #[v] w1 (qN w1 (JB f) qH (Px.expr f m))) : Calls Tryd.prog 65 #[v] w (qN w (JB (f + 1)) qH (Px.qm f (Px.expr f) n)) := by
 have Vv := hid hn; have YZ := hid ih; have tV := hid jBE; obtain ⟨lv, rfl, hr⟩ := hn; obtain ⟨q, c, rfl⟩ := hr.len; have HR := hid hr; have HG := hid hg
 have hp0 : Px.qm f (Px.expr f) n = (match Px.nodes n 3 18 with
  | .error p => .error p
  | .ok l =>
    match Px.expr f (l.getD 1 n) with
    | .error p => .error p
    | .ok x =>
      match Px.each (Px.alt f (Px.expr f)) (l.drop 2) with
      | .error p => .error p
      | .ok az => .ok (.mk 5 n.pos [] 0 [] [x] az)) := rfl
 have HP := hid hp0; have HS2 := hid (fun w1 (hb : Below w.heap.size w w1) => Qg (k + 1) n _ 3 18 w1 (Vv.out.below hb) (by omega) (by omega)); clear hr hg hp0 ih jBE; unfold nV at *; rw [hl] at *; clear hl; go_enter Tryd.func65, Tryd.ntmps65; obtain ⟨en, er, et, hb, hsz⟩ := Yv w #[.int .i64 n.tok.kind, .int .i64 n.tok.pos, .string ⟨n.tok.text.toArray⟩, .int .i64 n.tok.int, .bool true, (.slice q n.list.length c)] #[.int .i64 0, .int .i64 0, .string ⟨#[]⟩, .int .i64 0, .slice none 0 0, .slice none 0 0, .slice none 0 0] #[.int .i64 5, .int .i64 n.tok.pos, .string ⟨#[]⟩, .int .i64 0, .slice none 0 0, .slice none 0 0, .slice none 0 0] 73 38 38; have EN := hid en; have ER := hid er; have ET := hid et; have HB := hid hb
 replace hsz := JS hsz.symm; clear en er et hb; go_wp2_with fail; refine (HS2.out _ HB.out).mono ?_; rintro e w1 ⟨rfl, hb⟩; replace hsz := bS hsz hb; replace EN := bE EN hb; replace ER := bE ER hb; replace ET := bE ET hb; replace HB := bT HB hb; clear hb; unfold Zb; cases hnd : Px.nodes n 3 18 with
 | error p =>
   dsimp only
   have hge : (p : Int) >= 0 := by omega
   have Fz := hid hnd; clear hnd
   obtain ⟨J3, J4, qA, qJ, qW, QQ, zN, Qx⟩ := xF7 ER; obtain ⟨j3, jv, jw, JH, JX, Jy, Jz⟩ := xQ7 ET; go_wp2_with fail; replace ER := hid (Je (ER.out) (.int .i64 5) (.int .i64 n.tok.pos) (.string ⟨#[]⟩) (.int .i64 0) (.slice none 0 0) (.slice none 0 0) (.slice none 0 0)); replace HB := xS HB ER; obtain ⟨r0, r1, r2, r3, r4, r5, r6⟩ := xQ7 ER; refine jG (v := .tuple #[.agg #[.int .i64 5, .int .i64 n.tok.pos, .string ⟨#[]⟩, .int .i64 0, .slice none 0 0, .slice none 0 0, .slice none 0 0], .int .i64 p]) (by simp [results, Tryd.results65, go_sem, r0, r1, r2, r3, r4, r5, r6]) rfl ?_; exact jr (by rw [HP.out, Fz.out]) HB ⟨_, _, _, _, _, _, _, _, _, _, _, _, _, rfl⟩
 | ok l =>
   dsimp only
   have hni := JJ hnd; have hll := hni.1; have Qb := hni.2.1; have yu := hni.2.2.1; clear hni; subst hll; replace HP := HP.out; rw [hnd] at HP
   dsimp only at HP
   rcases HR.out with ⟨h0, _⟩ | ⟨g, of, c', hv, g1, g2, g3⟩
   . rw [h0] at Qb; simp at Qb
   injection hv with hq1 _ hq2
   subst hq1; subst hq2
   obtain ⟨m1, hm⟩ : ∃ m, n.list[1]? = some m := ⟨_, jA (by omega)⟩
   have VH : n.list.getD (1) n = m1 := by rw [jL, hm]; rfl
   have KQ := hid (HG.out.kid (jI hm)); obtain ⟨u, hu, _, hcell⟩ := g3 (1) m1 hm; obtain ⟨iI, Mr, bA, hue, hkr, q0, q1, q2, q3, q4, q5⟩ := Jk hu hcell; subst hue; have Su := hid hm; have Hz := hid hu; have rY := hid hkr
   try simp only [Nat.reduceMul, jZ, JN] at q0 q1 q2 q3 q4 q5
   have Uh := hid q0; have Ui := hid q1; have Uj := hid q2; have Uk := hid q3; have Ul := hid q4; have Um := hid q5
   clear hu hcell hkr q0 q1 q2 q3 q4 q5 hm; rw [VH] at HP; have vV := hid HP; have vW := hid g3; have HLEN := hid (And.intro Qb yu); have hz1 : (1 : Int) < (n.list.length : Int) := by omega
   clear HP VH hnd g1 g2 g3 Qb yu bA; have n0 := jC HB Uh; have n1 := jC HB Ui; have n2 := jC HB Uj; have n3 := jC HB Uk; have n4 := jC HB Ul; have n5 := jC HB Um; obtain ⟨Jd, enc1, enc2, enc3, enc4, JZ, QI⟩ := xF6 EN; go_wp2_with fail; clear Jd enc1 enc2 enc3 enc4 JZ QI; clear n0 n1 n2 n3 n4 n5; refine (YZ.out _ m1 _ _ (jB _) (Hz.out.below HB.out) KQ.out).mono ?_; intro e w2 ht; cases hx1 : Px.expr f m1 with
   | error p =>
     obtain ⟨z, rfl, ⟨yk, yp, yz, yi, Q6, Q7, Q8, zH, zI, zJ, zX, zY, zZ, rfl⟩, hb⟩ := Jb ht hx1; have hge : (p : Int) >= 0 := by omega
     have Yl := hid hx1; replace ER := bE ER hb; replace ET := bE ET hb; replace HB := bT HB hb; clear hb; clear ht hx1; replace ER := hid (JA ER (.cells #[.int .i64 yk, .int .i64 yp, .string yz, .int .i64 yi, .slice Q6 Q7 Q8, .slice zH zI zJ, .slice zX zY zZ] 38)); replace ET := aO ET ER; replace HB := aB HB ER; obtain ⟨J3, J4, qA, qJ, qW, QQ, zN, Qx⟩ := xF7 ER; obtain ⟨j3, jv, jw, JH, JX, Jy, Jz⟩ := xQ7 ET; go_wp2_with fail; replace ER := hid (Je (ER.out) (.int .i64 5) (.int .i64 n.tok.pos) (.string ⟨#[]⟩) (.int .i64 0) (.slice none 0 0) (.slice none 0 0) (.slice none 0 0)); replace HB := xS HB ER; obtain ⟨r0, r1, r2, r3, r4, r5, r6⟩ := xQ7 ER; refine jG (v := .tuple #[.agg #[.int .i64 5, .int .i64 n.tok.pos, .string ⟨#[]⟩, .int .i64 0, .slice none 0 0, .slice none 0 0, .slice none 0 0], .int .i64 p]) (by simp [results, Tryd.results65, go_sem, r0, r1, r2, r3, r4, r5, r6]) rfl ?_; exact jr (by rw [vV.out, Yl.out]) HB ⟨_, _, _, _, _, _, _, _, _, _, _, _, _, rfl⟩
   | ok x =>
     obtain ⟨z, rfl, ⟨yk, yp, yz, yi, Q6, Q7, Q8, zH, zI, zJ, zX, zY, zZ, rfl⟩, hnew, hb⟩ := Jm ht hx1; have Yl := hid hx1; have Vw := hid hnew; have jE8 := hid hb; have PO := hid hsz
     replace hsz := bS hsz hb; replace EN := bE EN hb; replace ER := bE ER hb; replace ET := bE ET hb; replace HB := bT HB hb; clear hb; clear ht hx1 hnew; replace EN := hid (JA EN (.cells #[.int .i64 yk, .int .i64 yp, .string yz, .int .i64 yi, .slice Q6 Q7 Q8, .slice zH zI zJ, .slice zX zY zZ] 38)); replace ER := aO ER EN; replace ET := aO ET EN; replace HB := aB HB EN; replace hsz : w.heap.size + 3 <= (w2.alloc (.cells #[.int .i64 yk, .int .i64 yp, .string yz, .int .i64 yi, .slice Q6 Q7 Q8, .slice zH zI zJ, .slice zX zY zZ] 38)).heap.size := by simp; omega
     have De := hid (show Below w2.heap.size w2 (w2.alloc (.cells #[.int .i64 yk, .int .i64 yp, .string yz, .int .i64 yi, .slice Q6 Q7 Q8, .slice zH zI zJ, .slice zX zY zZ] 38)) from (jD _ _).alloc (jB _) _); go_upto_region 8 with fail
     have EY := hid (jb w2 #[.int .i64 yk, .int .i64 yp, .string yz, .int .i64 yi, .slice Q6 Q7 Q8, .slice zH zI zJ, .slice zX zY zZ] 38); obtain ⟨gy, Dc⟩ : ∃ gy, gy = w2.heap.size := ⟨_, rfl⟩
     rw [<- Dc] at EY; rw [<- Dc]; generalize w2.alloc (.cells #[.int .i64 yk, .int .i64 yp, .string yz, .int .i64 yi, .slice Q6 Q7 Q8, .slice zH zI zJ, .slice zX zY zZ] 38) = w3 at EN ER ET HB hsz De EY ⊢; clear Dc; obtain ⟨j3, jv, jw, JH, JX, Jy, Jz, QH⟩ := xF7 ET; obtain ⟨iX, iY, iZ, ig, ik, il, iq⟩ := xQ7 EY; have jBF := JA ET (.cells #[.int .i64 yk, .int .i64 yp, .string yz, .int .i64 yi, .slice Q6 Q7 Q8, .slice zH zI zJ, .slice zX zY zZ] 38); obtain ⟨jE9, jEA, jEB, jEC, jED, jEE, jEF, jEG⟩ := xF7 jBF; go_upto_region 9 with fail
     clear jBF jEG jE9 jEA jEB jEC jED jEE jEF; clear j3 jv jw JH JX Jy Jz QH; clear EY iX iY iZ ig ik il iq; replace EN := hid (JA EN (.cells #[.int .i64 yk, .int .i64 yp, .string yz, .int .i64 yi, .slice Q6 Q7 Q8, .slice zH zI zJ, .slice zX zY zZ] 38)); replace ER := aO ER EN; replace ET := aO ET EN; replace HB := aB HB EN; have EA := hid (jb w3 #[.int .i64 yk, .int .i64 yp, .string yz, .int .i64 yi, .slice Q6 Q7 Q8, .slice zH zI zJ, .slice zX zY zZ] 38); replace De := hid (De.out.trans ((show Below w3.heap.size w3 (w3.alloc (.cells #[.int .i64 yk, .int .i64 yp, .string yz, .int .i64 yi, .slice Q6 Q7 Q8, .slice zH zI zJ, .slice zX zY zZ] 38)) from (jD _ _).alloc (jB _) _).mono De.out.size)); obtain ⟨ga, hga⟩ : ∃ ga, ga = w3.heap.size := ⟨_, rfl⟩
     have jEH : w.heap.size + 3 <= ga := by omega
     replace hsz : w.heap.size + 3 <= (w3.alloc (.cells #[.int .i64 yk, .int .i64 yp, .string yz, .int .i64 yi, .slice Q6 Q7 Q8, .slice zH zI zJ, .slice zX zY zZ] 38)).heap.size := by simp; omega
     rw [<- hga] at EA; rw [<- hga]; generalize w3.alloc (.cells #[.int .i64 yk, .int .i64 yp, .string yz, .int .i64 yi, .slice Q6 Q7 Q8, .slice zH zI zJ, .slice zX zY zZ] 38) = w4 at EN ER ET HB hsz De EA ⊢; clear hga; have hnk := Vw.out.Eo (base := (w.heap.size + 2) + 1) (S := fun _ => False) (by have := PO.out; omega) (fun g hg => hg.elim); have iy := hid (hnk.step (S' := fun _ => False) De.out.size (fun b hb1 _ _ => De.out.block b hb1) (fun g hg => hg.elim)); clear hnk De
     replace EA := hid (jO EA (w.heap.size + 2) 5 (.slice (some ⟨ga, 0, none⟩) 1 1) (by omega)); replace EN := hid (jO (EN.out) (w.heap.size + 2) 5 (.slice (some ⟨ga, 0, none⟩) 1 1) (by omega)); replace ER := hid (jO (ER.out) (w.heap.size + 2) 5 (.slice (some ⟨ga, 0, none⟩) 1 1) (by omega)); replace ET := hid (JI #[.int .i64 5, .int .i64 n.tok.pos, .string ⟨#[]⟩, .int .i64 0, .slice none 0 0, .slice (some ⟨ga, 0, none⟩) 1 1, .slice none 0 0] (ET.out) 5 (.slice (some ⟨ga, 0, none⟩) 1 1) rfl); replace HB := hid (jN (HB.out) (p := ⟨w.heap.size + 2, 5, none⟩) (by dsimp only; omega) (.slice (some ⟨ga, 0, none⟩) 1 1)); replace iy := hid (iy.out.step (w' := w4.setCell ⟨w.heap.size + 2, 5, none⟩ (.slice (some ⟨ga, 0, none⟩) 1 1)) (S' := fun _ => False) (by simp) (fun b _ hb2 _ => jP w4 ⟨w.heap.size + 2, 5, none⟩ _ b (by dsimp only; omega)) (fun g hg => hg.elim)); replace hsz : w.heap.size + 3 <= (w4.setCell ⟨w.heap.size + 2, 5, none⟩ (.slice (some ⟨ga, 0, none⟩) 1 1)).heap.size := by simpa using hsz
     generalize w4.setCell ⟨w.heap.size + 2, 5, none⟩ (.slice (some ⟨ga, 0, none⟩) 1 1) = W5 at EN ER ET EA HB iy hsz ⊢; have hnil : ∀ E s, W5.ownsRow (w.heap.size + 2 + 1) E s (.slice none 0 0) 0 [] := fun _ _ => jo _ _ _ _
     have bB : G2 87 12 (fun u => vo (qj f u) (JB f u)) 9 7 (JB f) W5 (w.heap.size + 2) 38 #[.int .i64 5, .int .i64 n.tok.pos, .string ⟨#[]⟩, .int .i64 0, .slice none 0 0, .slice (some ⟨ga, 0, none⟩) 1 1, .slice none 0 0] (.slice none 0 0) (.slice none 0 0) (0) 0 ([]) [] ([]) [.agg #[.int .i64 yk, .int .i64 yp, .string yz, .int .i64 yi, .slice Q6 Q7 Q8, .slice zH zI zJ, .slice zX zY zZ]] ([]) [x] [(ga, .cells #[.int .i64 yk, .int .i64 yp, .string yz, .int .i64 yi, .slice Q6 Q7 Q8, .slice zH zI zJ, .slice zX zY zZ] 38 (0, 0))] W5 := ⟨jD _ _, by omega, ET.out, hnil _ _, hnil _ _, trivial, ⟨iy.out.step (jB _) (fun _ _ _ _ => rfl) (fun g hg => by simp [Value.ownBlock] at hg), trivial⟩, (fun _ h => by cases h), (fun u hu => by rw [j4.1 hu]; rfl), (fun b hb => by rw [j4.1 hb]; exact ⟨by dsimp only; omega, EA.out, by simp [Value.ownBlock], by simp [Value.ownBlock]⟩)⟩; have xQ := hid bB; have iP := EN; have Xi := ER; have HB0 := HB
     have Db : Hid (Px.qm f (Px.expr f) n = (match Px.each (Px.alt f (Px.expr f)) (n.list.drop 2) with | .error p => .error p | .ok az => .ok (.mk 5 n.pos [] 0 [] [x] az))) := hid (by rw [vV.out, Yl.out]); clear bB hnil EN ER ET HB EA iy Vw jE8 PO; go_wp2_with fail
     go_loopw [3, 5, 7, 8, 9, 10, 11, 12] (fun _ _ i _ _ _ _ _ wr => ∃ (j : Nat) (av : Value) (vs : List Value) (az : List (Px.QJ × Px.Expr)), i = .int .i64 (j + 2 : Nat) /\ j + 2 <= n.list.length /\ Hid (Px.each (Px.alt f (Px.expr f)) ((n.list.drop 2).take j) = .ok az) /\ Hid (az.length = j) /\ Hid (G2 87 12 (fun u => vo (qj f u) (JB f u)) 9 7 (JB f) W5 (w.heap.size + 2) 38 #[.int .i64 5, .int .i64 n.tok.pos, .string ⟨#[]⟩, .int .i64 0, .slice none 0 0, .slice (some ⟨ga, 0, none⟩) 1 1, av] (av) (.slice none 0 0) (j) 0 (vs) [] (vs) [.agg #[.int .i64 yk, .int .i64 yp, .string yz, .int .i64 yi, .slice Q6 Q7 Q8, .slice zH zI zJ, .slice zX zY zZ]] (az) [x] [(ga, .cells #[.int .i64 yk, .int .i64 yp, .string yz, .int .i64 yi, .slice Q6 Q7 Q8, .slice zH zI zJ, .slice zX zY zZ] 38 (0, 0))] wr)) (fun _ _ i _ _ _ _ _ _ => n.list.length - (intOf i).toNat)
     case atStart => exact ⟨0, _, [], [], rfl, by have := HLEN.out; omega, hid (by simp [Px.each]), hid rfl, xQ⟩
     case round =>
      clear xQ; obtain ⟨j, av, vs, az, rfl, hq, HE, mK, TWO⟩ := hrel; have EN := hid (qV TWO.out.low iP (by omega)); have ET := hid TWO.out.et; have HB := hid (HB0.out.trans (TWO.out.low.mono (by omega))); obtain ⟨Jd, enc1, enc2, enc3, enc4, JZ, QI⟩ := xF6 EN; by_cases hlt : j + 2 < n.list.length
      . skip
        have hrow := vW.out; obtain ⟨pn, hm⟩ : ∃ m, n.list[j + 2]? = some m := ⟨_, jA (by omega)⟩
        have bC : n.list.getD (j + 2) n = pn := by rw [jL, hm]; rfl
        have bD := hid (HG.out.kid (jI hm)); obtain ⟨u, hu, _, hcell⟩ := hrow (j + 2) pn hm; obtain ⟨iQ, iR, M7, hue, hkr, q0, q1, q2, q3, q4, q5⟩ := Jk hu hcell; subst hue; have bF := hid hm; have M8 := hid hu; have bG := hid hkr
        try simp only [Nat.reduceMul, jZ, JN] at q0 q1 q2 q3 q4 q5
        have M9 := hid q0; have nA := hid q1; have nC := hid q2; have nD := hid q3; have nE := hid q4; have nG := hid q5
        clear hu hcell hkr q0 q1 q2 q3 q4 q5 hm; have hdp : (n.list.drop 2)[j]? = some pn := by rw [List.getElem?_drop, Em]; exact bF.out
        have nT := hid hdp; clear hrow bC hdp; obtain ⟨sI, sJ, rfl⟩ := bG.out.len; have k0 := jC HB M9; have k1 := jC HB nA; have k2 := jC HB nC; have k3 := jC HB nD; have k4 := jC HB nE; have k5 := jC HB nG; go_wp2_with fail; clear Jd enc1 enc2 enc3 enc4 JZ QI; clear k0 k1 k2 k3 k4 k5; replace TWO := hid (TWO.out.alloc #[.int .i64 pn.tok.kind, .int .i64 pn.tok.pos, .string ⟨pn.tok.text.toArray⟩, .int .i64 pn.tok.int, .bool (Px.jR pn), .slice sI pn.list.length sJ] 73); have HB2 := hid (HB0.out.trans (TWO.out.low.mono (by omega))); obtain ⟨gb, hgb⟩ : ∃ gb, gb = wr.heap.size := ⟨_, rfl⟩
        rw [<- hgb] at TWO; rw [<- hgb]; generalize wr.alloc (.cells #[.int .i64 pn.tok.kind, .int .i64 pn.tok.pos, .string ⟨pn.tok.text.toArray⟩, .int .i64 pn.tok.int, .bool (Px.jR pn), .slice sI pn.list.length sJ] 73) = wa at *; clear hgb EN ET HB; refine (Qg _ pn _ 2 2 _ (M8.out.below HB2.out) (by omega) (by omega)).mono ?_; rintro e w3 ⟨rfl, hb⟩; replace TWO := hid (TWO.out.below hb); clear hb HB2; unfold Zb; cases hnb : Px.nodes pn 2 2 with
        | error p =>
          dsimp only
          have hge : (p : Int) >= 0 := by omega
          have hx : Px.each (Px.alt f (Px.expr f)) (n.list.drop 2) = .error p := (Px.qU nT.out HE.out).2 p (by rw [Px.alt, hnb]); have HX := hid hx; clear hx hnb
          have ER := hid (qV TWO.out.low Xi (by omega)); have ET := hid TWO.out.et; have HB := hid (HB0.out.trans (TWO.out.low.mono (by omega))); obtain ⟨pb, cb, rfl⟩ := jH TWO.out.oa; obtain ⟨J3, J4, qA, qJ, qW, QQ, zN, Qx⟩ := xF7 ER; obtain ⟨j3, jv, jw, JH, JX, Jy, Jz⟩ := xQ7 ET; go_wp2_with fail; replace ER := hid (Je (ER.out) (.int .i64 5) (.int .i64 n.tok.pos) (.string ⟨#[]⟩) (.int .i64 0) (.slice none 0 0) (.slice (some ⟨ga, 0, none⟩) 1 1) (.slice pb j cb)); replace HB := xS HB ER; obtain ⟨r0, r1, r2, r3, r4, r5, r6⟩ := xQ7 ER; refine jG (v := .tuple #[.agg #[.int .i64 5, .int .i64 n.tok.pos, .string ⟨#[]⟩, .int .i64 0, .slice none 0 0, .slice (some ⟨ga, 0, none⟩) 1 1, .slice pb j cb], .int .i64 p]) (by simp [results, Tryd.results65, go_sem, r0, r1, r2, r3, r4, r5, r6]) rfl ?_; exact jr (by rw [Db.out, HX.out]) HB ⟨_, _, _, _, _, _, _, _, _, _, _, _, _, rfl⟩
        | ok lb =>
          dsimp only
          have hni := JJ hnb; have hll := hni.1; have hs1 := hni.2.1; have rZ := hni.2.2.1; clear hni; subst hll; have hlp : pn.list.length = 2 := by omega
          rcases bG.out with ⟨h0, _⟩ | ⟨g2, o2, c2, S9, d1, d2, d3⟩
          . rw [h0] at hs1; simp at hs1
          injection S9 with nH _ nI
          subst nH; subst nI
          obtain ⟨b0, hm⟩ : ∃ m, pn.list[0]? = some m := ⟨_, jA (by omega)⟩
          have kR : pn.list.getD (0) n = b0 := by rw [jL, hm]; rfl
          have nJ := hid (bD.out.kid (jI hm)); obtain ⟨u, hu, _, hcell⟩ := d3 (0) b0 hm; obtain ⟨jBB, iT, nK, hue, hkr, q0, q1, q2, q3, q4, q5⟩ := Jk hu hcell; subst hue; have aK := hid hm; have tC := hid hu; have iU := hid hkr
          try simp only [Nat.reduceMul, jZ, JN] at q0 q1 q2 q3 q4 q5
          have nL := hid q0; have nM := hid q1; have nN := hid q2; have nO := hid q3; have nP := hid q4; have nQ := hid q5
          clear hu hcell hkr q0 q1 q2 q3 q4 q5 hm; obtain ⟨b1, hm⟩ : ∃ m, pn.list[1]? = some m := ⟨_, jA (by omega)⟩
          have bH : pn.list.getD (1) n = b1 := by rw [jL, hm]; rfl
          have tF := hid (bD.out.kid (jI hm)); obtain ⟨u, hu, _, hcell⟩ := d3 (1) b1 hm; obtain ⟨O9, aA, tH, hue, hkr, q0, q1, q2, q3, q4, q5⟩ := Jk hu hcell; subst hue; have jEI := hid hm; have tJ := hid hu; have aC := hid hkr
          try simp only [Nat.reduceMul, jZ, JN] at q0 q1 q2 q3 q4 q5
          have tK := hid q0; have tL := hid q1; have tN := hid q2; have tO := hid q3; have tQ := hid q4; have tT := hid q5
          clear hu hcell hkr q0 q1 q2 q3 q4 q5 hm
          have hh0 : pn.list.headD pn = b0 := by
           rw [<- kR]; cases hh : pn.list with
           | nil => rw [hh] at hs1; simp at hs1
           | cons a r => rfl
          have Hy : pn.list.getD 1 pn = b1 := by
           rw [<- bH, jL, jL, jA (by omega)]; rfl
          have gZ : Hid (Px.alt f (Px.expr f) pn = (match Px.pat f b0 with | .error p => .error p | .ok s => match Px.expr f b1 with | .error p => .error p | .ok x => .ok (s, x))) := hid (by rw [Px.alt, hnb]; dsimp only; rw [hh0, Hy]; rfl); have CV : Hid (iQ <= k) := hid (by omega); have hp1 : (1 : Int) < (pn.list.length : Int) := by omega
          clear hh0 Hy kR bH hnb d1 d2 d3 hs1 rZ hlp nK tH M7; have EB := hid (TWO.out.bx _ (List.Mem.head _)).2.1; obtain ⟨bc0, bc1, bc2, bc3, Xj, Xk, bf⟩ := xF6 EB; have ET := hid TWO.out.et; have HB := hid (HB0.out.trans (TWO.out.low.mono (by omega))); have n0 := jC HB nL; have n1 := jC HB nM; have n2 := jC HB nN; have n3 := jC HB nO; have n4 := jC HB nP; have n5 := jC HB nQ; go_wp2_with fail; clear n0 n1 n2 n3 n4 n5; clear EB bc0 bc1 bc2 bc3 Xj Xk bf; refine (rU _ f b0 _ _ (by have := CV.out; have := tV.out; omega) (tC.out.below HB.out) nJ).mono ?_; intro e w4 ht; clear ET HB; cases hnm : Px.pat f b0 with
          | error p =>
            obtain ⟨z, rfl, ⟨tk, tp, tz, ti, tq, tn, tc, rfl⟩, hb⟩ := Jb ht hnm; have hge : (p : Int) >= 0 := by omega
            replace TWO := hid ((TWO.out.below hb).alloc #[.int .i64 tk, .int .i64 tp, .string tz, .int .i64 ti, .slice tq tn tc] 85); have hx : Px.each (Px.alt f (Px.expr f)) (n.list.drop 2) = .error p := (Px.qU nT.out HE.out).2 p (by rw [gZ.out, hnm]); have HX := hid hx; clear hx hnm hb ht
            have ER := hid (qV TWO.out.low Xi (by omega)); have ET := hid TWO.out.et; have HB := hid (HB0.out.trans (TWO.out.low.mono (by omega))); obtain ⟨pb, cb, rfl⟩ := jH TWO.out.oa; obtain ⟨J3, J4, qA, qJ, qW, QQ, zN, Qx⟩ := xF7 ER; obtain ⟨j3, jv, jw, JH, JX, Jy, Jz⟩ := xQ7 ET; go_wp2_with fail; replace ER := hid (Je (ER.out) (.int .i64 5) (.int .i64 n.tok.pos) (.string ⟨#[]⟩) (.int .i64 0) (.slice none 0 0) (.slice (some ⟨ga, 0, none⟩) 1 1) (.slice pb j cb)); replace HB := xS HB ER; obtain ⟨r0, r1, r2, r3, r4, r5, r6⟩ := xQ7 ER; refine jG (v := .tuple #[.agg #[.int .i64 5, .int .i64 n.tok.pos, .string ⟨#[]⟩, .int .i64 0, .slice none 0 0, .slice (some ⟨ga, 0, none⟩) 1 1, .slice pb j cb], .int .i64 p]) (by simp [results, Tryd.results65, go_sem, r0, r1, r2, r3, r4, r5, r6]) rfl ?_; exact jr (by rw [Db.out, HX.out]) HB ⟨_, _, _, _, _, _, _, _, _, _, _, _, _, rfl⟩
          | ok s =>
            obtain ⟨z, rfl, ⟨tk, tp, tz, ti, tq, tn, tc, rfl⟩, hnew, hb⟩ := Jm ht hnm; have jBG := TWO; have sK := hid hnew; have IA := hid hb
            replace TWO := hid ((TWO.out.below hb).alloc #[.int .i64 tk, .int .i64 tp, .string tz, .int .i64 ti, .slice tq tn tc] 85); have tX := hid (show Below w4.heap.size w4 (w4.alloc (.cells #[.int .i64 tk, .int .i64 tp, .string tz, .int .i64 ti, .slice tq tn tc] 85)) from (jD _ _).alloc (jB _) _); have VE := hid hnm; clear ht hnm hnew hb
            obtain ⟨gp, ry⟩ : ∃ gp, gp = w4.heap.size := ⟨_, rfl⟩
            go_upto_region 17 with fail
            rw [<- ry] at TWO; rw [<- ry]; generalize w4.alloc (.cells #[.int .i64 tk, .int .i64 tp, .string tz, .int .i64 ti, .slice tq tn tc] 85) = jHO at TWO tX ⊢; clear ry; have EB := hid (TWO.out.bx _ (List.Mem.tail _ (List.Mem.head _))).2.1; obtain ⟨bc0, bc1, bc2, bc3, Xj, Xk, bf⟩ := xF6 EB; have ET := hid TWO.out.et; have HB := hid (HB0.out.trans (TWO.out.low.mono (by omega))); have n0 := jC HB tK; have n1 := jC HB tL; have n2 := jC HB tN; have n3 := jC HB tO; have n4 := jC HB tQ; have n5 := jC HB tT; go_wp2_with fail; clear n0 n1 n2 n3 n4 n5; clear EB bc0 bc1 bc2 bc3 Xj Xk bf; refine (YZ.out _ b1 _ _ CV.out (tJ.out.below HB.out) tF.out).mono ?_; intro e w5 ht; clear ET HB; cases hx1 : Px.expr f b1 with
            | error p =>
              obtain ⟨z, rfl, ⟨xk, xp, xz, xi, CW, CX, CY, CZ, Ca, Cb, Cc, Ce, Cf, rfl⟩, hb⟩ := Jb ht hx1; have hge : (p : Int) >= 0 := by omega
              replace TWO := hid ((TWO.out.below hb).alloc #[.int .i64 xk, .int .i64 xp, .string xz, .int .i64 xi, .slice CW CX CY, .slice CZ Ca Cb, .slice Cc Ce Cf] 38); have hx : Px.each (Px.alt f (Px.expr f)) (n.list.drop 2) = .error p := (Px.qU nT.out HE.out).2 p (by rw [gZ.out, VE.out]; dsimp only; rw [hx1]); have HX := hid hx; clear hx hx1 hb ht
              have ER := hid (qV TWO.out.low Xi (by omega)); have ET := hid TWO.out.et; have HB := hid (HB0.out.trans (TWO.out.low.mono (by omega))); obtain ⟨pb, cb, rfl⟩ := jH TWO.out.oa; obtain ⟨J3, J4, qA, qJ, qW, QQ, zN, Qx⟩ := xF7 ER; obtain ⟨j3, jv, jw, JH, JX, Jy, Jz⟩ := xQ7 ET; go_wp2_with fail; replace ER := hid (Je (ER.out) (.int .i64 5) (.int .i64 n.tok.pos) (.string ⟨#[]⟩) (.int .i64 0) (.slice none 0 0) (.slice (some ⟨ga, 0, none⟩) 1 1) (.slice pb j cb)); replace HB := xS HB ER; obtain ⟨r0, r1, r2, r3, r4, r5, r6⟩ := xQ7 ER; refine jG (v := .tuple #[.agg #[.int .i64 5, .int .i64 n.tok.pos, .string ⟨#[]⟩, .int .i64 0, .slice none 0 0, .slice (some ⟨ga, 0, none⟩) 1 1, .slice pb j cb], .int .i64 p]) (by simp [results, Tryd.results65, go_sem, r0, r1, r2, r3, r4, r5, r6]) rfl ?_; exact jr (by rw [Db.out, HX.out]) HB ⟨_, _, _, _, _, _, _, _, _, _, _, _, _, rfl⟩
            | ok y =>
              obtain ⟨z, rfl, ⟨xk, xp, xz, xi, CW, CX, CY, CZ, Ca, Cb, Cc, Ce, Cf, rfl⟩, hnew, hb⟩ := Jm ht hx1; have hks := jBG.out.since (ru sK tX hnew hb IA.out.size); replace TWO := hid (((TWO.out.below hb).rf hks rfl).alloc #[.int .i64 xk, .int .i64 xp, .string xz, .int .i64 xi, .slice CW CX CY, .slice CZ Ca Cb, .slice Cc Ce Cf] 38); have aL := hid hx1; clear ht hx1 hnew hb hks jBG sK IA tX
              go_upto_region 22 with fail
              obtain ⟨gz, hgz⟩ : ∃ gz, gz = w5.heap.size := ⟨_, rfl⟩
              rw [<- hgz] at TWO; rw [<- hgz]; generalize w5.alloc (.cells #[.int .i64 xk, .int .i64 xp, .string xz, .int .i64 xi, .slice CW CX CY, .slice CZ Ca Cb, .slice Cc Ce Cf] 38) = w6 at TWO ⊢; clear hgz; obtain ⟨pb, cb, rfl⟩ := jH TWO.out.oa; have hone : Px.alt f (Px.expr f) pn = .ok (s, y) := by rw [gZ.out, VE.out]; dsimp only; rw [aL.out]
              have UB := hid ((Px.qU nT.out HE.out).1 (s, y) hone); clear hone; have ET := hid TWO.out.et; have EZ := hid (TWO.out.bx _ (List.Mem.head _)).2.1; have EP := hid (TWO.out.bx _ (List.Mem.tail _ (List.Mem.head _))).2.1; have j3 := xK ET 0 rfl; have tY := xK EZ 0 rfl; have jv := xK ET 1 rfl; have tZ := xK EZ 1 rfl; have jw := xK ET 2 rfl; have tu := xK EZ 2 rfl; have JH := xK ET 3 rfl; have IB := xK EZ 3 rfl; have JX := xK ET 4 rfl; have aM := xK EZ 4 rfl; have Jy := xK ET 5 rfl; have aN := xK EZ 5 rfl; have Jz := xK ET 6 rfl; have aQ := xK EZ 6 rfl; obtain ⟨jEJ, jEK, jEL, jEM, jEN⟩ := xQ5 EP; have QH := jX ET; have jEO : j <= 18 := by have := HLEN.out; omega
              go_wp2_with (at_builtin; refine G2.bJ (TWO.out.alloc #[.int .i64 tk, .int .i64 tp, .string tz, .int .i64 ti, .slice tq tn tc, .int .i64 xk, .int .i64 xp, .string xz, .int .i64 xi, .slice CW CX CY, .slice CZ Ca Cb, .slice Cc Ce Cf] 87) (by decide) 36 Tryd.underlying36 fB rfl (by decide) (by decide) (gb := w6.heap.size) (List.Mem.head _) rfl (by simp [Value.oneCell']) (by omega) rfl (.tmp 81) (.tmp 85) rfl rfl rfl ?_); intro v6 w7 h6; clear ET EZ EP QH j3 tY jv tZ jw tu JH IB JX aM Jy aN Jz aQ jEJ jEK jEL jEM jEN; obtain ⟨pc, cc, rfl⟩ := jH h6.oa; have T2 := hid (h6.only (M := [(ga, .cells #[.int .i64 yk, .int .i64 yp, .string yz, .int .i64 yi, .slice Q6 Q7 Q8, .slice zH zI zJ, .slice zX zY zZ] 38 (0, 0))]) (fun b hb => by rw [j4.1 hb]; exact (List.Mem.tail _ (List.Mem.tail _ (List.Mem.tail _ (List.Mem.tail _ (List.Mem.head _))))))); clear h6
              have ET := hid T2.out.et; obtain ⟨j3, jv, jw, JH, JX, Jy, Jz, QH⟩ := xF7 ET; go_wp2_with fail; clear ET QH j3 jv jw JH JX Jy Jz; have T3 := hid (T2.out.st 6 (.slice pc (j + 1) cc) #[.int .i64 5, .int .i64 n.tok.pos, .string ⟨#[]⟩, .int .i64 0, .slice none 0 0, .slice (some ⟨ga, 0, none⟩) 1 1, .slice pc (j + 1) cc] rfl)
              go_roundw
              case rel => exact ⟨j + 1, _, vs ++ [.agg #[.int .i64 tk, .int .i64 tp, .string tz, .int .i64 ti, .slice tq tn tc, .int .i64 xk, .int .i64 xp, .string xz, .int .i64 xi, .slice CW CX CY, .slice CZ Ca Cb, .slice Cc Ce Cf]], az ++ [(s, y)], by go_num, by omega, UB, hid (by rw [jE, mK.out]; rfl), T3⟩
              case measure => simp [intOf]; omega
      . skip
        have hqe : j = (n.list.drop 2).length := by rw [ja]; omega
        have he := HE.out; rw [hqe, jY] at he; have uh := hid he; clear he
        clear hqe; obtain ⟨pb, cb, rfl⟩ := jH TWO.out.oa; have ER := hid (qV TWO.out.low Xi (by omega)); obtain ⟨J3, J4, qA, qJ, qW, QQ, zN, Qx⟩ := xF7 ER; obtain ⟨j3, jv, jw, JH, JX, Jy, Jz⟩ := xQ7 ET; go_wp2_with fail; replace ER := hid (Je (ER.out) (.int .i64 5) (.int .i64 n.tok.pos) (.string ⟨#[]⟩) (.int .i64 0) (.slice none 0 0) (.slice (some ⟨ga, 0, none⟩) 1 1) (.slice pb j cb)); replace HB := xS HB ER; obtain ⟨r0, r1, r2, r3, r4, r5, r6⟩ := xQ7 ER; refine jG (v := .tuple #[.agg #[.int .i64 5, .int .i64 n.tok.pos, .string ⟨#[]⟩, .int .i64 0, .slice none 0 0, .slice (some ⟨ga, 0, none⟩) 1 1, .slice pb j cb], .int .i64 (-1)]) (by simp [results, Tryd.results65, go_sem, r0, r1, r2, r3, r4, r5, r6]) rfl ?_; refine Jq (x := Px.Expr.mk 5 n.pos [] 0 [] [x] az) (by rw [Db.out, uh.out]) HB ⟨_, _, _, _, _, _, _, _, _, _, _, _, _, rfl⟩ (fun u hu => ?_); have hag : ∀ b, w.heap.size + 2 < b -> b < wr.heap.size -> u.heap[b]? = wr.heap[b]? := fun b h1 h2 => (hu b (by omega) (by simpa using h2)).trans (xM _ _ b _ _ _ _ _ _ _ (by omega))
        have hA := mi TWO.out.oa mK.out.symm TWO.out.ka TWO.out.sa (u := u) (fun b h1 h2 => hag b (by omega) h2); have hE := (TWO.out.bx _ (List.Mem.head _)).2.1; obtain ⟨lo, hi, h0, h1, _, h3⟩ := TWO.out.kb.1; exact ⟨_, _, _, rfl, .inl ⟨rfl, none, 0, rfl⟩, row_one ((hag ga (by omega) (ji hE)).trans hE) (h3 u fun b hb1 hb2 => hag b (by omega) (by omega)) rfl, hA⟩
theorem lW (f : Nat) (n : Px.Node) (lv : Value) (w : World) (hg : Px.jq n) (hl : Px.jR n = false) (hlv : ∃ p k c, lv = .slice p k c) : Calls Tryd.prog 47 #[nV n lv] w (qN w (JB (f + 1)) qH (Px.expr (f + 1) n)) := by
 obtain ⟨lp, lk, lc, rfl⟩ := hlv; have HA := hid (fun w => Mk f n (.slice lp lk lc) w hg hl); unfold nV at *; rw [hl] at *; clear hl; go_enter Tryd.func47, Tryd.ntmps47; obtain ⟨en, er, hb, hsz⟩ := lS w #[.int .i64 n.tok.kind, .int .i64 n.tok.pos, .string ⟨n.tok.text.toArray⟩, .int .i64 n.tok.int, .bool false, (.slice lp lk lc)] #[.int .i64 0, .int .i64 0, .string ⟨#[]⟩, .int .i64 0, .slice none 0 0, .slice none 0 0, .slice none 0 0] 73 38; have EN := hid en; have ER := hid er; have HB := hid hb
 replace hsz := JS hsz.symm; clear en er hb; go_wp2_with fail; have QX := hid hsz; generalize (w.alloc (.cells #[.int .i64 n.tok.kind, .int .i64 n.tok.pos, .string ⟨n.tok.text.toArray⟩, .int .i64 n.tok.int, .bool false, (.slice lp lk lc)] 73)).alloc (.cells #[.int .i64 0, .int .i64 0, .string ⟨#[]⟩, .int .i64 0, .slice none 0 0, .slice none 0 0, .slice none 0 0] 38) = w0 at *; refine (HA.out w0).mono ?_; intro e w5 ht; cases hx : Px.expr (f + 1) n with
 | error p =>
   obtain ⟨z, rfl, ⟨yk, yp, yz, yi, Q6, Q7, Q8, zH, zI, zJ, zX, zY, zZ, rfl⟩, hb⟩ := Jb ht hx; have HX := hid hx; replace ER := bE ER hb; replace HB := bT HB hb; clear hb; clear ht hx; obtain ⟨J3, J4, qA, qJ, qW, QQ, zN, Qx⟩ := xF7 ER; go_wp2_with fail; replace ER := hid (Je (ER.out) (.int .i64 yk) (.int .i64 yp) (.string yz) (.int .i64 yi) (.slice Q6 Q7 Q8) (.slice zH zI zJ) (.slice zX zY zZ)); replace HB := xS HB ER; obtain ⟨r0, r1, r2, r3, r4, r5, r6⟩ := xQ7 ER; refine jG (v := .tuple #[.agg #[.int .i64 yk, .int .i64 yp, .string yz, .int .i64 yi, .slice Q6 Q7 Q8, .slice zH zI zJ, .slice zX zY zZ], .int .i64 p]) (by simp [results, Tryd.results47, go_sem, r0, r1, r2, r3, r4, r5, r6]) rfl ?_; exact jr HX HB ⟨_, _, _, _, _, _, _, _, _, _, _, _, _, rfl⟩
 | ok x =>
   obtain ⟨z, rfl, ⟨yk, yp, yz, yi, Q6, Q7, Q8, zH, zI, zJ, zX, zY, zZ, rfl⟩, hnew, hb⟩ := Jm ht hx; have HX := hid hx; have Vw := hid hnew
   have S1 := hid (JR.refl w0.heap.size w5); replace ER := bE ER hb; replace HB := bT HB hb; clear hb; clear ht hx hnew; obtain ⟨J3, J4, qA, qJ, qW, QQ, zN, Qx⟩ := xF7 ER; go_wp2_with fail; replace ER := hid (Je (ER.out) (.int .i64 yk) (.int .i64 yp) (.string yz) (.int .i64 yi) (.slice Q6 Q7 Q8) (.slice zH zI zJ) (.slice zX zY zZ)); replace HB := xS HB ER; obtain ⟨r0, r1, r2, r3, r4, r5, r6⟩ := xQ7 ER; refine jG (v := .tuple #[.agg #[.int .i64 yk, .int .i64 yp, .string yz, .int .i64 yi, .slice Q6 Q7 Q8, .slice zH zI zJ, .slice zX zY zZ], .int .i64 (-1)]) (by simp [results, Tryd.results47, go_sem, r0, r1, r2, r3, r4, r5, r6]) rfl ?_; exact Jq (x := x) HX HB ⟨_, _, _, _, _, _, _, _, _, _, _, _, _, rfl⟩ (New.stay Vw (by have := QX.out; omega) (JR.set (JR.set (JR.set (JR.set (JR.set (JR.set (JR.set (S1.out) (w.heap.size + 1) 0 _ (by have := QX.out; omega)) (w.heap.size + 1) 1 _ (by have := QX.out; omega)) (w.heap.size + 1) 2 _ (by have := QX.out; omega)) (w.heap.size + 1) 3 _ (by have := QX.out; omega)) (w.heap.size + 1) 4 _ (by have := QX.out; omega)) (w.heap.size + 1) 5 _ (by have := QX.out; omega)) (w.heap.size + 1) 6 _ (by have := QX.out; omega)))
theorem nU : ∀ (f k : Nat) (n : Px.Node) (v : Value) (w : World), k <= f -> Qw k w v n -> Px.jq n -> Calls Tryd.prog 47 #[v] w (qN w (JB f) qH (Px.expr f n)) := by
 intro f
 induction f with
 | zero =>
   intro k n v w hk hn; obtain rfl : k = 0 := by omega
   exact hn.elim
 | succ f ih =>
   intro k n v w hk hn hg; cases k with
   | zero => exact hn.elim
   | succ k =>
     have hi : ∀ j m v w1, j <= k -> Qw j w1 v m -> Px.jq m -> Calls Tryd.prog 47 #[v] w1 (qN w1 (JB f) qH (Px.expr f m)) := fun j m v w1 hj h hm => ih j m v w1 (by omega) h hm
     cases hl : Px.jR n with
     | true => exact lQ f k n v w hn hg hl (fun m hm v w1 h => hi k m v w1 (jB _) h (hg.kid hm)) (fun v w1 h => rX f k n v w1 h hg hl hi) (fun v w1 h => lV f k (by omega) n v w1 h hg hl hi)
     | false =>
       obtain ⟨lv, rfl, hr⟩ := hn; obtain ⟨p, c, hp⟩ := hr.len; exact lW f n lv w hg hl ⟨p, _, c, hp⟩
def gm (f : Nat) (u : World) (v : Value) (x : Px.dJ) : Prop := ∃ av, v = .agg #[.int .i64 x.pos, .string ⟨x.name.toArray⟩, av] /\ JO 3 (Q0 f u) u av x.fields
def Uq (f : Nat) (u : World) (v : Value) (x : Px.Data) : Prop := ∃ nv cv : Value, v = .agg #[.int .i64 x.pos, .string ⟨x.name.toArray⟩, nv, cv] /\ JO 1 (zA u) u nv x.params /\ JO 3 (gm f u) u cv x.cons
def Ur (v : Value) : Prop := ∃ (p : Int) (s : ByteArray) (q0 : Option Addr) (n0 c0 : Nat) (q1 : Option Addr) (n1 c1 : Nat), v = .agg #[.int .i64 p, .string s, .slice q0 n0 c0, .slice q1 n1 c1]
theorem rz : (Tryd.prog.info? 109).map (fun i => (i.zero, i.size, i.bytes)) = some (some (.agg #[.int .i64 0, .string ⟨#[]⟩, .slice none 0 0]), 3, 48) := by kernel_rfl
theorem Df (w : World) (g k : Nat) (a b c d : Value) (h : k ≠ g) : ((((w.setCell ⟨g, 0, none⟩ a).setCell ⟨g, 1, none⟩ b).setCell ⟨g, 2, none⟩ c).setCell ⟨g, 3, none⟩ d).heap[k]? = w.heap[k]? := by
 rw [jP _ ⟨g, 3, none⟩ d k h, jP _ ⟨g, 2, none⟩ c k h, jP _ ⟨g, 1, none⟩ b k h, jP _ ⟨g, 0, none⟩ a k h]
theorem nW (k : Nat) (nX : k <= 50) (n : Px.Node) (v : Value) (w : World) (hn : Qw (k + 1) w v n) (hg : Px.jq n) : Calls Tryd.prog 26 #[v] w (qN w (Uq 50) Ur (Px.data 50 n)) := by
 have Vv := hid hn; have TE := hid nX; obtain ⟨lv, rfl, hr⟩ := hn; obtain ⟨q, c, rfl⟩ := hr.len; have HR := hid hr; have HG := hid hg
 have hp0 : Px.data 50 n = (match Px.nodes n 4 103 with
  | .error p => .error p
  | .ok l =>
    match Px.qD (l.getD 1 n) with
    | .error p => .error p
    | .ok s =>
      match Px.names (l.getD 2 n) 0 with
      | .error p => .error p
      | .ok ps =>
        match Px.each (Px.KJ 50) (l.drop 3) with
        | .error p => .error p
        | .ok cs => .ok ⟨n.pos, s, ps, cs⟩) := rfl
 have HP := hid hp0; have HS2 := hid (fun w1 (hb : Below w.heap.size w w1) => Qg (k + 1) n _ 4 103 w1 (Vv.out.below hb) (by omega) (by omega)); clear hr hg hp0 nX; unfold nV at *; go_enter Tryd.func26, Tryd.ntmps26; obtain ⟨en, er, et, hb, hsz⟩ := Yv w #[.int .i64 n.tok.kind, .int .i64 n.tok.pos, .string ⟨n.tok.text.toArray⟩, .int .i64 n.tok.int, .bool (Px.jR n), (.slice q n.list.length c)] #[.int .i64 0, .string ⟨#[]⟩, .slice none 0 0, .slice none 0 0] #[.int .i64 n.tok.pos, .string ⟨#[]⟩, .slice none 0 0, .slice none 0 0] 73 56 56; have EN := hid en; have ER := hid er; have ET := hid et; have HB := hid hb
 replace hsz := JS hsz.symm; clear en er et hb; go_wp2_with fail; refine (HS2.out _ HB.out).mono ?_; rintro e w1 ⟨rfl, hb⟩; replace hsz := bS hsz hb; replace EN := bE EN hb; replace ER := bE ER hb; replace ET := bE ET hb; replace HB := bT HB hb; clear hb; unfold Zb; cases hnd : Px.nodes n 4 103 with
 | error p =>
   dsimp only
   have hge : (p : Int) >= 0 := by omega
   have Fz := hid hnd; clear hnd
   obtain ⟨J3, J4, qA, qJ, Qx⟩ := xF4 ER; obtain ⟨j3, jv, jw, JH⟩ := xQ4 ET; go_wp2_with fail; replace ER := hid (xP4 ER.out (.int .i64 n.tok.pos) (.string ⟨#[]⟩) (.slice none 0 0) (.slice none 0 0)); replace HB := xS HB ER; obtain ⟨r0, r1, r2, r3⟩ := xQ4 ER; refine jG (v := .tuple #[.agg #[.int .i64 n.tok.pos, .string ⟨#[]⟩, .slice none 0 0, .slice none 0 0], .int .i64 p]) (by simp [results, Tryd.results26, go_sem, r0, r1, r2, r3]) rfl ?_; exact jr (by rw [HP.out, Fz.out]) HB ⟨_, _, _, _, _, _, _, _, rfl⟩
 | ok l =>
   dsimp only
   have hni := JJ hnd; have hll := hni.1; have Qb := hni.2.1; have yu := hni.2.2.1; clear hni; subst hll; replace HP := HP.out; rw [hnd] at HP
   dsimp only at HP
   rcases HR.out with ⟨h0, _⟩ | ⟨g, of, c', hv, g1, g2, g3⟩
   . rw [h0] at Qb; simp at Qb
   injection hv with hq1 _ hq2
   subst hq1; subst hq2
   obtain ⟨m1, hm⟩ : ∃ m, n.list[1]? = some m := ⟨_, jA (by omega)⟩
   have VH : n.list.getD (1) n = m1 := by rw [jL, hm]; rfl
   have KQ := hid (HG.out.kid (jI hm)); obtain ⟨u, hu, _, hcell⟩ := g3 (1) m1 hm; obtain ⟨iI, Mr, bA, hue, hkr, q0, q1, q2, q3, q4, q5⟩ := Jk hu hcell; subst hue; have Su := hid hm; have Hz := hid hu; have rY := hid hkr
   try simp only [Nat.reduceMul, jZ, JN] at q0 q1 q2 q3 q4 q5
   have Uh := hid q0; have Ui := hid q1; have Uj := hid q2; have Uk := hid q3; have Ul := hid q4; have Um := hid q5
   clear hu hcell hkr q0 q1 q2 q3 q4 q5 hm; obtain ⟨m2, hm⟩ : ∃ m, n.list[2]? = some m := ⟨_, jA (by omega)⟩
   have kQ : n.list.getD (2) n = m2 := by rw [jL, hm]; rfl
   have Mx := hid (HG.out.kid (jI hm)); obtain ⟨u, hu, _, hcell⟩ := g3 (2) m2 hm; obtain ⟨Oz, Sw, M6, hue, hkr, q0, q1, q2, q3, q4, q5⟩ := Jk hu hcell; subst hue; have Sv := hid hm; have lG := hid hu; have iO := hid hkr
   try simp only [Nat.reduceMul, jZ, JN] at q0 q1 q2 q3 q4 q5
   have lH := hid q0; have lI := hid q1; have lJ := hid q2; have lK := hid q3; have lL := hid q4; have lM := hid q5
   clear hu hcell hkr q0 q1 q2 q3 q4 q5 hm; rw [VH, kQ] at HP; have vV := hid HP; have vW := hid g3; have HLEN := hid (And.intro Qb yu); have hz1 : (1 : Int) < (n.list.length : Int) := by omega
   have hz2 : (2 : Int) < (n.list.length : Int) := by omega
   have KR : (3 : Int) < (n.list.length : Int) := by omega
   clear HP VH kQ hnd g1 g2 g3 Qb yu bA M6; have n0 := jC HB Uh; have n1 := jC HB Ui; have n2 := jC HB Uj; have n3 := jC HB Uk; have n4 := jC HB Ul; have n5 := jC HB Um; obtain ⟨Jd, enc1, enc2, enc3, enc4, JZ, QI⟩ := xF6 EN; go_wp2_with fail; clear Jd enc1 enc2 enc3 enc4 JZ QI; clear n0 n1 n2 n3 n4 n5; refine (KZ m1 _ _ KQ).mono ?_; intro e w2 ht; cases hs1 : Px.qD m1 with
   | error p =>
     obtain ⟨z, rfl, ⟨zs, rfl⟩, hb⟩ := Jb ht hs1; have hge : (p : Int) >= 0 := by omega
     have Yl := hid hs1; replace hsz := bS hsz hb; replace ER := bE ER hb; replace ET := bE ET hb; replace HB := bT HB hb; clear hb; clear ht hs1; obtain ⟨j3, jv, jw, JH, QH⟩ := xF4 ET; go_upto_region 6 with fail
     clear j3 jv jw JH QH; replace ER := hid (jO (ER.out) (w.heap.size + 2) 1 (.string zs) (by omega)); replace ET := hid (JI #[.int .i64 n.tok.pos, .string zs, .slice none 0 0, .slice none 0 0] (ET.out) 1 (.string zs) rfl); replace HB := hid (jN (HB.out) (p := ⟨w.heap.size + 2, 1, none⟩) (by dsimp only; omega) (.string zs)); replace hsz : w.heap.size + 3 <= (w2.setCell ⟨w.heap.size + 2, 1, none⟩ (.string zs)).heap.size := by simpa using hsz
     generalize w2.setCell ⟨w.heap.size + 2, 1, none⟩ (.string zs) = wz at EN ER ET HB hsz ⊢; obtain ⟨J3, J4, qA, qJ, Qx⟩ := xF4 ER; obtain ⟨j3, jv, jw, JH⟩ := xQ4 ET; go_wp2_with fail; replace ER := hid (xP4 ER.out (.int .i64 n.tok.pos) (.string zs) (.slice none 0 0) (.slice none 0 0)); replace HB := xS HB ER; obtain ⟨r0, r1, r2, r3⟩ := xQ4 ER; refine jG (v := .tuple #[.agg #[.int .i64 n.tok.pos, .string zs, .slice none 0 0, .slice none 0 0], .int .i64 p]) (by simp [results, Tryd.results26, go_sem, r0, r1, r2, r3]) rfl ?_; exact jr (by rw [vV.out, Yl.out]) HB ⟨_, _, _, _, _, _, _, _, rfl⟩
   | ok s =>
     obtain ⟨z, rfl, _, hnew, hb⟩ := Jm ht hs1; obtain rfl : z = .string ⟨s.toArray⟩ := hnew.now; have Yl := hid hs1; replace hsz := bS hsz hb; replace EN := bE EN hb; replace ER := bE ER hb; replace ET := bE ET hb; replace HB := bT HB hb; clear hb; clear ht hs1 hnew; obtain ⟨j3, jv, jw, JH, QH⟩ := xF4 ET; go_upto_region 6 with fail
     clear j3 jv jw JH QH; replace EN := hid (jO (EN.out) (w.heap.size + 2) 1 (.string ⟨s.toArray⟩) (by omega)); replace ER := hid (jO (ER.out) (w.heap.size + 2) 1 (.string ⟨s.toArray⟩) (by omega)); replace ET := hid (JI #[.int .i64 n.tok.pos, .string ⟨s.toArray⟩, .slice none 0 0, .slice none 0 0] (ET.out) 1 (.string ⟨s.toArray⟩) rfl); replace HB := hid (jN (HB.out) (p := ⟨w.heap.size + 2, 1, none⟩) (by dsimp only; omega) (.string ⟨s.toArray⟩)); replace hsz : w.heap.size + 3 <= (w2.setCell ⟨w.heap.size + 2, 1, none⟩ (.string ⟨s.toArray⟩)).heap.size := by simpa using hsz
     generalize w2.setCell ⟨w.heap.size + 2, 1, none⟩ (.string ⟨s.toArray⟩) = wz at EN ER ET HB hsz ⊢; have QX := hid hsz; have n0 := jC HB lH; have n1 := jC HB lI; have n2 := jC HB lJ; have n3 := jC HB lK; have n4 := jC HB lL; have n5 := jC HB lM; obtain ⟨Jd, enc1, enc2, enc3, enc4, JZ, QI⟩ := xF6 EN; go_wp2_with fail; clear Jd enc1 enc2 enc3 enc4 JZ QI; clear n0 n1 n2 n3 n4 n5; refine (Ue k m2 _ _ (lG.out.below HB.out) Mx).mono ?_; intro e w3 ht; cases hs2 : Px.names m2 0 with
     | error p =>
       obtain ⟨z, rfl, ⟨zq, zn, zc, rfl⟩, hb⟩ := Jb ht hs2; have hge : (p : Int) >= 0 := by omega
       have kT := hid hs2; replace hsz := bS hsz hb; replace ER := bE ER hb; replace ET := bE ET hb; replace HB := bT HB hb; clear hb; clear ht hs2; obtain ⟨j3, jv, jw, JH, QH⟩ := xF4 ET; go_upto_region 9 with fail
       clear j3 jv jw JH QH; replace ER := hid (jO (ER.out) (w.heap.size + 2) 2 (.slice zq zn zc) (by omega)); replace ET := hid (JI #[.int .i64 n.tok.pos, .string ⟨s.toArray⟩, .slice zq zn zc, .slice none 0 0] (ET.out) 2 (.slice zq zn zc) rfl); replace HB := hid (jN (HB.out) (p := ⟨w.heap.size + 2, 2, none⟩) (by dsimp only; omega) (.slice zq zn zc)); replace hsz : w.heap.size + 3 <= (w3.setCell ⟨w.heap.size + 2, 2, none⟩ (.slice zq zn zc)).heap.size := by simpa using hsz
       generalize w3.setCell ⟨w.heap.size + 2, 2, none⟩ (.slice zq zn zc) = wz at EN ER ET HB hsz ⊢; obtain ⟨J3, J4, qA, qJ, Qx⟩ := xF4 ER; obtain ⟨j3, jv, jw, JH⟩ := xQ4 ET; go_wp2_with fail; replace ER := hid (xP4 ER.out (.int .i64 n.tok.pos) (.string ⟨s.toArray⟩) (.slice zq zn zc) (.slice none 0 0)); replace HB := xS HB ER; obtain ⟨r0, r1, r2, r3⟩ := xQ4 ER; refine jG (v := .tuple #[.agg #[.int .i64 n.tok.pos, .string ⟨s.toArray⟩, .slice zq zn zc, .slice none 0 0], .int .i64 p]) (by simp [results, Tryd.results26, go_sem, r0, r1, r2, r3]) rfl ?_; exact jr (by rw [vV.out, Yl.out]; dsimp only; rw [kT.out]) HB ⟨_, _, _, _, _, _, _, _, rfl⟩
     | ok ps =>
       obtain ⟨z, rfl, ⟨zq, zn, zc, rfl⟩, hnew, hb⟩ := Jm ht hs2; have kT := hid hs2; have gW := hid hnew
       have S1 := hid (JR.refl wz.heap.size w3); replace hsz := bS hsz hb; replace EN := bE EN hb; replace ER := bE ER hb; replace ET := bE ET hb; replace HB := bT HB hb; clear hb; clear ht hs2 hnew; obtain ⟨j3, jv, jw, JH, QH⟩ := xF4 ET; go_upto_region 9 with fail
       clear j3 jv jw JH QH; replace EN := hid (jO (EN.out) (w.heap.size + 2) 2 (.slice zq zn zc) (by omega)); replace ER := hid (jO (ER.out) (w.heap.size + 2) 2 (.slice zq zn zc) (by omega)); replace ET := hid (JI #[.int .i64 n.tok.pos, .string ⟨s.toArray⟩, .slice zq zn zc, .slice none 0 0] (ET.out) 2 (.slice zq zn zc) rfl); replace HB := hid (jN (HB.out) (p := ⟨w.heap.size + 2, 2, none⟩) (by dsimp only; omega) (.slice zq zn zc)); replace S1 := hid (JR.set S1 (w.heap.size + 2) 2 (.slice zq zn zc) (by have := QX.out; omega)); replace hsz : w.heap.size + 3 <= (w3.setCell ⟨w.heap.size + 2, 2, none⟩ (.slice zq zn zc)).heap.size := by simpa using hsz
       generalize w3.setCell ⟨w.heap.size + 2, 2, none⟩ (.slice zq zn zc) = wz at EN ER ET HB S1 hsz ⊢; have hnk := (New.stay gW (jB _) S1).Eo (base := (w.heap.size + 2) + 1) (S := fun _ => False) (by have := QX.out; omega) (fun g hg => hg.elim); have hnil : ∀ E s, wz.ownsRow (w.heap.size + 2 + 1) E s (.slice none 0 0) 0 [] := fun _ _ => jo _ _ _ _
       have bB : G2 109 3 (gm 50) 9 1 (fun u => JO 1 (zA u) u) wz (w.heap.size + 2) 56 #[.int .i64 n.tok.pos, .string ⟨s.toArray⟩, .slice zq zn zc, .slice none 0 0] (.slice none 0 0) (.slice none 0 0) (0) 0 ([]) [] ([]) [.slice zq zn zc] ([]) [ps] [] wz := ⟨jD _ _, by omega, ET.out, hnil _ _, hnil _ _, trivial, ⟨hnk.step (jB _) (fun _ _ _ _ => rfl) (fun g hg => by simp [Value.ownBlock] at hg), trivial⟩, (fun _ h => by cases h), (fun u hu => by rw [j4.1 hu]; rfl), (fun b hb => by cases hb)⟩; have xQ := hid bB; have iP := EN; have Xi := ER; have HB0 := HB
       have Db : Hid (Px.data 50 n = (match Px.each (Px.KJ 50) (n.list.drop 3) with | .error p => .error p | .ok cs => .ok ⟨n.pos, s, ps, cs⟩)) := hid (by rw [vV.out, Yl.out]; dsimp only; rw [kT.out]); clear bB hnil hnk EN ER ET HB gW S1 vV Yl kT; go_wp2_with fail
       go_loopw [3, 5, 6, 7, 8, 9, 10, 11] (fun _ _ i _ _ _ _ _ wr => ∃ (j : Nat) (av : Value) (vs : List Value) (cz : List Px.dJ), i = .int .i64 (j + 3 : Nat) /\ j + 3 <= n.list.length /\ Hid (Px.each (Px.KJ 50) ((n.list.drop 3).take j) = .ok cz) /\ Hid (cz.length = j) /\ Hid (G2 109 3 (gm 50) 9 1 (fun u => JO 1 (zA u) u) wz (w.heap.size + 2) 56 #[.int .i64 n.tok.pos, .string ⟨s.toArray⟩, .slice zq zn zc, av] (av) (.slice none 0 0) (j) 0 (vs) [] (vs) [.slice zq zn zc] (cz) [ps] [] wr)) (fun _ _ i _ _ _ _ _ _ => n.list.length - (intOf i).toNat)
       case atStart => exact ⟨0, _, [], [], rfl, by have := HLEN.out; omega, hid (by simp [Px.each]), hid rfl, xQ⟩
       case round =>
        clear xQ; obtain ⟨j, av, vs, cz, rfl, hq, HE, mK, TWO⟩ := hrel; have hwr := TWO.out.lt; have EN := hid (qV TWO.out.low iP (by omega)); have ET := hid TWO.out.et; have HB := hid (HB0.out.trans (TWO.out.low.mono (by omega))); obtain ⟨Jd, enc1, enc2, enc3, enc4, JZ, QI⟩ := xF6 EN; by_cases hlt : j + 3 < n.list.length
        . skip
          have hrow := vW.out; obtain ⟨pn, hm⟩ : ∃ m, n.list[j + 3]? = some m := ⟨_, jA (by omega)⟩
          have bC : n.list.getD (j + 3) n = pn := by rw [jL, hm]; rfl
          have bD := hid (HG.out.kid (jI hm)); obtain ⟨u, hu, _, hcell⟩ := hrow (j + 3) pn hm; obtain ⟨iQ, iR, M7, hue, hkr, q0, q1, q2, q3, q4, q5⟩ := Jk hu hcell; subst hue; have bF := hid hm; have M8 := hid hu; have bG := hid hkr
          try simp only [Nat.reduceMul, jZ, JN] at q0 q1 q2 q3 q4 q5
          have M9 := hid q0; have nA := hid q1; have nC := hid q2; have nD := hid q3; have nE := hid q4; have nG := hid q5
          clear hu hcell hkr q0 q1 q2 q3 q4 q5 hm; have hdp : (n.list.drop 3)[j]? = some pn := by rw [List.getElem?_drop, Em]; exact bF.out
          have nT := hid hdp; clear hrow bC hdp; obtain ⟨sI, sJ, rfl⟩ := bG.out.len; have k0 := jC HB M9; have k1 := jC HB nA; have k2 := jC HB nC; have k3 := jC HB nD; have k4 := jC HB nE; have k5 := jC HB nG; go_wp2_with fail; clear Jd enc1 enc2 enc3 enc4 JZ QI; clear k0 k1 k2 k3 k4 k5; replace TWO := hid (TWO.out.alloc #[.int .i64 pn.tok.kind, .int .i64 pn.tok.pos, .string ⟨pn.tok.text.toArray⟩, .int .i64 pn.tok.int, .bool (Px.jR pn), .slice sI pn.list.length sJ] 73); have HB2 := hid (HB0.out.trans (TWO.out.low.mono (by omega))); obtain ⟨gb, hgb⟩ : ∃ gb, gb = wr.heap.size := ⟨_, rfl⟩
          rw [<- hgb] at TWO; rw [<- hgb]; generalize wr.alloc (.cells #[.int .i64 pn.tok.kind, .int .i64 pn.tok.pos, .string ⟨pn.tok.text.toArray⟩, .int .i64 pn.tok.int, .bool (Px.jR pn), .slice sI pn.list.length sJ] 73) = wa at *; clear hgb EN ET HB; refine (Qg _ pn _ 1 9 _ (M8.out.below HB2.out) (by omega) (by omega)).mono ?_; rintro e w3 ⟨rfl, hb⟩; replace TWO := hid (TWO.out.below hb); clear hb HB2; unfold Zb; cases hnb : Px.nodes pn 1 9 with
          | error p =>
            dsimp only
            have hge : (p : Int) >= 0 := by omega
            have hx : Px.each (Px.KJ 50) (n.list.drop 3) = .error p := (Px.qU nT.out HE.out).2 p (by rw [Px.KJ, hnb]); have HX := hid hx; clear hx
            clear hnb; have ER := hid (qV TWO.out.low Xi (by omega)); have ET := hid TWO.out.et; have HB := hid (HB0.out.trans (TWO.out.low.mono (by omega))); obtain ⟨pb, cb, rfl⟩ := jH TWO.out.oa; obtain ⟨J3, J4, qA, qJ, Qx⟩ := xF4 ER; obtain ⟨j3, jv, jw, JH⟩ := xQ4 ET; go_wp2_with fail; replace ER := hid (xP4 ER.out (.int .i64 n.tok.pos) (.string ⟨s.toArray⟩) (.slice zq zn zc) (.slice pb j cb)); replace HB := xS HB ER; obtain ⟨r0, r1, r2, r3⟩ := xQ4 ER; refine jG (v := .tuple #[.agg #[.int .i64 n.tok.pos, .string ⟨s.toArray⟩, .slice zq zn zc, .slice pb j cb], .int .i64 p]) (by simp [results, Tryd.results26, go_sem, r0, r1, r2, r3]) rfl ?_; exact jr (by rw [Db.out, HX.out]) HB ⟨_, _, _, _, _, _, _, _, rfl⟩
          | ok lb =>
            dsimp only
            have hni := JJ hnb; have hll := hni.1; have hs1 := hni.2.1; have rZ := hni.2.2.1; clear hni; subst hll
            rcases bG.out with ⟨h0, _⟩ | ⟨g2, o2, c2, S9, d1, d2, d3⟩
            . rw [h0] at hs1; simp at hs1
            injection S9 with nH _ nI
            subst nH; subst nI
            obtain ⟨b0, hm⟩ : ∃ m, pn.list[0]? = some m := ⟨_, jA (by omega)⟩
            have kR : pn.list.getD (0) n = b0 := by rw [jL, hm]; rfl
            have nJ := hid (bD.out.kid (jI hm)); obtain ⟨u, hu, _, hcell⟩ := d3 (0) b0 hm; obtain ⟨jBB, iT, nK, hue, hkr, q0, q1, q2, q3, q4, q5⟩ := Jk hu hcell; subst hue; have aK := hid hm; have tC := hid hu; have iU := hid hkr
            try simp only [Nat.reduceMul, jZ, JN] at q0 q1 q2 q3 q4 q5
            have nL := hid q0; have nM := hid q1; have nN := hid q2; have nO := hid q3; have nP := hid q4; have nQ := hid q5
            clear hu hcell hkr q0 q1 q2 q3 q4 q5 hm
            have hh0 : pn.list.headD pn = b0 := by
             rw [<- kR]; cases hh : pn.list with
             | nil => rw [hh] at hs1; simp at hs1
             | cons a r => rfl
            have gZ : Hid (Px.KJ 50 pn = (match Px.qD b0 with | .error p => .error p | .ok s => match Px.each (Px.Q9 50) pn.list.tail with | .error p => .error p | .ok ts => .ok ⟨pn.pos, s, ts⟩)) := hid (by rw [Px.KJ, hnb]; dsimp only; rw [hh0]; rfl); have CV : Hid (iQ <= k) := hid (by omega); have IC := hid d3; have hp1 : (0 : Int) < (pn.list.length : Int) := by omega
            have jBH := hid (And.intro hs1 rZ); clear hh0 kR hnb d1 d2 d3 hs1 rZ nK M7; have EB := hid (TWO.out.bx _ (List.Mem.head _)).2.1; obtain ⟨bc0, bc1, bc2, bc3, Xj, Xk, bf⟩ := xF6 EB; go_upto_region 19 with fail
            clear EB bc0 bc1 bc2 bc3 Xj Xk bf; have EC := hid (jb w3 #[.int .i64 pn.tok.pos, .string ⟨#[]⟩, .slice none 0 0] 109); have Dg := hid (show Below w3.heap.size w3 (w3.alloc (.cells #[.int .i64 pn.tok.pos, .string ⟨#[]⟩, .slice none 0 0] 109)) from (jD _ _).alloc (jB _) _); generalize w3.alloc (.cells #[.int .i64 pn.tok.pos, .string ⟨#[]⟩, .slice none 0 0] 109) = w4 at EC Dg ⊢; have aR := hid (TWO.out.below Dg.out); have EB := hid (aR.out.bx _ (List.Mem.head _)).2.1; obtain ⟨bc0, bc1, bc2, bc3, Xj, Xk, bf⟩ := xF6 EB; have HB := hid (HB0.out.trans (aR.out.low.mono (by omega))); have n0 := jC HB nL; have n1 := jC HB nM; have n2 := jC HB nN; have n3 := jC HB nO; have n4 := jC HB nP; have n5 := jC HB nQ; go_wp2_with fail; clear n0 n1 n2 n3 n4 n5; clear EB bc0 bc1 bc2 bc3 Xj Xk bf; clear aR HB; refine (KZ b0 _ _ nJ).mono ?_; intro e w5 ht; cases hnm : Px.qD b0 with
            | error p =>
              obtain ⟨z, rfl, ⟨zs, rfl⟩, hb⟩ := Jb ht hnm; have hge : (p : Int) >= 0 := by omega
              have hx : Px.each (Px.KJ 50) (n.list.drop 3) = .error p := (Px.qU nT.out HE.out).2 p (by rw [gZ.out, hnm]); have HX := hid hx; clear hx
              replace EC := bE EC hb; replace Dg := bT Dg hb; clear hb; obtain ⟨RA, RB, RD, cf⟩ := xF3 EC; go_upto_region 20 with fail
              clear RA RB RD cf; replace Dg := hid (Dg.out.setCell (p := ⟨w3.heap.size, 1, none⟩) (jB _) (.string zs)); generalize w5.setCell ⟨w3.heap.size, 1, none⟩ (.string zs) = wi at EC Dg ⊢; clear ht hnm; have RF := hid (TWO.out.below Dg.out); have ER := hid (qV RF.out.low Xi (by omega)); have ET := hid RF.out.et; have HB := hid (HB0.out.trans (RF.out.low.mono (by omega))); obtain ⟨pb, cb, rfl⟩ := jH RF.out.oa; obtain ⟨J3, J4, qA, qJ, Qx⟩ := xF4 ER; obtain ⟨j3, jv, jw, JH⟩ := xQ4 ET; go_wp2_with fail; replace ER := hid (xP4 ER.out (.int .i64 n.tok.pos) (.string ⟨s.toArray⟩) (.slice zq zn zc) (.slice pb j cb)); replace HB := xS HB ER; obtain ⟨r0, r1, r2, r3⟩ := xQ4 ER; refine jG (v := .tuple #[.agg #[.int .i64 n.tok.pos, .string ⟨s.toArray⟩, .slice zq zn zc, .slice pb j cb], .int .i64 p]) (by simp [results, Tryd.results26, go_sem, r0, r1, r2, r3]) rfl ?_; exact jr (by rw [Db.out, HX.out]) HB ⟨_, _, _, _, _, _, _, _, rfl⟩
            | ok s2 =>
              obtain ⟨z, rfl, _, hnew, hb⟩ := Jm ht hnm; obtain rfl : z = .string ⟨s2.toArray⟩ := hnew.now; have VE := hid hnm; clear ht hnm hnew
              replace EC := bE EC hb; replace Dg := bT Dg hb; clear hb; obtain ⟨RA, RB, RD, cf⟩ := xF3 EC; go_upto_region 20 with fail
              clear RA RB RD cf; replace EC := hid (JI #[.int .i64 pn.tok.pos, .string ⟨s2.toArray⟩, .slice none 0 0] EC 1 (.string ⟨s2.toArray⟩) rfl); replace Dg := hid (Dg.out.setCell (p := ⟨w3.heap.size, 1, none⟩) (jB _) (.string ⟨s2.toArray⟩)); generalize w5.setCell ⟨w3.heap.size, 1, none⟩ (.string ⟨s2.toArray⟩) = wi at EC Dg ⊢; obtain ⟨wo, hwo⟩ : ∃ x, x = wr := ⟨wr, rfl⟩
              subst hwo; have hin : G2 111 3 (Q0 50) 9 1 (fun _ _ (_ : Unit) => True) wi w3.heap.size 109 #[.int .i64 pn.tok.pos, .string ⟨s2.toArray⟩, .slice none 0 0] (.slice none 0 0) (.slice none 0 0) (0) 0 ([]) [] ([]) [] ([]) ([] : List Unit) [] wi := nS EC; have jBI := hid hin; clear hin EC; go_wp2_with fail
              go_loopw [3, 9, 10, 11] (fun _ kk _ _ wr => ∃ (i : Nat) (fv : Value) (us : List Value) (tz : List Px.zR), kk = .int .i64 (i + 1 : Nat) /\ i + 1 <= pn.list.length /\ Hid (Px.each (Px.Q9 50) (pn.list.tail.take i) = .ok tz) /\ Hid (tz.length = i) /\ Hid (G2 111 3 (Q0 50) 9 1 (fun _ _ (_ : Unit) => True) wi w3.heap.size 109 #[.int .i64 pn.tok.pos, .string ⟨s2.toArray⟩, fv] (fv) (.slice none 0 0) (i) 0 (us) [] (us) [] (tz) ([] : List Unit) [] wr)) (fun _ kk _ _ _ => pn.list.length - (intOf kk).toNat)
              case atStart => exact ⟨0, _, [], [], rfl, by have := jBH.out; omega, hid (by simp [Px.each]), hid rfl, jBI⟩
              case round =>
               clear jBI; obtain ⟨i, fv, us, tz, rfl, hi, aS, jBJ, TI⟩ := hrel; have Zj := hid (Dg.out.trans TI.out.low); have RG := hid (TWO.out.below Zj.out); have EB := hid (RG.out.bx _ (List.Mem.head _)).2.1; obtain ⟨bc0, bc1, bc2, bc3, Xj, Xk, bf⟩ := xF6 EB; have ET := hid RG.out.et; have HB := hid (HB0.out.trans (RG.out.low.mono (by omega))); by_cases jB7 : i + 1 < pn.list.length
               . skip
                 have hrow := IC.out; obtain ⟨tn, hm⟩ : ∃ m, pn.list[i + 1]? = some m := ⟨_, jA (by omega)⟩
                 have IE : pn.list.getD (i + 1) n = tn := by rw [jL, hm]; rfl
                 have aT := hid (bD.out.kid (jI hm)); obtain ⟨u, hu, _, hcell⟩ := hrow (i + 1) tn hm; obtain ⟨jHP, jEP, jEQ, hue, hkr, q0, q1, q2, q3, q4, q5⟩ := Jk hu hcell; subst hue; have aU := hid hm; have aV := hid hu
                 try simp only [Nat.reduceMul, jZ, JN] at q0 q1 q2 q3 q4 q5
                 have aW := hid q0; have aX := hid q1; have aY := hid q2; have aZ := hid q3; have aa := hid q4; have ae := hid q5
                 clear hu hcell hkr q0 q1 q2 q3 q4 q5 hm; have htl : pn.list.tail[i]? = some tn := by rw [Xh]; exact aU.out
                 have jBK := hid htl; clear hrow IE htl; have k0 := jC HB aW; have k1 := jC HB aX; have k2 := jC HB aY; have k3 := jC HB aZ; have k4 := jC HB aa; have k5 := jC HB ae; go_wp2_with fail; clear EB bc0 bc1 bc2 bc3 Xj Xk bf; clear k0 k1 k2 k3 k4 k5; refine (rM _ 50 tn _ _ (by have := CV.out; have := TE.out; omega) (aV.out.below HB.out) aT).mono ?_; intro e w6 ht; clear ET HB RG Zj; cases hty : Px.Q9 50 tn with
                 | error p =>
                   obtain ⟨z, rfl, ⟨tp, Cg, tq, tn, tc, rfl⟩, hb⟩ := Jb ht hty; have hge : (p : Int) >= 0 := by omega
                   have hte : Px.each (Px.Q9 50) pn.list.tail = .error p := (Px.qU jBK.out aS.out).2 p hty; have hx : Px.each (Px.KJ 50) (n.list.drop 3) = .error p := (Px.qU nT.out HE.out).2 p (by rw [gZ.out, VE.out]; dsimp only; rw [hte]); have HX := hid hx; clear hx
                   replace TI := hid ((TI.out.below hb).alloc #[.int .i64 tp, .string Cg, .slice tq tn tc] 111); clear ht hty hte hb; have Zj := hid (Dg.out.trans TI.out.low); have RF := hid (TWO.out.below Zj.out); have ER := hid (qV RF.out.low Xi (by omega)); have ET := hid RF.out.et; have HB := hid (HB0.out.trans (RF.out.low.mono (by omega))); obtain ⟨pb, cb, rfl⟩ := jH RF.out.oa; obtain ⟨J3, J4, qA, qJ, Qx⟩ := xF4 ER; obtain ⟨j3, jv, jw, JH⟩ := xQ4 ET; go_wp2_with fail; replace ER := hid (xP4 ER.out (.int .i64 n.tok.pos) (.string ⟨s.toArray⟩) (.slice zq zn zc) (.slice pb j cb)); replace HB := xS HB ER; obtain ⟨r0, r1, r2, r3⟩ := xQ4 ER; refine jG (v := .tuple #[.agg #[.int .i64 n.tok.pos, .string ⟨s.toArray⟩, .slice zq zn zc, .slice pb j cb], .int .i64 p]) (by simp [results, Tryd.results26, go_sem, r0, r1, r2, r3]) rfl ?_; exact jr (by rw [Db.out, HX.out]) HB ⟨_, _, _, _, _, _, _, _, rfl⟩
                 | ok x =>
                   obtain ⟨z, rfl, ⟨tp, Cg, tq, tn, tc, rfl⟩, hnew, hb⟩ := Jm ht hty; have hks := TI.out.since hnew; replace TI := hid (((TI.out.below hb).rf hks rfl).alloc #[.int .i64 tp, .string Cg, .slice tq tn tc] 111); have UB := hid ((Px.qU jBK.out aS.out).1 x hty); clear ht hty hnew hb hks; go_upto_region 28 with fail
                   obtain ⟨gz, hgz⟩ : ∃ gz, gz = w6.heap.size := ⟨_, rfl⟩
                   rw [<- hgz] at TI; rw [<- hgz]; generalize w6.alloc (.cells #[.int .i64 tp, .string Cg, .slice tq tn tc] 111) = w7 at TI ⊢; clear hgz; obtain ⟨pb, cb, rfl⟩ := jH TI.out.oa; have EC := hid TI.out.et; have EZ := hid (TI.out.bx _ (List.Mem.head _)).2.1; have RA := xK EC 0 rfl; have tY := xK EZ 0 rfl; have RB := xK EC 1 rfl; have tZ := xK EZ 1 rfl; have RD := xK EC 2 rfl; have tu := xK EZ 2 rfl; have cf := jX EC; have hi9 : i <= 9 := by have := jBH.out; omega
                   go_wp2_with (at_builtin; refine G2.bJ (TI.out.alloc #[.int .i64 tp, .string Cg, .slice tq tn tc] 111) (by decide) 107 Tryd.underlying107 gT rfl (by decide) (by decide) (gb := w7.heap.size) (List.Mem.head _) rfl (by simp [Value.oneCell']) (by omega) rfl (.tmp 104) (.tmp 106) rfl rfl rfl ?_); intro v6 w8 h6; clear EC EZ cf RA tY RB tZ RD tu; obtain ⟨pc, cc, rfl⟩ := jH h6.oa; have T2 := hid (h6.only (M := []) (fun b hb => by cases hb)); clear h6
                   have EC := hid T2.out.et; obtain ⟨RA, RB, RD, cf⟩ := xF3 EC; go_wp2_with fail; clear EC cf RA RB RD; have T3 := hid (T2.out.st 2 (.slice pc (i + 1) cc) #[.int .i64 pn.tok.pos, .string ⟨s2.toArray⟩, .slice pc (i + 1) cc] rfl)
                   go_roundw
                   case rel => exact ⟨i + 1, _, us ++ [.agg #[.int .i64 tp, .string Cg, .slice tq tn tc]], tz ++ [x], by go_num, by omega, UB, hid (by rw [jE, jBJ.out]; rfl), T3⟩
                   case measure => simp [intOf]; omega
               . skip
                 have hie : i = pn.list.tail.length := by rw [ZF]; omega
                 have he := aS.out; rw [hie, jY] at he; have uh := hid he; clear he
                 clear hie; have hone : Px.KJ 50 pn = .ok ⟨pn.pos, s2, tz⟩ := by rw [gZ.out, VE.out]; dsimp only; rw [uh.out]
                 have UB := hid ((Px.qU nT.out HE.out).1 _ hone); clear hone; obtain ⟨pf, af, rfl⟩ := jH TI.out.oa; have hnw : New (gm 50) w3 wr (.agg #[.int .i64 pn.tok.pos, .string ⟨s2.toArray⟩, .slice pf i af]) ⟨pn.pos, s2, tz⟩ := fun u hu => ⟨_, rfl, (TI.out.rows jBJ.out.symm rfl (u := u) (fun b h1 h2 => hu b (by omega) h2)).1⟩
                 have hks := TWO.out.since hnw; replace RG := hid (RG.out.rf hks rfl); clear hnw hks; obtain ⟨pb, cb, rfl⟩ := jH RG.out.oa; have jBL : j <= 103 := by have := HLEN.out; omega
                 have EC := hid TI.out.et; obtain ⟨j3, jv, jw, JH, QH⟩ := xF4 ET; obtain ⟨RA, RB, RD⟩ := xQ3 EC; go_wp2_with (at_builtin; refine G2.bJ (RG.out.alloc #[.int .i64 pn.tok.pos, .string ⟨s2.toArray⟩, .slice pf i af] 109) (by decide) 54 Tryd.underlying54 rz rfl (by decide) (by decide) (gb := wr.heap.size) (List.Mem.head _) rfl (by simp [Value.oneCell']) (by omega) rfl (.tmp 110) (.tmp 112) rfl rfl rfl ?_); intro v6 w8 h6; clear EB bc0 bc1 bc2 bc3 Xj Xk bf; clear ET EC QH j3 jv jw JH RA RB RD HB Zj RG; obtain ⟨pc, cc, rfl⟩ := jH h6.oa; have T2 := hid (h6.only (M := []) (fun b hb => by cases hb)); clear h6
                 have ET := hid T2.out.et; obtain ⟨j3, jv, jw, JH, QH⟩ := xF4 ET; go_wp2_with fail; clear ET QH j3 jv jw JH; have T3 := hid (T2.out.st 3 (.slice pc (j + 1) cc) #[.int .i64 n.tok.pos, .string ⟨s.toArray⟩, .slice zq zn zc, .slice pc (j + 1) cc] rfl)
                 go_roundw
                 case rel => exact ⟨j + 1, _, vs ++ [.agg #[.int .i64 pn.tok.pos, .string ⟨s2.toArray⟩, .slice pf i af]], cz ++ [⟨pn.pos, s2, tz⟩], by go_num, by omega, UB, hid (by rw [jE, mK.out]; rfl), T3⟩
                 case measure => simp [intOf]; omega
        . skip
          have hqe : j = (n.list.drop 3).length := by rw [ja]; omega
          have he := HE.out; rw [hqe, jY] at he; have uh := hid he; clear he
          clear hqe; obtain ⟨pb, cb, rfl⟩ := jH TWO.out.oa; have ER := hid (qV TWO.out.low Xi (by omega)); obtain ⟨J3, J4, qA, qJ, Qx⟩ := xF4 ER; obtain ⟨j3, jv, jw, JH⟩ := xQ4 ET; go_wp2_with fail; replace ER := hid (xP4 ER.out (.int .i64 n.tok.pos) (.string ⟨s.toArray⟩) (.slice zq zn zc) (.slice pb j cb)); replace HB := xS HB ER; obtain ⟨r0, r1, r2, r3⟩ := xQ4 ER; refine jG (v := .tuple #[.agg #[.int .i64 n.tok.pos, .string ⟨s.toArray⟩, .slice zq zn zc, .slice pb j cb], .int .i64 (-1)]) (by simp [results, Tryd.results26, go_sem, r0, r1, r2, r3]) rfl ?_; refine Jq (x := Px.Data.mk n.pos s ps cz) (by rw [Db.out, uh.out]) HB ⟨_, _, _, _, _, _, _, _, rfl⟩ (fun u hu => ?_); have hag : ∀ b, w.heap.size + 2 < b -> b < wr.heap.size -> u.heap[b]? = wr.heap[b]? := fun b h1 h2 => (hu b (by omega) (by simpa using h2)).trans (Df _ _ b _ _ _ _ (by omega))
          have hA := mi TWO.out.oa mK.out.symm TWO.out.ka TWO.out.sa (u := u) (fun b h1 h2 => hag b (by omega) h2); obtain ⟨lo, hi, h0, h1, _, h3⟩ := TWO.out.kb.1; exact ⟨_, _, rfl, h3 u fun b hb1 hb2 => hag b (by omega) (by omega), hA⟩
end Go.Proofs.YtlnjdclmopblcaaDoor
