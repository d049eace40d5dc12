import Derived.Test.YtlnjdclmopblcaaDoorI16
set_option linter.unusedVariables false
set_option linter.unusedSimpArgs false
set_option maxHeartbeats 40000000
set_option maxRecDepth 100000
namespace Go.Proofs.YtlnjdclmopblcaaDoor
open Go Go.RowKit
open Go.Lib (hid)
namespace Fr
variable {lo b mt mh : Nat} {D : List Nm}
theorem VU (D : List Nm) (f : Nat) (xs : List Px.Expr) (n : Nat) (ρ : Env) : qO (GE D f) xs n ρ = ((run (fun x n => expr D f x n ρ) xs n).1, (run (fun x n => expr D f x n ρ) xs n).2, ρ) :=
 Kh (GE D f) (fun ρ x n => expr D f x n ρ) (fun _ _ _ => rfl) xs n ρ
theorem XJ (D : List Nm) (f : Nat) (al : List (Px.QJ × Px.Expr)) (n : Nat) (ρ : Env) : qO (GA D f) al n ρ = ((run (fun (b : Px.QJ × Px.Expr) n => ((expr D f b.2 (pat D f b.1 n ρ).1 (pat D f b.1 n ρ).2.2).1, ((pat D f b.1 n ρ).2.1, (expr D f b.2 (pat D f b.1 n ρ).1 (pat D f b.1 n ρ).2.2).2))) al n).1, (run (fun (b : Px.QJ × Px.Expr) n => ((expr D f b.2 (pat D f b.1 n ρ).1 (pat D f b.1 n ρ).2.2).1, ((pat D f b.1 n ρ).2.1, (expr D f b.2 (pat D f b.1 n ρ).1 (pat D f b.1 n ρ).2.2).2))) al n).2, ρ) :=
 Kh (GA D f) (fun ρ (b : Px.QJ × Px.Expr) n => ((expr D f b.2 (pat D f b.1 n ρ).1 (pat D f b.1 n ρ).2.2).1, ((pat D f b.1 n ρ).2.1, (expr D f b.2 (pat D f b.1 n ρ).1 (pat D f b.1 n ρ).2.2).2))) (fun _ _ _ => rfl) al n ρ
theorem FE {α : Type} (G : α -> Nat -> Env -> Nat × α × Env) (l : List α) (n : Nat) (ρ : Env) : hst G noH l n ρ = [] := fP G noH (fun _ _ _ => rfl) l n ρ
theorem Kc {w0 : World} (hlo0 : w0.heap.size = lo) (htab : ∀ w, Below lo w0 w -> mO w) (hD : D.length <= 1000000) (B : Nat) (hB : B <= 3000000000) : ∀ f,
 NP w0 lo b mt mh D 34 (JB f w0) (JB f) (GE D f) noH (cE f) (mP B f)
 | 0 => fun x v w hv n ρ hs hr => hr.elim
 | f + 1 => by
   have ih := Kc hlo0 htab hD B hB f; have iha := Td hlo0 htab hD B hB f ih; have hbf := FB (b := b) (mt := mt) (mh := mh) (D := D) htab hD B hB; intro x v w hv n ρ hs hr hok hb hS hn hh; cases x with | mk k p nm i ns xs al =>
   obtain ⟨nv, xv, av, rfl, hr1, hr2, hr3⟩ := hr; obtain ⟨q1, c1, rfl⟩ := hr1.len; obtain ⟨q2, c2, rfl⟩ := hr2.len; obtain ⟨q3, c3, rfl⟩ := hr3.len; have hc0 : cE (f + 1) (.mk k p nm i ns xs al) = ns.length + (xs.map (cE f)).sum + (al.map (cA f)).sum := rfl; rw [hc0, JU, JU] at hn; rw [hc0] at hh; obtain ⟨ok1, sS, sU, jC8, jC9, jCA⟩ := hok; obtain ⟨hq, hc, Iw⟩ := jH hS.hid; subst Iw; obtain ⟨w1, hw1⟩ : ∃ w1, w1 = (w.alloc (.cells #[.int .i64 k, .int .i64 p, .string ⟨nm.toArray⟩, .int .i64 i, .slice q1 ns.length c1, .slice q2 xs.length c2, .slice q3 al.length c3] 38)).alloc (.cells #[.int .i64 0, .int .i64 0, .string ⟨#[]⟩, .int .i64 0, .slice none 0 0, .slice none 0 0, .slice none 0 0] 38) := ⟨_, rfl⟩
   have hF : wh lo b mt mh D w (.slice hq hs.length hc) 38 #[.int .i64 0, .int .i64 0, .string ⟨#[]⟩, .int .i64 0, .slice none 0 0, .slice none 0 0, .slice none 0 0] #[.int .i64 k, .int .i64 p, .string ⟨nm.toArray⟩, .int .i64 i, .slice q1 ns.length c1, .slice q2 xs.length c2, .slice q3 al.length c3] (.slice hq hs.length hc) n ρ hs w1 := by rw [hw1]; exact wh.start hS _
   have F1 := hid hF; obtain ⟨eT, Iz⟩ : ∃ eT, eT = (if k = 1 then called ρ nm else nm) := ⟨_, rfl⟩
   have VE := hid Iz; have HR1 := hid hr1; have HR2 := hid hr2; have HR3 := hid hr3; have HB := hid hb; have HN := hid hn; have HH := hid hh; have HI := hid ih; have jFP := hid iha; have Ah := hid hbf; have UD := hid hlo0
   have O1 := hid ok1; have O2 := hid sS; have O3 := hid sU; have O4 := hid jC8; have O5 := hid jC9; have O6 := hid jCA
   clear hr1 hr2 hr3 hb hS hn hh ih iha hbf hF htab hlo0 hD hB hc0 ok1 sS sU jC8 jC9 jCA Iz; go_enter Tryd.func34, Tryd.ntmps34
   go_upto_if 8 with fail
   rw [<- hw1]; clear hw1
   go_cut [] (fun wx => Hid (wh lo b mt mh D w (.slice hq hs.length hc) 38 #[.int .i64 0, .int .i64 0, .string ⟨#[]⟩, .int .i64 0, .slice none 0 0, .slice none 0 0, .slice none 0 0] #[.int .i64 k, .int .i64 p, .string ⟨eT.toArray⟩, .int .i64 i, .slice q1 ns.length c1, .slice q2 xs.length c2, .slice q3 al.length c3] (.slice hq hs.length hc) n ρ hs wx))
   case first =>
    by_cases hk : k = 1
    . have hk1 : ((k : Int) == 1) = true := by rw [qd]; omega
      have hA : eT = called ρ nm := by rw [VE.out, if_pos hk]
      have HA2 := hid hA; have y2 := jK F1.out.ex 2 _ rfl; have f2 := jX F1.out.ex 2; clear hk hA; go_wp2_with fail; refine (D9 w1 _ n ρ hs nm F1.out.st).mono ?_; rintro e w2 ⟨rfl, rfl⟩; rw [<- HA2.out]; have FC := F1.out.store 2 (.string ⟨eT.toArray⟩); simp only [jd, JF, JE] at FC; have F3 := hid FC; clear FC; go_wp2_with fail
      go_meet
      exact F3
    . have hk1 : ((k : Int) == 1) = false := qF.2 (by omega); have hA : eT = nm := by rw [VE.out, if_neg hk]
      have HA2 := hid hA; clear hk hA; go_wp2_with fail
      go_meet
      rw [HA2.out]; exact F1
   case rest =>
    have F2 := hcut; clear hcut
    rename World => w3
    have y3 := jK F2.out.st.uH 3 _ rfl; have y4 := jK F2.out.ex 4 _ rfl; go_wp2_with fail; clear y3 y4; have hb1 : n + (D.length + 1) * (ns.map (fun _ => 1)).sum <= 1000000000 := by rw [Qj]; have := HN.out; omega
    have hb2 : hs.length + (ns.map (fun _ => 1)).sum <= 100000000 := by rw [Qj]; have := HH.out; omega
    refine (kg UD 33 (enters_of Tryd.func33 (by kernel_rfl) rfl) (zA w0) zA (UN w0) UN (bnd D) UL (fun _ => 1) (fun s => s.length <= B) Ah (zz D) (fun _ _ _ => jB _) ns _ w3 _ n ρ hs HR1 O4 O1 (HB.out.trans F2.out.Xz.below) F2.out.st hb1 hb2).mono ?_; clear hb1 hb2; rintro e w4 ⟨out, hv1, rfl, g1, g2, g3⟩; obtain ⟨o1, d1, rfl⟩ := g3.now.len; obtain ⟨A1, hA1⟩ : ∃ A1, A1 = qO (bnd D) ns n ρ := ⟨_, rfl⟩
    obtain ⟨X1, hX1⟩ : ∃ X1, X1 = hst (bnd D) UL ns n ρ := ⟨_, rfl⟩
    rw [<- hA1] at g1 g3 ⊢; rw [<- hX1] at g1; obtain ⟨L1, hL1⟩ : ∃ L1, L1 = A1.2.1.length := ⟨_, rfl⟩
    rw [<- hL1] at g3 ⊢; have HA1 := hid hA1; have Yl := hid hX1
    have N4 := hid (Q4.base g3 F2.out.size : QB b mt mh w (fun u v l => JO 1 (zA u) u v l) hv1 w4 _ _); have F4 := hid (F2.out.call g1 g2); clear g1 g2 g3 hA1 hX1 hL1; have wu := F4.out.store 4 (.slice o1 L1 d1); simp only [jd, JF, JE] at wu; have F5 := hid wu; have N5 := hid (QB.store N4 4 (.slice o1 L1 d1)); have y4 := jK F4.out.ex 4 _ rfl; have f4 := jX F4.out.ex 4; have y5 := jK wu.ex 5 _ rfl; clear wu; go_wp2_with fail; clear y4 f4 y5; generalize w4.setCell ⟨w.heap.size, 4, none⟩ (.slice o1 L1 d1) = w5 at F5 N5 ⊢
    have hn1 : A1.1 <= n + (D.length + 1) * ns.length := by
     have h1 := Zg (bnd D) (D.length + 1) (fun _ => 1) (zz D) ns n ρ; rw [Qj] at h1; rw [HA1.out]; exact h1
    have hx1 : X1.length <= ns.length := by
     have h1 := U1 (bnd D) UL (fun _ => 1) (fun _ _ _ => jB _) ns n ρ; rw [Qj] at h1; rw [Yl.out]; exact h1
    have iJ := hid hn1; have kT := hid (show (hs ++ X1).length <= 100000000 by have := HH.out; rw [jE]; omega); have hb1 : A1.1 + (D.length + 1) * (xs.map (cE f)).sum <= 1000000000 := by have := HN.out; omega
    have hb2 : (hs ++ X1).length + (xs.map (cE f)).sum <= 100000000 := by have := HH.out; rw [jE]; omega
    refine (WA UD 34 (enters_of Tryd.func34 (by kernel_rfl) rfl) (JB f w0) (JB f) (Vq f w0) (Vq f) (GE D f) noH (cE f) (mP B f) HI (yK D f) (eQ _) xs _ w5 _ _ _ _ HR2 O5 O2 (HB.out.trans F5.out.Xz.below) F5.out.st hb1 hb2).mono ?_; clear hb1 hb2 hn1 hx1; rintro e w6 ⟨out, hv2, rfl, g1, g2, g3⟩; rw [VU, FE, Jl] at g1; rw [VU] at g3
    dsimp only at g1 g3
    obtain ⟨o2, d2, rfl⟩ := g3.now.len; obtain ⟨A2, hA2⟩ : ∃ A2, A2 = run (fun x n => expr D f x n A1.2.2) xs A1.1 := ⟨_, rfl⟩
    rw [<- hA2] at g1 g3 ⊢; obtain ⟨L2, hL2⟩ : ∃ L2, L2 = A2.2.length := ⟨_, rfl⟩
    rw [<- hL2] at g3 ⊢; have HA2 := hid hA2; have N6 := hid (Q4.step N5 g2 : QB b mt mh w (fun u v l => JO 1 (zA u) u v l) hv2 w6 _ _); have P6 := hid (Q4.base g3 F5.out.size : QB b mt mh w (fun u v l => JO 7 (JB f u) u v l) hv2 w6 _ _); have F6 := hid (F5.out.call g1 g2); clear g1 g2 g3 hA2 hL2; have Tf := F6.out.store 5 (.slice o2 L2 d2); simp only [jd, JF, JE] at Tf; have F7 := hid Tf; have N7 := hid (QB.store N6 5 (.slice o2 L2 d2)); have P7 := hid (QB.store P6 5 (.slice o2 L2 d2)); have y5 := jK F6.out.ex 5 _ rfl; have f5 := jX F6.out.ex 5; clear Tf; go_wp2_with fail; clear y5 f5; generalize w6.setCell ⟨w.heap.size, 5, none⟩ (.slice o2 L2 d2) = w7 at F7 N7 P7 ⊢; refine (U3 w7 _ _ _ hs X1 F7.out.st kT).mono ?_; rintro e w8 ⟨rfl, hv3, g1, g2⟩; rw [Yl.out, HA1.out, UK (bnd D) UL (wE D)] at g1; have N8 := hid (Q4.step N7 g2 : QB b mt mh w (fun u v l => JO 1 (zA u) u v l) hv3 w8 _ _); have P8 := hid (Q4.step P7 g2 : QB b mt mh w (fun u v l => JO 7 (JB f u) u v l) hv3 w8 _ _); have F8 := hid (F7.out.call g1 g2); clear g1 g2; have y6 := jK F8.out.ex 6 _ rfl; go_wp2_with fail; clear y6
    have hn2 : A2.1 <= A1.1 + (D.length + 1) * (xs.map (cE f)).sum := by
     have h1 := Zg (GE D f) (D.length + 1) (cE f) (yK D f) xs A1.1 A1.2.2; rw [VU] at h1; rw [HA2.out]; exact h1
    have hb1 : A2.1 + (D.length + 1) * (al.map (cA f)).sum <= 1000000000 := by have := HN.out; have := iJ.out; omega
    have hb2 : hs.length + (al.map (cA f)).sum <= 100000000 := by have := HH.out; omega
    refine (BR UD 56 (enters_of Tryd.func56 (by kernel_rfl) rfl) (vo (qj f w0) (JB f w0)) (fun u => vo (qj f u) (JB f u)) (BP f w0) (BP f) (GA D f) noH (cA f) (jC2 B f) jFP (Nq D f) (eQ _) al _ w8 _ _ _ _ HR3 O6 O3 (HB.out.trans F8.out.Xz.below) F8.out.st hb1 hb2).mono ?_; clear hb1 hb2 hn2; rintro e w9 ⟨out, hv4, rfl, g1, g2, g3⟩; rw [XJ, FE, Jl] at g1; rw [XJ] at g3
    dsimp only at g1 g3
    obtain ⟨o3, d3, rfl⟩ := g3.now.len; obtain ⟨A3, hA3⟩ : ∃ A3, A3 = run (fun (b : Px.QJ × Px.Expr) n => ((expr D f b.2 (pat D f b.1 n ρ).1 (pat D f b.1 n ρ).2.2).1, ((pat D f b.1 n ρ).2.1, (expr D f b.2 (pat D f b.1 n ρ).1 (pat D f b.1 n ρ).2.2).2))) al A2.1 := ⟨_, rfl⟩
    rw [<- hA3] at g1 g3 ⊢; obtain ⟨L3, hL3⟩ : ∃ L3, L3 = A3.2.length := ⟨_, rfl⟩
    rw [<- hL3] at g3 ⊢; have jFQ := hid hA3; have N9 := hid (Q4.step N8 g2 : QB b mt mh w (fun u v l => JO 1 (zA u) u v l) hv4 w9 _ _); have P9 := hid (Q4.step P8 g2 : QB b mt mh w (fun u v l => JO 7 (JB f u) u v l) hv4 w9 _ _); have R9 := hid (Q4.base g3 F8.out.size : QB b mt mh w (fun u v l => JO 12 (vo (qj f u) (JB f u)) u v l) hv4 w9 _ _); have F9 := hid (F8.out.call g1 g2); clear g1 g2 g3 hA3 hL3; have Ai := F9.out.store 6 (.slice o3 L3 d3); simp only [jd, JF, JE] at Ai; have Fa := hid Ai; have Na := hid (QB.store N9 6 (.slice o3 L3 d3)); have Pa := hid (QB.store P9 6 (.slice o3 L3 d3)); have Ra := hid (QB.store R9 6 (.slice o3 L3 d3)); have y6 := jK F9.out.ex 6 _ rfl; have f6 := jX F9.out.ex 6; clear Ai; obtain ⟨z0, z1, z2, z3, z4, z5, z6⟩ := xR7 Fa.out.ex; obtain ⟨r0, r1, r2, r3, r4, r5, r6⟩ := xR7 Fa.out.er; have t0 := jX Fa.out.er 0; have t1 := jX Fa.out.er 1; have t2 := jX Fa.out.er 2; have t3 := jX Fa.out.er 3; have t4 := jX Fa.out.er 4; have t5 := jX Fa.out.er 5; have t6 := jX Fa.out.er 6
    go_wp2_with fail; clear y6 f6 z0 r0 t0 z1 r1 t1 z2 r2 t2 z3 r3 t3 z4 r4 t4 z5 r5 t5 z6 r6 t6; have hfin : St ((((((((w9.setCell ⟨w.heap.size, 6, none⟩ (.slice o3 L3 d3)).setCell ⟨w.heap.size + 1, 0, none⟩ (.int .i64 k)).setCell ⟨w.heap.size + 1, 1, none⟩ (.int .i64 p)).setCell ⟨w.heap.size + 1, 2, none⟩ (.string ⟨eT.toArray⟩)).setCell ⟨w.heap.size + 1, 3, none⟩ (.int .i64 i)).setCell ⟨w.heap.size + 1, 4, none⟩ (.slice o1 L1 d1)).setCell ⟨w.heap.size + 1, 5, none⟩ (.slice o2 L2 d2)).setCell ⟨w.heap.size + 1, 6, none⟩ (.slice o3 L3 d3)) lo b mt mh _ D _ _ _ /\ Stp lo b mt mh _ _ w ((((((((w9.setCell ⟨w.heap.size, 6, none⟩ (.slice o3 L3 d3)).setCell ⟨w.heap.size + 1, 0, none⟩ (.int .i64 k)).setCell ⟨w.heap.size + 1, 1, none⟩ (.int .i64 p)).setCell ⟨w.heap.size + 1, 2, none⟩ (.string ⟨eT.toArray⟩)).setCell ⟨w.heap.size + 1, 3, none⟩ (.int .i64 i)).setCell ⟨w.heap.size + 1, 4, none⟩ (.slice o1 L1 d1)).setCell ⟨w.heap.size + 1, 5, none⟩ (.slice o2 L2 d2)).setCell ⟨w.heap.size + 1, 6, none⟩ (.slice o3 L3 d3)) /\ ((((((((w9.setCell ⟨w.heap.size, 6, none⟩ (.slice o3 L3 d3)).setCell ⟨w.heap.size + 1, 0, none⟩ (.int .i64 k)).setCell ⟨w.heap.size + 1, 1, none⟩ (.int .i64 p)).setCell ⟨w.heap.size + 1, 2, none⟩ (.string ⟨eT.toArray⟩)).setCell ⟨w.heap.size + 1, 3, none⟩ (.int .i64 i)).setCell ⟨w.heap.size + 1, 4, none⟩ (.slice o1 L1 d1)).setCell ⟨w.heap.size + 1, 5, none⟩ (.slice o2 L2 d2)).setCell ⟨w.heap.size + 1, 6, none⟩ (.slice o3 L3 d3)).heap[w.heap.size + 1]? = some (.cells #[.int .i64 k, .int .i64 p, .string ⟨eT.toArray⟩, .int .i64 i, .slice o1 L1 d1, .slice o2 L2 d2, .slice o3 L3 d3] 38 (0, 0)) /\ ∀ {α : Type} (Js : World -> Value -> α -> Prop) (v : Value) (x : α), QB b mt mh w Js _ (w9.setCell ⟨w.heap.size, 6, none⟩ (.slice o3 L3 d3)) v x -> Q4 Js w.heap.size ((((((((w9.setCell ⟨w.heap.size, 6, none⟩ (.slice o3 L3 d3)).setCell ⟨w.heap.size + 1, 0, none⟩ (.int .i64 k)).setCell ⟨w.heap.size + 1, 1, none⟩ (.int .i64 p)).setCell ⟨w.heap.size + 1, 2, none⟩ (.string ⟨eT.toArray⟩)).setCell ⟨w.heap.size + 1, 3, none⟩ (.int .i64 i)).setCell ⟨w.heap.size + 1, 4, none⟩ (.slice o1 L1 d1)).setCell ⟨w.heap.size + 1, 5, none⟩ (.slice o2 L2 d2)).setCell ⟨w.heap.size + 1, 6, none⟩ (.slice o3 L3 d3)) b mt mh _ v x := Fa.out.fin [.int .i64 k, .int .i64 p, .string ⟨eT.toArray⟩, .int .i64 i, .slice o1 L1 d1, .slice o2 L2 d2, .slice o3 L3 d3] rfl
    generalize ((((((((w9.setCell ⟨w.heap.size, 6, none⟩ (.slice o3 L3 d3)).setCell ⟨w.heap.size + 1, 0, none⟩ (.int .i64 k)).setCell ⟨w.heap.size + 1, 1, none⟩ (.int .i64 p)).setCell ⟨w.heap.size + 1, 2, none⟩ (.string ⟨eT.toArray⟩)).setCell ⟨w.heap.size + 1, 3, none⟩ (.int .i64 i)).setCell ⟨w.heap.size + 1, 4, none⟩ (.slice o1 L1 d1)).setCell ⟨w.heap.size + 1, 5, none⟩ (.slice o2 L2 d2)).setCell ⟨w.heap.size + 1, 6, none⟩ (.slice o3 L3 d3)) = wz at hfin ⊢; obtain ⟨f1, f2, e6, f4⟩ := hfin; obtain ⟨r0, r1, r2, r3, r4, r5, r6⟩ := xR7 e6; refine jG (v := .agg #[.int .i64 k, .int .i64 p, .string ⟨eT.toArray⟩, .int .i64 i, .slice o1 L1 d1, .slice o2 L2 d2, .slice o3 L3 d3]) (by simp [results, Tryd.results34, go_sem, r0, r1, r2, r3, r4, r5, r6]) rfl ?_; have hres : GE D (f + 1) (.mk k p nm i ns xs al) n ρ = (A3.1, .mk k p eT i A1.2.1 A2.2 A3.2, ρ) := by rw [jFQ.out, HA2.out, HA1.out, VE.out]; rfl
    refine ⟨_, hv4, rfl, ?_, f2, fun u hu => ?_⟩
    . rw [hres]; unfold noH; rw [Jl]; exact f1
    . rw [hres]; refine ⟨_, _, _, rfl, f4 _ _ _ Na.out u hu, f4 _ _ _ Pa.out u hu, f4 _ _ _ Ra.out u hu⟩
end Fr
namespace Fr
variable {lo b mt mh : Nat} {D : List Nm}
theorem BS {α : Type} {w0 : World} (hlo0 : w0.heap.size = lo) (F : FuncId) (hent : ∀ args w, (callFunc F args).run Tryd.prog w = .ok (.enter F args) w) (Qy : Value -> α -> Prop) (Qs : World -> Value -> α -> Prop) (hIs : ∀ v x, Qy v x -> xR v) (fu : ∀ u v x, Qs u v x -> xR v)
 (G : α -> Nat -> Env -> Nat × α × Env) (H : α -> Nat -> Env -> List (Nm × Nm)) (c : α -> Nat) (ok : α -> Prop) (hF : NP w0 lo b mt mh D F Qy Qs G H c ok) (hle : ∀ x n ρ, (G x n ρ).1 <= n + (D.length + 1) * c x) (hln : ∀ x n ρ, (H x n ρ).length <= c x)
 (xs : List α) (lv : Value) (w : World) (hv : Value) (n : Nat) (ρ : Env) (hs : List (Nm × Nm)) (hr : JO 10 Qy w0 lv xs) (hok : ∀ x ∈ xs, ok x) (hxs : xs.length <= 1000000) (hb : Below lo w0 w) (hS : St w lo b mt mh hv D n ρ hs) (hn : n + (D.length + 1) * (xs.map c).sum <= 1000000000) (hh : hs.length + (xs.map c).sum <= 100000000) :
 Calls Tryd.prog 15 #[lv, .func (.func F) #[.pointer (some ⟨b, 0, none⟩)] #[]] w (VQ lo b mt mh D (fun u v l => JO 10 (Qs u) u v l) (qO G) (hst G H) w hv n ρ hs xs) := by
 obtain ⟨q, cp, rfl⟩ := hr.len; have HR := hid hr; have ve := hid hok; have Re := hid hxs; have HB := hid hb; have HS := hid hS; have HN := hid hn; have HH := hid hh; have HF := hid hF; have Yn := hid hle; have eP := hid hln; have HIS := hid hIs; have Rf := hid fu; have UD := hid hlo0
 clear hr hok hxs hb hS hn hh hF hle hln hIs fu hlo0; go_enter Tryd.func15, Tryd.ntmps15; go_wp2_with fail; refine (wX Qy HIS _ xs w (HR.out.mono (by rw [UD.out]; exact HB.out) (fun _ _ _ h => h)) Re).mono ?_; rintro e wc ⟨v', Rh, rfl, ho, hrep, hsz, hbc⟩; obtain ⟨p1, c1, rfl⟩ := jH ho
 have hstart : Hid ((xs = [] /\ Below w.heap.size w wc) \/ ∃ g, p1 = some ⟨g, 0, none⟩ /\ g < wc.heap.size /\ w.heap.size <= g /\ xs.length <= c1 /\ (c1 : Int) <= 9223372036854775807 /\ ∃ YC us, zo lo b mt mh D 40 10 g wc.heap.size Qy Qs G H w hv n ρ hs xs 0 YC us wc) := by
  refine hid ?_
  rcases ho.2 with ⟨_, h0⟩ | ⟨g, cap, cur, hv2, _⟩
  . exact .inl ⟨JP h0, hbc⟩
  . injection hv2 with e1 _ e2
    subst e1; subst e2
    obtain ⟨k1, k2, k3, k4⟩ := VT ho hsz hrep.len; exact .inr ⟨g, rfl, k1.lt, k2, k3, k4, hv, Rh, zo.start HS hbc k1 k2 hrep⟩
 have HLEN := hid hrep.len; clear ho hrep hsz hbc; go_wp2_with fail
 go_loopw [11] (fun j wr => ∃ m : Nat, j = .int .i64 m /\ m <= xs.length /\ Hid ((xs = [] /\ Below w.heap.size w wr) \/ ∃ g, p1 = some ⟨g, 0, none⟩ /\ g < wc.heap.size /\ w.heap.size <= g /\ xs.length <= c1 /\ (c1 : Int) <= 9223372036854775807 /\ ∃ YC us, zo lo b mt mh D 40 10 g wc.heap.size Qy Qs G H w hv n ρ hs xs m YC us wr)) (fun j _ => xs.length - (intOf j).toNat)
 case atStart => exact ⟨0, rfl, jh _, hstart⟩
 case round =>
  clear hstart; obtain ⟨m, rfl, hm, HI⟩ := hrel; by_cases hlt : m < xs.length
  case neg =>
   obtain rfl : m = xs.length := by omega
   have hk4 : ¬ (xs.length : Int) < (xs.length : Int) := by omega
   go_wp2_with fail; go_ret
   rcases HI.out with ⟨h0, hbr⟩ | ⟨g, rfl, hgB, hgw, hc1, hc2, YC, us, hI⟩
   . subst h0; exact Yz HS hbr
   . exact hI.done hgB hgw hc1 hc2
  rcases HI.out with ⟨h0, hbr⟩ | ⟨g, rfl, hgB, hgw, hc1, hc2, YC, us, hI⟩
  . rw [h0] at hlt; simp at hlt
  obtain ⟨y, hy⟩ : ∃ y, xs[m]? = some y := ⟨_, jA hlt⟩
  obtain ⟨u, hu⟩ : ∃ u, us[m]? = some u := ⟨_, jA (by rw [hI.len]; exact hlt)⟩
  have hin := hI.ins m u y (jB _) hu hy; obtain ⟨r1, r2⟩ := Yy (D := D) (ρ := ρ) Yn eP HN HH hy; obtain ⟨a0, a1, p2, n2, c2, a3, a4, a5, a6, p7, n7, c7, p8, n8, c8, p9, n9, c9, rfl⟩ := HIS.out _ _ hin; have Nl : Below wr.heap.size wr (wr.alloc (.cells #[.int .i64 a0, .string a1, .slice p2 n2 c2, .int .i64 a3, .int .i64 a4, .string a5, .int .i64 a6, .slice p7 n7 c7, .slice p8 n8 c8, .slice p9 n9 c9] 40)) := (jD _ _).alloc (jB _) _; have hI2 := hI.below Nl hgB; clear Nl; have HC := hid (HF.out y _ (wr.alloc (.cells #[.int .i64 a0, .string a1, .slice p2 n2 c2, .int .i64 a3, .int .i64 a4, .string a5, .int .i64 a6, .slice p7 n7 c7, .slice p8 n8 c8, .slice p9 n9 c9] 40)) YC _ _ _ hin (ve.out y (jI hy)) (HB.out.trans hI2.Xz.below) hI2.st r1 r2); have d0 := hI.half.cell hu 0 _ rfl; have d1 := hI.half.cell hu 1 _ rfl; have d2 := hI.half.cell hu 2 _ rfl; have d3 := hI.half.cell hu 3 _ rfl; have d4 := hI.half.cell hu 4 _ rfl; have d5 := hI.half.cell hu 5 _ rfl; have d6 := hI.half.cell hu 6 _ rfl; have d7 := hI.half.cell hu 7 _ rfl; have d8 := hI.half.cell hu 8 _ rfl; have d9 := hI.half.cell hu 9 _ rfl
  simp only [jZ, qX] at d0; have U5 := hid hI2; have HY := hid hy; have HU := hid hu; have HG := hid (⟨hgB, hgw, hc1, hc2⟩ : g < wc.heap.size /\ w.heap.size <= g /\ xs.length <= c1 /\ (c1 : Int) <= 9223372036854775807)
  have hk1 : (m : Int) < (xs.length : Int) := by omega
  have hk2 : (xs.length : Int) <= (c1 : Int) := by omega
  have hk3 := hc2; clear hin r1 r2 hy hu hI hI2 hgB hgw hc1 hc2 HI; go_wp2_with fail; clear d0 d1 d2 d3 d4 d5 d6 d7 d8 d9; refine HC.out.mono ?_; rintro e w2 ⟨out, hv2, rfl, h1, h2, h3⟩; obtain ⟨Ab, Ac, jIE, jIF, jIG, Ad, jIH, jFE, jFF, jII, jIJ, jIK, jIL, jIM, jIN, jFG, jFH, jFI, rfl⟩ := Rf.out _ _ _ h3.now; have hnext := U5.out.next HG.out.1 HG.out.2.1 (jS HS.out.low.2.2.2 HG.out.2.1) HY.out (by rfl) h1 h2 h3; have hf2 := U5.out.half.keep (h2.stay g (Jo HG.out.1 U5.out.big) U5.out.gf); have hu := HU.out; have e0 := hf2.cell hu 0 _ rfl; have e1 := hf2.cell hu 1 _ rfl; have e2 := hf2.cell hu 2 _ rfl; have e3 := hf2.cell hu 3 _ rfl; have e4 := hf2.cell hu 4 _ rfl; have e5 := hf2.cell hu 5 _ rfl; have e6 := hf2.cell hu 6 _ rfl; have e7 := hf2.cell hu 7 _ rfl; have e8 := hf2.cell hu 8 _ rfl; have e9 := hf2.cell hu 9 _ rfl
  have f0 := hf2.free (m * 10 + 0); have f1 := hf2.free (m * 10 + 1); have f2 := hf2.free (m * 10 + 2); have f3 := hf2.free (m * 10 + 3); have f4 := hf2.free (m * 10 + 4); have f5 := hf2.free (m * 10 + 5); have f6 := hf2.free (m * 10 + 6); have f7 := hf2.free (m * 10 + 7); have f8 := hf2.free (m * 10 + 8); have f9 := hf2.free (m * 10 + 9)
  simp only [jZ, qX] at e0 f0; have dX := hid hnext; clear hnext hf2 hu h1 h2 h3 HC; go_wp2_with fail
  go_roundw
  case rel => exact ⟨m + 1, by go_num, by omega, hid (.inr ⟨g, rfl, HG.out.1, HG.out.2.1, HG.out.2.2.1, HG.out.2.2.2, hv2, _, dX.out⟩)⟩
  case measure => simp [intOf]; omega
end Fr
namespace Fr
variable {lo b mt mh : Nat} {D : List Nm}
theorem Tg {w0 : World} (hlo0 : w0.heap.size = lo) (htab : ∀ w, Below lo w0 w -> mO w) (hD : D.length <= 1000000) (B : Nat) (hB : B <= 3000000000) (f : Nat) :
 NP w0 lo b mt mh D 16 (ZC f w0) (ZC f) (GD D f) noH (cD f) (okD B f) := by
 have ih := Kc (b := b) (mt := mt) (mh := mh) (D := D) hlo0 htab hD B hB f; have hbf := FB (b := b) (mt := mt) (mh := mh) (D := D) htab hD B hB; intro x v w hv n ρ hs hr hok hb hS hn hh; obtain ⟨q1, c1, k2, p2, s2, i2, q2, n2, c2, q3, n3, c3, q4, n4, c4, rfl, hr1, hr2⟩ := zm hr; clear hr; unfold cD at hn hh; rw [JU] at hn; obtain ⟨ok1, sS, sU⟩ := hok; obtain ⟨hq, hc, Iw⟩ := jH hS.hid; subst Iw; obtain ⟨w1, hw1⟩ : ∃ w1, w1 = (w.alloc (.cells #[.int .i64 x.pos, .string ⟨x.name.toArray⟩, .slice q1 x.params.length c1, .int .i64 k2, .int .i64 p2, .string s2, .int .i64 i2, .slice q2 n2 c2, .slice q3 n3 c3, .slice q4 n4 c4] 40)).alloc (.cells #[.int .i64 0, .string ⟨#[]⟩, .slice none 0 0, .int .i64 0, .int .i64 0, .string ⟨#[]⟩, .int .i64 0, .slice none 0 0, .slice none 0 0, .slice none 0 0] 40) := ⟨_, rfl⟩
 have hF : wh lo b mt mh D w (.slice hq hs.length hc) 40 #[.int .i64 0, .string ⟨#[]⟩, .slice none 0 0, .int .i64 0, .int .i64 0, .string ⟨#[]⟩, .int .i64 0, .slice none 0 0, .slice none 0 0, .slice none 0 0] #[.int .i64 x.pos, .string ⟨x.name.toArray⟩, .slice q1 x.params.length c1, .int .i64 k2, .int .i64 p2, .string s2, .int .i64 i2, .slice q2 n2 c2, .slice q3 n3 c3, .slice q4 n4 c4] (.slice hq hs.length hc) n ρ hs w1 := by rw [hw1]; exact wh.start hS _
 have F1 := hid hF; have HR1 := hid hr1; have HR2 := hid hr2; have HB := hid hb; have HN := hid hn; have HH := hid hh; have HI := hid ih; have Ah := hid hbf; have UD := hid hlo0
 have O1 := hid ok1; have O2 := hid sS; have O3 := hid sU
 have y3 := jK hF.st.uH 3 _ rfl; rw [hw1] at y3; clear hr1 hr2 hb hS hn hh ih hbf hF htab hlo0 hD hB ok1 sS sU; go_enter Tryd.func16, Tryd.ntmps16; go_wp2_with fail; rw [<- hw1]; clear hw1 y3; have hb1 : n + (D.length + 1) * (x.params.map (fun _ => 1)).sum <= 1000000000 := by rw [Qj]; have := HN.out; omega
 have hb2 : hs.length + (x.params.map (fun _ => 1)).sum <= 100000000 := by rw [Qj]; have := HH.out; omega
 refine (kg UD 33 (enters_of Tryd.func33 (by kernel_rfl) rfl) (zA w0) zA (UN w0) UN (bnd D) UL (fun _ => 1) (fun s => s.length <= B) Ah (zz D) (fun _ _ _ => jB _) x.params _ w1 _ n ρ hs HR1 O2 O1 (HB.out.trans F1.out.Xz.below) F1.out.st hb1 hb2).mono ?_; clear hb1 hb2; rintro e w4 ⟨out, hv1, rfl, g1, g2, g3⟩; obtain ⟨o1, d1, rfl⟩ := g3.now.len; obtain ⟨A1, hA1⟩ : ∃ A1, A1 = qO (bnd D) x.params n ρ := ⟨_, rfl⟩
 obtain ⟨X1, hX1⟩ : ∃ X1, X1 = hst (bnd D) UL x.params n ρ := ⟨_, rfl⟩
 rw [<- hA1] at g1 g3 ⊢; rw [<- hX1] at g1; obtain ⟨L1, hL1⟩ : ∃ L1, L1 = A1.2.1.length := ⟨_, rfl⟩
 rw [<- hL1] at g3 ⊢; have HA1 := hid hA1; have Yl := hid hX1
 have N4 := hid (Q4.base g3 F1.out.size : QB b mt mh w (fun u v l => JO 1 (zA u) u v l) hv1 w4 _ _); have F4 := hid (F1.out.call g1 g2); clear g1 g2 g3 hA1 hX1 hL1; have wu := F4.out.store 2 (.slice o1 L1 d1); simp only [jd, JF, JE] at wu; have F5 := hid wu; have N5 := hid (QB.store N4 2 (.slice o1 L1 d1)); have y2 := jK F4.out.ex 2 _ rfl; have f2 := jX F4.out.ex 2; have y3 := jK wu.ex 3 _ rfl; have y4 := jK wu.ex 4 _ rfl; have y5 := jK wu.ex 5 _ rfl; have y6 := jK wu.ex 6 _ rfl; have y7 := jK wu.ex 7 _ rfl; have y8 := jK wu.ex 8 _ rfl; have y9 := jK wu.ex 9 _ rfl; clear wu; go_wp2_with fail; clear y2 f2 y3 y4 y5 y6 y7 y8 y9; generalize w4.setCell ⟨w.heap.size, 2, none⟩ (.slice o1 L1 d1) = w5 at F5 N5 ⊢
 have hn1 : A1.1 <= n + (D.length + 1) * x.params.length := by
  have h1 := Zg (bnd D) (D.length + 1) (fun _ => 1) (zz D) x.params n ρ; rw [Qj] at h1; rw [HA1.out]; exact h1
 have hx1 : X1.length <= x.params.length := by
  have h1 := U1 (bnd D) UL (fun _ => 1) (fun _ _ _ => jB _) x.params n ρ; rw [Qj] at h1; rw [Yl.out]; exact h1
 have kT := hid (show (hs ++ X1).length <= 100000000 by have := HH.out; rw [jE]; omega); have hb1 : A1.1 + (D.length + 1) * cE f x.body <= 1000000000 := by have := HN.out; omega
 have hb2 : (hs ++ X1).length + cE f x.body <= 100000000 := by have := HH.out; rw [jE]; omega
 refine (HI.out x.body _ w5 _ _ _ _ HR2.out O3.out (HB.out.trans F5.out.Xz.below) F5.out.st hb1 hb2).mono ?_; clear hb1 hb2 hn1 hx1; rintro e w6 ⟨Te, hv2, rfl, g1, g2, g3⟩; obtain ⟨dk2, X0, X3, X4, V6, V7, V8, V9, uA, uB, X5, X6, X7, rfl⟩ := Vq f w6 Te _ g3.now; obtain ⟨A2, hA2⟩ : ∃ A2, A2 = expr D f x.body A1.1 A1.2.2 := ⟨_, rfl⟩
 have g4 : St w6 lo b mt mh hv2 D A2.1 A1.2.2 (hs ++ X1) := by rw [hA2]; simpa [GE, noH] using g1
 have g5 : Q4 (JB f) w5.heap.size w6 b mt mh hv2 (.agg #[.int .i64 dk2, .int .i64 X0, .string X3, .int .i64 X4, .slice V6 V7 V8, .slice V9 uA uB, .slice X5 X6 X7]) A2.2 := by rw [hA2]; exact g3
 have HA2 := hid hA2; have N6 := hid (Q4.step N5 g2 : QB b mt mh w (fun u v l => JO 1 (zA u) u v l) hv2 w6 _ _); have P6 := hid (Q4.base g5 F5.out.size : QB b mt mh w (fun u => JB f u) hv2 w6 _ _); have F6 := hid (F5.out.call g4 g2); clear g1 g2 g3 g4 g5 hA2; have e0 := jK F6.out.ex 3 _ rfl; have e1 := jK F6.out.ex 4 _ rfl; have e2 := jK F6.out.ex 5 _ rfl; have e3 := jK F6.out.ex 6 _ rfl; have e4 := jK F6.out.ex 7 _ rfl; have e5 := jK F6.out.ex 8 _ rfl; have e6 := jK F6.out.ex 9 _ rfl; have f0 := jX F6.out.ex 3; have f1 := jX F6.out.ex 4; have f2 := jX F6.out.ex 5; have f3 := jX F6.out.ex 6; have f4 := jX F6.out.ex 7; have f5 := jX F6.out.ex 8; have f6 := jX F6.out.ex 9
 have Tf := (((((((F6.out.store 3 (.int .i64 dk2)).store 4 (.int .i64 X0)).store 5 (.string X3)).store 6 (.int .i64 X4)).store 7 (.slice V6 V7 V8)).store 8 (.slice V9 uA uB)).store 9 (.slice X5 X6 X7)); have jCB := (QB.store (QB.store (QB.store (QB.store (QB.store (QB.store (QB.store N6 3 (.int .i64 dk2)) 4 (.int .i64 X0)) 5 (.string X3)) 6 (.int .i64 X4)) 7 (.slice V6 V7 V8)) 8 (.slice V9 uA uB)) 9 (.slice X5 X6 X7)); have jCC := (QB.store (QB.store (QB.store (QB.store (QB.store (QB.store (QB.store P6 3 (.int .i64 dk2)) 4 (.int .i64 X0)) 5 (.string X3)) 6 (.int .i64 X4)) 7 (.slice V6 V7 V8)) 8 (.slice V9 uA uB)) 9 (.slice X5 X6 X7)); simp only [jd, JF, JE] at Tf; have F7 := hid Tf; have N7 := hid jCB; have P7 := hid jCC
 clear Tf jCB jCC; go_wp2_with fail; clear e0 f0 e1 f1 e2 f2 e3 f3 e4 f4 e5 f5 e6 f6; generalize (((((((w6.setCell ⟨w.heap.size, 3, none⟩ (.int .i64 dk2)).setCell ⟨w.heap.size, 4, none⟩ (.int .i64 X0)).setCell ⟨w.heap.size, 5, none⟩ (.string X3)).setCell ⟨w.heap.size, 6, none⟩ (.int .i64 X4)).setCell ⟨w.heap.size, 7, none⟩ (.slice V6 V7 V8)).setCell ⟨w.heap.size, 8, none⟩ (.slice V9 uA uB)).setCell ⟨w.heap.size, 9, none⟩ (.slice X5 X6 X7)) = w7 at F7 N7 P7 ⊢; refine (U3 w7 _ _ _ hs X1 F7.out.st kT).mono ?_; rintro e w8 ⟨rfl, hv3, g1, g2⟩; rw [Yl.out, HA1.out, UK (bnd D) UL (wE D)] at g1; have N8 := hid (Q4.step N7 g2 : QB b mt mh w (fun u v l => JO 1 (zA u) u v l) hv3 w8 _ _); have P8 := hid (Q4.step P7 g2 : QB b mt mh w (fun u => JB f u) hv3 w8 _ _); have F8 := hid (F7.out.call g1 g2); clear g1 g2; obtain ⟨z0, z1, z2, z3, z4, z5, z6, z7, z8, z9⟩ := xR10 F8.out.ex; obtain ⟨r0, r1, r2, r3, r4, r5, r6, r7, r8, r9⟩ := xR10 F8.out.er; have t0 := jX F8.out.er 0; have t1 := jX F8.out.er 1; have t2 := jX F8.out.er 2; have t3 := jX F8.out.er 3; have t4 := jX F8.out.er 4; have t5 := jX F8.out.er 5; have t6 := jX F8.out.er 6; have t7 := jX F8.out.er 7; have t8 := jX F8.out.er 8; have t9 := jX F8.out.er 9
 go_wp2_with fail; clear z0 r0 t0 z1 r1 t1 z2 r2 t2 z3 r3 t3 z4 r4 t4 z5 r5 t5 z6 r6 t6 z7 r7 t7 z8 r8 t8 z9 r9 t9; have hfin := F8.out.fin [.int .i64 x.pos, .string ⟨x.name.toArray⟩, .slice o1 L1 d1, .int .i64 dk2, .int .i64 X0, .string X3, .int .i64 X4, .slice V6 V7 V8, .slice V9 uA uB, .slice X5 X6 X7] rfl; simp only [vY, JN, Nat.reduceAdd] at hfin; generalize ((((((((((w8.setCell ⟨w.heap.size + 1, 0, none⟩ (.int .i64 x.pos)).setCell ⟨w.heap.size + 1, 1, none⟩ (.string ⟨x.name.toArray⟩)).setCell ⟨w.heap.size + 1, 2, none⟩ (.slice o1 L1 d1)).setCell ⟨w.heap.size + 1, 3, none⟩ (.int .i64 dk2)).setCell ⟨w.heap.size + 1, 4, none⟩ (.int .i64 X0)).setCell ⟨w.heap.size + 1, 5, none⟩ (.string X3)).setCell ⟨w.heap.size + 1, 6, none⟩ (.int .i64 X4)).setCell ⟨w.heap.size + 1, 7, none⟩ (.slice V6 V7 V8)).setCell ⟨w.heap.size + 1, 8, none⟩ (.slice V9 uA uB)).setCell ⟨w.heap.size + 1, 9, none⟩ (.slice X5 X6 X7)) = w9 at hfin ⊢; obtain ⟨f1, f2, e6, f4⟩ := hfin; obtain ⟨r0, r1, r2, r3, r4, r5, r6, r7, r8, r9⟩ := xR10 e6; refine jG (v := .agg #[.int .i64 x.pos, .string ⟨x.name.toArray⟩, .slice o1 L1 d1, .int .i64 dk2, .int .i64 X0, .string X3, .int .i64 X4, .slice V6 V7 V8, .slice V9 uA uB, .slice X5 X6 X7]) (by simp [results, Tryd.results16, go_sem, r0, r1, r2, r3, r4, r5, r6, r7, r8, r9]) rfl ?_; have hres : GD D f x n ρ = (A2.1, ⟨x.pos, x.name, A1.2.1, A2.2⟩, ρ) := by rw [HA2.out, HA1.out]; rfl
 refine ⟨_, hv3, rfl, ?_, f2, fun u hu => ?_⟩
 . rw [hres]; unfold noH; rw [Jl]; exact f1
 . rw [hres]; exact ⟨_, _, _, _, _, _, _, _, rfl, f4 _ _ _ N8.out u hu, f4 (fun u => JB f u) _ _ P8.out u hu⟩
end Fr
namespace Fr
variable {lo b mt mh : Nat} {D : List Nm}
theorem St.takes {w : World} {hv : Value} {n : Nat} {ρ : Env} {hs : List (Nm × Nm)} (h : St w lo b mt mh hv D n ρ hs) (s : Nm) : ∃ c : Nat, c <= D.length /\ (Instr.lookup 48 (.map (some mt)) (.string ⟨s.toArray⟩) false).run Tryd.prog w = .ok (.int .i64 c) w /\
 ∃ w', (Instr.mapUpdate 48 (.map (some mt)) (.string ⟨s.toArray⟩) (.int .i64 ((c + 1 : Nat) : Int))).run Tryd.prog w = .ok () w' /\ St w' lo b mt mh hv (D ++ [s]) n ρ hs /\ Below lo w w' /\ ∀ k, k < w.heap.size -> k ≠ mt -> w'.heap[k]? = w.heap[k]? := by
 obtain ⟨l1, l2, l3, l4⟩ := h.low; obtain ⟨d1, d2, d3⟩ := h.apart; obtain ⟨L, h1, h2⟩ := h.RS; obtain ⟨L', h3, h4⟩ := h.hol; obtain ⟨c, hc1, hc2, hc3⟩ := h2.more s; obtain ⟨w', hr, hm, hg⟩ := h1.update (vK Tryd.underlying9) D8 s trivial (.int .i64 ((c + 1 : Nat) : Int)) (fun _ _ _ _ _ => trivial); have hlk := (h1.look (vK Tryd.underlying9) D8 (fU w) s trivial).1; rw [hc1] at hlk; have hk : ∀ k, k < w.heap.size -> k ≠ mt -> w'.heap[k]? = w.heap[k]? := fun k hk hne => hg.block k hk (fun e => hne (by injection e))
 refine ⟨c, hc2, hlk, w', hr, ⟨(hk b l1 (Ne.symm d1)).trans h.uH, ⟨_, hm, hc3⟩, ⟨L', h3.keep (hk mh l3 (Ne.symm h.ne)) (fun _ _ => trivial), h4⟩, ?_, h.lb, h.lt, h.lh, h.ne⟩, (jD lo w).grown hg (by omega) (fun k hk => by injection hk with hk; rw [<- hk]; exact h.lt), hk⟩; refine ⟨h.hid.1, ?_⟩
 rcases h.hid.2 with e | ⟨g, cap, cur, rfl, a1, a2, a3⟩
 . exact .inl e
 . exact .inr ⟨g, cap, cur, rfl, a1, (hk g (ji a2) (d3 g rfl).2.1).trans a2, a3⟩
theorem eU (w : World) (cells Z : Array Value) (T : TypeId) : ∀ w1, w1 = ((((w.alloc (.cells cells T)).alloc (.cells Z T)).alloc (.map #[] 0)).alloc (.map #[] 0)).alloc (.cells #[.map (some (w.heap.size + 1 + 1)), .int .i64 0, .map (some (w.heap.size + 1 + 1 + 1)), .slice none 0 0] 52) ->
 St w1 w.heap.size (w.heap.size + 1 + 1 + 1 + 1) (w.heap.size + 1 + 1) (w.heap.size + 1 + 1 + 1) (.slice none 0 0) [] 0 (fun _ => []) [] /\ Below w.heap.size w w1 /\ w1.heap[w.heap.size]? = some (.cells cells T (0, 0)) /\ w1.heap[w.heap.size + 1]? = some (.cells Z T (0, 0)) := by
 intro w1 hw1; obtain ⟨wx, hwx⟩ : ∃ wx, wx = w.alloc (.cells cells T) := ⟨_, rfl⟩
 obtain ⟨wa, R7⟩ : ∃ wa, wa = wx.alloc (.cells Z T) := ⟨_, rfl⟩
 obtain ⟨wb, hwb⟩ : ∃ wb, wb = wa.alloc (.map #[] 0) := ⟨_, rfl⟩
 obtain ⟨wc, hwc⟩ : ∃ wc, wc = wb.alloc (.map #[] 0) := ⟨_, rfl⟩
 have hsx : wx.heap.size = w.heap.size + 1 := by rw [hwx, Jt]
 have hsa : wa.heap.size = w.heap.size + 1 + 1 := by rw [R7, Jt, hsx]
 have hsb : wb.heap.size = w.heap.size + 1 + 1 + 1 := by rw [hwb, Jt, hsa]
 have hsc : wc.heap.size = w.heap.size + 1 + 1 + 1 + 1 := by rw [hwc, Jt, hsb]
 rw [<- hwx, <- R7, <- hwb, <- hwc] at hw1; have m1 : Z6 wb wa.heap.size [] := by rw [hwb]; exact V3.made wa
 have m2 : Z6 wc wb.heap.size [] := by rw [hwc]; exact V3.made wb
 have k1 : ∀ c, c < wc.heap.size -> w1.heap[c]? = wc.heap[c]? := fun c hc => by rw [hw1]; exact QC wc _ c hc
 have k2 : ∀ c, c < wb.heap.size -> wc.heap[c]? = wb.heap[c]? := fun c hc => by rw [hwc]; exact QC wb _ c hc
 have k3 : ∀ c, c < wa.heap.size -> wb.heap[c]? = wa.heap[c]? := fun c hc => by rw [hwb]; exact QC wa _ c hc
 have k4 : ∀ c, c < wx.heap.size -> wa.heap[c]? = wx.heap[c]? := fun c hc => by rw [R7]; exact QC wx _ c hc
 have e0 : w1.heap[w.heap.size]? = some (.cells cells T (0, 0)) := by
  rw [k1 _ (by omega), k2 _ (by omega), k3 _ (by omega), k4 _ (by omega), hwx]; exact jb w _ _
 have e1 : w1.heap[w.heap.size + 1]? = some (.cells Z T (0, 0)) := by
  rw [k1 _ (by omega), k2 _ (by omega), k3 _ (by omega), <- hsx, R7]; exact jb wx _ _
 have e4 : w1.heap[w.heap.size + 1 + 1 + 1 + 1]? = some (.cells #[.map (some (w.heap.size + 1 + 1)), .int .i64 ((0 : Nat) : Int), .map (some (w.heap.size + 1 + 1 + 1)), .slice none 0 0] 52 (0, 0)) := by
  rw [<- hsc, hw1]; exact jb wc _ _
 have jFR : Z6 w1 (w.heap.size + 1 + 1) [] := by
  rw [<- hsa]; exact m1.keep ((k1 _ (by omega)).trans (k2 _ (by omega))) (fun _ _ => trivial)
 have jFS : Z6 w1 (w.heap.size + 1 + 1 + 1) [] := by
  rw [<- hsb]; exact m2.keep (k1 _ (by omega)) (fun _ _ => trivial)
 refine ⟨⟨e4, ⟨[], jFR, sN.nil⟩, ⟨[], jFS, sO.nil⟩, jo _ _ _ _, by omega, by omega, by omega, by omega⟩, ?_, e0, e1⟩; rw [hw1, hwc, hwb, R7, hwx]; exact (((((jD _ _).alloc (jB _) _).alloc (by simp) _).alloc (by simp; omega) _).alloc (by simp; omega) _).alloc (by simp; omega) _
theorem Nv (D : List Nm) (f : Nat) (l : List Px.Def) (n : Nat) : (qO (GD D f) l n (fun _ => [])).2.1 = (run (defn D f) l n).2 := by
 rw [Kh (GD D f) (fun ρ d n => ((GD D f d n ρ).1, (GD D f d n ρ).2.1)) (fun _ _ _ => rfl)]; rfl
def zt (f : Nat) (u : World) (v : Value) (x : Px.Prog) : Prop := ∃ dv fv, v = .agg #[dv, fv] /\ JO 4 (fun v (_ : Px.Data) => Fr.Ur v) u dv x.jF /\ JO 10 (ZC f u) u fv x.defs
theorem WB {w : World} (htab : ∀ w', Below w.heap.size w w' -> mO w') (B : Nat) (hB : B <= 3000000000) (f : Nat) (x : Px.Prog) (v : Value) (hr : zt f w v x) (hD : x.defs.length <= 100000) (hd : x.jF.length <= 1000000) (hok : ∀ d ∈ x.defs, okD B f d)
 (hn : (x.defs.length + 1) * (x.defs.map (cD f)).sum <= 1000000000) (hh : (x.defs.map (cD f)).sum <= 100000000) :
 Calls Tryd.prog 6 #[v] w fun e w' => ∃ v', e = .returned v' /\ Below w.heap.size w w' /\ New (zt f) w w' v' (prog f x) := by
 obtain ⟨dv, fv, rfl, hr1, hr2⟩ := hr; obtain ⟨q1, c1, rfl⟩ := hr1.len; obtain ⟨q2, c2, rfl⟩ := hr2.len; have HR1 := hid hr1; have HR2 := hid hr2; have HT := hid htab; have HB := hid hB; have HD := hid hD; have jFT := hid hd; have ve := hid hok; have HN := hid hn; have HH := hid hh
 clear hr1 hr2 htab hB hD hd hok hn hh; have hmm := @run_makeMap Tryd.prog; go_enter Tryd.func6, Tryd.ntmps6; go_wp2_with fail; clear hmm; obtain ⟨w1, hw1⟩ : ∃ w1, w1 = ((((w.alloc (.cells #[.slice q1 x.jF.length c1, .slice q2 x.defs.length c2] 26)).alloc (.cells #[.slice none 0 0, .slice none 0 0] 26)).alloc (.map #[] 0)).alloc (.map #[] 0)).alloc (.cells #[.map (some (w.heap.size + 1 + 1)), .int .i64 0, .map (some (w.heap.size + 1 + 1 + 1)), .slice none 0 0] 52) := ⟨_, rfl⟩
 rw [<- hw1]; obtain ⟨hst, hbw, hex, her⟩ := eU w _ _ _ w1 hw1; clear hw1; obtain ⟨b, hb⟩ : ∃ b, b = w.heap.size + 1 + 1 + 1 + 1 := ⟨_, rfl⟩
 obtain ⟨mt, hmt⟩ : ∃ mt, mt = w.heap.size + 1 + 1 := ⟨_, rfl⟩
 obtain ⟨mh, Ie⟩ : ∃ mh, mh = w.heap.size + 1 + 1 + 1 := ⟨_, rfl⟩
 rw [<- hb, <- Ie, <- hmt] at hst ⊢; have I1 := hid (⟨by omega, by omega, by omega, by omega⟩ : w.heap.size + 2 <= b /\ w.heap.size + 2 <= mt /\ w.heap.size + 2 <= mh /\ mt < mh); have HST := hid hst; have Zj := hid hbw; have gX := hid hex; have LW := hid her
 clear hst hbw hex her hb hmt Ie
 go_loopw [13] (fun j wr => ∃ m : Nat, j = .int .i64 m /\ m <= x.defs.length /\ Hid (St wr w.heap.size b mt mh (.slice none 0 0) ((x.defs.take m).map (·.name)) 0 (fun _ => []) []) /\ Hid (Below w.heap.size w wr) /\ Hid (wr.heap[w.heap.size]? = some (.cells #[.slice q1 x.jF.length c1, .slice q2 x.defs.length c2] 26 (0, 0))) /\ Hid (wr.heap[w.heap.size + 1]? = some (.cells #[.slice none 0 0, .slice none 0 0] 26 (0, 0)))) (fun j _ => x.defs.length - (intOf j).toNat)
 case atStart => exact ⟨0, rfl, jh _, HST, Zj, gX, LW⟩
 case round =>
  clear HST Zj gX LW; obtain ⟨m, rfl, hm, HST, Zj, gX, LW⟩ := hrel; by_cases hlt : m < x.defs.length
  case pos =>
   obtain ⟨y, hy⟩ : ∃ y, x.defs[m]? = some y := ⟨_, jA hlt⟩
   rcases HR2.out with ⟨h0, _⟩ | ⟨g, of, c', hv, g1, g2, g3⟩
   . rw [h0] at hlt; simp at hlt
   injection hv with hq1 _ hq2
   subst hq1; subst hq2
   obtain ⟨u, hu, _, hcell⟩ := g3 m y hy; obtain ⟨r0, s0, r1, r2, r3, r4, r5, s5, t5, r6, s6, t6, r7, s7, t7, rfl, _, _⟩ := zm hu; have d0 := jC Zj (hcell 0 _ rfl); have d1 := jC Zj (hcell 1 _ rfl); have d2 := jC Zj (hcell 2 _ rfl); have d3 := jC Zj (hcell 3 _ rfl); have d4 := jC Zj (hcell 4 _ rfl); have d5 := jC Zj (hcell 5 _ rfl); have d6 := jC Zj (hcell 6 _ rfl); have d7 := jC Zj (hcell 7 _ rfl); have d8 := jC Zj (hcell 8 _ rfl); have d9 := jC Zj (hcell 9 _ rfl)
   simp only [jZ] at d0; have hk1 : (m : Int) < (x.defs.length : Int) := by omega
   have hk2 : (x.defs.length : Int) <= (c2 : Int) := by omega
   have hk3 := g2; have HY := hid hy; clear g1 g2 g3 hcell hu hy; go_wp2_with fail; clear d0 d1 d2 d3 d4 d5 d6 d7 d8 d9; obtain ⟨w2, hw2⟩ : ∃ w2, w2 = wr.alloc (.cells #[.int .i64 y.pos, .string ⟨y.name.toArray⟩, .slice r0 y.params.length s0, .int .i64 r1, .int .i64 r2, .string r3, .int .i64 r4, .slice r5 s5 t5, .slice r6 s6 t6, .slice r7 s7 t7] 40) := ⟨_, rfl⟩
   rw [<- hw2]; have hb2 : Below wr.heap.size wr w2 := by rw [hw2]; exact (jD _ _).alloc (jB _) _
   have hvb : w2.heap[wr.heap.size]? = some (.cells #[.int .i64 y.pos, .string ⟨y.name.toArray⟩, .slice r0 y.params.length s0, .int .i64 r1, .int .i64 r2, .string r3, .int .i64 r4, .slice r5 s5 t5, .slice r6 s6 t6, .slice r7 s7 t7] 40 (0, 0)) := by rw [hw2]; exact jb wr _ _
   have LX : St w2.drew w.heap.size b mt mh (.slice none 0 0) ((x.defs.take m).map (·.name)) 0 (fun _ => []) [] := HST.out.below hb2.drew; obtain ⟨c, hc, hlk, w3, hup, Ti, I4, eX⟩ := LX.takes y.name; have Aj := LX.apart.1; have hb0 := LX.low.1; have Ak := LX.low.2.1; have hwl := Zj.out.size; have Al : (Instr.mapUpdate 48 (.map (some mt)) (.string ⟨y.name.toArray⟩) (.int .i64 ((c : Int) + 1))).run Tryd.prog w2.drew = .ok () w3 := by simpa using hup
   have hcr : c <= 100000 := by
    have h1 := HD.out; have h2 : ((x.defs.take m).map (·.name)).length <= x.defs.length := by rw [Jv, Jh]; omega
    omega
   have hwr : IntKind.i64.wrap ((c : Int) + 1) = (c : Int) + 1 := IntWalk.i64_in _ (by omega); have Cr : wr.heap.size ≠ mt := by have := HST.out.low.2.1; omega
   have hS2 : w2.drew.cell? ⟨b, 0, none⟩ = some (.map (some mt)) /\ w2.drew.cell? ⟨wr.heap.size, 1, none⟩ = some (.string ⟨y.name.toArray⟩) := ⟨jK LX.uH 0 _ rfl, xK hvb 1 rfl⟩; have wH : w3.cell? ⟨b, 0, none⟩ = some (.map (some mt)) /\ w3.cell? ⟨wr.heap.size, 1, none⟩ = some (.string ⟨y.name.toArray⟩) := ⟨jK Ti.uH 0 _ rfl, jK ((eX wr.heap.size (ji hvb) Cr).trans hvb) 1 _ rfl⟩; have htk : (x.defs.take (m + 1)).map (·.name) = (x.defs.take m).map (·.name) ++ [y.name] := by rw [JC, HY.out]; simp
   have Am : Hid (St w3 w.heap.size b mt mh (.slice none 0 0) ((x.defs.take (m + 1)).map (·.name)) 0 (fun _ => []) []) := hid (by rw [htk]; exact Ti); have HB3 : Hid (Below w.heap.size w w3) := hid (((Zj.out.trans (hb2.mono hwl)).drew).trans I4)
   have Ct : Hid (w3.heap[w.heap.size]? = some (.cells #[.slice q1 x.jF.length c1, .slice (some ⟨g, of, none⟩) x.defs.length c2] 26 (0, 0))) := hid (by
    have h1 := ji gX
    exact (eX _ (by have := hb2.size; show w.heap.size < w2.heap.size; omega) (by have := I1.out; omega)).trans ((hb2.block _ h1).trans gX.out))
   have HR3 : Hid (w3.heap[w.heap.size + 1]? = some (.cells #[.slice none 0 0, .slice none 0 0] 26 (0, 0))) := hid (by
    have h1 := ji LW
    exact (eX _ (by have := hb2.size; show w.heap.size + 1 < w2.heap.size; omega) (by have := I1.out; omega)).trans ((hb2.block _ h1).trans LW.out))
   have HS2 := hid hS2; have dK := hid wH
   clear hw2 hb2 hvb LX hc hup Ti I4 eX Aj hb0 Ak hwl Cr hS2 wH htk HST Zj gX LW; refine jU (S := fun (u : World) => u.cell? ⟨b, 0, none⟩ = some (.map (some mt)) /\ u.cell? ⟨wr.heap.size, 1, none⟩ = some (.string ⟨y.name.toArray⟩)) (by kernel_rfl) HS2.out (fun hHeld => ?_); refine wS 0 (.pointer (some ⟨b, 0, none⟩)) rfl hHeld ?_; refine wS 1 (.pointer (some ⟨b, 0, none⟩)) rfl hHeld ?_; refine wS 2 (.pointer (some ⟨b, 0, none⟩)) rfl hHeld ?_; refine wT 3 (.map (some mt)) rfl (Or.inl ⟨by rfl, fun w' hSw => by have hx := hSw.1; go_simp⟩) hHeld ?_; refine wS 4 (.pointer (some ⟨wr.heap.size, 1, none⟩)) rfl hHeld ?_; refine wT 5 (.string ⟨y.name.toArray⟩) rfl (Or.inl ⟨by rfl, fun w' hSw => by have hx := hSw.2; go_simp⟩) hHeld ?_; simp only [Act.put, jd, JE, JF]; refine wR 6 rfl (fun K hK => ?_); go_simp; refine hK.out _ _ HS2.out (fun hHeld => ?_); clear hK K; refine wR 7 rfl (fun K hK => ?_); go_simp; refine hK.out _ _ HS2.out (fun hHeld => ?_); clear hK K; refine wR 8 rfl (fun K hK => ?_); go_simp; refine hK.out _ _ dK.out (fun hHeld => ?_); clear hK K hlk Al hHeld hcr hwr; refine wD ?_; go_wp2_with fail
   go_roundw
   case rel => exact ⟨m + 1, by go_num, by omega, Am, HB3, Ct, HR3⟩
   case measure => simp [intOf]; omega
  case neg =>
   obtain rfl : m = x.defs.length := by omega
   have hk4 : ¬ (x.defs.length : Int) < (x.defs.length : Int) := by omega
   go_wp2_with fail; clear hk4; obtain ⟨DN, OQ⟩ : ∃ DN, DN = x.defs.map (·.name) := ⟨_, rfl⟩
   have hst : St wr w.heap.size b mt mh (.slice none 0 0) DN 0 (fun _ => []) [] := by have := HST.out; rw [jY, <- OQ] at this; exact this
   have jCD := hid hst; have jFU := hid OQ
   have hdl : DN.length = x.defs.length := by rw [OQ, Jv]
   have IM := hid hdl; have hS1 : wr.drew.cell? ⟨w.heap.size, 0, none⟩ = some (.slice q1 x.jF.length c1) /\ wr.drew.cell? ⟨w.heap.size, 1, none⟩ = some (.slice q2 x.defs.length c2) := ⟨xK gX 0 rfl, xK gX 1 rfl⟩; have V5 := hid hS1; clear hst OQ hdl hS1; refine jU (S := fun (u : World) => u.cell? ⟨w.heap.size, 0, none⟩ = some (.slice q1 x.jF.length c1) /\ u.cell? ⟨w.heap.size, 1, none⟩ = some (.slice q2 x.defs.length c2)) (by kernel_rfl) V5.out (fun hHeld => ?_); refine wS 0 (.pointer (some ⟨w.heap.size, 0, none⟩)) rfl hHeld ?_; refine wT 1 (.slice q1 x.jF.length c1) rfl (Or.inl ⟨by rfl, fun w' hSw => by have hx := hSw.1; go_simp⟩) hHeld ?_; refine wS 3 (.pointer (some ⟨w.heap.size, 1, none⟩)) rfl hHeld ?_; refine wT 4 (.slice q2 x.defs.length c2) rfl (Or.inl ⟨by rfl, fun w' hSw => by have hx := hSw.2; go_simp⟩) hHeld ?_; refine wS 5 (.pointer (some ⟨b, 0, none⟩)) rfl hHeld ?_; refine wS 6 (.func (.func 16) #[.pointer (some ⟨b, 0, none⟩)] #[]) rfl hHeld ?_; simp only [Act.put, jd, JE, JF]; refine wR 2 rfl (fun K hK => ?_); go_simp; refine (Xy (fun v (_ : Px.Data) => Fr.Ur v) (fun v _ h => h) _ x.jF wr.drew (HR1.out.mono Zj.out.drew (fun _ _ _ h => h)) jFT).mono ?_; rintro e w2 ⟨v2, jFV, rfl, ho2, hr2, hz2, hb2⟩; obtain ⟨p2, e2, rfl⟩ := jH ho2; have Ri : Below wr.heap.size wr w2 := Y9 hb2; have hS2 : w2.cell? ⟨w.heap.size, 0, none⟩ = some (.slice q1 x.jF.length c1) /\ w2.cell? ⟨w.heap.size, 1, none⟩ = some (.slice q2 x.defs.length c2) := ⟨jK (jM gX Ri) 0 _ rfl, jK (jM gX Ri) 1 _ rfl⟩; have HS2 := hid hS2; have HB2 := hid Ri; have zV := hid ho2; have HRR := hid hr2; have HZ2 := hid hz2
   clear ho2 hr2 hz2 hb2 Ri hS2; refine hK.out _ _ HS2.out (fun hHeld => ?_); clear hK K; refine wR 7 rfl (fun K hK => ?_); have hent := enters_of Tryd.func16 (by kernel_rfl) rfl; go_simp; clear hent; have I5 := Tg (b := b) (mt := mt) (mh := mh) (D := DN) (w0 := w) rfl HT (by rw [IM.out]; have := HD.out; omega) B HB f; refine (BS (lo := w.heap.size) rfl 16 (enters_of Tryd.func16 (by kernel_rfl) rfl) (ZC f w) (ZC f) (BQ f w) (BQ f) (GD DN f) noH (cD f) (okD B f) I5 (Nr DN f) (eQ _) x.defs _ w2 _ 0 (fun _ => []) [] HR2 ve (by have := HD.out; omega) (Zj.out.trans (HB2.out.mono Zj.out.size)) (jCD.out.below HB2.out) (by rw [IM.out, JN]; exact HN.out) (by have := HH.out; simpa using this)).mono ?_; clear I5; rintro e w3 ⟨out, hv3, rfl, g1, g2, g3⟩; obtain ⟨o3, d3, rfl⟩ := g3.now.len
   have g3' : Q4 (fun u v l => JO 10 (ZC f u) u v l) w2.heap.size w3 b mt mh hv3 (.slice o3 (qO (GD DN f) x.defs 0 (fun _ => [])).2.1.length d3) (prog f x).defs := by
    have e : (prog f x).defs = (qO (GD DN f) x.defs 0 (fun _ => [])).2.1 := by rw [Nv, jFU.out]; rfl
    rw [e]; exact g3
   obtain ⟨L3, hL3⟩ : ∃ L3, L3 = (qO (GD DN f) x.defs 0 (fun _ => [])).2.1.length := ⟨_, rfl⟩
   rw [<- hL3] at g3' ⊢
   have Tj : ∀ c, c = w.heap.size \/ c = w.heap.size + 1 -> ¬ Fp b mt mh (.slice none 0 0) c := by
    rintro c hc (e | e | e | e)
    . have := I1.out; omega
    . have := I1.out; omega
    . have := I1.out; omega
    . cases e
   have k1 := (g2.stay w.heap.size (by have := ji gX; have := HB2.out.size; omega) (Tj _ (.inl rfl))).trans (jM gX HB2); have k2 := (g2.stay (w.heap.size + 1) (by have := ji LW; have := HB2.out.size; omega) (Tj _ (.inr rfl))).trans (jM LW HB2); have wH : w3.cell? ⟨w.heap.size, 0, none⟩ = some (.slice q1 x.jF.length c1) /\ w3.cell? ⟨w.heap.size, 1, none⟩ = some (.slice q2 x.defs.length c2) := ⟨xK k1 0 rfl, xK k1 1 rfl⟩; have hk4 : ∀ c, c ≠ w.heap.size + 1 -> ((w3.setCell ⟨w.heap.size + 1, 0, none⟩ (.slice p2 x.jF.length e2)).setCell ⟨w.heap.size + 1, 1, none⟩ (.slice o3 L3 d3)).heap[c]? = w3.heap[c]? := fun c hc => ZL (w.heap.size + 1) [.slice p2 x.jF.length e2, .slice o3 L3 d3] w3 0 c hc
   have e4 : ((w3.setCell ⟨w.heap.size + 1, 0, none⟩ (.slice p2 x.jF.length e2)).setCell ⟨w.heap.size + 1, 1, none⟩ (.slice o3 L3 d3)).heap[w.heap.size + 1]? = some (.cells #[.slice p2 x.jF.length e2, .slice o3 L3 d3] 26 (0, 0)) := by
    have := Jf (Jf k2 0 (.slice p2 x.jF.length e2)) 1 (.slice o3 L3 d3)
    simpa using this
   have hb4 : Below w.heap.size w3 ((w3.setCell ⟨w.heap.size + 1, 0, none⟩ (.slice p2 x.jF.length e2)).setCell ⟨w.heap.size + 1, 1, none⟩ (.slice o3 L3 d3)) := ZM (by omega) [.slice p2 x.jF.length e2, .slice o3 L3 d3] w3 0; have hs4 : ((w3.setCell ⟨w.heap.size + 1, 0, none⟩ (.slice p2 x.jF.length e2)).setCell ⟨w.heap.size + 1, 1, none⟩ (.slice o3 L3 d3)).heap.size = w3.heap.size := by simp
   have jCE : ((w3.setCell ⟨w.heap.size + 1, 0, none⟩ (.slice p2 x.jF.length e2)).setCell ⟨w.heap.size + 1, 1, none⟩ (.slice o3 L3 d3)).cell? ⟨w.heap.size, 0, none⟩ = some (.slice q1 x.jF.length c1) /\ ((w3.setCell ⟨w.heap.size + 1, 0, none⟩ (.slice p2 x.jF.length e2)).setCell ⟨w.heap.size + 1, 1, none⟩ (.slice o3 L3 d3)).cell? ⟨w.heap.size, 1, none⟩ = some (.slice q2 x.defs.length c2) := ⟨jK ((hk4 _ (by omega)).trans k1) 0 _ rfl, jK ((hk4 _ (by omega)).trans k1) 1 _ rfl⟩; obtain ⟨z0, z1⟩ := xR2 k2; have t0 := jX k2 0; have t1 := jX k2 1
   have dK := hid wH; have Cq := hid jCE; have Ao := hid hk4; have jCF := hid e4; have uT := hid hb4; have I6 := hid hs4; have G2 := hid g2; have G3 := hid g3'
   clear g1 g2 g3 g3' hL3 Tj k1 k2 wH hk4 e4 hb4 hs4 jCE; refine hK.out _ _ dK.out (fun hHeld => ?_); clear hK K; refine wR 8 rfl (fun K hK => ?_); go_simp; refine hK.out _ _ dK.out (fun hHeld => ?_); clear hK K; refine wR 9 rfl (fun K hK => ?_); go_simp; refine hK.out _ _ Cq.out (fun hHeld => ?_); clear hK K hHeld z0 z1 t0 t1; refine wD ?_; generalize ((w3.setCell ⟨w.heap.size + 1, 0, none⟩ (.slice p2 x.jF.length e2)).setCell ⟨w.heap.size + 1, 1, none⟩ (.slice o3 L3 d3)) = w4 at Cq Ao jCF uT I6 ⊢; go_wp2_with fail; obtain ⟨r0, r1⟩ := xR2 jCF; refine jG (v := .agg #[.slice p2 x.jF.length e2, .slice o3 L3 d3]) (by simp [results, Tryd.results6, go_sem, r0, r1]) rfl ?_; have hw2 : Below w.heap.size w w2 := Zj.out.trans (HB2.out.mono Zj.out.size); have hsz2 := HB2.out.size; have Tk := ji LW; refine ⟨_, rfl, (hw2.trans G2.out.below).trans uT.out, fun u hu => ⟨_, _, rfl, ?_, ?_⟩⟩
   . have hown : w4.ownsRow w.heap.size 56 4 (.slice p2 x.jF.length e2) x.jF.length (cellsOf jFV) := by
      refine ⟨zV.out.1, ?_⟩
      rcases zV.out.2 with e | ⟨g, cap, cur, e, a1, a2, a3⟩
      . exact .inl e
      . have hg1 : wr.heap.size <= g := a1; have hg2 := ji a2; obtain ⟨l1, l2, l3, l4⟩ := jCD.out.low; refine .inr ⟨g, cap, cur, e, by omega, (Ao.out g (by omega)).trans ((G2.out.stay g hg2 ?_).trans a2), a3⟩; rintro (e | e | e | e)
        . omega
        . omega
        . omega
        . cases e
     exact KY (Qp hown fun b hb' => hu b (hown.lt b hb').1 (hown.lt b hb').2) rfl HRR HZ2
   . exact G3.out u fun c h1 h2 h3 => (hu c (by omega) (by have := I6.out; omega)).trans (Ao.out c (by omega))
end Fr
end Go.Proofs.YtlnjdclmopblcaaDoor
