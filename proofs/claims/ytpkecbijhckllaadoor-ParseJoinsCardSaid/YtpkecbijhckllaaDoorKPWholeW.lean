/-
 whole: an expression that is whole is.
-/
import Derived.Test.YtpkecbijhckllaaDoorKPWhole
import Derived.Test.YtpkecbijhckllaaDoorKPShE
namespace Go.Proofs.YtpkecbijhckllaaDoor
open Go Go.RowKit
set_option linter.unusedVariables false
set_option linter.unusedSimpArgs false
theorem row_le {α : Type} {sz : Nat} {rep : Value → α → Prop} {w : World} {v : Value} {xs : List α} (h : RowAt sz rep w v xs) : (xs.length : Int) ≤ 9223372036854775807 := by
 rcases h with ⟨rfl, _⟩ | ⟨g, o, c, _, h1, h2, _⟩
 · simp
 · omega
def WholeC (f : Nat) : Prop := ∀ (v : Value) (x : Px.Expr) (w : World), ExprAt f w v x → Px.WholeE f x → Calls Tryd.prog 17 #[v] w fun e w' => e = .returned (.bool true) ∧ Below w.heap.size w w'
set_option maxHeartbeats 8000000 in
set_option maxRecDepth 100000 in
theorem whole_step (f : Nat) (ih : WholeC f) : WholeC (f + 1) := by
 intro v x w h hw
 obtain ⟨kd, p, nm, iv, ns, xs, al⟩ := x
 obtain ⟨nv, xv, av, rfl, hns, hxs, hal⟩ := h
 obtain ⟨q1, c1, rfl⟩ := hns.len
 obtain ⟨q2, c2, rfl⟩ := hxs.len
 obtain ⟨q3, c3, rfl⟩ := hal.len
 obtain ⟨h7, _, h01, h3, h5, h4, h6, _, hx, ha⟩ := hw
 have HXS := Lib.hid hxs; have HAL := Lib.hid hal; have IH := Lib.hid ih; have HW := Lib.hid (And.intro hx ha)
 clear hns hxs hal ih hx ha
 go_enter Tryd.func17, Tryd.ntmps17
 have hb0 : Below w.heap.size w (w.alloc (.cells #[.int .i64 kd, .int .i64 p, .string ⟨nm.toArray⟩, .int .i64 iv, .slice q1 ns.length c1, .slice q2 xs.length c2, .slice q3 al.length c3] 38)) := (Below.refl _ _).alloc (Nat.le_refl _) _
 have EN := Lib.hid (ent_new w #[.int .i64 kd, .int .i64 p, .string ⟨nm.toArray⟩, .int .i64 iv, .slice q1 ns.length c1, .slice q2 xs.length c2, .slice q3 al.length c3] 38)
 have HB0 := Lib.hid hb0
 clear hb0
 have hkinds : kd = 0 ∨ kd = 1 ∨ kd = 2 ∨ kd = 3 ∨ kd = 4 ∨ kd = 5 ∨ kd = 6 ∨ kd = 7 := by omega
 rcases hkinds with rfl | rfl | rfl | rfl | rfl | rfl | rfl | rfl
 · obtain ⟨g1, g2, g3⟩ := h01 (by simp)
   have ha : ((xs.length : Int) == 0) = true := by rw [g1]; rfl
   have hb : ((ns.length : Int) + (al.length : Int) == 0) = true := by rw [g2, g3]; rfl
   have hc : (ns.length : Int) ≤ 100 := by rw [g2]; simp
   have hd : (al.length : Int) ≤ 100 := by rw [g3]; simp
   clear h01 h3 h5 h4 h6 g1 g2 g3
   go_wp2_with fail
   go_loopw [4, 71] (fun ok i wr => ∃ k : Nat, i = .int .i64 k ∧ k ≤ xs.length ∧ ok = .bool true ∧ Hid (wr.heap[w.heap.size]? = some (.cells #[.int .i64 0, .int .i64 p, .string ⟨nm.toArray⟩, .int .i64 iv, .slice q1 ns.length c1, .slice q2 xs.length c2, .slice q3 al.length c3] 38 (0, 0))) ∧ Hid (Below w.heap.size w wr)) (fun _ i _ => xs.length - (intOf i).toNat)
   case atStart => exact ⟨0, rfl, Nat.zero_le _, rfl, EN, HB0⟩
   case round =>
    clear EN HB0
    obtain ⟨k, rfl, hk, rfl, EN, HB⟩ := hrel
    have hs := HB.out.size
    by_cases hlt : k < xs.length
    · obtain ⟨t, ht⟩ : ∃ t, xs[k]? = some t := ⟨_, List.getElem?_eq_getElem hlt⟩
      rcases HXS.out with ⟨h, _⟩ | ⟨g, o, c', hv, h1, h2, h3'⟩
      · rw [h] at hlt; simp at hlt
      injection hv with hq _ hc
      subst hq; subst hc
      obtain ⟨u, hu, hus, huc⟩ := h3' k t ht
      obtain ⟨xk, xp, xi, xs', r1, n1, d1, r2, n2, d2, r3, n3, d3, rfl⟩ := exprAt_form f _ _ _ hu
      have up : ∀ q z, w.cell? ⟨g, q, none⟩ = some z → wr.cell? ⟨g, q, none⟩ = some z := fun q z hz => (HB.out.cell (World.block_lt_of_cell? w _ hz)).trans hz
      have c0 := up _ _ (huc 0 _ rfl); have c1' := up _ _ (huc 1 _ rfl); have c2' := up _ _ (huc 2 _ rfl); have c3' := up _ _ (huc 3 _ rfl); have c4 := up _ _ (huc 4 _ rfl); have c5 := up _ _ (huc 5 _ rfl); have c6 := up _ _ (huc 6 _ rfl)
      rw [Nat.add_zero] at c0
      have hal1 : Below wr.heap.size wr (wr.alloc (.cells #[.int .i64 xk, .int .i64 xp, .string xs', .int .i64 xi, .slice r1 n1 d1, .slice r2 n2 d2, .slice r3 n3 d3] 38)) := (Below.refl _ _).alloc (Nat.le_refl _) _
      have HC := Lib.hid (IH.out _ t _ (exprAt_below hu (HB.out.trans (hal1.mono hs))) (HW.out.1 t (List.mem_of_getElem? ht)))
      have HB2 := Lib.hid (HB.out.trans (hal1.mono hs))
      have EN1 := Lib.hid (ent_alloc EN.out (.cells #[.int .i64 xk, .int .i64 xp, .string xs', .int .i64 xi, .slice r1 n1 d1, .slice r2 n2 d2, .slice r3 n3 d3] 38))
      clear h3' huc hu hus ht up hal1
      go_wp2_with fail
      refine HC.out.mono ?_
      rintro e w2 ⟨rfl, hb2⟩
      have HB3 := Lib.hid (HB2.out.trans (hb2.mono HB2.out.size))
      have EN3 := Lib.hid (ent_below EN1.out hb2)
      clear hb2 HC c0 c1' c2' c3' c4 c5 c6
      go_wp2_with fail
      go_roundw
      case rel =>
       first
        | exact ⟨k + 1, by go_num, by omega, rfl, EN3, HB3⟩
        | (refine ⟨_, _, _, _, _, _, _, _, _, _, _, _, ⟨k + 1, ?_, by omega, rfl, EN3, HB3⟩, rfl⟩; go_num)
        | (refine ⟨_, _, _, _, _, _, _, _, _, _, _, ⟨k + 1, ?_, by omega, rfl, EN3, HB3⟩, rfl⟩; go_num)
        | (refine ⟨_, _, _, _, _, _, _, _, _, _, _, _, _, ⟨k + 1, ?_, by omega, rfl, EN3, HB3⟩, rfl⟩; go_num)
        | (refine ⟨_, _, _, _, _, _, _, _, _, _, _, _, _, _, ⟨k + 1, ?_, by omega, rfl, EN3, HB3⟩, rfl⟩; go_num)
        | (refine ⟨_, _, _, _, _, _, _, _, _, _, ⟨k + 1, ?_, by omega, rfl, EN3, HB3⟩, rfl⟩; go_num)
      case measure => simp [intOf]; omega
    · obtain rfl : k = xs.length := by omega
      have e6 := ent_cell EN.out 6 _ rfl
      obtain ⟨W1, hW1⟩ : ∃ x, x = wr := ⟨wr, rfl⟩
      subst hW1
      go_wp2_with fail
      go_loopw [4, 84] (fun ok i wr => ∃ m : Nat, i = .int .i64 m ∧ m ≤ al.length ∧ ok = .bool true ∧ Hid (Below w.heap.size w wr)) (fun _ i _ => al.length - (intOf i).toNat)
      case atStart => exact ⟨0, rfl, Nat.zero_le _, rfl, HB⟩
      case round =>
       clear HB EN e6 hs
       obtain ⟨m, rfl, hm, rfl, HB⟩ := hrel
       have hs := HB.out.size
       by_cases hlt2 : m < al.length
       · obtain ⟨t, ht⟩ : ∃ t, al[m]? = some t := ⟨_, List.getElem?_eq_getElem hlt2⟩
         rcases HAL.out with ⟨h, _⟩ | ⟨g, o, c', hv, h1, h2, h3'⟩
         · rw [h] at hlt2; simp at hlt2
         injection hv with hq _ hc
         subst hq; subst hc
         obtain ⟨u, ⟨a0, a1, a2, a3, a4, b0, b1, b2, b3, b4, b5, b6, rfl, hpat, hexp⟩, _, huc⟩ := h3' m t ht
         obtain ⟨pk, pp, pi, ps, pq, pn, pcc, he1⟩ := patAt_form f _ _ _ hpat
         obtain ⟨xk, xp, xi, xs2, r1, n1, d1, r2, n2, d2, r3, n3, d3, he2⟩ := exprAt_form f _ _ _ hexp
         simp only [Value.agg.injEq, Array.mk.injEq, List.cons.injEq, and_true] at he1 he2
         obtain ⟨rfl, rfl, rfl, rfl, rfl⟩ := he1
         obtain ⟨rfl, rfl, rfl, rfl, rfl, rfl, rfl⟩ := he2
         have up : ∀ q z, w.cell? ⟨g, q, none⟩ = some z → wr.cell? ⟨g, q, none⟩ = some z := fun q z hz => (HB.out.cell (World.block_lt_of_cell? w _ hz)).trans hz
         have f0 := up _ _ (huc 0 _ rfl)
         have f1 := up _ _ (huc 1 _ rfl)
         have f2 := up _ _ (huc 2 _ rfl)
         have f3 := up _ _ (huc 3 _ rfl)
         have f4 := up _ _ (huc 4 _ rfl)
         have f5 := up _ _ (huc 5 _ rfl)
         have f6 := up _ _ (huc 6 _ rfl)
         have f7 := up _ _ (huc 7 _ rfl)
         have f8 := up _ _ (huc 8 _ rfl)
         have f9 := up _ _ (huc 9 _ rfl)
         have f10 := up _ _ (huc 10 _ rfl)
         have f11 := up _ _ (huc 11 _ rfl)
         rw [Nat.add_zero] at f0
         have hal1 : Below wr.heap.size wr (wr.alloc (.cells #[.int .i64 pk, .int .i64 pp, .string ps, .int .i64 pi, .slice pq pn pcc, .int .i64 xk, .int .i64 xp, .string xs2, .int .i64 xi, .slice r1 n1 d1, .slice r2 n2 d2, .slice r3 n3 d3] 51)) := (Below.refl _ _).alloc (Nat.le_refl _) _
         have HC := Lib.hid (IH.out _ t.2 _ (exprAt_below hexp (HB.out.trans (hal1.mono hs))) (HW.out.2 t (List.mem_of_getElem? ht)).2)
         have HB2 := Lib.hid (HB.out.trans (hal1.mono hs))
         clear h3' huc hpat hexp ht up hal1
         go_wp2_with fail
         refine HC.out.mono ?_
         rintro e w2 ⟨rfl, hb2⟩
         have HB3 := Lib.hid (HB2.out.trans (hb2.mono HB2.out.size))
         clear hb2 HC f0 f1 f2 f3 f4 f5 f6 f7 f8 f9 f10 f11
         go_wp2_with fail
         go_roundw
         case rel =>
          first
           | exact ⟨m + 1, by go_num, by omega, rfl, HB3⟩
           | (refine ⟨_, _, _, _, _, _, _, _, _, _, _, _, _, ⟨m + 1, ?_, by omega, rfl, HB3⟩, rfl⟩; go_num)
           | (refine ⟨_, _, _, _, _, _, _, _, _, _, _, _, ⟨m + 1, ?_, by omega, rfl, HB3⟩, rfl⟩; go_num)
           | (refine ⟨_, _, _, _, _, _, _, _, _, _, _, _, _, _, ⟨m + 1, ?_, by omega, rfl, HB3⟩, rfl⟩; go_num)
           | (refine ⟨_, _, _, _, _, _, _, _, _, _, _, _, _, _, _, ⟨m + 1, ?_, by omega, rfl, HB3⟩, rfl⟩; go_num)
           | (refine ⟨_, _, _, _, _, _, _, _, _, _, _, ⟨m + 1, ?_, by omega, rfl, HB3⟩, rfl⟩; go_num)
         case measure => simp [intOf]; omega
       · obtain rfl : m = al.length := by omega
         go_wp2_with fail
         go_ret
         exact ⟨rfl, HB.out⟩
 · obtain ⟨g1, g2, g3⟩ := h01 (by simp)
   have ha : ((xs.length : Int) == 0) = true := by rw [g1]; rfl
   have hb : ((ns.length : Int) + (al.length : Int) == 0) = true := by rw [g2, g3]; rfl
   have hc : (ns.length : Int) ≤ 100 := by rw [g2]; simp
   have hd : (al.length : Int) ≤ 100 := by rw [g3]; simp
   clear h01 h3 h5 h4 h6 g1 g2 g3
   go_wp2_with fail
   go_loopw [4, 71] (fun ok i wr => ∃ k : Nat, i = .int .i64 k ∧ k ≤ xs.length ∧ ok = .bool true ∧ Hid (wr.heap[w.heap.size]? = some (.cells #[.int .i64 1, .int .i64 p, .string ⟨nm.toArray⟩, .int .i64 iv, .slice q1 ns.length c1, .slice q2 xs.length c2, .slice q3 al.length c3] 38 (0, 0))) ∧ Hid (Below w.heap.size w wr)) (fun _ i _ => xs.length - (intOf i).toNat)
   case atStart => exact ⟨0, rfl, Nat.zero_le _, rfl, EN, HB0⟩
   case round =>
    clear EN HB0
    obtain ⟨k, rfl, hk, rfl, EN, HB⟩ := hrel
    have hs := HB.out.size
    by_cases hlt : k < xs.length
    · obtain ⟨t, ht⟩ : ∃ t, xs[k]? = some t := ⟨_, List.getElem?_eq_getElem hlt⟩
      rcases HXS.out with ⟨h, _⟩ | ⟨g, o, c', hv, h1, h2, h3'⟩
      · rw [h] at hlt; simp at hlt
      injection hv with hq _ hc
      subst hq; subst hc
      obtain ⟨u, hu, hus, huc⟩ := h3' k t ht
      obtain ⟨xk, xp, xi, xs', r1, n1, d1, r2, n2, d2, r3, n3, d3, rfl⟩ := exprAt_form f _ _ _ hu
      have up : ∀ q z, w.cell? ⟨g, q, none⟩ = some z → wr.cell? ⟨g, q, none⟩ = some z := fun q z hz => (HB.out.cell (World.block_lt_of_cell? w _ hz)).trans hz
      have c0 := up _ _ (huc 0 _ rfl); have c1' := up _ _ (huc 1 _ rfl); have c2' := up _ _ (huc 2 _ rfl); have c3' := up _ _ (huc 3 _ rfl); have c4 := up _ _ (huc 4 _ rfl); have c5 := up _ _ (huc 5 _ rfl); have c6 := up _ _ (huc 6 _ rfl)
      rw [Nat.add_zero] at c0
      have hal1 : Below wr.heap.size wr (wr.alloc (.cells #[.int .i64 xk, .int .i64 xp, .string xs', .int .i64 xi, .slice r1 n1 d1, .slice r2 n2 d2, .slice r3 n3 d3] 38)) := (Below.refl _ _).alloc (Nat.le_refl _) _
      have HC := Lib.hid (IH.out _ t _ (exprAt_below hu (HB.out.trans (hal1.mono hs))) (HW.out.1 t (List.mem_of_getElem? ht)))
      have HB2 := Lib.hid (HB.out.trans (hal1.mono hs))
      have EN1 := Lib.hid (ent_alloc EN.out (.cells #[.int .i64 xk, .int .i64 xp, .string xs', .int .i64 xi, .slice r1 n1 d1, .slice r2 n2 d2, .slice r3 n3 d3] 38))
      clear h3' huc hu hus ht up hal1
      go_wp2_with fail
      refine HC.out.mono ?_
      rintro e w2 ⟨rfl, hb2⟩
      have HB3 := Lib.hid (HB2.out.trans (hb2.mono HB2.out.size))
      have EN3 := Lib.hid (ent_below EN1.out hb2)
      clear hb2 HC c0 c1' c2' c3' c4 c5 c6
      go_wp2_with fail
      go_roundw
      case rel =>
       first
        | exact ⟨k + 1, by go_num, by omega, rfl, EN3, HB3⟩
        | (refine ⟨_, _, _, _, _, _, _, _, _, _, _, _, ⟨k + 1, ?_, by omega, rfl, EN3, HB3⟩, rfl⟩; go_num)
        | (refine ⟨_, _, _, _, _, _, _, _, _, _, _, ⟨k + 1, ?_, by omega, rfl, EN3, HB3⟩, rfl⟩; go_num)
        | (refine ⟨_, _, _, _, _, _, _, _, _, _, _, _, _, ⟨k + 1, ?_, by omega, rfl, EN3, HB3⟩, rfl⟩; go_num)
        | (refine ⟨_, _, _, _, _, _, _, _, _, _, _, _, _, _, ⟨k + 1, ?_, by omega, rfl, EN3, HB3⟩, rfl⟩; go_num)
        | (refine ⟨_, _, _, _, _, _, _, _, _, _, ⟨k + 1, ?_, by omega, rfl, EN3, HB3⟩, rfl⟩; go_num)
      case measure => simp [intOf]; omega
    · obtain rfl : k = xs.length := by omega
      have e6 := ent_cell EN.out 6 _ rfl
      obtain ⟨W1, hW1⟩ : ∃ x, x = wr := ⟨wr, rfl⟩
      subst hW1
      go_wp2_with fail
      go_loopw [4, 84] (fun ok i wr => ∃ m : Nat, i = .int .i64 m ∧ m ≤ al.length ∧ ok = .bool true ∧ Hid (Below w.heap.size w wr)) (fun _ i _ => al.length - (intOf i).toNat)
      case atStart => exact ⟨0, rfl, Nat.zero_le _, rfl, HB⟩
      case round =>
       clear HB EN e6 hs
       obtain ⟨m, rfl, hm, rfl, HB⟩ := hrel
       have hs := HB.out.size
       by_cases hlt2 : m < al.length
       · obtain ⟨t, ht⟩ : ∃ t, al[m]? = some t := ⟨_, List.getElem?_eq_getElem hlt2⟩
         rcases HAL.out with ⟨h, _⟩ | ⟨g, o, c', hv, h1, h2, h3'⟩
         · rw [h] at hlt2; simp at hlt2
         injection hv with hq _ hc
         subst hq; subst hc
         obtain ⟨u, ⟨a0, a1, a2, a3, a4, b0, b1, b2, b3, b4, b5, b6, rfl, hpat, hexp⟩, _, huc⟩ := h3' m t ht
         obtain ⟨pk, pp, pi, ps, pq, pn, pcc, he1⟩ := patAt_form f _ _ _ hpat
         obtain ⟨xk, xp, xi, xs2, r1, n1, d1, r2, n2, d2, r3, n3, d3, he2⟩ := exprAt_form f _ _ _ hexp
         simp only [Value.agg.injEq, Array.mk.injEq, List.cons.injEq, and_true] at he1 he2
         obtain ⟨rfl, rfl, rfl, rfl, rfl⟩ := he1
         obtain ⟨rfl, rfl, rfl, rfl, rfl, rfl, rfl⟩ := he2
         have up : ∀ q z, w.cell? ⟨g, q, none⟩ = some z → wr.cell? ⟨g, q, none⟩ = some z := fun q z hz => (HB.out.cell (World.block_lt_of_cell? w _ hz)).trans hz
         have f0 := up _ _ (huc 0 _ rfl)
         have f1 := up _ _ (huc 1 _ rfl)
         have f2 := up _ _ (huc 2 _ rfl)
         have f3 := up _ _ (huc 3 _ rfl)
         have f4 := up _ _ (huc 4 _ rfl)
         have f5 := up _ _ (huc 5 _ rfl)
         have f6 := up _ _ (huc 6 _ rfl)
         have f7 := up _ _ (huc 7 _ rfl)
         have f8 := up _ _ (huc 8 _ rfl)
         have f9 := up _ _ (huc 9 _ rfl)
         have f10 := up _ _ (huc 10 _ rfl)
         have f11 := up _ _ (huc 11 _ rfl)
         rw [Nat.add_zero] at f0
         have hal1 : Below wr.heap.size wr (wr.alloc (.cells #[.int .i64 pk, .int .i64 pp, .string ps, .int .i64 pi, .slice pq pn pcc, .int .i64 xk, .int .i64 xp, .string xs2, .int .i64 xi, .slice r1 n1 d1, .slice r2 n2 d2, .slice r3 n3 d3] 51)) := (Below.refl _ _).alloc (Nat.le_refl _) _
         have HC := Lib.hid (IH.out _ t.2 _ (exprAt_below hexp (HB.out.trans (hal1.mono hs))) (HW.out.2 t (List.mem_of_getElem? ht)).2)
         have HB2 := Lib.hid (HB.out.trans (hal1.mono hs))
         clear h3' huc hpat hexp ht up hal1
         go_wp2_with fail
         refine HC.out.mono ?_
         rintro e w2 ⟨rfl, hb2⟩
         have HB3 := Lib.hid (HB2.out.trans (hb2.mono HB2.out.size))
         clear hb2 HC f0 f1 f2 f3 f4 f5 f6 f7 f8 f9 f10 f11
         go_wp2_with fail
         go_roundw
         case rel =>
          first
           | exact ⟨m + 1, by go_num, by omega, rfl, HB3⟩
           | (refine ⟨_, _, _, _, _, _, _, _, _, _, _, _, _, ⟨m + 1, ?_, by omega, rfl, HB3⟩, rfl⟩; go_num)
           | (refine ⟨_, _, _, _, _, _, _, _, _, _, _, _, ⟨m + 1, ?_, by omega, rfl, HB3⟩, rfl⟩; go_num)
           | (refine ⟨_, _, _, _, _, _, _, _, _, _, _, _, _, _, ⟨m + 1, ?_, by omega, rfl, HB3⟩, rfl⟩; go_num)
           | (refine ⟨_, _, _, _, _, _, _, _, _, _, _, _, _, _, _, ⟨m + 1, ?_, by omega, rfl, HB3⟩, rfl⟩; go_num)
           | (refine ⟨_, _, _, _, _, _, _, _, _, _, _, ⟨m + 1, ?_, by omega, rfl, HB3⟩, rfl⟩; go_num)
         case measure => simp [intOf]; omega
       · obtain rfl : m = al.length := by omega
         go_wp2_with fail
         go_ret
         exact ⟨rfl, HB.out⟩
 · clear h01 h3 h5 h4 h6
   go_wp2_with fail
   go_loopw [4, 71] (fun ok i wr => ∃ k : Nat, i = .int .i64 k ∧ k ≤ xs.length ∧ ok = .bool true ∧ Hid (wr.heap[w.heap.size]? = some (.cells #[.int .i64 2, .int .i64 p, .string ⟨nm.toArray⟩, .int .i64 iv, .slice q1 ns.length c1, .slice q2 xs.length c2, .slice q3 al.length c3] 38 (0, 0))) ∧ Hid (Below w.heap.size w wr)) (fun _ i _ => xs.length - (intOf i).toNat)
   case atStart => exact ⟨0, rfl, Nat.zero_le _, rfl, EN, HB0⟩
   case round =>
    clear EN HB0
    obtain ⟨k, rfl, hk, rfl, EN, HB⟩ := hrel
    have hs := HB.out.size
    by_cases hlt : k < xs.length
    · obtain ⟨t, ht⟩ : ∃ t, xs[k]? = some t := ⟨_, List.getElem?_eq_getElem hlt⟩
      rcases HXS.out with ⟨h, _⟩ | ⟨g, o, c', hv, h1, h2, h3'⟩
      · rw [h] at hlt; simp at hlt
      injection hv with hq _ hc
      subst hq; subst hc
      obtain ⟨u, hu, hus, huc⟩ := h3' k t ht
      obtain ⟨xk, xp, xi, xs', r1, n1, d1, r2, n2, d2, r3, n3, d3, rfl⟩ := exprAt_form f _ _ _ hu
      have up : ∀ q z, w.cell? ⟨g, q, none⟩ = some z → wr.cell? ⟨g, q, none⟩ = some z := fun q z hz => (HB.out.cell (World.block_lt_of_cell? w _ hz)).trans hz
      have c0 := up _ _ (huc 0 _ rfl); have c1' := up _ _ (huc 1 _ rfl); have c2' := up _ _ (huc 2 _ rfl); have c3' := up _ _ (huc 3 _ rfl); have c4 := up _ _ (huc 4 _ rfl); have c5 := up _ _ (huc 5 _ rfl); have c6 := up _ _ (huc 6 _ rfl)
      rw [Nat.add_zero] at c0
      have hal1 : Below wr.heap.size wr (wr.alloc (.cells #[.int .i64 xk, .int .i64 xp, .string xs', .int .i64 xi, .slice r1 n1 d1, .slice r2 n2 d2, .slice r3 n3 d3] 38)) := (Below.refl _ _).alloc (Nat.le_refl _) _
      have HC := Lib.hid (IH.out _ t _ (exprAt_below hu (HB.out.trans (hal1.mono hs))) (HW.out.1 t (List.mem_of_getElem? ht)))
      have HB2 := Lib.hid (HB.out.trans (hal1.mono hs))
      have EN1 := Lib.hid (ent_alloc EN.out (.cells #[.int .i64 xk, .int .i64 xp, .string xs', .int .i64 xi, .slice r1 n1 d1, .slice r2 n2 d2, .slice r3 n3 d3] 38))
      clear h3' huc hu hus ht up hal1
      go_wp2_with fail
      refine HC.out.mono ?_
      rintro e w2 ⟨rfl, hb2⟩
      have HB3 := Lib.hid (HB2.out.trans (hb2.mono HB2.out.size))
      have EN3 := Lib.hid (ent_below EN1.out hb2)
      clear hb2 HC c0 c1' c2' c3' c4 c5 c6
      go_wp2_with fail
      go_roundw
      case rel =>
       first
        | exact ⟨k + 1, by go_num, by omega, rfl, EN3, HB3⟩
        | (refine ⟨_, _, _, _, _, _, _, _, _, _, _, _, ⟨k + 1, ?_, by omega, rfl, EN3, HB3⟩, rfl⟩; go_num)
        | (refine ⟨_, _, _, _, _, _, _, _, _, _, _, ⟨k + 1, ?_, by omega, rfl, EN3, HB3⟩, rfl⟩; go_num)
        | (refine ⟨_, _, _, _, _, _, _, _, _, _, _, _, _, ⟨k + 1, ?_, by omega, rfl, EN3, HB3⟩, rfl⟩; go_num)
        | (refine ⟨_, _, _, _, _, _, _, _, _, _, _, _, _, _, ⟨k + 1, ?_, by omega, rfl, EN3, HB3⟩, rfl⟩; go_num)
        | (refine ⟨_, _, _, _, _, _, _, _, _, _, ⟨k + 1, ?_, by omega, rfl, EN3, HB3⟩, rfl⟩; go_num)
      case measure => simp [intOf]; omega
    · obtain rfl : k = xs.length := by omega
      have e6 := ent_cell EN.out 6 _ rfl
      obtain ⟨W1, hW1⟩ : ∃ x, x = wr := ⟨wr, rfl⟩
      subst hW1
      go_wp2_with fail
      go_loopw [4, 84] (fun ok i wr => ∃ m : Nat, i = .int .i64 m ∧ m ≤ al.length ∧ ok = .bool true ∧ Hid (Below w.heap.size w wr)) (fun _ i _ => al.length - (intOf i).toNat)
      case atStart => exact ⟨0, rfl, Nat.zero_le _, rfl, HB⟩
      case round =>
       clear HB EN e6 hs
       obtain ⟨m, rfl, hm, rfl, HB⟩ := hrel
       have hs := HB.out.size
       by_cases hlt2 : m < al.length
       · obtain ⟨t, ht⟩ : ∃ t, al[m]? = some t := ⟨_, List.getElem?_eq_getElem hlt2⟩
         rcases HAL.out with ⟨h, _⟩ | ⟨g, o, c', hv, h1, h2, h3'⟩
         · rw [h] at hlt2; simp at hlt2
         injection hv with hq _ hc
         subst hq; subst hc
         obtain ⟨u, ⟨a0, a1, a2, a3, a4, b0, b1, b2, b3, b4, b5, b6, rfl, hpat, hexp⟩, _, huc⟩ := h3' m t ht
         obtain ⟨pk, pp, pi, ps, pq, pn, pcc, he1⟩ := patAt_form f _ _ _ hpat
         obtain ⟨xk, xp, xi, xs2, r1, n1, d1, r2, n2, d2, r3, n3, d3, he2⟩ := exprAt_form f _ _ _ hexp
         simp only [Value.agg.injEq, Array.mk.injEq, List.cons.injEq, and_true] at he1 he2
         obtain ⟨rfl, rfl, rfl, rfl, rfl⟩ := he1
         obtain ⟨rfl, rfl, rfl, rfl, rfl, rfl, rfl⟩ := he2
         have up : ∀ q z, w.cell? ⟨g, q, none⟩ = some z → wr.cell? ⟨g, q, none⟩ = some z := fun q z hz => (HB.out.cell (World.block_lt_of_cell? w _ hz)).trans hz
         have f0 := up _ _ (huc 0 _ rfl)
         have f1 := up _ _ (huc 1 _ rfl)
         have f2 := up _ _ (huc 2 _ rfl)
         have f3 := up _ _ (huc 3 _ rfl)
         have f4 := up _ _ (huc 4 _ rfl)
         have f5 := up _ _ (huc 5 _ rfl)
         have f6 := up _ _ (huc 6 _ rfl)
         have f7 := up _ _ (huc 7 _ rfl)
         have f8 := up _ _ (huc 8 _ rfl)
         have f9 := up _ _ (huc 9 _ rfl)
         have f10 := up _ _ (huc 10 _ rfl)
         have f11 := up _ _ (huc 11 _ rfl)
         rw [Nat.add_zero] at f0
         have hal1 : Below wr.heap.size wr (wr.alloc (.cells #[.int .i64 pk, .int .i64 pp, .string ps, .int .i64 pi, .slice pq pn pcc, .int .i64 xk, .int .i64 xp, .string xs2, .int .i64 xi, .slice r1 n1 d1, .slice r2 n2 d2, .slice r3 n3 d3] 51)) := (Below.refl _ _).alloc (Nat.le_refl _) _
         have HC := Lib.hid (IH.out _ t.2 _ (exprAt_below hexp (HB.out.trans (hal1.mono hs))) (HW.out.2 t (List.mem_of_getElem? ht)).2)
         have HB2 := Lib.hid (HB.out.trans (hal1.mono hs))
         clear h3' huc hpat hexp ht up hal1
         go_wp2_with fail
         refine HC.out.mono ?_
         rintro e w2 ⟨rfl, hb2⟩
         have HB3 := Lib.hid (HB2.out.trans (hb2.mono HB2.out.size))
         clear hb2 HC f0 f1 f2 f3 f4 f5 f6 f7 f8 f9 f10 f11
         go_wp2_with fail
         go_roundw
         case rel =>
          first
           | exact ⟨m + 1, by go_num, by omega, rfl, HB3⟩
           | (refine ⟨_, _, _, _, _, _, _, _, _, _, _, _, _, ⟨m + 1, ?_, by omega, rfl, HB3⟩, rfl⟩; go_num)
           | (refine ⟨_, _, _, _, _, _, _, _, _, _, _, _, ⟨m + 1, ?_, by omega, rfl, HB3⟩, rfl⟩; go_num)
           | (refine ⟨_, _, _, _, _, _, _, _, _, _, _, _, _, _, ⟨m + 1, ?_, by omega, rfl, HB3⟩, rfl⟩; go_num)
           | (refine ⟨_, _, _, _, _, _, _, _, _, _, _, _, _, _, _, ⟨m + 1, ?_, by omega, rfl, HB3⟩, rfl⟩; go_num)
           | (refine ⟨_, _, _, _, _, _, _, _, _, _, _, ⟨m + 1, ?_, by omega, rfl, HB3⟩, rfl⟩; go_num)
         case measure => simp [intOf]; omega
       · obtain rfl : m = al.length := by omega
         go_wp2_with fail
         go_ret
         exact ⟨rfl, HB.out⟩
 · obtain ⟨g1, g2⟩ := h3 rfl
   have g3 := List.length_pos_iff.2 g2
   have ha : ((xs.length : Int) == 1) = true := by simp; omega
   have hb : decide ((0 : Int) < (ns.length : Int)) = true := by simp; omega
   clear h01 h3 h5 h4 h6 g1 g2
   go_wp2_with fail
   go_loopw [4, 71] (fun ok i wr => ∃ k : Nat, i = .int .i64 k ∧ k ≤ xs.length ∧ ok = .bool true ∧ Hid (wr.heap[w.heap.size]? = some (.cells #[.int .i64 3, .int .i64 p, .string ⟨nm.toArray⟩, .int .i64 iv, .slice q1 ns.length c1, .slice q2 xs.length c2, .slice q3 al.length c3] 38 (0, 0))) ∧ Hid (Below w.heap.size w wr)) (fun _ i _ => xs.length - (intOf i).toNat)
   case atStart => exact ⟨0, rfl, Nat.zero_le _, rfl, EN, HB0⟩
   case round =>
    clear EN HB0
    obtain ⟨k, rfl, hk, rfl, EN, HB⟩ := hrel
    have hs := HB.out.size
    by_cases hlt : k < xs.length
    · obtain ⟨t, ht⟩ : ∃ t, xs[k]? = some t := ⟨_, List.getElem?_eq_getElem hlt⟩
      rcases HXS.out with ⟨h, _⟩ | ⟨g, o, c', hv, h1, h2, h3'⟩
      · rw [h] at hlt; simp at hlt
      injection hv with hq _ hc
      subst hq; subst hc
      obtain ⟨u, hu, hus, huc⟩ := h3' k t ht
      obtain ⟨xk, xp, xi, xs', r1, n1, d1, r2, n2, d2, r3, n3, d3, rfl⟩ := exprAt_form f _ _ _ hu
      have up : ∀ q z, w.cell? ⟨g, q, none⟩ = some z → wr.cell? ⟨g, q, none⟩ = some z := fun q z hz => (HB.out.cell (World.block_lt_of_cell? w _ hz)).trans hz
      have c0 := up _ _ (huc 0 _ rfl); have c1' := up _ _ (huc 1 _ rfl); have c2' := up _ _ (huc 2 _ rfl); have c3' := up _ _ (huc 3 _ rfl); have c4 := up _ _ (huc 4 _ rfl); have c5 := up _ _ (huc 5 _ rfl); have c6 := up _ _ (huc 6 _ rfl)
      rw [Nat.add_zero] at c0
      have hal1 : Below wr.heap.size wr (wr.alloc (.cells #[.int .i64 xk, .int .i64 xp, .string xs', .int .i64 xi, .slice r1 n1 d1, .slice r2 n2 d2, .slice r3 n3 d3] 38)) := (Below.refl _ _).alloc (Nat.le_refl _) _
      have HC := Lib.hid (IH.out _ t _ (exprAt_below hu (HB.out.trans (hal1.mono hs))) (HW.out.1 t (List.mem_of_getElem? ht)))
      have HB2 := Lib.hid (HB.out.trans (hal1.mono hs))
      have EN1 := Lib.hid (ent_alloc EN.out (.cells #[.int .i64 xk, .int .i64 xp, .string xs', .int .i64 xi, .slice r1 n1 d1, .slice r2 n2 d2, .slice r3 n3 d3] 38))
      clear h3' huc hu hus ht up hal1
      go_wp2_with fail
      refine HC.out.mono ?_
      rintro e w2 ⟨rfl, hb2⟩
      have HB3 := Lib.hid (HB2.out.trans (hb2.mono HB2.out.size))
      have EN3 := Lib.hid (ent_below EN1.out hb2)
      clear hb2 HC c0 c1' c2' c3' c4 c5 c6
      go_wp2_with fail
      go_roundw
      case rel =>
       first
        | exact ⟨k + 1, by go_num, by omega, rfl, EN3, HB3⟩
        | (refine ⟨_, _, _, _, _, _, _, _, _, _, _, _, ⟨k + 1, ?_, by omega, rfl, EN3, HB3⟩, rfl⟩; go_num)
        | (refine ⟨_, _, _, _, _, _, _, _, _, _, _, ⟨k + 1, ?_, by omega, rfl, EN3, HB3⟩, rfl⟩; go_num)
        | (refine ⟨_, _, _, _, _, _, _, _, _, _, _, _, _, ⟨k + 1, ?_, by omega, rfl, EN3, HB3⟩, rfl⟩; go_num)
        | (refine ⟨_, _, _, _, _, _, _, _, _, _, _, _, _, _, ⟨k + 1, ?_, by omega, rfl, EN3, HB3⟩, rfl⟩; go_num)
        | (refine ⟨_, _, _, _, _, _, _, _, _, _, ⟨k + 1, ?_, by omega, rfl, EN3, HB3⟩, rfl⟩; go_num)
      case measure => simp [intOf]; omega
    · obtain rfl : k = xs.length := by omega
      have e6 := ent_cell EN.out 6 _ rfl
      obtain ⟨W1, hW1⟩ : ∃ x, x = wr := ⟨wr, rfl⟩
      subst hW1
      go_wp2_with fail
      go_loopw [4, 84] (fun ok i wr => ∃ m : Nat, i = .int .i64 m ∧ m ≤ al.length ∧ ok = .bool true ∧ Hid (Below w.heap.size w wr)) (fun _ i _ => al.length - (intOf i).toNat)
      case atStart => exact ⟨0, rfl, Nat.zero_le _, rfl, HB⟩
      case round =>
       clear HB EN e6 hs
       obtain ⟨m, rfl, hm, rfl, HB⟩ := hrel
       have hs := HB.out.size
       by_cases hlt2 : m < al.length
       · obtain ⟨t, ht⟩ : ∃ t, al[m]? = some t := ⟨_, List.getElem?_eq_getElem hlt2⟩
         rcases HAL.out with ⟨h, _⟩ | ⟨g, o, c', hv, h1, h2, h3'⟩
         · rw [h] at hlt2; simp at hlt2
         injection hv with hq _ hc
         subst hq; subst hc
         obtain ⟨u, ⟨a0, a1, a2, a3, a4, b0, b1, b2, b3, b4, b5, b6, rfl, hpat, hexp⟩, _, huc⟩ := h3' m t ht
         obtain ⟨pk, pp, pi, ps, pq, pn, pcc, he1⟩ := patAt_form f _ _ _ hpat
         obtain ⟨xk, xp, xi, xs2, r1, n1, d1, r2, n2, d2, r3, n3, d3, he2⟩ := exprAt_form f _ _ _ hexp
         simp only [Value.agg.injEq, Array.mk.injEq, List.cons.injEq, and_true] at he1 he2
         obtain ⟨rfl, rfl, rfl, rfl, rfl⟩ := he1
         obtain ⟨rfl, rfl, rfl, rfl, rfl, rfl, rfl⟩ := he2
         have up : ∀ q z, w.cell? ⟨g, q, none⟩ = some z → wr.cell? ⟨g, q, none⟩ = some z := fun q z hz => (HB.out.cell (World.block_lt_of_cell? w _ hz)).trans hz
         have f0 := up _ _ (huc 0 _ rfl)
         have f1 := up _ _ (huc 1 _ rfl)
         have f2 := up _ _ (huc 2 _ rfl)
         have f3 := up _ _ (huc 3 _ rfl)
         have f4 := up _ _ (huc 4 _ rfl)
         have f5 := up _ _ (huc 5 _ rfl)
         have f6 := up _ _ (huc 6 _ rfl)
         have f7 := up _ _ (huc 7 _ rfl)
         have f8 := up _ _ (huc 8 _ rfl)
         have f9 := up _ _ (huc 9 _ rfl)
         have f10 := up _ _ (huc 10 _ rfl)
         have f11 := up _ _ (huc 11 _ rfl)
         rw [Nat.add_zero] at f0
         have hal1 : Below wr.heap.size wr (wr.alloc (.cells #[.int .i64 pk, .int .i64 pp, .string ps, .int .i64 pi, .slice pq pn pcc, .int .i64 xk, .int .i64 xp, .string xs2, .int .i64 xi, .slice r1 n1 d1, .slice r2 n2 d2, .slice r3 n3 d3] 51)) := (Below.refl _ _).alloc (Nat.le_refl _) _
         have HC := Lib.hid (IH.out _ t.2 _ (exprAt_below hexp (HB.out.trans (hal1.mono hs))) (HW.out.2 t (List.mem_of_getElem? ht)).2)
         have HB2 := Lib.hid (HB.out.trans (hal1.mono hs))
         clear h3' huc hpat hexp ht up hal1
         go_wp2_with fail
         refine HC.out.mono ?_
         rintro e w2 ⟨rfl, hb2⟩
         have HB3 := Lib.hid (HB2.out.trans (hb2.mono HB2.out.size))
         clear hb2 HC f0 f1 f2 f3 f4 f5 f6 f7 f8 f9 f10 f11
         go_wp2_with fail
         go_roundw
         case rel =>
          first
           | exact ⟨m + 1, by go_num, by omega, rfl, HB3⟩
           | (refine ⟨_, _, _, _, _, _, _, _, _, _, _, _, _, ⟨m + 1, ?_, by omega, rfl, HB3⟩, rfl⟩; go_num)
           | (refine ⟨_, _, _, _, _, _, _, _, _, _, _, _, ⟨m + 1, ?_, by omega, rfl, HB3⟩, rfl⟩; go_num)
           | (refine ⟨_, _, _, _, _, _, _, _, _, _, _, _, _, _, ⟨m + 1, ?_, by omega, rfl, HB3⟩, rfl⟩; go_num)
           | (refine ⟨_, _, _, _, _, _, _, _, _, _, _, _, _, _, _, ⟨m + 1, ?_, by omega, rfl, HB3⟩, rfl⟩; go_num)
           | (refine ⟨_, _, _, _, _, _, _, _, _, _, _, ⟨m + 1, ?_, by omega, rfl, HB3⟩, rfl⟩; go_num)
         case measure => simp [intOf]; omega
       · obtain rfl : m = al.length := by omega
         go_wp2_with fail
         go_ret
         exact ⟨rfl, HB.out⟩
 · obtain ⟨g1, g2⟩ := h4 rfl
   have hxl := row_le HXS.out
   have hnl : (ns.length : Int) ≤ 9223372036854775806 := by omega
   clear hxl
   have g3 := List.length_pos_iff.2 g2
   have ha : ((xs.length : Int) == (ns.length : Int) + 1) = true := by simp; omega
   have hb : decide ((1 : Int) < (xs.length : Int)) = true := by simp; omega
   clear h01 h3 h5 h4 h6 g1 g2
   go_wp2_with fail
   go_loopw [4, 71] (fun ok i wr => ∃ k : Nat, i = .int .i64 k ∧ k ≤ xs.length ∧ ok = .bool true ∧ Hid (wr.heap[w.heap.size]? = some (.cells #[.int .i64 4, .int .i64 p, .string ⟨nm.toArray⟩, .int .i64 iv, .slice q1 ns.length c1, .slice q2 xs.length c2, .slice q3 al.length c3] 38 (0, 0))) ∧ Hid (Below w.heap.size w wr)) (fun _ i _ => xs.length - (intOf i).toNat)
   case atStart => exact ⟨0, rfl, Nat.zero_le _, rfl, EN, HB0⟩
   case round =>
    clear EN HB0
    obtain ⟨k, rfl, hk, rfl, EN, HB⟩ := hrel
    have hs := HB.out.size
    by_cases hlt : k < xs.length
    · obtain ⟨t, ht⟩ : ∃ t, xs[k]? = some t := ⟨_, List.getElem?_eq_getElem hlt⟩
      rcases HXS.out with ⟨h, _⟩ | ⟨g, o, c', hv, h1, h2, h3'⟩
      · rw [h] at hlt; simp at hlt
      injection hv with hq _ hc
      subst hq; subst hc
      obtain ⟨u, hu, hus, huc⟩ := h3' k t ht
      obtain ⟨xk, xp, xi, xs', r1, n1, d1, r2, n2, d2, r3, n3, d3, rfl⟩ := exprAt_form f _ _ _ hu
      have up : ∀ q z, w.cell? ⟨g, q, none⟩ = some z → wr.cell? ⟨g, q, none⟩ = some z := fun q z hz => (HB.out.cell (World.block_lt_of_cell? w _ hz)).trans hz
      have c0 := up _ _ (huc 0 _ rfl); have c1' := up _ _ (huc 1 _ rfl); have c2' := up _ _ (huc 2 _ rfl); have c3' := up _ _ (huc 3 _ rfl); have c4 := up _ _ (huc 4 _ rfl); have c5 := up _ _ (huc 5 _ rfl); have c6 := up _ _ (huc 6 _ rfl)
      rw [Nat.add_zero] at c0
      have hal1 : Below wr.heap.size wr (wr.alloc (.cells #[.int .i64 xk, .int .i64 xp, .string xs', .int .i64 xi, .slice r1 n1 d1, .slice r2 n2 d2, .slice r3 n3 d3] 38)) := (Below.refl _ _).alloc (Nat.le_refl _) _
      have HC := Lib.hid (IH.out _ t _ (exprAt_below hu (HB.out.trans (hal1.mono hs))) (HW.out.1 t (List.mem_of_getElem? ht)))
      have HB2 := Lib.hid (HB.out.trans (hal1.mono hs))
      have EN1 := Lib.hid (ent_alloc EN.out (.cells #[.int .i64 xk, .int .i64 xp, .string xs', .int .i64 xi, .slice r1 n1 d1, .slice r2 n2 d2, .slice r3 n3 d3] 38))
      clear h3' huc hu hus ht up hal1
      go_wp2_with fail
      refine HC.out.mono ?_
      rintro e w2 ⟨rfl, hb2⟩
      have HB3 := Lib.hid (HB2.out.trans (hb2.mono HB2.out.size))
      have EN3 := Lib.hid (ent_below EN1.out hb2)
      clear hb2 HC c0 c1' c2' c3' c4 c5 c6
      go_wp2_with fail
      go_roundw
      case rel =>
       first
        | exact ⟨k + 1, by go_num, by omega, rfl, EN3, HB3⟩
        | (refine ⟨_, _, _, _, _, _, _, _, _, _, _, _, ⟨k + 1, ?_, by omega, rfl, EN3, HB3⟩, rfl⟩; go_num)
        | (refine ⟨_, _, _, _, _, _, _, _, _, _, _, ⟨k + 1, ?_, by omega, rfl, EN3, HB3⟩, rfl⟩; go_num)
        | (refine ⟨_, _, _, _, _, _, _, _, _, _, _, _, _, ⟨k + 1, ?_, by omega, rfl, EN3, HB3⟩, rfl⟩; go_num)
        | (refine ⟨_, _, _, _, _, _, _, _, _, _, _, _, _, _, ⟨k + 1, ?_, by omega, rfl, EN3, HB3⟩, rfl⟩; go_num)
        | (refine ⟨_, _, _, _, _, _, _, _, _, _, ⟨k + 1, ?_, by omega, rfl, EN3, HB3⟩, rfl⟩; go_num)
      case measure => simp [intOf]; omega
    · obtain rfl : k = xs.length := by omega
      have e6 := ent_cell EN.out 6 _ rfl
      obtain ⟨W1, hW1⟩ : ∃ x, x = wr := ⟨wr, rfl⟩
      subst hW1
      go_wp2_with fail
      go_loopw [4, 84] (fun ok i wr => ∃ m : Nat, i = .int .i64 m ∧ m ≤ al.length ∧ ok = .bool true ∧ Hid (Below w.heap.size w wr)) (fun _ i _ => al.length - (intOf i).toNat)
      case atStart => exact ⟨0, rfl, Nat.zero_le _, rfl, HB⟩
      case round =>
       clear HB EN e6 hs
       obtain ⟨m, rfl, hm, rfl, HB⟩ := hrel
       have hs := HB.out.size
       by_cases hlt2 : m < al.length
       · obtain ⟨t, ht⟩ : ∃ t, al[m]? = some t := ⟨_, List.getElem?_eq_getElem hlt2⟩
         rcases HAL.out with ⟨h, _⟩ | ⟨g, o, c', hv, h1, h2, h3'⟩
         · rw [h] at hlt2; simp at hlt2
         injection hv with hq _ hc
         subst hq; subst hc
         obtain ⟨u, ⟨a0, a1, a2, a3, a4, b0, b1, b2, b3, b4, b5, b6, rfl, hpat, hexp⟩, _, huc⟩ := h3' m t ht
         obtain ⟨pk, pp, pi, ps, pq, pn, pcc, he1⟩ := patAt_form f _ _ _ hpat
         obtain ⟨xk, xp, xi, xs2, r1, n1, d1, r2, n2, d2, r3, n3, d3, he2⟩ := exprAt_form f _ _ _ hexp
         simp only [Value.agg.injEq, Array.mk.injEq, List.cons.injEq, and_true] at he1 he2
         obtain ⟨rfl, rfl, rfl, rfl, rfl⟩ := he1
         obtain ⟨rfl, rfl, rfl, rfl, rfl, rfl, rfl⟩ := he2
         have up : ∀ q z, w.cell? ⟨g, q, none⟩ = some z → wr.cell? ⟨g, q, none⟩ = some z := fun q z hz => (HB.out.cell (World.block_lt_of_cell? w _ hz)).trans hz
         have f0 := up _ _ (huc 0 _ rfl)
         have f1 := up _ _ (huc 1 _ rfl)
         have f2 := up _ _ (huc 2 _ rfl)
         have f3 := up _ _ (huc 3 _ rfl)
         have f4 := up _ _ (huc 4 _ rfl)
         have f5 := up _ _ (huc 5 _ rfl)
         have f6 := up _ _ (huc 6 _ rfl)
         have f7 := up _ _ (huc 7 _ rfl)
         have f8 := up _ _ (huc 8 _ rfl)
         have f9 := up _ _ (huc 9 _ rfl)
         have f10 := up _ _ (huc 10 _ rfl)
         have f11 := up _ _ (huc 11 _ rfl)
         rw [Nat.add_zero] at f0
         have hal1 : Below wr.heap.size wr (wr.alloc (.cells #[.int .i64 pk, .int .i64 pp, .string ps, .int .i64 pi, .slice pq pn pcc, .int .i64 xk, .int .i64 xp, .string xs2, .int .i64 xi, .slice r1 n1 d1, .slice r2 n2 d2, .slice r3 n3 d3] 51)) := (Below.refl _ _).alloc (Nat.le_refl _) _
         have HC := Lib.hid (IH.out _ t.2 _ (exprAt_below hexp (HB.out.trans (hal1.mono hs))) (HW.out.2 t (List.mem_of_getElem? ht)).2)
         have HB2 := Lib.hid (HB.out.trans (hal1.mono hs))
         clear h3' huc hpat hexp ht up hal1
         go_wp2_with fail
         refine HC.out.mono ?_
         rintro e w2 ⟨rfl, hb2⟩
         have HB3 := Lib.hid (HB2.out.trans (hb2.mono HB2.out.size))
         clear hb2 HC f0 f1 f2 f3 f4 f5 f6 f7 f8 f9 f10 f11
         go_wp2_with fail
         go_roundw
         case rel =>
          first
           | exact ⟨m + 1, by go_num, by omega, rfl, HB3⟩
           | (refine ⟨_, _, _, _, _, _, _, _, _, _, _, _, _, ⟨m + 1, ?_, by omega, rfl, HB3⟩, rfl⟩; go_num)
           | (refine ⟨_, _, _, _, _, _, _, _, _, _, _, _, ⟨m + 1, ?_, by omega, rfl, HB3⟩, rfl⟩; go_num)
           | (refine ⟨_, _, _, _, _, _, _, _, _, _, _, _, _, _, ⟨m + 1, ?_, by omega, rfl, HB3⟩, rfl⟩; go_num)
           | (refine ⟨_, _, _, _, _, _, _, _, _, _, _, _, _, _, _, ⟨m + 1, ?_, by omega, rfl, HB3⟩, rfl⟩; go_num)
           | (refine ⟨_, _, _, _, _, _, _, _, _, _, _, ⟨m + 1, ?_, by omega, rfl, HB3⟩, rfl⟩; go_num)
         case measure => simp [intOf]; omega
       · obtain rfl : m = al.length := by omega
         go_wp2_with fail
         go_ret
         exact ⟨rfl, HB.out⟩
 · obtain ⟨g1, g2⟩ := h5 rfl
   have g3 := List.length_pos_iff.2 g2
   have ha : ((xs.length : Int) == 1) = true := by simp; omega
   have hb : decide ((0 : Int) < (al.length : Int)) = true := by simp; omega
   clear h01 h3 h5 h4 h6 g1 g2
   go_wp2_with fail
   go_loopw [4, 71] (fun ok i wr => ∃ k : Nat, i = .int .i64 k ∧ k ≤ xs.length ∧ ok = .bool true ∧ Hid (wr.heap[w.heap.size]? = some (.cells #[.int .i64 5, .int .i64 p, .string ⟨nm.toArray⟩, .int .i64 iv, .slice q1 ns.length c1, .slice q2 xs.length c2, .slice q3 al.length c3] 38 (0, 0))) ∧ Hid (Below w.heap.size w wr)) (fun _ i _ => xs.length - (intOf i).toNat)
   case atStart => exact ⟨0, rfl, Nat.zero_le _, rfl, EN, HB0⟩
   case round =>
    clear EN HB0
    obtain ⟨k, rfl, hk, rfl, EN, HB⟩ := hrel
    have hs := HB.out.size
    by_cases hlt : k < xs.length
    · obtain ⟨t, ht⟩ : ∃ t, xs[k]? = some t := ⟨_, List.getElem?_eq_getElem hlt⟩
      rcases HXS.out with ⟨h, _⟩ | ⟨g, o, c', hv, h1, h2, h3'⟩
      · rw [h] at hlt; simp at hlt
      injection hv with hq _ hc
      subst hq; subst hc
      obtain ⟨u, hu, hus, huc⟩ := h3' k t ht
      obtain ⟨xk, xp, xi, xs', r1, n1, d1, r2, n2, d2, r3, n3, d3, rfl⟩ := exprAt_form f _ _ _ hu
      have up : ∀ q z, w.cell? ⟨g, q, none⟩ = some z → wr.cell? ⟨g, q, none⟩ = some z := fun q z hz => (HB.out.cell (World.block_lt_of_cell? w _ hz)).trans hz
      have c0 := up _ _ (huc 0 _ rfl); have c1' := up _ _ (huc 1 _ rfl); have c2' := up _ _ (huc 2 _ rfl); have c3' := up _ _ (huc 3 _ rfl); have c4 := up _ _ (huc 4 _ rfl); have c5 := up _ _ (huc 5 _ rfl); have c6 := up _ _ (huc 6 _ rfl)
      rw [Nat.add_zero] at c0
      have hal1 : Below wr.heap.size wr (wr.alloc (.cells #[.int .i64 xk, .int .i64 xp, .string xs', .int .i64 xi, .slice r1 n1 d1, .slice r2 n2 d2, .slice r3 n3 d3] 38)) := (Below.refl _ _).alloc (Nat.le_refl _) _
      have HC := Lib.hid (IH.out _ t _ (exprAt_below hu (HB.out.trans (hal1.mono hs))) (HW.out.1 t (List.mem_of_getElem? ht)))
      have HB2 := Lib.hid (HB.out.trans (hal1.mono hs))
      have EN1 := Lib.hid (ent_alloc EN.out (.cells #[.int .i64 xk, .int .i64 xp, .string xs', .int .i64 xi, .slice r1 n1 d1, .slice r2 n2 d2, .slice r3 n3 d3] 38))
      clear h3' huc hu hus ht up hal1
      go_wp2_with fail
      refine HC.out.mono ?_
      rintro e w2 ⟨rfl, hb2⟩
      have HB3 := Lib.hid (HB2.out.trans (hb2.mono HB2.out.size))
      have EN3 := Lib.hid (ent_below EN1.out hb2)
      clear hb2 HC c0 c1' c2' c3' c4 c5 c6
      go_wp2_with fail
      go_roundw
      case rel =>
       first
        | exact ⟨k + 1, by go_num, by omega, rfl, EN3, HB3⟩
        | (refine ⟨_, _, _, _, _, _, _, _, _, _, _, _, ⟨k + 1, ?_, by omega, rfl, EN3, HB3⟩, rfl⟩; go_num)
        | (refine ⟨_, _, _, _, _, _, _, _, _, _, _, ⟨k + 1, ?_, by omega, rfl, EN3, HB3⟩, rfl⟩; go_num)
        | (refine ⟨_, _, _, _, _, _, _, _, _, _, _, _, _, ⟨k + 1, ?_, by omega, rfl, EN3, HB3⟩, rfl⟩; go_num)
        | (refine ⟨_, _, _, _, _, _, _, _, _, _, _, _, _, _, ⟨k + 1, ?_, by omega, rfl, EN3, HB3⟩, rfl⟩; go_num)
        | (refine ⟨_, _, _, _, _, _, _, _, _, _, ⟨k + 1, ?_, by omega, rfl, EN3, HB3⟩, rfl⟩; go_num)
      case measure => simp [intOf]; omega
    · obtain rfl : k = xs.length := by omega
      have e6 := ent_cell EN.out 6 _ rfl
      obtain ⟨W1, hW1⟩ : ∃ x, x = wr := ⟨wr, rfl⟩
      subst hW1
      go_wp2_with fail
      go_loopw [4, 84] (fun ok i wr => ∃ m : Nat, i = .int .i64 m ∧ m ≤ al.length ∧ ok = .bool true ∧ Hid (Below w.heap.size w wr)) (fun _ i _ => al.length - (intOf i).toNat)
      case atStart => exact ⟨0, rfl, Nat.zero_le _, rfl, HB⟩
      case round =>
       clear HB EN e6 hs
       obtain ⟨m, rfl, hm, rfl, HB⟩ := hrel
       have hs := HB.out.size
       by_cases hlt2 : m < al.length
       · obtain ⟨t, ht⟩ : ∃ t, al[m]? = some t := ⟨_, List.getElem?_eq_getElem hlt2⟩
         rcases HAL.out with ⟨h, _⟩ | ⟨g, o, c', hv, h1, h2, h3'⟩
         · rw [h] at hlt2; simp at hlt2
         injection hv with hq _ hc
         subst hq; subst hc
         obtain ⟨u, ⟨a0, a1, a2, a3, a4, b0, b1, b2, b3, b4, b5, b6, rfl, hpat, hexp⟩, _, huc⟩ := h3' m t ht
         obtain ⟨pk, pp, pi, ps, pq, pn, pcc, he1⟩ := patAt_form f _ _ _ hpat
         obtain ⟨xk, xp, xi, xs2, r1, n1, d1, r2, n2, d2, r3, n3, d3, he2⟩ := exprAt_form f _ _ _ hexp
         simp only [Value.agg.injEq, Array.mk.injEq, List.cons.injEq, and_true] at he1 he2
         obtain ⟨rfl, rfl, rfl, rfl, rfl⟩ := he1
         obtain ⟨rfl, rfl, rfl, rfl, rfl, rfl, rfl⟩ := he2
         have up : ∀ q z, w.cell? ⟨g, q, none⟩ = some z → wr.cell? ⟨g, q, none⟩ = some z := fun q z hz => (HB.out.cell (World.block_lt_of_cell? w _ hz)).trans hz
         have f0 := up _ _ (huc 0 _ rfl)
         have f1 := up _ _ (huc 1 _ rfl)
         have f2 := up _ _ (huc 2 _ rfl)
         have f3 := up _ _ (huc 3 _ rfl)
         have f4 := up _ _ (huc 4 _ rfl)
         have f5 := up _ _ (huc 5 _ rfl)
         have f6 := up _ _ (huc 6 _ rfl)
         have f7 := up _ _ (huc 7 _ rfl)
         have f8 := up _ _ (huc 8 _ rfl)
         have f9 := up _ _ (huc 9 _ rfl)
         have f10 := up _ _ (huc 10 _ rfl)
         have f11 := up _ _ (huc 11 _ rfl)
         rw [Nat.add_zero] at f0
         have hal1 : Below wr.heap.size wr (wr.alloc (.cells #[.int .i64 pk, .int .i64 pp, .string ps, .int .i64 pi, .slice pq pn pcc, .int .i64 xk, .int .i64 xp, .string xs2, .int .i64 xi, .slice r1 n1 d1, .slice r2 n2 d2, .slice r3 n3 d3] 51)) := (Below.refl _ _).alloc (Nat.le_refl _) _
         have HC := Lib.hid (IH.out _ t.2 _ (exprAt_below hexp (HB.out.trans (hal1.mono hs))) (HW.out.2 t (List.mem_of_getElem? ht)).2)
         have HB2 := Lib.hid (HB.out.trans (hal1.mono hs))
         clear h3' huc hpat hexp ht up hal1
         go_wp2_with fail
         refine HC.out.mono ?_
         rintro e w2 ⟨rfl, hb2⟩
         have HB3 := Lib.hid (HB2.out.trans (hb2.mono HB2.out.size))
         clear hb2 HC f0 f1 f2 f3 f4 f5 f6 f7 f8 f9 f10 f11
         go_wp2_with fail
         go_roundw
         case rel =>
          first
           | exact ⟨m + 1, by go_num, by omega, rfl, HB3⟩
           | (refine ⟨_, _, _, _, _, _, _, _, _, _, _, _, _, ⟨m + 1, ?_, by omega, rfl, HB3⟩, rfl⟩; go_num)
           | (refine ⟨_, _, _, _, _, _, _, _, _, _, _, _, ⟨m + 1, ?_, by omega, rfl, HB3⟩, rfl⟩; go_num)
           | (refine ⟨_, _, _, _, _, _, _, _, _, _, _, _, _, _, ⟨m + 1, ?_, by omega, rfl, HB3⟩, rfl⟩; go_num)
           | (refine ⟨_, _, _, _, _, _, _, _, _, _, _, _, _, _, _, ⟨m + 1, ?_, by omega, rfl, HB3⟩, rfl⟩; go_num)
           | (refine ⟨_, _, _, _, _, _, _, _, _, _, _, ⟨m + 1, ?_, by omega, rfl, HB3⟩, rfl⟩; go_num)
         case measure => simp [intOf]; omega
       · obtain rfl : m = al.length := by omega
         go_wp2_with fail
         go_ret
         exact ⟨rfl, HB.out⟩
 · have g1 := h6 rfl
   have hb : decide ((1 : Int) < (xs.length : Int)) = true := by simp; omega
   clear h01 h3 h5 h4 h6
   go_wp2_with fail
   go_loopw [4, 71] (fun ok i wr => ∃ k : Nat, i = .int .i64 k ∧ k ≤ xs.length ∧ ok = .bool true ∧ Hid (wr.heap[w.heap.size]? = some (.cells #[.int .i64 6, .int .i64 p, .string ⟨nm.toArray⟩, .int .i64 iv, .slice q1 ns.length c1, .slice q2 xs.length c2, .slice q3 al.length c3] 38 (0, 0))) ∧ Hid (Below w.heap.size w wr)) (fun _ i _ => xs.length - (intOf i).toNat)
   case atStart => exact ⟨0, rfl, Nat.zero_le _, rfl, EN, HB0⟩
   case round =>
    clear EN HB0
    obtain ⟨k, rfl, hk, rfl, EN, HB⟩ := hrel
    have hs := HB.out.size
    by_cases hlt : k < xs.length
    · obtain ⟨t, ht⟩ : ∃ t, xs[k]? = some t := ⟨_, List.getElem?_eq_getElem hlt⟩
      rcases HXS.out with ⟨h, _⟩ | ⟨g, o, c', hv, h1, h2, h3'⟩
      · rw [h] at hlt; simp at hlt
      injection hv with hq _ hc
      subst hq; subst hc
      obtain ⟨u, hu, hus, huc⟩ := h3' k t ht
      obtain ⟨xk, xp, xi, xs', r1, n1, d1, r2, n2, d2, r3, n3, d3, rfl⟩ := exprAt_form f _ _ _ hu
      have up : ∀ q z, w.cell? ⟨g, q, none⟩ = some z → wr.cell? ⟨g, q, none⟩ = some z := fun q z hz => (HB.out.cell (World.block_lt_of_cell? w _ hz)).trans hz
      have c0 := up _ _ (huc 0 _ rfl); have c1' := up _ _ (huc 1 _ rfl); have c2' := up _ _ (huc 2 _ rfl); have c3' := up _ _ (huc 3 _ rfl); have c4 := up _ _ (huc 4 _ rfl); have c5 := up _ _ (huc 5 _ rfl); have c6 := up _ _ (huc 6 _ rfl)
      rw [Nat.add_zero] at c0
      have hal1 : Below wr.heap.size wr (wr.alloc (.cells #[.int .i64 xk, .int .i64 xp, .string xs', .int .i64 xi, .slice r1 n1 d1, .slice r2 n2 d2, .slice r3 n3 d3] 38)) := (Below.refl _ _).alloc (Nat.le_refl _) _
      have HC := Lib.hid (IH.out _ t _ (exprAt_below hu (HB.out.trans (hal1.mono hs))) (HW.out.1 t (List.mem_of_getElem? ht)))
      have HB2 := Lib.hid (HB.out.trans (hal1.mono hs))
      have EN1 := Lib.hid (ent_alloc EN.out (.cells #[.int .i64 xk, .int .i64 xp, .string xs', .int .i64 xi, .slice r1 n1 d1, .slice r2 n2 d2, .slice r3 n3 d3] 38))
      clear h3' huc hu hus ht up hal1
      go_wp2_with fail
      refine HC.out.mono ?_
      rintro e w2 ⟨rfl, hb2⟩
      have HB3 := Lib.hid (HB2.out.trans (hb2.mono HB2.out.size))
      have EN3 := Lib.hid (ent_below EN1.out hb2)
      clear hb2 HC c0 c1' c2' c3' c4 c5 c6
      go_wp2_with fail
      go_roundw
      case rel =>
       first
        | exact ⟨k + 1, by go_num, by omega, rfl, EN3, HB3⟩
        | (refine ⟨_, _, _, _, _, _, _, _, _, _, _, _, ⟨k + 1, ?_, by omega, rfl, EN3, HB3⟩, rfl⟩; go_num)
        | (refine ⟨_, _, _, _, _, _, _, _, _, _, _, ⟨k + 1, ?_, by omega, rfl, EN3, HB3⟩, rfl⟩; go_num)
        | (refine ⟨_, _, _, _, _, _, _, _, _, _, _, _, _, ⟨k + 1, ?_, by omega, rfl, EN3, HB3⟩, rfl⟩; go_num)
        | (refine ⟨_, _, _, _, _, _, _, _, _, _, _, _, _, _, ⟨k + 1, ?_, by omega, rfl, EN3, HB3⟩, rfl⟩; go_num)
        | (refine ⟨_, _, _, _, _, _, _, _, _, _, ⟨k + 1, ?_, by omega, rfl, EN3, HB3⟩, rfl⟩; go_num)
      case measure => simp [intOf]; omega
    · obtain rfl : k = xs.length := by omega
      have e6 := ent_cell EN.out 6 _ rfl
      obtain ⟨W1, hW1⟩ : ∃ x, x = wr := ⟨wr, rfl⟩
      subst hW1
      go_wp2_with fail
      go_loopw [4, 84] (fun ok i wr => ∃ m : Nat, i = .int .i64 m ∧ m ≤ al.length ∧ ok = .bool true ∧ Hid (Below w.heap.size w wr)) (fun _ i _ => al.length - (intOf i).toNat)
      case atStart => exact ⟨0, rfl, Nat.zero_le _, rfl, HB⟩
      case round =>
       clear HB EN e6 hs
       obtain ⟨m, rfl, hm, rfl, HB⟩ := hrel
       have hs := HB.out.size
       by_cases hlt2 : m < al.length
       · obtain ⟨t, ht⟩ : ∃ t, al[m]? = some t := ⟨_, List.getElem?_eq_getElem hlt2⟩
         rcases HAL.out with ⟨h, _⟩ | ⟨g, o, c', hv, h1, h2, h3'⟩
         · rw [h] at hlt2; simp at hlt2
         injection hv with hq _ hc
         subst hq; subst hc
         obtain ⟨u, ⟨a0, a1, a2, a3, a4, b0, b1, b2, b3, b4, b5, b6, rfl, hpat, hexp⟩, _, huc⟩ := h3' m t ht
         obtain ⟨pk, pp, pi, ps, pq, pn, pcc, he1⟩ := patAt_form f _ _ _ hpat
         obtain ⟨xk, xp, xi, xs2, r1, n1, d1, r2, n2, d2, r3, n3, d3, he2⟩ := exprAt_form f _ _ _ hexp
         simp only [Value.agg.injEq, Array.mk.injEq, List.cons.injEq, and_true] at he1 he2
         obtain ⟨rfl, rfl, rfl, rfl, rfl⟩ := he1
         obtain ⟨rfl, rfl, rfl, rfl, rfl, rfl, rfl⟩ := he2
         have up : ∀ q z, w.cell? ⟨g, q, none⟩ = some z → wr.cell? ⟨g, q, none⟩ = some z := fun q z hz => (HB.out.cell (World.block_lt_of_cell? w _ hz)).trans hz
         have f0 := up _ _ (huc 0 _ rfl)
         have f1 := up _ _ (huc 1 _ rfl)
         have f2 := up _ _ (huc 2 _ rfl)
         have f3 := up _ _ (huc 3 _ rfl)
         have f4 := up _ _ (huc 4 _ rfl)
         have f5 := up _ _ (huc 5 _ rfl)
         have f6 := up _ _ (huc 6 _ rfl)
         have f7 := up _ _ (huc 7 _ rfl)
         have f8 := up _ _ (huc 8 _ rfl)
         have f9 := up _ _ (huc 9 _ rfl)
         have f10 := up _ _ (huc 10 _ rfl)
         have f11 := up _ _ (huc 11 _ rfl)
         rw [Nat.add_zero] at f0
         have hal1 : Below wr.heap.size wr (wr.alloc (.cells #[.int .i64 pk, .int .i64 pp, .string ps, .int .i64 pi, .slice pq pn pcc, .int .i64 xk, .int .i64 xp, .string xs2, .int .i64 xi, .slice r1 n1 d1, .slice r2 n2 d2, .slice r3 n3 d3] 51)) := (Below.refl _ _).alloc (Nat.le_refl _) _
         have HC := Lib.hid (IH.out _ t.2 _ (exprAt_below hexp (HB.out.trans (hal1.mono hs))) (HW.out.2 t (List.mem_of_getElem? ht)).2)
         have HB2 := Lib.hid (HB.out.trans (hal1.mono hs))
         clear h3' huc hpat hexp ht up hal1
         go_wp2_with fail
         refine HC.out.mono ?_
         rintro e w2 ⟨rfl, hb2⟩
         have HB3 := Lib.hid (HB2.out.trans (hb2.mono HB2.out.size))
         clear hb2 HC f0 f1 f2 f3 f4 f5 f6 f7 f8 f9 f10 f11
         go_wp2_with fail
         go_roundw
         case rel =>
          first
           | exact ⟨m + 1, by go_num, by omega, rfl, HB3⟩
           | (refine ⟨_, _, _, _, _, _, _, _, _, _, _, _, _, ⟨m + 1, ?_, by omega, rfl, HB3⟩, rfl⟩; go_num)
           | (refine ⟨_, _, _, _, _, _, _, _, _, _, _, _, ⟨m + 1, ?_, by omega, rfl, HB3⟩, rfl⟩; go_num)
           | (refine ⟨_, _, _, _, _, _, _, _, _, _, _, _, _, _, ⟨m + 1, ?_, by omega, rfl, HB3⟩, rfl⟩; go_num)
           | (refine ⟨_, _, _, _, _, _, _, _, _, _, _, _, _, _, _, ⟨m + 1, ?_, by omega, rfl, HB3⟩, rfl⟩; go_num)
           | (refine ⟨_, _, _, _, _, _, _, _, _, _, _, ⟨m + 1, ?_, by omega, rfl, HB3⟩, rfl⟩; go_num)
         case measure => simp [intOf]; omega
       · obtain rfl : m = al.length := by omega
         go_wp2_with fail
         go_ret
         exact ⟨rfl, HB.out⟩
 · clear h01 h3 h5 h4 h6
   go_wp2_with fail
   go_loopw [4, 71] (fun ok i wr => ∃ k : Nat, i = .int .i64 k ∧ k ≤ xs.length ∧ ok = .bool true ∧ Hid (wr.heap[w.heap.size]? = some (.cells #[.int .i64 7, .int .i64 p, .string ⟨nm.toArray⟩, .int .i64 iv, .slice q1 ns.length c1, .slice q2 xs.length c2, .slice q3 al.length c3] 38 (0, 0))) ∧ Hid (Below w.heap.size w wr)) (fun _ i _ => xs.length - (intOf i).toNat)
   case atStart => exact ⟨0, rfl, Nat.zero_le _, rfl, EN, HB0⟩
   case round =>
    clear EN HB0
    obtain ⟨k, rfl, hk, rfl, EN, HB⟩ := hrel
    have hs := HB.out.size
    by_cases hlt : k < xs.length
    · obtain ⟨t, ht⟩ : ∃ t, xs[k]? = some t := ⟨_, List.getElem?_eq_getElem hlt⟩
      rcases HXS.out with ⟨h, _⟩ | ⟨g, o, c', hv, h1, h2, h3'⟩
      · rw [h] at hlt; simp at hlt
      injection hv with hq _ hc
      subst hq; subst hc
      obtain ⟨u, hu, hus, huc⟩ := h3' k t ht
      obtain ⟨xk, xp, xi, xs', r1, n1, d1, r2, n2, d2, r3, n3, d3, rfl⟩ := exprAt_form f _ _ _ hu
      have up : ∀ q z, w.cell? ⟨g, q, none⟩ = some z → wr.cell? ⟨g, q, none⟩ = some z := fun q z hz => (HB.out.cell (World.block_lt_of_cell? w _ hz)).trans hz
      have c0 := up _ _ (huc 0 _ rfl); have c1' := up _ _ (huc 1 _ rfl); have c2' := up _ _ (huc 2 _ rfl); have c3' := up _ _ (huc 3 _ rfl); have c4 := up _ _ (huc 4 _ rfl); have c5 := up _ _ (huc 5 _ rfl); have c6 := up _ _ (huc 6 _ rfl)
      rw [Nat.add_zero] at c0
      have hal1 : Below wr.heap.size wr (wr.alloc (.cells #[.int .i64 xk, .int .i64 xp, .string xs', .int .i64 xi, .slice r1 n1 d1, .slice r2 n2 d2, .slice r3 n3 d3] 38)) := (Below.refl _ _).alloc (Nat.le_refl _) _
      have HC := Lib.hid (IH.out _ t _ (exprAt_below hu (HB.out.trans (hal1.mono hs))) (HW.out.1 t (List.mem_of_getElem? ht)))
      have HB2 := Lib.hid (HB.out.trans (hal1.mono hs))
      have EN1 := Lib.hid (ent_alloc EN.out (.cells #[.int .i64 xk, .int .i64 xp, .string xs', .int .i64 xi, .slice r1 n1 d1, .slice r2 n2 d2, .slice r3 n3 d3] 38))
      clear h3' huc hu hus ht up hal1
      go_wp2_with fail
      refine HC.out.mono ?_
      rintro e w2 ⟨rfl, hb2⟩
      have HB3 := Lib.hid (HB2.out.trans (hb2.mono HB2.out.size))
      have EN3 := Lib.hid (ent_below EN1.out hb2)
      clear hb2 HC c0 c1' c2' c3' c4 c5 c6
      go_wp2_with fail
      go_roundw
      case rel =>
       first
        | exact ⟨k + 1, by go_num, by omega, rfl, EN3, HB3⟩
        | (refine ⟨_, _, _, _, _, _, _, _, _, _, _, _, ⟨k + 1, ?_, by omega, rfl, EN3, HB3⟩, rfl⟩; go_num)
        | (refine ⟨_, _, _, _, _, _, _, _, _, _, _, ⟨k + 1, ?_, by omega, rfl, EN3, HB3⟩, rfl⟩; go_num)
        | (refine ⟨_, _, _, _, _, _, _, _, _, _, _, _, _, ⟨k + 1, ?_, by omega, rfl, EN3, HB3⟩, rfl⟩; go_num)
        | (refine ⟨_, _, _, _, _, _, _, _, _, _, _, _, _, _, ⟨k + 1, ?_, by omega, rfl, EN3, HB3⟩, rfl⟩; go_num)
        | (refine ⟨_, _, _, _, _, _, _, _, _, _, ⟨k + 1, ?_, by omega, rfl, EN3, HB3⟩, rfl⟩; go_num)
      case measure => simp [intOf]; omega
    · obtain rfl : k = xs.length := by omega
      have e6 := ent_cell EN.out 6 _ rfl
      obtain ⟨W1, hW1⟩ : ∃ x, x = wr := ⟨wr, rfl⟩
      subst hW1
      go_wp2_with fail
      go_loopw [4, 84] (fun ok i wr => ∃ m : Nat, i = .int .i64 m ∧ m ≤ al.length ∧ ok = .bool true ∧ Hid (Below w.heap.size w wr)) (fun _ i _ => al.length - (intOf i).toNat)
      case atStart => exact ⟨0, rfl, Nat.zero_le _, rfl, HB⟩
      case round =>
       clear HB EN e6 hs
       obtain ⟨m, rfl, hm, rfl, HB⟩ := hrel
       have hs := HB.out.size
       by_cases hlt2 : m < al.length
       · obtain ⟨t, ht⟩ : ∃ t, al[m]? = some t := ⟨_, List.getElem?_eq_getElem hlt2⟩
         rcases HAL.out with ⟨h, _⟩ | ⟨g, o, c', hv, h1, h2, h3'⟩
         · rw [h] at hlt2; simp at hlt2
         injection hv with hq _ hc
         subst hq; subst hc
         obtain ⟨u, ⟨a0, a1, a2, a3, a4, b0, b1, b2, b3, b4, b5, b6, rfl, hpat, hexp⟩, _, huc⟩ := h3' m t ht
         obtain ⟨pk, pp, pi, ps, pq, pn, pcc, he1⟩ := patAt_form f _ _ _ hpat
         obtain ⟨xk, xp, xi, xs2, r1, n1, d1, r2, n2, d2, r3, n3, d3, he2⟩ := exprAt_form f _ _ _ hexp
         simp only [Value.agg.injEq, Array.mk.injEq, List.cons.injEq, and_true] at he1 he2
         obtain ⟨rfl, rfl, rfl, rfl, rfl⟩ := he1
         obtain ⟨rfl, rfl, rfl, rfl, rfl, rfl, rfl⟩ := he2
         have up : ∀ q z, w.cell? ⟨g, q, none⟩ = some z → wr.cell? ⟨g, q, none⟩ = some z := fun q z hz => (HB.out.cell (World.block_lt_of_cell? w _ hz)).trans hz
         have f0 := up _ _ (huc 0 _ rfl)
         have f1 := up _ _ (huc 1 _ rfl)
         have f2 := up _ _ (huc 2 _ rfl)
         have f3 := up _ _ (huc 3 _ rfl)
         have f4 := up _ _ (huc 4 _ rfl)
         have f5 := up _ _ (huc 5 _ rfl)
         have f6 := up _ _ (huc 6 _ rfl)
         have f7 := up _ _ (huc 7 _ rfl)
         have f8 := up _ _ (huc 8 _ rfl)
         have f9 := up _ _ (huc 9 _ rfl)
         have f10 := up _ _ (huc 10 _ rfl)
         have f11 := up _ _ (huc 11 _ rfl)
         rw [Nat.add_zero] at f0
         have hal1 : Below wr.heap.size wr (wr.alloc (.cells #[.int .i64 pk, .int .i64 pp, .string ps, .int .i64 pi, .slice pq pn pcc, .int .i64 xk, .int .i64 xp, .string xs2, .int .i64 xi, .slice r1 n1 d1, .slice r2 n2 d2, .slice r3 n3 d3] 51)) := (Below.refl _ _).alloc (Nat.le_refl _) _
         have HC := Lib.hid (IH.out _ t.2 _ (exprAt_below hexp (HB.out.trans (hal1.mono hs))) (HW.out.2 t (List.mem_of_getElem? ht)).2)
         have HB2 := Lib.hid (HB.out.trans (hal1.mono hs))
         clear h3' huc hpat hexp ht up hal1
         go_wp2_with fail
         refine HC.out.mono ?_
         rintro e w2 ⟨rfl, hb2⟩
         have HB3 := Lib.hid (HB2.out.trans (hb2.mono HB2.out.size))
         clear hb2 HC f0 f1 f2 f3 f4 f5 f6 f7 f8 f9 f10 f11
         go_wp2_with fail
         go_roundw
         case rel =>
          first
           | exact ⟨m + 1, by go_num, by omega, rfl, HB3⟩
           | (refine ⟨_, _, _, _, _, _, _, _, _, _, _, _, _, ⟨m + 1, ?_, by omega, rfl, HB3⟩, rfl⟩; go_num)
           | (refine ⟨_, _, _, _, _, _, _, _, _, _, _, _, ⟨m + 1, ?_, by omega, rfl, HB3⟩, rfl⟩; go_num)
           | (refine ⟨_, _, _, _, _, _, _, _, _, _, _, _, _, _, ⟨m + 1, ?_, by omega, rfl, HB3⟩, rfl⟩; go_num)
           | (refine ⟨_, _, _, _, _, _, _, _, _, _, _, _, _, _, _, ⟨m + 1, ?_, by omega, rfl, HB3⟩, rfl⟩; go_num)
           | (refine ⟨_, _, _, _, _, _, _, _, _, _, _, ⟨m + 1, ?_, by omega, rfl, HB3⟩, rfl⟩; go_num)
         case measure => simp [intOf]; omega
       · obtain rfl : m = al.length := by omega
         go_wp2_with fail
         go_ret
         exact ⟨rfl, HB.out⟩
theorem whole_any : ∀ f, WholeC f := by
 intro f
 induction f with
 | zero => intro v x w h; exact h.elim
 | succ f ih => exact whole_step f ih
end Go.Proofs.YtpkecbijhckllaaDoor
