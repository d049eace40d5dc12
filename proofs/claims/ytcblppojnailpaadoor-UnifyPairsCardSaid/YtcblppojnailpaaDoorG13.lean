/-
  Several texts in one: URCanon, ULTyp, UDom, ULawP, ULawW.
-/
import Derived.Test.YtcblppojnailpaaDoorG12
import Derived.Test.YtcblppojnailpaaDoorG07
import Derived.BigRegion
import Derived.Test.YtcblppojnailpaaDoorG11
import Derived.Test.YtcblppojnailpaaDoorG02
import Derived.Lib.ItoaLen
import Derived.Test.YtcblppojnailpaaDoorG10
import Derived.Test.YtcblppojnailpaaDoorG04
namespace Go.Proofs.YtcblppojnailpaaDoor
open Go Go.RowKit
set_option linter.unusedVariables false
set_option linter.unusedSimpArgs false
theorem sz_put_v (n b : Nat) (t : Ux.Ty) : (Ux.put n (.v b) t).sz = t.sz := by
 have h := Ux.put_ren n b (fun k => k) t
 rw [Ux.ren_id] at h
 rw [h, Ux.sz_ren]
theorem sz_goUp (M : Nat) (l : List Nat) (t : Ux.Ty) : ∀ k, (Ux.goUp M l k t).sz = t.sz
 | 0 => rfl
 | k + 1 => by rw [Ux.goUp, sz_put_v, sz_goUp M l t k]
theorem sz_goDown (M : Nat) (t : Ux.Ty) : ∀ k, (Ux.goDown M k t).sz = t.sz
 | 0 => rfl
 | k + 1 => by rw [Ux.goDown, sz_put_v, sz_goDown M t k]
/-- Each number of a list, in whatever world the list stands. -/
theorem nums_cell {u : World} {g of n c : Nat} {l : List Nat} {j x : Nat} (h : NumsR u (.slice (some ⟨g, of, none⟩) n c) l) (hj : l[j]? = some x) : u.cell? ⟨g, of + j, none⟩ = some (.int .i64 (x : Int)) := by
 rcases h with ⟨h0, _⟩ | ⟨g', of', c', hv, h1, h2, h3⟩
 · rw [h0] at hj; cases hj
 · injection hv with e1 e2 e3
   injection e1 with e1
   injection e1 with e4 e5 _
   subst e4; subst e5
   obtain ⟨z, hz, _, hc⟩ := h3 j x hj
   have := hc 0 (.int .i64 (x : Int)) (by rw [show z = .int .i64 (x : Int) from hz]; rfl)
   rwa [Nat.mul_one, Nat.add_zero] at this
theorem nums_some {u : World} {v : Value} {l : List Nat} (h : NumsR u v l) (hl : l ≠ []) : ∃ g of c, v = .slice (some ⟨g, of, none⟩) l.length c ∧ l.length ≤ c ∧ (c : Int) ≤ 9223372036854775807 := by
 rcases h with ⟨h0, _⟩ | ⟨g, of, c, hv, h1, h2, _⟩
 · exact absurd h0 hl
 · exact ⟨g, of, c, hv, h1, h2⟩
set_option maxHeartbeats 4000000 in
set_option maxRecDepth 100000 in
theorem refCanon_any (t : Ux.Ty) (v : Value) (w : World) (ht : TyP w v t) (hsz : t.sz ≤ 10000000000) (hv : ∀ n ∈ t.vs, n < 1000000) :
 Calls Tryd.prog 17 #[v] w (fun e w' => ∃ r, e = .returned r ∧ Below w.heap.size w w' ∧ TyP w' r (Ux.canon t)) := by
 obtain ⟨ki, si, qi, ni, ci, rfl⟩ := tyP_sh ht
 have HT := Lib.hid (tyP_hang ht 0 0)
 have HSZT := Lib.hid hsz
 have HCAN := Lib.hid (Ux.canon_put (M := 1099511627776) (t := t) (fun n hn => by have := hv n hn; omega) (by
  have := firsts_len t.vs []
  have h2 := vs_len t
  unfold Ux.varsT
  simp at this; omega))
 have HLEN : Hid ((Ux.varsT t).length ≤ 10000000000) := Lib.hid (by
  have := firsts_len t.vs []
  have h2 := vs_len t
  unfold Ux.varsT
  simp at this; omega)
 clear ht hv
 go_enter Tryd.func17, Tryd.ntmps17
 have ET := Lib.hid (ent_alloc (ent_new w #[.int .i64 ki, .string si, .slice qi ni ci] 30) (.cells #[.int .i64 0, .string ⟨#[]⟩, .slice none 0 0] 30))
 have ER := Lib.hid (ent_new (w.alloc (.cells #[.int .i64 ki, .string si, .slice qi ni ci] 30)) #[.int .i64 0, .string ⟨#[]⟩, .slice none 0 0] 30)
 have HB := Lib.hid (show Below w.heap.size w ((w.alloc (.cells #[.int .i64 ki, .string si, .slice qi ni ci] 30)).alloc (.cells #[.int .i64 0, .string ⟨#[]⟩, .slice none 0 0] 30)) from ((Below.refl _ _).alloc (Nat.le_refl _) _).alloc (by simp) _)
 have HS1 : Hid (((w.alloc (.cells #[.int .i64 ki, .string si, .slice qi ni ci] 30)).alloc (.cells #[.int .i64 0, .string ⟨#[]⟩, .slice none 0 0] 30)).heap.size = w.heap.size + 2) := Lib.hid (by simp)
 rw [show (w.alloc (.cells #[.int .i64 ki, .string si, .slice qi ni ci] 30)).heap.size = w.heap.size + 1 by simp] at ER
 go_upto_region 1 with fail
 generalize (w.alloc (.cells #[.int .i64 ki, .string si, .slice qi ni ci] 30)).alloc (.cells #[.int .i64 0, .string ⟨#[]⟩, .slice none 0 0] 30) = w1 at ET ER HB HS1 ⊢
 have t0 := ent_cell ET.out 0 _ rfl
 have t1 := ent_cell ET.out 1 _ rfl
 have t2 := ent_cell ET.out 2 _ rfl
 go_wp2_with fail
 refine (refVars_any t _ (.slice none 0 0) [] w.heap.size (w.heap.size + 2) w1 HB.out.size (by rw [HS1.out]; exact Nat.le_refl _) (HT.out w1 fun b hb => HB.out.block b (by omega)) (fun u _ => .inl ⟨rfl, _, _, rfl⟩) (by simp; omega)).mono ?_
 rintro e w2 ⟨rv, rfl, hb2, hh2⟩
 have hvt : Ux.firsts [] t.vs = Ux.varsT t := rfl
 rw [hvt] at hh2
 obtain ⟨l, hl⟩ : ∃ l, l = Ux.varsT t := ⟨_, rfl⟩
 rw [← hl] at hh2 HCAN HLEN
 obtain ⟨lp, lc, rfl⟩ := hh2.now.len
 obtain ⟨n0, hn0⟩ : ∃ n0, n0 = l.length := ⟨_, rfl⟩
 rw [← hn0] at hh2 HCAN HLEN ⊢
 obtain ⟨N2, hN2⟩ : ∃ N2, N2 = w2.heap.size := ⟨_, rfl⟩
 rw [← hN2] at hh2
 have HN0 := Lib.hid hn0
 have hN2s : w.heap.size + 2 ≤ w2.heap.size := by rw [← HS1.out]; exact hb2.size
 have HN := Lib.hid hh2
 replace ET := Lib.hid (ent_below ET.out hb2)
 replace ER := Lib.hid (ent_below ER.out hb2)
 replace HB := Lib.hid (HB.out.trans (hb2.mono HB.out.size))
 have HLO := Lib.hid (⟨Nat.le_refl _, hN2s, by rw [hN2]; exact Nat.le_refl _, hN2s⟩ : w.heap.size + 2 ≤ w.heap.size + 2 ∧ w.heap.size + 2 ≤ w2.heap.size ∧ N2 ≤ w2.heap.size ∧ w.heap.size + 2 ≤ w2.heap.size)
 have HTT := Lib.hid ((HT.out.same (w' := w2) fun b hb => HB.out.block b (by omega)).more (w.heap.size + 2) (w.heap.size + 2))
 clear hb2 hh2 hl hn0 hN2 hN2s hvt t0 t1 t2 HS1 HT
 go_wp2_with fail
 go_loopw [4] (fun i wr => ∃ (j : Nat) (a0 : Int) (a1 : ByteArray) (aq : Option Addr) (am ac lo hi : Nat), i = .int .i64 j ∧ j ≤ n0 ∧ Hid (wr.heap[w.heap.size]? = some (.cells #[.int .i64 a0, .string a1, .slice aq am ac] 30 (0, 0))) ∧ Hid (wr.heap[w.heap.size + 1]? = some (.cells #[.int .i64 0, .string ⟨#[]⟩, .slice none 0 0] 30 (0, 0))) ∧ Hid (w.heap.size + 2 ≤ lo ∧ hi ≤ wr.heap.size ∧ N2 ≤ wr.heap.size ∧ w.heap.size + 2 ≤ wr.heap.size) ∧ Hid (Hang TyP w.heap.size lo hi wr (.agg #[.int .i64 a0, .string a1, .slice aq am ac]) (Ux.goUp 1099511627776 l j t)) ∧ Hid (Hang NumsR w.heap.size (w.heap.size + 2) N2 wr (.slice lp n0 lc) l) ∧ Hid (Below w.heap.size w wr)) (fun i _ => n0 - (intOf i).toNat)
 case atStart => exact ⟨0, ki, si, qi, ni, ci, w.heap.size + 2, w.heap.size + 2, rfl, Nat.zero_le _, ET, ER, HLO, HTT, HN, HB⟩
 case round =>
  clear ET ER HLO HTT HN HB
  obtain ⟨j, a0, a1, aq, am, ac, lo, hi, rfl, hj, ET, ER, HLO, HTT, HN, HB⟩ := hrel
  by_cases hlt : j < n0
  · obtain ⟨x, hx⟩ : ∃ x, l[j]? = some x := ⟨_, List.getElem?_eq_getElem (by have := HN0.out; omega)⟩
    obtain ⟨g, of, lc', hlv, hlc, hlc2⟩ := nums_some HN.out.now (by intro e; rw [e] at hx; cases hx)
    injection hlv with e1 ex e2
    clear ex
    subst e1; subst e2
    rw [← HN0.out] at hlc
    have HNR := Lib.hid (fun (u : World) (h : ∀ b, b ≠ w.heap.size → b < wr.heap.size → u.heap[b]? = wr.heap[b]?) => nums_cell (HN.out u fun b hb => h b (by omega) (by have := HLO.out; omega)) hx)
    have HUP : Hid (Ux.put x (.v (1099511627776 + j)) (Ux.goUp 1099511627776 l j t) = Ux.goUp 1099511627776 l (j + 1) t) := Lib.hid (by
     rw [Ux.goUp]
     have : l.getD j 0 = x := by rw [List.getD_eq_getElem?_getD, hx]; rfl
     rw [this])
    have HSZ : Hid ((Ux.goUp 1099511627776 l j t).sz ≤ 50000000000) := Lib.hid (by rw [sz_goUp]; have := HSZT.out; omega)
    have hj1 : (j : Int) < (n0 : Int) := by omega
    have hj2 : (n0 : Int) ≤ (lc : Int) := by omega
    have hj3 : (j : Int) ≤ 10000000000 := by have := HLEN.out; omega
    have HWR : Hid (IntKind.i64.wrap (1099511627776 + (j : Int)) = 1099511627776 + (j : Int)) := Lib.hid (by simp [IntKind.wrap, IntKind.bits, IntKind.signed]; omega)
    clear hx
    go_wp2_with fail
    refine wp_region_held_drew (S := fun (u : World) => wr.heap.size ≤ u.heap.size ∧ ∀ b, b ≠ w.heap.size → b < wr.heap.size → u.heap[b]? = wr.heap[b]?) (by kernel_rfl) ⟨Nat.le_refl _, fun _ _ _ => rfl⟩ (fun hHeld => ?_)
    obtain ⟨wd, hwd⟩ : ∃ wd, wd = wr.drew := ⟨_, rfl⟩
    rw [← hwd] at hHeld ⊢
    have HWD := Lib.hid (show ∀ b, b ≠ w.heap.size → b < wr.heap.size → wd.heap[b]? = wr.heap[b]? from fun b _ _ => by rw [hwd]; rfl)
    have HWS := Lib.hid (show wd.heap.size = wr.heap.size by rw [hwd]; rfl)
    have ETD := Lib.hid (show wd.heap[w.heap.size]? = some (.cells #[.int .i64 a0, .string a1, .slice aq am ac] 30 (0, 0)) by rw [hwd]; exact ET.out)
    have HBD := Lib.hid (show Below w.heap.size w wd by rw [hwd]; exact HB.out.drew)
    have HTD := Lib.hid (show TyP wd (.agg #[.int .i64 a0, .string a1, .slice aq am ac]) (Ux.goUp 1099511627776 l j t) from HTT.out wd fun b hb => by rw [hwd]; rfl)
    have HSW := Lib.hid (show w.heap.size + 2 ≤ wr.heap.size ∧ N2 ≤ wr.heap.size from ⟨HLO.out.2.2.2, HLO.out.2.2.1⟩)
    clear hwd
    refine wpAnyH_take (i := 1) (v := .slice (some ⟨g, of, none⟩) n0 lc) rfl (by kernel_rfl) (by kernel_rfl) (by kernel_rfl) (fun _ _ _ h => h) (Or.inl ⟨by rfl, fun w' hSw => by go_simp⟩) hHeld ?_
    refine wpAnyH_take (i := 2) (v := .int .i64 (j : Int)) rfl (by kernel_rfl) (by kernel_rfl) (by kernel_rfl) (fun _ _ _ h => h) (Or.inl ⟨by rfl, fun w' hSw => by go_simp⟩) hHeld ?_
    refine wpAnyH_take (i := 3) (v := .pointer (some ⟨g, of + j, none⟩)) rfl (by kernel_rfl) (by kernel_rfl) (by kernel_rfl) (fun _ _ _ h => h) (Or.inl ⟨by rfl, fun w' hSw => by have h1 := hj1; have h2 := hj2; go_simp⟩) hHeld ?_
    refine wpAnyH_take (i := 4) (v := .int .i64 (x : Int)) rfl (by kernel_rfl) (by kernel_rfl) (by kernel_rfl) (fun _ _ _ h => h) (Or.inl ⟨by rfl, fun w' hSw => by have h := HNR.out w' hSw.2; go_simp⟩) hHeld ?_
    refine wpAnyH_take (i := 5) (v := .int .i64 (j : Int)) rfl (by kernel_rfl) (by kernel_rfl) (by kernel_rfl) (fun _ _ _ h => h) (Or.inl ⟨by rfl, fun w' hSw => by go_simp⟩) hHeld ?_
    refine wpAnyH_take (i := 6) (v := .int .i64 (1099511627776 + (j : Int))) rfl (by kernel_rfl) (by kernel_rfl) (by kernel_rfl) (fun _ _ _ h => h) (Or.inl ⟨by rfl, fun w' hSw => by have h1 := HWR.out; go_simp⟩) hHeld ?_
    refine wpAnyH_take (i := 7) (v := .agg #[.int .i64 (1099511627776 + (j : Int)), .string ⟨#[]⟩, .slice none 0 0]) rfl (by kernel_rfl) (by kernel_rfl) (by kernel_rfl) (fun _ _ _ h => h) (Or.inl ⟨by rfl, fun w' hSw => by go_simp⟩) hHeld ?_
    try simp only [Act.put, List.getElem_toArray, List.getElem_cons_succ, List.getElem_cons_zero, List.setIfInBounds_toArray, List.set_cons_zero, List.set_cons_succ]
    refine wpAnyH_ready (rs := [0]) (by kernel_rfl) (by simp) ?_
    refine AllReadyH.cons rfl (fun K hK => ?_) AllReadyH.nil
    have t0 := ent_cell ETD.out 0 _ rfl
    have t1 := ent_cell ETD.out 1 _ rfl
    have t2 := ent_cell ETD.out 2 _ rfl
    go_simp
    refine hK.out _ _ ⟨by rw [HWS.out]; exact Nat.le_refl _, HWD.out⟩ (fun hHeld => ?_)
    clear t0 t1 t2
    clear hK K
    refine wpAnyH_ready (rs := [8]) (by kernel_rfl) (by simp) ?_
    refine AllReadyH.cons rfl (fun K hK => ?_) AllReadyH.nil
    go_simp
    refine (put_any _ _ _ (.v (1099511627776 + j)) x w.heap.size wd HBD.out.size HTD.out (fun u _ => tyP_v.2 ⟨_, _, _, _, by rw [show ((1099511627776 + j : Nat) : Int) = 1099511627776 + (j : Int) by omega]⟩) HSZ.out).mono ?_
    rintro e w5 ⟨rv, rfl, hb5, hh5⟩
    obtain ⟨c0, c1, rq, rn, rc, rfl⟩ := tyP_sh hh5.now
    have HB5 := Lib.hid (HBD.out.trans (hb5.mono HBD.out.size))
    have HH5 := Lib.hid hh5
    have HD5 := Lib.hid hb5
    have ET5 := Lib.hid (ent_below ETD.out hb5)
    clear hb5 hh5
    refine hK.out _ _ ⟨by have := HD5.out.size; rw [HWS.out] at this; exact this, fun b hb hl => (HD5.out.block b (by rw [HWS.out]; exact hl)).trans (HWD.out b hb hl)⟩ (fun hHeld => ?_)
    clear hK K
    refine wpAnyH_ready (rs := [9]) (by kernel_rfl) (by simp) ?_
    refine AllReadyH.cons rfl (fun K hK => ?_) AllReadyH.nil
    have t0 := ent_cell ET5.out 0 _ rfl
    have t1 := ent_cell ET5.out 1 _ rfl
    have t2 := ent_cell ET5.out 2 _ rfl
    have tf := ent_free ET5.out
    go_simp
    clear t0 t1 t2 tf
    have HK7 : Hid (∀ b, b ≠ w.heap.size → (((w5.setCell ⟨w.heap.size, 0, none⟩ (.int .i64 c0)).setCell ⟨w.heap.size, 1, none⟩ (.string c1)).setCell ⟨w.heap.size, 2, none⟩ (.slice rq rn rc)).heap[b]? = w5.heap[b]?) := Lib.hid (fun b hb => ((Below.heap_setCell _ ⟨w.heap.size, 2, none⟩ _ b hb).trans (Below.heap_setCell _ ⟨w.heap.size, 1, none⟩ _ b hb)).trans (Below.heap_setCell _ ⟨w.heap.size, 0, none⟩ _ b hb))
    refine hK.out _ _ ⟨by have := HD5.out.size; rw [HWS.out] at this; simpa using this, fun b hb hl => (HK7.out b hb).trans ((HD5.out.block b (by rw [HWS.out]; exact hl)).trans (HWD.out b hb hl))⟩ (fun hHeld => ?_)
    clear hK K
    refine wpAnyH_done (by kernel_rfl) ?_ _
    have ET7 := Lib.hid (ent_set3 ET5.out (.int .i64 c0) (.string c1) (.slice rq rn rc))
    have HB7 := Lib.hid (below_set3 HB5.out w.heap.size (Nat.le_refl _) (.int .i64 c0) (.string c1) (.slice rq rn rc))
    have HZ7 : Hid ((((w5.setCell ⟨w.heap.size, 0, none⟩ (.int .i64 c0)).setCell ⟨w.heap.size, 1, none⟩ (.string c1)).setCell ⟨w.heap.size, 2, none⟩ (.slice rq rn rc)).heap.size = w5.heap.size) := Lib.hid (by simp)
    have HX7 := Lib.hid (HH5.out.same fun b hb => HK7.out b (by have := HWS.out; have := HSW.out; omega))
    have ER7 := Lib.hid ((HK7.out (w.heap.size + 1) (by omega)).trans (ent_below (w := wd) (by have := HSW.out; rw [HWD.out (w.heap.size + 1) (by omega) (by omega)]; exact ER.out) HD5.out))
    have HN7 := Lib.hid (HN.out.same fun b hb => ((HK7.out b (by omega)).trans (HD5.out.block b (by have := HWS.out; have := HSW.out; omega))).trans (HWD.out b (by omega) (by have := HSW.out; omega)))
    generalize ((w5.setCell ⟨w.heap.size, 0, none⟩ (.int .i64 c0)).setCell ⟨w.heap.size, 1, none⟩ (.string c1)).setCell ⟨w.heap.size, 2, none⟩ (.slice rq rn rc) = w7 at *
    go_wp2_with fail
    go_roundw
    case rel => exact ⟨j + 1, c0, c1, rq, rn, rc, wd.heap.size, w5.heap.size, by go_num, by omega, ET7, ER7, Lib.hid ⟨by have := HWS.out; have := HSW.out; omega, by rw [HZ7.out]; exact Nat.le_refl _, by have := HD5.out.size; have := HWS.out; have := HSW.out; rw [HZ7.out]; omega, by have := HD5.out.size; have := HWS.out; have := HSW.out; rw [HZ7.out]; omega⟩, Lib.hid (by rw [← HUP.out]; exact HX7.out), HN7, HB7⟩
    case measure => simp [intOf]; omega
  · obtain ⟨n1, hn1⟩ : ∃ n1, n1 = n0 := ⟨_, rfl⟩
    obtain rfl : j = n0 := by omega
    subst hn1
    have HSZ0 := Lib.hid (show (Ux.goUp 1099511627776 l n1 t).sz ≤ 50000000000 by rw [sz_goUp]; have := HSZT.out; omega)
    clear hj hlt
    go_wp2_with fail
    go_loopw [5] (fun i wr => ∃ (j : Nat) (a0 : Int) (a1 : ByteArray) (aq : Option Addr) (am ac lo hi : Nat), i = .int .i64 j ∧ j ≤ n1 ∧ Hid (wr.heap[w.heap.size]? = some (.cells #[.int .i64 a0, .string a1, .slice aq am ac] 30 (0, 0))) ∧ Hid (wr.heap[w.heap.size + 1]? = some (.cells #[.int .i64 0, .string ⟨#[]⟩, .slice none 0 0] 30 (0, 0))) ∧ Hid (w.heap.size + 2 ≤ lo ∧ hi ≤ wr.heap.size ∧ N2 ≤ wr.heap.size ∧ w.heap.size + 2 ≤ wr.heap.size) ∧ Hid (Hang TyP w.heap.size lo hi wr (.agg #[.int .i64 a0, .string a1, .slice aq am ac]) (Ux.goDown 1099511627776 j (Ux.goUp 1099511627776 l n1 t))) ∧ Hid (Hang NumsR w.heap.size (w.heap.size + 2) N2 wr (.slice lp n1 lc) l) ∧ Hid (Below w.heap.size w wr)) (fun i _ => n1 - (intOf i).toNat)
    case atStart => exact ⟨0, a0, a1, aq, am, ac, lo, hi, rfl, Nat.zero_le _, ET, ER, HLO, HTT, HN, HB⟩
    case round =>
     clear ET ER HLO HTT HN HB
     obtain ⟨j, a0, a1, aq, am, ac, lo, hi, rfl, hj, ET, ER, HLO, HTT, HN, HB⟩ := hrel
     have t0 := ent_cell ET.out 0 _ rfl
     have t1 := ent_cell ET.out 1 _ rfl
     have t2 := ent_cell ET.out 2 _ rfl
     by_cases hlt : j < n1
     · have HWR : Hid (IntKind.i64.wrap (1099511627776 + (j : Int)) = 1099511627776 + (j : Int)) := Lib.hid (by have := HLEN.out; simp [IntKind.wrap, IntKind.bits, IntKind.signed]; omega)
       have hwr := HWR.out
       have hj3 : (j : Int) ≤ 10000000000 := by have := HLEN.out; omega
       have hj1 : (j : Int) < (n1 : Int) := by omega
       have HSZ : Hid ((Ux.goDown 1099511627776 j (Ux.goUp 1099511627776 l n1 t)).sz ≤ 50000000000) := Lib.hid (by rw [sz_goDown]; exact HSZ0.out)
       have HSW := Lib.hid (show w.heap.size + 2 ≤ wr.heap.size ∧ N2 ≤ wr.heap.size from ⟨HLO.out.2.2.2, HLO.out.2.2.1⟩)
       go_wp2_with fail
       rw [show (1099511627776 + (j : Int)) = ((1099511627776 + j : Nat) : Int) by omega]
       clear t0 t1 t2 hwr
       refine (put_any _ _ _ (.v j) (1099511627776 + j) w.heap.size wr HB.out.size (HTT.out.now) (fun u _ => tyP_v.2 ⟨_, _, _, _, rfl⟩) HSZ.out).mono ?_
       rintro e w5 ⟨rv, rfl, hb5, hh5⟩
       obtain ⟨c0, c1, rq, rn, rc, rfl⟩ := tyP_sh hh5.now
       have HB5 := Lib.hid (HB.out.trans (hb5.mono HB.out.size))
       have HH5 := Lib.hid hh5
       have HD5 := Lib.hid hb5
       have ET5 := Lib.hid (ent_below ET.out hb5)
       clear hb5 hh5
       have t0 := ent_cell ET5.out 0 _ rfl
       have t1 := ent_cell ET5.out 1 _ rfl
       have t2 := ent_cell ET5.out 2 _ rfl
       have tf := ent_free ET5.out
       go_wp2_with fail
       clear t0 t1 t2 tf
       have HK7 : Hid (∀ b, b ≠ w.heap.size → (((w5.setCell ⟨w.heap.size, 0, none⟩ (.int .i64 c0)).setCell ⟨w.heap.size, 1, none⟩ (.string c1)).setCell ⟨w.heap.size, 2, none⟩ (.slice rq rn rc)).heap[b]? = w5.heap[b]?) := Lib.hid (fun b hb => ((Below.heap_setCell _ ⟨w.heap.size, 2, none⟩ _ b hb).trans (Below.heap_setCell _ ⟨w.heap.size, 1, none⟩ _ b hb)).trans (Below.heap_setCell _ ⟨w.heap.size, 0, none⟩ _ b hb))
       have ET7 := Lib.hid (ent_set3 ET5.out (.int .i64 c0) (.string c1) (.slice rq rn rc))
       have HB7 := Lib.hid (below_set3 HB5.out w.heap.size (Nat.le_refl _) (.int .i64 c0) (.string c1) (.slice rq rn rc))
       have HZ7 : Hid ((((w5.setCell ⟨w.heap.size, 0, none⟩ (.int .i64 c0)).setCell ⟨w.heap.size, 1, none⟩ (.string c1)).setCell ⟨w.heap.size, 2, none⟩ (.slice rq rn rc)).heap.size = w5.heap.size) := Lib.hid (by simp)
       have HX7 := Lib.hid (HH5.out.same fun b hb => HK7.out b (by have := HSW.out; omega))
       have ER7 := Lib.hid ((HK7.out (w.heap.size + 1) (by omega)).trans (ent_below ER.out HD5.out))
       have HN7 := Lib.hid (HN.out.same fun b hb => (HK7.out b (by omega)).trans (HD5.out.block b (by have := HSW.out; omega)))
       generalize ((w5.setCell ⟨w.heap.size, 0, none⟩ (.int .i64 c0)).setCell ⟨w.heap.size, 1, none⟩ (.string c1)).setCell ⟨w.heap.size, 2, none⟩ (.slice rq rn rc) = w7 at *
       go_wp2_with fail
       go_roundw
       case rel => exact ⟨j + 1, c0, c1, rq, rn, rc, wr.heap.size, w5.heap.size, by go_num, by omega, ET7, ER7, Lib.hid ⟨by have := HSW.out; omega, by rw [HZ7.out]; exact Nat.le_refl _, by have := HD5.out.size; have := HSW.out; rw [HZ7.out]; omega, by have := HD5.out.size; have := HSW.out; rw [HZ7.out]; omega⟩, Lib.hid HX7.out, HN7, HB7⟩
       case measure => simp [intOf]; omega
     · obtain ⟨n2, hn2⟩ : ∃ n2, n2 = n1 := ⟨_, rfl⟩
       obtain rfl : j = n1 := by omega
       clear hn2
       have r0 := ent_cell ER.out 0 _ rfl
       have r1 := ent_cell ER.out 1 _ rfl
       have r2 := ent_cell ER.out 2 _ rfl
       have rf := ent_free ER.out
       go_wp2_with fail
       clear t0 t1 t2 r0 r1 r2 rf
       have HB8 := Lib.hid (below_set3 HB.out (w.heap.size + 1) (by omega) (.int .i64 a0) (.string a1) (.slice aq am ac))
       have ER8 := Lib.hid (ent_set3 ER.out (.int .i64 a0) (.string a1) (.slice aq am ac))
       have HK8 : Hid (∀ b, b ≠ w.heap.size + 1 → (((wr.setCell ⟨w.heap.size + 1, 0, none⟩ (.int .i64 a0)).setCell ⟨w.heap.size + 1, 1, none⟩ (.string a1)).setCell ⟨w.heap.size + 1, 2, none⟩ (.slice aq am ac)).heap[b]? = wr.heap[b]?) :=
        Lib.hid (fun b hb => ((Below.heap_setCell _ ⟨w.heap.size + 1, 2, none⟩ _ b hb).trans (Below.heap_setCell _ ⟨w.heap.size + 1, 1, none⟩ _ b hb)).trans (Below.heap_setCell _ ⟨w.heap.size + 1, 0, none⟩ _ b hb))
       generalize ((wr.setCell ⟨w.heap.size + 1, 0, none⟩ (.int .i64 a0)).setCell ⟨w.heap.size + 1, 1, none⟩ (.string a1)).setCell ⟨w.heap.size + 1, 2, none⟩ (.slice aq am ac) = w8 at HB8 ER8 HK8 ⊢
       have r0 := ent_cell ER8.out 0 _ rfl
       have r1 := ent_cell ER8.out 1 _ rfl
       have r2 := ent_cell ER8.out 2 _ rfl
       refine bodyPost_ret (v := .agg #[.int .i64 a0, .string a1, .slice aq am ac]) (by simp [results, Tryd.results17, go_sem, r0, r1, r2]) rfl ?_
       refine ⟨_, rfl, HB8.out, ?_⟩
       rw [← HCAN.out]
       exact (HTT.out.same fun b hb => HK8.out b (by have := HLO.out; omega)).now
end Go.Proofs.YtcblppojnailpaaDoor
namespace Go.Proofs.YtcblppojnailpaaDoor
open Go Go.RowKit
set_option linter.unusedVariables false
set_option linter.unusedSimpArgs false
/-- A node in memory. -/
def NodV (u : Value) (x : Ux.Nod) : Prop := u = .agg #[.int .i8 x.var, .int .u8 (x.name : Int), .int .u8 (x.args : Int)] ∧ -128 ≤ x.var ∧ x.var ≤ 127 ∧ x.name ≤ 255 ∧ x.args ≤ 255
def namesC : Array Value := #[.string ⟨#[73, 110, 116]⟩, .string ⟨#[76, 105, 115, 116]⟩, .string ⟨#[45, 62]⟩, .string ⟨#[80, 97, 105, 114]⟩]
theorem names_at (k : Nat) : namesC[k % 4]? = some (.string ⟨(Ux.nameOf k).toArray⟩) := by
 have h : k % 4 < 4 := Nat.mod_lt _ (by decide)
 unfold Ux.nameOf
 generalize k % 4 = j at h ⊢
 match j, h with
 | 0, _ => rfl
 | 1, _ => rfl
 | 2, _ => rfl
 | 3, _ => rfl
theorem zero_new (w w' : World) : New TyP w w' (.agg #[.int .i64 0, .string ⟨#[]⟩, .slice none 0 0]) (.v 0) := fun u _ => tyP_v.2 ⟨_, _, _, _, rfl⟩
theorem rowAt_drop {α : Type} {sz g o n c a : Nat} {rep : Value → α → Prop} {w : World} {xs : List α} (h : RowAt sz rep w (.slice (some ⟨g, o, none⟩) n c) xs) (ha : a ≤ xs.length) :
 RowAt sz rep w (.slice (some ⟨g, o + a * sz, none⟩) (n - a) (c - a)) (xs.drop a) := by
 rcases h with ⟨rfl, q, c', h⟩ | ⟨g', o', c', hv, h1, h2, h3⟩
 · injection h with _ h0 _
   subst h0
   exact .inl ⟨by simp, _, _, by rw [Nat.zero_sub]⟩
 · injection hv with e1 e2 e3
   injection e1 with e1
   injection e1 with e4 e5 _
   subst e2; subst e3; subst e4; subst e5
   refine .inr ⟨g, o + a * sz, c - a, by rw [List.length_drop], by rw [List.length_drop]; omega, by omega, fun i x hx => ?_⟩
   rw [List.getElem?_drop] at hx
   obtain ⟨u, hu, hs, hc⟩ := h3 (a + i) x hx
   exact ⟨u, hu, hs, fun j z hz => by have := hc j z hz; rwa [Nat.add_mul, ← Nat.add_assoc] at this⟩
theorem row_lo {α : Type} {sz lo : Nat} {rep : World → Value → α → Prop} {w : World} {E n : Nat} {v : Value} {vs : List Value} {xs : List α} (h : w.ownsRow lo E sz v n (cellsOf vs)) (hn : n = xs.length)
 (hr : Reps (Kept rep lo w v.ownBlock) vs xs) (hs : ∀ v ∈ vs, v.cells.size = sz) (u : World) (hu : ∀ b, lo ≤ b → b < w.heap.size → u.heap[b]? = w.heap[b]?) : RowAt sz (rep u) u v xs := by
 subst hn
 rcases h.2 with ⟨rfl, hn⟩ | ⟨g, cap, cur, rfl, hb, hg, hc1, hc2, hc3, hc4⟩
 · exact .inl ⟨List.eq_nil_of_length_eq_zero hn, none, 0, rfl⟩
 · refine .inr ⟨g, 0, cap, rfl, hc1, by unfold maxLen at hc2; omega, fun i x hx => ?_⟩
   obtain ⟨y, hy, l1, hi, h0, h1, _, h3⟩ := hr.at hx
   refine ⟨y, h3 u fun b hb1 hb2 => hu b (by omega) (by omega), hs y (List.mem_of_getElem? hy), fun j z hz => ?_⟩
   have hcell := World.ownsRow.cells h (g := g) rfl (i * sz + j) z (cellsOf_at sz hs hy hz)
   have e : (⟨g, 0, none⟩ : Addr).add (i * sz + j) = ⟨g, 0 + i * sz + j, none⟩ := by unfold Addr.add; split <;> simp_all
   rw [e] at hcell
   have hlt : g < w.heap.size := (Array.getElem?_eq_some_iff.1 hg).1
   rw [World.cell?_of_block (w := w) (hu g hb hlt)]; exact hcell
set_option maxHeartbeats 4000000 in
set_option maxRecDepth 100000 in
theorem lawTyp_any : ∀ (f : Nat) (l : List Ux.Nod) (v : Value) (w : World), f ≤ 13 → RowAt 3 NodV w v l → l.length ≤ 1000000 →
 Calls Tryd.prog 11 #[v, .int .i64 (13 - (f : Int))] w fun e w' => ∃ tv, e = .returned (.tuple #[tv, .int .i64 ((Ux.typN f l).2 : Int)]) ∧ New TyP w w' tv (Ux.typN f l).1 ∧ Below w.heap.size w w' := by
 intro f
 induction f with
 | zero =>
   intro l v w hf hl hlen
   obtain ⟨q, c, rfl⟩ := hl.len
   have HL := Lib.hid hl
   clear hl
   have HR : Hid (Ux.typN 0 l = (.v 0, 0)) := Lib.hid rfl
   rw [HR.out]
   go_enter Tryd.func11, Tryd.ntmps11
   have EX := Lib.hid (ent_new w #[.int .i64 0, .string ⟨#[]⟩, .slice none 0 0] 30)
   have HB := Lib.hid (show Below w.heap.size w (w.alloc (.cells #[.int .i64 0, .string ⟨#[]⟩, .slice none 0 0] 30)) from (Below.refl _ _).alloc (Nat.le_refl _) _)
   have d0 : (13 : Int) - ((0 : Nat) : Int) = 13 := rfl
   rw [d0]
   go_upto_region 1 with fail
   generalize w.alloc (.cells #[.int .i64 0, .string ⟨#[]⟩, .slice none 0 0] 30) = wb at EX HB ⊢
   obtain ⟨N, hN⟩ : ∃ N, N = l.length := ⟨_, rfl⟩
   rw [← hN]
   clear hN hlen
   have efree := ent_free EX.out
   have ec0 := ent_cell EX.out 0 _ rfl
   have ec1 := ent_cell EX.out 1 _ rfl
   have ec2 := ent_cell EX.out 2 _ rfl
   have E5 := ent_set3 EX.out (.int .i64 0) (.string ⟨#[]⟩) (.slice none 0 0)
   have r0 := ent_cell E5 0 _ rfl
   have r1 := ent_cell E5 1 _ rfl
   have r2 := ent_cell E5 2 _ rfl
   have hb := below_set3 HB.out w.heap.size (Nat.le_refl _) (.int .i64 0) (.string ⟨#[]⟩) (.slice none 0 0)
   by_cases hz : N = 0
   · subst hz
     go_wp2_with fail
     refine bodyPost_ret (v := .tuple #[.agg #[.int .i64 0, .string ⟨#[]⟩, .slice none 0 0], .int .i64 0]) (by simp [results, Tryd.results11, go_sem, r0, r1, r2]) rfl ?_
     exact ⟨_, rfl, zero_new _ _, hb⟩
   · have l1 : ((N : Int) == 0) = false := by simp; omega
     go_wp2_with fail
     refine bodyPost_ret (v := .tuple #[.agg #[.int .i64 0, .string ⟨#[]⟩, .slice none 0 0], .int .i64 0]) (by simp [results, Tryd.results11, go_sem, r0, r1, r2]) rfl ?_
     exact ⟨_, rfl, zero_new _ _, hb⟩
 | succ f ih =>
   intro l v w hf hl hlen
   obtain ⟨i0, hi, hz0, hz1, hz2⟩ := infoParts infoTy
   have I := Lib.hid hi; have I0 := Lib.hid hz0; have I1 := Lib.hid hz1; have I2 := Lib.hid hz2
   clear hi hz0 hz1 hz2
   have IH := Lib.hid ih
   obtain ⟨q, c, rfl⟩ := hl.len
   have HL := Lib.hid hl
   clear hl ih
   obtain ⟨R, hR⟩ : ∃ R, R = Ux.typN (f + 1) l := ⟨_, rfl⟩
   rw [← hR]
   have HR := Lib.hid hR
   clear hR
   go_enter Tryd.func11, Tryd.ntmps11
   have EX := Lib.hid (ent_new w #[.int .i64 0, .string ⟨#[]⟩, .slice none 0 0] 30)
   have HB := Lib.hid (show Below w.heap.size w (w.alloc (.cells #[.int .i64 0, .string ⟨#[]⟩, .slice none 0 0] 30)) from (Below.refl _ _).alloc (Nat.le_refl _) _)
   have hsz : (w.alloc (.cells #[.int .i64 0, .string ⟨#[]⟩, .slice none 0 0] 30)).heap.size = w.heap.size + 1 := by simp
   go_upto_region 1 with fail
   generalize w.alloc (.cells #[.int .i64 0, .string ⟨#[]⟩, .slice none 0 0] 30) = wb at EX HB hsz ⊢
   have efree := ent_free EX.out
   have ec0 := ent_cell EX.out 0 _ rfl
   have ec1 := ent_cell EX.out 1 _ rfl
   have ec2 := ent_cell EX.out 2 _ rfl
   by_cases he : l = []
   · subst he
     have hE : R = (.v 0, 0) := by rw [HR.out, Ux.typN_nil]
     have l0 : ([] : List Ux.Nod).length = 0 := rfl
     rw [l0]
     have E5 := ent_set3 EX.out (.int .i64 0) (.string ⟨#[]⟩) (.slice none 0 0)
     have hb := below_set3 HB.out w.heap.size (Nat.le_refl _) (.int .i64 0) (.string ⟨#[]⟩) (.slice none 0 0)
     have r0 := ent_cell E5 0 _ rfl
     have r1 := ent_cell E5 1 _ rfl
     have r2 := ent_cell E5 2 _ rfl
     go_wp2_with fail
     refine bodyPost_ret (v := .tuple #[.agg #[.int .i64 0, .string ⟨#[]⟩, .slice none 0 0], .int .i64 0]) (by simp [results, Tryd.results11, go_sem, r0, r1, r2]) rfl ?_
     exact ⟨_, by rw [hE]; rfl, by rw [hE]; exact zero_new _ _, hb⟩
   have hpos := List.length_pos_iff.2 he
   obtain ⟨N, hN⟩ : ∃ N, N = l.length := ⟨_, rfl⟩
   rw [← hN] at hpos hlen ⊢
   have l1 : ((N : Int) == 0) = false := by simp; omega
   obtain ⟨D, hD⟩ : ∃ D : Int, D = 13 - ((f + 1 : Nat) : Int) := ⟨_, rfl⟩
   rw [← hD]
   have d1 : decide ((12 : Int) < D) = false := by simp; omega
   obtain ⟨n, r, rfl⟩ : ∃ n r, l = n :: r := List.exists_cons_of_ne_nil he
   rcases HL.out with ⟨h, _⟩ | ⟨g, o, c', hv, h1, h2, h3⟩
   · exact absurd h he
   injection hv with hq hn' hc
   subst hq; subst hc
   have h2' : (c : Int) ≤ 9223372036854775807 := h2
   obtain ⟨u, ⟨rfl, hok⟩, hus, huc⟩ := h3 0 n rfl
   have k1 : (0 : Int) < (N : Int) := by omega
   have k2 : (N : Int) ≤ (c : Int) := by omega
   have x0 := huc 0 (.int .i8 n.var) rfl
   have x1 := huc 1 (.int .u8 (n.name : Int)) rfl
   have x2 := huc 2 (.int .u8 (n.args : Int)) rfl
   rw [Nat.zero_mul, Nat.add_zero] at x0
   rw [Nat.zero_mul, Nat.add_zero] at x1
   rw [Nat.zero_mul, Nat.add_zero] at x2
   have HX := Lib.hid (fun (w' : World) (h : Below w.heap.size w w') => (⟨cell_up h x0, cell_up h x1, cell_up h x2⟩ : w'.cell? ⟨g, o, none⟩ = some (.int .i8 n.var) ∧ w'.cell? ⟨g, o + 1, none⟩ = some (.int .u8 (n.name : Int)) ∧ w'.cell? ⟨g, o + 2, none⟩ = some (.int .u8 (n.args : Int))))
   have HD := Lib.hid hD
   have HN := Lib.hid hN
   have HOK := Lib.hid hok
   clear h3 huc hus hD hN hok x0 x1 x2
   obtain ⟨x0, x1, x2⟩ := HX.out wb HB.out
   by_cases hvar : 0 ≤ n.var
   · have hE : R = (.v (n.var.toNat % 6), 1) := by rw [HR.out, Ux.typN_var _ _ _ hvar]
     have E5 := ent_set3 EX.out (.int .i64 (n.var % 6)) (.string ⟨#[]⟩) (.slice none 0 0)
     have hb := below_set3 HB.out w.heap.size (Nat.le_refl _) (.int .i64 (n.var % 6)) (.string ⟨#[]⟩) (.slice none 0 0)
     have r0 := ent_cell E5 0 _ rfl
     have r1 := ent_cell E5 1 _ rfl
     have r2 := ent_cell E5 2 _ rfl
     go_wp2_with fail
     refine bodyPost_ret (v := .tuple #[.agg #[.int .i64 (n.var % 6), .string ⟨#[]⟩, .slice none 0 0], .int .i64 1]) (by simp [results, Tryd.results11, go_sem, r0, r1, r2]) rfl ?_
     exact ⟨_, rfl, (fun u _ => tyP_v.2 ⟨_, _, _, _, by rw [show n.var % 6 = ((n.var.toNat % 6 : Nat) : Int) by omega]⟩), hb⟩
   · have hneg : n.var < 0 := by omega
     have hE := HR.out
     rw [Ux.typN_a _ _ _ hvar] at hE
     have HE := Lib.hid hE
     clear hE hvar
     obtain ⟨K, hK⟩ : ∃ K, K = n.name % 4 := ⟨_, rfl⟩
     have hK4 : K < 4 := by omega
     have hrem : (n.name : Int) % 4 = (K : Int) := by omega
     have hnm := names_at n.name
     rw [← hK] at hnm
     obtain ⟨NM, hNM⟩ : ∃ NM, NM = Ux.nameOf n.name := ⟨_, rfl⟩
     rw [← hNM] at hnm
     have HNM := Lib.hid hNM
     clear hK hNM
     go_upto_region 5 with fail
     have hcK : (wb.alloc (.cells #[.string ⟨#[73, 110, 116]⟩, .string ⟨#[76, 105, 115, 116]⟩, .string ⟨#[45, 62]⟩, .string ⟨#[80, 97, 105, 114]⟩] 9)).cell? ⟨wb.heap.size, K, none⟩ = some (.string ⟨NM.toArray⟩) := ent_cell (ent_new wb namesC 9) K _ hnm
     rw [hsz] at hcK
     have hbn := HB.out.alloc HB.out.size (.cells #[.string ⟨#[73, 110, 116]⟩, .string ⟨#[76, 105, 115, 116]⟩, .string ⟨#[45, 62]⟩, .string ⟨#[80, 97, 105, 114]⟩] 9)
     obtain ⟨x0n, x1n, x2n⟩ := HX.out _ hbn
     have hszn : (wb.alloc (.cells #[.string ⟨#[73, 110, 116]⟩, .string ⟨#[76, 105, 115, 116]⟩, .string ⟨#[45, 62]⟩, .string ⟨#[80, 97, 105, 114]⟩] 9)).heap.size = w.heap.size + 2 := by simp [hsz]
     have HBY := Lib.hid (hbn.alloc hbn.size (.cells #[.int .i64 0, .string ⟨#[]⟩, .slice none 0 0] 30))
     have HEY := ent_new (wb.alloc (.cells #[.string ⟨#[73, 110, 116]⟩, .string ⟨#[76, 105, 115, 116]⟩, .string ⟨#[45, 62]⟩, .string ⟨#[80, 97, 105, 114]⟩] 9)) #[.int .i64 0, .string ⟨#[]⟩, .slice none 0 0] 30
     rw [hszn] at HEY
     have y0 := ent_cell HEY 0 _ rfl
     have y1 := ent_cell HEY 1 _ rfl
     have y2 := ent_cell HEY 2 _ rfl
     have yf := ent_free HEY
     have HEX := Lib.hid (ent_alloc (ent_alloc EX.out (.cells #[.string ⟨#[73, 110, 116]⟩, .string ⟨#[76, 105, 115, 116]⟩, .string ⟨#[45, 62]⟩, .string ⟨#[80, 97, 105, 114]⟩] 9)) (.cells #[.int .i64 0, .string ⟨#[]⟩, .slice none 0 0] 30))
     have HSY : Hid (((wb.alloc (.cells #[.string ⟨#[73, 110, 116]⟩, .string ⟨#[76, 105, 115, 116]⟩, .string ⟨#[45, 62]⟩, .string ⟨#[80, 97, 105, 114]⟩] 9)).alloc (.cells #[.int .i64 0, .string ⟨#[]⟩, .slice none 0 0] 30)).heap.size = w.heap.size + 3) := Lib.hid (by simp [hsz])
     go_upto_region 7 with fail
     clear HBY HEY y0 y1 y2 yf HEX HSY hcK x0n x1n x2n x0 x1 x2 ec0 ec1 ec2 efree
     have HB' := Lib.hid (hbn.alloc hbn.size (.cells #[.int .i64 (-1), .string ⟨NM.toArray⟩, .slice none 0 0] 30))
     have EY := Lib.hid (ent_new (wb.alloc (.cells #[.string ⟨#[73, 110, 116]⟩, .string ⟨#[76, 105, 115, 116]⟩, .string ⟨#[45, 62]⟩, .string ⟨#[80, 97, 105, 114]⟩] 9)) #[.int .i64 (-1), .string ⟨NM.toArray⟩, .slice none 0 0] 30)
     rw [hszn] at EY
     have EX' := Lib.hid (ent_alloc (ent_alloc EX.out (.cells #[.string ⟨#[73, 110, 116]⟩, .string ⟨#[76, 105, 115, 116]⟩, .string ⟨#[45, 62]⟩, .string ⟨#[80, 97, 105, 114]⟩] 9)) (.cells #[.int .i64 (-1), .string ⟨NM.toArray⟩, .slice none 0 0] 30))
     clear hbn hszn HB EX hsz
     have HB := HB'; have EX := EX'
     clear HB' EX'
     generalize (wb.alloc (.cells #[.string ⟨#[73, 110, 116]⟩, .string ⟨#[76, 105, 115, 116]⟩, .string ⟨#[45, 62]⟩, .string ⟨#[80, 97, 105, 114]⟩] 9)).alloc (.cells #[.int .i64 (-1), .string ⟨NM.toArray⟩, .slice none 0 0] 30) = wf at HB EX EY ⊢
     obtain ⟨tb, htb⟩ : ∃ tb, tb = w.heap.size + 2 := ⟨_, rfl⟩
     rw [← htb] at EY ⊢
     have htb' : w.heap.size + 2 ≤ tb := by omega
     have HTB := Lib.hid htb
     clear htb
     obtain ⟨x0, x1, x2⟩ := HX.out wf HB.out
     obtain ⟨M, hM⟩ : ∃ M, M = n.args % 3 := ⟨_, rfl⟩
     have HM4 := Lib.hid (show M < 3 by omega)
     have HMi : Hid (((n.args : Nat) : Int) % 3 = (M : Int)) := Lib.hid (by omega)
     have HM := Lib.hid hM
     clear hM
     go_wp2_with fail
     rw [HMi.out]
     clear HMi x0 x1 x2 hrem hnm
     go_loopw [7, 45] (fun av i wr => ∃ (k at' : Nat) (p : Option Addr) (d : Nat) (vs : List Value), i = .int .i64 k ∧ k ≤ M ∧ av = .int .i64 at' ∧ Hid (at' = (Ux.kidsN (Ux.typN f) (n :: r) k).2) ∧ Hid (wr.heap[w.heap.size]? = some (.cells #[.int .i64 0, .string ⟨#[]⟩, .slice none 0 0] 30 (0, 0))) ∧ Hid (wr.heap[tb]? = some (.cells #[.int .i64 (-1), .string ⟨NM.toArray⟩, .slice p k d] 30 (0, 0))) ∧
      Hid (wr.ownsRow (tb + 1) 30 3 (.slice p k d) k (cellsOf vs)) ∧ Hid (Reps (Kept TyP (tb + 1) wr (Value.slice p k d).ownBlock) vs (Ux.kidsN (Ux.typN f) (n :: r) k).1) ∧ Hid (∀ v ∈ vs, v.cells.size = 3) ∧ Hid (Below w.heap.size w wr)) (fun _ i _ => M - (intOf i).toNat)
     case atStart => exact ⟨0, 1, none, 0, [], rfl, Nat.zero_le _, rfl, Lib.hid rfl, EX, EY, Lib.hid (own_none _ _ _ _ (by have := ent_lt EY.out; omega)), Lib.hid trivial, Lib.hid (by simp), HB⟩
     case round =>
      clear EX EY HB
      obtain ⟨k, a, p, d, vs, rfl, hk, rfl, HA, EX, EY, HO, HV, HC, HB⟩ := hrel
      have hle := Ux.kidsN_le (Ux.typN_le f) (n :: r) (by simp) k
      rw [← HA.out, ← HN.out] at hle
      have hDr : 0 ≤ D ∧ D ≤ 13 := by have := HD.out; omega
      by_cases hlt : k < M
      · have m1 : ((a : Int) ≤ (N : Int)) := by omega
        have m3 : min (a : Int) (N : Int) = (a : Int) := by omega
        have HL2 : Hid (∀ q, (q = ⟨g, o + a * 3, none⟩ ∨ c = a) → RowAt 3 NodV wr (.slice (some q) (N - a) (c - a)) ((n :: r).drop a)) := Lib.hid (by
         rintro q (rfl | hq)
         · have := HL.out; rw [← HN.out] at this
           exact (rowAt_drop this (by have := HN.out; omega)).mono HB.out (fun u x _ hu => hu)
         · have : N = a := by have := HN.out; omega
           exact .inl ⟨List.drop_of_length_le (by have := HN.out; omega), _, _, by rw [this, Nat.sub_self]⟩)
        have HL3 := Lib.hid (show ((n :: r).drop a).length ≤ 1000000 by rw [List.length_drop]; have := HN.out; omega)
        have HD1 := Lib.hid (show D + 1 = 13 - ((f : Nat) : Int) by have := HD.out; omega)
        by_cases hac : c = a
        · have HAC := Lib.hid hac
          have hac2 : a = c := hac.symm
          have hac3 : (a : Int) = (c : Int) := by omega
          have m3c : min (c : Int) (N : Int) = (c : Int) := by omega
          clear hac
          go_wp2_with fail
          rw [HD1.out]
          refine (IH.out ((n :: r).drop a) _ wr (by omega) (by have h := HL2.out ⟨g, o, none⟩ (.inr HAC.out); have e1 : c - a = 0 := (by omega); rw [e1] at h; first | exact h | (rw [hac2] at h; rw [hac2]; exact h)) HL3.out).mono ?_
          rintro e w2 ⟨tv, rfl, hnew, hb2⟩
          obtain ⟨ti, ts, q1, n1, c1, rfl⟩ := tyP_sh hnew.now
          have hct := Ux.typN_le f ((n :: r).drop a)
          rw [List.length_drop] at hct
          obtain ⟨ct, hctd⟩ : ∃ ct, ct = (Ux.typN f ((n :: r).drop a)).2 := ⟨_, rfl⟩
          rw [← hctd] at hct ⊢
          have HCT := Lib.hid hctd
          have HCB := Lib.hid (show a + ct ≤ N by have := HN.out; omega)
          have hty := ent_lt EY.out
          have HKN : Hid (Kept TyP (tb + 1) w2 (Value.slice p k d).ownBlock (.agg #[.int .i64 ti, .string ts, .slice q1 n1 c1]) (Ux.typN f ((n :: r).drop a)).1) := Lib.hid (hnew.kept hty (fun g hg => (HO.out.lt g hg).2))
          have HV2 : Hid (Reps (Kept TyP (tb + 1) w2 (Value.slice p k d).ownBlock) vs (Ux.kidsN (Ux.typN f) (n :: r) k).1) := Lib.hid (HV.out.mono fun v x h => h.below hb2)
          have EX2 := Lib.hid (ent_below EX.out hb2)
          have EY2 := Lib.hid (ent_below EY.out hb2)
          have HO2 := Lib.hid (own_kept HO.out hb2)
          have HB2 := Lib.hid (HB.out.trans (hb2.mono HB.out.size))
          clear EX EY HO HV HB hb2 hnew hctd hty
          go_upto_region 10 with fail
          have hba : Below w2.heap.size w2 (w2.alloc (.cells #[.int .i64 ti, .string ts, .slice q1 n1 c1] 30)) := (Below.refl _ _).alloc (Nat.le_refl _) _
          have ZX := Lib.hid (ent_new w2 #[.int .i64 ti, .string ts, .slice q1 n1 c1] 30)
          have EX := Lib.hid (ent_below EX2.out hba)
          have EY := Lib.hid (ent_below EY2.out hba)
          have HO := Lib.hid (own_kept HO2.out hba)
          have HB := Lib.hid (HB2.out.trans (hba.mono HB2.out.size))
          have HKA := Lib.hid (HKN.out.below hba)
          have HV : Hid (Reps (Kept TyP (tb + 1) (w2.alloc (.cells #[.int .i64 ti, .string ts, .slice q1 n1 c1] 30)) (Value.slice p k d).ownBlock) vs (Ux.kidsN (Ux.typN f) (n :: r) k).1) := Lib.hid (HV2.out.mono fun v x h => h.below hba)
          clear hba HKN HV2 EX2 EY2 HO2 HB2
          generalize w2.heap.size = xb at ZX ⊢
          generalize w2.alloc (.cells #[.int .i64 ti, .string ts, .slice q1 n1 c1] 30) = w3 at ZX EX EY HO HB HKA HV ⊢
          have y2 := ent_cell EY.out 2 (.slice p k d) rfl
          have z0 := ent_cell ZX.out 0 _ rfl
          have z1 := ent_cell ZX.out 1 _ rfl
          have z2 := ent_cell ZX.out 2 _ rfl
          have hM4 := HM4.out
          go_wp2_with (at_builtin; refine wpList_append_loc _ rfl (.tmp 60) (.tmp 62) 28 rfl (tb + 1) 30 i0 _ 3 48 Tryd.underlying28 I.out I0.out I1.out I2.out rfl (by decide) _ k _ rfl (HO.out.alloc _) ⟨w3.heap.size, 0, none⟩ 1 1 [.int .i64 ti, .string ts, .slice q1 n1 c1] rfl (by decide) rfl ?c1 ?c2 ?c3 ?c4 ?c5 ?_)
          case c1 => exact fun j u h => three_cells w3 _ _ _ _ j u h
          case c2 => simp [Value.oneCell']
          case c3 => unfold maxLen; omega
          case c4 => omega
          case c5 => have := ent_lt EY.out; simp; omega
          intro v' w' h1 h2 h3
          have hty := ent_lt EY.out
          have hby : Below w3.heap.size w3 (w3.alloc (.cells #[.int .i64 ti, .string ts, .slice q1 n1 c1] 30)) := (Below.refl _ _).alloc (Nat.le_refl _) _
          have hbw : Below w.heap.size w w' := (HB.out.trans (hby.mono HB.out.size)).grown h2 (by have := HB.out.size; simp; omega) (fun j hj => by have := (HO.out.lt j hj).1; omega)
          have hey : w'.heap[tb]? = some (.cells #[.int .i64 (-1), .string ⟨NM.toArray⟩, .slice p k d] 30 (0, 0)) :=
           (h2.block tb (by simp; omega) (fun e => by have := (HO.out.lt _ e.symm).1; omega)).trans (ent_below EY.out hby)
          have hex : w'.heap[w.heap.size]? = some (.cells #[.int .i64 0, .string ⟨#[]⟩, .slice none 0 0] 30 (0, 0)) :=
           (h2.block w.heap.size (by simp; omega) (fun e => by have := (HO.out.lt _ e.symm).1; omega)).trans (ent_below EX.out hby)
          have hkall : ∀ {v : Value} {x : Ux.Ty}, Kept TyP (tb + 1) w3 (Value.slice p k d).ownBlock v x → Kept TyP (tb + 1) w' v'.ownBlock v x := fun h =>
           (h.below hby).step h2.size (fun b hb hne => h2.block b hb (fun e => hne e.symm)) (h3.imp id fun h g hg => by have := h g hg; simp at this ⊢; omega)
          obtain ⟨p7, d7, rfl⟩ := own_slice h1
          have hne : (Value.slice p7 (k + 1) d7).ownBlock ≠ some tb := fun e => by have := (h1.lt _ e).1; omega
          have hkset : ∀ {v : Value} {x : Ux.Ty}, Kept TyP (tb + 1) w' (Value.slice p7 (k + 1) d7).ownBlock v x → Kept TyP (tb + 1) (w'.setCell ⟨tb, 2, none⟩ (.slice p7 (k + 1) d7)) (Value.slice p7 (k + 1) d7).ownBlock v x := fun h =>
           h.since (by simp [World.setCell]) (fun b hb _ _ => Below.heap_setCell w' ⟨tb, 2, none⟩ (.slice p7 (k + 1) d7) b (by dsimp only; omega)) (.inl rfl)
          have hkk : (Ux.kidsN (Ux.typN f) (n :: r) (k + 1)).1 = (Ux.kidsN (Ux.typN f) (n :: r) k).1 ++ [(Ux.typN f ((n :: r).drop a)).1] := by rw [Ux.kidsN, ← HA.out]
          have HVn := Lib.hid (Reps.snoc (hkset (hkall HKA.out)) (HV.out.mono fun v x h => hkset (hkall h)))
          rw [← hkk] at HVn
          clear hkk
          have HEX := Lib.hid (ent_other hex tb 2 (.slice p7 (k + 1) d7) (by omega))
          have HEY := Lib.hid (show (w'.setCell ⟨tb, 2, none⟩ (.slice p7 (k + 1) d7)).heap[tb]? = some (.cells #[.int .i64 (-1), .string ⟨NM.toArray⟩, .slice p7 (k + 1) d7] 30 (0, 0)) from ent_put3 _ hey 2 _ rfl)
          have HO2 : Hid ((w'.setCell ⟨tb, 2, none⟩ (.slice p7 (k + 1) d7)).ownsRow (tb + 1) 30 3 (.slice p7 (k + 1) d7) (k + 1) (cellsOf (vs ++ [.agg #[.int .i64 ti, .string ts, .slice q1 n1 c1]]))) := Lib.hid (by
           rw [cells_three]
           exact own_same h1 fun b hb => Below.heap_setCell w' ⟨tb, 2, none⟩ (.slice p7 (k + 1) d7) b (fun e => hne (by rw [hb, e])))
          have HBn := Lib.hid (hbw.setCell (p := ⟨tb, 2, none⟩) (by dsimp only; omega) (.slice p7 (k + 1) d7))
          have HCn : Hid (∀ v ∈ vs ++ [.agg #[.int .i64 ti, .string ts, .slice q1 n1 c1]], v.cells.size = 3) := Lib.hid (by
           intro v hv
           rcases List.mem_append.1 hv with h | h
           · exact HC.out v h
           · rw [List.mem_singleton.1 h]; rfl)
          have y2b := ent_cell hey 2 (.slice p k d) rfl
          have yfb := ent_free hey 2
          have hac3 := HCB.out
          clear h1 h2 h3 hbw hex hey hne y2 z0 z1 z2 hby hkall hkset ZX HKA HV EX EY HO HB
          go_wp2_with fail
          clear y2b yfb
          exact ⟨⟨k + 1, a + ct, p7, d7, vs ++ [.agg #[.int .i64 ti, .string ts, .slice q1 n1 c1]], by go_num, by omega, by go_num, Lib.hid (by rw [Ux.kidsN, ← HA.out, ← HCT.out]), HEX, HEY, HO2, HVn, HCn, HBn⟩, by simp [intOf]; omega⟩
        · have hac2 : ¬ (c : Int) = (a : Int) := by omega
          go_wp2_with fail
          rw [HD1.out]
          refine (IH.out _ _ wr (by omega) (HL2.out _ (.inl rfl)) HL3.out).mono ?_
          rintro e w2 ⟨tv, rfl, hnew, hb2⟩
          obtain ⟨ti, ts, q1, n1, c1, rfl⟩ := tyP_sh hnew.now
          have hct := Ux.typN_le f ((n :: r).drop a)
          rw [List.length_drop] at hct
          obtain ⟨ct, hctd⟩ : ∃ ct, ct = (Ux.typN f ((n :: r).drop a)).2 := ⟨_, rfl⟩
          rw [← hctd] at hct ⊢
          have HCT := Lib.hid hctd
          have HCB := Lib.hid (show a + ct ≤ N by have := HN.out; omega)
          have hty := ent_lt EY.out
          have HKN : Hid (Kept TyP (tb + 1) w2 (Value.slice p k d).ownBlock (.agg #[.int .i64 ti, .string ts, .slice q1 n1 c1]) (Ux.typN f ((n :: r).drop a)).1) := Lib.hid (hnew.kept hty (fun g hg => (HO.out.lt g hg).2))
          have HV2 : Hid (Reps (Kept TyP (tb + 1) w2 (Value.slice p k d).ownBlock) vs (Ux.kidsN (Ux.typN f) (n :: r) k).1) := Lib.hid (HV.out.mono fun v x h => h.below hb2)
          have EX2 := Lib.hid (ent_below EX.out hb2)
          have EY2 := Lib.hid (ent_below EY.out hb2)
          have HO2 := Lib.hid (own_kept HO.out hb2)
          have HB2 := Lib.hid (HB.out.trans (hb2.mono HB.out.size))
          clear EX EY HO HV HB hb2 hnew hctd hty
          go_upto_region 10 with fail
          have hba : Below w2.heap.size w2 (w2.alloc (.cells #[.int .i64 ti, .string ts, .slice q1 n1 c1] 30)) := (Below.refl _ _).alloc (Nat.le_refl _) _
          have ZX := Lib.hid (ent_new w2 #[.int .i64 ti, .string ts, .slice q1 n1 c1] 30)
          have EX := Lib.hid (ent_below EX2.out hba)
          have EY := Lib.hid (ent_below EY2.out hba)
          have HO := Lib.hid (own_kept HO2.out hba)
          have HB := Lib.hid (HB2.out.trans (hba.mono HB2.out.size))
          have HKA := Lib.hid (HKN.out.below hba)
          have HV : Hid (Reps (Kept TyP (tb + 1) (w2.alloc (.cells #[.int .i64 ti, .string ts, .slice q1 n1 c1] 30)) (Value.slice p k d).ownBlock) vs (Ux.kidsN (Ux.typN f) (n :: r) k).1) := Lib.hid (HV2.out.mono fun v x h => h.below hba)
          clear hba HKN HV2 EX2 EY2 HO2 HB2
          generalize w2.heap.size = xb at ZX ⊢
          generalize w2.alloc (.cells #[.int .i64 ti, .string ts, .slice q1 n1 c1] 30) = w3 at ZX EX EY HO HB HKA HV ⊢
          have y2 := ent_cell EY.out 2 (.slice p k d) rfl
          have z0 := ent_cell ZX.out 0 _ rfl
          have z1 := ent_cell ZX.out 1 _ rfl
          have z2 := ent_cell ZX.out 2 _ rfl
          have hM4 := HM4.out
          go_wp2_with (at_builtin; refine wpList_append_loc _ rfl (.tmp 60) (.tmp 62) 28 rfl (tb + 1) 30 i0 _ 3 48 Tryd.underlying28 I.out I0.out I1.out I2.out rfl (by decide) _ k _ rfl (HO.out.alloc _) ⟨w3.heap.size, 0, none⟩ 1 1 [.int .i64 ti, .string ts, .slice q1 n1 c1] rfl (by decide) rfl ?c1 ?c2 ?c3 ?c4 ?c5 ?_)
          case c1 => exact fun j u h => three_cells w3 _ _ _ _ j u h
          case c2 => simp [Value.oneCell']
          case c3 => unfold maxLen; omega
          case c4 => omega
          case c5 => have := ent_lt EY.out; simp; omega
          intro v' w' h1 h2 h3
          have hty := ent_lt EY.out
          have hby : Below w3.heap.size w3 (w3.alloc (.cells #[.int .i64 ti, .string ts, .slice q1 n1 c1] 30)) := (Below.refl _ _).alloc (Nat.le_refl _) _
          have hbw : Below w.heap.size w w' := (HB.out.trans (hby.mono HB.out.size)).grown h2 (by have := HB.out.size; simp; omega) (fun j hj => by have := (HO.out.lt j hj).1; omega)
          have hey : w'.heap[tb]? = some (.cells #[.int .i64 (-1), .string ⟨NM.toArray⟩, .slice p k d] 30 (0, 0)) :=
           (h2.block tb (by simp; omega) (fun e => by have := (HO.out.lt _ e.symm).1; omega)).trans (ent_below EY.out hby)
          have hex : w'.heap[w.heap.size]? = some (.cells #[.int .i64 0, .string ⟨#[]⟩, .slice none 0 0] 30 (0, 0)) :=
           (h2.block w.heap.size (by simp; omega) (fun e => by have := (HO.out.lt _ e.symm).1; omega)).trans (ent_below EX.out hby)
          have hkall : ∀ {v : Value} {x : Ux.Ty}, Kept TyP (tb + 1) w3 (Value.slice p k d).ownBlock v x → Kept TyP (tb + 1) w' v'.ownBlock v x := fun h =>
           (h.below hby).step h2.size (fun b hb hne => h2.block b hb (fun e => hne e.symm)) (h3.imp id fun h g hg => by have := h g hg; simp at this ⊢; omega)
          obtain ⟨p7, d7, rfl⟩ := own_slice h1
          have hne : (Value.slice p7 (k + 1) d7).ownBlock ≠ some tb := fun e => by have := (h1.lt _ e).1; omega
          have hkset : ∀ {v : Value} {x : Ux.Ty}, Kept TyP (tb + 1) w' (Value.slice p7 (k + 1) d7).ownBlock v x → Kept TyP (tb + 1) (w'.setCell ⟨tb, 2, none⟩ (.slice p7 (k + 1) d7)) (Value.slice p7 (k + 1) d7).ownBlock v x := fun h =>
           h.since (by simp [World.setCell]) (fun b hb _ _ => Below.heap_setCell w' ⟨tb, 2, none⟩ (.slice p7 (k + 1) d7) b (by dsimp only; omega)) (.inl rfl)
          have hkk : (Ux.kidsN (Ux.typN f) (n :: r) (k + 1)).1 = (Ux.kidsN (Ux.typN f) (n :: r) k).1 ++ [(Ux.typN f ((n :: r).drop a)).1] := by rw [Ux.kidsN, ← HA.out]
          have HVn := Lib.hid (Reps.snoc (hkset (hkall HKA.out)) (HV.out.mono fun v x h => hkset (hkall h)))
          rw [← hkk] at HVn
          clear hkk
          have HEX := Lib.hid (ent_other hex tb 2 (.slice p7 (k + 1) d7) (by omega))
          have HEY := Lib.hid (show (w'.setCell ⟨tb, 2, none⟩ (.slice p7 (k + 1) d7)).heap[tb]? = some (.cells #[.int .i64 (-1), .string ⟨NM.toArray⟩, .slice p7 (k + 1) d7] 30 (0, 0)) from ent_put3 _ hey 2 _ rfl)
          have HO2 : Hid ((w'.setCell ⟨tb, 2, none⟩ (.slice p7 (k + 1) d7)).ownsRow (tb + 1) 30 3 (.slice p7 (k + 1) d7) (k + 1) (cellsOf (vs ++ [.agg #[.int .i64 ti, .string ts, .slice q1 n1 c1]]))) := Lib.hid (by
           rw [cells_three]
           exact own_same h1 fun b hb => Below.heap_setCell w' ⟨tb, 2, none⟩ (.slice p7 (k + 1) d7) b (fun e => hne (by rw [hb, e])))
          have HBn := Lib.hid (hbw.setCell (p := ⟨tb, 2, none⟩) (by dsimp only; omega) (.slice p7 (k + 1) d7))
          have HCn : Hid (∀ v ∈ vs ++ [.agg #[.int .i64 ti, .string ts, .slice q1 n1 c1]], v.cells.size = 3) := Lib.hid (by
           intro v hv
           rcases List.mem_append.1 hv with h | h
           · exact HC.out v h
           · rw [List.mem_singleton.1 h]; rfl)
          have y2b := ent_cell hey 2 (.slice p k d) rfl
          have yfb := ent_free hey 2
          have hac3 := HCB.out
          clear h1 h2 h3 hbw hex hey hne y2 z0 z1 z2 hby hkall hkset ZX HKA HV EX EY HO HB
          go_wp2_with fail
          clear y2b yfb
          exact ⟨⟨k + 1, a + ct, p7, d7, vs ++ [.agg #[.int .i64 ti, .string ts, .slice q1 n1 c1]], by go_num, by omega, by go_num, Lib.hid (by rw [Ux.kidsN, ← HA.out, ← HCT.out]), HEX, HEY, HO2, HVn, HCn, HBn⟩, by simp [intOf]; omega⟩
      · obtain rfl : k = M := by omega
        have htot : R = (.a NM (Ux.kidsN (Ux.typN f) (n :: r) k).1, a) := by
         rw [HE.out, ← HM.out, ← HNM.out, ← HA.out]
        have m3 : min (a : Int) (N : Int) = (a : Int) := by omega
        have hty := ent_lt EY.out
        have hlw : w.heap.size < tb + 1 := by omega
        have y0 := ent_cell EY.out 0 _ rfl
        have y1 := ent_cell EY.out 1 _ rfl
        have y2 := ent_cell EY.out 2 (.slice p k d) rfl
        have ec0 := ent_cell EX.out 0 _ rfl
        have ec1 := ent_cell EX.out 1 _ rfl
        have ec2 := ent_cell EX.out 2 _ rfl
        have efree := ent_free EX.out
        go_wp2_with fail
        have E5 := ent_set3 EX.out (.int .i64 (-1)) (.string ⟨NM.toArray⟩) (.slice p k d)
        have r0 := ent_cell E5 0 _ rfl
        have r1 := ent_cell E5 1 _ rfl
        have r2 := ent_cell E5 2 (.slice p k d) rfl
        have hb := below_set3 HB.out w.heap.size (Nat.le_refl _) (.int .i64 (-1)) (.string ⟨NM.toArray⟩) (.slice p k d)
        refine bodyPost_ret (v := .tuple #[.agg #[.int .i64 (-1), .string ⟨NM.toArray⟩, .slice p k d], .int .i64 a]) (by simp [results, Tryd.results11, go_sem, r0, r1, r2]) rfl ?_
        refine ⟨_, by rw [htot], ?_, hb⟩
        rw [htot]
        intro u hu
        have hk : ∀ b, tb + 1 ≤ b → b < wr.heap.size → u.heap[b]? = wr.heap[b]? := fun b hb1 hb2 => by
         have e1 := hu b (by omega) (by simpa [World.setCell] using hb2)
         refine e1.trans ?_
         simp only [Below.heap_setCell _ ⟨w.heap.size, _, none⟩ _ b (show b ≠ w.heap.size by omega)]
        exact tyP_a.2 ⟨-1, _, by decide, rfl, row_lo HO.out (Ux.kidsN_len _ _ _).symm HV.out HC.out u hk, own_free HO.out fun b hb => hk b (HO.out.lt b hb).1 (HO.out.lt b hb).2⟩
end Go.Proofs.YtcblppojnailpaaDoor
namespace Go.Proofs.YtcblppojnailpaaDoor
namespace Ux
set_option linter.unusedVariables false
set_option linter.unusedSimpArgs false
theorem dom_of {f : Map} (hf : Fine f) {N : Sub} (hN : Norm f N) {P : Sub → Prop} (hP : ∀ σ, Sol f σ ↔ P σ) {V : Nat → Prop} (hV : ∀ σ τ : Sub, (∀ n, V n → σ n = τ n) → P σ → P τ) (n : Nat) (h : f n ≠ none) : V n := by
 refine Classical.byContradiction fun hn => ?_
 obtain ⟨t, ht⟩ : ∃ t, f n = some t := by
  cases e : f n with
  | none => exact absurd e h
  | some t => exact ⟨t, rfl⟩
 have hno : n ∉ t.vs := fun hm => no_self hf n (.one ht hm)
 have key : ∀ X : Ty, X = t.app N := fun X => by
  have hs : Sol f (fun m => if m = n then X else N m) := (hP _).2 (hV N _ (fun m hm => by
   show N m = if m = n then X else N m
   rw [if_neg (fun (e : m = n) => hn (by rw [← e]; exact hm))]) ((hP N).1 hN.sol))
  have e1 := hs n t ht
  have e2 : (if n = n then X else N n) = t.app (fun m => if m = n then X else N m) := e1
  rw [if_pos rfl] at e2
  rw [e2]
  exact app_congr t fun m hm => by rw [if_neg (fun (e : m = n) => hno (by rw [← e]; exact hm))]
 have h1 := key (.v 0)
 have h2 := key (.a [] [])
 rw [← h1] at h2
 cases h2
theorem dom_small {f : Map} {M : Nat} (hd : ∀ n, f n ≠ none → n < M) : ∃ S, ∀ n t, f n = some t → t.sz ≤ S := by
 have key : ∀ k, ∃ S, ∀ n t, n < k → f n = some t → t.sz ≤ S := by
  intro k
  induction k with
  | zero => exact ⟨0, fun n t h => by omega⟩
  | succ k ih =>
    obtain ⟨S, hS⟩ := ih
    cases hk : f k with
    | none => exact ⟨S, fun n t h ht => by
       rcases Nat.lt_or_ge n k with h1 | h1
       · exact hS n t h1 ht
       · have : n = k := by omega
         subst this; rw [hk] at ht; cases ht⟩
    | some u => exact ⟨max S u.sz, fun n t h ht => by
       rcases Nat.lt_or_ge n k with h1 | h1
       · have := hS n t h1 ht; omega
       · have : n = k := by omega
         subst this; rw [hk] at ht; injection ht with ht; subst ht; omega⟩
 obtain ⟨S, hS⟩ := key M
 exact ⟨S, fun n t ht => hS n t (hd n (by rw [ht]; simp)) ht⟩
/-- Whether two types are made one rests on their variables alone. -/
theorem one_rests {a b : Ty} {V : Nat → Prop} (ha : ∀ n ∈ a.vs, V n) (hb : ∀ n ∈ b.vs, V n) (σ τ : Sub) (h : ∀ n, V n → σ n = τ n) (e : a.app σ = b.app σ) : a.app τ = b.app τ := by
 rw [← app_congr a fun n hn => h n (ha n hn), ← app_congr b fun n hn => h n (hb n hn)]; exact e
theorem sol_rests {f : Map} {V : Nat → Prop} (hf : ∀ n t, f n = some t → V n ∧ ∀ m ∈ t.vs, V m) (σ τ : Sub) (h : ∀ n, V n → σ n = τ n) (e : Sol f σ) : Sol f τ := by
 intro n t ht
 rw [← h n (hf n t ht).1, e n t ht]
 exact app_congr t fun m hm => h m ((hf n t ht).2 m hm)
/-- The variables of what is told first: those of the two types. -/
theorem first_dom {f' : Map} {a b : Ty} (h : Made (fun _ => none) f' a b) {V : Nat → Prop} (ha : ∀ n ∈ a.vs, V n) (hb : ∀ n ∈ b.vs, V n) : ∀ n, f' n ≠ none → V n := by
 obtain ⟨N, hN⟩ := h.1.norm
 exact dom_of h.1 hN (P := fun σ => Sol (fun _ => none) σ ∧ a.app σ = b.app σ) h.2 (fun σ τ hst hs => ⟨(fun n t ht => by cases ht), one_rests ha hb σ τ hst hs.2⟩)
/-- The most general one makes nothing greater than any other does. -/
theorem norm_small {f : Map} (hf : Fine f) {N σ : Sub} (hN : Norm f N) (hσ : Sol f σ) (t : Ty) : (t.app N).sz ≤ (t.app σ).sz := by
 rw [mg_same (hN.most hf hσ) t]; exact sz_app_ge _ _
end Ux
end Go.Proofs.YtcblppojnailpaaDoor
namespace Go.Proofs.YtcblppojnailpaaDoor
namespace Ux
set_option linter.unusedVariables false
set_option linter.unusedSimpArgs false
mutual
def Ty.nms : Ty → List (List UInt8)
 | .v _ => []
 | .a nm xs => nm :: Ty.nmss xs
def Ty.nmss : List Ty → List (List UInt8)
 | [] => []
 | x :: r => Ty.nms x ++ Ty.nmss r
end
theorem nmss_flat : ∀ l : List Ty, Ty.nmss l = l.flatMap Ty.nms
 | [] => by rw [Ty.nmss]; rfl
 | x :: r => by rw [Ty.nmss, nmss_flat r]; rfl
theorem nms_a (nm : List UInt8) (xs : List Ty) : (Ty.a nm xs).nms = nm :: xs.flatMap Ty.nms := by rw [Ty.nms, nmss_flat]
theorem nms_v (n : Nat) : (Ty.v n).nms = [] := by rw [Ty.nms]
/-- All names are short, and not empty. -/
def Plain (t : Ty) : Prop := ∀ nm ∈ t.nms, nm ≠ [] ∧ nm.length ≤ 10
theorem plain_v (n : Nat) : Plain (.v n) := fun nm h => by rw [nms_v] at h; cases h
theorem plain_a {nm : List UInt8} {xs : List Ty} (h1 : nm ≠ [] ∧ nm.length ≤ 10) (h2 : ∀ x ∈ xs, Plain x) : Plain (.a nm xs) := fun m hm => by
 rw [nms_a] at hm
 rcases List.mem_cons.1 hm with rfl | hm
 · exact h1
 · obtain ⟨x, hx, hm⟩ := List.mem_flatMap.1 hm
   exact h2 x hx m hm
theorem plain_in {nm : List UInt8} {xs : List Ty} (h : Plain (.a nm xs)) : (nm ≠ [] ∧ nm.length ≤ 10) ∧ ∀ x ∈ xs, Plain x :=
 ⟨h nm (by rw [nms_a]; simp), fun x hx m hm => h m (by rw [nms_a]; exact List.mem_cons_of_mem _ (List.mem_flatMap.2 ⟨x, hx, hm⟩))⟩
theorem plain_app {σ : Sub} : ∀ {t : Ty}, Plain t → (∀ n ∈ t.vs, Plain (σ n)) → Plain (t.app σ) := by
 intro t
 induction t using Ty.ind with
 | hv n => intro _ h; rw [app_v]; exact h n (by rw [vs_v]; simp)
 | ha nm xs ih =>
   intro h1 h2
   rw [app_a]
   refine plain_a (plain_in h1).1 fun y hy => ?_
   obtain ⟨x, hx, rfl⟩ := List.mem_map.1 hy
   exact ih x hx ((plain_in h1).2 x hx) fun n hn => h2 n (by rw [vs_a]; exact List.mem_flatMap.2 ⟨x, hx, hn⟩)
/-- If what is made of a type is plain, so is the type. -/
theorem plain_of {σ : Sub} : ∀ {t : Ty}, Plain (t.app σ) → Plain t := by
 intro t
 induction t using Ty.ind with
 | hv n => intro _; exact plain_v n
 | ha nm xs ih =>
   intro h
   rw [app_a] at h
   exact plain_a (plain_in h).1 fun x hx => ih x hx ((plain_in h).2 _ (List.mem_map_of_mem hx))
theorem app_inj {σ τ : Sub} : ∀ {t : Ty}, t.app σ = t.app τ → ∀ n ∈ t.vs, σ n = τ n := by
 intro t
 induction t using Ty.ind with
 | hv n => intro h m hm; rw [vs_v] at hm; simp at hm; subst hm; rwa [app_v, app_v] at h
 | ha nm xs ih =>
   intro h n hn
   rw [app_a, app_a] at h
   injection h with _ h
   rw [vs_a] at hn
   obtain ⟨x, hx, hn⟩ := List.mem_flatMap.1 hn
   have : ∀ l : List Ty, l.map (Ty.app σ) = l.map (Ty.app τ) → ∀ x ∈ l, x.app σ = x.app τ := by
    intro l
    induction l with
    | nil => intro _ x hx; cases hx
    | cons y r ihr =>
      intro h x hx
      simp only [List.map_cons, List.cons.injEq] at h
      rcases List.mem_cons.1 hx with rfl | hx
      · exact h.1
      · exact ihr h.2 x hx
   exact ih x hx (this xs h x hx) n hn
/-- The variables of what is made: those that matter. -/
theorem norm_vs {f : Map} (hf : Fine f) {N : Sub} (hN : Norm f N) {P : Sub → Prop} (hP : ∀ σ, Sol f σ ↔ P σ) {V : Nat → Prop} (hV : ∀ σ τ : Sub, (∀ n, V n → σ n = τ n) → P σ → P τ) {n : Nat} (hn : V n) : ∀ m ∈ (N n).vs, V m := by
 intro m hm
 refine Classical.byContradiction fun hno => ?_
 have key : ∀ X : Ty, X = N m := fun X => by
  have hs : Sol f (fun k => if k = m then X else N k) := (hP _).2 (hV N _ (fun k hk => by
   show N k = if k = m then X else N k
   rw [if_neg (fun (e : k = m) => hno (by rw [← e]; exact hk))]) ((hP N).1 hN.sol))
  have e1 := hN.most hf hs n
  have e2 := hN.most hf hN.sol n
  have e3 : (if n = m then X else N n) = (N n).app (fun k => if k = m then X else N k) := e1
  rw [if_neg (fun (e : n = m) => hno (by rw [← e]; exact hn))] at e3
  have e4 := app_inj (e3.symm.trans e2) m hm
  have e5 : (if m = m then X else N m) = N m := e4
  rwa [if_pos rfl] at e5
 have h1 := key (.v 0)
 have h2 := key (.a [] [])
 rw [← h1] at h2
 cases h2
theorem made_vs {f f' : Map} {a b : Ty} (h : Made f f' a b) {V : Nat → Prop} (hf : ∀ n t, f n = some t → V n ∧ ∀ m ∈ t.vs, V m) (ha : ∀ n ∈ a.vs, V n) (hb : ∀ n ∈ b.vs, V n) {N : Sub} (hN : Norm f' N) {t : Ty} (ht : ∀ n ∈ t.vs, V n) : ∀ m ∈ (t.app N).vs, V m := by
 intro m hm
 obtain ⟨n, hn, hm⟩ := (vs_app N m t).1 hm
 exact norm_vs h.1 hN (P := fun σ => Sol f σ ∧ a.app σ = b.app σ) h.2 (fun σ τ hst hs => ⟨sol_rests hf σ τ hst hs.1, one_rests ha hb σ τ hst hs.2⟩) (ht n hn) m hm
theorem text_len : ∀ {t : Ty}, Plain t → (∀ n ∈ t.vs, n ≤ 9000000000000000000) → (textT t).length + 1 ≤ 40 * t.sz := by
 intro t
 induction t using Ty.ind with
 | hv n =>
   intro _ h
   have hn := h n (by rw [vs_v]; simp)
   have := Lib.itoa_length_le (n : Int) (by omega) (by omega)
   rw [textT_v]
   have := sz_pos (.v n)
   simp; omega
 | ha nm xs ih =>
   intro h1 h2
   have hnm := (plain_in h1).1.2
   have key : ∀ l : List Ty, (∀ x ∈ l, x ∈ xs) → (textR l).length ≤ 40 * (l.map Ty.sz).sum + 1 := by
    intro l
    induction l with
    | nil => intro _; rw [textR_nil]; simp
    | cons x r ihr =>
      intro hx
      have e1 := ih x (hx x (by simp)) ((plain_in h1).2 x (hx x (by simp))) (fun n hn => h2 n (by rw [vs_a]; exact List.mem_flatMap.2 ⟨x, hx x (by simp), hn⟩))
      have e2 := ihr fun y hy => hx y (by simp [hy])
      have e3 := sz_pos x
      rw [textR_cons]
      simp only [List.length_cons, List.length_append, List.map_cons, List.sum_cons]
      omega
   rw [sz_a]
   cases xs with
   | nil => rw [textT_nil]; simp; omega
   | cons x r =>
     have e := key (x :: r) fun y hy => hy
     rw [textT_cons]
     simp only [List.length_cons, List.length_append] at e ⊢
     omega
theorem text_ne {t : Ty} (h : Plain t) : textT t ≠ [] := by
 cases t with
 | v n => rw [textT_v]; simp
 | a nm xs =>
   cases xs with
   | nil => rw [textT_nil]; exact (plain_in h).1.1
   | cons x r => rw [textT_cons]; simp
theorem putAll_snoc {w : Nat → Ty} : ∀ (l : List Nat) (n : Nat) (t : Ty), putAll w (l ++ [n]) t = put n (w n) (putAll w l t)
 | [], n, t => rfl
 | m :: r, n, t => by
   show putAll w (r ++ [n]) (put m (w m) t) = _
   rw [putAll_snoc r n]; rfl
theorem plain_put {n : Nat} {u t : Ty} (ht : Plain t) (hu : Plain u) : Plain (put n u t) := by
 refine plain_app ht fun m hm => ?_
 unfold putS
 split
 · exact hu
 · exact plain_v m
theorem plain_putAll {w : Nat → Ty} (hw : ∀ n, Plain (w n)) : ∀ (l : List Nat) (t : Ty), Plain t → Plain (putAll w l t)
 | [], t, h => h
 | n :: r, t, h => plain_putAll hw r _ (plain_put h (hw n))
theorem names_plain (k : Nat) : nameOf k ≠ [] ∧ (nameOf k).length ≤ 10 := by
 unfold nameOf
 split
 · decide
 · split
   · decide
   · split <;> decide
theorem typN_plain : ∀ (f : Nat) (l : List Nod), Plain (typN f l).1 := by
 intro f
 induction f with
 | zero => intro l; exact plain_v 0
 | succ f ih =>
   intro l
   cases l with
   | nil => rw [typN_nil]; exact plain_v 0
   | cons n r =>
     by_cases h : 0 ≤ n.var
     · rw [typN_var _ _ _ h]; exact plain_v _
     · rw [typN_a _ _ _ h]
       refine plain_a (names_plain _) fun x hx => ?_
       obtain ⟨m, rfl⟩ := kidsN_mem _ _ x hx
       exact ih m
/-- In the place of variables: of few parts what has few parts. -/
theorem putAll_sz {w : Nat → Ty} {c : Nat} (hc : 1 ≤ c) (hw : ∀ n, (w n).sz ≤ c) {l : List Nat} {t : Ty} (hd : l.Nodup) (hl : ∀ n ∈ l, ∀ m ∈ (w n).vs, m ∉ l) : (putAll w l t).sz ≤ t.sz * c := by
 rw [putAll_app l t hd hl]
 refine sz_app_le hc t fun n _ => ?_
 split
 · exact hw n
 · simpa [Ty.sz] using hc
theorem putAll_vs {w : Nat → Ty} {l : List Nat} {t : Ty} (hd : l.Nodup) (hl : ∀ n ∈ l, ∀ m ∈ (w n).vs, m ∉ l) {m : Nat} (hm : m ∈ (putAll w l t).vs) : (m ∈ t.vs ∧ m ∉ l) ∨ ∃ n ∈ l, n ∈ t.vs ∧ m ∈ (w n).vs := by
 rw [putAll_app l t hd hl] at hm
 obtain ⟨n, hn, hm⟩ := (vs_app _ m t).1 hm
 by_cases h : n ∈ l
 · simp only [if_pos h] at hm
   exact .inr ⟨n, h, hn, hm⟩
 · simp only [if_neg h] at hm
   rw [vs_v] at hm
   simp at hm
   subst hm
   exact .inl ⟨hn, h⟩
theorem take_nodup {l : List Nat} (h : l.Nodup) (k : Nat) : (l.take k).Nodup := h.sublist (List.take_sublist k l)
end Ux
end Go.Proofs.YtcblppojnailpaaDoor
namespace Go.Proofs.YtcblppojnailpaaDoor
open Go Go.RowKit
set_option linter.unusedVariables false
set_option linter.unusedSimpArgs false
/-- A type stays while but a map's block changes. -/
theorem tyP_chg {w w' : World} {sb : Nat} (hm : ∃ es k, w.heap[sb]? = some (.map es k)) (hc : Chg (· = sb) w w') {v : Value} {t : Ux.Ty} (h : TyP w v t) : TyP w' v t := by
 obtain ⟨U, h1, _, h3⟩ := tyP_Q t v h
 refine tyQ_P t v (tyQ_keep h1 fun x hx => ?_)
 obtain ⟨cs, T, e⟩ := h3 x hx
 refine hc.block _ (ent_lt e) fun e2 => ?_
 obtain ⟨es, k, e3⟩ := hm
 rw [e2, e3] at e; cases e
theorem SubAt.p {Q : LKey → Prop} {w : World} {b : Nat} {f : Ux.Map} (h : SubAt Q w b f) : SubP w b f := by
 obtain ⟨L, h1, h2⟩ := h
 exact ⟨L, h1, fun n => ⟨(h2 n).1, fun t ht => by obtain ⟨v, a, c⟩ := (h2 n).2 t ht; exact ⟨v, a, tyQ_P t v c⟩⟩⟩
theorem SubP.map {w : World} {b : Nat} {f : Ux.Map} (h : SubP w b f) : ∃ es k, w.heap[b]? = some (.map es k) := by obtain ⟨L, h1, _⟩ := h; exact h1.obj
theorem sub_new (Q : LKey → Prop) (w : World) : SubAt Q (w.alloc (.map #[] 0)) w.heap.size (fun _ => none) :=
 ⟨[], MapK.made w, fun n => ⟨fun _ => rfl, fun t ht => by cases ht⟩⟩
theorem sub_none {Q Q' : LKey → Prop} {w : World} {b : Nat} (h : SubAt Q w b (fun _ => none)) : SubAt Q' w b (fun _ => none) := by
 obtain ⟨L, h1, h2⟩ := h
 exact ⟨L, h1, fun n => ⟨(h2 n).1, fun t ht => by cases ht⟩⟩
theorem fine_none : Ux.Fine (fun _ => none) := Ux.Both.nil.fine
/-- What the first Unify answers. -/
def Uni1 (sb : Nat) (ta tb : Ux.Ty) (w : World) (e : Ending) (w' : World) : Prop :=
 Chg (· = sb) w w' ∧ ((e = .returned (.int .i64 0) ∧ ∃ f', Ux.Made (fun _ => none) f' ta tb ∧ SubP w' sb f' ∧ ∃ U' : List LKey, SubAt (· ∈ U') w' sb f' ∧ llen U' ≤ 2 * (ta.sz + tb.sz) ∧ ∀ x ∈ U', x.1 < w'.heap.size ∧ x.1 ≠ sb) ∨ (e = .returned (.int .i64 5) ∧ Ux.Never (fun _ => none) ta tb ∧ SubAt (fun _ => False) w' sb (fun _ => none)))
theorem unify1_any (sb : Nat) (ta tb : Ux.Ty) (va vB : Value) (w : World) (hs : SubAt (fun _ => False) w sb (fun _ => none)) (hta : TyP w va ta) (htb : TyP w vB tb) (hfew : ta.sz + tb.sz ≤ 40000) :
 Calls Tryd.prog 13 #[.map (some sb), va, vB] w (Uni1 sb ta tb w) := by
 obtain ⟨Ua, a1, a2, a3⟩ := tyP_Q ta va hta
 obtain ⟨Ub, b1, b2, b3⟩ := tyP_Q tb vB htb
 have hm := hs.p.map
 refine (sUnify_any (fun _ => none) fine_none sb (Ua ++ Ub) ta tb va vB w (sub_none hs) (fun x hx => ?_) (fun n h => absurd rfl h) (tyQ_more a1 fun x hx => ⟨List.mem_append.2 (.inl hx), rfl⟩) (tyQ_more b1 fun x hx => ⟨List.mem_append.2 (.inr hx), rfl⟩) (by rw [llen_app]; omega)).mono ?_
 · have hcs : ∃ cs T, w.heap[x.1]? = some (.cells cs T (0, 0)) := (List.mem_append.1 hx).elim (a3 x) (b3 x)
   obtain ⟨cs, T, e⟩ := hcs
   refine ⟨ent_lt e, fun e2 => ?_⟩
   obtain ⟨es, k, e3⟩ := hm
   rw [e2, e3] at e; cases e
 · rintro e w' ⟨hc, ⟨rfl, f', U', h1, h2, h3, h4, h5⟩ | ⟨rfl, h2, h3⟩⟩
   · exact ⟨hc, .inl ⟨rfl, f', ⟨h1, h2⟩, h3.p, U', h3, by rw [llen_app] at h4; omega, h5⟩⟩
   · exact ⟨hc, .inr ⟨rfl, fun σ hσ e => h2 σ ⟨hσ, e⟩, sub_none h3⟩⟩
/-- Types as the laws have them. -/
structure OkT (t : Ux.Ty) : Prop where
 plain : Ux.Plain t
 vs : ∀ n ∈ t.vs, n < 1000000
 sz : t.sz ≤ 10000000000
theorem OkT.low {t : Ux.Ty} (h : OkT t) : Low t := fun n hn => by have := h.vs n hn; omega
theorem OkT.len {t : Ux.Ty} (h : OkT t) : (Ux.textT t).length ≤ 800000000000 := by
 have := Ux.text_len h.plain (fun n hn => by have := h.vs n hn; omega)
 have := h.sz; omega
theorem okT_canon {t : Ux.Ty} (h : OkT t) : OkT (Ux.canon t) := by
 refine ⟨Ux.plain_app h.plain fun n _ => Ux.plain_v _, fun n hn => ?_, by have e : (Ux.canon t).sz = t.sz := Ux.sz_ren _ t; rw [e]; exact h.sz⟩
 obtain ⟨m, hm, hn⟩ := (Ux.vs_app _ n t).1 hn
 rw [Ux.vs_v] at hn
 simp at hn
 subst hn
 have h1 := (Ux.varsT_mem t m).2 hm
 have h2 : (Ux.varsT t).idxOf m < (Ux.varsT t).length := List.idxOf_lt_length_iff.2 h1
 have h3 : (Ux.varsT t).length ≤ 1000000 := nodup_lt (Ux.varsT_nodup t) fun x hx => h.vs x ((Ux.varsT_mem t x).1 hx)
 omega
theorem rtext_ok {t : Ux.Ty} (h : OkT t) (v : Value) (w : World) (ht : TyP w v t) (htab : Lib.TabIs Tryd.prog w "internal/strconv.uint64pow10" .u64 Lib.pow10Tab) :
 Calls Tryd.prog 12 #[v] w fun e w' => e = .returned (.string ⟨(Ux.textT t).toArray⟩) ∧ Below w.heap.size w w' := refText_any t v w ht h.low h.len htab
theorem text_ok {t : Ux.Ty} (h : OkT t) (v : Value) (w : World) (ht : TyP w v t) (htab : Lib.TabIs Tryd.prog w "internal/strconv.uint64pow10" .u64 Lib.pow10Tab) :
 Calls Tryd.prog 22 #[v] w fun e w' => e = .returned (.string ⟨(Ux.textT t).toArray⟩) ∧ Below w.heap.size w w' := text_any t v w ht h.low h.len (Ux.text_ne h.plain) (by have := h.sz; omega) htab
theorem rcanon_ok {t : Ux.Ty} (h : OkT t) (v : Value) (w : World) (ht : TyP w v t) :
 Calls Tryd.prog 17 #[v] w (fun e w' => ∃ r, e = .returned r ∧ Below w.heap.size w w' ∧ TyP w' r (Ux.canon t)) := refCanon_any t v w ht (by have := h.sz; omega) h.vs
/-- What Apply makes behind the first Unify. -/
theorem apply_ok {f : Ux.Map} (hf : Ux.Fine f) {N : Ux.Sub} (hN : Ux.Norm f N) {sb : Nat} {t : Ux.Ty} {v : Value} {w : World} (hs : SubP w sb f) (ht : TyP w v t) (hd : ∀ n, f n ≠ none → n < 1000000) (ho : OkT (t.app N)) :
 Calls Tryd.prog 16 #[.map (some sb), v] w (fun e w' => ∃ r, e = .returned r ∧ Below w.heap.size w w' ∧ TyP w' r (t.app N)) :=
 sApply_any f hf N hN sb t v w hs ht hd (Ux.dom_small hd) (by have := ho.sz; omega)
theorem typN_ok (f : Nat) {l : List Ux.Nod} (h : l.length ≤ 1000) : OkT (Ux.typN f l).1 :=
 ⟨Ux.typN_plain f l, fun n hn => by have := Ux.typN_vs f l n hn; omega, by have h1 := Ux.typN_sz f l; have h2 := Ux.typN_le f l; omega⟩
/-- What is made most generally, where something makes of it a type as the laws have them. -/
theorem okT_norm {f : Ux.Map} {a b : Ux.Ty} (h : Ux.Made (fun _ => none) f a b) {N σ : Ux.Sub} (hN : Ux.Norm f N) (hσ : Ux.Sol f σ) (ha : ∀ n ∈ a.vs, n < 1000000) (hb : ∀ n ∈ b.vs, n < 1000000) {t : Ux.Ty} (ht : ∀ n ∈ t.vs, n < 1000000) (ho : Ux.Plain (t.app σ) ∧ (t.app σ).sz ≤ 10000000000) : OkT (t.app N) := by
 refine ⟨?_, Ux.made_vs h (V := fun n => n < 1000000) (fun n t ht => by cases ht) ha hb hN ht, Nat.le_trans (Ux.norm_small h.1 hN hσ t) ho.2⟩
 have e := ho.1
 rw [Ux.mg_same (hN.most h.1 hσ) t] at e
 exact Ux.plain_of e
theorem made_dom {f : Ux.Map} {a b : Ux.Ty} (h : Ux.Made (fun _ => none) f a b) (ha : ∀ n ∈ a.vs, n < 1000000) (hb : ∀ n ∈ b.vs, n < 1000000) : ∀ n, f n ≠ none → n < 1000000 := Ux.first_dom h (V := fun n => n < 1000000) ha hb
end Go.Proofs.YtcblppojnailpaaDoor
