/-
  Several texts in one: RExprs, SApp, SPure, RExA.
-/
import Derived.Test.YtgoacbomphlhjaaP00
import Derived.Test.YtgoacbomphlhjaaP09
import Derived.Deep.DeepCutAuto
import Derived.BigRegion
import Derived.Test.YtgoacbomphlhjaaP05
import Derived.Test.YtgoacbomphlhjaaP02
set_option linter.unusedVariables false
set_option linter.unusedSimpArgs false
namespace Go.Proofs.Ytgoacbomphlhjaa
open Go.Lib (hid)
open List renaming getElem_toArray → jX, getElem_cons_succ → jY, getElem_cons_zero → jZ, setIfInBounds_toArray → JA, set_cons_zero → JB, set_cons_succ → JC
open Go Go.RowKit
def ShExpr (v : Value) : Prop := ∃ (k p : Int) (s : ByteArray) (i : Int) (q1 : Option Addr) (n1 c1 : Nat) (q2 : Option Addr) (n2 c2 : Nat) (q3 : Option Addr) (n3 c3 : Nat), v = .agg #[.int .i64 k, .int .i64 p, .string s, .int .i64 i, .slice q1 n1 c1, .slice q2 n2 c2, .slice q3 n3 c3]
theorem shExpr_size {v : Value} (h : ShExpr v) : v.cells.size = 7 := by
 obtain ⟨k, p, s, i, q1, n1, c1, q2, n2, c2, q3, n3, c3, rfl⟩ := h; rfl
theorem infoExpr : (Try.prog.info? 53).map (fun i => (i.zero, i.size, i.bytes)) = some (some (.agg #[.int .i64 0, .int .i64 0, .string ⟨#[]⟩, .int .i64 0, .slice none 0 0, .slice none 0 0, .slice none 0 0]), 7, 112) := by kernel_rfl
theorem seven_at (w : World) (a0 a1 a2 a3 a4 a5 a6 : Value) (T : TypeId) (j : Nat) (u : Value) (h : ([a0, a1, a2, a3, a4, a5, a6] : List Value)[j]? = some u) :
 (w.alloc (.cells #[a0, a1, a2, a3, a4, a5, a6] T)).cell? ((⟨w.heap.size, 0, none⟩ : Addr).add j) = some u := by
 have e : (⟨w.heap.size, 0, none⟩ : Addr).add j = ⟨w.heap.size, j, none⟩ := by unfold Addr.add; split <;> simp_all
 rw [e, World.cell?_alloc_mark]
 simpa using h
theorem cells7 (vs : List Value) (a0 a1 a2 a3 a4 a5 a6 : Value) : cellsOf (vs ++ [.agg #[a0, a1, a2, a3, a4, a5, a6]]) = cellsOf vs ++ [a0, a1, a2, a3, a4, a5, a6] := by
 simp [cellsOf, Value.cells]
theorem set7_other (w : World) (g k : Nat) (a b c d e f i : Value) (h : k ≠ g) : (((((((w.setCell ⟨g, 0, none⟩ a).setCell ⟨g, 1, none⟩ b).setCell ⟨g, 2, none⟩ c).setCell ⟨g, 3, none⟩ d).setCell ⟨g, 4, none⟩ e).setCell ⟨g, 5, none⟩ f).setCell ⟨g, 6, none⟩ i).heap[k]? = w.heap[k]? :=
 (Below.heap_setCell _ ⟨g, 6, none⟩ i k h).trans ((Below.heap_setCell _ ⟨g, 5, none⟩ f k h).trans (set5_other w g k a b c d e h))
set_option maxHeartbeats 4000000 in
set_option maxRecDepth 100000 in
theorem exprs_any (f k : Nat) (lv : Value) (l : List Px.Node) (w : World) (hr : RowAt 6 (NdAt k w) w lv l) (hlen : l.length ≤ 1000) (ih : ∀ m ∈ l, ∀ v w1, NdAt k w1 v m → Calls Try.prog 28 #[v] w1 (RTold w1 (ExprAt f) ShExpr (Px.expr f m))) : Calls Try.prog 59 #[lv] w (RTold w (fun u => RowAt 7 (ExprAt f u) u) ShSlice (Px.each (Px.expr f) l)) := by
 obtain ⟨q, c, rfl⟩ := hr.len
 have HR := hid hr; have HIH := hid ih
 obtain ⟨i0, hi, hq0, hq1, hq2⟩ := info_parts infoExpr
 have I0 := hid hi; have I00 := hid hq0; have I01 := hid hq1; have I02 := hid hq2
 clear hi hq0 hq1 hq2 hr ih
 go_enter Try.func59, Try.ntmps59
 go_wp2_with fail
 go_loopw [2, 3, 4, 5, 6, 7] (fun _ _ av i _ _ wr => ∃ (j : Nat) (vs : List Value) (xs : List Px.Expr), i = .int .i64 (j : Nat) ∧ j ≤ l.length ∧ Hid (Px.each (Px.expr f) (l.take j) = .ok xs) ∧ Hid (vs.length = j) ∧ Hid (Reps (Kept (ExprAt f) w.heap.size wr av.ownBlock) vs xs ∧ ∀ u ∈ vs, ShExpr u) ∧ Hid (wr.ownsRow w.heap.size 53 7 av vs.length (cellsOf vs)) ∧ Hid (Below w.heap.size w wr)) (fun _ _ _ i _ _ _ => l.length - (intOf i).toNat)
 case atStart => exact ⟨0, [], [], rfl, Nat.zero_le _, hid (by simp [Px.each]), hid rfl, hid ⟨trivial, fun _ h => by cases h⟩, hid (World.ownsRow_nil _ _ _ _), hid (Below.refl _ _)⟩
 case round =>
  obtain ⟨j, vs, xs, rfl, hj, HE, HVL, HRV, HO, HB⟩ := hrel
  have hsz := HB.out.size
  by_cases hlt : j < l.length
  · obtain ⟨mj, hmj⟩ : ∃ mj, l[j]? = some mj := ⟨_, List.getElem?_eq_getElem hlt⟩
    have hstep := Px.each_take hmj HE.out
    rcases HR.out with ⟨h0, _⟩ | ⟨g, of, c', hv, g1, g2, g3⟩
    · rw [h0] at hlt; simp at hlt
    injection hv with hq1 _ hq2
    subst hq1; subst hq2
    obtain ⟨u, hu, _, hcell⟩ := g3 j mj hmj
    have HU := hid (hu.below HB.out)
    have HIHM := hid (HIH.out mj (List.mem_of_getElem? hmj))
    obtain ⟨k2, kv2, hk2, rfl, hkr, m0, m1, m2, m3, m4, m5⟩ := jR hu hcell
    have n0 := jE HB.out m0; have n1 := jE HB.out m1; have n2 := jE HB.out m2; have n3 := jE HB.out m3; have n4 := jE HB.out m4; have n5 := jE HB.out m5
    have HST := hid hstep
    clear hu hcell hkr m0 m1 m2 m3 m4 m5 hstep hmj g3
    obtain ⟨pa, ca, rfl⟩ := jF HO.out
    go_wp2_with fail
    clear n0 n1 n2 n3 n4 n5
    refine (HIHM.out _ _ HU.out).mono ?_
    intro e w5 ht
    cases htm : Px.expr f mj with
    | error p =>
      obtain ⟨z, rfl, ⟨zk, zp, zs, zi, zq1, zn1, zc1, zq2, zn2, zc2, zq3, zn3, zc3, rfl⟩, hb⟩ := jN ht htm
      have hge : (p : Int) ≥ 0 := by omega
      have HBD := hid (HST.out.2 p htm)
      have HB2 := hid ((HB.out.trans (hb.mono hsz)).alloc (Nat.le_trans hsz hb.size) (.cells #[.int .i64 zk, .int .i64 zp, .string zs, .int .i64 zi, .slice zq1 zn1 zc1, .slice zq2 zn2 zc2, .slice zq3 zn3 zc3] 53))
      clear ht htm hb
      go_wp2_with fail
      go_ret2
      exact jL HBD.out HB2.out ⟨_, _, _, rfl⟩
    | ok x =>
      obtain ⟨z, rfl, hsh, hnew, hb⟩ := rtold_ok ht htm
      have HGD := hid (HST.out.1 x htm)
      have hk1 := new_kept (base := w.heap.size) (ob := (Value.slice pa vs.length ca).ownBlock) hnew hsz hb.size (fun g hg => (HO.out.lt g hg).2)
      have HK1 := hid hk1; have HO2 := hid (jJ HO.out hb); have HRV2 := hid (And.intro (HRV.out.1.mono fun z y h => h.below hb) HRV.out.2)
      have HSH := hid hsh
      obtain ⟨zk, zp, zs, zi, zq1, zn1, zc1, zq2, zn2, zc2, zq3, zn3, zc3, rfl⟩ := hsh
      have hs5 := Nat.le_trans hsz hb.size
      have HB2 := hid ((HB.out.trans (hb.mono hsz)).alloc hs5 (.cells #[.int .i64 zk, .int .i64 zp, .string zs, .int .i64 zi, .slice zq1 zn1 zc1, .slice zq2 zn2 zc2, .slice zq3 zn3 zc3] 53))
      have hal : Below w5.heap.size w5 (w5.alloc (.cells #[.int .i64 zk, .int .i64 zp, .string zs, .int .i64 zi, .slice zq1 zn1 zc1, .slice zq2 zn2 zc2, .slice zq3 zn3 zc3] 53)) := (Below.refl _ _).alloc (Nat.le_refl _) _
      replace HK1 := hid (HK1.out.below hal); replace HO2 := hid (jJ HO2.out hal); replace HRV2 := hid (And.intro (HRV2.out.1.mono fun z y h => h.below hal) HRV2.out.2)
      replace hs5 := Nat.le_trans hs5 hal.size
      have x0 : (w5.alloc (.cells #[.int .i64 zk, .int .i64 zp, .string zs, .int .i64 zi, .slice zq1 zn1 zc1, .slice zq2 zn2 zc2, .slice zq3 zn3 zc3] 53)).cell? ⟨w5.heap.size, 0, none⟩ = some (.int .i64 zk) := by rw [World.cell?_alloc_mark]; rfl
      have x1 : (w5.alloc (.cells #[.int .i64 zk, .int .i64 zp, .string zs, .int .i64 zi, .slice zq1 zn1 zc1, .slice zq2 zn2 zc2, .slice zq3 zn3 zc3] 53)).cell? ⟨w5.heap.size, 1, none⟩ = some (.int .i64 zp) := by rw [World.cell?_alloc_mark]; rfl
      have x2 : (w5.alloc (.cells #[.int .i64 zk, .int .i64 zp, .string zs, .int .i64 zi, .slice zq1 zn1 zc1, .slice zq2 zn2 zc2, .slice zq3 zn3 zc3] 53)).cell? ⟨w5.heap.size, 2, none⟩ = some (.string zs) := by rw [World.cell?_alloc_mark]; rfl
      have x3 : (w5.alloc (.cells #[.int .i64 zk, .int .i64 zp, .string zs, .int .i64 zi, .slice zq1 zn1 zc1, .slice zq2 zn2 zc2, .slice zq3 zn3 zc3] 53)).cell? ⟨w5.heap.size, 3, none⟩ = some (.int .i64 zi) := by rw [World.cell?_alloc_mark]; rfl
      have x4 : (w5.alloc (.cells #[.int .i64 zk, .int .i64 zp, .string zs, .int .i64 zi, .slice zq1 zn1 zc1, .slice zq2 zn2 zc2, .slice zq3 zn3 zc3] 53)).cell? ⟨w5.heap.size, 4, none⟩ = some (.slice zq1 zn1 zc1) := by rw [World.cell?_alloc_mark]; rfl
      have x5 : (w5.alloc (.cells #[.int .i64 zk, .int .i64 zp, .string zs, .int .i64 zi, .slice zq1 zn1 zc1, .slice zq2 zn2 zc2, .slice zq3 zn3 zc3] 53)).cell? ⟨w5.heap.size, 5, none⟩ = some (.slice zq2 zn2 zc2) := by rw [World.cell?_alloc_mark]; rfl
      have x6 : (w5.alloc (.cells #[.int .i64 zk, .int .i64 zp, .string zs, .int .i64 zi, .slice zq1 zn1 zc1, .slice zq2 zn2 zc2, .slice zq3 zn3 zc3] 53)).cell? ⟨w5.heap.size, 6, none⟩ = some (.slice zq3 zn3 zc3) := by rw [World.cell?_alloc_mark]; rfl
      clear hal ht htm hk1 hnew hb
      go_upto_region 8 with fail
      generalize w5.alloc (.cells #[.int .i64 zk, .int .i64 zp, .string zs, .int .i64 zi, .slice zq1 zn1 zc1, .slice zq2 zn2 zc2, .slice zq3 zn3 zc3] 53) = W5 at *
      go_wp2_with (at_builtin; refine wpList_append_loc _ rfl (.tmp 25) (.tmp 27) 50 rfl w.heap.size 53 i0 (.agg #[.int .i64 0, .int .i64 0, .string ⟨#[]⟩, .int .i64 0, .slice none 0 0, .slice none 0 0, .slice none 0 0]) 7 112 Try.underlying50 I0.out I00.out I01.out I02.out rfl (by decide) _ vs.length _ rfl (HO2.out.alloc _) ⟨W5.heap.size, 0, none⟩ 1 1 [.int .i64 zk, .int .i64 zp, .string zs, .int .i64 zi, .slice zq1 zn1 zc1, .slice zq2 zn2 zc2, .slice zq3 zn3 zc3] rfl (by decide) rfl ?c1 ?c2 ?c3 ?c4 ?c5 ?_)
      case c1 => exact fun j u h => seven_at W5 _ _ _ _ _ _ _ _ j u h
      case c2 => intro u hu; simp only [List.mem_cons, List.not_mem_nil, or_false] at hu; rcases hu with rfl | rfl | rfl | rfl | rfl | rfl | rfl <;> rfl
      case c3 => have := HVL.out; unfold maxLen; omega
      case c4 => have := HVL.out; omega
      case c5 => simp; omega
      intro v6 w6 hown hgr hloc
      have hob : ∀ kk, (Value.slice pa vs.length ca).ownBlock = some kk → w.heap.size ≤ kk := fun kk hkk => (HO2.out.lt kk hkk).1
      have HB6 := hid ((HB2.out.alloc HB2.out.size (.cells #[.int .i64 zk, .int .i64 zp, .string zs, .int .i64 zi, .slice zq1 zn1 zc1, .slice zq2 zn2 zc2, .slice zq3 zn3 zc3] 53)).grown hgr (by have := HB2.out.size; simp; omega) (fun kk hkk => by have := hob kk hkk; omega))
      have hstep : ∀ z x, Kept (ExprAt f) w.heap.size W5 (Value.slice pa vs.length ca).ownBlock z x → Kept (ExprAt f) w.heap.size w6 v6.ownBlock z x := fun z x hk => (hk.below ((Below.refl _ _).alloc (Nat.le_refl _) (.cells #[.int .i64 zk, .int .i64 zp, .string zs, .int .i64 zi, .slice zq1 zn1 zc1, .slice zq2 zn2 zc2, .slice zq3 zn3 zc3] 53))).step hgr.size (fun b hb1 hb2 => hgr.block b hb1 (fun e => hb2 e.symm)) (by rw [World.size_alloc]; exact hloc)
      have hreps : Reps (Kept (ExprAt f) w.heap.size w6 v6.ownBlock) (vs ++ [.agg #[.int .i64 zk, .int .i64 zp, .string zs, .int .i64 zi, .slice zq1 zn1 zc1, .slice zq2 zn2 zc2, .slice zq3 zn3 zc3]]) (xs ++ [x]) := Reps.snoc (hstep _ _ HK1.out) (HRV2.out.1.mono hstep)
      rw [← cells7] at hown
      have HO6 := hid hown; have HR6 := hid hreps
      clear hown hgr hloc hob hstep hreps x0 x1 x2 x3 x4 x5 x6
      go_wp2
      go_roundw
      case rel => exact ⟨j + 1, vs ++ [.agg #[.int .i64 zk, .int .i64 zp, .string zs, .int .i64 zi, .slice zq1 zn1 zc1, .slice zq2 zn2 zc2, .slice zq3 zn3 zc3]], xs ++ [x], by go_num, by omega, HGD, hid (by have := HVL.out; simp [this]), hid ⟨HR6.out, fun u hu => (List.mem_append.1 hu).elim (fun h => HRV2.out.2 u h) (fun h => by rw [List.mem_singleton.1 h]; exact HSH.out)⟩, hid (by rw [List.length_append]; exact HO6.out), HB6⟩
      case measure => simp [intOf]; omega
  · have hje : j = l.length := by omega
    subst hje
    have he := HE.out
    rw [List.take_length] at he
    have HEE := hid he
    have HLX := hid (Reps.len HRV.out.1)
    obtain ⟨pa, ca, rfl⟩ := jF HO.out
    clear he
    go_wp2
    go_ret2
    exact jO HEE.out HB.out ⟨_, _, _, rfl⟩ (fun u hu => row_new HO.out HLX.out HRV.out.1 (fun v hv => shExpr_size (HRV.out.2 v hv)) u hu)
theorem expr_leaf_pure (f : Nat) (n : Px.Node) (hl : Px.jS n = false) :
 (n.tok.kind = 2 → Px.expr (f + 1) n = .ok (.mk 0 n.pos [] n.tok.int [] [] [])) ∧ (n.tok.kind = 4 → Px.expr (f + 1) n = .ok (.mk 2 n.pos n.text 0 [] [] [])) ∧
   (n.tok.kind ≠ 2 → n.tok.kind ≠ 4 → Px.expr (f + 1) n = match Px.name n with | .ok s => .ok (.mk 1 n.pos s 0 [] [] []) | .error p => .error p) := by
 have h0 : Px.expr (f + 1) n = if Px.isIntB n then .ok (.mk 0 n.pos [] n.tok.int [] [] []) else if Px.isConB n then .ok (.mk 2 n.pos n.text 0 [] [] []) else if Px.isNameB n then .ok (.mk 1 n.pos n.text 0 [] [] []) else .error n.pos := by
  rw [Px.expr, hl]; rfl
 have hi : Px.isIntB n = (n.tok.kind == 2) := rfl
 have hc : Px.isConB n = (n.tok.kind == 4) := rfl
 refine ⟨fun h2 => ?_, fun h4 => ?_, fun h2 h4 => ?_⟩
 · rw [h0, hi, h2]; simp
 · rw [h0, hi, hc, h4]; simp
 · have e2 : (n.tok.kind == 2) = false := beq_eq_false_iff_ne.2 h2
   have e4 : (n.tok.kind == 4) = false := beq_eq_false_iff_ne.2 h4
   rw [h0, hi, hc, e2, e4]
   unfold Px.name
   by_cases hn : Px.isNameB n = true
   · simp [hn]
   · simp [hn]
theorem new_leafE (f : Nat) (k : Nat) (w w' : World) (p : Nat) (s : List UInt8) (i : Int) : New (ExprAt (f + 1)) w w' (.agg #[.int .i64 k, .int .i64 p, .string ⟨s.toArray⟩, .int .i64 i, .slice none 0 0, .slice none 0 0, .slice none 0 0]) (.mk k p s i [] [] []) :=
 fun u hu => ⟨_, _, _, rfl, .inl ⟨rfl, none, 0, rfl⟩, .inl ⟨rfl, none, 0, rfl⟩, .inl ⟨rfl, none, 0, rfl⟩⟩
set_option maxHeartbeats 4000000 in
set_option maxRecDepth 100000 in
theorem atom_int (f : Nat) (n : Px.Node) (lv : Value) (w : World) (hg : Px.NodeGood n) (hl : Px.jS n = false) (hk : n.tok.kind = 2) : Calls Try.prog 54 #[nV n lv] w (RTold w (ExprAt (f + 1)) ShExpr (Px.expr (f + 1) n)) := by
 have hp := (expr_leaf_pure f n hl).1 hk
 have HNAME := hid (fun w => name_any n lv w hg)
 have HP := hid hp
 unfold nV at *
 rw [hl] at *
 clear hl hp hg
 rw [hk] at *
 clear hk
 go_enter Try.func54, Try.ntmps54
 obtain ⟨en, er, et, hb, hsz⟩ := ent3 w #[.int .i64 2, .int .i64 n.tok.pos, .string ⟨n.tok.text.toArray⟩, .int .i64 n.tok.int, .bool false, lv] #[.int .i64 0, .int .i64 0, .string ⟨#[]⟩, .int .i64 0, .slice none 0 0, .slice none 0 0, .slice none 0 0] #[.int .i64 0, .int .i64 n.tok.pos, .string ⟨#[]⟩, .int .i64 0, .slice none 0 0, .slice none 0 0, .slice none 0 0] 73 53 53
 have EN := hid en; have ER := hid er; have ET := hid et; have HB := hid hb
 replace hsz := Nat.le_of_eq hsz.symm
 clear en er et hb
 have enc0 := jA EN.out 0 _ rfl
 have enc1 := jA EN.out 1 _ rfl
 have enc2 := jA EN.out 2 _ rfl
 have enc3 := jA EN.out 3 _ rfl
 have enc4 := jA EN.out 4 _ rfl
 have enc5 := jA EN.out 5 _ rfl
 have enf := jD EN.out
 have etc0 := jA ET.out 0 _ rfl
 have etc1 := jA ET.out 1 _ rfl
 have etc2 := jA ET.out 2 _ rfl
 have etc3 := jA ET.out 3 _ rfl
 have etc4 := jA ET.out 4 _ rfl
 have etc5 := jA ET.out 5 _ rfl
 have etc6 := jA ET.out 6 _ rfl
 have etf := jD ET.out
 go_upto_region 4 with fail
 generalize hWW : ((w.alloc (.cells #[.int .i64 2, .int .i64 n.tok.pos, .string ⟨n.tok.text.toArray⟩, .int .i64 n.tok.int, .bool false, lv] 73)).alloc (.cells #[.int .i64 0, .int .i64 0, .string ⟨#[]⟩, .int .i64 0, .slice none 0 0, .slice none 0 0, .slice none 0 0] 53)).alloc (.cells #[.int .i64 0, .int .i64 n.tok.pos, .string ⟨#[]⟩, .int .i64 0, .slice none 0 0, .slice none 0 0, .slice none 0 0] 53) = w2 at *
 clear hWW
 go_cut [4] (fun s wx => s = .pointer (some ⟨w.heap.size + 2, 0, none⟩) ∧ wx = ((w2.setCell ⟨w.heap.size + 2, 0, none⟩ (.int .i64 0)).setCell ⟨w.heap.size + 2, 3, none⟩ (.int .i64 n.tok.int)).drew)
 case first =>
  go_region
  all_goals (try go_wp2_with fail)
  all_goals (go_meet; exact ⟨rfl, rfl⟩)
 case rest =>
 obtain ⟨rfl, rfl⟩ := hcut
 clear enc0 enc1 enc2 enc3 enc4 enc5 enf etc0 etc1 etc2 etc3 etc4 etc5 etc6 etf
 replace EN := hid (jB (jB (EN.out) (w.heap.size + 2) 0 (.int .i64 0) (by omega)) (w.heap.size + 2) 3 (.int .i64 n.tok.int) (by omega))
 replace ER := hid (jB (jB (ER.out) (w.heap.size + 2) 0 (.int .i64 0) (by omega)) (w.heap.size + 2) 3 (.int .i64 n.tok.int) (by omega))
 replace ET := hid (jG #[.int .i64 0, .int .i64 n.tok.pos, .string ⟨#[]⟩, .int .i64 n.tok.int, .slice none 0 0, .slice none 0 0, .slice none 0 0] (jG #[.int .i64 0, .int .i64 n.tok.pos, .string ⟨#[]⟩, .int .i64 0, .slice none 0 0, .slice none 0 0, .slice none 0 0] (ET.out) 0 (.int .i64 0) rfl) 3 (.int .i64 n.tok.int) rfl)
 replace HB := hid (Below.setCell (Below.setCell (HB.out) (p := ⟨w.heap.size + 2, 0, none⟩) (by dsimp only; omega) (.int .i64 0)) (p := ⟨w.heap.size + 2, 3, none⟩) (by dsimp only; omega) (.int .i64 n.tok.int))
 replace EN := ent_drew EN
 replace ER := ent_drew ER
 replace ET := ent_drew ET
 replace HB := hid (HB.out.drew)
 replace hsz : w.heap.size + 3 ≤ (((w2.setCell ⟨w.heap.size + 2, 0, none⟩ (.int .i64 0)).setCell ⟨w.heap.size + 2, 3, none⟩ (.int .i64 n.tok.int)).drew).heap.size := by simpa using hsz
 generalize (((w2.setCell ⟨w.heap.size + 2, 0, none⟩ (.int .i64 0)).setCell ⟨w.heap.size + 2, 3, none⟩ (.int .i64 n.tok.int)).drew) = wq at *
 have erc0 := jA ER.out 0 _ rfl
 have erc1 := jA ER.out 1 _ rfl
 have erc2 := jA ER.out 2 _ rfl
 have erc3 := jA ER.out 3 _ rfl
 have erc4 := jA ER.out 4 _ rfl
 have erc5 := jA ER.out 5 _ rfl
 have erc6 := jA ER.out 6 _ rfl
 have erf := jD ER.out
 have etc0 := jA ET.out 0 _ rfl
 have etc1 := jA ET.out 1 _ rfl
 have etc2 := jA ET.out 2 _ rfl
 have etc3 := jA ET.out 3 _ rfl
 have etc4 := jA ET.out 4 _ rfl
 have etc5 := jA ET.out 5 _ rfl
 have etc6 := jA ET.out 6 _ rfl
 have etf := jD ET.out
 go_wp2_with fail
 replace EN := hid (jB (jB (jB (jB (jB (jB (jB (EN.out) (w.heap.size + 1) 0 (.int .i64 0) (by omega)) (w.heap.size + 1) 1 (.int .i64 n.tok.pos) (by omega)) (w.heap.size + 1) 2 (.string ⟨#[]⟩) (by omega)) (w.heap.size + 1) 3 (.int .i64 n.tok.int) (by omega)) (w.heap.size + 1) 4 (.slice none 0 0) (by omega)) (w.heap.size + 1) 5 (.slice none 0 0) (by omega)) (w.heap.size + 1) 6 (.slice none 0 0) (by omega))
 replace ER := hid (jU (ER.out) (.int .i64 0) (.int .i64 n.tok.pos) (.string ⟨#[]⟩) (.int .i64 n.tok.int) (.slice none 0 0) (.slice none 0 0) (.slice none 0 0))
 replace ET := hid (jB (jB (jB (jB (jB (jB (jB (ET.out) (w.heap.size + 1) 0 (.int .i64 0) (by omega)) (w.heap.size + 1) 1 (.int .i64 n.tok.pos) (by omega)) (w.heap.size + 1) 2 (.string ⟨#[]⟩) (by omega)) (w.heap.size + 1) 3 (.int .i64 n.tok.int) (by omega)) (w.heap.size + 1) 4 (.slice none 0 0) (by omega)) (w.heap.size + 1) 5 (.slice none 0 0) (by omega)) (w.heap.size + 1) 6 (.slice none 0 0) (by omega))
 replace HB := hid (Below.setCell (Below.setCell (Below.setCell (Below.setCell (Below.setCell (Below.setCell (Below.setCell (HB.out) (p := ⟨w.heap.size + 1, 0, none⟩) (by dsimp only; omega) (.int .i64 0)) (p := ⟨w.heap.size + 1, 1, none⟩) (by dsimp only; omega) (.int .i64 n.tok.pos)) (p := ⟨w.heap.size + 1, 2, none⟩) (by dsimp only; omega) (.string ⟨#[]⟩)) (p := ⟨w.heap.size + 1, 3, none⟩) (by dsimp only; omega) (.int .i64 n.tok.int)) (p := ⟨w.heap.size + 1, 4, none⟩) (by dsimp only; omega) (.slice none 0 0)) (p := ⟨w.heap.size + 1, 5, none⟩) (by dsimp only; omega) (.slice none 0 0)) (p := ⟨w.heap.size + 1, 6, none⟩) (by dsimp only; omega) (.slice none 0 0))
 have r0 := jA ER.out 0 _ rfl
 have r1 := jA ER.out 1 _ rfl
 have r2 := jA ER.out 2 _ rfl
 have r3 := jA ER.out 3 _ rfl
 have r4 := jA ER.out 4 _ rfl
 have r5 := jA ER.out 5 _ rfl
 have r6 := jA ER.out 6 _ rfl
 refine bodyPost_ret (v := .tuple #[.agg #[.int .i64 0, .int .i64 n.tok.pos, .string ⟨#[]⟩, .int .i64 n.tok.int, .slice none 0 0, .slice none 0 0, .slice none 0 0], .int .i64 (-1)]) (by simp [results, Try.results54, go_sem, r0, r1, r2, r3, r4, r5, r6]) rfl ?_
 exact jO HP.out HB.out ⟨_, _, _, _, _, _, _, _, _, _, _, _, _, rfl⟩ (new_leafE f 0 _ _ n.tok.pos [] n.tok.int)
set_option maxHeartbeats 4000000 in
set_option maxRecDepth 100000 in
theorem atom_con (f : Nat) (n : Px.Node) (lv : Value) (w : World) (hg : Px.NodeGood n) (hl : Px.jS n = false) (hk : n.tok.kind = 4) : Calls Try.prog 54 #[nV n lv] w (RTold w (ExprAt (f + 1)) ShExpr (Px.expr (f + 1) n)) := by
 have hp := (expr_leaf_pure f n hl).2.1 hk
 have HNAME := hid (fun w => name_any n lv w hg)
 have HP := hid hp
 unfold nV at *
 rw [hl] at *
 clear hl hp hg
 rw [hk] at *
 clear hk
 go_enter Try.func54, Try.ntmps54
 obtain ⟨en, er, et, hb, hsz⟩ := ent3 w #[.int .i64 4, .int .i64 n.tok.pos, .string ⟨n.tok.text.toArray⟩, .int .i64 n.tok.int, .bool false, lv] #[.int .i64 0, .int .i64 0, .string ⟨#[]⟩, .int .i64 0, .slice none 0 0, .slice none 0 0, .slice none 0 0] #[.int .i64 0, .int .i64 n.tok.pos, .string ⟨#[]⟩, .int .i64 0, .slice none 0 0, .slice none 0 0, .slice none 0 0] 73 53 53
 have EN := hid en; have ER := hid er; have ET := hid et; have HB := hid hb
 replace hsz := Nat.le_of_eq hsz.symm
 clear en er et hb
 have enc0 := jA EN.out 0 _ rfl
 have enc1 := jA EN.out 1 _ rfl
 have enc2 := jA EN.out 2 _ rfl
 have enc3 := jA EN.out 3 _ rfl
 have enc4 := jA EN.out 4 _ rfl
 have enc5 := jA EN.out 5 _ rfl
 have enf := jD EN.out
 have etc0 := jA ET.out 0 _ rfl
 have etc1 := jA ET.out 1 _ rfl
 have etc2 := jA ET.out 2 _ rfl
 have etc3 := jA ET.out 3 _ rfl
 have etc4 := jA ET.out 4 _ rfl
 have etc5 := jA ET.out 5 _ rfl
 have etc6 := jA ET.out 6 _ rfl
 have etf := jD ET.out
 go_upto_region 7 with fail
 generalize hWW : ((w.alloc (.cells #[.int .i64 4, .int .i64 n.tok.pos, .string ⟨n.tok.text.toArray⟩, .int .i64 n.tok.int, .bool false, lv] 73)).alloc (.cells #[.int .i64 0, .int .i64 0, .string ⟨#[]⟩, .int .i64 0, .slice none 0 0, .slice none 0 0, .slice none 0 0] 53)).alloc (.cells #[.int .i64 0, .int .i64 n.tok.pos, .string ⟨#[]⟩, .int .i64 0, .slice none 0 0, .slice none 0 0, .slice none 0 0] 53) = w2 at *
 clear hWW
 go_cut [4] (fun s wx => s = .pointer (some ⟨w.heap.size + 2, 0, none⟩) ∧ wx = ((w2.setCell ⟨w.heap.size + 2, 0, none⟩ (.int .i64 2)).setCell ⟨w.heap.size + 2, 2, none⟩ (.string ⟨n.tok.text.toArray⟩)).drew)
 case first =>
  go_region
  all_goals (try go_wp2_with fail)
  all_goals (go_meet; exact ⟨rfl, rfl⟩)
 case rest =>
 obtain ⟨rfl, rfl⟩ := hcut
 clear enc0 enc1 enc2 enc3 enc4 enc5 enf etc0 etc1 etc2 etc3 etc4 etc5 etc6 etf
 replace EN := hid (jB (jB (EN.out) (w.heap.size + 2) 0 (.int .i64 2) (by omega)) (w.heap.size + 2) 2 (.string ⟨n.tok.text.toArray⟩) (by omega))
 replace ER := hid (jB (jB (ER.out) (w.heap.size + 2) 0 (.int .i64 2) (by omega)) (w.heap.size + 2) 2 (.string ⟨n.tok.text.toArray⟩) (by omega))
 replace ET := hid (jG #[.int .i64 2, .int .i64 n.tok.pos, .string ⟨n.tok.text.toArray⟩, .int .i64 0, .slice none 0 0, .slice none 0 0, .slice none 0 0] (jG #[.int .i64 2, .int .i64 n.tok.pos, .string ⟨#[]⟩, .int .i64 0, .slice none 0 0, .slice none 0 0, .slice none 0 0] (ET.out) 0 (.int .i64 2) rfl) 2 (.string ⟨n.tok.text.toArray⟩) rfl)
 replace HB := hid (Below.setCell (Below.setCell (HB.out) (p := ⟨w.heap.size + 2, 0, none⟩) (by dsimp only; omega) (.int .i64 2)) (p := ⟨w.heap.size + 2, 2, none⟩) (by dsimp only; omega) (.string ⟨n.tok.text.toArray⟩))
 replace EN := ent_drew EN
 replace ER := ent_drew ER
 replace ET := ent_drew ET
 replace HB := hid (HB.out.drew)
 replace hsz : w.heap.size + 3 ≤ (((w2.setCell ⟨w.heap.size + 2, 0, none⟩ (.int .i64 2)).setCell ⟨w.heap.size + 2, 2, none⟩ (.string ⟨n.tok.text.toArray⟩)).drew).heap.size := by simpa using hsz
 generalize (((w2.setCell ⟨w.heap.size + 2, 0, none⟩ (.int .i64 2)).setCell ⟨w.heap.size + 2, 2, none⟩ (.string ⟨n.tok.text.toArray⟩)).drew) = wq at *
 have erc0 := jA ER.out 0 _ rfl
 have erc1 := jA ER.out 1 _ rfl
 have erc2 := jA ER.out 2 _ rfl
 have erc3 := jA ER.out 3 _ rfl
 have erc4 := jA ER.out 4 _ rfl
 have erc5 := jA ER.out 5 _ rfl
 have erc6 := jA ER.out 6 _ rfl
 have erf := jD ER.out
 have etc0 := jA ET.out 0 _ rfl
 have etc1 := jA ET.out 1 _ rfl
 have etc2 := jA ET.out 2 _ rfl
 have etc3 := jA ET.out 3 _ rfl
 have etc4 := jA ET.out 4 _ rfl
 have etc5 := jA ET.out 5 _ rfl
 have etc6 := jA ET.out 6 _ rfl
 have etf := jD ET.out
 go_wp2_with fail
 replace EN := hid (jB (jB (jB (jB (jB (jB (jB (EN.out) (w.heap.size + 1) 0 (.int .i64 2) (by omega)) (w.heap.size + 1) 1 (.int .i64 n.tok.pos) (by omega)) (w.heap.size + 1) 2 (.string ⟨n.tok.text.toArray⟩) (by omega)) (w.heap.size + 1) 3 (.int .i64 0) (by omega)) (w.heap.size + 1) 4 (.slice none 0 0) (by omega)) (w.heap.size + 1) 5 (.slice none 0 0) (by omega)) (w.heap.size + 1) 6 (.slice none 0 0) (by omega))
 replace ER := hid (jU (ER.out) (.int .i64 2) (.int .i64 n.tok.pos) (.string ⟨n.tok.text.toArray⟩) (.int .i64 0) (.slice none 0 0) (.slice none 0 0) (.slice none 0 0))
 replace ET := hid (jB (jB (jB (jB (jB (jB (jB (ET.out) (w.heap.size + 1) 0 (.int .i64 2) (by omega)) (w.heap.size + 1) 1 (.int .i64 n.tok.pos) (by omega)) (w.heap.size + 1) 2 (.string ⟨n.tok.text.toArray⟩) (by omega)) (w.heap.size + 1) 3 (.int .i64 0) (by omega)) (w.heap.size + 1) 4 (.slice none 0 0) (by omega)) (w.heap.size + 1) 5 (.slice none 0 0) (by omega)) (w.heap.size + 1) 6 (.slice none 0 0) (by omega))
 replace HB := hid (Below.setCell (Below.setCell (Below.setCell (Below.setCell (Below.setCell (Below.setCell (Below.setCell (HB.out) (p := ⟨w.heap.size + 1, 0, none⟩) (by dsimp only; omega) (.int .i64 2)) (p := ⟨w.heap.size + 1, 1, none⟩) (by dsimp only; omega) (.int .i64 n.tok.pos)) (p := ⟨w.heap.size + 1, 2, none⟩) (by dsimp only; omega) (.string ⟨n.tok.text.toArray⟩)) (p := ⟨w.heap.size + 1, 3, none⟩) (by dsimp only; omega) (.int .i64 0)) (p := ⟨w.heap.size + 1, 4, none⟩) (by dsimp only; omega) (.slice none 0 0)) (p := ⟨w.heap.size + 1, 5, none⟩) (by dsimp only; omega) (.slice none 0 0)) (p := ⟨w.heap.size + 1, 6, none⟩) (by dsimp only; omega) (.slice none 0 0))
 have r0 := jA ER.out 0 _ rfl
 have r1 := jA ER.out 1 _ rfl
 have r2 := jA ER.out 2 _ rfl
 have r3 := jA ER.out 3 _ rfl
 have r4 := jA ER.out 4 _ rfl
 have r5 := jA ER.out 5 _ rfl
 have r6 := jA ER.out 6 _ rfl
 refine bodyPost_ret (v := .tuple #[.agg #[.int .i64 2, .int .i64 n.tok.pos, .string ⟨n.tok.text.toArray⟩, .int .i64 0, .slice none 0 0, .slice none 0 0, .slice none 0 0], .int .i64 (-1)]) (by simp [results, Try.results54, go_sem, r0, r1, r2, r3, r4, r5, r6]) rfl ?_
 exact jO HP.out HB.out ⟨_, _, _, _, _, _, _, _, _, _, _, _, _, rfl⟩ (new_leafE f 2 _ _ n.tok.pos n.tok.text 0)
set_option maxHeartbeats 4000000 in
set_option maxRecDepth 100000 in
theorem atom_name (f : Nat) (n : Px.Node) (lv : Value) (w : World) (hg : Px.NodeGood n) (hl : Px.jS n = false) (h2 : n.tok.kind ≠ 2) (h4 : n.tok.kind ≠ 4) : Calls Try.prog 54 #[nV n lv] w (RTold w (ExprAt (f + 1)) ShExpr (Px.expr (f + 1) n)) := by
 have hp := (expr_leaf_pure f n hl).2.2 h2 h4
 have HNAME := hid (fun w => name_any n lv w hg)
 have HP := hid hp
 unfold nV at *
 rw [hl] at *
 clear hl hp hg
 have e2 : (n.tok.kind == 2) = false := beq_eq_false_iff_ne.2 h2
 have e4 : (n.tok.kind == 4) = false := beq_eq_false_iff_ne.2 h4
 go_enter Try.func54, Try.ntmps54
 obtain ⟨en, er, et, hb, hsz⟩ := ent3 w #[.int .i64 n.tok.kind, .int .i64 n.tok.pos, .string ⟨n.tok.text.toArray⟩, .int .i64 n.tok.int, .bool false, lv] #[.int .i64 0, .int .i64 0, .string ⟨#[]⟩, .int .i64 0, .slice none 0 0, .slice none 0 0, .slice none 0 0] #[.int .i64 0, .int .i64 n.tok.pos, .string ⟨#[]⟩, .int .i64 0, .slice none 0 0, .slice none 0 0, .slice none 0 0] 73 53 53
 have EN := hid en; have ER := hid er; have ET := hid et; have HB := hid hb
 replace hsz := Nat.le_of_eq hsz.symm
 clear en er et hb
 have enc0 := jA EN.out 0 _ rfl
 have enc1 := jA EN.out 1 _ rfl
 have enc2 := jA EN.out 2 _ rfl
 have enc3 := jA EN.out 3 _ rfl
 have enc4 := jA EN.out 4 _ rfl
 have enc5 := jA EN.out 5 _ rfl
 have enf := jD EN.out
 go_wp2_with fail
 clear enc0 enc1 enc2 enc3 enc4 enc5 enf
 refine (HNAME.out _).mono ?_
 intro e w6 ht6
 cases hnm : Px.name n with
 | error p =>
   obtain ⟨z, rfl, ⟨zs, rfl⟩, hb⟩ := jN ht6 hnm
   replace hsz := Nat.le_trans hsz hb.size
   replace EN := hid (jC EN.out hb)
   replace ER := hid (jC ER.out hb)
   replace ET := hid (jC ET.out hb)
   replace HB := hid (HB.out.trans (hb.mono HB.out.size))
   clear hb
   have HNM := hid hnm; clear ht6 hnm
   have etc0 := jA ET.out 0 _ rfl
   have etc1 := jA ET.out 1 _ rfl
   have etc2 := jA ET.out 2 _ rfl
   have etc3 := jA ET.out 3 _ rfl
   have etc4 := jA ET.out 4 _ rfl
   have etc5 := jA ET.out 5 _ rfl
   have etc6 := jA ET.out 6 _ rfl
   have etf := jD ET.out
   go_upto_region 11 with fail
   clear etc0 etc1 etc2 etc3 etc4 etc5 etc6 etf
   replace EN := hid (jB (jB (EN.out) (w.heap.size + 2) 0 (.int .i64 1) (by omega)) (w.heap.size + 2) 2 (.string zs) (by omega))
   replace ER := hid (jB (jB (ER.out) (w.heap.size + 2) 0 (.int .i64 1) (by omega)) (w.heap.size + 2) 2 (.string zs) (by omega))
   replace ET := hid (jG #[.int .i64 1, .int .i64 n.tok.pos, .string zs, .int .i64 0, .slice none 0 0, .slice none 0 0, .slice none 0 0] (jG #[.int .i64 1, .int .i64 n.tok.pos, .string ⟨#[]⟩, .int .i64 0, .slice none 0 0, .slice none 0 0, .slice none 0 0] (ET.out) 0 (.int .i64 1) rfl) 2 (.string zs) rfl)
   replace HB := hid (Below.setCell (Below.setCell (HB.out) (p := ⟨w.heap.size + 2, 0, none⟩) (by dsimp only; omega) (.int .i64 1)) (p := ⟨w.heap.size + 2, 2, none⟩) (by dsimp only; omega) (.string zs))
   have erc0 := jA ER.out 0 _ rfl
   have erc1 := jA ER.out 1 _ rfl
   have erc2 := jA ER.out 2 _ rfl
   have erc3 := jA ER.out 3 _ rfl
   have erc4 := jA ER.out 4 _ rfl
   have erc5 := jA ER.out 5 _ rfl
   have erc6 := jA ER.out 6 _ rfl
   have erf := jD ER.out
   have etc0 := jA ET.out 0 _ rfl
   have etc1 := jA ET.out 1 _ rfl
   have etc2 := jA ET.out 2 _ rfl
   have etc3 := jA ET.out 3 _ rfl
   have etc4 := jA ET.out 4 _ rfl
   have etc5 := jA ET.out 5 _ rfl
   have etc6 := jA ET.out 6 _ rfl
   have etf := jD ET.out
   go_wp2_with fail
   replace EN := hid (jB (jB (jB (jB (jB (jB (jB (EN.out) (w.heap.size + 1) 0 (.int .i64 1) (by omega)) (w.heap.size + 1) 1 (.int .i64 n.tok.pos) (by omega)) (w.heap.size + 1) 2 (.string zs) (by omega)) (w.heap.size + 1) 3 (.int .i64 0) (by omega)) (w.heap.size + 1) 4 (.slice none 0 0) (by omega)) (w.heap.size + 1) 5 (.slice none 0 0) (by omega)) (w.heap.size + 1) 6 (.slice none 0 0) (by omega))
   replace ER := hid (jU (ER.out) (.int .i64 1) (.int .i64 n.tok.pos) (.string zs) (.int .i64 0) (.slice none 0 0) (.slice none 0 0) (.slice none 0 0))
   replace ET := hid (jB (jB (jB (jB (jB (jB (jB (ET.out) (w.heap.size + 1) 0 (.int .i64 1) (by omega)) (w.heap.size + 1) 1 (.int .i64 n.tok.pos) (by omega)) (w.heap.size + 1) 2 (.string zs) (by omega)) (w.heap.size + 1) 3 (.int .i64 0) (by omega)) (w.heap.size + 1) 4 (.slice none 0 0) (by omega)) (w.heap.size + 1) 5 (.slice none 0 0) (by omega)) (w.heap.size + 1) 6 (.slice none 0 0) (by omega))
   replace HB := hid (Below.setCell (Below.setCell (Below.setCell (Below.setCell (Below.setCell (Below.setCell (Below.setCell (HB.out) (p := ⟨w.heap.size + 1, 0, none⟩) (by dsimp only; omega) (.int .i64 1)) (p := ⟨w.heap.size + 1, 1, none⟩) (by dsimp only; omega) (.int .i64 n.tok.pos)) (p := ⟨w.heap.size + 1, 2, none⟩) (by dsimp only; omega) (.string zs)) (p := ⟨w.heap.size + 1, 3, none⟩) (by dsimp only; omega) (.int .i64 0)) (p := ⟨w.heap.size + 1, 4, none⟩) (by dsimp only; omega) (.slice none 0 0)) (p := ⟨w.heap.size + 1, 5, none⟩) (by dsimp only; omega) (.slice none 0 0)) (p := ⟨w.heap.size + 1, 6, none⟩) (by dsimp only; omega) (.slice none 0 0))
   have r0 := jA ER.out 0 _ rfl
   have r1 := jA ER.out 1 _ rfl
   have r2 := jA ER.out 2 _ rfl
   have r3 := jA ER.out 3 _ rfl
   have r4 := jA ER.out 4 _ rfl
   have r5 := jA ER.out 5 _ rfl
   have r6 := jA ER.out 6 _ rfl
   refine bodyPost_ret (v := .tuple #[.agg #[.int .i64 1, .int .i64 n.tok.pos, .string zs, .int .i64 0, .slice none 0 0, .slice none 0 0, .slice none 0 0], .int .i64 p]) (by simp [results, Try.results54, go_sem, r0, r1, r2, r3, r4, r5, r6]) rfl ?_
   exact jL (by rw [HP.out, HNM.out]) HB.out ⟨_, _, _, _, _, _, _, _, _, _, _, _, _, rfl⟩
 | ok s =>
   obtain ⟨z, rfl, _, hnew, hb⟩ := rtold_ok ht6 hnm
   obtain rfl := hnew.now
   replace hsz := Nat.le_trans hsz hb.size
   replace EN := hid (jC EN.out hb)
   replace ER := hid (jC ER.out hb)
   replace ET := hid (jC ET.out hb)
   replace HB := hid (HB.out.trans (hb.mono HB.out.size))
   clear hb
   have HNM := hid hnm; clear ht6 hnm hnew
   have etc0 := jA ET.out 0 _ rfl
   have etc1 := jA ET.out 1 _ rfl
   have etc2 := jA ET.out 2 _ rfl
   have etc3 := jA ET.out 3 _ rfl
   have etc4 := jA ET.out 4 _ rfl
   have etc5 := jA ET.out 5 _ rfl
   have etc6 := jA ET.out 6 _ rfl
   have etf := jD ET.out
   go_upto_region 11 with fail
   clear etc0 etc1 etc2 etc3 etc4 etc5 etc6 etf
   replace EN := hid (jB (jB (EN.out) (w.heap.size + 2) 0 (.int .i64 1) (by omega)) (w.heap.size + 2) 2 (.string ⟨s.toArray⟩) (by omega))
   replace ER := hid (jB (jB (ER.out) (w.heap.size + 2) 0 (.int .i64 1) (by omega)) (w.heap.size + 2) 2 (.string ⟨s.toArray⟩) (by omega))
   replace ET := hid (jG #[.int .i64 1, .int .i64 n.tok.pos, .string ⟨s.toArray⟩, .int .i64 0, .slice none 0 0, .slice none 0 0, .slice none 0 0] (jG #[.int .i64 1, .int .i64 n.tok.pos, .string ⟨#[]⟩, .int .i64 0, .slice none 0 0, .slice none 0 0, .slice none 0 0] (ET.out) 0 (.int .i64 1) rfl) 2 (.string ⟨s.toArray⟩) rfl)
   replace HB := hid (Below.setCell (Below.setCell (HB.out) (p := ⟨w.heap.size + 2, 0, none⟩) (by dsimp only; omega) (.int .i64 1)) (p := ⟨w.heap.size + 2, 2, none⟩) (by dsimp only; omega) (.string ⟨s.toArray⟩))
   have erc0 := jA ER.out 0 _ rfl
   have erc1 := jA ER.out 1 _ rfl
   have erc2 := jA ER.out 2 _ rfl
   have erc3 := jA ER.out 3 _ rfl
   have erc4 := jA ER.out 4 _ rfl
   have erc5 := jA ER.out 5 _ rfl
   have erc6 := jA ER.out 6 _ rfl
   have erf := jD ER.out
   have etc0 := jA ET.out 0 _ rfl
   have etc1 := jA ET.out 1 _ rfl
   have etc2 := jA ET.out 2 _ rfl
   have etc3 := jA ET.out 3 _ rfl
   have etc4 := jA ET.out 4 _ rfl
   have etc5 := jA ET.out 5 _ rfl
   have etc6 := jA ET.out 6 _ rfl
   have etf := jD ET.out
   go_wp2_with fail
   replace EN := hid (jB (jB (jB (jB (jB (jB (jB (EN.out) (w.heap.size + 1) 0 (.int .i64 1) (by omega)) (w.heap.size + 1) 1 (.int .i64 n.tok.pos) (by omega)) (w.heap.size + 1) 2 (.string ⟨s.toArray⟩) (by omega)) (w.heap.size + 1) 3 (.int .i64 0) (by omega)) (w.heap.size + 1) 4 (.slice none 0 0) (by omega)) (w.heap.size + 1) 5 (.slice none 0 0) (by omega)) (w.heap.size + 1) 6 (.slice none 0 0) (by omega))
   replace ER := hid (jU (ER.out) (.int .i64 1) (.int .i64 n.tok.pos) (.string ⟨s.toArray⟩) (.int .i64 0) (.slice none 0 0) (.slice none 0 0) (.slice none 0 0))
   replace ET := hid (jB (jB (jB (jB (jB (jB (jB (ET.out) (w.heap.size + 1) 0 (.int .i64 1) (by omega)) (w.heap.size + 1) 1 (.int .i64 n.tok.pos) (by omega)) (w.heap.size + 1) 2 (.string ⟨s.toArray⟩) (by omega)) (w.heap.size + 1) 3 (.int .i64 0) (by omega)) (w.heap.size + 1) 4 (.slice none 0 0) (by omega)) (w.heap.size + 1) 5 (.slice none 0 0) (by omega)) (w.heap.size + 1) 6 (.slice none 0 0) (by omega))
   replace HB := hid (Below.setCell (Below.setCell (Below.setCell (Below.setCell (Below.setCell (Below.setCell (Below.setCell (HB.out) (p := ⟨w.heap.size + 1, 0, none⟩) (by dsimp only; omega) (.int .i64 1)) (p := ⟨w.heap.size + 1, 1, none⟩) (by dsimp only; omega) (.int .i64 n.tok.pos)) (p := ⟨w.heap.size + 1, 2, none⟩) (by dsimp only; omega) (.string ⟨s.toArray⟩)) (p := ⟨w.heap.size + 1, 3, none⟩) (by dsimp only; omega) (.int .i64 0)) (p := ⟨w.heap.size + 1, 4, none⟩) (by dsimp only; omega) (.slice none 0 0)) (p := ⟨w.heap.size + 1, 5, none⟩) (by dsimp only; omega) (.slice none 0 0)) (p := ⟨w.heap.size + 1, 6, none⟩) (by dsimp only; omega) (.slice none 0 0))
   have r0 := jA ER.out 0 _ rfl
   have r1 := jA ER.out 1 _ rfl
   have r2 := jA ER.out 2 _ rfl
   have r3 := jA ER.out 3 _ rfl
   have r4 := jA ER.out 4 _ rfl
   have r5 := jA ER.out 5 _ rfl
   have r6 := jA ER.out 6 _ rfl
   refine bodyPost_ret (v := .tuple #[.agg #[.int .i64 1, .int .i64 n.tok.pos, .string ⟨s.toArray⟩, .int .i64 0, .slice none 0 0, .slice none 0 0, .slice none 0 0], .int .i64 (-1)]) (by simp [results, Try.results54, go_sem, r0, r1, r2, r3, r4, r5, r6]) rfl ?_
   exact jO (x := Px.Expr.mk 1 n.pos s 0 [] [] []) (by rw [HP.out, HNM.out]) HB.out ⟨_, _, _, _, _, _, _, _, _, _, _, _, _, rfl⟩ (new_leafE f 1 _ _ n.tok.pos s 0)
theorem atom_any (f : Nat) (n : Px.Node) (lv : Value) (w : World) (hg : Px.NodeGood n) (hl : Px.jS n = false) : Calls Try.prog 54 #[nV n lv] w (RTold w (ExprAt (f + 1)) ShExpr (Px.expr (f + 1) n)) := by
 by_cases h2 : n.tok.kind = 2
 · exact atom_int f n lv w hg hl h2
 · by_cases h4 : n.tok.kind = 4
   · exact atom_con f n lv w hg hl h4
   · exact atom_name f n lv w hg hl h2 h4
end Go.Proofs.Ytgoacbomphlhjaa

namespace Go.Proofs.Ytgoacbomphlhjaa
open Go.Lib (hid)
open List renaming getElem_toArray → jX, getElem_cons_succ → jY, getElem_cons_zero → jZ, setIfInBounds_toArray → JA, set_cons_zero → JB, set_cons_succ → JC
open Go Go.RowKit
theorem cellsOf_one {α : Type} (enc : α → Value) (h : ∀ x, (enc x).cells.toList = [enc x]) (l : List α) : cellsOf (l.map enc) = l.map enc := by
 induction l with
 | nil => rfl
 | cons a r ih =>
   have e : cellsOf ((a :: r).map enc) = (enc a).cells.toList ++ cellsOf (r.map enc) := by simp [cellsOf]
   rw [e, h, ih]; rfl
theorem reps_enc {α : Type} {enc : α → Value} : ∀ {us : List Value} {ys : List α}, Reps (fun v x => v = enc x) us ys → us = ys.map enc
 | [], [], _ => rfl
 | u :: us, y :: ys, h => by rw [List.map_cons, ← reps_enc h.2, h.1]
 | [], _ :: _, h => h.elim
 | _ :: _, [], h => h.elim
/-- What append makes of a list of the call's own and a row. -/
def Appd {α : Type} (enc : α → Value) (E : TypeId) (w : World) (base : Nat) (v : Value) (l : List α) (v' : Value) (w' : World) : Prop :=
 w'.ownsRow base E 1 v' l.length (l.map enc) ∧ w.grownBy w' v.ownBlock ∧ (v'.ownBlock = v.ownBlock ∨ ∀ g, v'.ownBlock = some g → w.heap.size ≤ g)
theorem step_append_one {α : Type} (enc : α → Value) (henc : ∀ x, (enc x).cells.toList = [enc x]) (hen1 : ∀ x, (enc x).oneCell' = true) (E : TypeId) (TL : TypeId) (ht : Try.prog.underlying TL = some (.slice E)) {z : Value} {bytes : Nat}
 (hinfo : (Try.prog.info? E).map (fun i => (i.zero, i.size, i.bytes)) = some (some z, 1, bytes)) (hzs : z.cells.size = 1) (hby : bytes ≤ 1000)
 {w : World} {ops : Array Oper} {o : Oper} {a : Act} {K : Act → World → Prop} {Q : Exit → Act → World → Prop} {X : Prop} (hgd : o.guard = none) (s x : Operand) (ho : o.op = .call { callee := .builtin .append, args := #[s, x], argTypes := #[TL, TL] })
 (base : Nat) (v : Value) (l : List α) (hs : a.eval s = v) (hown : w.ownsRow base E 1 v l.length (l.map enc)) (vx : Value) (hx : a.eval x = vx) (ys : List α) (hrow : RowAt 1 (fun v x => v = enc x) w vx ys) (hl : l.length + ys.length ≤ 1000000000) (hbase : base ≤ w.heap.size)
 (h : ∀ v' w', Appd enc E w base v (l ++ ys) v' w' → K (a.put o.dst v') w') : if Region.wanted o (yielded ops a.tmps) = true then Oper.wp Try.prog o a w K Q else X := by
 obtain ⟨i0, h0, h1, h2, h3⟩ := info_parts hinfo
 refine step_append_row (rep := fun v x => v = enc x) hgd s x TL ho base E i0 z 1 bytes ht h0 h1 h2 h3 hzs (by decide) v l.length (l.map enc) hs (by rw [cellsOf_one enc henc]; exact hown) vx hx ys hrow (fun u x hu c hc => ?_) (by unfold maxLen; omega) ?_ hbase ?_
 · subst hu; rw [henc] at hc; rw [List.mem_singleton.1 hc]; exact hen1 x
 · have : (l.length + ys.length) * bytes ≤ 1000000000 * 1000 := Nat.mul_le_mul hl hby
   omega
 · intro v' w' us hr hsz ho' hg hlc
   refine h v' w' ⟨?_, hg, hlc⟩
   have e := reps_enc hr
   subst e
   rw [← List.map_append, cellsOf_one enc henc] at ho'
   rw [List.length_append]
   exact ho'
theorem wpList_of_step {w : World} {ops : Array Oper} {rest : List Oper} {o : Oper} {a : Act} {Q : Exit → Act → World → Prop} (hgd : o.guard = none)
 (h : ∀ K : Act → World → Prop, (∀ b u, wpList Try.prog ops Q rest b u → K b u) → if Region.wanted o (yielded ops a.tmps) = true then Oper.wp Try.prog o a w K Q else False) : wpList Try.prog ops Q (o :: rest) a w := by
 refine wpList_plain hgd fun K hK => ?_
 have := h K hK
 rw [if_pos (by simp [Region.wanted, hgd])] at this
 exact this
def encS (s : Nm) : Value := .string ⟨s.toArray⟩
def encI (p : Nat) : Value := .int .i64 (p : Int)
theorem infoInt : (Try.prog.info? 3).map (fun i => (i.zero, i.size, i.bytes)) = some (some (.int .i64 0), 1, 8) := by kernel_rfl
/-- A list of texts, or numbers, of the call's own. -/
abbrev OwnS (w : World) (base : Nat) (v : Value) (l : List Nm) : Prop := w.ownsRow base 9 1 v l.length (l.map encS)
abbrev OwnI (w : World) (base : Nat) (v : Value) (l : List Nat) : Prop := w.ownsRow base 3 1 v l.length (l.map encI)
abbrev RowS (w : World) (v : Value) (l : List Nm) : Prop := RowAt 1 (StrAt w) w v l
abbrev RowI (w : World) (v : Value) (l : List Nat) : Prop := RowAt 1 (fun v p => v = encI p) w v l
theorem step_app_s {w : World} {ops : Array Oper} {o : Oper} {a : Act} {K : Act → World → Prop} {Q : Exit → Act → World → Prop} {X : Prop} (hgd : o.guard = none) (s x : Operand) (ho : o.op = .call { callee := .builtin .append, args := #[s, x], argTypes := #[41, 41] })
 (base : Nat) (v : Value) (l : List Nm) (hs : a.eval s = v) (hown : OwnS w base v l) (vx : Value) (hx : a.eval x = vx) (ys : List Nm) (hrow : RowS w vx ys) (hl : l.length + ys.length ≤ 1000000000) (hbase : base ≤ w.heap.size)
 (h : ∀ v' w', Appd encS 9 w base v (l ++ ys) v' w' → K (a.put o.dst v') w') : if Region.wanted o (yielded ops a.tmps) = true then Oper.wp Try.prog o a w K Q else X :=
 step_append_one encS (fun _ => rfl) (fun _ => rfl) 9 41 Try.underlying41 infoStr rfl (by decide) hgd s x ho base v l hs hown vx hx ys hrow hl hbase h
theorem list_app_s {w : World} {ops : Array Oper} {rest : List Oper} {o : Oper} {a : Act} {Q : Exit → Act → World → Prop} (hgd : o.guard = none) (s x : Operand) (ho : o.op = .call { callee := .builtin .append, args := #[s, x], argTypes := #[41, 41] })
 (base : Nat) (v : Value) (l : List Nm) (hs : a.eval s = v) (hown : OwnS w base v l) (vx : Value) (hx : a.eval x = vx) (ys : List Nm) (hrow : RowS w vx ys) (hl : l.length + ys.length ≤ 1000000000) (hbase : base ≤ w.heap.size)
 (h : ∀ v' w', Appd encS 9 w base v (l ++ ys) v' w' → wpList Try.prog ops Q rest (a.put o.dst v') w') : wpList Try.prog ops Q (o :: rest) a w :=
 wpList_of_step hgd fun K hK => step_app_s hgd s x ho base v l hs hown vx hx ys hrow hl hbase fun v' w' hA => hK _ _ (h v' w' hA)
theorem step_app_i {w : World} {ops : Array Oper} {o : Oper} {a : Act} {K : Act → World → Prop} {Q : Exit → Act → World → Prop} {X : Prop} (hgd : o.guard = none) (s x : Operand) (ho : o.op = .call { callee := .builtin .append, args := #[s, x], argTypes := #[33, 33] })
 (base : Nat) (v : Value) (l : List Nat) (hs : a.eval s = v) (hown : OwnI w base v l) (vx : Value) (hx : a.eval x = vx) (ys : List Nat) (hrow : RowI w vx ys) (hl : l.length + ys.length ≤ 1000000000) (hbase : base ≤ w.heap.size)
 (h : ∀ v' w', Appd encI 3 w base v (l ++ ys) v' w' → K (a.put o.dst v') w') : if Region.wanted o (yielded ops a.tmps) = true then Oper.wp Try.prog o a w K Q else X :=
 step_append_one encI (fun _ => rfl) (fun _ => rfl) 3 33 Try.underlying33 infoInt rfl (by decide) hgd s x ho base v l hs hown vx hx ys hrow hl hbase h
theorem list_app_i {w : World} {ops : Array Oper} {rest : List Oper} {o : Oper} {a : Act} {Q : Exit → Act → World → Prop} (hgd : o.guard = none) (s x : Operand) (ho : o.op = .call { callee := .builtin .append, args := #[s, x], argTypes := #[33, 33] })
 (base : Nat) (v : Value) (l : List Nat) (hs : a.eval s = v) (hown : OwnI w base v l) (vx : Value) (hx : a.eval x = vx) (ys : List Nat) (hrow : RowI w vx ys) (hl : l.length + ys.length ≤ 1000000000) (hbase : base ≤ w.heap.size)
 (h : ∀ v' w', Appd encI 3 w base v (l ++ ys) v' w' → wpList Try.prog ops Q rest (a.put o.dst v') w') : wpList Try.prog ops Q (o :: rest) a w :=
 wpList_of_step hgd fun K hK => step_app_i hgd s x ho base v l hs hown vx hx ys hrow hl hbase fun v' w' hA => hK _ _ (h v' w' hA)
/-- What an own list grew to: blocks below stay. -/
theorem Appd.below {α : Type} {enc : α → Value} {E : TypeId} {w w' : World} {base : Nat} {v v' : Value} {l l0 : List α} {B : Nat} {w0 : World} (h : Appd enc E w base v l v' w') (hown : w.ownsRow base E 1 v l0.length (l0.map enc)) (hb : Below B w0 w) (h1 : B ≤ w.heap.size) (h2 : B ≤ base) : Below B w0 w' :=
 hb.grown h.2.1 h1 (fun k hk => by have := (hown.lt k hk).1; omega)
theorem Appd.at {α : Type} {enc : α → Value} {E : TypeId} {w w' : World} {base : Nat} {v v' : Value} {l l0 : List α} (h : Appd enc E w base v l v' w') (hown : w.ownsRow base E 1 v l0.length (l0.map enc)) {g : Nat} {o : Obj} (he : w.heap[g]? = some o) (hg : g < base) : w'.heap[g]? = some o :=
 (h.2.1.block g (jK he) (fun e => by have := (hown.lt g e.symm).1; omega)).trans he
theorem rowS_own {w : World} {base n : Nat} {v : Value} {l : List Nm} (h : w.ownsRow base 9 1 v n (l.map encS)) (hn : n = l.length) : RowS w v l := by
 refine own_row (by rw [cellsOf_one encS (fun _ => rfl)]; exact h) hn ?_ (fun u hu => ?_)
 · clear h hn
   induction l with
   | nil => trivial
   | cons a r ih => exact ⟨rfl, ih⟩
 · obtain ⟨x, _, rfl⟩ := List.mem_map.1 hu; rfl
theorem rowI_own {w : World} {base n : Nat} {v : Value} {l : List Nat} (h : w.ownsRow base 3 1 v n (l.map encI)) (hn : n = l.length) : RowI w v l := by
 refine own_row (by rw [cellsOf_one encI (fun _ => rfl)]; exact h) hn ?_ (fun u hu => ?_)
 · clear h hn
   induction l with
   | nil => trivial
   | cons a r ih => exact ⟨rfl, ih⟩
 · obtain ⟨x, _, rfl⟩ := List.mem_map.1 hu; rfl
/-- A row that a call made. -/
def RNewS (w : World) (l : List Nm) (e : Ending) (w' : World) : Prop := ∃ v, e = .returned v ∧ Below w.heap.size w w' ∧ New (fun u => RowS u) w w' v l
theorem newS_own {w w' : World} {base n : Nat} {v : Value} {l : List Nm} (h : w'.ownsRow base 9 1 v n (l.map encS)) (hn : n = l.length) (hb : w.heap.size ≤ base) : New (fun u => RowS u) w w' v l :=
 fun u hu => rowS_own (own_stays h fun b hb' => hu b (by have := (h.lt b hb').1; omega) (h.lt b hb').2) hn
theorem patAt_sh {f : Nat} {w : World} {v : Value} {p : Px.Pat} (h : PatAt f w v p) : ∃ (a0 a1 : Int) (a2 : ByteArray) (a3 : Int) (q : Option Addr) (n c : Nat), v = .agg #[.int .i64 a0, .int .i64 a1, .string a2, .int .i64 a3, .slice q n c] := by
 cases f with
 | zero => exact h.elim
 | succ f =>
   cases p with | mk k p nm i xs =>
   obtain ⟨av, rfl, hr⟩ := h
   obtain ⟨q, c, rfl⟩ := hr.len
   exact ⟨_, _, _, _, _, _, _, rfl⟩
theorem exprAt_sh {f : Nat} {w : World} {v : Value} {x : Px.Expr} (h : ExprAt f w v x) : ShExpr v := by
 cases f with
 | zero => exact h.elim
 | succ f =>
   cases x with | mk k p nm i ns xs al =>
   obtain ⟨nv, xv, av, rfl, h1, h2, h3⟩ := h
   obtain ⟨q1, c1, rfl⟩ := h1.len
   obtain ⟨q2, c2, rfl⟩ := h2.len
   obtain ⟨q3, c3, rfl⟩ := h3.len
   exact ⟨_, _, _, _, _, _, _, _, _, _, _, _, _, rfl⟩
theorem jQ {w w' : World} {v : Value} {l : List Nm} (h : RowS w v l) (hb : Below w.heap.size w w') : RowS w' v l := h.mono hb (fun _ _ _ h => h)
theorem patAt_below : ∀ {f : Nat} {w w' : World} {v : Value} {p : Px.Pat}, PatAt f w v p → Below w.heap.size w w' → PatAt f w' v p := by
 intro f
 induction f with
 | zero => intro w w' v p h; exact h.elim
 | succ f ih =>
   intro w w' v p h hb
   cases p with | mk k p nm i xs =>
   obtain ⟨av, rfl, hr⟩ := h
   exact ⟨av, rfl, hr.mono hb (fun u x _ hu => ih hu hb)⟩
theorem exprAt_below : ∀ {f : Nat} {w w' : World} {v : Value} {x : Px.Expr}, ExprAt f w v x → Below w.heap.size w w' → ExprAt f w' v x := by
 intro f
 induction f with
 | zero => intro w w' v x h; exact h.elim
 | succ f ih =>
   intro w w' v x h hb
   cases x with | mk k p nm i ns xs al =>
   obtain ⟨nv, xv, av, rfl, h1, h2, h3⟩ := h
   refine ⟨nv, xv, av, rfl, jQ h1 hb, h2.mono hb (fun u x _ hu => ih hu hb), h3.mono hb (fun u x _ hu => ?_)⟩
   obtain ⟨a0, a1, a2, a3, a4, b0, b1, b2, b3, b4, b5, b6, rfl, hp, he⟩ := hu
   exact ⟨_, _, _, _, _, _, _, _, _, _, _, _, rfl, patAt_below hp hb, ih he hb⟩
end Go.Proofs.Ytgoacbomphlhjaa

namespace Go.Proofs.Ytgoacbomphlhjaa
open Go.Lib (hid)
open List renaming getElem_toArray → jX, getElem_cons_succ → jY, getElem_cons_zero → jZ, setIfInBounds_toArray → JA, set_cons_zero → JB, set_cons_succ → JC
open Go Go.RowKit
namespace Sx
def boundP : Nat → Px.Pat → List Nm
 | 0, _ => []
 | f + 1, .mk k _ nm _ xs => if k = 1 then [nm] else xs.flatMap (boundP f)
/-- Each once. -/
def once : List Nm → List Nm → List Nm
 | out, [] => out
 | out, s :: r => once (if out.contains s then out else out ++ [s]) r
/-- How much there is of a pattern, an expression. -/
def pw : Nat → Px.Pat → Nat
 | 0, _ => 0
 | f + 1, .mk _ _ nm _ xs => 1 + nm.length + (xs.map (pw f)).sum
def ew : Nat → Px.Expr → Nat
 | 0, _ => 0
 | f + 1, .mk _ _ nm _ ns xs al => 1 + nm.length + nw ns + (xs.map (ew f)).sum + (al.map fun a => pw f a.1 + ew f a.2).sum
theorem sum_take {α : Type} (g : α → Nat) (l : List α) (k : Nat) (x : α) (h : l[k]? = some x) : ((l.take k).map g).sum + g x ≤ (l.map g).sum := by
 obtain ⟨hk, rfl⟩ := List.getElem?_eq_some_iff.1 h
 conv => rhs; rw [← List.take_append_drop k l, List.drop_eq_getElem_cons hk]
 simp only [List.map_append, List.map_cons, List.sum_append, List.sum_cons]
 omega
theorem sum_mem {α : Type} (g : α → Nat) {l : List α} {x : α} (h : x ∈ l) : g x ≤ (l.map g).sum := by
 obtain ⟨k, hk⟩ := List.mem_iff_getElem?.1 h
 have := sum_take g l k x hk
 omega
theorem nw_flat {α : Type} (g : α → List Nm) (h : α → Nat) : ∀ (l : List α), (∀ x ∈ l, nw (g x) ≤ h x) → nw (l.flatMap g) ≤ (l.map h).sum
 | [], _ => by simp [nw]
 | a :: r, hx => by
   rw [List.flatMap_cons, nw_append, List.map_cons, List.sum_cons]
   have h1 := hx a (by simp)
   have h2 := nw_flat g h r (fun x hm => hx x (by simp [hm]))
   omega
theorem nw_bound : ∀ (f : Nat) (p : Px.Pat), nw (boundP f p) ≤ pw f p
 | 0, _ => by simp [boundP, nw]
 | f + 1, .mk k p nm i xs => by
   rw [boundP, pw]
   split
   · rw [nw_cons]; simp [nw]; omega
   · have := nw_flat (boundP f) (pw f) xs (fun x _ => nw_bound f x); omega
theorem flat_take {α : Type} (g : α → List Nm) (l : List α) (k : Nat) (x : α) (h : l[k]? = some x) : (l.take (k + 1)).flatMap g = (l.take k).flatMap g ++ g x := by
 rw [List.take_add_one, h]; simp
end Sx
end Go.Proofs.Ytgoacbomphlhjaa

namespace Go.Proofs.Ytgoacbomphlhjaa
open Go.Lib (hid)
open List renaming getElem_toArray → jX, getElem_cons_succ → jY, getElem_cons_zero → jZ, setIfInBounds_toArray → JA, set_cons_zero → JB, set_cons_succ → JC
open Go Go.RowKit
set_option maxHeartbeats 8000000 in
set_option maxRecDepth 100000 in
theorem expr_fn (f k : Nat) (n : Px.Node) (v : Value) (w : World) (hn : NdAt (k + 1) w v n) (hg : Px.NodeGood n) (hl : Px.jS n = true) (hw1 : Px.word n = [102, 110]) (hcall : ∀ v w1, NdAt (k + 1) w1 v n → Calls Try.prog 55 #[v] w1 (RTold w1 (ExprAt (f + 1)) ShExpr (Px.fnExpr (Px.expr f) n))) : Calls Try.prog 28 #[v] w (RTold w (ExprAt (f + 1)) ShExpr (Px.expr (f + 1) n)) := by
 have HN0 := hid hn
 obtain ⟨lv, rfl, hr⟩ := hn
 obtain ⟨q, c, rfl⟩ := hr.len
 have hp0 : Px.expr (f + 1) n = (if Px.word n = [102, 110] then Px.fnExpr (Px.expr f) n else if Px.word n = [108, 101, 116] then Px.letExpr (Px.expr f) n else if Px.word n = [99, 97, 115, 101] then Px.caseExpr f (Px.expr f) n else Px.plainExpr (Px.expr f) n) := by
  rw [Px.expr, if_pos hl]; rfl
 have HPE : Hid (Px.expr (f + 1) n = Px.fnExpr (Px.expr f) n) := hid (by rw [hp0, if_pos hw1])
 have HCALL := hid hcall; clear hcall
 have hh1 : Px.headB n [102, 110] = true := by rw [Px.head_eq hg [102, 110] (by decide) (by unfold Px.Plain; decide) (by decide)]; exact decide_eq_true hw1
 have HH1 := hid hh1
 have HHD := hid (fun w1 (hb : Below w.heap.size w w1) (s : List UInt8) => head_any (k + 1) n _ s w1 (HN0.out.below hb))
 clear hr hg hp0 hw1 hh1
 unfold nV at *
 rw [hl] at HN0 HHD ⊢
 clear hl
 go_enter Try.func28, Try.ntmps28
 obtain ⟨en, er, et, hb, hsz⟩ := ent3 w #[.int .i64 n.tok.kind, .int .i64 n.tok.pos, .string ⟨n.tok.text.toArray⟩, .int .i64 n.tok.int, .bool true, (.slice q n.list.length c)] #[.int .i64 0, .int .i64 0, .string ⟨#[]⟩, .int .i64 0, .slice none 0 0, .slice none 0 0, .slice none 0 0] #[.int .i64 0, .int .i64 n.tok.pos, .string ⟨#[]⟩, .int .i64 0, .slice none 0 0, .slice none 0 0, .slice none 0 0] 73 53 53
 have EN := hid en; have ER := hid er; have ET := hid et; have HB := hid hb
 replace hsz := Nat.le_of_eq hsz.symm
 clear en er et hb
 have enc0 := jA EN.out 0 _ rfl
 have enc1 := jA EN.out 1 _ rfl
 have enc2 := jA EN.out 2 _ rfl
 have enc3 := jA EN.out 3 _ rfl
 have enc4 := jA EN.out 4 _ rfl
 have enc5 := jA EN.out 5 _ rfl
 have enf := jD EN.out
 go_wp2_with fail
 clear enc0 enc1 enc2 enc3 enc4 enc5 enf
 refine (HHD.out _ HB.out [102, 110]).mono ?_
 rintro e wq1 ⟨rfl, hb⟩
 rw [HH1.out]
 replace hsz := Nat.le_trans hsz hb.size
 replace EN := hid (jC EN.out hb)
 replace ER := hid (jC ER.out hb)
 replace ET := hid (jC ET.out hb)
 replace HB := hid (HB.out.trans (hb.mono HB.out.size))
 clear hb
 have enc0 := jA EN.out 0 _ rfl
 have enc1 := jA EN.out 1 _ rfl
 have enc2 := jA EN.out 2 _ rfl
 have enc3 := jA EN.out 3 _ rfl
 have enc4 := jA EN.out 4 _ rfl
 have enc5 := jA EN.out 5 _ rfl
 have enf := jD EN.out
 go_wp2_with fail
 clear enc0 enc1 enc2 enc3 enc4 enc5 enf
 have HLO := hid hsz
 refine (HCALL.out _ _ (HN0.out.below HB.out)).mono ?_
 intro e w5 ht
 cases hx : Px.fnExpr (Px.expr f) n with
 | error p =>
   obtain ⟨z, rfl, ⟨xk, xp, xs2, xi, q1, n1, c1, q2, n2, c2, q3, n3, c3, rfl⟩, hb⟩ := jN ht hx
   have HX := hid hx
   replace hsz := Nat.le_trans hsz hb.size
   replace EN := hid (jC EN.out hb)
   replace ER := hid (jC ER.out hb)
   replace ET := hid (jC ET.out hb)
   replace HB := hid (HB.out.trans (hb.mono HB.out.size))
   clear hb
   clear ht hx EN ET
   have erc0 := jA ER.out 0 _ rfl
   have erc1 := jA ER.out 1 _ rfl
   have erc2 := jA ER.out 2 _ rfl
   have erc3 := jA ER.out 3 _ rfl
   have erc4 := jA ER.out 4 _ rfl
   have erc5 := jA ER.out 5 _ rfl
   have erc6 := jA ER.out 6 _ rfl
   have erf := jD ER.out
   go_wp2_with fail
   replace ER := hid (jU (ER.out) (.int .i64 xk) (.int .i64 xp) (.string xs2) (.int .i64 xi) (.slice q1 n1 c1) (.slice q2 n2 c2) (.slice q3 n3 c3))
   replace HB := hid (Below.setCell (Below.setCell (Below.setCell (Below.setCell (Below.setCell (Below.setCell (Below.setCell (HB.out) (p := ⟨w.heap.size + 1, 0, none⟩) (by dsimp only; omega) (.int .i64 xk)) (p := ⟨w.heap.size + 1, 1, none⟩) (by dsimp only; omega) (.int .i64 xp)) (p := ⟨w.heap.size + 1, 2, none⟩) (by dsimp only; omega) (.string xs2)) (p := ⟨w.heap.size + 1, 3, none⟩) (by dsimp only; omega) (.int .i64 xi)) (p := ⟨w.heap.size + 1, 4, none⟩) (by dsimp only; omega) (.slice q1 n1 c1)) (p := ⟨w.heap.size + 1, 5, none⟩) (by dsimp only; omega) (.slice q2 n2 c2)) (p := ⟨w.heap.size + 1, 6, none⟩) (by dsimp only; omega) (.slice q3 n3 c3))
   have r0 := jA ER.out 0 _ rfl
   have r1 := jA ER.out 1 _ rfl
   have r2 := jA ER.out 2 _ rfl
   have r3 := jA ER.out 3 _ rfl
   have r4 := jA ER.out 4 _ rfl
   have r5 := jA ER.out 5 _ rfl
   have r6 := jA ER.out 6 _ rfl
   refine bodyPost_ret (v := .tuple #[.agg #[.int .i64 xk, .int .i64 xp, .string xs2, .int .i64 xi, .slice q1 n1 c1, .slice q2 n2 c2, .slice q3 n3 c3], .int .i64 p]) (by simp [results, Try.results28, go_sem, r0, r1, r2, r3, r4, r5, r6]) rfl ?_
   exact jL (by rw [HPE.out, HX.out]) HB.out ⟨_, _, _, _, _, _, _, _, _, _, _, _, _, rfl⟩
 | ok x =>
   obtain ⟨z, rfl, ⟨xk, xp, xs2, xi, q1, n1, c1, q2, n2, c2, q3, n3, c3, rfl⟩, hnew, hb⟩ := rtold_ok ht hx
   have HX := hid hx; have HNEW := hid hnew
   have S1 := hid (Stay.refl wq1.heap.size w5)
   replace hsz := Nat.le_trans hsz hb.size
   replace EN := hid (jC EN.out hb)
   replace ER := hid (jC ER.out hb)
   replace ET := hid (jC ET.out hb)
   replace HB := hid (HB.out.trans (hb.mono HB.out.size))
   clear hb
   clear ht hx hnew EN ET
   have erc0 := jA ER.out 0 _ rfl
   have erc1 := jA ER.out 1 _ rfl
   have erc2 := jA ER.out 2 _ rfl
   have erc3 := jA ER.out 3 _ rfl
   have erc4 := jA ER.out 4 _ rfl
   have erc5 := jA ER.out 5 _ rfl
   have erc6 := jA ER.out 6 _ rfl
   have erf := jD ER.out
   go_wp2_with fail
   replace ER := hid (jU (ER.out) (.int .i64 xk) (.int .i64 xp) (.string xs2) (.int .i64 xi) (.slice q1 n1 c1) (.slice q2 n2 c2) (.slice q3 n3 c3))
   replace HB := hid (Below.setCell (Below.setCell (Below.setCell (Below.setCell (Below.setCell (Below.setCell (Below.setCell (HB.out) (p := ⟨w.heap.size + 1, 0, none⟩) (by dsimp only; omega) (.int .i64 xk)) (p := ⟨w.heap.size + 1, 1, none⟩) (by dsimp only; omega) (.int .i64 xp)) (p := ⟨w.heap.size + 1, 2, none⟩) (by dsimp only; omega) (.string xs2)) (p := ⟨w.heap.size + 1, 3, none⟩) (by dsimp only; omega) (.int .i64 xi)) (p := ⟨w.heap.size + 1, 4, none⟩) (by dsimp only; omega) (.slice q1 n1 c1)) (p := ⟨w.heap.size + 1, 5, none⟩) (by dsimp only; omega) (.slice q2 n2 c2)) (p := ⟨w.heap.size + 1, 6, none⟩) (by dsimp only; omega) (.slice q3 n3 c3))
   have r0 := jA ER.out 0 _ rfl
   have r1 := jA ER.out 1 _ rfl
   have r2 := jA ER.out 2 _ rfl
   have r3 := jA ER.out 3 _ rfl
   have r4 := jA ER.out 4 _ rfl
   have r5 := jA ER.out 5 _ rfl
   have r6 := jA ER.out 6 _ rfl
   refine bodyPost_ret (v := .tuple #[.agg #[.int .i64 xk, .int .i64 xp, .string xs2, .int .i64 xi, .slice q1 n1 c1, .slice q2 n2 c2, .slice q3 n3 c3], .int .i64 (-1)]) (by simp [results, Try.results28, go_sem, r0, r1, r2, r3, r4, r5, r6]) rfl ?_
   exact jO (x := x) (by rw [HPE.out, HX.out]) HB.out ⟨_, _, _, _, _, _, _, _, _, _, _, _, _, rfl⟩ (New.stay HNEW.out (by have := HLO.out; omega) (Stay.set (Stay.set (Stay.set (Stay.set (Stay.set (Stay.set (Stay.set (S1.out) (w.heap.size + 1) 0 _ (by have := HLO.out; omega)) (w.heap.size + 1) 1 _ (by have := HLO.out; omega)) (w.heap.size + 1) 2 _ (by have := HLO.out; omega)) (w.heap.size + 1) 3 _ (by have := HLO.out; omega)) (w.heap.size + 1) 4 _ (by have := HLO.out; omega)) (w.heap.size + 1) 5 _ (by have := HLO.out; omega)) (w.heap.size + 1) 6 _ (by have := HLO.out; omega)))
end Go.Proofs.Ytgoacbomphlhjaa
