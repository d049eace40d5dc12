/-
  The document's answers, layer 2: patterns.
-/
import Derived.Test.YtgoacbomphlhjaaP00
import Derived.Test.YtgoacbomphlhjaaP07
import Derived.Deep.DeepCutAuto
import Derived.BigRegion
set_option linter.unusedVariables false
set_option linter.unusedSimpArgs false
namespace Go.Proofs.Ytgoacbomphlhjaa
open Go.Lib (hid)
open List renaming getElem_toArray → jX, getElem_cons_succ → jY, getElem_cons_zero → jZ, setIfInBounds_toArray → JA, set_cons_zero → JB, set_cons_succ → JC
open Go Go.RowKit
def ShPat (v : Value) : Prop := ∃ (k p : Int) (s : ByteArray) (i : Int) (q : Option Addr) (n c : Nat), v = .agg #[.int .i64 k, .int .i64 p, .string s, .int .i64 i, .slice q n c]
theorem shPat_size {v : Value} (h : ShPat v) : v.cells.size = 5 := by
 obtain ⟨k, p, s, i, q, n, c, rfl⟩ := h; rfl
theorem infoPat : (Try.prog.info? 94).map (fun i => (i.zero, i.size, i.bytes)) = some (some (.agg #[.int .i64 0, .int .i64 0, .string ⟨#[]⟩, .int .i64 0, .slice none 0 0]), 5, 64) := by kernel_rfl
theorem five_at (w : World) (a0 a1 a2 a3 a4 : Value) (T : TypeId) (j : Nat) (u : Value) (h : ([a0, a1, a2, a3, a4] : List Value)[j]? = some u) :
 (w.alloc (.cells #[a0, a1, a2, a3, a4] T)).cell? ((⟨w.heap.size, 0, none⟩ : Addr).add j) = some u := by
 have e : (⟨w.heap.size, 0, none⟩ : Addr).add j = ⟨w.heap.size, j, none⟩ := by unfold Addr.add; split <;> simp_all
 rw [e, World.cell?_alloc_mark]
 simpa using h
theorem cells5 (vs : List Value) (a0 a1 a2 a3 a4 : Value) : cellsOf (vs ++ [.agg #[a0, a1, a2, a3, a4]]) = cellsOf vs ++ [a0, a1, a2, a3, a4] := by
 simp [cellsOf, Value.cells]
theorem set5_other (w : World) (g k : Nat) (a b c d e : Value) (h : k ≠ g) : (((((w.setCell ⟨g, 0, none⟩ a).setCell ⟨g, 1, none⟩ b).setCell ⟨g, 2, none⟩ c).setCell ⟨g, 3, none⟩ d).setCell ⟨g, 4, none⟩ e).heap[k]? = w.heap[k]? :=
 (Below.heap_setCell _ ⟨g, 4, none⟩ e k h).trans ((Below.heap_setCell _ ⟨g, 3, none⟩ d k h).trans (set3_other w g k a b c h))
set_option maxHeartbeats 8000000 in
set_option maxRecDepth 100000 in
theorem pat_list (f k : Nat) (n : Px.Node) (v : Value) (w : World) (hn : NdAt (k + 1) w v n) (hg : Px.NodeGood n) (hl : Px.jS n = true) (ih : ∀ m ∈ n.list, ∀ v w1, NdAt k w1 v m → Calls Try.prog 73 #[v] w1 (RTold w1 (PatAt f) ShPat (Px.pat f m))) : Calls Try.prog 73 #[v] w (RTold w (PatAt (f + 1)) ShPat (Px.pat (f + 1) n)) := by
 have HN0 := hid hn
 have HIH := hid ih
 obtain ⟨lv, rfl, hr⟩ := hn
 obtain ⟨q, c, rfl⟩ := hr.len
 have HR := hid hr
 have HG := hid hg
 have hp0 : Px.pat (f + 1) n = (match Px.nodes n 2 9 with
  | .error p => .error p
  | .ok l =>
    match Px.conName (l.headD n) with
    | .error p => .error p
    | .ok nm =>
      match Px.each (Px.pat f) l.tail with
      | .error p => .error p
      | .ok xs => .ok (.mk 3 n.pos nm 0 xs)) := by
  rw [Px.pat, if_pos hl]; rfl
 have HP := hid hp0
 have HS2 := hid (fun w1 (hb : Below w.heap.size w w1) => size_any (k + 1) n _ 2 9 w1 (HN0.out.below hb) (by omega) (by omega))
 clear hr hg hp0 ih
 unfold nV at *
 rw [hl] at *
 clear hl
 obtain ⟨i0, hi, hq0, hq1, hq2⟩ := info_parts infoPat
 have I0 := hid hi; have I00 := hid hq0; have I01 := hid hq1; have I02 := hid hq2
 clear hi hq0 hq1 hq2
 go_enter Try.func73, Try.ntmps73
 obtain ⟨en, er, et, hb, hsz⟩ := ent3 w #[.int .i64 n.tok.kind, .int .i64 n.tok.pos, .string ⟨n.tok.text.toArray⟩, .int .i64 n.tok.int, .bool true, (.slice q n.list.length c)] #[.int .i64 0, .int .i64 0, .string ⟨#[]⟩, .int .i64 0, .slice none 0 0] #[.int .i64 0, .int .i64 n.tok.pos, .string ⟨#[]⟩, .int .i64 0, .slice none 0 0] 73 94 94
 have EN := hid en; have ER := hid er; have ET := hid et; have HB := hid hb
 replace hsz := Nat.le_of_eq hsz.symm
 clear en er et hb
 go_wp2_with fail
 refine (HS2.out _ HB.out).mono ?_
 rintro e w1 ⟨rfl, hb⟩
 replace hsz := Nat.le_trans hsz hb.size
 replace EN := hid (jC EN.out hb)
 replace ER := hid (jC ER.out hb)
 replace ET := hid (jC ET.out hb)
 replace HB := hid (HB.out.trans (hb.mono HB.out.size))
 clear hb
 unfold sizeP
 cases hnd : Px.nodes n 2 9 with
 | error p =>
   dsimp only
   have hge : (p : Int) ≥ 0 := by omega
   have HND := hid hnd; clear hnd
   have erc0 := jA ER.out 0 _ rfl
   have erc1 := jA ER.out 1 _ rfl
   have erc2 := jA ER.out 2 _ rfl
   have erc3 := jA ER.out 3 _ rfl
   have erc4 := jA ER.out 4 _ rfl
   have erf := jD ER.out
   have etc0 := jA ET.out 0 _ rfl
   have etc1 := jA ET.out 1 _ rfl
   have etc2 := jA ET.out 2 _ rfl
   have etc3 := jA ET.out 3 _ rfl
   have etc4 := jA ET.out 4 _ rfl
   have etf := jD ET.out
   go_wp2_with fail
   replace EN := hid (jB (jB (jB (jB (jB (EN.out) (w.heap.size + 1) 0 (.int .i64 0) (by omega)) (w.heap.size + 1) 1 (.int .i64 n.tok.pos) (by omega)) (w.heap.size + 1) 2 (.string ⟨#[]⟩) (by omega)) (w.heap.size + 1) 3 (.int .i64 0) (by omega)) (w.heap.size + 1) 4 (.slice none 0 0) (by omega))
   replace ER := hid (ent_set5 (ER.out) (.int .i64 0) (.int .i64 n.tok.pos) (.string ⟨#[]⟩) (.int .i64 0) (.slice none 0 0))
   replace ET := hid (jB (jB (jB (jB (jB (ET.out) (w.heap.size + 1) 0 (.int .i64 0) (by omega)) (w.heap.size + 1) 1 (.int .i64 n.tok.pos) (by omega)) (w.heap.size + 1) 2 (.string ⟨#[]⟩) (by omega)) (w.heap.size + 1) 3 (.int .i64 0) (by omega)) (w.heap.size + 1) 4 (.slice none 0 0) (by omega))
   replace HB := hid (Below.setCell (Below.setCell (Below.setCell (Below.setCell (Below.setCell (HB.out) (p := ⟨w.heap.size + 1, 0, none⟩) (by dsimp only; omega) (.int .i64 0)) (p := ⟨w.heap.size + 1, 1, none⟩) (by dsimp only; omega) (.int .i64 n.tok.pos)) (p := ⟨w.heap.size + 1, 2, none⟩) (by dsimp only; omega) (.string ⟨#[]⟩)) (p := ⟨w.heap.size + 1, 3, none⟩) (by dsimp only; omega) (.int .i64 0)) (p := ⟨w.heap.size + 1, 4, none⟩) (by dsimp only; omega) (.slice none 0 0))
   have r0 := jA ER.out 0 _ rfl
   have r1 := jA ER.out 1 _ rfl
   have r2 := jA ER.out 2 _ rfl
   have r3 := jA ER.out 3 _ rfl
   have r4 := jA ER.out 4 _ rfl
   refine bodyPost_ret (v := .tuple #[.agg #[.int .i64 0, .int .i64 n.tok.pos, .string ⟨#[]⟩, .int .i64 0, .slice none 0 0], .int .i64 p]) (by simp [results, Try.results73, go_sem, r0, r1, r2, r3, r4]) rfl ?_
   exact jL (by rw [HP.out, HND.out]) HB.out ⟨_, _, _, _, _, _, _, rfl⟩
 | ok l =>
   dsimp only
   have hni := jW hnd
   have hll := hni.1
   have hlen2 := hni.2.1
   have hlen9 := hni.2.2.1
   clear hni
   subst hll
   obtain ⟨m, hm⟩ : ∃ m, n.list[0]? = some m := ⟨_, List.getElem?_eq_getElem (by omega)⟩
   have hhd : n.list.headD n = m := by
    cases hl : n.list with
    | nil => rw [hl] at hm; cases hm
    | cons a r => rw [hl] at hm; simpa using hm
   have hgm := HG.out.kid (List.mem_of_getElem? hm)
   replace HP := HP.out
   rw [hnd] at HP
   dsimp only at HP
   rw [hhd] at HP
   have HPP := hid HP
   rcases HR.out with ⟨h0, _⟩ | ⟨g, of, c', hv, g1, g2, g3⟩
   · rw [h0] at hlen2; simp at hlen2
   injection hv with hq1 _ hq2
   subst hq1; subst hq2
   obtain ⟨u, hu, _, hcell⟩ := g3 0 m hm
   obtain ⟨k1, kv, hk1, rfl, hkr, m0, m1, m2, m3, m4, m5⟩ := jR hu hcell
   simp only [Nat.zero_mul, Nat.add_zero] at m0 m1 m2 m3 m4 m5
   have HGM := hid hgm; have HG3 := hid g3; have M2 := hid m2; have HMM := hid hm
   have M0 := hid m0; have M1 := hid m1; have M3 := hid m3; have M4 := hid m4; have M5 := hid m5
   have hz0 : (0 : Int) < (n.list.length : Int) := by omega
   clear hu hcell hkr HP hhd hgm hnd m0 m1 m2 m3 m4 m5 g3 hm hlen2
   have enc0 := jA EN.out 0 _ rfl
   have enc1 := jA EN.out 1 _ rfl
   have enc2 := jA EN.out 2 _ rfl
   have enc3 := jA EN.out 3 _ rfl
   have enc4 := jA EN.out 4 _ rfl
   have enc5 := jA EN.out 5 _ rfl
   have enf := jD EN.out
   have etc0 := jA ET.out 0 _ rfl
   have etc1 := jA ET.out 1 _ rfl
   have etc2 := jA ET.out 2 _ rfl
   have etc3 := jA ET.out 3 _ rfl
   have etc4 := jA ET.out 4 _ rfl
   have etf := jD ET.out
   go_upto_region 18 with fail
   clear enc0 enc1 enc2 enc3 enc4 enc5 enf etc0 etc1 etc2 etc3 etc4 etf
   replace EN := hid (jB (EN.out) (w.heap.size + 2) 0 (.int .i64 3) (by omega))
   replace ER := hid (jB (ER.out) (w.heap.size + 2) 0 (.int .i64 3) (by omega))
   replace ET := hid (jG #[.int .i64 3, .int .i64 n.tok.pos, .string ⟨#[]⟩, .int .i64 0, .slice none 0 0] (ET.out) 0 (.int .i64 3) rfl)
   replace HB := hid (Below.setCell (HB.out) (p := ⟨w.heap.size + 2, 0, none⟩) (by dsimp only; omega) (.int .i64 3))
   replace hsz : w.heap.size + 3 ≤ (w1.setCell ⟨w.heap.size + 2, 0, none⟩ (.int .i64 3)).heap.size := by simpa using hsz
   generalize w1.setCell ⟨w.heap.size + 2, 0, none⟩ (.int .i64 3) = wy at *
   have n0 := jE HB.out M0.out
   have n1 := jE HB.out M1.out
   have n2 := jE HB.out M2.out
   have n3 := jE HB.out M3.out
   have n4 := jE HB.out M4.out
   have n5 := jE HB.out M5.out
   have enc0 := jA EN.out 0 _ rfl
   have enc1 := jA EN.out 1 _ rfl
   have enc2 := jA EN.out 2 _ rfl
   have enc3 := jA EN.out 3 _ rfl
   have enc4 := jA EN.out 4 _ rfl
   have enc5 := jA EN.out 5 _ rfl
   have enf := jD EN.out
   go_wp2_with fail
   clear enc0 enc1 enc2 enc3 enc4 enc5 enf
   clear n0 n1 n2 n3 n4 n5
   refine (con_any m kv _ HGM.out).mono ?_
   intro e w3 ht
   cases hcn : Px.conName m with
   | error p =>
     obtain ⟨z, rfl, ⟨zs, rfl⟩, hb⟩ := jN ht hcn
     have hge : (p : Int) ≥ 0 := by omega
     replace hsz := Nat.le_trans hsz hb.size
     replace EN := hid (jC EN.out hb)
     replace ER := hid (jC ER.out hb)
     replace ET := hid (jC ET.out hb)
     replace HB := hid (HB.out.trans (hb.mono HB.out.size))
     clear hb
     have HCN := hid hcn; clear ht hcn
     have etc0 := jA ET.out 0 _ rfl
     have etc1 := jA ET.out 1 _ rfl
     have etc2 := jA ET.out 2 _ rfl
     have etc3 := jA ET.out 3 _ rfl
     have etc4 := jA ET.out 4 _ rfl
     have etf := jD ET.out
     go_upto_region 19 with fail
     clear etc0 etc1 etc2 etc3 etc4 etf
     replace EN := hid (jB (EN.out) (w.heap.size + 2) 2 (.string zs) (by omega))
     replace ER := hid (jB (ER.out) (w.heap.size + 2) 2 (.string zs) (by omega))
     replace ET := hid (jG #[.int .i64 3, .int .i64 n.tok.pos, .string zs, .int .i64 0, .slice none 0 0] (ET.out) 2 (.string zs) rfl)
     replace HB := hid (Below.setCell (HB.out) (p := ⟨w.heap.size + 2, 2, none⟩) (by dsimp only; omega) (.string zs))
     replace hsz : w.heap.size + 3 ≤ (w3.setCell ⟨w.heap.size + 2, 2, none⟩ (.string zs)).heap.size := by simpa using hsz
     generalize w3.setCell ⟨w.heap.size + 2, 2, none⟩ (.string zs) = wz at *
     have erc0 := jA ER.out 0 _ rfl
     have erc1 := jA ER.out 1 _ rfl
     have erc2 := jA ER.out 2 _ rfl
     have erc3 := jA ER.out 3 _ rfl
     have erc4 := jA ER.out 4 _ rfl
     have erf := jD ER.out
     have etc0 := jA ET.out 0 _ rfl
     have etc1 := jA ET.out 1 _ rfl
     have etc2 := jA ET.out 2 _ rfl
     have etc3 := jA ET.out 3 _ rfl
     have etc4 := jA ET.out 4 _ rfl
     have etf := jD ET.out
     go_wp2_with fail
     replace EN := hid (jB (jB (jB (jB (jB (EN.out) (w.heap.size + 1) 0 (.int .i64 3) (by omega)) (w.heap.size + 1) 1 (.int .i64 n.tok.pos) (by omega)) (w.heap.size + 1) 2 (.string zs) (by omega)) (w.heap.size + 1) 3 (.int .i64 0) (by omega)) (w.heap.size + 1) 4 (.slice none 0 0) (by omega))
     replace ER := hid (ent_set5 (ER.out) (.int .i64 3) (.int .i64 n.tok.pos) (.string zs) (.int .i64 0) (.slice none 0 0))
     replace ET := hid (jB (jB (jB (jB (jB (ET.out) (w.heap.size + 1) 0 (.int .i64 3) (by omega)) (w.heap.size + 1) 1 (.int .i64 n.tok.pos) (by omega)) (w.heap.size + 1) 2 (.string zs) (by omega)) (w.heap.size + 1) 3 (.int .i64 0) (by omega)) (w.heap.size + 1) 4 (.slice none 0 0) (by omega))
     replace HB := hid (Below.setCell (Below.setCell (Below.setCell (Below.setCell (Below.setCell (HB.out) (p := ⟨w.heap.size + 1, 0, none⟩) (by dsimp only; omega) (.int .i64 3)) (p := ⟨w.heap.size + 1, 1, none⟩) (by dsimp only; omega) (.int .i64 n.tok.pos)) (p := ⟨w.heap.size + 1, 2, none⟩) (by dsimp only; omega) (.string zs)) (p := ⟨w.heap.size + 1, 3, none⟩) (by dsimp only; omega) (.int .i64 0)) (p := ⟨w.heap.size + 1, 4, none⟩) (by dsimp only; omega) (.slice none 0 0))
     have r0 := jA ER.out 0 _ rfl
     have r1 := jA ER.out 1 _ rfl
     have r2 := jA ER.out 2 _ rfl
     have r3 := jA ER.out 3 _ rfl
     have r4 := jA ER.out 4 _ rfl
     refine bodyPost_ret (v := .tuple #[.agg #[.int .i64 3, .int .i64 n.tok.pos, .string zs, .int .i64 0, .slice none 0 0], .int .i64 p]) (by simp [results, Try.results73, go_sem, r0, r1, r2, r3, r4]) rfl ?_
     exact jL (by rw [HPP.out, HCN.out]) HB.out ⟨_, _, _, _, _, _, _, rfl⟩
   | ok nm =>
     obtain ⟨z, rfl, _, hnew, hb⟩ := rtold_ok ht hcn
     obtain rfl := hnew.now
     replace hsz := Nat.le_trans hsz hb.size
     replace EN := hid (jC EN.out hb)
     replace ER := hid (jC ER.out hb)
     replace ET := hid (jC ET.out hb)
     replace HB := hid (HB.out.trans (hb.mono HB.out.size))
     clear hb
     have HPE := HPP.out
     rw [hcn] at HPE
     dsimp only at HPE
     have HPF := hid HPE
     clear ht hcn hnew HPE
     have etc0 := jA ET.out 0 _ rfl
     have etc1 := jA ET.out 1 _ rfl
     have etc2 := jA ET.out 2 _ rfl
     have etc3 := jA ET.out 3 _ rfl
     have etc4 := jA ET.out 4 _ rfl
     have etf := jD ET.out
     go_upto_region 19 with fail
     clear etc0 etc1 etc2 etc3 etc4 etf
     replace EN := hid (jB (EN.out) (w.heap.size + 2) 2 (.string ⟨nm.toArray⟩) (by omega))
     replace ER := hid (jB (ER.out) (w.heap.size + 2) 2 (.string ⟨nm.toArray⟩) (by omega))
     replace ET := hid (jG #[.int .i64 3, .int .i64 n.tok.pos, .string ⟨nm.toArray⟩, .int .i64 0, .slice none 0 0] (ET.out) 2 (.string ⟨nm.toArray⟩) rfl)
     replace HB := hid (Below.setCell (HB.out) (p := ⟨w.heap.size + 2, 2, none⟩) (by dsimp only; omega) (.string ⟨nm.toArray⟩))
     replace hsz : w.heap.size + 3 ≤ (w3.setCell ⟨w.heap.size + 2, 2, none⟩ (.string ⟨nm.toArray⟩)).heap.size := by simpa using hsz
     generalize w3.setCell ⟨w.heap.size + 2, 2, none⟩ (.string ⟨nm.toArray⟩) = wz at *
     go_wp2_with fail
     have hOWN : Hid (wz.ownsRow (w.heap.size + 3) 94 5 (.slice none 0 0) ([] : List Value).length (cellsOf [])) := hid (World.ownsRow_nil _ _ _ _)
     go_loopw [3, 8, 9, 10] (fun _ i _ _ wr => ∃ (j : Nat) (vs : List Value) (xs : List Px.Pat) (av : Value), i = .int .i64 (j + 1 : Nat) ∧ j + 1 ≤ n.list.length ∧ Hid (Px.each (Px.pat f) (n.list.tail.take j) = .ok xs) ∧ Hid (vs.length = j) ∧ Hid (Reps (Kept (PatAt f) (w.heap.size + 3) wr av.ownBlock) vs xs ∧ ∀ u ∈ vs, ShPat u) ∧ Hid (wr.ownsRow (w.heap.size + 3) 94 5 av vs.length (cellsOf vs)) ∧ w.heap.size + 3 ≤ wr.heap.size ∧ Hid (wr.heap[w.heap.size]? = some (.cells #[.int .i64 n.tok.kind, .int .i64 n.tok.pos, .string ⟨n.tok.text.toArray⟩, .int .i64 n.tok.int, .bool true, .slice (some ⟨g, of, none⟩) n.list.length c] 73 (0, 0))) ∧ Hid (wr.heap[w.heap.size + 1]? = some (.cells #[.int .i64 0, .int .i64 0, .string ⟨#[]⟩, .int .i64 0, .slice none 0 0] 94 (0, 0))) ∧ Hid (wr.heap[w.heap.size + 2]? = some (.cells #[.int .i64 3, .int .i64 n.tok.pos, .string ⟨nm.toArray⟩, .int .i64 0, av] 94 (0, 0))) ∧ Hid (Below w.heap.size w wr)) (fun _ i _ _ _ => n.list.length - (intOf i).toNat)
     case atStart => exact ⟨0, [], [], .slice none 0 0, rfl, by omega, hid (by simp [Px.each]), hid rfl, hid ⟨trivial, fun _ h => by cases h⟩, hOWN, hsz, EN, ER, ET, HB⟩
     case round =>
      clear EN ER ET HB hsz hOWN
      obtain ⟨j, vs, xs, av, rfl, hj, HE, HVL, HRV, HO, hsz, EN, ER, ET, HB⟩ := hrel
      have enc0 := jA EN.out 0 _ rfl
      have enc1 := jA EN.out 1 _ rfl
      have enc2 := jA EN.out 2 _ rfl
      have enc3 := jA EN.out 3 _ rfl
      have enc4 := jA EN.out 4 _ rfl
      have enc5 := jA EN.out 5 _ rfl
      have enf := jD EN.out
      by_cases hlt : j + 1 < n.list.length
      · obtain ⟨mj, hmj⟩ : ∃ mj, n.list[j + 1]? = some mj := ⟨_, List.getElem?_eq_getElem hlt⟩
        have htl : n.list.tail[j]? = some mj := by rw [List.getElem?_tail]; exact hmj
        have hstep := Px.each_take htl HE.out
        obtain ⟨u, hu, _, hcell⟩ := HG3.out (j + 1) mj hmj
        have HU := hid (hu.below HB.out)
        have hih := HIH.out mj (List.mem_of_getElem? hmj)
        obtain ⟨k2, kv2, hk2, rfl, hkr, m0, m1, m2, m3, m4, m5⟩ := jR hu hcell
        have n0 := jE HB.out m0
        have n1 := jE HB.out m1
        have n2 := jE HB.out m2
        have n3 := jE HB.out m3
        have n4 := jE HB.out m4
        have n5 := jE HB.out m5
        have HIHM := hid hih; have HST := hid hstep
        clear hu hcell hkr m0 m1 m2 m3 m4 m5 hih hstep htl hmj
        obtain ⟨pa, ca, rfl⟩ := jF HO.out
        go_wp2_with fail
        clear enc0 enc1 enc2 enc3 enc4 enc5 enf
        clear n0 n1 n2 n3 n4 n5
        refine (HIHM.out _ _ HU.out).mono ?_
        intro e w5 ht
        cases htm : Px.pat f mj with
        | error p =>
          obtain ⟨z, rfl, ⟨zk, zp, zs, zi, zq, zn, zc, rfl⟩, hb⟩ := jN ht htm
          have hge : (p : Int) ≥ 0 := by omega
          have hbd := HST.out.2 p htm
          have HBD := hid hbd
          replace hsz := Nat.le_trans hsz hb.size
          replace EN := hid (jC EN.out hb)
          replace ER := hid (jC ER.out hb)
          replace ET := hid (jC ET.out hb)
          replace HB := hid (HB.out.trans (hb.mono HB.out.size))
          clear hb
          replace EN := hid (jH EN.out (.cells #[.int .i64 zk, .int .i64 zp, .string zs, .int .i64 zi, .slice zq zn zc] 94))
          replace ER := hid (jH ER.out (.cells #[.int .i64 zk, .int .i64 zp, .string zs, .int .i64 zi, .slice zq zn zc] 94))
          replace ET := hid (jH ET.out (.cells #[.int .i64 zk, .int .i64 zp, .string zs, .int .i64 zi, .slice zq zn zc] 94))
          replace HB := hid (HB.out.alloc HB.out.size (.cells #[.int .i64 zk, .int .i64 zp, .string zs, .int .i64 zi, .slice zq zn zc] 94))
          clear ht htm hbd
          have erc0 := jA ER.out 0 _ rfl
          have erc1 := jA ER.out 1 _ rfl
          have erc2 := jA ER.out 2 _ rfl
          have erc3 := jA ER.out 3 _ rfl
          have erc4 := jA ER.out 4 _ rfl
          have erf := jD ER.out
          have etc0 := jA ET.out 0 _ rfl
          have etc1 := jA ET.out 1 _ rfl
          have etc2 := jA ET.out 2 _ rfl
          have etc3 := jA ET.out 3 _ rfl
          have etc4 := jA ET.out 4 _ rfl
          have etf := jD ET.out
          go_wp2_with fail
          replace EN := hid (jB (jB (jB (jB (jB (EN.out) (w.heap.size + 1) 0 (.int .i64 3) (by omega)) (w.heap.size + 1) 1 (.int .i64 n.tok.pos) (by omega)) (w.heap.size + 1) 2 (.string ⟨nm.toArray⟩) (by omega)) (w.heap.size + 1) 3 (.int .i64 0) (by omega)) (w.heap.size + 1) 4 (.slice pa vs.length ca) (by omega))
          replace ER := hid (ent_set5 (ER.out) (.int .i64 3) (.int .i64 n.tok.pos) (.string ⟨nm.toArray⟩) (.int .i64 0) (.slice pa vs.length ca))
          replace ET := hid (jB (jB (jB (jB (jB (ET.out) (w.heap.size + 1) 0 (.int .i64 3) (by omega)) (w.heap.size + 1) 1 (.int .i64 n.tok.pos) (by omega)) (w.heap.size + 1) 2 (.string ⟨nm.toArray⟩) (by omega)) (w.heap.size + 1) 3 (.int .i64 0) (by omega)) (w.heap.size + 1) 4 (.slice pa vs.length ca) (by omega))
          replace HB := hid (Below.setCell (Below.setCell (Below.setCell (Below.setCell (Below.setCell (HB.out) (p := ⟨w.heap.size + 1, 0, none⟩) (by dsimp only; omega) (.int .i64 3)) (p := ⟨w.heap.size + 1, 1, none⟩) (by dsimp only; omega) (.int .i64 n.tok.pos)) (p := ⟨w.heap.size + 1, 2, none⟩) (by dsimp only; omega) (.string ⟨nm.toArray⟩)) (p := ⟨w.heap.size + 1, 3, none⟩) (by dsimp only; omega) (.int .i64 0)) (p := ⟨w.heap.size + 1, 4, none⟩) (by dsimp only; omega) (.slice pa vs.length ca))
          have r0 := jA ER.out 0 _ rfl
          have r1 := jA ER.out 1 _ rfl
          have r2 := jA ER.out 2 _ rfl
          have r3 := jA ER.out 3 _ rfl
          have r4 := jA ER.out 4 _ rfl
          refine bodyPost_ret (v := .tuple #[.agg #[.int .i64 3, .int .i64 n.tok.pos, .string ⟨nm.toArray⟩, .int .i64 0, .slice pa vs.length ca], .int .i64 p]) (by simp [results, Try.results73, go_sem, r0, r1, r2, r3, r4]) rfl ?_
          exact jL (by rw [HPF.out, HBD.out]) HB.out ⟨_, _, _, _, _, _, _, rfl⟩
        | ok x =>
          obtain ⟨z, rfl, hsh, hnew, hb⟩ := rtold_ok ht htm
          have hgd := HST.out.1 x htm
          have HGD := hid hgd
          have hk1 := new_kept (base := w.heap.size + 3) (ob := (Value.slice pa vs.length ca).ownBlock) hnew hsz hb.size (fun g hg => (HO.out.lt g hg).2)
          have HK1 := hid hk1; have HO2 := hid (jJ HO.out hb); have HRV2 := hid (And.intro (HRV.out.1.mono fun z y h => h.below hb) HRV.out.2)
          have HSH := hid hsh
          obtain ⟨zk, zp, zs, zi, zq, zn, zc, rfl⟩ := hsh
          replace hsz := Nat.le_trans hsz hb.size
          replace EN := hid (jC EN.out hb)
          replace ER := hid (jC ER.out hb)
          replace ET := hid (jC ET.out hb)
          replace HB := hid (HB.out.trans (hb.mono HB.out.size))
          clear hb
          clear ht htm hgd hk1 hnew
          replace EN := hid (jH EN.out (.cells #[.int .i64 zk, .int .i64 zp, .string zs, .int .i64 zi, .slice zq zn zc] 94))
          replace ER := hid (jH ER.out (.cells #[.int .i64 zk, .int .i64 zp, .string zs, .int .i64 zi, .slice zq zn zc] 94))
          replace ET := hid (jH ET.out (.cells #[.int .i64 zk, .int .i64 zp, .string zs, .int .i64 zi, .slice zq zn zc] 94))
          replace HB := hid (HB.out.alloc HB.out.size (.cells #[.int .i64 zk, .int .i64 zp, .string zs, .int .i64 zi, .slice zq zn zc] 94))
          have hal : Below w5.heap.size w5 (w5.alloc (.cells #[.int .i64 zk, .int .i64 zp, .string zs, .int .i64 zi, .slice zq zn zc] 94)) := (Below.refl _ _).alloc (Nat.le_refl _) _
          replace HK1 := hid (HK1.out.below hal); replace HO2 := hid (jJ HO2.out hal); replace HRV2 := hid (And.intro (HRV2.out.1.mono fun z y h => h.below hal) HRV2.out.2)
          replace hsz := Nat.le_trans hsz hal.size
          have x0 : (w5.alloc (.cells #[.int .i64 zk, .int .i64 zp, .string zs, .int .i64 zi, .slice zq zn zc] 94)).cell? ⟨w5.heap.size, 0, none⟩ = some (.int .i64 zk) := by rw [World.cell?_alloc_mark]; rfl
          have x1 : (w5.alloc (.cells #[.int .i64 zk, .int .i64 zp, .string zs, .int .i64 zi, .slice zq zn zc] 94)).cell? ⟨w5.heap.size, 1, none⟩ = some (.int .i64 zp) := by rw [World.cell?_alloc_mark]; rfl
          have x2 : (w5.alloc (.cells #[.int .i64 zk, .int .i64 zp, .string zs, .int .i64 zi, .slice zq zn zc] 94)).cell? ⟨w5.heap.size, 2, none⟩ = some (.string zs) := by rw [World.cell?_alloc_mark]; rfl
          have x3 : (w5.alloc (.cells #[.int .i64 zk, .int .i64 zp, .string zs, .int .i64 zi, .slice zq zn zc] 94)).cell? ⟨w5.heap.size, 3, none⟩ = some (.int .i64 zi) := by rw [World.cell?_alloc_mark]; rfl
          have x4 : (w5.alloc (.cells #[.int .i64 zk, .int .i64 zp, .string zs, .int .i64 zi, .slice zq zn zc] 94)).cell? ⟨w5.heap.size, 4, none⟩ = some (.slice zq zn zc) := by rw [World.cell?_alloc_mark]; rfl
          clear hal
          have etc0 := jA ET.out 0 _ rfl
          have etc1 := jA ET.out 1 _ rfl
          have etc2 := jA ET.out 2 _ rfl
          have etc3 := jA ET.out 3 _ rfl
          have etc4 := jA ET.out 4 _ rfl
          have etf := jD ET.out
          go_upto_region 27 with fail
          clear etc0 etc1 etc2 etc3 etc4 etf
          generalize w5.alloc (.cells #[.int .i64 zk, .int .i64 zp, .string zs, .int .i64 zi, .slice zq zn zc] 94) = W5 at *
          have etc0 := jA ET.out 0 _ rfl
          have etc1 := jA ET.out 1 _ rfl
          have etc2 := jA ET.out 2 _ rfl
          have etc3 := jA ET.out 3 _ rfl
          have etc4 := jA ET.out 4 _ rfl
          have etf := jD ET.out
          go_wp2_with (at_builtin; refine wpList_append_loc _ rfl (.tmp 97) (.tmp 99) 92 rfl (w.heap.size + 3) 94 i0 (.agg #[.int .i64 0, .int .i64 0, .string ⟨#[]⟩, .int .i64 0, .slice none 0 0]) 5 64 Try.underlying92 I0.out I00.out I01.out I02.out rfl (by decide) _ vs.length _ rfl (HO2.out.alloc _) ⟨W5.heap.size, 0, none⟩ 1 1 [.int .i64 zk, .int .i64 zp, .string zs, .int .i64 zi, .slice zq zn zc] rfl (by decide) rfl ?c1 ?c2 ?c3 ?c4 ?c5 ?_)
          case c1 => exact fun j u h => five_at W5 _ _ _ _ _ _ j u h
          case c2 => intro u hu; simp only [List.mem_cons, List.not_mem_nil, or_false] at hu; rcases hu with rfl | rfl | rfl | rfl | rfl <;> rfl
          case c3 => have := HVL.out; unfold maxLen; omega
          case c4 => have := HVL.out; omega
          case c5 => simp; omega
          intro v6 w6 hown hgr hloc
          clear etc0 etc1 etc2 etc3 etc4 etf
          clear x0 x1 x2 x3 x4
          have hob : ∀ kk, (Value.slice pa vs.length ca).ownBlock = some kk → w.heap.size + 3 ≤ kk := fun kk hkk => (HO2.out.lt kk hkk).1
          replace EN := hid ((hgr.block (w.heap.size) (by have := jK EN.out; simp; omega) (fun e => by have := hob _ e.symm; omega)).trans (jH EN.out (.cells #[.int .i64 zk, .int .i64 zp, .string zs, .int .i64 zi, .slice zq zn zc] 94)))
          replace ER := hid ((hgr.block (w.heap.size + 1) (by have := jK ER.out; simp; omega) (fun e => by have := hob _ e.symm; omega)).trans (jH ER.out (.cells #[.int .i64 zk, .int .i64 zp, .string zs, .int .i64 zi, .slice zq zn zc] 94)))
          replace ET := hid ((hgr.block (w.heap.size + 2) (by have := jK ET.out; simp; omega) (fun e => by have := hob _ e.symm; omega)).trans (jH ET.out (.cells #[.int .i64 zk, .int .i64 zp, .string zs, .int .i64 zi, .slice zq zn zc] 94)))
          replace HB := hid ((HB.out.alloc HB.out.size (.cells #[.int .i64 zk, .int .i64 zp, .string zs, .int .i64 zi, .slice zq zn zc] 94)).grown hgr (by have := HB.out.size; simp; omega) (fun kk hkk => by have := hob kk hkk; omega))
          have hstep : ∀ z x, Kept (PatAt f) (w.heap.size + 3) W5 (Value.slice pa vs.length ca).ownBlock z x → Kept (PatAt f) (w.heap.size + 3) w6 v6.ownBlock z x := fun z x hk => (hk.below ((Below.refl _ _).alloc (Nat.le_refl _) (.cells #[.int .i64 zk, .int .i64 zp, .string zs, .int .i64 zi, .slice zq zn zc] 94))).step hgr.size (fun b hb1 hb2 => hgr.block b hb1 (fun e => hb2 e.symm)) (by rw [World.size_alloc]; exact hloc)
          have hreps : Reps (Kept (PatAt f) (w.heap.size + 3) w6 v6.ownBlock) (vs ++ [.agg #[.int .i64 zk, .int .i64 zp, .string zs, .int .i64 zi, .slice zq zn zc]]) (xs ++ [x]) := Reps.snoc (hstep _ _ HK1.out) (HRV2.out.1.mono hstep)
          rw [← cells5] at hown
          have hs6 : w.heap.size + 3 ≤ w6.heap.size := by have := hgr.size; simp at this; omega
          obtain ⟨p6, c6, rfl⟩ := jF hown
          have HO6 := hid hown; have HR6 := hid hreps
          clear hown hgr hloc hob hstep hreps hsz
          have etc0 := jA ET.out 0 _ rfl
          have etc1 := jA ET.out 1 _ rfl
          have etc2 := jA ET.out 2 _ rfl
          have etc3 := jA ET.out 3 _ rfl
          have etc4 := jA ET.out 4 _ rfl
          have etf := jD ET.out
          go_wp2
          replace EN := hid (jB (EN.out) (w.heap.size + 2) 4 (.slice p6 (vs.length + 1) c6) (by omega))
          replace ER := hid (jB (ER.out) (w.heap.size + 2) 4 (.slice p6 (vs.length + 1) c6) (by omega))
          replace ET := hid (jG #[.int .i64 3, .int .i64 n.tok.pos, .string ⟨nm.toArray⟩, .int .i64 0, .slice p6 (vs.length + 1) c6] (ET.out) 4 (.slice p6 (vs.length + 1) c6) rfl)
          replace HB := hid (Below.setCell (HB.out) (p := ⟨w.heap.size + 2, 4, none⟩) (by dsimp only; omega) (.slice p6 (vs.length + 1) c6))
          go_roundw
          case rel => exact ⟨j + 1, vs ++ [.agg #[.int .i64 zk, .int .i64 zp, .string zs, .int .i64 zi, .slice zq zn zc]], xs ++ [x], .slice p6 (vs.length + 1) c6, by go_num, by omega, HGD, hid (by have := HVL.out; simp [this]), hid ⟨HR6.out.mono fun z y h => kept_set h (by omega), fun u hu => (List.mem_append.1 hu).elim (fun h => HRV2.out.2 u h) (fun h => by rw [List.mem_singleton.1 h]; exact HSH.out)⟩, hid (by rw [List.length_append]; exact own_set HO6.out (by omega)), by simpa using hs6, EN, ER, ET, HB⟩
          case measure => simp [intOf]; omega
      · have hje : j = n.list.tail.length := by rw [List.length_tail]; omega
        have he := HE.out
        rw [hje, List.take_length] at he
        have HEE := hid he
        have HLX := hid (Reps.len HRV.out.1)
        obtain ⟨pa, ca, rfl⟩ := jF HO.out
        clear he hje
        clear enc0 enc1 enc2 enc3 enc4 enc5 enf
        have enc0 := jA EN.out 0 _ rfl
        have enc1 := jA EN.out 1 _ rfl
        have enc2 := jA EN.out 2 _ rfl
        have enc3 := jA EN.out 3 _ rfl
        have enc4 := jA EN.out 4 _ rfl
        have enc5 := jA EN.out 5 _ rfl
        have enf := jD EN.out
        have erc0 := jA ER.out 0 _ rfl
        have erc1 := jA ER.out 1 _ rfl
        have erc2 := jA ER.out 2 _ rfl
        have erc3 := jA ER.out 3 _ rfl
        have erc4 := jA ER.out 4 _ rfl
        have erf := jD ER.out
        have etc0 := jA ET.out 0 _ rfl
        have etc1 := jA ET.out 1 _ rfl
        have etc2 := jA ET.out 2 _ rfl
        have etc3 := jA ET.out 3 _ rfl
        have etc4 := jA ET.out 4 _ rfl
        have etf := jD ET.out
        go_wp2_with fail
        replace EN := hid (jB (jB (jB (jB (jB (EN.out) (w.heap.size + 1) 0 (.int .i64 3) (by omega)) (w.heap.size + 1) 1 (.int .i64 n.tok.pos) (by omega)) (w.heap.size + 1) 2 (.string ⟨nm.toArray⟩) (by omega)) (w.heap.size + 1) 3 (.int .i64 0) (by omega)) (w.heap.size + 1) 4 (.slice pa vs.length ca) (by omega))
        replace ER := hid (ent_set5 (ER.out) (.int .i64 3) (.int .i64 n.tok.pos) (.string ⟨nm.toArray⟩) (.int .i64 0) (.slice pa vs.length ca))
        replace ET := hid (jB (jB (jB (jB (jB (ET.out) (w.heap.size + 1) 0 (.int .i64 3) (by omega)) (w.heap.size + 1) 1 (.int .i64 n.tok.pos) (by omega)) (w.heap.size + 1) 2 (.string ⟨nm.toArray⟩) (by omega)) (w.heap.size + 1) 3 (.int .i64 0) (by omega)) (w.heap.size + 1) 4 (.slice pa vs.length ca) (by omega))
        replace HB := hid (Below.setCell (Below.setCell (Below.setCell (Below.setCell (Below.setCell (HB.out) (p := ⟨w.heap.size + 1, 0, none⟩) (by dsimp only; omega) (.int .i64 3)) (p := ⟨w.heap.size + 1, 1, none⟩) (by dsimp only; omega) (.int .i64 n.tok.pos)) (p := ⟨w.heap.size + 1, 2, none⟩) (by dsimp only; omega) (.string ⟨nm.toArray⟩)) (p := ⟨w.heap.size + 1, 3, none⟩) (by dsimp only; omega) (.int .i64 0)) (p := ⟨w.heap.size + 1, 4, none⟩) (by dsimp only; omega) (.slice pa vs.length ca))
        have r0 := jA ER.out 0 _ rfl
        have r1 := jA ER.out 1 _ rfl
        have r2 := jA ER.out 2 _ rfl
        have r3 := jA ER.out 3 _ rfl
        have r4 := jA ER.out 4 _ rfl
        refine bodyPost_ret (v := .tuple #[.agg #[.int .i64 3, .int .i64 n.tok.pos, .string ⟨nm.toArray⟩, .int .i64 0, .slice pa vs.length ca], .int .i64 (-1)]) (by simp [results, Try.results73, go_sem, r0, r1, r2, r3, r4]) rfl ?_
        exact jO (x := Px.Pat.mk 3 n.pos nm 0 xs) (by rw [HPF.out, HEE.out]) HB.out ⟨_, _, _, _, _, _, _, rfl⟩ (fun u hu => ⟨_, rfl, row_new HO.out HLX.out HRV.out.1 (fun v hv => shPat_size (HRV.out.2 v hv)) u (fun b h1 h2 => (hu b (by omega) (by simpa using h2)).trans (set5_other _ _ b _ _ _ _ _ (by omega)))⟩)
theorem tok_is (n : Px.Node) (lv : Value) (K : Int) (b : Bool) (w : World) (h : (!Px.jS n && n.tok.kind == K) = b) : Calls Try.prog 38 #[nV n lv, .int .i64 K] w fun e w' => e = .returned (.bool b) ∧ Below w.heap.size w w' := by
 rw [← h]; exact token_any n lv K w
theorem pat_leaf_pure (f : Nat) (n : Px.Node) (hg : Px.NodeGood n) (hl : Px.jS n = false) :
 (n.tok.kind = 5 → n.tok.text = [95] → Px.pat (f + 1) n = .ok (.mk 0 n.pos [] 0 [])) ∧ (n.tok.kind = 2 → Px.pat (f + 1) n = .ok (.mk 2 n.pos [] n.tok.int [])) ∧ (n.tok.kind = 4 → Px.pat (f + 1) n = .ok (.mk 3 n.pos n.text 0 [])) ∧
   (¬ (n.tok.kind = 5 ∧ n.tok.text = [95]) → n.tok.kind ≠ 2 → n.tok.kind ≠ 4 → Px.pat (f + 1) n = match Px.name n with | .ok s => .ok (.mk 1 n.pos s 0 []) | .error p => .error p) := by
 have h0 : Px.pat (f + 1) n = if Px.isIntB n then .ok (.mk 2 n.pos [] n.tok.int []) else if Px.isConB n then .ok (.mk 3 n.pos n.text 0 []) else if Px.isNameB n then .ok (.mk 1 n.pos n.text 0 []) else if n.text = [95] then .ok (.mk 0 n.pos [] 0 []) else .error n.pos := by
  rw [Px.pat, hl]; rfl
 have hi : Px.isIntB n = (n.tok.kind == 2) := rfl
 have hc : Px.isConB n = (n.tok.kind == 4) := rfl
 refine ⟨fun h5 ht => ?_, fun h2 => ?_, fun h4 => ?_, fun h5 h2 h4 => ?_⟩
 · have hnm : Px.isNameB n = false := by unfold Px.isNameB; rw [h5]; simp
   rw [h0, hi, hc, h5, hnm]
   have : n.text = [95] := ht
   simp [this]
 · rw [h0, hi, h2]; simp
 · rw [h0, hi, hc, h4]; simp
 · have e2 : (n.tok.kind == 2) = false := beq_eq_false_iff_ne.2 h2
   have e4 : (n.tok.kind == 4) = false := beq_eq_false_iff_ne.2 h4
   rw [h0, hi, hc, e2, e4]
   unfold Px.name
   by_cases hn : Px.isNameB n = true
   · simp [hn]
   · have ht : ¬ n.text = [95] := by
      intro ht
      have hk := Px.good_kind hg hl [95] ht (by unfold Px.Plain; simp)
      exact h5 ⟨hk, ht⟩
     simp [hn, ht]
end Go.Proofs.Ytgoacbomphlhjaa
