/-
  The document's answers, layer 2: data.
-/
import Derived.Test.YtgoacbomphlhjaaG14
namespace Go.Proofs.Ytgoacbomphlhjaa
open Go Go.RowKit
set_option linter.unusedVariables false
set_option linter.unusedSimpArgs false
def ConAt (f : Nat) (u : World) (v : Value) (x : Px.Con) : Prop := ∃ av, v = .agg #[.int .i64 x.pos, .string ⟨x.name.toArray⟩, av] ∧ RowAt 3 (TypeAt f u) u av x.fields
def DataAt (f : Nat) (u : World) (v : Value) (x : Px.Data) : Prop := ∃ nv cv : Value, v = .agg #[.int .i64 x.pos, .string ⟨x.name.toArray⟩, nv, cv] ∧ RowAt 1 (StrAt u) u nv x.params ∧ RowAt 3 (ConAt f u) u cv x.cons
def ShData (v : Value) : Prop := ∃ (p : Int) (s : ByteArray) (q0 : Option Addr) (n0 c0 : Nat) (q1 : Option Addr) (n1 c1 : Nat), v = .agg #[.int .i64 p, .string s, .slice q0 n0 c0, .slice q1 n1 c1]
theorem infoCon : (Try.prog.info? 47).map (fun i => (i.zero, i.size, i.bytes)) = some (some (.agg #[.int .i64 0, .string ⟨#[]⟩, .slice none 0 0]), 3, 48) := by kernel_rfl
theorem set4_other (w : World) (g k : Nat) (a b c d : Value) (h : k ≠ g) : ((((w.setCell ⟨g, 0, none⟩ a).setCell ⟨g, 1, none⟩ b).setCell ⟨g, 2, none⟩ c).setCell ⟨g, 3, none⟩ d).heap[k]? = w.heap[k]? := by
 rw [Below.heap_setCell _ ⟨g, 3, none⟩ d k h, Below.heap_setCell _ ⟨g, 2, none⟩ c k h, Below.heap_setCell _ ⟨g, 1, none⟩ b k h, Below.heap_setCell _ ⟨g, 0, none⟩ a k h]
set_option maxHeartbeats 16000000 in
set_option maxRecDepth 100000 in
theorem data_any (k : Nat) (hk50 : k ≤ 50) (n : Px.Node) (v : Value) (w : World) (hn : NdAt (k + 1) w v n) (hg : Px.NodeGood n) : Calls Try.prog 21 #[v] w (RTold w (DataAt 50) ShData (Px.data 50 n)) := by
 have HN0 := Lib.hid hn
 have HK50 := Lib.hid hk50
 obtain ⟨lv, rfl, hr⟩ := hn
 obtain ⟨q, c, rfl⟩ := hr.len
 have HR := Lib.hid hr
 have HG := Lib.hid hg
 have hp0 : Px.data 50 n = (match Px.nodes n 4 103 with
  | .error p => .error p
  | .ok l =>
    match Px.conName (l.getD 1 n) with
    | .error p => .error p
    | .ok s =>
      match Px.names (l.getD 2 n) 0 with
      | .error p => .error p
      | .ok ps =>
        match Px.each (Px.con 50) (l.drop 3) with
        | .error p => .error p
        | .ok cs => .ok ⟨n.pos, s, ps, cs⟩) := rfl
 have HP := Lib.hid hp0
 have HS2 := Lib.hid (fun w1 (hb : Below w.heap.size w w1) => size_any (k + 1) n _ 4 103 w1 (HN0.out.below hb) (by omega) (by omega))
 clear hr hg hp0 hk50
 unfold nV at *
 go_enter Try.func21, Try.ntmps21
 obtain ⟨en, er, et, hb, hsz⟩ := ent3 w #[.int .i64 n.tok.kind, .int .i64 n.tok.pos, .string ⟨n.tok.text.toArray⟩, .int .i64 n.tok.int, .bool (Px.isListB n), (.slice q n.list.length c)] #[.int .i64 0, .string ⟨#[]⟩, .slice none 0 0, .slice none 0 0] #[.int .i64 n.tok.pos, .string ⟨#[]⟩, .slice none 0 0, .slice none 0 0] 73 44 44
 have EN := Lib.hid en; have ER := Lib.hid er; have ET := Lib.hid et; have HB := Lib.hid hb
 replace hsz := Nat.le_of_eq hsz.symm
 clear en er et hb
 go_wp2_with fail
 refine (HS2.out _ HB.out).mono ?_
 rintro e w1 ⟨rfl, hb⟩
 replace hsz := Nat.le_trans hsz hb.size
 replace EN := Lib.hid (ent_below EN.out hb)
 replace ER := Lib.hid (ent_below ER.out hb)
 replace ET := Lib.hid (ent_below ET.out hb)
 replace HB := Lib.hid (HB.out.trans (hb.mono HB.out.size))
 clear hb
 unfold sizeP
 cases hnd : Px.nodes n 4 103 with
 | error p =>
   dsimp only
   have hge : (p : Int) ≥ 0 := by omega
   have HND := Lib.hid hnd; clear hnd
   have erc0 := ent_cell ER.out 0 _ rfl
   have erc1 := ent_cell ER.out 1 _ rfl
   have erc2 := ent_cell ER.out 2 _ rfl
   have erc3 := ent_cell ER.out 3 _ rfl
   have erf := ent_free ER.out
   have etc0 := ent_cell ET.out 0 _ rfl
   have etc1 := ent_cell ET.out 1 _ rfl
   have etc2 := ent_cell ET.out 2 _ rfl
   have etc3 := ent_cell ET.out 3 _ rfl
   have etf := ent_free ET.out
   go_wp2_with fail
   replace EN := Lib.hid (ent_other (ent_other (ent_other (ent_other (EN.out) (w.heap.size + 1) 0 (.int .i64 n.tok.pos) (by omega)) (w.heap.size + 1) 1 (.string ⟨#[]⟩) (by omega)) (w.heap.size + 1) 2 (.slice none 0 0) (by omega)) (w.heap.size + 1) 3 (.slice none 0 0) (by omega))
   replace ER := Lib.hid (ent_put #[.int .i64 n.tok.pos, .string ⟨#[]⟩, .slice none 0 0, .slice none 0 0] (ent_put #[.int .i64 n.tok.pos, .string ⟨#[]⟩, .slice none 0 0, .slice none 0 0] (ent_put #[.int .i64 n.tok.pos, .string ⟨#[]⟩, .slice none 0 0, .slice none 0 0] (ent_put #[.int .i64 n.tok.pos, .string ⟨#[]⟩, .slice none 0 0, .slice none 0 0] (ER.out) 0 (.int .i64 n.tok.pos) rfl) 1 (.string ⟨#[]⟩) rfl) 2 (.slice none 0 0) rfl) 3 (.slice none 0 0) rfl)
   replace ET := Lib.hid (ent_other (ent_other (ent_other (ent_other (ET.out) (w.heap.size + 1) 0 (.int .i64 n.tok.pos) (by omega)) (w.heap.size + 1) 1 (.string ⟨#[]⟩) (by omega)) (w.heap.size + 1) 2 (.slice none 0 0) (by omega)) (w.heap.size + 1) 3 (.slice none 0 0) (by omega))
   replace HB := Lib.hid (Below.setCell (Below.setCell (Below.setCell (Below.setCell (HB.out) (p := ⟨w.heap.size + 1, 0, none⟩) (by dsimp only; omega) (.int .i64 n.tok.pos)) (p := ⟨w.heap.size + 1, 1, none⟩) (by dsimp only; omega) (.string ⟨#[]⟩)) (p := ⟨w.heap.size + 1, 2, none⟩) (by dsimp only; omega) (.slice none 0 0)) (p := ⟨w.heap.size + 1, 3, none⟩) (by dsimp only; omega) (.slice none 0 0))
   have r0 := ent_cell ER.out 0 _ rfl
   have r1 := ent_cell ER.out 1 _ rfl
   have r2 := ent_cell ER.out 2 _ rfl
   have r3 := ent_cell ER.out 3 _ rfl
   refine bodyPost_ret (v := .tuple #[.agg #[.int .i64 n.tok.pos, .string ⟨#[]⟩, .slice none 0 0, .slice none 0 0], .int .i64 p]) (by simp [results, Try.results21, go_sem, r0, r1, r2, r3]) rfl ?_
   exact rtold_err (by rw [HP.out, HND.out]) HB.out ⟨_, _, _, _, _, _, _, _, rfl⟩
 | ok l =>
   dsimp only
   have hni := nodes_is hnd
   have hll := hni.1
   have hlen2 := hni.2.1
   have hlen9 := hni.2.2.1
   clear hni
   subst hll
   replace HP := HP.out
   rw [hnd] at HP
   dsimp only at HP
   rcases HR.out with ⟨h0, _⟩ | ⟨g, of, c', hv, g1, g2, g3⟩
   · rw [h0] at hlen2; simp at hlen2
   injection hv with hq1 _ hq2
   subst hq1; subst hq2
   obtain ⟨m1, hm⟩ : ∃ m, n.list[1]? = some m := ⟨_, List.getElem?_eq_getElem (by omega)⟩
   have hgtm1 : n.list.getD (1) n = m1 := by rw [List.getD_eq_getElem?_getD, hm]; rfl
   have HGm1 := Lib.hid (HG.out.kid (List.mem_of_getElem? hm))
   obtain ⟨u, hu, _, hcell⟩ := g3 (1) m1 hm
   obtain ⟨km1, kvm1, hkm1, hue, hkr, q0, q1, q2, q3, q4, q5⟩ := node_cells hu hcell
   subst hue
   have HMm1 := Lib.hid hm; have HVm1 := Lib.hid hu; have HKm1 := Lib.hid hkr
   try simp only [Nat.reduceMul, Nat.add_zero, Nat.zero_add] at q0 q1 q2 q3 q4 q5
   have m1q0 := Lib.hid q0; have m1q1 := Lib.hid q1; have m1q2 := Lib.hid q2; have m1q3 := Lib.hid q3; have m1q4 := Lib.hid q4; have m1q5 := Lib.hid q5
   clear hu hcell hkr q0 q1 q2 q3 q4 q5 hm
   obtain ⟨m2, hm⟩ : ∃ m, n.list[2]? = some m := ⟨_, List.getElem?_eq_getElem (by omega)⟩
   have hgtm2 : n.list.getD (2) n = m2 := by rw [List.getD_eq_getElem?_getD, hm]; rfl
   have HGm2 := Lib.hid (HG.out.kid (List.mem_of_getElem? hm))
   obtain ⟨u, hu, _, hcell⟩ := g3 (2) m2 hm
   obtain ⟨km2, kvm2, hkm2, hue, hkr, q0, q1, q2, q3, q4, q5⟩ := node_cells hu hcell
   subst hue
   have HMm2 := Lib.hid hm; have HVm2 := Lib.hid hu; have HKm2 := Lib.hid hkr
   try simp only [Nat.reduceMul, Nat.add_zero, Nat.zero_add] at q0 q1 q2 q3 q4 q5
   have m2q0 := Lib.hid q0; have m2q1 := Lib.hid q1; have m2q2 := Lib.hid q2; have m2q3 := Lib.hid q3; have m2q4 := Lib.hid q4; have m2q5 := Lib.hid q5
   clear hu hcell hkr q0 q1 q2 q3 q4 q5 hm
   rw [hgtm1, hgtm2] at HP
   have HPP := Lib.hid HP
   have HROW := Lib.hid g3
   have HLEN := Lib.hid (And.intro hlen2 hlen9)
   have HKK := Lib.hid hkm1
   have hz1 : (1 : Int) < (n.list.length : Int) := by omega
   have hz2 : (2 : Int) < (n.list.length : Int) := by omega
   have hz4 : (3 : Int) < (n.list.length : Int) := by omega
   have hz3 : (n.list.length : Int) ≤ (c : Int) := by omega
   clear HP hgtm1 hgtm2 hnd g1 g2 g3 hlen2 hlen9 hkm1 hkm2
   have n0 := cell_up HB.out m1q0.out
   have n1 := cell_up HB.out m1q1.out
   have n2 := cell_up HB.out m1q2.out
   have n3 := cell_up HB.out m1q3.out
   have n4 := cell_up HB.out m1q4.out
   have n5 := cell_up HB.out m1q5.out
   have enc0 := ent_cell EN.out 0 _ rfl
   have enc1 := ent_cell EN.out 1 _ rfl
   have enc2 := ent_cell EN.out 2 _ rfl
   have enc3 := ent_cell EN.out 3 _ rfl
   have enc4 := ent_cell EN.out 4 _ rfl
   have enc5 := ent_cell EN.out 5 _ rfl
   have enf := ent_free EN.out
   go_wp2_with fail
   clear enc0 enc1 enc2 enc3 enc4 enc5 enf
   clear n0 n1 n2 n3 n4 n5
   refine (con_any m1 _ _ HGm1.out).mono ?_
   intro e w2 ht
   cases hs1 : Px.conName m1 with
   | error p =>
     obtain ⟨z, rfl, ⟨zs, rfl⟩, hb⟩ := rtold_bad ht hs1
     have hge : (p : Int) ≥ 0 := by omega
     have HX1 := Lib.hid hs1
     replace hsz := Nat.le_trans hsz hb.size
     replace EN := Lib.hid (ent_below EN.out hb)
     replace ER := Lib.hid (ent_below ER.out hb)
     replace ET := Lib.hid (ent_below ET.out hb)
     replace HB := Lib.hid (HB.out.trans (hb.mono HB.out.size))
     clear hb
     clear ht hs1
     have etc0 := ent_cell ET.out 0 _ rfl
     have etc1 := ent_cell ET.out 1 _ rfl
     have etc2 := ent_cell ET.out 2 _ rfl
     have etc3 := ent_cell ET.out 3 _ rfl
     have etf := ent_free ET.out
     go_upto_region 6 with fail
     clear etc0 etc1 etc2 etc3 etf
     replace EN := Lib.hid (ent_other (EN.out) (w.heap.size + 2) 1 (.string zs) (by omega))
     replace ER := Lib.hid (ent_other (ER.out) (w.heap.size + 2) 1 (.string zs) (by omega))
     replace ET := Lib.hid (ent_put #[.int .i64 n.tok.pos, .string zs, .slice none 0 0, .slice none 0 0] (ET.out) 1 (.string zs) rfl)
     replace HB := Lib.hid (Below.setCell (HB.out) (p := ⟨w.heap.size + 2, 1, none⟩) (by dsimp only; omega) (.string zs))
     replace hsz : w.heap.size + 3 ≤ (w2.setCell ⟨w.heap.size + 2, 1, none⟩ (.string zs)).heap.size := by simpa using hsz
     generalize w2.setCell ⟨w.heap.size + 2, 1, none⟩ (.string zs) = wz at EN ER ET HB hsz ⊢
     have erc0 := ent_cell ER.out 0 _ rfl
     have erc1 := ent_cell ER.out 1 _ rfl
     have erc2 := ent_cell ER.out 2 _ rfl
     have erc3 := ent_cell ER.out 3 _ rfl
     have erf := ent_free ER.out
     have etc0 := ent_cell ET.out 0 _ rfl
     have etc1 := ent_cell ET.out 1 _ rfl
     have etc2 := ent_cell ET.out 2 _ rfl
     have etc3 := ent_cell ET.out 3 _ rfl
     have etf := ent_free ET.out
     go_wp2_with fail
     replace EN := Lib.hid (ent_other (ent_other (ent_other (ent_other (EN.out) (w.heap.size + 1) 0 (.int .i64 n.tok.pos) (by omega)) (w.heap.size + 1) 1 (.string zs) (by omega)) (w.heap.size + 1) 2 (.slice none 0 0) (by omega)) (w.heap.size + 1) 3 (.slice none 0 0) (by omega))
     replace ER := Lib.hid (ent_put #[.int .i64 n.tok.pos, .string zs, .slice none 0 0, .slice none 0 0] (ent_put #[.int .i64 n.tok.pos, .string zs, .slice none 0 0, .slice none 0 0] (ent_put #[.int .i64 n.tok.pos, .string zs, .slice none 0 0, .slice none 0 0] (ent_put #[.int .i64 n.tok.pos, .string ⟨#[]⟩, .slice none 0 0, .slice none 0 0] (ER.out) 0 (.int .i64 n.tok.pos) rfl) 1 (.string zs) rfl) 2 (.slice none 0 0) rfl) 3 (.slice none 0 0) rfl)
     replace ET := Lib.hid (ent_other (ent_other (ent_other (ent_other (ET.out) (w.heap.size + 1) 0 (.int .i64 n.tok.pos) (by omega)) (w.heap.size + 1) 1 (.string zs) (by omega)) (w.heap.size + 1) 2 (.slice none 0 0) (by omega)) (w.heap.size + 1) 3 (.slice none 0 0) (by omega))
     replace HB := Lib.hid (Below.setCell (Below.setCell (Below.setCell (Below.setCell (HB.out) (p := ⟨w.heap.size + 1, 0, none⟩) (by dsimp only; omega) (.int .i64 n.tok.pos)) (p := ⟨w.heap.size + 1, 1, none⟩) (by dsimp only; omega) (.string zs)) (p := ⟨w.heap.size + 1, 2, none⟩) (by dsimp only; omega) (.slice none 0 0)) (p := ⟨w.heap.size + 1, 3, none⟩) (by dsimp only; omega) (.slice none 0 0))
     have r0 := ent_cell ER.out 0 _ rfl
     have r1 := ent_cell ER.out 1 _ rfl
     have r2 := ent_cell ER.out 2 _ rfl
     have r3 := ent_cell ER.out 3 _ rfl
     refine bodyPost_ret (v := .tuple #[.agg #[.int .i64 n.tok.pos, .string zs, .slice none 0 0, .slice none 0 0], .int .i64 p]) (by simp [results, Try.results21, go_sem, r0, r1, r2, r3]) rfl ?_
     exact rtold_err (by rw [HPP.out, HX1.out]) HB.out ⟨_, _, _, _, _, _, _, _, rfl⟩
   | ok s =>
     obtain ⟨z, rfl, _, hnew, hb⟩ := rtold_ok ht hs1
     obtain rfl : z = .string ⟨s.toArray⟩ := hnew.now
     have HX1 := Lib.hid hs1
     replace hsz := Nat.le_trans hsz hb.size
     replace EN := Lib.hid (ent_below EN.out hb)
     replace ER := Lib.hid (ent_below ER.out hb)
     replace ET := Lib.hid (ent_below ET.out hb)
     replace HB := Lib.hid (HB.out.trans (hb.mono HB.out.size))
     clear hb
     clear ht hs1 hnew
     have etc0 := ent_cell ET.out 0 _ rfl
     have etc1 := ent_cell ET.out 1 _ rfl
     have etc2 := ent_cell ET.out 2 _ rfl
     have etc3 := ent_cell ET.out 3 _ rfl
     have etf := ent_free ET.out
     go_upto_region 6 with fail
     clear etc0 etc1 etc2 etc3 etf
     replace EN := Lib.hid (ent_other (EN.out) (w.heap.size + 2) 1 (.string ⟨s.toArray⟩) (by omega))
     replace ER := Lib.hid (ent_other (ER.out) (w.heap.size + 2) 1 (.string ⟨s.toArray⟩) (by omega))
     replace ET := Lib.hid (ent_put #[.int .i64 n.tok.pos, .string ⟨s.toArray⟩, .slice none 0 0, .slice none 0 0] (ET.out) 1 (.string ⟨s.toArray⟩) rfl)
     replace HB := Lib.hid (Below.setCell (HB.out) (p := ⟨w.heap.size + 2, 1, none⟩) (by dsimp only; omega) (.string ⟨s.toArray⟩))
     replace hsz : w.heap.size + 3 ≤ (w2.setCell ⟨w.heap.size + 2, 1, none⟩ (.string ⟨s.toArray⟩)).heap.size := by simpa using hsz
     generalize w2.setCell ⟨w.heap.size + 2, 1, none⟩ (.string ⟨s.toArray⟩) = wz at EN ER ET HB hsz ⊢
     have HLO := Lib.hid hsz
     have n0 := cell_up HB.out m2q0.out
     have n1 := cell_up HB.out m2q1.out
     have n2 := cell_up HB.out m2q2.out
     have n3 := cell_up HB.out m2q3.out
     have n4 := cell_up HB.out m2q4.out
     have n5 := cell_up HB.out m2q5.out
     have enc0 := ent_cell EN.out 0 _ rfl
     have enc1 := ent_cell EN.out 1 _ rfl
     have enc2 := ent_cell EN.out 2 _ rfl
     have enc3 := ent_cell EN.out 3 _ rfl
     have enc4 := ent_cell EN.out 4 _ rfl
     have enc5 := ent_cell EN.out 5 _ rfl
     have enf := ent_free EN.out
     go_wp2_with fail
     clear enc0 enc1 enc2 enc3 enc4 enc5 enf
     clear n0 n1 n2 n3 n4 n5
     refine (names_any k m2 _ _ (HVm2.out.below HB.out) HGm2.out).mono ?_
     intro e w3 ht
     cases hs2 : Px.names m2 0 with
     | error p =>
       obtain ⟨z, rfl, ⟨zq, zn, zc, rfl⟩, hb⟩ := rtold_bad ht hs2
       have hge : (p : Int) ≥ 0 := by omega
       have HX2 := Lib.hid hs2
       replace hsz := Nat.le_trans hsz hb.size
       replace EN := Lib.hid (ent_below EN.out hb)
       replace ER := Lib.hid (ent_below ER.out hb)
       replace ET := Lib.hid (ent_below ET.out hb)
       replace HB := Lib.hid (HB.out.trans (hb.mono HB.out.size))
       clear hb
       clear ht hs2
       have etc0 := ent_cell ET.out 0 _ rfl
       have etc1 := ent_cell ET.out 1 _ rfl
       have etc2 := ent_cell ET.out 2 _ rfl
       have etc3 := ent_cell ET.out 3 _ rfl
       have etf := ent_free ET.out
       go_upto_region 9 with fail
       clear etc0 etc1 etc2 etc3 etf
       replace EN := Lib.hid (ent_other (EN.out) (w.heap.size + 2) 2 (.slice zq zn zc) (by omega))
       replace ER := Lib.hid (ent_other (ER.out) (w.heap.size + 2) 2 (.slice zq zn zc) (by omega))
       replace ET := Lib.hid (ent_put #[.int .i64 n.tok.pos, .string ⟨s.toArray⟩, .slice zq zn zc, .slice none 0 0] (ET.out) 2 (.slice zq zn zc) rfl)
       replace HB := Lib.hid (Below.setCell (HB.out) (p := ⟨w.heap.size + 2, 2, none⟩) (by dsimp only; omega) (.slice zq zn zc))
       replace hsz : w.heap.size + 3 ≤ (w3.setCell ⟨w.heap.size + 2, 2, none⟩ (.slice zq zn zc)).heap.size := by simpa using hsz
       generalize w3.setCell ⟨w.heap.size + 2, 2, none⟩ (.slice zq zn zc) = wz at EN ER ET HB hsz ⊢
       have erc0 := ent_cell ER.out 0 _ rfl
       have erc1 := ent_cell ER.out 1 _ rfl
       have erc2 := ent_cell ER.out 2 _ rfl
       have erc3 := ent_cell ER.out 3 _ rfl
       have erf := ent_free ER.out
       have etc0 := ent_cell ET.out 0 _ rfl
       have etc1 := ent_cell ET.out 1 _ rfl
       have etc2 := ent_cell ET.out 2 _ rfl
       have etc3 := ent_cell ET.out 3 _ rfl
       have etf := ent_free ET.out
       go_wp2_with fail
       replace EN := Lib.hid (ent_other (ent_other (ent_other (ent_other (EN.out) (w.heap.size + 1) 0 (.int .i64 n.tok.pos) (by omega)) (w.heap.size + 1) 1 (.string ⟨s.toArray⟩) (by omega)) (w.heap.size + 1) 2 (.slice zq zn zc) (by omega)) (w.heap.size + 1) 3 (.slice none 0 0) (by omega))
       replace ER := Lib.hid (ent_put #[.int .i64 n.tok.pos, .string ⟨s.toArray⟩, .slice zq zn zc, .slice none 0 0] (ent_put #[.int .i64 n.tok.pos, .string ⟨s.toArray⟩, .slice zq zn zc, .slice none 0 0] (ent_put #[.int .i64 n.tok.pos, .string ⟨s.toArray⟩, .slice none 0 0, .slice none 0 0] (ent_put #[.int .i64 n.tok.pos, .string ⟨#[]⟩, .slice none 0 0, .slice none 0 0] (ER.out) 0 (.int .i64 n.tok.pos) rfl) 1 (.string ⟨s.toArray⟩) rfl) 2 (.slice zq zn zc) rfl) 3 (.slice none 0 0) rfl)
       replace ET := Lib.hid (ent_other (ent_other (ent_other (ent_other (ET.out) (w.heap.size + 1) 0 (.int .i64 n.tok.pos) (by omega)) (w.heap.size + 1) 1 (.string ⟨s.toArray⟩) (by omega)) (w.heap.size + 1) 2 (.slice zq zn zc) (by omega)) (w.heap.size + 1) 3 (.slice none 0 0) (by omega))
       replace HB := Lib.hid (Below.setCell (Below.setCell (Below.setCell (Below.setCell (HB.out) (p := ⟨w.heap.size + 1, 0, none⟩) (by dsimp only; omega) (.int .i64 n.tok.pos)) (p := ⟨w.heap.size + 1, 1, none⟩) (by dsimp only; omega) (.string ⟨s.toArray⟩)) (p := ⟨w.heap.size + 1, 2, none⟩) (by dsimp only; omega) (.slice zq zn zc)) (p := ⟨w.heap.size + 1, 3, none⟩) (by dsimp only; omega) (.slice none 0 0))
       have r0 := ent_cell ER.out 0 _ rfl
       have r1 := ent_cell ER.out 1 _ rfl
       have r2 := ent_cell ER.out 2 _ rfl
       have r3 := ent_cell ER.out 3 _ rfl
       refine bodyPost_ret (v := .tuple #[.agg #[.int .i64 n.tok.pos, .string ⟨s.toArray⟩, .slice zq zn zc, .slice none 0 0], .int .i64 p]) (by simp [results, Try.results21, go_sem, r0, r1, r2, r3]) rfl ?_
       exact rtold_err (by rw [HPP.out, HX1.out]; dsimp only; rw [HX2.out]) HB.out ⟨_, _, _, _, _, _, _, _, rfl⟩
     | ok ps =>
       obtain ⟨z, rfl, ⟨zq, zn, zc, rfl⟩, hnew, hb⟩ := rtold_ok ht hs2
       have HX2 := Lib.hid hs2; have HNEW1 := Lib.hid hnew
       have S1 := Lib.hid (Stay.refl wz.heap.size w3)
       replace hsz := Nat.le_trans hsz hb.size
       replace EN := Lib.hid (ent_below EN.out hb)
       replace ER := Lib.hid (ent_below ER.out hb)
       replace ET := Lib.hid (ent_below ET.out hb)
       replace HB := Lib.hid (HB.out.trans (hb.mono HB.out.size))
       clear hb
       clear ht hs2 hnew
       have etc0 := ent_cell ET.out 0 _ rfl
       have etc1 := ent_cell ET.out 1 _ rfl
       have etc2 := ent_cell ET.out 2 _ rfl
       have etc3 := ent_cell ET.out 3 _ rfl
       have etf := ent_free ET.out
       go_upto_region 9 with fail
       clear etc0 etc1 etc2 etc3 etf
       replace EN := Lib.hid (ent_other (EN.out) (w.heap.size + 2) 2 (.slice zq zn zc) (by omega))
       replace ER := Lib.hid (ent_other (ER.out) (w.heap.size + 2) 2 (.slice zq zn zc) (by omega))
       replace ET := Lib.hid (ent_put #[.int .i64 n.tok.pos, .string ⟨s.toArray⟩, .slice zq zn zc, .slice none 0 0] (ET.out) 2 (.slice zq zn zc) rfl)
       replace HB := Lib.hid (Below.setCell (HB.out) (p := ⟨w.heap.size + 2, 2, none⟩) (by dsimp only; omega) (.slice zq zn zc))
       replace S1 := Lib.hid (Stay.set S1.out (w.heap.size + 2) 2 (.slice zq zn zc) (by have := HLO.out; omega))
       replace hsz : w.heap.size + 3 ≤ (w3.setCell ⟨w.heap.size + 2, 2, none⟩ (.slice zq zn zc)).heap.size := by simpa using hsz
       generalize w3.setCell ⟨w.heap.size + 2, 2, none⟩ (.slice zq zn zc) = wz at EN ER ET HB S1 hsz ⊢
       have hnk := (New.stay HNEW1.out (Nat.le_refl _) S1.out).keptS (base := (w.heap.size + 2) + 1) (S := fun _ => False) (by have := HLO.out; omega) (fun g hg => hg.elim)
       have hnil : ∀ E s, wz.ownsRow (w.heap.size + 2 + 1) E s (.slice none 0 0) 0 [] := fun _ _ => World.ownsRow_nil _ _ _ _
       have htwo : G2 47 3 (ConAt 50) 9 1 (fun u => RowAt 1 (StrAt u) u) wz (w.heap.size + 2) 44 #[.int .i64 n.tok.pos, .string ⟨s.toArray⟩, .slice zq zn zc, .slice none 0 0] (.slice none 0 0) (.slice none 0 0) (0) 0 ([]) [] ([]) [.slice zq zn zc] ([]) [ps] [] wz := ⟨Below.refl _ _, by omega, ET.out, hnil _ _, hnil _ _, trivial, ⟨hnk.step (Nat.le_refl _) (fun _ _ _ _ => rfl) (fun g hg => by simp [Value.ownBlock] at hg), trivial⟩, (fun _ h => by cases h), (fun u hu => by rw [List.mem_singleton.1 hu]; rfl), (fun b hb => by cases hb)⟩
       have TWO0 := Lib.hid htwo
       have EN0 := EN; have ER0 := ER; have HB0 := HB
       have HPQ : Hid (Px.data 50 n = (match Px.each (Px.con 50) (n.list.drop 3) with | .error p => .error p | .ok cs => .ok ⟨n.pos, s, ps, cs⟩)) := Lib.hid (by rw [HPP.out, HX1.out]; dsimp only; rw [HX2.out])
       clear htwo hnil hnk EN ER ET HB HNEW1 S1 HPP HX1 HX2
       go_wp2_with fail
       go_loopw [3, 5, 6, 7, 8, 9, 10, 11] (fun _ _ i _ _ _ _ _ wr => ∃ (j : Nat) (av : Value) (vs : List Value) (cz : List Px.Con), i = .int .i64 (j + 3 : Nat) ∧ j + 3 ≤ n.list.length ∧ Hid (Px.each (Px.con 50) ((n.list.drop 3).take j) = .ok cz) ∧ Hid (cz.length = j) ∧ Hid (G2 47 3 (ConAt 50) 9 1 (fun u => RowAt 1 (StrAt u) u) wz (w.heap.size + 2) 44 #[.int .i64 n.tok.pos, .string ⟨s.toArray⟩, .slice zq zn zc, av] (av) (.slice none 0 0) (j) 0 (vs) [] (vs) [.slice zq zn zc] (cz) [ps] [] wr)) (fun _ _ i _ _ _ _ _ _ => n.list.length - (intOf i).toNat)
       case atStart => exact ⟨0, _, [], [], rfl, by have := HLEN.out; omega, Lib.hid (by simp [Px.each]), Lib.hid rfl, TWO0⟩
       case round =>
        clear TWO0
        obtain ⟨j, av, vs, cz, rfl, hq, HE, HBL, TWO⟩ := hrel
        have hwr := TWO.out.lt
        have EN := Lib.hid (ent_low TWO.out.low EN0.out (by omega))
        have ET := Lib.hid TWO.out.et
        have HB := Lib.hid (HB0.out.trans (TWO.out.low.mono (by omega)))
        have enc0 := ent_cell EN.out 0 _ rfl
        have enc1 := ent_cell EN.out 1 _ rfl
        have enc2 := ent_cell EN.out 2 _ rfl
        have enc3 := ent_cell EN.out 3 _ rfl
        have enc4 := ent_cell EN.out 4 _ rfl
        have enc5 := ent_cell EN.out 5 _ rfl
        have enf := ent_free EN.out
        by_cases hlt : j + 3 < n.list.length
        · skip
          have hrow := HROW.out
          obtain ⟨pn, hm⟩ : ∃ m, n.list[j + 3]? = some m := ⟨_, List.getElem?_eq_getElem (by omega)⟩
          have hgtpn : n.list.getD (j + 3) n = pn := by rw [List.getD_eq_getElem?_getD, hm]; rfl
          have HGpn := Lib.hid (HG.out.kid (List.mem_of_getElem? hm))
          obtain ⟨u, hu, _, hcell⟩ := hrow (j + 3) pn hm
          obtain ⟨kpn, kvpn, hkpn, hue, hkr, q0, q1, q2, q3, q4, q5⟩ := node_cells hu hcell
          subst hue
          have HMpn := Lib.hid hm; have HVpn := Lib.hid hu; have HKpn := Lib.hid hkr
          try simp only [Nat.reduceMul, Nat.add_zero, Nat.zero_add] at q0 q1 q2 q3 q4 q5
          have pnq0 := Lib.hid q0; have pnq1 := Lib.hid q1; have pnq2 := Lib.hid q2; have pnq3 := Lib.hid q3; have pnq4 := Lib.hid q4; have pnq5 := Lib.hid q5
          clear hu hcell hkr q0 q1 q2 q3 q4 q5 hm
          have hdp : (n.list.drop 3)[j]? = some pn := by rw [List.getElem?_drop, Nat.add_comm]; exact HMpn.out
          have HDP := Lib.hid hdp
          clear hrow hgtpn hdp
          obtain ⟨pvp, cvp, rfl⟩ := HKpn.out.len
          have k0 := cell_up HB.out pnq0.out
          have k1 := cell_up HB.out pnq1.out
          have k2 := cell_up HB.out pnq2.out
          have k3 := cell_up HB.out pnq3.out
          have k4 := cell_up HB.out pnq4.out
          have k5 := cell_up HB.out pnq5.out
          go_wp2_with fail
          clear enc0 enc1 enc2 enc3 enc4 enc5 enf
          clear k0 k1 k2 k3 k4 k5
          replace TWO := Lib.hid (TWO.out.alloc #[.int .i64 pn.tok.kind, .int .i64 pn.tok.pos, .string ⟨pn.tok.text.toArray⟩, .int .i64 pn.tok.int, .bool (Px.isListB pn), .slice pvp pn.list.length cvp] 73)
          have HB2 := Lib.hid (HB0.out.trans (TWO.out.low.mono (by omega)))
          obtain ⟨gb, hgb⟩ : ∃ gb, gb = wr.heap.size := ⟨_, rfl⟩
          rw [← hgb] at TWO
          rw [← hgb]
          generalize wr.alloc (.cells #[.int .i64 pn.tok.kind, .int .i64 pn.tok.pos, .string ⟨pn.tok.text.toArray⟩, .int .i64 pn.tok.int, .bool (Px.isListB pn), .slice pvp pn.list.length cvp] 73) = wa at *
          clear hgb EN ET HB
          refine (size_any _ pn _ 1 9 _ (HVpn.out.below HB2.out) (by omega) (by omega)).mono ?_
          rintro e w3 ⟨rfl, hb⟩
          replace TWO := Lib.hid (TWO.out.below hb)
          clear hb HB2
          have hw3 := TWO.out.lt
          unfold sizeP
          cases hnb : Px.nodes pn 1 9 with
          | error p =>
            dsimp only
            have hge : (p : Int) ≥ 0 := by omega
            have hx : Px.each (Px.con 50) (n.list.drop 3) = .error p := (Px.each_take HDP.out HE.out).2 p (by rw [Px.con, hnb])
            have HX := Lib.hid hx; clear hx
            clear hnb
            have ER := Lib.hid (ent_low TWO.out.low ER0.out (by omega))
            have ET := Lib.hid TWO.out.et
            have HB := Lib.hid (HB0.out.trans (TWO.out.low.mono (by omega)))
            obtain ⟨pb, cb, rfl⟩ := own_slice TWO.out.oa
            have erc0 := ent_cell ER.out 0 _ rfl
            have erc1 := ent_cell ER.out 1 _ rfl
            have erc2 := ent_cell ER.out 2 _ rfl
            have erc3 := ent_cell ER.out 3 _ rfl
            have erf := ent_free ER.out
            have etc0 := ent_cell ET.out 0 _ rfl
            have etc1 := ent_cell ET.out 1 _ rfl
            have etc2 := ent_cell ET.out 2 _ rfl
            have etc3 := ent_cell ET.out 3 _ rfl
            have etf := ent_free ET.out
            go_wp2_with fail
            replace ER := Lib.hid (ent_put #[.int .i64 n.tok.pos, .string ⟨s.toArray⟩, .slice zq zn zc, .slice pb j cb] (ent_put #[.int .i64 n.tok.pos, .string ⟨s.toArray⟩, .slice zq zn zc, .slice none 0 0] (ent_put #[.int .i64 n.tok.pos, .string ⟨s.toArray⟩, .slice none 0 0, .slice none 0 0] (ent_put #[.int .i64 n.tok.pos, .string ⟨#[]⟩, .slice none 0 0, .slice none 0 0] (ER.out) 0 (.int .i64 n.tok.pos) rfl) 1 (.string ⟨s.toArray⟩) rfl) 2 (.slice zq zn zc) rfl) 3 (.slice pb j cb) rfl)
            replace ET := Lib.hid (ent_other (ent_other (ent_other (ent_other (ET.out) (w.heap.size + 1) 0 (.int .i64 n.tok.pos) (by omega)) (w.heap.size + 1) 1 (.string ⟨s.toArray⟩) (by omega)) (w.heap.size + 1) 2 (.slice zq zn zc) (by omega)) (w.heap.size + 1) 3 (.slice pb j cb) (by omega))
            replace HB := Lib.hid (Below.setCell (Below.setCell (Below.setCell (Below.setCell (HB.out) (p := ⟨w.heap.size + 1, 0, none⟩) (by dsimp only; omega) (.int .i64 n.tok.pos)) (p := ⟨w.heap.size + 1, 1, none⟩) (by dsimp only; omega) (.string ⟨s.toArray⟩)) (p := ⟨w.heap.size + 1, 2, none⟩) (by dsimp only; omega) (.slice zq zn zc)) (p := ⟨w.heap.size + 1, 3, none⟩) (by dsimp only; omega) (.slice pb j cb))
            have r0 := ent_cell ER.out 0 _ rfl
            have r1 := ent_cell ER.out 1 _ rfl
            have r2 := ent_cell ER.out 2 _ rfl
            have r3 := ent_cell ER.out 3 _ rfl
            refine bodyPost_ret (v := .tuple #[.agg #[.int .i64 n.tok.pos, .string ⟨s.toArray⟩, .slice zq zn zc, .slice pb j cb], .int .i64 p]) (by simp [results, Try.results21, go_sem, r0, r1, r2, r3]) rfl ?_
            exact rtold_err (by rw [HPQ.out, HX.out]) HB.out ⟨_, _, _, _, _, _, _, _, rfl⟩
          | ok lb =>
            dsimp only
            have hni := nodes_is hnb
            have hll := hni.1
            have hs1 := hni.2.1
            have hs8 := hni.2.2.1
            clear hni
            subst hll
            rcases HKpn.out with ⟨h0, _⟩ | ⟨g2, o2, c2, hkv, d1, d2, d3⟩
            · rw [h0] at hs1; simp at hs1
            injection hkv with hkv1 _ hkv2
            subst hkv1; subst hkv2
            obtain ⟨b0, hm⟩ : ∃ m, pn.list[0]? = some m := ⟨_, List.getElem?_eq_getElem (by omega)⟩
            have hgtb0 : pn.list.getD (0) n = b0 := by rw [List.getD_eq_getElem?_getD, hm]; rfl
            have HGb0 := Lib.hid (HGpn.out.kid (List.mem_of_getElem? hm))
            obtain ⟨u, hu, _, hcell⟩ := d3 (0) b0 hm
            obtain ⟨kb0, kvb0, hkb0, hue, hkr, q0, q1, q2, q3, q4, q5⟩ := node_cells hu hcell
            subst hue
            have HMb0 := Lib.hid hm; have HVb0 := Lib.hid hu; have HKb0 := Lib.hid hkr
            try simp only [Nat.reduceMul, Nat.add_zero, Nat.zero_add] at q0 q1 q2 q3 q4 q5
            have b0q0 := Lib.hid q0; have b0q1 := Lib.hid q1; have b0q2 := Lib.hid q2; have b0q3 := Lib.hid q3; have b0q4 := Lib.hid q4; have b0q5 := Lib.hid q5
            clear hu hcell hkr q0 q1 q2 q3 q4 q5 hm
            have hh0 : pn.list.headD pn = b0 := by
             rw [← hgtb0]
             cases hh : pn.list with
             | nil => rw [hh] at hs1; simp at hs1
             | cons a r => rfl
            have HPR : Hid (Px.con 50 pn = (match Px.conName b0 with | .error p => .error p | .ok s => match Px.each (Px.typeE 50) pn.list.tail with | .error p => .error p | .ok ts => .ok ⟨pn.pos, s, ts⟩)) := Lib.hid (by rw [Px.con, hnb]; dsimp only; rw [hh0]; rfl)
            have HKB : Hid (kpn ≤ k) := Lib.hid (by omega)
            have HROW2 := Lib.hid d3
            have hp1 : (0 : Int) < (pn.list.length : Int) := by omega
            have hp3 : (pn.list.length : Int) ≤ (cvp : Int) := by omega
            have HLP := Lib.hid (And.intro hs1 hs8)
            clear hh0 hgtb0 hnb d1 d2 d3 hs1 hs8 hkb0 hkpn
            have EB := Lib.hid (TWO.out.bx _ (List.Mem.head _)).2.1
            have bc0 := ent_cell EB.out 0 _ rfl
            have bc1 := ent_cell EB.out 1 _ rfl
            have bc2 := ent_cell EB.out 2 _ rfl
            have bc3 := ent_cell EB.out 3 _ rfl
            have bc4 := ent_cell EB.out 4 _ rfl
            have bc5 := ent_cell EB.out 5 _ rfl
            have bf := ent_free EB.out
            go_upto_region 19 with fail
            clear EB bc0 bc1 bc2 bc3 bc4 bc5 bf
            have EC := Lib.hid (ent_new w3 #[.int .i64 pn.tok.pos, .string ⟨#[]⟩, .slice none 0 0] 47)
            have HBC := Lib.hid (show Below w3.heap.size w3 (w3.alloc (.cells #[.int .i64 pn.tok.pos, .string ⟨#[]⟩, .slice none 0 0] 47)) from (Below.refl _ _).alloc (Nat.le_refl _) _)
            generalize w3.alloc (.cells #[.int .i64 pn.tok.pos, .string ⟨#[]⟩, .slice none 0 0] 47) = w4 at EC HBC ⊢
            have TW4 := Lib.hid (TWO.out.below HBC.out)
            have EB := Lib.hid (TW4.out.bx _ (List.Mem.head _)).2.1
            have bc0 := ent_cell EB.out 0 _ rfl
            have bc1 := ent_cell EB.out 1 _ rfl
            have bc2 := ent_cell EB.out 2 _ rfl
            have bc3 := ent_cell EB.out 3 _ rfl
            have bc4 := ent_cell EB.out 4 _ rfl
            have bc5 := ent_cell EB.out 5 _ rfl
            have bf := ent_free EB.out
            have HB := Lib.hid (HB0.out.trans (TW4.out.low.mono (by omega)))
            have n0 := cell_up HB.out b0q0.out
            have n1 := cell_up HB.out b0q1.out
            have n2 := cell_up HB.out b0q2.out
            have n3 := cell_up HB.out b0q3.out
            have n4 := cell_up HB.out b0q4.out
            have n5 := cell_up HB.out b0q5.out
            go_wp2_with fail
            clear n0 n1 n2 n3 n4 n5
            clear EB bc0 bc1 bc2 bc3 bc4 bc5 bf
            clear TW4 HB
            refine (con_any b0 _ _ HGb0.out).mono ?_
            intro e w5 ht
            cases hnm : Px.conName b0 with
            | error p =>
              obtain ⟨z, rfl, ⟨zs, rfl⟩, hb⟩ := rtold_bad ht hnm
              have hge : (p : Int) ≥ 0 := by omega
              have hx : Px.each (Px.con 50) (n.list.drop 3) = .error p := (Px.each_take HDP.out HE.out).2 p (by rw [HPR.out, hnm])
              have HX := Lib.hid hx; clear hx
              replace EC := Lib.hid (ent_below EC.out hb)
              replace HBC := Lib.hid (HBC.out.trans (hb.mono HBC.out.size))
              clear hb
              have cc0 := ent_cell EC.out 0 _ rfl
              have cc1 := ent_cell EC.out 1 _ rfl
              have cc2 := ent_cell EC.out 2 _ rfl
              have cf := ent_free EC.out
              go_upto_region 20 with fail
              clear cc0 cc1 cc2 cf
              replace EC := Lib.hid (ent_put #[.int .i64 pn.tok.pos, .string zs, .slice none 0 0] EC.out 1 (.string zs) rfl)
              replace HBC := Lib.hid (HBC.out.setCell (p := ⟨w3.heap.size, 1, none⟩) (Nat.le_refl _) (.string zs))
              generalize w5.setCell ⟨w3.heap.size, 1, none⟩ (.string zs) = wi at EC HBC ⊢
              clear ht hnm
              have TWF := Lib.hid (TWO.out.below HBC.out)
              have ER := Lib.hid (ent_low TWF.out.low ER0.out (by omega))
              have ET := Lib.hid TWF.out.et
              have HB := Lib.hid (HB0.out.trans (TWF.out.low.mono (by omega)))
              obtain ⟨pb, cb, rfl⟩ := own_slice TWF.out.oa
              have erc0 := ent_cell ER.out 0 _ rfl
              have erc1 := ent_cell ER.out 1 _ rfl
              have erc2 := ent_cell ER.out 2 _ rfl
              have erc3 := ent_cell ER.out 3 _ rfl
              have erf := ent_free ER.out
              have etc0 := ent_cell ET.out 0 _ rfl
              have etc1 := ent_cell ET.out 1 _ rfl
              have etc2 := ent_cell ET.out 2 _ rfl
              have etc3 := ent_cell ET.out 3 _ rfl
              have etf := ent_free ET.out
              go_wp2_with fail
              replace ER := Lib.hid (ent_put #[.int .i64 n.tok.pos, .string ⟨s.toArray⟩, .slice zq zn zc, .slice pb j cb] (ent_put #[.int .i64 n.tok.pos, .string ⟨s.toArray⟩, .slice zq zn zc, .slice none 0 0] (ent_put #[.int .i64 n.tok.pos, .string ⟨s.toArray⟩, .slice none 0 0, .slice none 0 0] (ent_put #[.int .i64 n.tok.pos, .string ⟨#[]⟩, .slice none 0 0, .slice none 0 0] (ER.out) 0 (.int .i64 n.tok.pos) rfl) 1 (.string ⟨s.toArray⟩) rfl) 2 (.slice zq zn zc) rfl) 3 (.slice pb j cb) rfl)
              replace ET := Lib.hid (ent_other (ent_other (ent_other (ent_other (ET.out) (w.heap.size + 1) 0 (.int .i64 n.tok.pos) (by omega)) (w.heap.size + 1) 1 (.string ⟨s.toArray⟩) (by omega)) (w.heap.size + 1) 2 (.slice zq zn zc) (by omega)) (w.heap.size + 1) 3 (.slice pb j cb) (by omega))
              replace HB := Lib.hid (Below.setCell (Below.setCell (Below.setCell (Below.setCell (HB.out) (p := ⟨w.heap.size + 1, 0, none⟩) (by dsimp only; omega) (.int .i64 n.tok.pos)) (p := ⟨w.heap.size + 1, 1, none⟩) (by dsimp only; omega) (.string ⟨s.toArray⟩)) (p := ⟨w.heap.size + 1, 2, none⟩) (by dsimp only; omega) (.slice zq zn zc)) (p := ⟨w.heap.size + 1, 3, none⟩) (by dsimp only; omega) (.slice pb j cb))
              have r0 := ent_cell ER.out 0 _ rfl
              have r1 := ent_cell ER.out 1 _ rfl
              have r2 := ent_cell ER.out 2 _ rfl
              have r3 := ent_cell ER.out 3 _ rfl
              refine bodyPost_ret (v := .tuple #[.agg #[.int .i64 n.tok.pos, .string ⟨s.toArray⟩, .slice zq zn zc, .slice pb j cb], .int .i64 p]) (by simp [results, Try.results21, go_sem, r0, r1, r2, r3]) rfl ?_
              exact rtold_err (by rw [HPQ.out, HX.out]) HB.out ⟨_, _, _, _, _, _, _, _, rfl⟩
            | ok s2 =>
              obtain ⟨z, rfl, _, hnew, hb⟩ := rtold_ok ht hnm
              obtain rfl : z = .string ⟨s2.toArray⟩ := hnew.now
              have HNM := Lib.hid hnm; clear ht hnm hnew
              replace EC := Lib.hid (ent_below EC.out hb)
              replace HBC := Lib.hid (HBC.out.trans (hb.mono HBC.out.size))
              clear hb
              have cc0 := ent_cell EC.out 0 _ rfl
              have cc1 := ent_cell EC.out 1 _ rfl
              have cc2 := ent_cell EC.out 2 _ rfl
              have cf := ent_free EC.out
              go_upto_region 20 with fail
              clear cc0 cc1 cc2 cf
              replace EC := Lib.hid (ent_put #[.int .i64 pn.tok.pos, .string ⟨s2.toArray⟩, .slice none 0 0] EC.out 1 (.string ⟨s2.toArray⟩) rfl)
              replace HBC := Lib.hid (HBC.out.setCell (p := ⟨w3.heap.size, 1, none⟩) (Nat.le_refl _) (.string ⟨s2.toArray⟩))
              generalize w5.setCell ⟨w3.heap.size, 1, none⟩ (.string ⟨s2.toArray⟩) = wi at EC HBC ⊢
              obtain ⟨wo, hwo⟩ : ∃ x, x = wr := ⟨wr, rfl⟩
              subst hwo
              have hin : G2 112 3 (TypeAt 50) 9 1 (fun _ _ (_ : Unit) => True) wi w3.heap.size 47 #[.int .i64 pn.tok.pos, .string ⟨s2.toArray⟩, .slice none 0 0] (.slice none 0 0) (.slice none 0 0) (0) 0 ([]) [] ([]) [] ([]) ([] : List Unit) [] wi := g2_nil EC.out
              have TI0 := Lib.hid hin
              clear hin EC
              go_wp2_with fail
              go_loopw [3, 9, 10, 11] (fun _ kk _ _ wr => ∃ (i : Nat) (fv : Value) (us : List Value) (tz : List Px.TypeE), kk = .int .i64 (i + 1 : Nat) ∧ i + 1 ≤ pn.list.length ∧ Hid (Px.each (Px.typeE 50) (pn.list.tail.take i) = .ok tz) ∧ Hid (tz.length = i) ∧ Hid (G2 112 3 (TypeAt 50) 9 1 (fun _ _ (_ : Unit) => True) wi w3.heap.size 47 #[.int .i64 pn.tok.pos, .string ⟨s2.toArray⟩, fv] (fv) (.slice none 0 0) (i) 0 (us) [] (us) [] (tz) ([] : List Unit) [] wr)) (fun _ kk _ _ _ => pn.list.length - (intOf kk).toNat)
              case atStart => exact ⟨0, _, [], [], rfl, by have := HLP.out; omega, Lib.hid (by simp [Px.each]), Lib.hid rfl, TI0⟩
              case round =>
               clear TI0
               obtain ⟨i, fv, us, tz, rfl, hi, HEI, HIL, TI⟩ := hrel
               have HBW := Lib.hid (HBC.out.trans TI.out.low)
               have TWW := Lib.hid (TWO.out.below HBW.out)
               have EB := Lib.hid (TWW.out.bx _ (List.Mem.head _)).2.1
               have bc0 := ent_cell EB.out 0 _ rfl
               have bc1 := ent_cell EB.out 1 _ rfl
               have bc2 := ent_cell EB.out 2 _ rfl
               have bc3 := ent_cell EB.out 3 _ rfl
               have bc4 := ent_cell EB.out 4 _ rfl
               have bc5 := ent_cell EB.out 5 _ rfl
               have bf := ent_free EB.out
               have ET := Lib.hid TWW.out.et
               have HB := Lib.hid (HB0.out.trans (TWW.out.low.mono (by omega)))
               by_cases hli : i + 1 < pn.list.length
               · skip
                 have hrow := HROW2.out
                 obtain ⟨tn, hm⟩ : ∃ m, pn.list[i + 1]? = some m := ⟨_, List.getElem?_eq_getElem (by omega)⟩
                 have hgttn : pn.list.getD (i + 1) n = tn := by rw [List.getD_eq_getElem?_getD, hm]; rfl
                 have HGtn := Lib.hid (HGpn.out.kid (List.mem_of_getElem? hm))
                 obtain ⟨u, hu, _, hcell⟩ := hrow (i + 1) tn hm
                 obtain ⟨ktn, kvtn, hktn, hue, hkr, q0, q1, q2, q3, q4, q5⟩ := node_cells hu hcell
                 subst hue
                 have HMtn := Lib.hid hm; have HVtn := Lib.hid hu; have HKtn := Lib.hid hkr
                 try simp only [Nat.reduceMul, Nat.add_zero, Nat.zero_add] at q0 q1 q2 q3 q4 q5
                 have tnq0 := Lib.hid q0; have tnq1 := Lib.hid q1; have tnq2 := Lib.hid q2; have tnq3 := Lib.hid q3; have tnq4 := Lib.hid q4; have tnq5 := Lib.hid q5
                 clear hu hcell hkr q0 q1 q2 q3 q4 q5 hm
                 have htl : pn.list.tail[i]? = some tn := by rw [List.getElem?_tail]; exact HMtn.out
                 have HTL := Lib.hid htl
                 clear hrow hgttn htl
                 have k0 := cell_up HB.out tnq0.out
                 have k1 := cell_up HB.out tnq1.out
                 have k2 := cell_up HB.out tnq2.out
                 have k3 := cell_up HB.out tnq3.out
                 have k4 := cell_up HB.out tnq4.out
                 have k5 := cell_up HB.out tnq5.out
                 go_wp2_with fail
                 clear EB bc0 bc1 bc2 bc3 bc4 bc5 bf
                 clear k0 k1 k2 k3 k4 k5
                 refine (typ_any _ 50 tn _ _ (by have := HKB.out; have := HK50.out; omega) (HVtn.out.below HB.out) HGtn.out).mono ?_
                 intro e w6 ht
                 clear ET HB TWW HBW
                 cases hty : Px.typeE 50 tn with
                 | error p =>
                   obtain ⟨z, rfl, ⟨tp, tzz, tq, tn, tc, rfl⟩, hb⟩ := rtold_bad ht hty
                   have hge : (p : Int) ≥ 0 := by omega
                   have hte : Px.each (Px.typeE 50) pn.list.tail = .error p := (Px.each_take HTL.out HEI.out).2 p hty
                   have hx : Px.each (Px.con 50) (n.list.drop 3) = .error p := (Px.each_take HDP.out HE.out).2 p (by rw [HPR.out, HNM.out]; dsimp only; rw [hte])
                   have HX := Lib.hid hx; clear hx
                   replace TI := Lib.hid ((TI.out.below hb).alloc #[.int .i64 tp, .string tzz, .slice tq tn tc] 112)
                   clear ht hty hte hb
                   have HBW := Lib.hid (HBC.out.trans TI.out.low)
                   have TWF := Lib.hid (TWO.out.below HBW.out)
                   have ER := Lib.hid (ent_low TWF.out.low ER0.out (by omega))
                   have ET := Lib.hid TWF.out.et
                   have HB := Lib.hid (HB0.out.trans (TWF.out.low.mono (by omega)))
                   obtain ⟨pb, cb, rfl⟩ := own_slice TWF.out.oa
                   have erc0 := ent_cell ER.out 0 _ rfl
                   have erc1 := ent_cell ER.out 1 _ rfl
                   have erc2 := ent_cell ER.out 2 _ rfl
                   have erc3 := ent_cell ER.out 3 _ rfl
                   have erf := ent_free ER.out
                   have etc0 := ent_cell ET.out 0 _ rfl
                   have etc1 := ent_cell ET.out 1 _ rfl
                   have etc2 := ent_cell ET.out 2 _ rfl
                   have etc3 := ent_cell ET.out 3 _ rfl
                   have etf := ent_free ET.out
                   go_wp2_with fail
                   replace ER := Lib.hid (ent_put #[.int .i64 n.tok.pos, .string ⟨s.toArray⟩, .slice zq zn zc, .slice pb j cb] (ent_put #[.int .i64 n.tok.pos, .string ⟨s.toArray⟩, .slice zq zn zc, .slice none 0 0] (ent_put #[.int .i64 n.tok.pos, .string ⟨s.toArray⟩, .slice none 0 0, .slice none 0 0] (ent_put #[.int .i64 n.tok.pos, .string ⟨#[]⟩, .slice none 0 0, .slice none 0 0] (ER.out) 0 (.int .i64 n.tok.pos) rfl) 1 (.string ⟨s.toArray⟩) rfl) 2 (.slice zq zn zc) rfl) 3 (.slice pb j cb) rfl)
                   replace ET := Lib.hid (ent_other (ent_other (ent_other (ent_other (ET.out) (w.heap.size + 1) 0 (.int .i64 n.tok.pos) (by omega)) (w.heap.size + 1) 1 (.string ⟨s.toArray⟩) (by omega)) (w.heap.size + 1) 2 (.slice zq zn zc) (by omega)) (w.heap.size + 1) 3 (.slice pb j cb) (by omega))
                   replace HB := Lib.hid (Below.setCell (Below.setCell (Below.setCell (Below.setCell (HB.out) (p := ⟨w.heap.size + 1, 0, none⟩) (by dsimp only; omega) (.int .i64 n.tok.pos)) (p := ⟨w.heap.size + 1, 1, none⟩) (by dsimp only; omega) (.string ⟨s.toArray⟩)) (p := ⟨w.heap.size + 1, 2, none⟩) (by dsimp only; omega) (.slice zq zn zc)) (p := ⟨w.heap.size + 1, 3, none⟩) (by dsimp only; omega) (.slice pb j cb))
                   have r0 := ent_cell ER.out 0 _ rfl
                   have r1 := ent_cell ER.out 1 _ rfl
                   have r2 := ent_cell ER.out 2 _ rfl
                   have r3 := ent_cell ER.out 3 _ rfl
                   refine bodyPost_ret (v := .tuple #[.agg #[.int .i64 n.tok.pos, .string ⟨s.toArray⟩, .slice zq zn zc, .slice pb j cb], .int .i64 p]) (by simp [results, Try.results21, go_sem, r0, r1, r2, r3]) rfl ?_
                   exact rtold_err (by rw [HPQ.out, HX.out]) HB.out ⟨_, _, _, _, _, _, _, _, rfl⟩
                 | ok x =>
                   obtain ⟨z, rfl, ⟨tp, tzz, tq, tn, tc, rfl⟩, hnew, hb⟩ := rtold_ok ht hty
                   have hks := TI.out.since hnew
                   replace TI := Lib.hid (((TI.out.below hb).addA hks rfl).alloc #[.int .i64 tp, .string tzz, .slice tq tn tc] 112)
                   have HNEXT := Lib.hid ((Px.each_take HTL.out HEI.out).1 x hty)
                   clear ht hty hnew hb hks
                   go_upto_region 28 with fail
                   obtain ⟨gz, hgz⟩ : ∃ gz, gz = w6.heap.size := ⟨_, rfl⟩
                   rw [← hgz] at TI
                   rw [← hgz]
                   generalize w6.alloc (.cells #[.int .i64 tp, .string tzz, .slice tq tn tc] 112) = w7 at TI ⊢
                   clear hgz
                   obtain ⟨pb, cb, rfl⟩ := own_slice TI.out.oa
                   have EC := Lib.hid TI.out.et
                   have EZ := Lib.hid (TI.out.bx _ (List.Mem.head _)).2.1
                   have cc0 := ent_cell EC.out 0 _ rfl; have ze0 := ent_cell EZ.out 0 _ rfl
                   have cc1 := ent_cell EC.out 1 _ rfl; have ze1 := ent_cell EZ.out 1 _ rfl
                   have cc2 := ent_cell EC.out 2 _ rfl; have ze2 := ent_cell EZ.out 2 _ rfl
                   have cf := ent_free EC.out
                   have hi9 : i ≤ 9 := by have := HLP.out; omega
                   go_wp2_with (at_builtin; refine G2.listA (TI.out.alloc #[.int .i64 tp, .string tzz, .slice tq tn tc] 112) (by decide) 45 Try.underlying45 infoTypeE rfl (by decide) (by decide) (gb := w7.heap.size) (List.Mem.head _) rfl (by simp [Value.oneCell']) (by omega) rfl (.tmp 104) (.tmp 106) rfl rfl rfl ?_)
                   intro v6 w8 h6
                   clear EC EZ cf cc0 ze0 cc1 ze1 cc2 ze2
                   obtain ⟨pc, cc, rfl⟩ := own_slice h6.oa
                   have T2 := Lib.hid (h6.only (M := []) (fun b hb => by cases hb)); clear h6
                   have EC := Lib.hid T2.out.et
                   have cc0 := ent_cell EC.out 0 _ rfl
                   have cc1 := ent_cell EC.out 1 _ rfl
                   have cc2 := ent_cell EC.out 2 _ rfl
                   have cf := ent_free EC.out
                   go_wp2_with fail
                   clear EC cf cc0 cc1 cc2
                   have T3 := Lib.hid (T2.out.st 2 (.slice pc (i + 1) cc) #[.int .i64 pn.tok.pos, .string ⟨s2.toArray⟩, .slice pc (i + 1) cc] rfl)
                   go_roundw
                   case rel => exact ⟨i + 1, _, us ++ [.agg #[.int .i64 tp, .string tzz, .slice tq tn tc]], tz ++ [x], by go_num, by omega, HNEXT, Lib.hid (by rw [List.length_append, HIL.out]; rfl), T3⟩
                   case measure => simp [intOf]; omega
               · skip
                 have hie : i = pn.list.tail.length := by rw [List.length_tail]; omega
                 have he := HEI.out
                 rw [hie, List.take_length] at he
                 have HEE := Lib.hid he; clear he
                 have HIE := Lib.hid hie; clear hie
                 have hone : Px.con 50 pn = .ok ⟨pn.pos, s2, tz⟩ := by rw [HPR.out, HNM.out]; dsimp only; rw [HEE.out]
                 have HNEXT := Lib.hid ((Px.each_take HDP.out HE.out).1 _ hone)
                 clear hone
                 obtain ⟨pf, cf0, rfl⟩ := own_slice TI.out.oa
                 have hnw : New (ConAt 50) w3 wr (.agg #[.int .i64 pn.tok.pos, .string ⟨s2.toArray⟩, .slice pf i cf0]) ⟨pn.pos, s2, tz⟩ := fun u hu => ⟨_, rfl, (TI.out.rows HIL.out.symm rfl (u := u) (fun b h1 h2 => hu b (by omega) h2)).1⟩
                 have hks := TWO.out.since hnw
                 replace TWW := Lib.hid (TWW.out.addA hks rfl)
                 clear hnw hks
                 obtain ⟨pb, cb, rfl⟩ := own_slice TWW.out.oa
                 have hj100 : j ≤ 103 := by have := HLEN.out; omega
                 have EC := Lib.hid TI.out.et
                 have etc0 := ent_cell ET.out 0 _ rfl
                 have etc1 := ent_cell ET.out 1 _ rfl
                 have etc2 := ent_cell ET.out 2 _ rfl
                 have etc3 := ent_cell ET.out 3 _ rfl
                 have etf := ent_free ET.out
                 have cc0 := ent_cell EC.out 0 _ rfl
                 have cc1 := ent_cell EC.out 1 _ rfl
                 have cc2 := ent_cell EC.out 2 _ rfl
                 go_wp2_with (at_builtin; refine G2.listA (TWW.out.alloc #[.int .i64 pn.tok.pos, .string ⟨s2.toArray⟩, .slice pf i cf0] 47) (by decide) 42 Try.underlying42 infoCon rfl (by decide) (by decide) (gb := wr.heap.size) (List.Mem.head _) rfl (by simp [Value.oneCell']) (by omega) rfl (.tmp 110) (.tmp 112) rfl rfl rfl ?_)
                 intro v6 w8 h6
                 clear EB bc0 bc1 bc2 bc3 bc4 bc5 bf
                 clear ET EC etf etc0 etc1 etc2 etc3 cc0 cc1 cc2 HB HBW TWW
                 obtain ⟨pc, cc, rfl⟩ := own_slice h6.oa
                 have T2 := Lib.hid (h6.only (M := []) (fun b hb => by cases hb)); clear h6
                 have ET := Lib.hid T2.out.et
                 have etc0 := ent_cell ET.out 0 _ rfl
                 have etc1 := ent_cell ET.out 1 _ rfl
                 have etc2 := ent_cell ET.out 2 _ rfl
                 have etc3 := ent_cell ET.out 3 _ rfl
                 have etf := ent_free ET.out
                 go_wp2_with fail
                 clear ET etf etc0 etc1 etc2 etc3
                 have T3 := Lib.hid (T2.out.st 3 (.slice pc (j + 1) cc) #[.int .i64 n.tok.pos, .string ⟨s.toArray⟩, .slice zq zn zc, .slice pc (j + 1) cc] rfl)
                 go_roundw
                 case rel => exact ⟨j + 1, _, vs ++ [.agg #[.int .i64 pn.tok.pos, .string ⟨s2.toArray⟩, .slice pf i cf0]], cz ++ [⟨pn.pos, s2, tz⟩], by go_num, by omega, HNEXT, Lib.hid (by rw [List.length_append, HBL.out]; rfl), T3⟩
                 case measure => simp [intOf]; omega
        · skip
          have hqe : j = (n.list.drop 3).length := by rw [List.length_drop]; omega
          have he := HE.out
          rw [hqe, List.take_length] at he
          have HEE := Lib.hid he; clear he
          have HQE := Lib.hid hqe; clear hqe
          obtain ⟨pb, cb, rfl⟩ := own_slice TWO.out.oa
          have ER := Lib.hid (ent_low TWO.out.low ER0.out (by omega))
          have erc0 := ent_cell ER.out 0 _ rfl
          have erc1 := ent_cell ER.out 1 _ rfl
          have erc2 := ent_cell ER.out 2 _ rfl
          have erc3 := ent_cell ER.out 3 _ rfl
          have erf := ent_free ER.out
          have etc0 := ent_cell ET.out 0 _ rfl
          have etc1 := ent_cell ET.out 1 _ rfl
          have etc2 := ent_cell ET.out 2 _ rfl
          have etc3 := ent_cell ET.out 3 _ rfl
          have etf := ent_free ET.out
          go_wp2_with fail
          replace ER := Lib.hid (ent_put #[.int .i64 n.tok.pos, .string ⟨s.toArray⟩, .slice zq zn zc, .slice pb j cb] (ent_put #[.int .i64 n.tok.pos, .string ⟨s.toArray⟩, .slice zq zn zc, .slice none 0 0] (ent_put #[.int .i64 n.tok.pos, .string ⟨s.toArray⟩, .slice none 0 0, .slice none 0 0] (ent_put #[.int .i64 n.tok.pos, .string ⟨#[]⟩, .slice none 0 0, .slice none 0 0] (ER.out) 0 (.int .i64 n.tok.pos) rfl) 1 (.string ⟨s.toArray⟩) rfl) 2 (.slice zq zn zc) rfl) 3 (.slice pb j cb) rfl)
          replace ET := Lib.hid (ent_other (ent_other (ent_other (ent_other (ET.out) (w.heap.size + 1) 0 (.int .i64 n.tok.pos) (by omega)) (w.heap.size + 1) 1 (.string ⟨s.toArray⟩) (by omega)) (w.heap.size + 1) 2 (.slice zq zn zc) (by omega)) (w.heap.size + 1) 3 (.slice pb j cb) (by omega))
          replace HB := Lib.hid (Below.setCell (Below.setCell (Below.setCell (Below.setCell (HB.out) (p := ⟨w.heap.size + 1, 0, none⟩) (by dsimp only; omega) (.int .i64 n.tok.pos)) (p := ⟨w.heap.size + 1, 1, none⟩) (by dsimp only; omega) (.string ⟨s.toArray⟩)) (p := ⟨w.heap.size + 1, 2, none⟩) (by dsimp only; omega) (.slice zq zn zc)) (p := ⟨w.heap.size + 1, 3, none⟩) (by dsimp only; omega) (.slice pb j cb))
          have r0 := ent_cell ER.out 0 _ rfl
          have r1 := ent_cell ER.out 1 _ rfl
          have r2 := ent_cell ER.out 2 _ rfl
          have r3 := ent_cell ER.out 3 _ rfl
          refine bodyPost_ret (v := .tuple #[.agg #[.int .i64 n.tok.pos, .string ⟨s.toArray⟩, .slice zq zn zc, .slice pb j cb], .int .i64 (-1)]) (by simp [results, Try.results21, go_sem, r0, r1, r2, r3]) rfl ?_
          refine rtold_put (x := Px.Data.mk n.pos s ps cz) (by rw [HPQ.out, HEE.out]) HB.out ⟨_, _, _, _, _, _, _, _, rfl⟩ (fun u hu => ?_)
          have hag : ∀ b, w.heap.size + 2 < b → b < wr.heap.size → u.heap[b]? = wr.heap[b]? := fun b h1 h2 => (hu b (by omega) (by simpa using h2)).trans (set4_other _ _ b _ _ _ _ (by omega))
          have hA := rowS TWO.out.oa HBL.out.symm TWO.out.ka TWO.out.sa (u := u) (fun b h1 h2 => hag b (by omega) h2)
          obtain ⟨lo, hi, h0, h1, _, h3⟩ := TWO.out.kb.1
          exact ⟨_, _, rfl, h3 u fun b hb1 hb2 => hag b (by omega) (by omega), hA⟩
end Go.Proofs.Ytgoacbomphlhjaa
