/-
  The document's answers, layer 2: def.
-/
import Derived.Test.YtgoacbomphlhjaaP00
import Derived.Test.YtgoacbomphlhjaaP16
set_option linter.unusedVariables false
set_option linter.unusedSimpArgs false
namespace Go.Proofs.Ytgoacbomphlhjaa
open Go.Lib (hid)
open List renaming getElem_toArray → jX, getElem_cons_succ → jY, getElem_cons_zero → jZ, setIfInBounds_toArray → JA, set_cons_zero → JB, set_cons_succ → JC
open Go Go.RowKit
def DefAt (f : Nat) (u : World) (v : Value) (x : Px.Def) : Prop := ∃ nv b0 b1 b2 b3 b4 b5 b6 : Value, v = .agg #[.int .i64 x.pos, .string ⟨x.name.toArray⟩, nv, b0, b1, b2, b3, b4, b5, b6] ∧ RowAt 1 (StrAt u) u nv x.params ∧ ExprAt f u (.agg #[b0, b1, b2, b3, b4, b5, b6]) x.body
def ShDef (v : Value) : Prop := ∃ (p : Int) (s : ByteArray) (q0 : Option Addr) (n0 c0 : Nat) (k p1 : Int) (s1 : ByteArray) (i : Int) (q1 : Option Addr) (n1 c1 : Nat) (q2 : Option Addr) (n2 c2 : Nat) (q3 : Option Addr) (n3 c3 : Nat), v = .agg #[.int .i64 p, .string s, .slice q0 n0 c0, .int .i64 k, .int .i64 p1, .string s1, .int .i64 i, .slice q1 n1 c1, .slice q2 n2 c2, .slice q3 n3 c3]
set_option maxHeartbeats 16000000 in
set_option maxRecDepth 100000 in
theorem def_any (k : Nat) (hk50 : k ≤ 50) (n : Px.Node) (v : Value) (w : World) (hn : NdAt (k + 1) w v n) (hg : Px.NodeGood n) : Calls Try.prog 22 #[v] w (RTold w (DefAt 50) ShDef (Px.defn 50 n)) := by
 have HN0 := hid hn
 have HK50 := hid hk50
 obtain ⟨lv, rfl, hr⟩ := hn
 obtain ⟨q, c, rfl⟩ := hr.len
 have HR := hid hr
 have HG := hid hg
 have hp0 : Px.defn 50 n = (match Px.nodes n 4 4 with
  | .error p => .error p
  | .ok l =>
    match Px.name (l.getD 1 n) with
    | .error p => .error p
    | .ok s =>
      match Px.names (l.getD 2 n) 0 with
      | .error p => .error p
      | .ok ps =>
        match Px.expr 50 (l.getD 3 n) with
        | .error p => .error p
        | .ok x => .ok ⟨n.pos, s, ps, x⟩) := rfl
 have HP := hid hp0
 have HS2 := hid (fun w1 (hb : Below w.heap.size w w1) => size_any (k + 1) n _ 4 4 w1 (HN0.out.below hb) (by omega) (by omega))
 clear hr hg hp0 hk50
 unfold nV at *
 go_enter Try.func22, Try.ntmps22
 obtain ⟨en, er, et, hb, hsz⟩ := ent3 w #[.int .i64 n.tok.kind, .int .i64 n.tok.pos, .string ⟨n.tok.text.toArray⟩, .int .i64 n.tok.int, .bool (Px.jS n), (.slice q n.list.length c)] #[.int .i64 0, .string ⟨#[]⟩, .slice none 0 0, .int .i64 0, .int .i64 0, .string ⟨#[]⟩, .int .i64 0, .slice none 0 0, .slice none 0 0, .slice none 0 0] #[.int .i64 n.tok.pos, .string ⟨#[]⟩, .slice none 0 0, .int .i64 0, .int .i64 0, .string ⟨#[]⟩, .int .i64 0, .slice none 0 0, .slice none 0 0, .slice none 0 0] 73 58 58
 have EN := hid en; have ER := hid er; have ET := hid et; have HB := hid hb
 replace hsz := Nat.le_of_eq hsz.symm
 clear en er et hb
 go_wp2_with fail
 refine (HS2.out _ HB.out).mono ?_
 rintro e w1 ⟨rfl, hb⟩
 replace hsz := Nat.le_trans hsz hb.size
 replace EN := hid (jC EN.out hb)
 replace ER := hid (jC ER.out hb)
 replace ET := hid (jC ET.out hb)
 replace HB := hid (HB.out.trans (hb.mono HB.out.size))
 clear hb
 unfold sizeP
 cases hnd : Px.nodes n 4 4 with
 | error p =>
   dsimp only
   have hge : (p : Int) ≥ 0 := by omega
   have HND := hid hnd; clear hnd
   have erc0 := jA ER.out 0 _ rfl
   have erc1 := jA ER.out 1 _ rfl
   have erc2 := jA ER.out 2 _ rfl
   have erc3 := jA ER.out 3 _ rfl
   have erc4 := jA ER.out 4 _ rfl
   have erc5 := jA ER.out 5 _ rfl
   have erc6 := jA ER.out 6 _ rfl
   have erc7 := jA ER.out 7 _ rfl
   have erc8 := jA ER.out 8 _ rfl
   have erc9 := jA ER.out 9 _ rfl
   have erf := jD ER.out
   have etc0 := jA ET.out 0 _ rfl
   have etc1 := jA ET.out 1 _ rfl
   have etc2 := jA ET.out 2 _ rfl
   have etc3 := jA ET.out 3 _ rfl
   have etc4 := jA ET.out 4 _ rfl
   have etc5 := jA ET.out 5 _ rfl
   have etc6 := jA ET.out 6 _ rfl
   have etc7 := jA ET.out 7 _ rfl
   have etc8 := jA ET.out 8 _ rfl
   have etc9 := jA ET.out 9 _ rfl
   have etf := jD ET.out
   go_wp2_with fail
   replace EN := hid (jB (jB (jB (jB (jB (jB (jB (jB (jB (jB (EN.out) (w.heap.size + 1) 0 (.int .i64 n.tok.pos) (by omega)) (w.heap.size + 1) 1 (.string ⟨#[]⟩) (by omega)) (w.heap.size + 1) 2 (.slice none 0 0) (by omega)) (w.heap.size + 1) 3 (.int .i64 0) (by omega)) (w.heap.size + 1) 4 (.int .i64 0) (by omega)) (w.heap.size + 1) 5 (.string ⟨#[]⟩) (by omega)) (w.heap.size + 1) 6 (.int .i64 0) (by omega)) (w.heap.size + 1) 7 (.slice none 0 0) (by omega)) (w.heap.size + 1) 8 (.slice none 0 0) (by omega)) (w.heap.size + 1) 9 (.slice none 0 0) (by omega))
   replace ER := hid (jG #[.int .i64 n.tok.pos, .string ⟨#[]⟩, .slice none 0 0, .int .i64 0, .int .i64 0, .string ⟨#[]⟩, .int .i64 0, .slice none 0 0, .slice none 0 0, .slice none 0 0] (jG #[.int .i64 n.tok.pos, .string ⟨#[]⟩, .slice none 0 0, .int .i64 0, .int .i64 0, .string ⟨#[]⟩, .int .i64 0, .slice none 0 0, .slice none 0 0, .slice none 0 0] (jG #[.int .i64 n.tok.pos, .string ⟨#[]⟩, .slice none 0 0, .int .i64 0, .int .i64 0, .string ⟨#[]⟩, .int .i64 0, .slice none 0 0, .slice none 0 0, .slice none 0 0] (jG #[.int .i64 n.tok.pos, .string ⟨#[]⟩, .slice none 0 0, .int .i64 0, .int .i64 0, .string ⟨#[]⟩, .int .i64 0, .slice none 0 0, .slice none 0 0, .slice none 0 0] (jG #[.int .i64 n.tok.pos, .string ⟨#[]⟩, .slice none 0 0, .int .i64 0, .int .i64 0, .string ⟨#[]⟩, .int .i64 0, .slice none 0 0, .slice none 0 0, .slice none 0 0] (jG #[.int .i64 n.tok.pos, .string ⟨#[]⟩, .slice none 0 0, .int .i64 0, .int .i64 0, .string ⟨#[]⟩, .int .i64 0, .slice none 0 0, .slice none 0 0, .slice none 0 0] (jG #[.int .i64 n.tok.pos, .string ⟨#[]⟩, .slice none 0 0, .int .i64 0, .int .i64 0, .string ⟨#[]⟩, .int .i64 0, .slice none 0 0, .slice none 0 0, .slice none 0 0] (jG #[.int .i64 n.tok.pos, .string ⟨#[]⟩, .slice none 0 0, .int .i64 0, .int .i64 0, .string ⟨#[]⟩, .int .i64 0, .slice none 0 0, .slice none 0 0, .slice none 0 0] (jG #[.int .i64 n.tok.pos, .string ⟨#[]⟩, .slice none 0 0, .int .i64 0, .int .i64 0, .string ⟨#[]⟩, .int .i64 0, .slice none 0 0, .slice none 0 0, .slice none 0 0] (jG #[.int .i64 n.tok.pos, .string ⟨#[]⟩, .slice none 0 0, .int .i64 0, .int .i64 0, .string ⟨#[]⟩, .int .i64 0, .slice none 0 0, .slice none 0 0, .slice none 0 0] (ER.out) 0 (.int .i64 n.tok.pos) rfl) 1 (.string ⟨#[]⟩) rfl) 2 (.slice none 0 0) rfl) 3 (.int .i64 0) rfl) 4 (.int .i64 0) rfl) 5 (.string ⟨#[]⟩) rfl) 6 (.int .i64 0) rfl) 7 (.slice none 0 0) rfl) 8 (.slice none 0 0) rfl) 9 (.slice none 0 0) rfl)
   replace ET := hid (jB (jB (jB (jB (jB (jB (jB (jB (jB (jB (ET.out) (w.heap.size + 1) 0 (.int .i64 n.tok.pos) (by omega)) (w.heap.size + 1) 1 (.string ⟨#[]⟩) (by omega)) (w.heap.size + 1) 2 (.slice none 0 0) (by omega)) (w.heap.size + 1) 3 (.int .i64 0) (by omega)) (w.heap.size + 1) 4 (.int .i64 0) (by omega)) (w.heap.size + 1) 5 (.string ⟨#[]⟩) (by omega)) (w.heap.size + 1) 6 (.int .i64 0) (by omega)) (w.heap.size + 1) 7 (.slice none 0 0) (by omega)) (w.heap.size + 1) 8 (.slice none 0 0) (by omega)) (w.heap.size + 1) 9 (.slice none 0 0) (by omega))
   replace HB := hid (Below.setCell (Below.setCell (Below.setCell (Below.setCell (Below.setCell (Below.setCell (Below.setCell (Below.setCell (Below.setCell (Below.setCell (HB.out) (p := ⟨w.heap.size + 1, 0, none⟩) (by dsimp only; omega) (.int .i64 n.tok.pos)) (p := ⟨w.heap.size + 1, 1, none⟩) (by dsimp only; omega) (.string ⟨#[]⟩)) (p := ⟨w.heap.size + 1, 2, none⟩) (by dsimp only; omega) (.slice none 0 0)) (p := ⟨w.heap.size + 1, 3, none⟩) (by dsimp only; omega) (.int .i64 0)) (p := ⟨w.heap.size + 1, 4, none⟩) (by dsimp only; omega) (.int .i64 0)) (p := ⟨w.heap.size + 1, 5, none⟩) (by dsimp only; omega) (.string ⟨#[]⟩)) (p := ⟨w.heap.size + 1, 6, none⟩) (by dsimp only; omega) (.int .i64 0)) (p := ⟨w.heap.size + 1, 7, none⟩) (by dsimp only; omega) (.slice none 0 0)) (p := ⟨w.heap.size + 1, 8, none⟩) (by dsimp only; omega) (.slice none 0 0)) (p := ⟨w.heap.size + 1, 9, none⟩) (by dsimp only; omega) (.slice none 0 0))
   have r0 := jA ER.out 0 _ rfl
   have r1 := jA ER.out 1 _ rfl
   have r2 := jA ER.out 2 _ rfl
   have r3 := jA ER.out 3 _ rfl
   have r4 := jA ER.out 4 _ rfl
   have r5 := jA ER.out 5 _ rfl
   have r6 := jA ER.out 6 _ rfl
   have r7 := jA ER.out 7 _ rfl
   have r8 := jA ER.out 8 _ rfl
   have r9 := jA ER.out 9 _ rfl
   refine bodyPost_ret (v := .tuple #[.agg #[.int .i64 n.tok.pos, .string ⟨#[]⟩, .slice none 0 0, .int .i64 0, .int .i64 0, .string ⟨#[]⟩, .int .i64 0, .slice none 0 0, .slice none 0 0, .slice none 0 0], .int .i64 p]) (by simp [results, Try.results22, go_sem, r0, r1, r2, r3, r4, r5, r6, r7, r8, r9]) rfl ?_
   exact jL (by rw [HP.out, HND.out]) HB.out ⟨_, _, _, _, _, _, _, _, _, _, _, _, _, _, _, _, _, _, rfl⟩
 | ok l =>
   dsimp only
   have hni := jW hnd
   have hll := hni.1
   have hlen2 := hni.2.1
   have hlen9 := hni.2.2.1
   clear hni
   subst hll
   replace HP := HP.out
   rw [hnd] at HP
   dsimp only at HP
   rcases HR.out with ⟨h0, _⟩ | ⟨g, of, c', hv, g1, g2, g3⟩
   · rw [h0] at hlen2; simp at hlen2
   injection hv with hq1 _ hq2
   subst hq1; subst hq2
   obtain ⟨m1, hm⟩ : ∃ m, n.list[1]? = some m := ⟨_, List.getElem?_eq_getElem (by omega)⟩
   have hgtm1 : n.list.getD (1) n = m1 := by rw [List.getD_eq_getElem?_getD, hm]; rfl
   have HGm1 := hid (HG.out.kid (List.mem_of_getElem? hm))
   obtain ⟨u, hu, _, hcell⟩ := g3 (1) m1 hm
   obtain ⟨km1, kvm1, hkm1, hue, hkr, q0, q1, q2, q3, q4, q5⟩ := jR hu hcell
   subst hue
   have HMm1 := hid hm; have HVm1 := hid hu; have HKm1 := hid hkr
   try simp only [Nat.reduceMul, Nat.add_zero, Nat.zero_add] at q0 q1 q2 q3 q4 q5
   have m1q0 := hid q0; have m1q1 := hid q1; have m1q2 := hid q2; have m1q3 := hid q3; have m1q4 := hid q4; have m1q5 := hid q5
   clear hu hcell hkr q0 q1 q2 q3 q4 q5 hm
   obtain ⟨m2, hm⟩ : ∃ m, n.list[2]? = some m := ⟨_, List.getElem?_eq_getElem (by omega)⟩
   have hgtm2 : n.list.getD (2) n = m2 := by rw [List.getD_eq_getElem?_getD, hm]; rfl
   have HGm2 := hid (HG.out.kid (List.mem_of_getElem? hm))
   obtain ⟨u, hu, _, hcell⟩ := g3 (2) m2 hm
   obtain ⟨km2, kvm2, hkm2, hue, hkr, q0, q1, q2, q3, q4, q5⟩ := jR hu hcell
   subst hue
   have HMm2 := hid hm; have HVm2 := hid hu; have HKm2 := hid hkr
   try simp only [Nat.reduceMul, Nat.add_zero, Nat.zero_add] at q0 q1 q2 q3 q4 q5
   have m2q0 := hid q0; have m2q1 := hid q1; have m2q2 := hid q2; have m2q3 := hid q3; have m2q4 := hid q4; have m2q5 := hid q5
   clear hu hcell hkr q0 q1 q2 q3 q4 q5 hm
   obtain ⟨m3, hm⟩ : ∃ m, n.list[3]? = some m := ⟨_, List.getElem?_eq_getElem (by omega)⟩
   have hgtm3 : n.list.getD (3) n = m3 := by rw [List.getD_eq_getElem?_getD, hm]; rfl
   have HGm3 := hid (HG.out.kid (List.mem_of_getElem? hm))
   obtain ⟨u, hu, _, hcell⟩ := g3 (3) m3 hm
   obtain ⟨km3, kvm3, hkm3, hue, hkr, q0, q1, q2, q3, q4, q5⟩ := jR hu hcell
   subst hue
   have HMm3 := hid hm; have HVm3 := hid hu; have HKm3 := hid hkr
   try simp only [Nat.reduceMul, Nat.add_zero, Nat.zero_add] at q0 q1 q2 q3 q4 q5
   have m3q0 := hid q0; have m3q1 := hid q1; have m3q2 := hid q2; have m3q3 := hid q3; have m3q4 := hid q4; have m3q5 := hid q5
   clear hu hcell hkr q0 q1 q2 q3 q4 q5 hm
   rw [hgtm1, hgtm2, hgtm3] at HP
   have HPP := hid HP
   have HROW := hid g3
   have HLEN := hid (And.intro hlen2 hlen9)
   have HKK := hid hkm1
   have hz1 : (1 : Int) < (n.list.length : Int) := by omega
   have hz2 : (2 : Int) < (n.list.length : Int) := by omega
   have hz4 : (3 : Int) < (n.list.length : Int) := by omega
   have hz3 : (n.list.length : Int) ≤ (c : Int) := by omega
   clear HP hgtm1 hgtm2 hnd g1 g2 g3 hlen2 hlen9 hkm1 hkm2
   clear hgtm3 hkm3
   have n0 := jE HB.out m1q0.out
   have n1 := jE HB.out m1q1.out
   have n2 := jE HB.out m1q2.out
   have n3 := jE HB.out m1q3.out
   have n4 := jE HB.out m1q4.out
   have n5 := jE HB.out m1q5.out
   have enc0 := jA EN.out 0 _ rfl
   have enc1 := jA EN.out 1 _ rfl
   have enc2 := jA EN.out 2 _ rfl
   have enc3 := jA EN.out 3 _ rfl
   have enc4 := jA EN.out 4 _ rfl
   have enc5 := jA EN.out 5 _ rfl
   have enf := jD EN.out
   go_wp2_with fail
   clear enc0 enc1 enc2 enc3 enc4 enc5 enf
   clear n0 n1 n2 n3 n4 n5
   refine (name_any m1 _ _ HGm1.out).mono ?_
   intro e w2 ht
   cases hs1 : Px.name m1 with
   | error p =>
     obtain ⟨z, rfl, ⟨zs, rfl⟩, hb⟩ := jN ht hs1
     have hge : (p : Int) ≥ 0 := by omega
     have HX1 := hid hs1
     replace hsz := Nat.le_trans hsz hb.size
     replace EN := hid (jC EN.out hb)
     replace ER := hid (jC ER.out hb)
     replace ET := hid (jC ET.out hb)
     replace HB := hid (HB.out.trans (hb.mono HB.out.size))
     clear hb
     clear ht hs1
     have etc0 := jA ET.out 0 _ rfl
     have etc1 := jA ET.out 1 _ rfl
     have etc2 := jA ET.out 2 _ rfl
     have etc3 := jA ET.out 3 _ rfl
     have etc4 := jA ET.out 4 _ rfl
     have etc5 := jA ET.out 5 _ rfl
     have etc6 := jA ET.out 6 _ rfl
     have etc7 := jA ET.out 7 _ rfl
     have etc8 := jA ET.out 8 _ rfl
     have etc9 := jA ET.out 9 _ rfl
     have etf := jD ET.out
     go_upto_region 6 with fail
     clear etc0 etc1 etc2 etc3 etc4 etc5 etc6 etc7 etc8 etc9 etf
     replace EN := hid (jB (EN.out) (w.heap.size + 2) 1 (.string zs) (by omega))
     replace ER := hid (jB (ER.out) (w.heap.size + 2) 1 (.string zs) (by omega))
     replace ET := hid (jG #[.int .i64 n.tok.pos, .string zs, .slice none 0 0, .int .i64 0, .int .i64 0, .string ⟨#[]⟩, .int .i64 0, .slice none 0 0, .slice none 0 0, .slice none 0 0] (ET.out) 1 (.string zs) rfl)
     replace HB := hid (Below.setCell (HB.out) (p := ⟨w.heap.size + 2, 1, none⟩) (by dsimp only; omega) (.string zs))
     replace hsz : w.heap.size + 3 ≤ (w2.setCell ⟨w.heap.size + 2, 1, none⟩ (.string zs)).heap.size := by simpa using hsz
     generalize w2.setCell ⟨w.heap.size + 2, 1, none⟩ (.string zs) = wz at EN ER ET HB hsz ⊢
     have erc0 := jA ER.out 0 _ rfl
     have erc1 := jA ER.out 1 _ rfl
     have erc2 := jA ER.out 2 _ rfl
     have erc3 := jA ER.out 3 _ rfl
     have erc4 := jA ER.out 4 _ rfl
     have erc5 := jA ER.out 5 _ rfl
     have erc6 := jA ER.out 6 _ rfl
     have erc7 := jA ER.out 7 _ rfl
     have erc8 := jA ER.out 8 _ rfl
     have erc9 := jA ER.out 9 _ rfl
     have erf := jD ER.out
     have etc0 := jA ET.out 0 _ rfl
     have etc1 := jA ET.out 1 _ rfl
     have etc2 := jA ET.out 2 _ rfl
     have etc3 := jA ET.out 3 _ rfl
     have etc4 := jA ET.out 4 _ rfl
     have etc5 := jA ET.out 5 _ rfl
     have etc6 := jA ET.out 6 _ rfl
     have etc7 := jA ET.out 7 _ rfl
     have etc8 := jA ET.out 8 _ rfl
     have etc9 := jA ET.out 9 _ rfl
     have etf := jD ET.out
     go_wp2_with fail
     replace EN := hid (jB (jB (jB (jB (jB (jB (jB (jB (jB (jB (EN.out) (w.heap.size + 1) 0 (.int .i64 n.tok.pos) (by omega)) (w.heap.size + 1) 1 (.string zs) (by omega)) (w.heap.size + 1) 2 (.slice none 0 0) (by omega)) (w.heap.size + 1) 3 (.int .i64 0) (by omega)) (w.heap.size + 1) 4 (.int .i64 0) (by omega)) (w.heap.size + 1) 5 (.string ⟨#[]⟩) (by omega)) (w.heap.size + 1) 6 (.int .i64 0) (by omega)) (w.heap.size + 1) 7 (.slice none 0 0) (by omega)) (w.heap.size + 1) 8 (.slice none 0 0) (by omega)) (w.heap.size + 1) 9 (.slice none 0 0) (by omega))
     replace ER := hid (jG #[.int .i64 n.tok.pos, .string zs, .slice none 0 0, .int .i64 0, .int .i64 0, .string ⟨#[]⟩, .int .i64 0, .slice none 0 0, .slice none 0 0, .slice none 0 0] (jG #[.int .i64 n.tok.pos, .string zs, .slice none 0 0, .int .i64 0, .int .i64 0, .string ⟨#[]⟩, .int .i64 0, .slice none 0 0, .slice none 0 0, .slice none 0 0] (jG #[.int .i64 n.tok.pos, .string zs, .slice none 0 0, .int .i64 0, .int .i64 0, .string ⟨#[]⟩, .int .i64 0, .slice none 0 0, .slice none 0 0, .slice none 0 0] (jG #[.int .i64 n.tok.pos, .string zs, .slice none 0 0, .int .i64 0, .int .i64 0, .string ⟨#[]⟩, .int .i64 0, .slice none 0 0, .slice none 0 0, .slice none 0 0] (jG #[.int .i64 n.tok.pos, .string zs, .slice none 0 0, .int .i64 0, .int .i64 0, .string ⟨#[]⟩, .int .i64 0, .slice none 0 0, .slice none 0 0, .slice none 0 0] (jG #[.int .i64 n.tok.pos, .string zs, .slice none 0 0, .int .i64 0, .int .i64 0, .string ⟨#[]⟩, .int .i64 0, .slice none 0 0, .slice none 0 0, .slice none 0 0] (jG #[.int .i64 n.tok.pos, .string zs, .slice none 0 0, .int .i64 0, .int .i64 0, .string ⟨#[]⟩, .int .i64 0, .slice none 0 0, .slice none 0 0, .slice none 0 0] (jG #[.int .i64 n.tok.pos, .string zs, .slice none 0 0, .int .i64 0, .int .i64 0, .string ⟨#[]⟩, .int .i64 0, .slice none 0 0, .slice none 0 0, .slice none 0 0] (jG #[.int .i64 n.tok.pos, .string zs, .slice none 0 0, .int .i64 0, .int .i64 0, .string ⟨#[]⟩, .int .i64 0, .slice none 0 0, .slice none 0 0, .slice none 0 0] (jG #[.int .i64 n.tok.pos, .string ⟨#[]⟩, .slice none 0 0, .int .i64 0, .int .i64 0, .string ⟨#[]⟩, .int .i64 0, .slice none 0 0, .slice none 0 0, .slice none 0 0] (ER.out) 0 (.int .i64 n.tok.pos) rfl) 1 (.string zs) rfl) 2 (.slice none 0 0) rfl) 3 (.int .i64 0) rfl) 4 (.int .i64 0) rfl) 5 (.string ⟨#[]⟩) rfl) 6 (.int .i64 0) rfl) 7 (.slice none 0 0) rfl) 8 (.slice none 0 0) rfl) 9 (.slice none 0 0) rfl)
     replace ET := hid (jB (jB (jB (jB (jB (jB (jB (jB (jB (jB (ET.out) (w.heap.size + 1) 0 (.int .i64 n.tok.pos) (by omega)) (w.heap.size + 1) 1 (.string zs) (by omega)) (w.heap.size + 1) 2 (.slice none 0 0) (by omega)) (w.heap.size + 1) 3 (.int .i64 0) (by omega)) (w.heap.size + 1) 4 (.int .i64 0) (by omega)) (w.heap.size + 1) 5 (.string ⟨#[]⟩) (by omega)) (w.heap.size + 1) 6 (.int .i64 0) (by omega)) (w.heap.size + 1) 7 (.slice none 0 0) (by omega)) (w.heap.size + 1) 8 (.slice none 0 0) (by omega)) (w.heap.size + 1) 9 (.slice none 0 0) (by omega))
     replace HB := hid (Below.setCell (Below.setCell (Below.setCell (Below.setCell (Below.setCell (Below.setCell (Below.setCell (Below.setCell (Below.setCell (Below.setCell (HB.out) (p := ⟨w.heap.size + 1, 0, none⟩) (by dsimp only; omega) (.int .i64 n.tok.pos)) (p := ⟨w.heap.size + 1, 1, none⟩) (by dsimp only; omega) (.string zs)) (p := ⟨w.heap.size + 1, 2, none⟩) (by dsimp only; omega) (.slice none 0 0)) (p := ⟨w.heap.size + 1, 3, none⟩) (by dsimp only; omega) (.int .i64 0)) (p := ⟨w.heap.size + 1, 4, none⟩) (by dsimp only; omega) (.int .i64 0)) (p := ⟨w.heap.size + 1, 5, none⟩) (by dsimp only; omega) (.string ⟨#[]⟩)) (p := ⟨w.heap.size + 1, 6, none⟩) (by dsimp only; omega) (.int .i64 0)) (p := ⟨w.heap.size + 1, 7, none⟩) (by dsimp only; omega) (.slice none 0 0)) (p := ⟨w.heap.size + 1, 8, none⟩) (by dsimp only; omega) (.slice none 0 0)) (p := ⟨w.heap.size + 1, 9, none⟩) (by dsimp only; omega) (.slice none 0 0))
     have r0 := jA ER.out 0 _ rfl
     have r1 := jA ER.out 1 _ rfl
     have r2 := jA ER.out 2 _ rfl
     have r3 := jA ER.out 3 _ rfl
     have r4 := jA ER.out 4 _ rfl
     have r5 := jA ER.out 5 _ rfl
     have r6 := jA ER.out 6 _ rfl
     have r7 := jA ER.out 7 _ rfl
     have r8 := jA ER.out 8 _ rfl
     have r9 := jA ER.out 9 _ rfl
     refine bodyPost_ret (v := .tuple #[.agg #[.int .i64 n.tok.pos, .string zs, .slice none 0 0, .int .i64 0, .int .i64 0, .string ⟨#[]⟩, .int .i64 0, .slice none 0 0, .slice none 0 0, .slice none 0 0], .int .i64 p]) (by simp [results, Try.results22, go_sem, r0, r1, r2, r3, r4, r5, r6, r7, r8, r9]) rfl ?_
     exact jL (by rw [HPP.out, HX1.out]) HB.out ⟨_, _, _, _, _, _, _, _, _, _, _, _, _, _, _, _, _, _, rfl⟩
   | ok s =>
     obtain ⟨z, rfl, _, hnew, hb⟩ := rtold_ok ht hs1
     obtain rfl : z = .string ⟨s.toArray⟩ := hnew.now
     have HX1 := hid hs1
     replace hsz := Nat.le_trans hsz hb.size
     replace EN := hid (jC EN.out hb)
     replace ER := hid (jC ER.out hb)
     replace ET := hid (jC ET.out hb)
     replace HB := hid (HB.out.trans (hb.mono HB.out.size))
     clear hb
     clear ht hs1 hnew
     have etc0 := jA ET.out 0 _ rfl
     have etc1 := jA ET.out 1 _ rfl
     have etc2 := jA ET.out 2 _ rfl
     have etc3 := jA ET.out 3 _ rfl
     have etc4 := jA ET.out 4 _ rfl
     have etc5 := jA ET.out 5 _ rfl
     have etc6 := jA ET.out 6 _ rfl
     have etc7 := jA ET.out 7 _ rfl
     have etc8 := jA ET.out 8 _ rfl
     have etc9 := jA ET.out 9 _ rfl
     have etf := jD ET.out
     go_upto_region 6 with fail
     clear etc0 etc1 etc2 etc3 etc4 etc5 etc6 etc7 etc8 etc9 etf
     replace EN := hid (jB (EN.out) (w.heap.size + 2) 1 (.string ⟨s.toArray⟩) (by omega))
     replace ER := hid (jB (ER.out) (w.heap.size + 2) 1 (.string ⟨s.toArray⟩) (by omega))
     replace ET := hid (jG #[.int .i64 n.tok.pos, .string ⟨s.toArray⟩, .slice none 0 0, .int .i64 0, .int .i64 0, .string ⟨#[]⟩, .int .i64 0, .slice none 0 0, .slice none 0 0, .slice none 0 0] (ET.out) 1 (.string ⟨s.toArray⟩) rfl)
     replace HB := hid (Below.setCell (HB.out) (p := ⟨w.heap.size + 2, 1, none⟩) (by dsimp only; omega) (.string ⟨s.toArray⟩))
     replace hsz : w.heap.size + 3 ≤ (w2.setCell ⟨w.heap.size + 2, 1, none⟩ (.string ⟨s.toArray⟩)).heap.size := by simpa using hsz
     generalize w2.setCell ⟨w.heap.size + 2, 1, none⟩ (.string ⟨s.toArray⟩) = wz at EN ER ET HB hsz ⊢
     have HLO := hid hsz
     have n0 := jE HB.out m2q0.out
     have n1 := jE HB.out m2q1.out
     have n2 := jE HB.out m2q2.out
     have n3 := jE HB.out m2q3.out
     have n4 := jE HB.out m2q4.out
     have n5 := jE HB.out m2q5.out
     have enc0 := jA EN.out 0 _ rfl
     have enc1 := jA EN.out 1 _ rfl
     have enc2 := jA EN.out 2 _ rfl
     have enc3 := jA EN.out 3 _ rfl
     have enc4 := jA EN.out 4 _ rfl
     have enc5 := jA EN.out 5 _ rfl
     have enf := jD EN.out
     go_wp2_with fail
     clear enc0 enc1 enc2 enc3 enc4 enc5 enf
     clear n0 n1 n2 n3 n4 n5
     refine (names_any k m2 _ _ (HVm2.out.below HB.out) HGm2.out).mono ?_
     intro e w3 ht
     cases hs2 : Px.names m2 0 with
     | error p =>
       obtain ⟨z, rfl, ⟨zq, zn, zc, rfl⟩, hb⟩ := jN ht hs2
       have hge : (p : Int) ≥ 0 := by omega
       have HX2 := hid hs2
       replace hsz := Nat.le_trans hsz hb.size
       replace EN := hid (jC EN.out hb)
       replace ER := hid (jC ER.out hb)
       replace ET := hid (jC ET.out hb)
       replace HB := hid (HB.out.trans (hb.mono HB.out.size))
       clear hb
       clear ht hs2
       have etc0 := jA ET.out 0 _ rfl
       have etc1 := jA ET.out 1 _ rfl
       have etc2 := jA ET.out 2 _ rfl
       have etc3 := jA ET.out 3 _ rfl
       have etc4 := jA ET.out 4 _ rfl
       have etc5 := jA ET.out 5 _ rfl
       have etc6 := jA ET.out 6 _ rfl
       have etc7 := jA ET.out 7 _ rfl
       have etc8 := jA ET.out 8 _ rfl
       have etc9 := jA ET.out 9 _ rfl
       have etf := jD ET.out
       go_upto_region 9 with fail
       clear etc0 etc1 etc2 etc3 etc4 etc5 etc6 etc7 etc8 etc9 etf
       replace EN := hid (jB (EN.out) (w.heap.size + 2) 2 (.slice zq zn zc) (by omega))
       replace ER := hid (jB (ER.out) (w.heap.size + 2) 2 (.slice zq zn zc) (by omega))
       replace ET := hid (jG #[.int .i64 n.tok.pos, .string ⟨s.toArray⟩, .slice zq zn zc, .int .i64 0, .int .i64 0, .string ⟨#[]⟩, .int .i64 0, .slice none 0 0, .slice none 0 0, .slice none 0 0] (ET.out) 2 (.slice zq zn zc) rfl)
       replace HB := hid (Below.setCell (HB.out) (p := ⟨w.heap.size + 2, 2, none⟩) (by dsimp only; omega) (.slice zq zn zc))
       replace hsz : w.heap.size + 3 ≤ (w3.setCell ⟨w.heap.size + 2, 2, none⟩ (.slice zq zn zc)).heap.size := by simpa using hsz
       generalize w3.setCell ⟨w.heap.size + 2, 2, none⟩ (.slice zq zn zc) = wz at EN ER ET HB hsz ⊢
       have erc0 := jA ER.out 0 _ rfl
       have erc1 := jA ER.out 1 _ rfl
       have erc2 := jA ER.out 2 _ rfl
       have erc3 := jA ER.out 3 _ rfl
       have erc4 := jA ER.out 4 _ rfl
       have erc5 := jA ER.out 5 _ rfl
       have erc6 := jA ER.out 6 _ rfl
       have erc7 := jA ER.out 7 _ rfl
       have erc8 := jA ER.out 8 _ rfl
       have erc9 := jA ER.out 9 _ rfl
       have erf := jD ER.out
       have etc0 := jA ET.out 0 _ rfl
       have etc1 := jA ET.out 1 _ rfl
       have etc2 := jA ET.out 2 _ rfl
       have etc3 := jA ET.out 3 _ rfl
       have etc4 := jA ET.out 4 _ rfl
       have etc5 := jA ET.out 5 _ rfl
       have etc6 := jA ET.out 6 _ rfl
       have etc7 := jA ET.out 7 _ rfl
       have etc8 := jA ET.out 8 _ rfl
       have etc9 := jA ET.out 9 _ rfl
       have etf := jD ET.out
       go_wp2_with fail
       replace EN := hid (jB (jB (jB (jB (jB (jB (jB (jB (jB (jB (EN.out) (w.heap.size + 1) 0 (.int .i64 n.tok.pos) (by omega)) (w.heap.size + 1) 1 (.string ⟨s.toArray⟩) (by omega)) (w.heap.size + 1) 2 (.slice zq zn zc) (by omega)) (w.heap.size + 1) 3 (.int .i64 0) (by omega)) (w.heap.size + 1) 4 (.int .i64 0) (by omega)) (w.heap.size + 1) 5 (.string ⟨#[]⟩) (by omega)) (w.heap.size + 1) 6 (.int .i64 0) (by omega)) (w.heap.size + 1) 7 (.slice none 0 0) (by omega)) (w.heap.size + 1) 8 (.slice none 0 0) (by omega)) (w.heap.size + 1) 9 (.slice none 0 0) (by omega))
       replace ER := hid (jG #[.int .i64 n.tok.pos, .string ⟨s.toArray⟩, .slice zq zn zc, .int .i64 0, .int .i64 0, .string ⟨#[]⟩, .int .i64 0, .slice none 0 0, .slice none 0 0, .slice none 0 0] (jG #[.int .i64 n.tok.pos, .string ⟨s.toArray⟩, .slice zq zn zc, .int .i64 0, .int .i64 0, .string ⟨#[]⟩, .int .i64 0, .slice none 0 0, .slice none 0 0, .slice none 0 0] (jG #[.int .i64 n.tok.pos, .string ⟨s.toArray⟩, .slice zq zn zc, .int .i64 0, .int .i64 0, .string ⟨#[]⟩, .int .i64 0, .slice none 0 0, .slice none 0 0, .slice none 0 0] (jG #[.int .i64 n.tok.pos, .string ⟨s.toArray⟩, .slice zq zn zc, .int .i64 0, .int .i64 0, .string ⟨#[]⟩, .int .i64 0, .slice none 0 0, .slice none 0 0, .slice none 0 0] (jG #[.int .i64 n.tok.pos, .string ⟨s.toArray⟩, .slice zq zn zc, .int .i64 0, .int .i64 0, .string ⟨#[]⟩, .int .i64 0, .slice none 0 0, .slice none 0 0, .slice none 0 0] (jG #[.int .i64 n.tok.pos, .string ⟨s.toArray⟩, .slice zq zn zc, .int .i64 0, .int .i64 0, .string ⟨#[]⟩, .int .i64 0, .slice none 0 0, .slice none 0 0, .slice none 0 0] (jG #[.int .i64 n.tok.pos, .string ⟨s.toArray⟩, .slice zq zn zc, .int .i64 0, .int .i64 0, .string ⟨#[]⟩, .int .i64 0, .slice none 0 0, .slice none 0 0, .slice none 0 0] (jG #[.int .i64 n.tok.pos, .string ⟨s.toArray⟩, .slice zq zn zc, .int .i64 0, .int .i64 0, .string ⟨#[]⟩, .int .i64 0, .slice none 0 0, .slice none 0 0, .slice none 0 0] (jG #[.int .i64 n.tok.pos, .string ⟨s.toArray⟩, .slice none 0 0, .int .i64 0, .int .i64 0, .string ⟨#[]⟩, .int .i64 0, .slice none 0 0, .slice none 0 0, .slice none 0 0] (jG #[.int .i64 n.tok.pos, .string ⟨#[]⟩, .slice none 0 0, .int .i64 0, .int .i64 0, .string ⟨#[]⟩, .int .i64 0, .slice none 0 0, .slice none 0 0, .slice none 0 0] (ER.out) 0 (.int .i64 n.tok.pos) rfl) 1 (.string ⟨s.toArray⟩) rfl) 2 (.slice zq zn zc) rfl) 3 (.int .i64 0) rfl) 4 (.int .i64 0) rfl) 5 (.string ⟨#[]⟩) rfl) 6 (.int .i64 0) rfl) 7 (.slice none 0 0) rfl) 8 (.slice none 0 0) rfl) 9 (.slice none 0 0) rfl)
       replace ET := hid (jB (jB (jB (jB (jB (jB (jB (jB (jB (jB (ET.out) (w.heap.size + 1) 0 (.int .i64 n.tok.pos) (by omega)) (w.heap.size + 1) 1 (.string ⟨s.toArray⟩) (by omega)) (w.heap.size + 1) 2 (.slice zq zn zc) (by omega)) (w.heap.size + 1) 3 (.int .i64 0) (by omega)) (w.heap.size + 1) 4 (.int .i64 0) (by omega)) (w.heap.size + 1) 5 (.string ⟨#[]⟩) (by omega)) (w.heap.size + 1) 6 (.int .i64 0) (by omega)) (w.heap.size + 1) 7 (.slice none 0 0) (by omega)) (w.heap.size + 1) 8 (.slice none 0 0) (by omega)) (w.heap.size + 1) 9 (.slice none 0 0) (by omega))
       replace HB := hid (Below.setCell (Below.setCell (Below.setCell (Below.setCell (Below.setCell (Below.setCell (Below.setCell (Below.setCell (Below.setCell (Below.setCell (HB.out) (p := ⟨w.heap.size + 1, 0, none⟩) (by dsimp only; omega) (.int .i64 n.tok.pos)) (p := ⟨w.heap.size + 1, 1, none⟩) (by dsimp only; omega) (.string ⟨s.toArray⟩)) (p := ⟨w.heap.size + 1, 2, none⟩) (by dsimp only; omega) (.slice zq zn zc)) (p := ⟨w.heap.size + 1, 3, none⟩) (by dsimp only; omega) (.int .i64 0)) (p := ⟨w.heap.size + 1, 4, none⟩) (by dsimp only; omega) (.int .i64 0)) (p := ⟨w.heap.size + 1, 5, none⟩) (by dsimp only; omega) (.string ⟨#[]⟩)) (p := ⟨w.heap.size + 1, 6, none⟩) (by dsimp only; omega) (.int .i64 0)) (p := ⟨w.heap.size + 1, 7, none⟩) (by dsimp only; omega) (.slice none 0 0)) (p := ⟨w.heap.size + 1, 8, none⟩) (by dsimp only; omega) (.slice none 0 0)) (p := ⟨w.heap.size + 1, 9, none⟩) (by dsimp only; omega) (.slice none 0 0))
       have r0 := jA ER.out 0 _ rfl
       have r1 := jA ER.out 1 _ rfl
       have r2 := jA ER.out 2 _ rfl
       have r3 := jA ER.out 3 _ rfl
       have r4 := jA ER.out 4 _ rfl
       have r5 := jA ER.out 5 _ rfl
       have r6 := jA ER.out 6 _ rfl
       have r7 := jA ER.out 7 _ rfl
       have r8 := jA ER.out 8 _ rfl
       have r9 := jA ER.out 9 _ rfl
       refine bodyPost_ret (v := .tuple #[.agg #[.int .i64 n.tok.pos, .string ⟨s.toArray⟩, .slice zq zn zc, .int .i64 0, .int .i64 0, .string ⟨#[]⟩, .int .i64 0, .slice none 0 0, .slice none 0 0, .slice none 0 0], .int .i64 p]) (by simp [results, Try.results22, go_sem, r0, r1, r2, r3, r4, r5, r6, r7, r8, r9]) rfl ?_
       exact jL (by rw [HPP.out, HX1.out]; dsimp only; rw [HX2.out]) HB.out ⟨_, _, _, _, _, _, _, _, _, _, _, _, _, _, _, _, _, _, rfl⟩
     | ok ps =>
       obtain ⟨z, rfl, ⟨zq, zn, zc, rfl⟩, hnew, hb⟩ := rtold_ok ht hs2
       have HX2 := hid hs2; have HNEW1 := hid hnew
       have S1 := hid (Stay.refl wz.heap.size w3)
       replace hsz := Nat.le_trans hsz hb.size
       replace EN := hid (jC EN.out hb)
       replace ER := hid (jC ER.out hb)
       replace ET := hid (jC ET.out hb)
       replace HB := hid (HB.out.trans (hb.mono HB.out.size))
       clear hb
       clear ht hs2 hnew
       have etc0 := jA ET.out 0 _ rfl
       have etc1 := jA ET.out 1 _ rfl
       have etc2 := jA ET.out 2 _ rfl
       have etc3 := jA ET.out 3 _ rfl
       have etc4 := jA ET.out 4 _ rfl
       have etc5 := jA ET.out 5 _ rfl
       have etc6 := jA ET.out 6 _ rfl
       have etc7 := jA ET.out 7 _ rfl
       have etc8 := jA ET.out 8 _ rfl
       have etc9 := jA ET.out 9 _ rfl
       have etf := jD ET.out
       go_upto_region 9 with fail
       clear etc0 etc1 etc2 etc3 etc4 etc5 etc6 etc7 etc8 etc9 etf
       replace EN := hid (jB (EN.out) (w.heap.size + 2) 2 (.slice zq zn zc) (by omega))
       replace ER := hid (jB (ER.out) (w.heap.size + 2) 2 (.slice zq zn zc) (by omega))
       replace ET := hid (jG #[.int .i64 n.tok.pos, .string ⟨s.toArray⟩, .slice zq zn zc, .int .i64 0, .int .i64 0, .string ⟨#[]⟩, .int .i64 0, .slice none 0 0, .slice none 0 0, .slice none 0 0] (ET.out) 2 (.slice zq zn zc) rfl)
       replace HB := hid (Below.setCell (HB.out) (p := ⟨w.heap.size + 2, 2, none⟩) (by dsimp only; omega) (.slice zq zn zc))
       replace S1 := hid (Stay.set S1.out (w.heap.size + 2) 2 (.slice zq zn zc) (by have := HLO.out; omega))
       replace hsz : w.heap.size + 3 ≤ (w3.setCell ⟨w.heap.size + 2, 2, none⟩ (.slice zq zn zc)).heap.size := by simpa using hsz
       generalize w3.setCell ⟨w.heap.size + 2, 2, none⟩ (.slice zq zn zc) = wz at EN ER ET HB S1 hsz ⊢
       have HLO2 := hid hsz
       have n0 := jE HB.out m3q0.out
       have n1 := jE HB.out m3q1.out
       have n2 := jE HB.out m3q2.out
       have n3 := jE HB.out m3q3.out
       have n4 := jE HB.out m3q4.out
       have n5 := jE HB.out m3q5.out
       have enc0 := jA EN.out 0 _ rfl
       have enc1 := jA EN.out 1 _ rfl
       have enc2 := jA EN.out 2 _ rfl
       have enc3 := jA EN.out 3 _ rfl
       have enc4 := jA EN.out 4 _ rfl
       have enc5 := jA EN.out 5 _ rfl
       have enf := jD EN.out
       go_wp2_with fail
       clear enc0 enc1 enc2 enc3 enc4 enc5 enf
       clear n0 n1 n2 n3 n4 n5
       refine (expr_any 50 k m3 _ _ HK50.out (HVm3.out.below HB.out) HGm3.out).mono ?_
       intro e w5 ht
       cases hx : Px.expr 50 m3 with
       | error p =>
         obtain ⟨z, rfl, ⟨yk, yp, yz, yi, yq1, yn1, yc1, yq2, yn2, yc2, yq3, yn3, yc3, rfl⟩, hb⟩ := jN ht hx
         have HX := hid hx
         replace hsz := Nat.le_trans hsz hb.size
         replace EN := hid (jC EN.out hb)
         replace ER := hid (jC ER.out hb)
         replace ET := hid (jC ET.out hb)
         replace HB := hid (HB.out.trans (hb.mono HB.out.size))
         clear hb
         clear ht hx
         have etc0 := jA ET.out 0 _ rfl
         have etc1 := jA ET.out 1 _ rfl
         have etc2 := jA ET.out 2 _ rfl
         have etc3 := jA ET.out 3 _ rfl
         have etc4 := jA ET.out 4 _ rfl
         have etc5 := jA ET.out 5 _ rfl
         have etc6 := jA ET.out 6 _ rfl
         have etc7 := jA ET.out 7 _ rfl
         have etc8 := jA ET.out 8 _ rfl
         have etc9 := jA ET.out 9 _ rfl
         have etf := jD ET.out
         go_upto_region 12 with fail
         clear etc0 etc1 etc2 etc3 etc4 etc5 etc6 etc7 etc8 etc9 etf
         replace EN := hid (jB (jB (jB (jB (jB (jB (jB (EN.out) (w.heap.size + 2) 3 (.int .i64 yk) (by omega)) (w.heap.size + 2) 4 (.int .i64 yp) (by omega)) (w.heap.size + 2) 5 (.string yz) (by omega)) (w.heap.size + 2) 6 (.int .i64 yi) (by omega)) (w.heap.size + 2) 7 (.slice yq1 yn1 yc1) (by omega)) (w.heap.size + 2) 8 (.slice yq2 yn2 yc2) (by omega)) (w.heap.size + 2) 9 (.slice yq3 yn3 yc3) (by omega))
         replace ER := hid (jB (jB (jB (jB (jB (jB (jB (ER.out) (w.heap.size + 2) 3 (.int .i64 yk) (by omega)) (w.heap.size + 2) 4 (.int .i64 yp) (by omega)) (w.heap.size + 2) 5 (.string yz) (by omega)) (w.heap.size + 2) 6 (.int .i64 yi) (by omega)) (w.heap.size + 2) 7 (.slice yq1 yn1 yc1) (by omega)) (w.heap.size + 2) 8 (.slice yq2 yn2 yc2) (by omega)) (w.heap.size + 2) 9 (.slice yq3 yn3 yc3) (by omega))
         replace ET := hid (jG #[.int .i64 n.tok.pos, .string ⟨s.toArray⟩, .slice zq zn zc, .int .i64 yk, .int .i64 yp, .string yz, .int .i64 yi, .slice yq1 yn1 yc1, .slice yq2 yn2 yc2, .slice yq3 yn3 yc3] (jG #[.int .i64 n.tok.pos, .string ⟨s.toArray⟩, .slice zq zn zc, .int .i64 yk, .int .i64 yp, .string yz, .int .i64 yi, .slice yq1 yn1 yc1, .slice yq2 yn2 yc2, .slice none 0 0] (jG #[.int .i64 n.tok.pos, .string ⟨s.toArray⟩, .slice zq zn zc, .int .i64 yk, .int .i64 yp, .string yz, .int .i64 yi, .slice yq1 yn1 yc1, .slice none 0 0, .slice none 0 0] (jG #[.int .i64 n.tok.pos, .string ⟨s.toArray⟩, .slice zq zn zc, .int .i64 yk, .int .i64 yp, .string yz, .int .i64 yi, .slice none 0 0, .slice none 0 0, .slice none 0 0] (jG #[.int .i64 n.tok.pos, .string ⟨s.toArray⟩, .slice zq zn zc, .int .i64 yk, .int .i64 yp, .string yz, .int .i64 0, .slice none 0 0, .slice none 0 0, .slice none 0 0] (jG #[.int .i64 n.tok.pos, .string ⟨s.toArray⟩, .slice zq zn zc, .int .i64 yk, .int .i64 yp, .string ⟨#[]⟩, .int .i64 0, .slice none 0 0, .slice none 0 0, .slice none 0 0] (jG #[.int .i64 n.tok.pos, .string ⟨s.toArray⟩, .slice zq zn zc, .int .i64 yk, .int .i64 0, .string ⟨#[]⟩, .int .i64 0, .slice none 0 0, .slice none 0 0, .slice none 0 0] (ET.out) 3 (.int .i64 yk) rfl) 4 (.int .i64 yp) rfl) 5 (.string yz) rfl) 6 (.int .i64 yi) rfl) 7 (.slice yq1 yn1 yc1) rfl) 8 (.slice yq2 yn2 yc2) rfl) 9 (.slice yq3 yn3 yc3) rfl)
         replace HB := hid (Below.setCell (Below.setCell (Below.setCell (Below.setCell (Below.setCell (Below.setCell (Below.setCell (HB.out) (p := ⟨w.heap.size + 2, 3, none⟩) (by dsimp only; omega) (.int .i64 yk)) (p := ⟨w.heap.size + 2, 4, none⟩) (by dsimp only; omega) (.int .i64 yp)) (p := ⟨w.heap.size + 2, 5, none⟩) (by dsimp only; omega) (.string yz)) (p := ⟨w.heap.size + 2, 6, none⟩) (by dsimp only; omega) (.int .i64 yi)) (p := ⟨w.heap.size + 2, 7, none⟩) (by dsimp only; omega) (.slice yq1 yn1 yc1)) (p := ⟨w.heap.size + 2, 8, none⟩) (by dsimp only; omega) (.slice yq2 yn2 yc2)) (p := ⟨w.heap.size + 2, 9, none⟩) (by dsimp only; omega) (.slice yq3 yn3 yc3))
         replace hsz : w.heap.size + 3 ≤ (((((((w5.setCell ⟨w.heap.size + 2, 3, none⟩ (.int .i64 yk)).setCell ⟨w.heap.size + 2, 4, none⟩ (.int .i64 yp)).setCell ⟨w.heap.size + 2, 5, none⟩ (.string yz)).setCell ⟨w.heap.size + 2, 6, none⟩ (.int .i64 yi)).setCell ⟨w.heap.size + 2, 7, none⟩ (.slice yq1 yn1 yc1)).setCell ⟨w.heap.size + 2, 8, none⟩ (.slice yq2 yn2 yc2)).setCell ⟨w.heap.size + 2, 9, none⟩ (.slice yq3 yn3 yc3)).heap.size := by simpa using hsz
         generalize (((((((w5.setCell ⟨w.heap.size + 2, 3, none⟩ (.int .i64 yk)).setCell ⟨w.heap.size + 2, 4, none⟩ (.int .i64 yp)).setCell ⟨w.heap.size + 2, 5, none⟩ (.string yz)).setCell ⟨w.heap.size + 2, 6, none⟩ (.int .i64 yi)).setCell ⟨w.heap.size + 2, 7, none⟩ (.slice yq1 yn1 yc1)).setCell ⟨w.heap.size + 2, 8, none⟩ (.slice yq2 yn2 yc2)).setCell ⟨w.heap.size + 2, 9, none⟩ (.slice yq3 yn3 yc3)) = wy at EN ER ET HB hsz ⊢
         have erc0 := jA ER.out 0 _ rfl
         have erc1 := jA ER.out 1 _ rfl
         have erc2 := jA ER.out 2 _ rfl
         have erc3 := jA ER.out 3 _ rfl
         have erc4 := jA ER.out 4 _ rfl
         have erc5 := jA ER.out 5 _ rfl
         have erc6 := jA ER.out 6 _ rfl
         have erc7 := jA ER.out 7 _ rfl
         have erc8 := jA ER.out 8 _ rfl
         have erc9 := jA ER.out 9 _ rfl
         have erf := jD ER.out
         have etc0 := jA ET.out 0 _ rfl
         have etc1 := jA ET.out 1 _ rfl
         have etc2 := jA ET.out 2 _ rfl
         have etc3 := jA ET.out 3 _ rfl
         have etc4 := jA ET.out 4 _ rfl
         have etc5 := jA ET.out 5 _ rfl
         have etc6 := jA ET.out 6 _ rfl
         have etc7 := jA ET.out 7 _ rfl
         have etc8 := jA ET.out 8 _ rfl
         have etc9 := jA ET.out 9 _ rfl
         have etf := jD ET.out
         go_wp2_with fail
         replace EN := hid (jB (jB (jB (jB (jB (jB (jB (jB (jB (jB (EN.out) (w.heap.size + 1) 0 (.int .i64 n.tok.pos) (by omega)) (w.heap.size + 1) 1 (.string ⟨s.toArray⟩) (by omega)) (w.heap.size + 1) 2 (.slice zq zn zc) (by omega)) (w.heap.size + 1) 3 (.int .i64 yk) (by omega)) (w.heap.size + 1) 4 (.int .i64 yp) (by omega)) (w.heap.size + 1) 5 (.string yz) (by omega)) (w.heap.size + 1) 6 (.int .i64 yi) (by omega)) (w.heap.size + 1) 7 (.slice yq1 yn1 yc1) (by omega)) (w.heap.size + 1) 8 (.slice yq2 yn2 yc2) (by omega)) (w.heap.size + 1) 9 (.slice yq3 yn3 yc3) (by omega))
         replace ER := hid (jG #[.int .i64 n.tok.pos, .string ⟨s.toArray⟩, .slice zq zn zc, .int .i64 yk, .int .i64 yp, .string yz, .int .i64 yi, .slice yq1 yn1 yc1, .slice yq2 yn2 yc2, .slice yq3 yn3 yc3] (jG #[.int .i64 n.tok.pos, .string ⟨s.toArray⟩, .slice zq zn zc, .int .i64 yk, .int .i64 yp, .string yz, .int .i64 yi, .slice yq1 yn1 yc1, .slice yq2 yn2 yc2, .slice none 0 0] (jG #[.int .i64 n.tok.pos, .string ⟨s.toArray⟩, .slice zq zn zc, .int .i64 yk, .int .i64 yp, .string yz, .int .i64 yi, .slice yq1 yn1 yc1, .slice none 0 0, .slice none 0 0] (jG #[.int .i64 n.tok.pos, .string ⟨s.toArray⟩, .slice zq zn zc, .int .i64 yk, .int .i64 yp, .string yz, .int .i64 yi, .slice none 0 0, .slice none 0 0, .slice none 0 0] (jG #[.int .i64 n.tok.pos, .string ⟨s.toArray⟩, .slice zq zn zc, .int .i64 yk, .int .i64 yp, .string yz, .int .i64 0, .slice none 0 0, .slice none 0 0, .slice none 0 0] (jG #[.int .i64 n.tok.pos, .string ⟨s.toArray⟩, .slice zq zn zc, .int .i64 yk, .int .i64 yp, .string ⟨#[]⟩, .int .i64 0, .slice none 0 0, .slice none 0 0, .slice none 0 0] (jG #[.int .i64 n.tok.pos, .string ⟨s.toArray⟩, .slice zq zn zc, .int .i64 yk, .int .i64 0, .string ⟨#[]⟩, .int .i64 0, .slice none 0 0, .slice none 0 0, .slice none 0 0] (jG #[.int .i64 n.tok.pos, .string ⟨s.toArray⟩, .slice zq zn zc, .int .i64 0, .int .i64 0, .string ⟨#[]⟩, .int .i64 0, .slice none 0 0, .slice none 0 0, .slice none 0 0] (jG #[.int .i64 n.tok.pos, .string ⟨s.toArray⟩, .slice none 0 0, .int .i64 0, .int .i64 0, .string ⟨#[]⟩, .int .i64 0, .slice none 0 0, .slice none 0 0, .slice none 0 0] (jG #[.int .i64 n.tok.pos, .string ⟨#[]⟩, .slice none 0 0, .int .i64 0, .int .i64 0, .string ⟨#[]⟩, .int .i64 0, .slice none 0 0, .slice none 0 0, .slice none 0 0] (ER.out) 0 (.int .i64 n.tok.pos) rfl) 1 (.string ⟨s.toArray⟩) rfl) 2 (.slice zq zn zc) rfl) 3 (.int .i64 yk) rfl) 4 (.int .i64 yp) rfl) 5 (.string yz) rfl) 6 (.int .i64 yi) rfl) 7 (.slice yq1 yn1 yc1) rfl) 8 (.slice yq2 yn2 yc2) rfl) 9 (.slice yq3 yn3 yc3) rfl)
         replace ET := hid (jB (jB (jB (jB (jB (jB (jB (jB (jB (jB (ET.out) (w.heap.size + 1) 0 (.int .i64 n.tok.pos) (by omega)) (w.heap.size + 1) 1 (.string ⟨s.toArray⟩) (by omega)) (w.heap.size + 1) 2 (.slice zq zn zc) (by omega)) (w.heap.size + 1) 3 (.int .i64 yk) (by omega)) (w.heap.size + 1) 4 (.int .i64 yp) (by omega)) (w.heap.size + 1) 5 (.string yz) (by omega)) (w.heap.size + 1) 6 (.int .i64 yi) (by omega)) (w.heap.size + 1) 7 (.slice yq1 yn1 yc1) (by omega)) (w.heap.size + 1) 8 (.slice yq2 yn2 yc2) (by omega)) (w.heap.size + 1) 9 (.slice yq3 yn3 yc3) (by omega))
         replace HB := hid (Below.setCell (Below.setCell (Below.setCell (Below.setCell (Below.setCell (Below.setCell (Below.setCell (Below.setCell (Below.setCell (Below.setCell (HB.out) (p := ⟨w.heap.size + 1, 0, none⟩) (by dsimp only; omega) (.int .i64 n.tok.pos)) (p := ⟨w.heap.size + 1, 1, none⟩) (by dsimp only; omega) (.string ⟨s.toArray⟩)) (p := ⟨w.heap.size + 1, 2, none⟩) (by dsimp only; omega) (.slice zq zn zc)) (p := ⟨w.heap.size + 1, 3, none⟩) (by dsimp only; omega) (.int .i64 yk)) (p := ⟨w.heap.size + 1, 4, none⟩) (by dsimp only; omega) (.int .i64 yp)) (p := ⟨w.heap.size + 1, 5, none⟩) (by dsimp only; omega) (.string yz)) (p := ⟨w.heap.size + 1, 6, none⟩) (by dsimp only; omega) (.int .i64 yi)) (p := ⟨w.heap.size + 1, 7, none⟩) (by dsimp only; omega) (.slice yq1 yn1 yc1)) (p := ⟨w.heap.size + 1, 8, none⟩) (by dsimp only; omega) (.slice yq2 yn2 yc2)) (p := ⟨w.heap.size + 1, 9, none⟩) (by dsimp only; omega) (.slice yq3 yn3 yc3))
         have r0 := jA ER.out 0 _ rfl
         have r1 := jA ER.out 1 _ rfl
         have r2 := jA ER.out 2 _ rfl
         have r3 := jA ER.out 3 _ rfl
         have r4 := jA ER.out 4 _ rfl
         have r5 := jA ER.out 5 _ rfl
         have r6 := jA ER.out 6 _ rfl
         have r7 := jA ER.out 7 _ rfl
         have r8 := jA ER.out 8 _ rfl
         have r9 := jA ER.out 9 _ rfl
         refine bodyPost_ret (v := .tuple #[.agg #[.int .i64 n.tok.pos, .string ⟨s.toArray⟩, .slice zq zn zc, .int .i64 yk, .int .i64 yp, .string yz, .int .i64 yi, .slice yq1 yn1 yc1, .slice yq2 yn2 yc2, .slice yq3 yn3 yc3], .int .i64 p]) (by simp [results, Try.results22, go_sem, r0, r1, r2, r3, r4, r5, r6, r7, r8, r9]) rfl ?_
         exact jL (by rw [HPP.out, HX1.out]; dsimp only; rw [HX2.out]; dsimp only; rw [HX.out]) HB.out ⟨_, _, _, _, _, _, _, _, _, _, _, _, _, _, _, _, _, _, rfl⟩
       | ok x =>
         obtain ⟨z, rfl, ⟨yk, yp, yz, yi, yq1, yn1, yc1, yq2, yn2, yc2, yq3, yn3, yc3, rfl⟩, hnew, hb⟩ := rtold_ok ht hx
         have HX := hid hx
         have HNEW2 := hid hnew
         replace S1 := hid (S1.out.below hb)
         have S2 := hid (Stay.refl wz.heap.size w5)
         have HLO2 := hid hsz
         replace hsz := Nat.le_trans hsz hb.size
         replace EN := hid (jC EN.out hb)
         replace ER := hid (jC ER.out hb)
         replace ET := hid (jC ET.out hb)
         replace HB := hid (HB.out.trans (hb.mono HB.out.size))
         clear hb
         clear ht hx hnew
         have etc0 := jA ET.out 0 _ rfl
         have etc1 := jA ET.out 1 _ rfl
         have etc2 := jA ET.out 2 _ rfl
         have etc3 := jA ET.out 3 _ rfl
         have etc4 := jA ET.out 4 _ rfl
         have etc5 := jA ET.out 5 _ rfl
         have etc6 := jA ET.out 6 _ rfl
         have etc7 := jA ET.out 7 _ rfl
         have etc8 := jA ET.out 8 _ rfl
         have etc9 := jA ET.out 9 _ rfl
         have etf := jD ET.out
         go_upto_region 12 with fail
         clear etc0 etc1 etc2 etc3 etc4 etc5 etc6 etc7 etc8 etc9 etf
         replace EN := hid (jB (jB (jB (jB (jB (jB (jB (EN.out) (w.heap.size + 2) 3 (.int .i64 yk) (by omega)) (w.heap.size + 2) 4 (.int .i64 yp) (by omega)) (w.heap.size + 2) 5 (.string yz) (by omega)) (w.heap.size + 2) 6 (.int .i64 yi) (by omega)) (w.heap.size + 2) 7 (.slice yq1 yn1 yc1) (by omega)) (w.heap.size + 2) 8 (.slice yq2 yn2 yc2) (by omega)) (w.heap.size + 2) 9 (.slice yq3 yn3 yc3) (by omega))
         replace ER := hid (jB (jB (jB (jB (jB (jB (jB (ER.out) (w.heap.size + 2) 3 (.int .i64 yk) (by omega)) (w.heap.size + 2) 4 (.int .i64 yp) (by omega)) (w.heap.size + 2) 5 (.string yz) (by omega)) (w.heap.size + 2) 6 (.int .i64 yi) (by omega)) (w.heap.size + 2) 7 (.slice yq1 yn1 yc1) (by omega)) (w.heap.size + 2) 8 (.slice yq2 yn2 yc2) (by omega)) (w.heap.size + 2) 9 (.slice yq3 yn3 yc3) (by omega))
         replace ET := hid (jG #[.int .i64 n.tok.pos, .string ⟨s.toArray⟩, .slice zq zn zc, .int .i64 yk, .int .i64 yp, .string yz, .int .i64 yi, .slice yq1 yn1 yc1, .slice yq2 yn2 yc2, .slice yq3 yn3 yc3] (jG #[.int .i64 n.tok.pos, .string ⟨s.toArray⟩, .slice zq zn zc, .int .i64 yk, .int .i64 yp, .string yz, .int .i64 yi, .slice yq1 yn1 yc1, .slice yq2 yn2 yc2, .slice none 0 0] (jG #[.int .i64 n.tok.pos, .string ⟨s.toArray⟩, .slice zq zn zc, .int .i64 yk, .int .i64 yp, .string yz, .int .i64 yi, .slice yq1 yn1 yc1, .slice none 0 0, .slice none 0 0] (jG #[.int .i64 n.tok.pos, .string ⟨s.toArray⟩, .slice zq zn zc, .int .i64 yk, .int .i64 yp, .string yz, .int .i64 yi, .slice none 0 0, .slice none 0 0, .slice none 0 0] (jG #[.int .i64 n.tok.pos, .string ⟨s.toArray⟩, .slice zq zn zc, .int .i64 yk, .int .i64 yp, .string yz, .int .i64 0, .slice none 0 0, .slice none 0 0, .slice none 0 0] (jG #[.int .i64 n.tok.pos, .string ⟨s.toArray⟩, .slice zq zn zc, .int .i64 yk, .int .i64 yp, .string ⟨#[]⟩, .int .i64 0, .slice none 0 0, .slice none 0 0, .slice none 0 0] (jG #[.int .i64 n.tok.pos, .string ⟨s.toArray⟩, .slice zq zn zc, .int .i64 yk, .int .i64 0, .string ⟨#[]⟩, .int .i64 0, .slice none 0 0, .slice none 0 0, .slice none 0 0] (ET.out) 3 (.int .i64 yk) rfl) 4 (.int .i64 yp) rfl) 5 (.string yz) rfl) 6 (.int .i64 yi) rfl) 7 (.slice yq1 yn1 yc1) rfl) 8 (.slice yq2 yn2 yc2) rfl) 9 (.slice yq3 yn3 yc3) rfl)
         replace HB := hid (Below.setCell (Below.setCell (Below.setCell (Below.setCell (Below.setCell (Below.setCell (Below.setCell (HB.out) (p := ⟨w.heap.size + 2, 3, none⟩) (by dsimp only; omega) (.int .i64 yk)) (p := ⟨w.heap.size + 2, 4, none⟩) (by dsimp only; omega) (.int .i64 yp)) (p := ⟨w.heap.size + 2, 5, none⟩) (by dsimp only; omega) (.string yz)) (p := ⟨w.heap.size + 2, 6, none⟩) (by dsimp only; omega) (.int .i64 yi)) (p := ⟨w.heap.size + 2, 7, none⟩) (by dsimp only; omega) (.slice yq1 yn1 yc1)) (p := ⟨w.heap.size + 2, 8, none⟩) (by dsimp only; omega) (.slice yq2 yn2 yc2)) (p := ⟨w.heap.size + 2, 9, none⟩) (by dsimp only; omega) (.slice yq3 yn3 yc3))
         replace S1 := hid (Stay.set (Stay.set (Stay.set (Stay.set (Stay.set (Stay.set (Stay.set (S1.out) (w.heap.size + 2) 3 (.int .i64 yk) (by have := HLO.out; omega)) (w.heap.size + 2) 4 (.int .i64 yp) (by have := HLO.out; omega)) (w.heap.size + 2) 5 (.string yz) (by have := HLO.out; omega)) (w.heap.size + 2) 6 (.int .i64 yi) (by have := HLO.out; omega)) (w.heap.size + 2) 7 (.slice yq1 yn1 yc1) (by have := HLO.out; omega)) (w.heap.size + 2) 8 (.slice yq2 yn2 yc2) (by have := HLO.out; omega)) (w.heap.size + 2) 9 (.slice yq3 yn3 yc3) (by have := HLO.out; omega))
         replace S2 := hid (Stay.set (Stay.set (Stay.set (Stay.set (Stay.set (Stay.set (Stay.set (S2.out) (w.heap.size + 2) 3 (.int .i64 yk) (by have := HLO2.out; omega)) (w.heap.size + 2) 4 (.int .i64 yp) (by have := HLO2.out; omega)) (w.heap.size + 2) 5 (.string yz) (by have := HLO2.out; omega)) (w.heap.size + 2) 6 (.int .i64 yi) (by have := HLO2.out; omega)) (w.heap.size + 2) 7 (.slice yq1 yn1 yc1) (by have := HLO2.out; omega)) (w.heap.size + 2) 8 (.slice yq2 yn2 yc2) (by have := HLO2.out; omega)) (w.heap.size + 2) 9 (.slice yq3 yn3 yc3) (by have := HLO2.out; omega))
         replace hsz : w.heap.size + 3 ≤ (((((((w5.setCell ⟨w.heap.size + 2, 3, none⟩ (.int .i64 yk)).setCell ⟨w.heap.size + 2, 4, none⟩ (.int .i64 yp)).setCell ⟨w.heap.size + 2, 5, none⟩ (.string yz)).setCell ⟨w.heap.size + 2, 6, none⟩ (.int .i64 yi)).setCell ⟨w.heap.size + 2, 7, none⟩ (.slice yq1 yn1 yc1)).setCell ⟨w.heap.size + 2, 8, none⟩ (.slice yq2 yn2 yc2)).setCell ⟨w.heap.size + 2, 9, none⟩ (.slice yq3 yn3 yc3)).heap.size := by simpa using hsz
         generalize (((((((w5.setCell ⟨w.heap.size + 2, 3, none⟩ (.int .i64 yk)).setCell ⟨w.heap.size + 2, 4, none⟩ (.int .i64 yp)).setCell ⟨w.heap.size + 2, 5, none⟩ (.string yz)).setCell ⟨w.heap.size + 2, 6, none⟩ (.int .i64 yi)).setCell ⟨w.heap.size + 2, 7, none⟩ (.slice yq1 yn1 yc1)).setCell ⟨w.heap.size + 2, 8, none⟩ (.slice yq2 yn2 yc2)).setCell ⟨w.heap.size + 2, 9, none⟩ (.slice yq3 yn3 yc3)) = wy at EN ER ET HB hsz S1 S2 ⊢
         have erc0 := jA ER.out 0 _ rfl
         have erc1 := jA ER.out 1 _ rfl
         have erc2 := jA ER.out 2 _ rfl
         have erc3 := jA ER.out 3 _ rfl
         have erc4 := jA ER.out 4 _ rfl
         have erc5 := jA ER.out 5 _ rfl
         have erc6 := jA ER.out 6 _ rfl
         have erc7 := jA ER.out 7 _ rfl
         have erc8 := jA ER.out 8 _ rfl
         have erc9 := jA ER.out 9 _ rfl
         have erf := jD ER.out
         have etc0 := jA ET.out 0 _ rfl
         have etc1 := jA ET.out 1 _ rfl
         have etc2 := jA ET.out 2 _ rfl
         have etc3 := jA ET.out 3 _ rfl
         have etc4 := jA ET.out 4 _ rfl
         have etc5 := jA ET.out 5 _ rfl
         have etc6 := jA ET.out 6 _ rfl
         have etc7 := jA ET.out 7 _ rfl
         have etc8 := jA ET.out 8 _ rfl
         have etc9 := jA ET.out 9 _ rfl
         have etf := jD ET.out
         go_wp2_with fail
         replace EN := hid (jB (jB (jB (jB (jB (jB (jB (jB (jB (jB (EN.out) (w.heap.size + 1) 0 (.int .i64 n.tok.pos) (by omega)) (w.heap.size + 1) 1 (.string ⟨s.toArray⟩) (by omega)) (w.heap.size + 1) 2 (.slice zq zn zc) (by omega)) (w.heap.size + 1) 3 (.int .i64 yk) (by omega)) (w.heap.size + 1) 4 (.int .i64 yp) (by omega)) (w.heap.size + 1) 5 (.string yz) (by omega)) (w.heap.size + 1) 6 (.int .i64 yi) (by omega)) (w.heap.size + 1) 7 (.slice yq1 yn1 yc1) (by omega)) (w.heap.size + 1) 8 (.slice yq2 yn2 yc2) (by omega)) (w.heap.size + 1) 9 (.slice yq3 yn3 yc3) (by omega))
         replace ER := hid (jG #[.int .i64 n.tok.pos, .string ⟨s.toArray⟩, .slice zq zn zc, .int .i64 yk, .int .i64 yp, .string yz, .int .i64 yi, .slice yq1 yn1 yc1, .slice yq2 yn2 yc2, .slice yq3 yn3 yc3] (jG #[.int .i64 n.tok.pos, .string ⟨s.toArray⟩, .slice zq zn zc, .int .i64 yk, .int .i64 yp, .string yz, .int .i64 yi, .slice yq1 yn1 yc1, .slice yq2 yn2 yc2, .slice none 0 0] (jG #[.int .i64 n.tok.pos, .string ⟨s.toArray⟩, .slice zq zn zc, .int .i64 yk, .int .i64 yp, .string yz, .int .i64 yi, .slice yq1 yn1 yc1, .slice none 0 0, .slice none 0 0] (jG #[.int .i64 n.tok.pos, .string ⟨s.toArray⟩, .slice zq zn zc, .int .i64 yk, .int .i64 yp, .string yz, .int .i64 yi, .slice none 0 0, .slice none 0 0, .slice none 0 0] (jG #[.int .i64 n.tok.pos, .string ⟨s.toArray⟩, .slice zq zn zc, .int .i64 yk, .int .i64 yp, .string yz, .int .i64 0, .slice none 0 0, .slice none 0 0, .slice none 0 0] (jG #[.int .i64 n.tok.pos, .string ⟨s.toArray⟩, .slice zq zn zc, .int .i64 yk, .int .i64 yp, .string ⟨#[]⟩, .int .i64 0, .slice none 0 0, .slice none 0 0, .slice none 0 0] (jG #[.int .i64 n.tok.pos, .string ⟨s.toArray⟩, .slice zq zn zc, .int .i64 yk, .int .i64 0, .string ⟨#[]⟩, .int .i64 0, .slice none 0 0, .slice none 0 0, .slice none 0 0] (jG #[.int .i64 n.tok.pos, .string ⟨s.toArray⟩, .slice zq zn zc, .int .i64 0, .int .i64 0, .string ⟨#[]⟩, .int .i64 0, .slice none 0 0, .slice none 0 0, .slice none 0 0] (jG #[.int .i64 n.tok.pos, .string ⟨s.toArray⟩, .slice none 0 0, .int .i64 0, .int .i64 0, .string ⟨#[]⟩, .int .i64 0, .slice none 0 0, .slice none 0 0, .slice none 0 0] (jG #[.int .i64 n.tok.pos, .string ⟨#[]⟩, .slice none 0 0, .int .i64 0, .int .i64 0, .string ⟨#[]⟩, .int .i64 0, .slice none 0 0, .slice none 0 0, .slice none 0 0] (ER.out) 0 (.int .i64 n.tok.pos) rfl) 1 (.string ⟨s.toArray⟩) rfl) 2 (.slice zq zn zc) rfl) 3 (.int .i64 yk) rfl) 4 (.int .i64 yp) rfl) 5 (.string yz) rfl) 6 (.int .i64 yi) rfl) 7 (.slice yq1 yn1 yc1) rfl) 8 (.slice yq2 yn2 yc2) rfl) 9 (.slice yq3 yn3 yc3) rfl)
         replace ET := hid (jB (jB (jB (jB (jB (jB (jB (jB (jB (jB (ET.out) (w.heap.size + 1) 0 (.int .i64 n.tok.pos) (by omega)) (w.heap.size + 1) 1 (.string ⟨s.toArray⟩) (by omega)) (w.heap.size + 1) 2 (.slice zq zn zc) (by omega)) (w.heap.size + 1) 3 (.int .i64 yk) (by omega)) (w.heap.size + 1) 4 (.int .i64 yp) (by omega)) (w.heap.size + 1) 5 (.string yz) (by omega)) (w.heap.size + 1) 6 (.int .i64 yi) (by omega)) (w.heap.size + 1) 7 (.slice yq1 yn1 yc1) (by omega)) (w.heap.size + 1) 8 (.slice yq2 yn2 yc2) (by omega)) (w.heap.size + 1) 9 (.slice yq3 yn3 yc3) (by omega))
         replace HB := hid (Below.setCell (Below.setCell (Below.setCell (Below.setCell (Below.setCell (Below.setCell (Below.setCell (Below.setCell (Below.setCell (Below.setCell (HB.out) (p := ⟨w.heap.size + 1, 0, none⟩) (by dsimp only; omega) (.int .i64 n.tok.pos)) (p := ⟨w.heap.size + 1, 1, none⟩) (by dsimp only; omega) (.string ⟨s.toArray⟩)) (p := ⟨w.heap.size + 1, 2, none⟩) (by dsimp only; omega) (.slice zq zn zc)) (p := ⟨w.heap.size + 1, 3, none⟩) (by dsimp only; omega) (.int .i64 yk)) (p := ⟨w.heap.size + 1, 4, none⟩) (by dsimp only; omega) (.int .i64 yp)) (p := ⟨w.heap.size + 1, 5, none⟩) (by dsimp only; omega) (.string yz)) (p := ⟨w.heap.size + 1, 6, none⟩) (by dsimp only; omega) (.int .i64 yi)) (p := ⟨w.heap.size + 1, 7, none⟩) (by dsimp only; omega) (.slice yq1 yn1 yc1)) (p := ⟨w.heap.size + 1, 8, none⟩) (by dsimp only; omega) (.slice yq2 yn2 yc2)) (p := ⟨w.heap.size + 1, 9, none⟩) (by dsimp only; omega) (.slice yq3 yn3 yc3))
         have r0 := jA ER.out 0 _ rfl
         have r1 := jA ER.out 1 _ rfl
         have r2 := jA ER.out 2 _ rfl
         have r3 := jA ER.out 3 _ rfl
         have r4 := jA ER.out 4 _ rfl
         have r5 := jA ER.out 5 _ rfl
         have r6 := jA ER.out 6 _ rfl
         have r7 := jA ER.out 7 _ rfl
         have r8 := jA ER.out 8 _ rfl
         have r9 := jA ER.out 9 _ rfl
         refine bodyPost_ret (v := .tuple #[.agg #[.int .i64 n.tok.pos, .string ⟨s.toArray⟩, .slice zq zn zc, .int .i64 yk, .int .i64 yp, .string yz, .int .i64 yi, .slice yq1 yn1 yc1, .slice yq2 yn2 yc2, .slice yq3 yn3 yc3], .int .i64 (-1)]) (by simp [results, Try.results22, go_sem, r0, r1, r2, r3, r4, r5, r6, r7, r8, r9]) rfl ?_
         exact jO (x := Px.Def.mk n.pos s ps x) (by rw [HPP.out, HX1.out]; dsimp only; rw [HX2.out]; dsimp only; rw [HX.out]) HB.out ⟨_, _, _, _, _, _, _, _, _, _, _, _, _, _, _, _, _, _, rfl⟩ (fun u hu => ⟨_, _, _, _, _, _, _, _, rfl, New.stay HNEW1.out (by have := HLO.out; omega) (Stay.set (Stay.set (Stay.set (Stay.set (Stay.set (Stay.set (Stay.set (Stay.set (Stay.set (Stay.set (S1.out) (w.heap.size + 1) 0 _ (by have := HLO.out; omega)) (w.heap.size + 1) 1 _ (by have := HLO.out; omega)) (w.heap.size + 1) 2 _ (by have := HLO.out; omega)) (w.heap.size + 1) 3 _ (by have := HLO.out; omega)) (w.heap.size + 1) 4 _ (by have := HLO.out; omega)) (w.heap.size + 1) 5 _ (by have := HLO.out; omega)) (w.heap.size + 1) 6 _ (by have := HLO.out; omega)) (w.heap.size + 1) 7 _ (by have := HLO.out; omega)) (w.heap.size + 1) 8 _ (by have := HLO.out; omega)) (w.heap.size + 1) 9 _ (by have := HLO.out; omega)) u hu, New.stay HNEW2.out (by have := HLO2.out; omega) (Stay.set (Stay.set (Stay.set (Stay.set (Stay.set (Stay.set (Stay.set (Stay.set (Stay.set (Stay.set (S2.out) (w.heap.size + 1) 0 _ (by have := HLO2.out; omega)) (w.heap.size + 1) 1 _ (by have := HLO2.out; omega)) (w.heap.size + 1) 2 _ (by have := HLO2.out; omega)) (w.heap.size + 1) 3 _ (by have := HLO2.out; omega)) (w.heap.size + 1) 4 _ (by have := HLO2.out; omega)) (w.heap.size + 1) 5 _ (by have := HLO2.out; omega)) (w.heap.size + 1) 6 _ (by have := HLO2.out; omega)) (w.heap.size + 1) 7 _ (by have := HLO2.out; omega)) (w.heap.size + 1) 8 _ (by have := HLO2.out; omega)) (w.heap.size + 1) 9 _ (by have := HLO2.out; omega)) u hu⟩)
end Go.Proofs.Ytgoacbomphlhjaa
