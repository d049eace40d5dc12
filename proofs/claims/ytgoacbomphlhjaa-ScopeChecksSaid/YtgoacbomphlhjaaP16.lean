/-
  Several texts in one: RExE, RData.
-/
import Derived.Test.YtgoacbomphlhjaaP00
import Derived.Test.YtgoacbomphlhjaaP12
import Derived.Test.YtgoacbomphlhjaaP13
import Derived.Test.YtgoacbomphlhjaaP14
import Derived.Test.YtgoacbomphlhjaaP15
set_option linter.unusedVariables false
set_option linter.unusedSimpArgs false
namespace Go.Proofs.Ytgoacbomphlhjaa
open Go.Lib (hid)
open List renaming getElem_toArray → jX, getElem_cons_succ → jY, getElem_cons_zero → jZ, setIfInBounds_toArray → JA, set_cons_zero → JB, set_cons_succ → JC
open Go Go.RowKit
set_option maxHeartbeats 4000000 in
theorem expr_leaf (f : Nat) (n : Px.Node) (lv : Value) (w : World) (hg : Px.NodeGood n) (hl : Px.jS n = false) (hlv : ∃ p k c, lv = .slice p k c) : Calls Try.prog 28 #[nV n lv] w (RTold w (ExprAt (f + 1)) ShExpr (Px.expr (f + 1) n)) := by
 obtain ⟨lp, lk, lc, rfl⟩ := hlv
 have HA := hid (fun w => atom_any f n (.slice lp lk lc) w hg hl)
 unfold nV at *
 rw [hl] at *
 clear hl
 go_enter Try.func28, Try.ntmps28
 obtain ⟨en, er, hb, hsz⟩ := ent2 w #[.int .i64 n.tok.kind, .int .i64 n.tok.pos, .string ⟨n.tok.text.toArray⟩, .int .i64 n.tok.int, .bool false, (.slice lp lk lc)] #[.int .i64 0, .int .i64 0, .string ⟨#[]⟩, .int .i64 0, .slice none 0 0, .slice none 0 0, .slice none 0 0] 73 53
 have EN := hid en; have ER := hid er; have HB := hid hb
 replace hsz := Nat.le_of_eq hsz.symm
 clear en er hb
 go_wp2_with fail
 have HLO := hid hsz
 generalize (w.alloc (.cells #[.int .i64 n.tok.kind, .int .i64 n.tok.pos, .string ⟨n.tok.text.toArray⟩, .int .i64 n.tok.int, .bool false, (.slice lp lk lc)] 73)).alloc (.cells #[.int .i64 0, .int .i64 0, .string ⟨#[]⟩, .int .i64 0, .slice none 0 0, .slice none 0 0, .slice none 0 0] 53) = w0 at *
 refine (HA.out w0).mono ?_
 intro e w5 ht
 cases hx : Px.expr (f + 1) n with
 | error p =>
   obtain ⟨z, rfl, ⟨yk, yp, yz, yi, yq1, yn1, yc1, yq2, yn2, yc2, yq3, yn3, yc3, rfl⟩, hb⟩ := jN ht hx
   have HX := hid hx
   replace hsz := Nat.le_trans hsz hb.size
   replace EN := hid (jC EN.out hb)
   replace ER := hid (jC ER.out hb)
   replace HB := hid (HB.out.trans (hb.mono HB.out.size))
   clear hb
   clear ht hx
   have erc0 := jA ER.out 0 _ rfl
   have erc1 := jA ER.out 1 _ rfl
   have erc2 := jA ER.out 2 _ rfl
   have erc3 := jA ER.out 3 _ rfl
   have erc4 := jA ER.out 4 _ rfl
   have erc5 := jA ER.out 5 _ rfl
   have erc6 := jA ER.out 6 _ rfl
   have erf := jD ER.out
   go_wp2_with fail
   replace EN := hid (jB (jB (jB (jB (jB (jB (jB (EN.out) (w.heap.size + 1) 0 (.int .i64 yk) (by omega)) (w.heap.size + 1) 1 (.int .i64 yp) (by omega)) (w.heap.size + 1) 2 (.string yz) (by omega)) (w.heap.size + 1) 3 (.int .i64 yi) (by omega)) (w.heap.size + 1) 4 (.slice yq1 yn1 yc1) (by omega)) (w.heap.size + 1) 5 (.slice yq2 yn2 yc2) (by omega)) (w.heap.size + 1) 6 (.slice yq3 yn3 yc3) (by omega))
   replace ER := hid (jU (ER.out) (.int .i64 yk) (.int .i64 yp) (.string yz) (.int .i64 yi) (.slice yq1 yn1 yc1) (.slice yq2 yn2 yc2) (.slice yq3 yn3 yc3))
   replace HB := hid (Below.setCell (Below.setCell (Below.setCell (Below.setCell (Below.setCell (Below.setCell (Below.setCell (HB.out) (p := ⟨w.heap.size + 1, 0, none⟩) (by dsimp only; omega) (.int .i64 yk)) (p := ⟨w.heap.size + 1, 1, none⟩) (by dsimp only; omega) (.int .i64 yp)) (p := ⟨w.heap.size + 1, 2, none⟩) (by dsimp only; omega) (.string yz)) (p := ⟨w.heap.size + 1, 3, none⟩) (by dsimp only; omega) (.int .i64 yi)) (p := ⟨w.heap.size + 1, 4, none⟩) (by dsimp only; omega) (.slice yq1 yn1 yc1)) (p := ⟨w.heap.size + 1, 5, none⟩) (by dsimp only; omega) (.slice yq2 yn2 yc2)) (p := ⟨w.heap.size + 1, 6, none⟩) (by dsimp only; omega) (.slice yq3 yn3 yc3))
   have r0 := jA ER.out 0 _ rfl
   have r1 := jA ER.out 1 _ rfl
   have r2 := jA ER.out 2 _ rfl
   have r3 := jA ER.out 3 _ rfl
   have r4 := jA ER.out 4 _ rfl
   have r5 := jA ER.out 5 _ rfl
   have r6 := jA ER.out 6 _ rfl
   refine bodyPost_ret (v := .tuple #[.agg #[.int .i64 yk, .int .i64 yp, .string yz, .int .i64 yi, .slice yq1 yn1 yc1, .slice yq2 yn2 yc2, .slice yq3 yn3 yc3], .int .i64 p]) (by simp [results, Try.results28, go_sem, r0, r1, r2, r3, r4, r5, r6]) rfl ?_
   exact jL HX.out HB.out ⟨_, _, _, _, _, _, _, _, _, _, _, _, _, rfl⟩
 | ok x =>
   obtain ⟨z, rfl, ⟨yk, yp, yz, yi, yq1, yn1, yc1, yq2, yn2, yc2, yq3, yn3, yc3, rfl⟩, hnew, hb⟩ := rtold_ok ht hx
   have HX := hid hx; have HNEW := hid hnew
   have S1 := hid (Stay.refl w0.heap.size w5)
   replace hsz := Nat.le_trans hsz hb.size
   replace EN := hid (jC EN.out hb)
   replace ER := hid (jC ER.out hb)
   replace HB := hid (HB.out.trans (hb.mono HB.out.size))
   clear hb
   clear ht hx hnew
   have erc0 := jA ER.out 0 _ rfl
   have erc1 := jA ER.out 1 _ rfl
   have erc2 := jA ER.out 2 _ rfl
   have erc3 := jA ER.out 3 _ rfl
   have erc4 := jA ER.out 4 _ rfl
   have erc5 := jA ER.out 5 _ rfl
   have erc6 := jA ER.out 6 _ rfl
   have erf := jD ER.out
   go_wp2_with fail
   replace EN := hid (jB (jB (jB (jB (jB (jB (jB (EN.out) (w.heap.size + 1) 0 (.int .i64 yk) (by omega)) (w.heap.size + 1) 1 (.int .i64 yp) (by omega)) (w.heap.size + 1) 2 (.string yz) (by omega)) (w.heap.size + 1) 3 (.int .i64 yi) (by omega)) (w.heap.size + 1) 4 (.slice yq1 yn1 yc1) (by omega)) (w.heap.size + 1) 5 (.slice yq2 yn2 yc2) (by omega)) (w.heap.size + 1) 6 (.slice yq3 yn3 yc3) (by omega))
   replace ER := hid (jU (ER.out) (.int .i64 yk) (.int .i64 yp) (.string yz) (.int .i64 yi) (.slice yq1 yn1 yc1) (.slice yq2 yn2 yc2) (.slice yq3 yn3 yc3))
   replace HB := hid (Below.setCell (Below.setCell (Below.setCell (Below.setCell (Below.setCell (Below.setCell (Below.setCell (HB.out) (p := ⟨w.heap.size + 1, 0, none⟩) (by dsimp only; omega) (.int .i64 yk)) (p := ⟨w.heap.size + 1, 1, none⟩) (by dsimp only; omega) (.int .i64 yp)) (p := ⟨w.heap.size + 1, 2, none⟩) (by dsimp only; omega) (.string yz)) (p := ⟨w.heap.size + 1, 3, none⟩) (by dsimp only; omega) (.int .i64 yi)) (p := ⟨w.heap.size + 1, 4, none⟩) (by dsimp only; omega) (.slice yq1 yn1 yc1)) (p := ⟨w.heap.size + 1, 5, none⟩) (by dsimp only; omega) (.slice yq2 yn2 yc2)) (p := ⟨w.heap.size + 1, 6, none⟩) (by dsimp only; omega) (.slice yq3 yn3 yc3))
   have r0 := jA ER.out 0 _ rfl
   have r1 := jA ER.out 1 _ rfl
   have r2 := jA ER.out 2 _ rfl
   have r3 := jA ER.out 3 _ rfl
   have r4 := jA ER.out 4 _ rfl
   have r5 := jA ER.out 5 _ rfl
   have r6 := jA ER.out 6 _ rfl
   refine bodyPost_ret (v := .tuple #[.agg #[.int .i64 yk, .int .i64 yp, .string yz, .int .i64 yi, .slice yq1 yn1 yc1, .slice yq2 yn2 yc2, .slice yq3 yn3 yc3], .int .i64 (-1)]) (by simp [results, Try.results28, go_sem, r0, r1, r2, r3, r4, r5, r6]) rfl ?_
   exact jO (x := x) HX.out HB.out ⟨_, _, _, _, _, _, _, _, _, _, _, _, _, rfl⟩ (New.stay HNEW.out (by have := HLO.out; omega) (Stay.set (Stay.set (Stay.set (Stay.set (Stay.set (Stay.set (Stay.set (S1.out) (w.heap.size + 1) 0 _ (by have := HLO.out; omega)) (w.heap.size + 1) 1 _ (by have := HLO.out; omega)) (w.heap.size + 1) 2 _ (by have := HLO.out; omega)) (w.heap.size + 1) 3 _ (by have := HLO.out; omega)) (w.heap.size + 1) 4 _ (by have := HLO.out; omega)) (w.heap.size + 1) 5 _ (by have := HLO.out; omega)) (w.heap.size + 1) 6 _ (by have := HLO.out; omega)))
theorem expr_any : ∀ (f k : Nat) (n : Px.Node) (v : Value) (w : World), k ≤ f → NdAt k w v n → Px.NodeGood n → Calls Try.prog 28 #[v] w (RTold w (ExprAt f) ShExpr (Px.expr f n)) := by
 intro f
 induction f with
 | zero =>
   intro k n v w hk hn
   obtain rfl : k = 0 := by omega
   exact hn.elim
 | succ f ih =>
   intro k n v w hk hn hg
   cases k with
   | zero => exact hn.elim
   | succ k =>
     have hi : ∀ j m v w1, j ≤ k → NdAt j w1 v m → Px.NodeGood m → Calls Try.prog 28 #[v] w1 (RTold w1 (ExprAt f) ShExpr (Px.expr f m)) := fun j m v w1 hj h hm => ih j m v w1 (by omega) h hm
     cases hl : Px.jS n with
     | true => exact expr_list f k n v w hn hg hl (fun m hm v w1 h => hi k m v w1 (Nat.le_refl _) h (hg.kid hm)) (fun v w1 h => let_any f k n v w1 h hg hl hi) (fun v w1 h => cases_any f k (by omega) n v w1 h hg hl hi)
     | false =>
       obtain ⟨lv, rfl, hr⟩ := hn
       obtain ⟨p, c, hp⟩ := hr.len
       exact expr_leaf f n lv w hg hl ⟨p, _, c, hp⟩
end Go.Proofs.Ytgoacbomphlhjaa

namespace Go.Proofs.Ytgoacbomphlhjaa
open Go.Lib (hid)
open List renaming getElem_toArray → jX, getElem_cons_succ → jY, getElem_cons_zero → jZ, setIfInBounds_toArray → JA, set_cons_zero → JB, set_cons_succ → JC
open Go Go.RowKit
def ConAt (f : Nat) (u : World) (v : Value) (x : Px.Con) : Prop := ∃ av, v = .agg #[.int .i64 x.pos, .string ⟨x.name.toArray⟩, av] ∧ RowAt 3 (TypeAt f u) u av x.fields
def DataAt (f : Nat) (u : World) (v : Value) (x : Px.Data) : Prop := ∃ nv cv : Value, v = .agg #[.int .i64 x.pos, .string ⟨x.name.toArray⟩, nv, cv] ∧ RowAt 1 (StrAt u) u nv x.params ∧ RowAt 3 (ConAt f u) u cv x.cons
def ShData (v : Value) : Prop := ∃ (p : Int) (s : ByteArray) (q0 : Option Addr) (n0 c0 : Nat) (q1 : Option Addr) (n1 c1 : Nat), v = .agg #[.int .i64 p, .string s, .slice q0 n0 c0, .slice q1 n1 c1]
theorem infoCon : (Try.prog.info? 47).map (fun i => (i.zero, i.size, i.bytes)) = some (some (.agg #[.int .i64 0, .string ⟨#[]⟩, .slice none 0 0]), 3, 48) := by kernel_rfl
theorem set4_other (w : World) (g k : Nat) (a b c d : Value) (h : k ≠ g) : ((((w.setCell ⟨g, 0, none⟩ a).setCell ⟨g, 1, none⟩ b).setCell ⟨g, 2, none⟩ c).setCell ⟨g, 3, none⟩ d).heap[k]? = w.heap[k]? := by
 rw [Below.heap_setCell _ ⟨g, 3, none⟩ d k h, Below.heap_setCell _ ⟨g, 2, none⟩ c k h, Below.heap_setCell _ ⟨g, 1, none⟩ b k h, Below.heap_setCell _ ⟨g, 0, none⟩ a k h]
set_option maxHeartbeats 16000000 in
set_option maxRecDepth 100000 in
theorem data_any (k : Nat) (hk50 : k ≤ 50) (n : Px.Node) (v : Value) (w : World) (hn : NdAt (k + 1) w v n) (hg : Px.NodeGood n) : Calls Try.prog 21 #[v] w (RTold w (DataAt 50) ShData (Px.data 50 n)) := by
 have HN0 := hid hn
 have HK50 := hid hk50
 obtain ⟨lv, rfl, hr⟩ := hn
 obtain ⟨q, c, rfl⟩ := hr.len
 have HR := hid hr
 have HG := hid hg
 have hp0 : Px.data 50 n = (match Px.nodes n 4 103 with
  | .error p => .error p
  | .ok l =>
    match Px.conName (l.getD 1 n) with
    | .error p => .error p
    | .ok s =>
      match Px.names (l.getD 2 n) 0 with
      | .error p => .error p
      | .ok ps =>
        match Px.each (Px.con 50) (l.drop 3) with
        | .error p => .error p
        | .ok cs => .ok ⟨n.pos, s, ps, cs⟩) := rfl
 have HP := hid hp0
 have HS2 := hid (fun w1 (hb : Below w.heap.size w w1) => size_any (k + 1) n _ 4 103 w1 (HN0.out.below hb) (by omega) (by omega))
 clear hr hg hp0 hk50
 unfold nV at *
 go_enter Try.func21, Try.ntmps21
 obtain ⟨en, er, et, hb, hsz⟩ := ent3 w #[.int .i64 n.tok.kind, .int .i64 n.tok.pos, .string ⟨n.tok.text.toArray⟩, .int .i64 n.tok.int, .bool (Px.jS n), (.slice q n.list.length c)] #[.int .i64 0, .string ⟨#[]⟩, .slice none 0 0, .slice none 0 0] #[.int .i64 n.tok.pos, .string ⟨#[]⟩, .slice none 0 0, .slice none 0 0] 73 44 44
 have EN := hid en; have ER := hid er; have ET := hid et; have HB := hid hb
 replace hsz := Nat.le_of_eq hsz.symm
 clear en er et hb
 go_wp2_with fail
 refine (HS2.out _ HB.out).mono ?_
 rintro e w1 ⟨rfl, hb⟩
 replace hsz := Nat.le_trans hsz hb.size
 replace EN := hid (jC EN.out hb)
 replace ER := hid (jC ER.out hb)
 replace ET := hid (jC ET.out hb)
 replace HB := hid (HB.out.trans (hb.mono HB.out.size))
 clear hb
 unfold sizeP
 cases hnd : Px.nodes n 4 103 with
 | error p =>
   dsimp only
   have hge : (p : Int) ≥ 0 := by omega
   have HND := hid hnd; clear hnd
   have erc0 := jA ER.out 0 _ rfl
   have erc1 := jA ER.out 1 _ rfl
   have erc2 := jA ER.out 2 _ rfl
   have erc3 := jA ER.out 3 _ rfl
   have erf := jD ER.out
   have etc0 := jA ET.out 0 _ rfl
   have etc1 := jA ET.out 1 _ rfl
   have etc2 := jA ET.out 2 _ rfl
   have etc3 := jA ET.out 3 _ rfl
   have etf := jD ET.out
   go_wp2_with fail
   replace EN := hid (jB (jB (jB (jB (EN.out) (w.heap.size + 1) 0 (.int .i64 n.tok.pos) (by omega)) (w.heap.size + 1) 1 (.string ⟨#[]⟩) (by omega)) (w.heap.size + 1) 2 (.slice none 0 0) (by omega)) (w.heap.size + 1) 3 (.slice none 0 0) (by omega))
   replace ER := hid (jG #[.int .i64 n.tok.pos, .string ⟨#[]⟩, .slice none 0 0, .slice none 0 0] (jG #[.int .i64 n.tok.pos, .string ⟨#[]⟩, .slice none 0 0, .slice none 0 0] (jG #[.int .i64 n.tok.pos, .string ⟨#[]⟩, .slice none 0 0, .slice none 0 0] (jG #[.int .i64 n.tok.pos, .string ⟨#[]⟩, .slice none 0 0, .slice none 0 0] (ER.out) 0 (.int .i64 n.tok.pos) rfl) 1 (.string ⟨#[]⟩) rfl) 2 (.slice none 0 0) rfl) 3 (.slice none 0 0) rfl)
   replace ET := hid (jB (jB (jB (jB (ET.out) (w.heap.size + 1) 0 (.int .i64 n.tok.pos) (by omega)) (w.heap.size + 1) 1 (.string ⟨#[]⟩) (by omega)) (w.heap.size + 1) 2 (.slice none 0 0) (by omega)) (w.heap.size + 1) 3 (.slice none 0 0) (by omega))
   replace HB := hid (Below.setCell (Below.setCell (Below.setCell (Below.setCell (HB.out) (p := ⟨w.heap.size + 1, 0, none⟩) (by dsimp only; omega) (.int .i64 n.tok.pos)) (p := ⟨w.heap.size + 1, 1, none⟩) (by dsimp only; omega) (.string ⟨#[]⟩)) (p := ⟨w.heap.size + 1, 2, none⟩) (by dsimp only; omega) (.slice none 0 0)) (p := ⟨w.heap.size + 1, 3, none⟩) (by dsimp only; omega) (.slice none 0 0))
   have r0 := jA ER.out 0 _ rfl
   have r1 := jA ER.out 1 _ rfl
   have r2 := jA ER.out 2 _ rfl
   have r3 := jA ER.out 3 _ rfl
   refine bodyPost_ret (v := .tuple #[.agg #[.int .i64 n.tok.pos, .string ⟨#[]⟩, .slice none 0 0, .slice none 0 0], .int .i64 p]) (by simp [results, Try.results21, go_sem, r0, r1, r2, r3]) rfl ?_
   exact jL (by rw [HP.out, HND.out]) HB.out ⟨_, _, _, _, _, _, _, _, rfl⟩
 | ok l =>
   dsimp only
   have hni := jW hnd
   have hll := hni.1
   have hlen2 := hni.2.1
   have hlen9 := hni.2.2.1
   clear hni
   subst hll
   replace HP := HP.out
   rw [hnd] at HP
   dsimp only at HP
   rcases HR.out with ⟨h0, _⟩ | ⟨g, of, c', hv, g1, g2, g3⟩
   · rw [h0] at hlen2; simp at hlen2
   injection hv with hq1 _ hq2
   subst hq1; subst hq2
   obtain ⟨m1, hm⟩ : ∃ m, n.list[1]? = some m := ⟨_, List.getElem?_eq_getElem (by omega)⟩
   have hgtm1 : n.list.getD (1) n = m1 := by rw [List.getD_eq_getElem?_getD, hm]; rfl
   have HGm1 := hid (HG.out.kid (List.mem_of_getElem? hm))
   obtain ⟨u, hu, _, hcell⟩ := g3 (1) m1 hm
   obtain ⟨km1, kvm1, hkm1, hue, hkr, q0, q1, q2, q3, q4, q5⟩ := jR hu hcell
   subst hue
   have HMm1 := hid hm; have HVm1 := hid hu; have HKm1 := hid hkr
   try simp only [Nat.reduceMul, Nat.add_zero, Nat.zero_add] at q0 q1 q2 q3 q4 q5
   have m1q0 := hid q0; have m1q1 := hid q1; have m1q2 := hid q2; have m1q3 := hid q3; have m1q4 := hid q4; have m1q5 := hid q5
   clear hu hcell hkr q0 q1 q2 q3 q4 q5 hm
   obtain ⟨m2, hm⟩ : ∃ m, n.list[2]? = some m := ⟨_, List.getElem?_eq_getElem (by omega)⟩
   have hgtm2 : n.list.getD (2) n = m2 := by rw [List.getD_eq_getElem?_getD, hm]; rfl
   have HGm2 := hid (HG.out.kid (List.mem_of_getElem? hm))
   obtain ⟨u, hu, _, hcell⟩ := g3 (2) m2 hm
   obtain ⟨km2, kvm2, hkm2, hue, hkr, q0, q1, q2, q3, q4, q5⟩ := jR hu hcell
   subst hue
   have HMm2 := hid hm; have HVm2 := hid hu; have HKm2 := hid hkr
   try simp only [Nat.reduceMul, Nat.add_zero, Nat.zero_add] at q0 q1 q2 q3 q4 q5
   have m2q0 := hid q0; have m2q1 := hid q1; have m2q2 := hid q2; have m2q3 := hid q3; have m2q4 := hid q4; have m2q5 := hid q5
   clear hu hcell hkr q0 q1 q2 q3 q4 q5 hm
   rw [hgtm1, hgtm2] at HP
   have HPP := hid HP
   have HROW := hid g3
   have HLEN := hid (And.intro hlen2 hlen9)
   have HKK := hid hkm1
   have hz1 : (1 : Int) < (n.list.length : Int) := by omega
   have hz2 : (2 : Int) < (n.list.length : Int) := by omega
   have hz4 : (3 : Int) < (n.list.length : Int) := by omega
   have hz3 : (n.list.length : Int) ≤ (c : Int) := by omega
   clear HP hgtm1 hgtm2 hnd g1 g2 g3 hlen2 hlen9 hkm1 hkm2
   have n0 := jE HB.out m1q0.out
   have n1 := jE HB.out m1q1.out
   have n2 := jE HB.out m1q2.out
   have n3 := jE HB.out m1q3.out
   have n4 := jE HB.out m1q4.out
   have n5 := jE HB.out m1q5.out
   have enc0 := jA EN.out 0 _ rfl
   have enc1 := jA EN.out 1 _ rfl
   have enc2 := jA EN.out 2 _ rfl
   have enc3 := jA EN.out 3 _ rfl
   have enc4 := jA EN.out 4 _ rfl
   have enc5 := jA EN.out 5 _ rfl
   have enf := jD EN.out
   go_wp2_with fail
   clear enc0 enc1 enc2 enc3 enc4 enc5 enf
   clear n0 n1 n2 n3 n4 n5
   refine (con_any m1 _ _ HGm1.out).mono ?_
   intro e w2 ht
   cases hs1 : Px.conName m1 with
   | error p =>
     obtain ⟨z, rfl, ⟨zs, rfl⟩, hb⟩ := jN ht hs1
     have hge : (p : Int) ≥ 0 := by omega
     have HX1 := hid hs1
     replace hsz := Nat.le_trans hsz hb.size
     replace EN := hid (jC EN.out hb)
     replace ER := hid (jC ER.out hb)
     replace ET := hid (jC ET.out hb)
     replace HB := hid (HB.out.trans (hb.mono HB.out.size))
     clear hb
     clear ht hs1
     have etc0 := jA ET.out 0 _ rfl
     have etc1 := jA ET.out 1 _ rfl
     have etc2 := jA ET.out 2 _ rfl
     have etc3 := jA ET.out 3 _ rfl
     have etf := jD ET.out
     go_upto_region 6 with fail
     clear etc0 etc1 etc2 etc3 etf
     replace EN := hid (jB (EN.out) (w.heap.size + 2) 1 (.string zs) (by omega))
     replace ER := hid (jB (ER.out) (w.heap.size + 2) 1 (.string zs) (by omega))
     replace ET := hid (jG #[.int .i64 n.tok.pos, .string zs, .slice none 0 0, .slice none 0 0] (ET.out) 1 (.string zs) rfl)
     replace HB := hid (Below.setCell (HB.out) (p := ⟨w.heap.size + 2, 1, none⟩) (by dsimp only; omega) (.string zs))
     replace hsz : w.heap.size + 3 ≤ (w2.setCell ⟨w.heap.size + 2, 1, none⟩ (.string zs)).heap.size := by simpa using hsz
     generalize w2.setCell ⟨w.heap.size + 2, 1, none⟩ (.string zs) = wz at EN ER ET HB hsz ⊢
     have erc0 := jA ER.out 0 _ rfl
     have erc1 := jA ER.out 1 _ rfl
     have erc2 := jA ER.out 2 _ rfl
     have erc3 := jA ER.out 3 _ rfl
     have erf := jD ER.out
     have etc0 := jA ET.out 0 _ rfl
     have etc1 := jA ET.out 1 _ rfl
     have etc2 := jA ET.out 2 _ rfl
     have etc3 := jA ET.out 3 _ rfl
     have etf := jD ET.out
     go_wp2_with fail
     replace EN := hid (jB (jB (jB (jB (EN.out) (w.heap.size + 1) 0 (.int .i64 n.tok.pos) (by omega)) (w.heap.size + 1) 1 (.string zs) (by omega)) (w.heap.size + 1) 2 (.slice none 0 0) (by omega)) (w.heap.size + 1) 3 (.slice none 0 0) (by omega))
     replace ER := hid (jG #[.int .i64 n.tok.pos, .string zs, .slice none 0 0, .slice none 0 0] (jG #[.int .i64 n.tok.pos, .string zs, .slice none 0 0, .slice none 0 0] (jG #[.int .i64 n.tok.pos, .string zs, .slice none 0 0, .slice none 0 0] (jG #[.int .i64 n.tok.pos, .string ⟨#[]⟩, .slice none 0 0, .slice none 0 0] (ER.out) 0 (.int .i64 n.tok.pos) rfl) 1 (.string zs) rfl) 2 (.slice none 0 0) rfl) 3 (.slice none 0 0) rfl)
     replace ET := hid (jB (jB (jB (jB (ET.out) (w.heap.size + 1) 0 (.int .i64 n.tok.pos) (by omega)) (w.heap.size + 1) 1 (.string zs) (by omega)) (w.heap.size + 1) 2 (.slice none 0 0) (by omega)) (w.heap.size + 1) 3 (.slice none 0 0) (by omega))
     replace HB := hid (Below.setCell (Below.setCell (Below.setCell (Below.setCell (HB.out) (p := ⟨w.heap.size + 1, 0, none⟩) (by dsimp only; omega) (.int .i64 n.tok.pos)) (p := ⟨w.heap.size + 1, 1, none⟩) (by dsimp only; omega) (.string zs)) (p := ⟨w.heap.size + 1, 2, none⟩) (by dsimp only; omega) (.slice none 0 0)) (p := ⟨w.heap.size + 1, 3, none⟩) (by dsimp only; omega) (.slice none 0 0))
     have r0 := jA ER.out 0 _ rfl
     have r1 := jA ER.out 1 _ rfl
     have r2 := jA ER.out 2 _ rfl
     have r3 := jA ER.out 3 _ rfl
     refine bodyPost_ret (v := .tuple #[.agg #[.int .i64 n.tok.pos, .string zs, .slice none 0 0, .slice none 0 0], .int .i64 p]) (by simp [results, Try.results21, go_sem, r0, r1, r2, r3]) rfl ?_
     exact jL (by rw [HPP.out, HX1.out]) HB.out ⟨_, _, _, _, _, _, _, _, rfl⟩
   | ok s =>
     obtain ⟨z, rfl, _, hnew, hb⟩ := rtold_ok ht hs1
     obtain rfl : z = .string ⟨s.toArray⟩ := hnew.now
     have HX1 := hid hs1
     replace hsz := Nat.le_trans hsz hb.size
     replace EN := hid (jC EN.out hb)
     replace ER := hid (jC ER.out hb)
     replace ET := hid (jC ET.out hb)
     replace HB := hid (HB.out.trans (hb.mono HB.out.size))
     clear hb
     clear ht hs1 hnew
     have etc0 := jA ET.out 0 _ rfl
     have etc1 := jA ET.out 1 _ rfl
     have etc2 := jA ET.out 2 _ rfl
     have etc3 := jA ET.out 3 _ rfl
     have etf := jD ET.out
     go_upto_region 6 with fail
     clear etc0 etc1 etc2 etc3 etf
     replace EN := hid (jB (EN.out) (w.heap.size + 2) 1 (.string ⟨s.toArray⟩) (by omega))
     replace ER := hid (jB (ER.out) (w.heap.size + 2) 1 (.string ⟨s.toArray⟩) (by omega))
     replace ET := hid (jG #[.int .i64 n.tok.pos, .string ⟨s.toArray⟩, .slice none 0 0, .slice none 0 0] (ET.out) 1 (.string ⟨s.toArray⟩) rfl)
     replace HB := hid (Below.setCell (HB.out) (p := ⟨w.heap.size + 2, 1, none⟩) (by dsimp only; omega) (.string ⟨s.toArray⟩))
     replace hsz : w.heap.size + 3 ≤ (w2.setCell ⟨w.heap.size + 2, 1, none⟩ (.string ⟨s.toArray⟩)).heap.size := by simpa using hsz
     generalize w2.setCell ⟨w.heap.size + 2, 1, none⟩ (.string ⟨s.toArray⟩) = wz at EN ER ET HB hsz ⊢
     have HLO := hid hsz
     have n0 := jE HB.out m2q0.out
     have n1 := jE HB.out m2q1.out
     have n2 := jE HB.out m2q2.out
     have n3 := jE HB.out m2q3.out
     have n4 := jE HB.out m2q4.out
     have n5 := jE HB.out m2q5.out
     have enc0 := jA EN.out 0 _ rfl
     have enc1 := jA EN.out 1 _ rfl
     have enc2 := jA EN.out 2 _ rfl
     have enc3 := jA EN.out 3 _ rfl
     have enc4 := jA EN.out 4 _ rfl
     have enc5 := jA EN.out 5 _ rfl
     have enf := jD EN.out
     go_wp2_with fail
     clear enc0 enc1 enc2 enc3 enc4 enc5 enf
     clear n0 n1 n2 n3 n4 n5
     refine (names_any k m2 _ _ (HVm2.out.below HB.out) HGm2.out).mono ?_
     intro e w3 ht
     cases hs2 : Px.names m2 0 with
     | error p =>
       obtain ⟨z, rfl, ⟨zq, zn, zc, rfl⟩, hb⟩ := jN ht hs2
       have hge : (p : Int) ≥ 0 := by omega
       have HX2 := hid hs2
       replace hsz := Nat.le_trans hsz hb.size
       replace EN := hid (jC EN.out hb)
       replace ER := hid (jC ER.out hb)
       replace ET := hid (jC ET.out hb)
       replace HB := hid (HB.out.trans (hb.mono HB.out.size))
       clear hb
       clear ht hs2
       have etc0 := jA ET.out 0 _ rfl
       have etc1 := jA ET.out 1 _ rfl
       have etc2 := jA ET.out 2 _ rfl
       have etc3 := jA ET.out 3 _ rfl
       have etf := jD ET.out
       go_upto_region 9 with fail
       clear etc0 etc1 etc2 etc3 etf
       replace EN := hid (jB (EN.out) (w.heap.size + 2) 2 (.slice zq zn zc) (by omega))
       replace ER := hid (jB (ER.out) (w.heap.size + 2) 2 (.slice zq zn zc) (by omega))
       replace ET := hid (jG #[.int .i64 n.tok.pos, .string ⟨s.toArray⟩, .slice zq zn zc, .slice none 0 0] (ET.out) 2 (.slice zq zn zc) rfl)
       replace HB := hid (Below.setCell (HB.out) (p := ⟨w.heap.size + 2, 2, none⟩) (by dsimp only; omega) (.slice zq zn zc))
       replace hsz : w.heap.size + 3 ≤ (w3.setCell ⟨w.heap.size + 2, 2, none⟩ (.slice zq zn zc)).heap.size := by simpa using hsz
       generalize w3.setCell ⟨w.heap.size + 2, 2, none⟩ (.slice zq zn zc) = wz at EN ER ET HB hsz ⊢
       have erc0 := jA ER.out 0 _ rfl
       have erc1 := jA ER.out 1 _ rfl
       have erc2 := jA ER.out 2 _ rfl
       have erc3 := jA ER.out 3 _ rfl
       have erf := jD ER.out
       have etc0 := jA ET.out 0 _ rfl
       have etc1 := jA ET.out 1 _ rfl
       have etc2 := jA ET.out 2 _ rfl
       have etc3 := jA ET.out 3 _ rfl
       have etf := jD ET.out
       go_wp2_with fail
       replace EN := hid (jB (jB (jB (jB (EN.out) (w.heap.size + 1) 0 (.int .i64 n.tok.pos) (by omega)) (w.heap.size + 1) 1 (.string ⟨s.toArray⟩) (by omega)) (w.heap.size + 1) 2 (.slice zq zn zc) (by omega)) (w.heap.size + 1) 3 (.slice none 0 0) (by omega))
       replace ER := hid (jG #[.int .i64 n.tok.pos, .string ⟨s.toArray⟩, .slice zq zn zc, .slice none 0 0] (jG #[.int .i64 n.tok.pos, .string ⟨s.toArray⟩, .slice zq zn zc, .slice none 0 0] (jG #[.int .i64 n.tok.pos, .string ⟨s.toArray⟩, .slice none 0 0, .slice none 0 0] (jG #[.int .i64 n.tok.pos, .string ⟨#[]⟩, .slice none 0 0, .slice none 0 0] (ER.out) 0 (.int .i64 n.tok.pos) rfl) 1 (.string ⟨s.toArray⟩) rfl) 2 (.slice zq zn zc) rfl) 3 (.slice none 0 0) rfl)
       replace ET := hid (jB (jB (jB (jB (ET.out) (w.heap.size + 1) 0 (.int .i64 n.tok.pos) (by omega)) (w.heap.size + 1) 1 (.string ⟨s.toArray⟩) (by omega)) (w.heap.size + 1) 2 (.slice zq zn zc) (by omega)) (w.heap.size + 1) 3 (.slice none 0 0) (by omega))
       replace HB := hid (Below.setCell (Below.setCell (Below.setCell (Below.setCell (HB.out) (p := ⟨w.heap.size + 1, 0, none⟩) (by dsimp only; omega) (.int .i64 n.tok.pos)) (p := ⟨w.heap.size + 1, 1, none⟩) (by dsimp only; omega) (.string ⟨s.toArray⟩)) (p := ⟨w.heap.size + 1, 2, none⟩) (by dsimp only; omega) (.slice zq zn zc)) (p := ⟨w.heap.size + 1, 3, none⟩) (by dsimp only; omega) (.slice none 0 0))
       have r0 := jA ER.out 0 _ rfl
       have r1 := jA ER.out 1 _ rfl
       have r2 := jA ER.out 2 _ rfl
       have r3 := jA ER.out 3 _ rfl
       refine bodyPost_ret (v := .tuple #[.agg #[.int .i64 n.tok.pos, .string ⟨s.toArray⟩, .slice zq zn zc, .slice none 0 0], .int .i64 p]) (by simp [results, Try.results21, go_sem, r0, r1, r2, r3]) rfl ?_
       exact jL (by rw [HPP.out, HX1.out]; dsimp only; rw [HX2.out]) HB.out ⟨_, _, _, _, _, _, _, _, rfl⟩
     | ok ps =>
       obtain ⟨z, rfl, ⟨zq, zn, zc, rfl⟩, hnew, hb⟩ := rtold_ok ht hs2
       have HX2 := hid hs2; have HNEW1 := hid hnew
       have S1 := hid (Stay.refl wz.heap.size w3)
       replace hsz := Nat.le_trans hsz hb.size
       replace EN := hid (jC EN.out hb)
       replace ER := hid (jC ER.out hb)
       replace ET := hid (jC ET.out hb)
       replace HB := hid (HB.out.trans (hb.mono HB.out.size))
       clear hb
       clear ht hs2 hnew
       have etc0 := jA ET.out 0 _ rfl
       have etc1 := jA ET.out 1 _ rfl
       have etc2 := jA ET.out 2 _ rfl
       have etc3 := jA ET.out 3 _ rfl
       have etf := jD ET.out
       go_upto_region 9 with fail
       clear etc0 etc1 etc2 etc3 etf
       replace EN := hid (jB (EN.out) (w.heap.size + 2) 2 (.slice zq zn zc) (by omega))
       replace ER := hid (jB (ER.out) (w.heap.size + 2) 2 (.slice zq zn zc) (by omega))
       replace ET := hid (jG #[.int .i64 n.tok.pos, .string ⟨s.toArray⟩, .slice zq zn zc, .slice none 0 0] (ET.out) 2 (.slice zq zn zc) rfl)
       replace HB := hid (Below.setCell (HB.out) (p := ⟨w.heap.size + 2, 2, none⟩) (by dsimp only; omega) (.slice zq zn zc))
       replace S1 := hid (Stay.set S1.out (w.heap.size + 2) 2 (.slice zq zn zc) (by have := HLO.out; omega))
       replace hsz : w.heap.size + 3 ≤ (w3.setCell ⟨w.heap.size + 2, 2, none⟩ (.slice zq zn zc)).heap.size := by simpa using hsz
       generalize w3.setCell ⟨w.heap.size + 2, 2, none⟩ (.slice zq zn zc) = wz at EN ER ET HB S1 hsz ⊢
       have hnk := (New.stay HNEW1.out (Nat.le_refl _) S1.out).keptS (base := (w.heap.size + 2) + 1) (S := fun _ => False) (by have := HLO.out; omega) (fun g hg => hg.elim)
       have hnil : ∀ E s, wz.ownsRow (w.heap.size + 2 + 1) E s (.slice none 0 0) 0 [] := fun _ _ => World.ownsRow_nil _ _ _ _
       have htwo : G2 47 3 (ConAt 50) 9 1 (fun u => RowAt 1 (StrAt u) u) wz (w.heap.size + 2) 44 #[.int .i64 n.tok.pos, .string ⟨s.toArray⟩, .slice zq zn zc, .slice none 0 0] (.slice none 0 0) (.slice none 0 0) (0) 0 ([]) [] ([]) [.slice zq zn zc] ([]) [ps] [] wz := ⟨Below.refl _ _, by omega, ET.out, hnil _ _, hnil _ _, trivial, ⟨hnk.step (Nat.le_refl _) (fun _ _ _ _ => rfl) (fun g hg => by simp [Value.ownBlock] at hg), trivial⟩, (fun _ h => by cases h), (fun u hu => by rw [List.mem_singleton.1 hu]; rfl), (fun b hb => by cases hb)⟩
       have TWO0 := hid htwo
       have EN0 := EN; have ER0 := ER; have HB0 := HB
       have HPQ : Hid (Px.data 50 n = (match Px.each (Px.con 50) (n.list.drop 3) with | .error p => .error p | .ok cs => .ok ⟨n.pos, s, ps, cs⟩)) := hid (by rw [HPP.out, HX1.out]; dsimp only; rw [HX2.out])
       clear htwo hnil hnk EN ER ET HB HNEW1 S1 HPP HX1 HX2
       go_wp2_with fail
       go_loopw [3, 5, 6, 7, 8, 9, 10, 11] (fun _ _ i _ _ _ _ _ wr => ∃ (j : Nat) (av : Value) (vs : List Value) (cz : List Px.Con), i = .int .i64 (j + 3 : Nat) ∧ j + 3 ≤ n.list.length ∧ Hid (Px.each (Px.con 50) ((n.list.drop 3).take j) = .ok cz) ∧ Hid (cz.length = j) ∧ Hid (G2 47 3 (ConAt 50) 9 1 (fun u => RowAt 1 (StrAt u) u) wz (w.heap.size + 2) 44 #[.int .i64 n.tok.pos, .string ⟨s.toArray⟩, .slice zq zn zc, av] (av) (.slice none 0 0) (j) 0 (vs) [] (vs) [.slice zq zn zc] (cz) [ps] [] wr)) (fun _ _ i _ _ _ _ _ _ => n.list.length - (intOf i).toNat)
       case atStart => exact ⟨0, _, [], [], rfl, by have := HLEN.out; omega, hid (by simp [Px.each]), hid rfl, TWO0⟩
       case round =>
        clear TWO0
        obtain ⟨j, av, vs, cz, rfl, hq, HE, HBL, TWO⟩ := hrel
        have hwr := TWO.out.lt
        have EN := hid (ent_low TWO.out.low EN0.out (by omega))
        have ET := hid TWO.out.et
        have HB := hid (HB0.out.trans (TWO.out.low.mono (by omega)))
        have enc0 := jA EN.out 0 _ rfl
        have enc1 := jA EN.out 1 _ rfl
        have enc2 := jA EN.out 2 _ rfl
        have enc3 := jA EN.out 3 _ rfl
        have enc4 := jA EN.out 4 _ rfl
        have enc5 := jA EN.out 5 _ rfl
        have enf := jD EN.out
        by_cases hlt : j + 3 < n.list.length
        · skip
          have hrow := HROW.out
          obtain ⟨pn, hm⟩ : ∃ m, n.list[j + 3]? = some m := ⟨_, List.getElem?_eq_getElem (by omega)⟩
          have hgtpn : n.list.getD (j + 3) n = pn := by rw [List.getD_eq_getElem?_getD, hm]; rfl
          have HGpn := hid (HG.out.kid (List.mem_of_getElem? hm))
          obtain ⟨u, hu, _, hcell⟩ := hrow (j + 3) pn hm
          obtain ⟨kpn, kvpn, hkpn, hue, hkr, q0, q1, q2, q3, q4, q5⟩ := jR hu hcell
          subst hue
          have HMpn := hid hm; have HVpn := hid hu; have HKpn := hid hkr
          try simp only [Nat.reduceMul, Nat.add_zero, Nat.zero_add] at q0 q1 q2 q3 q4 q5
          have pnq0 := hid q0; have pnq1 := hid q1; have pnq2 := hid q2; have pnq3 := hid q3; have pnq4 := hid q4; have pnq5 := hid q5
          clear hu hcell hkr q0 q1 q2 q3 q4 q5 hm
          have hdp : (n.list.drop 3)[j]? = some pn := by rw [List.getElem?_drop, Nat.add_comm]; exact HMpn.out
          have HDP := hid hdp
          clear hrow hgtpn hdp
          obtain ⟨pvp, cvp, rfl⟩ := HKpn.out.len
          have k0 := jE HB.out pnq0.out
          have k1 := jE HB.out pnq1.out
          have k2 := jE HB.out pnq2.out
          have k3 := jE HB.out pnq3.out
          have k4 := jE HB.out pnq4.out
          have k5 := jE HB.out pnq5.out
          go_wp2_with fail
          clear enc0 enc1 enc2 enc3 enc4 enc5 enf
          clear k0 k1 k2 k3 k4 k5
          replace TWO := hid (TWO.out.alloc #[.int .i64 pn.tok.kind, .int .i64 pn.tok.pos, .string ⟨pn.tok.text.toArray⟩, .int .i64 pn.tok.int, .bool (Px.jS pn), .slice pvp pn.list.length cvp] 73)
          have HB2 := hid (HB0.out.trans (TWO.out.low.mono (by omega)))
          obtain ⟨gb, hgb⟩ : ∃ gb, gb = wr.heap.size := ⟨_, rfl⟩
          rw [← hgb] at TWO
          rw [← hgb]
          generalize wr.alloc (.cells #[.int .i64 pn.tok.kind, .int .i64 pn.tok.pos, .string ⟨pn.tok.text.toArray⟩, .int .i64 pn.tok.int, .bool (Px.jS pn), .slice pvp pn.list.length cvp] 73) = wa at *
          clear hgb EN ET HB
          refine (size_any _ pn _ 1 9 _ (HVpn.out.below HB2.out) (by omega) (by omega)).mono ?_
          rintro e w3 ⟨rfl, hb⟩
          replace TWO := hid (TWO.out.below hb)
          clear hb HB2
          have hw3 := TWO.out.lt
          unfold sizeP
          cases hnb : Px.nodes pn 1 9 with
          | error p =>
            dsimp only
            have hge : (p : Int) ≥ 0 := by omega
            have hx : Px.each (Px.con 50) (n.list.drop 3) = .error p := (Px.each_take HDP.out HE.out).2 p (by rw [Px.con, hnb])
            have HX := hid hx; clear hx
            clear hnb
            have ER := hid (ent_low TWO.out.low ER0.out (by omega))
            have ET := hid TWO.out.et
            have HB := hid (HB0.out.trans (TWO.out.low.mono (by omega)))
            obtain ⟨pb, cb, rfl⟩ := jF TWO.out.oa
            have erc0 := jA ER.out 0 _ rfl
            have erc1 := jA ER.out 1 _ rfl
            have erc2 := jA ER.out 2 _ rfl
            have erc3 := jA ER.out 3 _ rfl
            have erf := jD ER.out
            have etc0 := jA ET.out 0 _ rfl
            have etc1 := jA ET.out 1 _ rfl
            have etc2 := jA ET.out 2 _ rfl
            have etc3 := jA ET.out 3 _ rfl
            have etf := jD ET.out
            go_wp2_with fail
            replace ER := hid (jG #[.int .i64 n.tok.pos, .string ⟨s.toArray⟩, .slice zq zn zc, .slice pb j cb] (jG #[.int .i64 n.tok.pos, .string ⟨s.toArray⟩, .slice zq zn zc, .slice none 0 0] (jG #[.int .i64 n.tok.pos, .string ⟨s.toArray⟩, .slice none 0 0, .slice none 0 0] (jG #[.int .i64 n.tok.pos, .string ⟨#[]⟩, .slice none 0 0, .slice none 0 0] (ER.out) 0 (.int .i64 n.tok.pos) rfl) 1 (.string ⟨s.toArray⟩) rfl) 2 (.slice zq zn zc) rfl) 3 (.slice pb j cb) rfl)
            replace ET := hid (jB (jB (jB (jB (ET.out) (w.heap.size + 1) 0 (.int .i64 n.tok.pos) (by omega)) (w.heap.size + 1) 1 (.string ⟨s.toArray⟩) (by omega)) (w.heap.size + 1) 2 (.slice zq zn zc) (by omega)) (w.heap.size + 1) 3 (.slice pb j cb) (by omega))
            replace HB := hid (Below.setCell (Below.setCell (Below.setCell (Below.setCell (HB.out) (p := ⟨w.heap.size + 1, 0, none⟩) (by dsimp only; omega) (.int .i64 n.tok.pos)) (p := ⟨w.heap.size + 1, 1, none⟩) (by dsimp only; omega) (.string ⟨s.toArray⟩)) (p := ⟨w.heap.size + 1, 2, none⟩) (by dsimp only; omega) (.slice zq zn zc)) (p := ⟨w.heap.size + 1, 3, none⟩) (by dsimp only; omega) (.slice pb j cb))
            have r0 := jA ER.out 0 _ rfl
            have r1 := jA ER.out 1 _ rfl
            have r2 := jA ER.out 2 _ rfl
            have r3 := jA ER.out 3 _ rfl
            refine bodyPost_ret (v := .tuple #[.agg #[.int .i64 n.tok.pos, .string ⟨s.toArray⟩, .slice zq zn zc, .slice pb j cb], .int .i64 p]) (by simp [results, Try.results21, go_sem, r0, r1, r2, r3]) rfl ?_
            exact jL (by rw [HPQ.out, HX.out]) HB.out ⟨_, _, _, _, _, _, _, _, rfl⟩
          | ok lb =>
            dsimp only
            have hni := jW hnb
            have hll := hni.1
            have hs1 := hni.2.1
            have hs8 := hni.2.2.1
            clear hni
            subst hll
            rcases HKpn.out with ⟨h0, _⟩ | ⟨g2, o2, c2, hkv, d1, d2, d3⟩
            · rw [h0] at hs1; simp at hs1
            injection hkv with hkv1 _ hkv2
            subst hkv1; subst hkv2
            obtain ⟨b0, hm⟩ : ∃ m, pn.list[0]? = some m := ⟨_, List.getElem?_eq_getElem (by omega)⟩
            have hgtb0 : pn.list.getD (0) n = b0 := by rw [List.getD_eq_getElem?_getD, hm]; rfl
            have HGb0 := hid (HGpn.out.kid (List.mem_of_getElem? hm))
            obtain ⟨u, hu, _, hcell⟩ := d3 (0) b0 hm
            obtain ⟨kb0, kvb0, hkb0, hue, hkr, q0, q1, q2, q3, q4, q5⟩ := jR hu hcell
            subst hue
            have HMb0 := hid hm; have HVb0 := hid hu; have HKb0 := hid hkr
            try simp only [Nat.reduceMul, Nat.add_zero, Nat.zero_add] at q0 q1 q2 q3 q4 q5
            have b0q0 := hid q0; have b0q1 := hid q1; have b0q2 := hid q2; have b0q3 := hid q3; have b0q4 := hid q4; have b0q5 := hid q5
            clear hu hcell hkr q0 q1 q2 q3 q4 q5 hm
            have hh0 : pn.list.headD pn = b0 := by
             rw [← hgtb0]
             cases hh : pn.list with
             | nil => rw [hh] at hs1; simp at hs1
             | cons a r => rfl
            have HPR : Hid (Px.con 50 pn = (match Px.conName b0 with | .error p => .error p | .ok s => match Px.each (Px.typeE 50) pn.list.tail with | .error p => .error p | .ok ts => .ok ⟨pn.pos, s, ts⟩)) := hid (by rw [Px.con, hnb]; dsimp only; rw [hh0]; rfl)
            have HKB : Hid (kpn ≤ k) := hid (by omega)
            have HROW2 := hid d3
            have hp1 : (0 : Int) < (pn.list.length : Int) := by omega
            have hp3 : (pn.list.length : Int) ≤ (cvp : Int) := by omega
            have HLP := hid (And.intro hs1 hs8)
            clear hh0 hgtb0 hnb d1 d2 d3 hs1 hs8 hkb0 hkpn
            have EB := hid (TWO.out.bx _ (List.Mem.head _)).2.1
            have bc0 := jA EB.out 0 _ rfl
            have bc1 := jA EB.out 1 _ rfl
            have bc2 := jA EB.out 2 _ rfl
            have bc3 := jA EB.out 3 _ rfl
            have bc4 := jA EB.out 4 _ rfl
            have bc5 := jA EB.out 5 _ rfl
            have bf := jD EB.out
            go_upto_region 19 with fail
            clear EB bc0 bc1 bc2 bc3 bc4 bc5 bf
            have EC := hid (jI w3 #[.int .i64 pn.tok.pos, .string ⟨#[]⟩, .slice none 0 0] 47)
            have HBC := hid (show Below w3.heap.size w3 (w3.alloc (.cells #[.int .i64 pn.tok.pos, .string ⟨#[]⟩, .slice none 0 0] 47)) from (Below.refl _ _).alloc (Nat.le_refl _) _)
            generalize w3.alloc (.cells #[.int .i64 pn.tok.pos, .string ⟨#[]⟩, .slice none 0 0] 47) = w4 at EC HBC ⊢
            have TW4 := hid (TWO.out.below HBC.out)
            have EB := hid (TW4.out.bx _ (List.Mem.head _)).2.1
            have bc0 := jA EB.out 0 _ rfl
            have bc1 := jA EB.out 1 _ rfl
            have bc2 := jA EB.out 2 _ rfl
            have bc3 := jA EB.out 3 _ rfl
            have bc4 := jA EB.out 4 _ rfl
            have bc5 := jA EB.out 5 _ rfl
            have bf := jD EB.out
            have HB := hid (HB0.out.trans (TW4.out.low.mono (by omega)))
            have n0 := jE HB.out b0q0.out
            have n1 := jE HB.out b0q1.out
            have n2 := jE HB.out b0q2.out
            have n3 := jE HB.out b0q3.out
            have n4 := jE HB.out b0q4.out
            have n5 := jE HB.out b0q5.out
            go_wp2_with fail
            clear n0 n1 n2 n3 n4 n5
            clear EB bc0 bc1 bc2 bc3 bc4 bc5 bf
            clear TW4 HB
            refine (con_any b0 _ _ HGb0.out).mono ?_
            intro e w5 ht
            cases hnm : Px.conName b0 with
            | error p =>
              obtain ⟨z, rfl, ⟨zs, rfl⟩, hb⟩ := jN ht hnm
              have hge : (p : Int) ≥ 0 := by omega
              have hx : Px.each (Px.con 50) (n.list.drop 3) = .error p := (Px.each_take HDP.out HE.out).2 p (by rw [HPR.out, hnm])
              have HX := hid hx; clear hx
              replace EC := hid (jC EC.out hb)
              replace HBC := hid (HBC.out.trans (hb.mono HBC.out.size))
              clear hb
              have cc0 := jA EC.out 0 _ rfl
              have cc1 := jA EC.out 1 _ rfl
              have cc2 := jA EC.out 2 _ rfl
              have cf := jD EC.out
              go_upto_region 20 with fail
              clear cc0 cc1 cc2 cf
              replace EC := hid (jG #[.int .i64 pn.tok.pos, .string zs, .slice none 0 0] EC.out 1 (.string zs) rfl)
              replace HBC := hid (HBC.out.setCell (p := ⟨w3.heap.size, 1, none⟩) (Nat.le_refl _) (.string zs))
              generalize w5.setCell ⟨w3.heap.size, 1, none⟩ (.string zs) = wi at EC HBC ⊢
              clear ht hnm
              have TWF := hid (TWO.out.below HBC.out)
              have ER := hid (ent_low TWF.out.low ER0.out (by omega))
              have ET := hid TWF.out.et
              have HB := hid (HB0.out.trans (TWF.out.low.mono (by omega)))
              obtain ⟨pb, cb, rfl⟩ := jF TWF.out.oa
              have erc0 := jA ER.out 0 _ rfl
              have erc1 := jA ER.out 1 _ rfl
              have erc2 := jA ER.out 2 _ rfl
              have erc3 := jA ER.out 3 _ rfl
              have erf := jD ER.out
              have etc0 := jA ET.out 0 _ rfl
              have etc1 := jA ET.out 1 _ rfl
              have etc2 := jA ET.out 2 _ rfl
              have etc3 := jA ET.out 3 _ rfl
              have etf := jD ET.out
              go_wp2_with fail
              replace ER := hid (jG #[.int .i64 n.tok.pos, .string ⟨s.toArray⟩, .slice zq zn zc, .slice pb j cb] (jG #[.int .i64 n.tok.pos, .string ⟨s.toArray⟩, .slice zq zn zc, .slice none 0 0] (jG #[.int .i64 n.tok.pos, .string ⟨s.toArray⟩, .slice none 0 0, .slice none 0 0] (jG #[.int .i64 n.tok.pos, .string ⟨#[]⟩, .slice none 0 0, .slice none 0 0] (ER.out) 0 (.int .i64 n.tok.pos) rfl) 1 (.string ⟨s.toArray⟩) rfl) 2 (.slice zq zn zc) rfl) 3 (.slice pb j cb) rfl)
              replace ET := hid (jB (jB (jB (jB (ET.out) (w.heap.size + 1) 0 (.int .i64 n.tok.pos) (by omega)) (w.heap.size + 1) 1 (.string ⟨s.toArray⟩) (by omega)) (w.heap.size + 1) 2 (.slice zq zn zc) (by omega)) (w.heap.size + 1) 3 (.slice pb j cb) (by omega))
              replace HB := hid (Below.setCell (Below.setCell (Below.setCell (Below.setCell (HB.out) (p := ⟨w.heap.size + 1, 0, none⟩) (by dsimp only; omega) (.int .i64 n.tok.pos)) (p := ⟨w.heap.size + 1, 1, none⟩) (by dsimp only; omega) (.string ⟨s.toArray⟩)) (p := ⟨w.heap.size + 1, 2, none⟩) (by dsimp only; omega) (.slice zq zn zc)) (p := ⟨w.heap.size + 1, 3, none⟩) (by dsimp only; omega) (.slice pb j cb))
              have r0 := jA ER.out 0 _ rfl
              have r1 := jA ER.out 1 _ rfl
              have r2 := jA ER.out 2 _ rfl
              have r3 := jA ER.out 3 _ rfl
              refine bodyPost_ret (v := .tuple #[.agg #[.int .i64 n.tok.pos, .string ⟨s.toArray⟩, .slice zq zn zc, .slice pb j cb], .int .i64 p]) (by simp [results, Try.results21, go_sem, r0, r1, r2, r3]) rfl ?_
              exact jL (by rw [HPQ.out, HX.out]) HB.out ⟨_, _, _, _, _, _, _, _, rfl⟩
            | ok s2 =>
              obtain ⟨z, rfl, _, hnew, hb⟩ := rtold_ok ht hnm
              obtain rfl : z = .string ⟨s2.toArray⟩ := hnew.now
              have HNM := hid hnm; clear ht hnm hnew
              replace EC := hid (jC EC.out hb)
              replace HBC := hid (HBC.out.trans (hb.mono HBC.out.size))
              clear hb
              have cc0 := jA EC.out 0 _ rfl
              have cc1 := jA EC.out 1 _ rfl
              have cc2 := jA EC.out 2 _ rfl
              have cf := jD EC.out
              go_upto_region 20 with fail
              clear cc0 cc1 cc2 cf
              replace EC := hid (jG #[.int .i64 pn.tok.pos, .string ⟨s2.toArray⟩, .slice none 0 0] EC.out 1 (.string ⟨s2.toArray⟩) rfl)
              replace HBC := hid (HBC.out.setCell (p := ⟨w3.heap.size, 1, none⟩) (Nat.le_refl _) (.string ⟨s2.toArray⟩))
              generalize w5.setCell ⟨w3.heap.size, 1, none⟩ (.string ⟨s2.toArray⟩) = wi at EC HBC ⊢
              obtain ⟨wo, hwo⟩ : ∃ x, x = wr := ⟨wr, rfl⟩
              subst hwo
              have hin : G2 112 3 (TypeAt 50) 9 1 (fun _ _ (_ : Unit) => True) wi w3.heap.size 47 #[.int .i64 pn.tok.pos, .string ⟨s2.toArray⟩, .slice none 0 0] (.slice none 0 0) (.slice none 0 0) (0) 0 ([]) [] ([]) [] ([]) ([] : List Unit) [] wi := g2_nil EC.out
              have TI0 := hid hin
              clear hin EC
              go_wp2_with fail
              go_loopw [3, 9, 10, 11] (fun _ kk _ _ wr => ∃ (i : Nat) (fv : Value) (us : List Value) (tz : List Px.TypeE), kk = .int .i64 (i + 1 : Nat) ∧ i + 1 ≤ pn.list.length ∧ Hid (Px.each (Px.typeE 50) (pn.list.tail.take i) = .ok tz) ∧ Hid (tz.length = i) ∧ Hid (G2 112 3 (TypeAt 50) 9 1 (fun _ _ (_ : Unit) => True) wi w3.heap.size 47 #[.int .i64 pn.tok.pos, .string ⟨s2.toArray⟩, fv] (fv) (.slice none 0 0) (i) 0 (us) [] (us) [] (tz) ([] : List Unit) [] wr)) (fun _ kk _ _ _ => pn.list.length - (intOf kk).toNat)
              case atStart => exact ⟨0, _, [], [], rfl, by have := HLP.out; omega, hid (by simp [Px.each]), hid rfl, TI0⟩
              case round =>
               clear TI0
               obtain ⟨i, fv, us, tz, rfl, hi, HEI, HIL, TI⟩ := hrel
               have HBW := hid (HBC.out.trans TI.out.low)
               have TWW := hid (TWO.out.below HBW.out)
               have EB := hid (TWW.out.bx _ (List.Mem.head _)).2.1
               have bc0 := jA EB.out 0 _ rfl
               have bc1 := jA EB.out 1 _ rfl
               have bc2 := jA EB.out 2 _ rfl
               have bc3 := jA EB.out 3 _ rfl
               have bc4 := jA EB.out 4 _ rfl
               have bc5 := jA EB.out 5 _ rfl
               have bf := jD EB.out
               have ET := hid TWW.out.et
               have HB := hid (HB0.out.trans (TWW.out.low.mono (by omega)))
               by_cases hli : i + 1 < pn.list.length
               · skip
                 have hrow := HROW2.out
                 obtain ⟨tn, hm⟩ : ∃ m, pn.list[i + 1]? = some m := ⟨_, List.getElem?_eq_getElem (by omega)⟩
                 have hgttn : pn.list.getD (i + 1) n = tn := by rw [List.getD_eq_getElem?_getD, hm]; rfl
                 have HGtn := hid (HGpn.out.kid (List.mem_of_getElem? hm))
                 obtain ⟨u, hu, _, hcell⟩ := hrow (i + 1) tn hm
                 obtain ⟨ktn, kvtn, hktn, hue, hkr, q0, q1, q2, q3, q4, q5⟩ := jR hu hcell
                 subst hue
                 have HMtn := hid hm; have HVtn := hid hu; have HKtn := hid hkr
                 try simp only [Nat.reduceMul, Nat.add_zero, Nat.zero_add] at q0 q1 q2 q3 q4 q5
                 have tnq0 := hid q0; have tnq1 := hid q1; have tnq2 := hid q2; have tnq3 := hid q3; have tnq4 := hid q4; have tnq5 := hid q5
                 clear hu hcell hkr q0 q1 q2 q3 q4 q5 hm
                 have htl : pn.list.tail[i]? = some tn := by rw [List.getElem?_tail]; exact HMtn.out
                 have HTL := hid htl
                 clear hrow hgttn htl
                 have k0 := jE HB.out tnq0.out
                 have k1 := jE HB.out tnq1.out
                 have k2 := jE HB.out tnq2.out
                 have k3 := jE HB.out tnq3.out
                 have k4 := jE HB.out tnq4.out
                 have k5 := jE HB.out tnq5.out
                 go_wp2_with fail
                 clear EB bc0 bc1 bc2 bc3 bc4 bc5 bf
                 clear k0 k1 k2 k3 k4 k5
                 refine (typ_any _ 50 tn _ _ (by have := HKB.out; have := HK50.out; omega) (HVtn.out.below HB.out) HGtn.out).mono ?_
                 intro e w6 ht
                 clear ET HB TWW HBW
                 cases hty : Px.typeE 50 tn with
                 | error p =>
                   obtain ⟨z, rfl, ⟨tp, tzz, tq, tn, tc, rfl⟩, hb⟩ := jN ht hty
                   have hge : (p : Int) ≥ 0 := by omega
                   have hte : Px.each (Px.typeE 50) pn.list.tail = .error p := (Px.each_take HTL.out HEI.out).2 p hty
                   have hx : Px.each (Px.con 50) (n.list.drop 3) = .error p := (Px.each_take HDP.out HE.out).2 p (by rw [HPR.out, HNM.out]; dsimp only; rw [hte])
                   have HX := hid hx; clear hx
                   replace TI := hid ((TI.out.below hb).alloc #[.int .i64 tp, .string tzz, .slice tq tn tc] 112)
                   clear ht hty hte hb
                   have HBW := hid (HBC.out.trans TI.out.low)
                   have TWF := hid (TWO.out.below HBW.out)
                   have ER := hid (ent_low TWF.out.low ER0.out (by omega))
                   have ET := hid TWF.out.et
                   have HB := hid (HB0.out.trans (TWF.out.low.mono (by omega)))
                   obtain ⟨pb, cb, rfl⟩ := jF TWF.out.oa
                   have erc0 := jA ER.out 0 _ rfl
                   have erc1 := jA ER.out 1 _ rfl
                   have erc2 := jA ER.out 2 _ rfl
                   have erc3 := jA ER.out 3 _ rfl
                   have erf := jD ER.out
                   have etc0 := jA ET.out 0 _ rfl
                   have etc1 := jA ET.out 1 _ rfl
                   have etc2 := jA ET.out 2 _ rfl
                   have etc3 := jA ET.out 3 _ rfl
                   have etf := jD ET.out
                   go_wp2_with fail
                   replace ER := hid (jG #[.int .i64 n.tok.pos, .string ⟨s.toArray⟩, .slice zq zn zc, .slice pb j cb] (jG #[.int .i64 n.tok.pos, .string ⟨s.toArray⟩, .slice zq zn zc, .slice none 0 0] (jG #[.int .i64 n.tok.pos, .string ⟨s.toArray⟩, .slice none 0 0, .slice none 0 0] (jG #[.int .i64 n.tok.pos, .string ⟨#[]⟩, .slice none 0 0, .slice none 0 0] (ER.out) 0 (.int .i64 n.tok.pos) rfl) 1 (.string ⟨s.toArray⟩) rfl) 2 (.slice zq zn zc) rfl) 3 (.slice pb j cb) rfl)
                   replace ET := hid (jB (jB (jB (jB (ET.out) (w.heap.size + 1) 0 (.int .i64 n.tok.pos) (by omega)) (w.heap.size + 1) 1 (.string ⟨s.toArray⟩) (by omega)) (w.heap.size + 1) 2 (.slice zq zn zc) (by omega)) (w.heap.size + 1) 3 (.slice pb j cb) (by omega))
                   replace HB := hid (Below.setCell (Below.setCell (Below.setCell (Below.setCell (HB.out) (p := ⟨w.heap.size + 1, 0, none⟩) (by dsimp only; omega) (.int .i64 n.tok.pos)) (p := ⟨w.heap.size + 1, 1, none⟩) (by dsimp only; omega) (.string ⟨s.toArray⟩)) (p := ⟨w.heap.size + 1, 2, none⟩) (by dsimp only; omega) (.slice zq zn zc)) (p := ⟨w.heap.size + 1, 3, none⟩) (by dsimp only; omega) (.slice pb j cb))
                   have r0 := jA ER.out 0 _ rfl
                   have r1 := jA ER.out 1 _ rfl
                   have r2 := jA ER.out 2 _ rfl
                   have r3 := jA ER.out 3 _ rfl
                   refine bodyPost_ret (v := .tuple #[.agg #[.int .i64 n.tok.pos, .string ⟨s.toArray⟩, .slice zq zn zc, .slice pb j cb], .int .i64 p]) (by simp [results, Try.results21, go_sem, r0, r1, r2, r3]) rfl ?_
                   exact jL (by rw [HPQ.out, HX.out]) HB.out ⟨_, _, _, _, _, _, _, _, rfl⟩
                 | ok x =>
                   obtain ⟨z, rfl, ⟨tp, tzz, tq, tn, tc, rfl⟩, hnew, hb⟩ := rtold_ok ht hty
                   have hks := TI.out.since hnew
                   replace TI := hid (((TI.out.below hb).addA hks rfl).alloc #[.int .i64 tp, .string tzz, .slice tq tn tc] 112)
                   have HNEXT := hid ((Px.each_take HTL.out HEI.out).1 x hty)
                   clear ht hty hnew hb hks
                   go_upto_region 28 with fail
                   obtain ⟨gz, hgz⟩ : ∃ gz, gz = w6.heap.size := ⟨_, rfl⟩
                   rw [← hgz] at TI
                   rw [← hgz]
                   generalize w6.alloc (.cells #[.int .i64 tp, .string tzz, .slice tq tn tc] 112) = w7 at TI ⊢
                   clear hgz
                   obtain ⟨pb, cb, rfl⟩ := jF TI.out.oa
                   have EC := hid TI.out.et
                   have EZ := hid (TI.out.bx _ (List.Mem.head _)).2.1
                   have cc0 := jA EC.out 0 _ rfl; have ze0 := jA EZ.out 0 _ rfl
                   have cc1 := jA EC.out 1 _ rfl; have ze1 := jA EZ.out 1 _ rfl
                   have cc2 := jA EC.out 2 _ rfl; have ze2 := jA EZ.out 2 _ rfl
                   have cf := jD EC.out
                   have hi9 : i ≤ 9 := by have := HLP.out; omega
                   go_wp2_with (at_builtin; refine G2.listA (TI.out.alloc #[.int .i64 tp, .string tzz, .slice tq tn tc] 112) (by decide) 45 Try.underlying45 infoTypeE rfl (by decide) (by decide) (gb := w7.heap.size) (List.Mem.head _) rfl (by simp [Value.oneCell']) (by omega) rfl (.tmp 104) (.tmp 106) rfl rfl rfl ?_)
                   intro v6 w8 h6
                   clear EC EZ cf cc0 ze0 cc1 ze1 cc2 ze2
                   obtain ⟨pc, cc, rfl⟩ := jF h6.oa
                   have T2 := hid (h6.only (M := []) (fun b hb => by cases hb)); clear h6
                   have EC := hid T2.out.et
                   have cc0 := jA EC.out 0 _ rfl
                   have cc1 := jA EC.out 1 _ rfl
                   have cc2 := jA EC.out 2 _ rfl
                   have cf := jD EC.out
                   go_wp2_with fail
                   clear EC cf cc0 cc1 cc2
                   have T3 := hid (T2.out.st 2 (.slice pc (i + 1) cc) #[.int .i64 pn.tok.pos, .string ⟨s2.toArray⟩, .slice pc (i + 1) cc] rfl)
                   go_roundw
                   case rel => exact ⟨i + 1, _, us ++ [.agg #[.int .i64 tp, .string tzz, .slice tq tn tc]], tz ++ [x], by go_num, by omega, HNEXT, hid (by rw [List.length_append, HIL.out]; rfl), T3⟩
                   case measure => simp [intOf]; omega
               · skip
                 have hie : i = pn.list.tail.length := by rw [List.length_tail]; omega
                 have he := HEI.out
                 rw [hie, List.take_length] at he
                 have HEE := hid he; clear he
                 have HIE := hid hie; clear hie
                 have hone : Px.con 50 pn = .ok ⟨pn.pos, s2, tz⟩ := by rw [HPR.out, HNM.out]; dsimp only; rw [HEE.out]
                 have HNEXT := hid ((Px.each_take HDP.out HE.out).1 _ hone)
                 clear hone
                 obtain ⟨pf, cf0, rfl⟩ := jF TI.out.oa
                 have hnw : New (ConAt 50) w3 wr (.agg #[.int .i64 pn.tok.pos, .string ⟨s2.toArray⟩, .slice pf i cf0]) ⟨pn.pos, s2, tz⟩ := fun u hu => ⟨_, rfl, (TI.out.rows HIL.out.symm rfl (u := u) (fun b h1 h2 => hu b (by omega) h2)).1⟩
                 have hks := TWO.out.since hnw
                 replace TWW := hid (TWW.out.addA hks rfl)
                 clear hnw hks
                 obtain ⟨pb, cb, rfl⟩ := jF TWW.out.oa
                 have hj100 : j ≤ 103 := by have := HLEN.out; omega
                 have EC := hid TI.out.et
                 have etc0 := jA ET.out 0 _ rfl
                 have etc1 := jA ET.out 1 _ rfl
                 have etc2 := jA ET.out 2 _ rfl
                 have etc3 := jA ET.out 3 _ rfl
                 have etf := jD ET.out
                 have cc0 := jA EC.out 0 _ rfl
                 have cc1 := jA EC.out 1 _ rfl
                 have cc2 := jA EC.out 2 _ rfl
                 go_wp2_with (at_builtin; refine G2.listA (TWW.out.alloc #[.int .i64 pn.tok.pos, .string ⟨s2.toArray⟩, .slice pf i cf0] 47) (by decide) 42 Try.underlying42 infoCon rfl (by decide) (by decide) (gb := wr.heap.size) (List.Mem.head _) rfl (by simp [Value.oneCell']) (by omega) rfl (.tmp 110) (.tmp 112) rfl rfl rfl ?_)
                 intro v6 w8 h6
                 clear EB bc0 bc1 bc2 bc3 bc4 bc5 bf
                 clear ET EC etf etc0 etc1 etc2 etc3 cc0 cc1 cc2 HB HBW TWW
                 obtain ⟨pc, cc, rfl⟩ := jF h6.oa
                 have T2 := hid (h6.only (M := []) (fun b hb => by cases hb)); clear h6
                 have ET := hid T2.out.et
                 have etc0 := jA ET.out 0 _ rfl
                 have etc1 := jA ET.out 1 _ rfl
                 have etc2 := jA ET.out 2 _ rfl
                 have etc3 := jA ET.out 3 _ rfl
                 have etf := jD ET.out
                 go_wp2_with fail
                 clear ET etf etc0 etc1 etc2 etc3
                 have T3 := hid (T2.out.st 3 (.slice pc (j + 1) cc) #[.int .i64 n.tok.pos, .string ⟨s.toArray⟩, .slice zq zn zc, .slice pc (j + 1) cc] rfl)
                 go_roundw
                 case rel => exact ⟨j + 1, _, vs ++ [.agg #[.int .i64 pn.tok.pos, .string ⟨s2.toArray⟩, .slice pf i cf0]], cz ++ [⟨pn.pos, s2, tz⟩], by go_num, by omega, HNEXT, hid (by rw [List.length_append, HBL.out]; rfl), T3⟩
                 case measure => simp [intOf]; omega
        · skip
          have hqe : j = (n.list.drop 3).length := by rw [List.length_drop]; omega
          have he := HE.out
          rw [hqe, List.take_length] at he
          have HEE := hid he; clear he
          have HQE := hid hqe; clear hqe
          obtain ⟨pb, cb, rfl⟩ := jF TWO.out.oa
          have ER := hid (ent_low TWO.out.low ER0.out (by omega))
          have erc0 := jA ER.out 0 _ rfl
          have erc1 := jA ER.out 1 _ rfl
          have erc2 := jA ER.out 2 _ rfl
          have erc3 := jA ER.out 3 _ rfl
          have erf := jD ER.out
          have etc0 := jA ET.out 0 _ rfl
          have etc1 := jA ET.out 1 _ rfl
          have etc2 := jA ET.out 2 _ rfl
          have etc3 := jA ET.out 3 _ rfl
          have etf := jD ET.out
          go_wp2_with fail
          replace ER := hid (jG #[.int .i64 n.tok.pos, .string ⟨s.toArray⟩, .slice zq zn zc, .slice pb j cb] (jG #[.int .i64 n.tok.pos, .string ⟨s.toArray⟩, .slice zq zn zc, .slice none 0 0] (jG #[.int .i64 n.tok.pos, .string ⟨s.toArray⟩, .slice none 0 0, .slice none 0 0] (jG #[.int .i64 n.tok.pos, .string ⟨#[]⟩, .slice none 0 0, .slice none 0 0] (ER.out) 0 (.int .i64 n.tok.pos) rfl) 1 (.string ⟨s.toArray⟩) rfl) 2 (.slice zq zn zc) rfl) 3 (.slice pb j cb) rfl)
          replace ET := hid (jB (jB (jB (jB (ET.out) (w.heap.size + 1) 0 (.int .i64 n.tok.pos) (by omega)) (w.heap.size + 1) 1 (.string ⟨s.toArray⟩) (by omega)) (w.heap.size + 1) 2 (.slice zq zn zc) (by omega)) (w.heap.size + 1) 3 (.slice pb j cb) (by omega))
          replace HB := hid (Below.setCell (Below.setCell (Below.setCell (Below.setCell (HB.out) (p := ⟨w.heap.size + 1, 0, none⟩) (by dsimp only; omega) (.int .i64 n.tok.pos)) (p := ⟨w.heap.size + 1, 1, none⟩) (by dsimp only; omega) (.string ⟨s.toArray⟩)) (p := ⟨w.heap.size + 1, 2, none⟩) (by dsimp only; omega) (.slice zq zn zc)) (p := ⟨w.heap.size + 1, 3, none⟩) (by dsimp only; omega) (.slice pb j cb))
          have r0 := jA ER.out 0 _ rfl
          have r1 := jA ER.out 1 _ rfl
          have r2 := jA ER.out 2 _ rfl
          have r3 := jA ER.out 3 _ rfl
          refine bodyPost_ret (v := .tuple #[.agg #[.int .i64 n.tok.pos, .string ⟨s.toArray⟩, .slice zq zn zc, .slice pb j cb], .int .i64 (-1)]) (by simp [results, Try.results21, go_sem, r0, r1, r2, r3]) rfl ?_
          refine jO (x := Px.Data.mk n.pos s ps cz) (by rw [HPQ.out, HEE.out]) HB.out ⟨_, _, _, _, _, _, _, _, rfl⟩ (fun u hu => ?_)
          have hag : ∀ b, w.heap.size + 2 < b → b < wr.heap.size → u.heap[b]? = wr.heap[b]? := fun b h1 h2 => (hu b (by omega) (by simpa using h2)).trans (set4_other _ _ b _ _ _ _ (by omega))
          have hA := rowS TWO.out.oa HBL.out.symm TWO.out.ka TWO.out.sa (u := u) (fun b h1 h2 => hag b (by omega) h2)
          obtain ⟨lo, hi, h0, h1, _, h3⟩ := TWO.out.kb.1
          exact ⟨_, _, rfl, h3 u fun b hb1 hb2 => hag b (by omega) (by omega), hA⟩
end Go.Proofs.Ytgoacbomphlhjaa
