/-
  Several texts in one: STab, SLeaf, SLeaf2, SWalk.
-/
import Derived.Test.YtgoacbomphlhjaaG05
import Derived.Test.YtgoacbomphlhjaaG09
import Derived.Test.YtgoacbomphlhjaaG18
import Derived.Test.YtgoacbomphlhjaaG14
import Derived.Deep.QuietTactic
import Derived.BigQuiet
import Derived.Test.YtgoacbomphlhjaaG12
namespace Go.Proofs.Ytgoacbomphlhjaa
open Go Go.RowKit
set_option linter.unusedVariables false
set_option linter.unusedSimpArgs false
namespace Sx
def tyw : Nat → Px.TypeE → Nat
 | 0, _ => 0
 | f + 1, .mk _ nm xs => 1 + nm.length + (xs.map (tyw f)).sum
def cw (c : Px.Con) : Nat := 1 + c.name.length + (c.fields.map (tyw 50)).sum
def dw (d : Px.Data) : Nat := 1 + d.name.length + nw d.params + (d.cons.map cw).sum
def fw (d : Px.Def) : Nat := 1 + d.name.length + nw d.params + ew 50 d.body
theorem len_sum {α : Type} (g : α → Nat) : ∀ (l : List α), (∀ x ∈ l, 1 ≤ g x) → l.length ≤ (l.map g).sum
 | [], _ => by simp
 | a :: r, h => by
   rw [List.length_cons, List.map_cons, List.sum_cons]
   have h1 := h a (by simp)
   have h2 := len_sum g r (fun x hx => h x (by simp [hx]))
   omega
end Sx
theorem take_fold {α β : Type} (g : β → α → β) (l : List α) (k : Nat) (x : α) (h : l[k]? = some x) (b : β) : (l.take (k + 1)).foldl g b = g ((l.take k).foldl g b) x := by
 rw [List.take_add_one, h, List.foldl_append]; rfl
theorem zip_at {α : Type} {l : List α} {k : Nat} {x : α} (h : l[k]? = some x) : l.zipIdx[k]? = some (x, k) := by rw [List.getElem?_zipIdx, h]; simp
theorem dataAt_sh {f : Nat} {u : World} {v : Value} {d : Px.Data} (h : DataAt f u v d) : ∃ (q0 : Option Addr) (c0 : Nat) (q1 : Option Addr) (c1 : Nat), v = .agg #[.int .i64 d.pos, .string ⟨d.name.toArray⟩, .slice q0 d.params.length c0, .slice q1 d.cons.length c1] ∧ RowAt 1 (StrAt u) u (.slice q0 d.params.length c0) d.params ∧ RowAt 3 (ConAt f u) u (.slice q1 d.cons.length c1) d.cons := by
 obtain ⟨nv, cv, rfl, h1, h2⟩ := h
 obtain ⟨q0, c0, rfl⟩ := h1.len
 obtain ⟨q1, c1, rfl⟩ := h2.len
 exact ⟨_, _, _, _, rfl, h1, h2⟩
theorem conAt_sh {f : Nat} {u : World} {v : Value} {c : Px.Con} (h : ConAt f u v c) : ∃ (q0 : Option Addr) (c0 : Nat), v = .agg #[.int .i64 c.pos, .string ⟨c.name.toArray⟩, .slice q0 c.fields.length c0] ∧ RowAt 3 (TypeAt f u) u (.slice q0 c.fields.length c0) c.fields := by
 obtain ⟨av, rfl, h1⟩ := h
 obtain ⟨q0, c0, rfl⟩ := h1.len
 exact ⟨_, _, rfl, h1⟩
def sArr : Nm := [45, 62]
def typesStep (m : Nm → Option Int) (d : Px.Data) : Nm → Option Int := putm m d.name (d.params.length : Int)
def typesTab (ds : List Px.Data) : Nm → Option Int := ds.foldl typesStep (putm given sArr 2)
set_option maxHeartbeats 4000000 in
set_option maxRecDepth 100000 in
theorem typesOf_any (f : Nat) (p : Px.Prog) (v : Value) (w : World) (hp : ProgAt f w v p) (hw : (p.datas.map Sx.dw).sum ≤ 400000) :
 Calls Try.prog 23 #[v] w fun e w' => ∃ mb, e = .returned (.map (some mb)) ∧ Below w.heap.size w w' ∧ w.heap.size ≤ mb ∧ MapI w' mb (4 + p.datas.length) (typesTab p.datas) := by
 obtain ⟨dv, fv, rfl, h1, h2⟩ := hp
 obtain ⟨q1, c1, rfl⟩ := h1.len
 obtain ⟨q2, c2, rfl⟩ := h2.len
 have HR := Lib.hid h1
 have HW := Lib.hid hw
 have hln : p.datas.length ≤ 400000 := Nat.le_trans (Sx.len_sum Sx.dw _ (fun x _ => by unfold Sx.dw; omega)) hw
 clear h1 h2 hw
 have KA := Lib.hid (keyLit sArr (by decide))
 go_enter Try.func23, Try.ntmps23
 have EP := Lib.hid (ent_new w #[.slice q1 p.datas.length c1, .slice q2 p.defs.length c2] 27)
 have HB := Lib.hid ((Below.refl w.heap.size w).alloc (Nat.le_refl _) (.cells #[.slice q1 p.datas.length c1, .slice q2 p.defs.length c2] 27))
 have hsz : w.heap.size + 1 ≤ (w.alloc (.cells #[.slice q1 p.datas.length c1, .slice q2 p.defs.length c2] 27)).heap.size := by simp
 go_upto_region 1 with fail
 generalize w.alloc (.cells #[.slice q1 p.datas.length c1, .slice q2 p.defs.length c2] 27) = w1 at EP HB hsz ⊢
 go_wp2_with fail
 refine (given_any w1).mono ?_
 rintro e w2 ⟨mb, rfl, hb2, hmb, hm⟩
 replace EP := Lib.hid (ent_below EP.out hb2)
 replace HB := Lib.hid (HB.out.trans (hb2.mono HB.out.size))
 have hmw : w.heap.size + 1 ≤ mb := by omega
 obtain ⟨D, o1, t1, n1⟩ := hm
 have O1 := Lib.hid o1
 have P1 := Lib.hid (mapg_put t1 n1 sArr 2)
 have HV : Hid (RInt (.int .i64 2) = some (encN 2, [])) := Lib.hid (plainElem_int Try.underlying3 (by decide))
 clear hb2 hmb hsz o1 t1 n1
 have e0 := ent_cell EP.out 0 _ rfl
 go_wp2_with (first
  | (at_mapUpdate; (refine wpList_mapUpdate_own _ rfl _ _ _ 64 rfl 9 3 lawStr Try.underlying64 _ mb 3 D rfl O1.out (by decide) _ _ _ rfl rfl KA.out _ [] HV.out ?_); intro w3 o3 g3; have M3 : Hid (MapI w3 mb 4 (putm given sArr 2)) := Lib.hid ⟨_, o3, P1.out.1, P1.out.2⟩; have G3 := Lib.hid g3; have e0 := grown_cell G3.out e0 (by show w.heap.size ≠ mb; omega); clear o3 g3))
 have EP3 : Hid (w3.heap[w.heap.size]? = some (.cells #[.slice q1 p.datas.length c1, .slice q2 p.defs.length c2] 27 (0, 0))) := Lib.hid ((G3.out.block _ (ent_lt EP.out) (fun e => by have := Option.some.inj e; omega)).trans EP.out)
 replace HB := Lib.hid (below_map HB.out G3.out (by omega))
 clear e0 G3 EP O1 P1 HV KA
 go_loopw [5, 11] (fun _ i wr => ∃ k : Nat, i = .int .i64 k ∧ k ≤ p.datas.length ∧ Hid (Below w.heap.size w wr) ∧ Hid (MapI wr mb (4 + k) ((p.datas.take k).foldl typesStep (putm given sArr 2)))) (fun _ i _ => p.datas.length - (intOf i).toNat)
 case atStart => exact ⟨0, rfl, Nat.zero_le _, HB, M3⟩
 case round =>
  clear HB M3 EP3
  obtain ⟨k, rfl, hk, HB, HM⟩ := hrel
  by_cases hlt : k < p.datas.length
  · obtain ⟨d, hd⟩ : ∃ d, p.datas[k]? = some d := ⟨_, List.getElem?_eq_getElem hlt⟩
    rcases HR.out with ⟨h0, _⟩ | ⟨g, of, c', hv, g1, g2, g3⟩
    · rw [h0] at hlt; simp at hlt
    injection hv with hq1 _ hq2
    subst hq1; subst hq2
    obtain ⟨u, hu, _, hcell⟩ := g3 k d hd
    obtain ⟨r0, s0, r1, s1, rfl, hp1, hp2⟩ := dataAt_sh hu
    have z0 := cell_up HB.out (hcell 0 _ rfl); have z1 := cell_up HB.out (hcell 1 _ rfl); have z2 := cell_up HB.out (hcell 2 _ rfl); have z3 := cell_up HB.out (hcell 3 _ rfl)
    simp only [Nat.add_zero] at z0
    have hk1 : (k : Int) < (p.datas.length : Int) := by omega
    have hk2 : (p.datas.length : Int) ≤ (c1 : Int) := by omega
    have hk3 := g2
    have hdw := Sx.sum_mem Sx.dw (List.mem_of_getElem? hd)
    have hdn : d.name.length ≤ 400000 ∧ d.params.length ≤ 400000 := by have := HW.out; have := nw_len d.params; have hdd : Sx.dw d = 1 + d.name.length + nw d.params + (d.cons.map Sx.cw).sum := rfl; omega
    have HTK := Lib.hid (take_fold typesStep p.datas k d hd (putm given sArr 2))
    have E4 := Lib.hid (ent_new wr #[.int .i64 d.pos, .string ⟨d.name.toArray⟩, .slice r0 d.params.length s0, .slice r1 d.cons.length s1] 44)
    have e0 := ent_cell E4.out 0 _ rfl; have e1 := ent_cell E4.out 1 _ rfl; have e2 := ent_cell E4.out 2 _ rfl
    have HBA := Lib.hid (HB.out.alloc HB.out.size (.cells #[.int .i64 d.pos, .string ⟨d.name.toArray⟩, .slice r0 d.params.length s0, .slice r1 d.cons.length s1] 44))
    obtain ⟨D, o1, t1, n1⟩ := HM.out.below ((Below.refl _ wr).alloc (Nat.le_refl _) (.cells #[.int .i64 d.pos, .string ⟨d.name.toArray⟩, .slice r0 d.params.length s0, .slice r1 d.cons.length s1] 44))
    have O1 := Lib.hid o1
    have P1 := Lib.hid (mapg_put t1 n1 d.name (d.params.length : Int))
    have HK := Lib.hid (keyLit d.name (by unfold maxLen; omega))
    have HV : Hid (RInt (.int .i64 (d.params.length : Int)) = some (encN (d.params.length : Int), [])) := Lib.hid (plainElem_int Try.underlying3 (WalkArith.wf_i64 (by omega)))
    have hn4 : 4 + k < maxLen := by unfold maxLen; omega
    clear g1 g2 g3 hcell hu hd hdw o1 t1 n1 hp1 hp2
    go_wp2_with (first
     | (at_mapUpdate; (refine wpList_mapUpdate_own _ rfl _ _ _ 64 rfl 9 3 lawStr Try.underlying64 _ mb (4 + k) D rfl O1.out hn4 _ _ _ rfl rfl HK.out _ [] HV.out ?_); intro w3 o3 g3; have M3 : Hid (MapI w3 mb (4 + (k + 1)) (typesStep ((p.datas.take k).foldl typesStep (putm given sArr 2)) d)) := Lib.hid ⟨_, o3, P1.out.1, P1.out.2⟩; have G3 := Lib.hid g3; clear o3 g3))
    clear e0 e1 e2 z0 z1 z2 z3
    go_roundw
    case rel => exact ⟨k + 1, by go_num, by omega, Lib.hid (below_map HBA.out G3.out (by omega)), Lib.hid (by rw [HTK.out]; exact M3.out)⟩
    case measure => simp [intOf]; omega
  · obtain rfl : k = p.datas.length := by omega
    go_wp2_with fail
    go_ret
    have := HM.out
    rw [List.take_length] at this
    exact ⟨mb, rfl, HB.out, by omega, this⟩
def conStep (i : Int) (m : Nm → Option C3) (ck : Px.Con × Nat) : Nm → Option C3 := putm m ck.1.name (i, (ck.2 : Int), (ck.1.fields.length : Int))
def consStep (m : Nm → Option C3) (dk : Px.Data × Nat) : Nm → Option C3 := dk.1.cons.zipIdx.foldl (conStep dk.2) m
def sFalse : Nm := [70, 97, 108, 115, 101]
def sTrue : Nm := [84, 114, 117, 101]
def cons0 : Nm → Option C3 := putm (putm (fun _ => none) sFalse (-1, 0, 0)) sTrue (-1, 1, 0)
def consTab (ds : List Px.Data) : Nm → Option C3 := ds.zipIdx.foldl consStep cons0
set_option maxHeartbeats 4000000 in
set_option maxRecDepth 100000 in
theorem cons_any (f : Nat) (p : Px.Prog) (v : Value) (w : World) (hp : ProgAt f w v p) (hw : (p.datas.map Sx.dw).sum ≤ 400000) :
 Calls Try.prog 11 #[v] w fun e w' => ∃ mb, e = .returned (.map (some mb)) ∧ Below w.heap.size w w' ∧ w.heap.size ≤ mb ∧ MapC w' mb (2 + (p.datas.map Sx.dw).sum) (consTab p.datas) := by
 obtain ⟨dv, fv, rfl, h1, h2⟩ := hp
 obtain ⟨q1, c1, rfl⟩ := h1.len
 obtain ⟨q2, c2, rfl⟩ := h2.len
 have HR := Lib.hid h1
 have HW := Lib.hid hw
 have hln : p.datas.length ≤ 400000 := Nat.le_trans (Sx.len_sum Sx.dw _ (fun x _ => by unfold Sx.dw; omega)) hw
 clear h1 h2 hw
 have K1 := Lib.hid (keyLit sFalse (by decide))
 have K2 := Lib.hid (keyLit sTrue (by decide))
 have hmm := @run_makeMap Try.prog
 go_enter Try.func11, Try.ntmps11
 have EP := Lib.hid (ent_new w #[.slice q1 p.datas.length c1, .slice q2 p.defs.length c2] 27)
 have HB := Lib.hid ((Below.refl w.heap.size w).alloc (Nat.le_refl _) (.cells #[.slice q1 p.datas.length c1, .slice q2 p.defs.length c2] 27))
 have hsz : w.heap.size + 1 ≤ (w.alloc (.cells #[.slice q1 p.datas.length c1, .slice q2 p.defs.length c2] 27)).heap.size := by simp
 go_upto_region 1 with fail
 generalize w.alloc (.cells #[.slice q1 p.datas.length c1, .slice q2 p.defs.length c2] 27) = w1 at EP HB hsz ⊢
 have H0 := Lib.hid (MapG.made (R := RCon) (enc := encK) w1)
 obtain ⟨D, o0, t0, n0⟩ := H0.out
 have O0 := Lib.hid o0
 have P1 := Lib.hid (mapg_put t0 n0 sFalse (-1, 0, 0))
 have P2 := Lib.hid (mapg_put P1.out.1 P1.out.2 sTrue (-1, 1, 0))
 have EP1 := Lib.hid (ent_alloc EP.out (.map #[] 0))
 have HB1 := Lib.hid (HB.out.alloc (by omega) (.map #[] 0))
 clear o0 t0 n0 EP HB
 go_wp2_with (first
  | (refine wpList_insert_own _ rfl _ _ _ 35 rfl 9 38 lawStr Try.underlying35 _ w1.heap.size 0 D rfl O0.out (by decide) _ _ _ rfl rfl K1.out _ [] (RCon_mk (-1, 0, 0)) ?_; intro w2 o2 g2; have O2 := Lib.hid o2; have G2' := Lib.hid g2; clear o2 g2)
  | (refine wpList_insert_own _ rfl _ _ _ 35 rfl 9 38 lawStr Try.underlying35 _ w1.heap.size 1 _ rfl O2.out (by decide) _ _ _ rfl rfl K2.out _ [] (RCon_mk (-1, 1, 0)) ?_; intro w3 o3 g3; have M3 : Hid (MapC w3 w1.heap.size 2 cons0) := Lib.hid ⟨_, o3, P2.out.1, P2.out.2⟩; have G3 := Lib.hid g3; have EP3 : Hid (w3.heap[w.heap.size]? = some (.cells #[.slice q1 p.datas.length c1, .slice q2 p.defs.length c2] 27 (0, 0))) := Lib.hid ((G3.out.block _ (by have := G2'.out.size; have := ent_lt EP1.out; omega) (fun e => by have := Option.some.inj e; omega)).trans ((G2'.out.block _ (ent_lt EP1.out) (fun e => by have := Option.some.inj e; omega)).trans EP1.out)); have e0 := ent_cell EP3.out 0 _ rfl; clear o3 g3))
 have hmb : w.heap.size + 1 ≤ w1.heap.size := hsz
 have HB3 := Lib.hid (below_map (below_map HB1.out G2'.out (by omega)) G3.out (by omega))
 generalize w1.heap.size = mb at *
 clear e0 EP3 G3 G2' O2 HB1 EP1 P1 P2 O0 H0 K1 K2 hmm hsz
 go_loopw [15] (fun i wr => ∃ k : Nat, i = .int .i64 k ∧ k ≤ p.datas.length ∧ Hid (Below w.heap.size w wr) ∧ Hid (MapC wr mb (2 + ((p.datas.take k).map Sx.dw).sum) ((p.datas.zipIdx.take k).foldl consStep cons0))) (fun i _ => p.datas.length - (intOf i).toNat)
 case atStart => exact ⟨0, rfl, Nat.zero_le _, HB3, M3⟩
 case round =>
  clear HB3 M3
  obtain ⟨k, rfl, hk, HB, HM⟩ := hrel
  by_cases hlt : k < p.datas.length
  · obtain ⟨d, hd⟩ : ∃ d, p.datas[k]? = some d := ⟨_, List.getElem?_eq_getElem hlt⟩
    rcases HR.out with ⟨h0, _⟩ | ⟨g, of, c', hv, g1, g2, g3⟩
    · rw [h0] at hlt; simp at hlt
    injection hv with hq1 _ hq2
    subst hq1; subst hq2
    obtain ⟨u, hu, _, hcell⟩ := g3 k d hd
    obtain ⟨r0, s0, r1, s1, rfl, hp1, hp2⟩ := dataAt_sh hu
    have z0 := cell_up HB.out (hcell 0 _ rfl); have z1 := cell_up HB.out (hcell 1 _ rfl); have z2 := cell_up HB.out (hcell 2 _ rfl); have z3 := cell_up HB.out (hcell 3 _ rfl)
    simp only [Nat.add_zero] at z0
    have hk1 : (k : Int) < (p.datas.length : Int) := by omega
    have hk2 : (p.datas.length : Int) ≤ (c1 : Int) := by omega
    have hk3 := g2
    have HSK : Hid (((p.datas.take (k + 1)).map Sx.dw).sum = ((p.datas.take k).map Sx.dw).sum + Sx.dw d) := Lib.hid (by rw [List.take_add_one, hd]; simp)
    have hdw := Sx.sum_take Sx.dw p.datas k d hd
    have hdd : Sx.dw d = 1 + d.name.length + nw d.params + (d.cons.map Sx.cw).sum := rfl
    have hcl : d.cons.length ≤ (d.cons.map Sx.cw).sum := Sx.len_sum Sx.cw _ (fun x _ => by unfold Sx.cw; omega)
    have HNB : Hid (((p.datas.take k).map Sx.dw).sum + d.cons.length ≤ 400000 ∧ d.cons.length ≤ Sx.dw d ∧ (d.cons.map Sx.cw).sum ≤ 400000) := Lib.hid (by have := HW.out; omega)
    have HTK := Lib.hid (take_fold consStep p.datas.zipIdx k (d, k) (zip_at hd) cons0)
    have E4 := Lib.hid (ent_new wr #[.int .i64 d.pos, .string ⟨d.name.toArray⟩, .slice r0 d.params.length s0, .slice r1 d.cons.length s1] 44)
    have e3 := ent_cell E4.out 3 _ rfl
    have HRC := Lib.hid hp2
    have hba := (Below.refl _ wr).alloc (Nat.le_refl _) (.cells #[.int .i64 d.pos, .string ⟨d.name.toArray⟩, .slice r0 d.params.length s0, .slice r1 d.cons.length s1] 44)
    have HBA := Lib.hid (HB.out.trans (hba.mono HB.out.size))
    have HMA := Lib.hid (HM.out.below hba)
    have hdc : d.cons.length ≤ 400000 := by have := HW.out; omega
    clear g1 g2 g3 hcell hu hd hdw hdd hcl hp1 hp2 hba HB HM
    go_wp2_with fail
    clear z0 z1 z2 z3 e3 E4
    generalize wr.alloc (.cells #[.int .i64 d.pos, .string ⟨d.name.toArray⟩, .slice r0 d.params.length s0, .slice r1 d.cons.length s1] 44) = wq at *
    go_loopw [23] (fun i wr => ∃ j : Nat, i = .int .i64 j ∧ j ≤ d.cons.length ∧ Hid (Below w.heap.size w wr) ∧ Hid (MapC wr mb (2 + ((p.datas.take k).map Sx.dw).sum + j) ((d.cons.zipIdx.take j).foldl (conStep (k : Int)) ((p.datas.zipIdx.take k).foldl consStep cons0)))) (fun i _ => d.cons.length - (intOf i).toNat)
    case atStart => exact ⟨0, rfl, Nat.zero_le _, HBA, HMA⟩
    case round =>
     clear HBA HMA
     obtain ⟨j, rfl, hj, HB, HM⟩ := hrel
     by_cases hltj : j < d.cons.length
     · obtain ⟨cn, hd⟩ : ∃ c, d.cons[j]? = some c := ⟨_, List.getElem?_eq_getElem hltj⟩
       rcases HRC.out with ⟨h0, _⟩ | ⟨g', of', c', hv, g1, g2, g3⟩
       · rw [h0] at hltj; simp at hltj
       injection hv with hq1 _ hq2
       subst hq1; subst hq2
       obtain ⟨u, hu, _, hcell⟩ := g3 j cn hd
       obtain ⟨r2, s2, rfl, hp1⟩ := conAt_sh hu
       have z0 := cell_up HB.out (hcell 0 _ rfl); have z1 := cell_up HB.out (hcell 1 _ rfl); have z2 := cell_up HB.out (hcell 2 _ rfl)
       simp only [Nat.add_zero] at z0
       have hj1 : (j : Int) < (d.cons.length : Int) := by omega
       have hj2 : (d.cons.length : Int) ≤ (s1 : Int) := by omega
       have hj3 := g2
       have hcw := Sx.sum_mem Sx.cw (List.mem_of_getElem? hd)
       have hcc : Sx.cw cn = 1 + cn.name.length + (cn.fields.map (Sx.tyw 50)).sum := rfl
       have hcn : cn.name.length ≤ 400000 := by have := HNB.out; omega
       have HTJ := Lib.hid (take_fold (conStep (k : Int)) d.cons.zipIdx j (cn, j) (zip_at hd) ((p.datas.zipIdx.take k).foldl consStep cons0))
       have E5 := Lib.hid (ent_new wr #[.int .i64 cn.pos, .string ⟨cn.name.toArray⟩, .slice r2 cn.fields.length s2] 47)
       have e1 := ent_cell E5.out 1 _ rfl; have e2 := ent_cell E5.out 2 _ rfl
       have hba := (Below.refl _ wr).alloc (Nat.le_refl _) (.cells #[.int .i64 cn.pos, .string ⟨cn.name.toArray⟩, .slice r2 cn.fields.length s2] 47)
       have HBC := Lib.hid (HB.out.trans (hba.mono HB.out.size))
       obtain ⟨D, o1, t1, n1⟩ := HM.out.below hba
       have O1 := Lib.hid o1
       have P1 := Lib.hid (mapg_put t1 n1 cn.name ((k : Int), (j : Int), (cn.fields.length : Int)))
       have HK := Lib.hid (keyLit cn.name (by unfold maxLen; omega))
       have HV := Lib.hid (RCon_mk ((k : Int), (j : Int), (cn.fields.length : Int)))
       have hn4 : 2 + ((p.datas.take k).map Sx.dw).sum + j < maxLen := by have := HNB.out; unfold maxLen; omega
       clear g1 g2 g3 hcell hu hd hcw hcc o1 t1 n1 hp1 hba
       go_wp2_with (first
        | (at_mapUpdate; (refine wpList_mapUpdate_own _ rfl _ _ _ 35 rfl 9 38 lawStr Try.underlying35 _ mb (2 + ((p.datas.take k).map Sx.dw).sum + j) D rfl O1.out hn4 _ _ _ rfl rfl HK.out _ [] HV.out ?_); intro w3 o3 g3; have M3 : Hid (MapC w3 mb (2 + ((p.datas.take k).map Sx.dw).sum + (j + 1)) (conStep (k : Int) ((d.cons.zipIdx.take j).foldl (conStep (k : Int)) ((p.datas.zipIdx.take k).foldl consStep cons0)) (cn, j))) := Lib.hid ⟨_, o3, P1.out.1, P1.out.2⟩; have G3 := Lib.hid g3; clear o3 g3))
       clear e1 e2 z0 z1 z2
       go_roundw
       case rel => exact ⟨j + 1, by go_num, by omega, Lib.hid (below_map HBC.out G3.out (by omega)), Lib.hid (by rw [HTJ.out]; exact M3.out)⟩
       case measure => simp [intOf]; omega
     · obtain rfl : j = d.cons.length := by omega
       have HE : Hid (MapC wr mb (2 + ((p.datas.take (k + 1)).map Sx.dw).sum) ((p.datas.zipIdx.take (k + 1)).foldl consStep cons0)) := by
        have h := HM.out
        rw [show d.cons.length = d.cons.zipIdx.length from by simp, List.take_length, List.length_zipIdx] at h
        refine Lib.hid ?_
        rw [HTK.out, HSK.out]
        exact h.mono (by have := HNB.out; omega)
       clear HM
       go_wp2_with fail
       go_roundw
       case rel => exact ⟨k + 1, by go_num, by omega, HB, HE⟩
       case measure => simp [intOf]; omega
  · obtain rfl : k = p.datas.length := by omega
    go_wp2_with fail
    go_ret
    have h := HM.out
    rw [List.take_length, show p.datas.length = p.datas.zipIdx.length from by simp, List.take_length] at h
    exact ⟨mb, rfl, HB.out, by omega, h⟩
end Go.Proofs.Ytgoacbomphlhjaa
namespace Go.Proofs.Ytgoacbomphlhjaa
open Go Go.RowKit
set_option linter.unusedVariables false
set_option linter.unusedSimpArgs false
def hasN (l : List Nm) (s : Nm) : Bool := l.contains s
theorem contains_take {l : List Nm} {k : Nat} {x s : Nm} (h : l[k]? = some x) (hn : (l.take k).contains s = false) : (l.take (k + 1)).contains s = (x == s) := by
 rw [List.take_add_one, h]
 simp only [Option.toList_some, List.contains_eq_any_beq, List.any_append, List.any_cons, List.any_nil, Bool.or_false] at hn ⊢
 rw [hn, Bool.false_or, Bool.beq_comm]
theorem contains_of_take {l : List Nm} {k : Nat} {s : Nm} (h : (l.take k).contains s = true) : l.contains s = true := by
 simp only [List.contains_iff_mem] at h ⊢
 exact List.mem_of_mem_take h
set_option maxHeartbeats 1000000 in
theorem refHas_any (lv : Value) (l : List Nm) (s : Nm) (w : World) (hr : RowS w lv l) : Calls Try.prog 16 #[lv, .string ⟨s.toArray⟩] w fun e w' => e = .returned (.bool (hasN l s)) ∧ w' = w := by
 obtain ⟨q, cp, rfl⟩ := hr.len
 have HR := Lib.hid hr
 go_enter Try.func16, Try.ntmps16
 go_wp2_with fail
 go_loopw [4, 5] (fun _ i wr => ∃ k : Nat, i = .int .i64 k ∧ k ≤ l.length ∧ Hid ((l.take k).contains s = false) ∧ wr = w) (fun _ i _ => l.length - (intOf i).toNat)
 case atStart => exact ⟨0, rfl, Nat.zero_le _, Lib.hid (by simp), rfl⟩
 case round =>
  obtain ⟨k, rfl, hk, HN, rfl⟩ := hrel
  by_cases hlt : k < l.length
  · obtain ⟨x, hx⟩ : ∃ x, l[k]? = some x := ⟨_, List.getElem?_eq_getElem hlt⟩
    rcases HR.out with ⟨h0, _⟩ | ⟨g, of, c', hv, g1, g2, g3⟩
    · rw [h0] at hlt; simp at hlt
    injection hv with hq1 _ hq2
    subst hq1; subst hq2
    obtain ⟨u, hu, _, hcell⟩ := g3 k x hx
    have hu' : u = .string ⟨x.toArray⟩ := hu
    subst hu'
    have h0 := hcell 0 _ rfl
    simp only [Nat.mul_one, Nat.add_zero] at h0
    have hk1 : (k : Int) < (l.length : Int) := by omega
    have hk2 : (l.length : Int) ≤ (cp : Int) := by omega
    have HX := Lib.hid hx
    have hk3 := g2
    clear g1 g2 g3 hcell hu hx hr
    by_cases he : x = s
    · subst he
      have HC : Hid (hasN l x = true) := Lib.hid (contains_of_take (l := l) (k := k + 1) (s := x) (by rw [contains_take HX.out HN.out]; simp))
      go_wp2_with fail
      go_ret
      exact ⟨(by rw [HC.out]; rfl), rfl⟩
    · have HE := Lib.hid he
      have hne : (x == s) = false := beq_eq_false_iff_ne.2 he
      have ha : ¬ (⟨x.toArray⟩ : ByteArray) = ⟨s.toArray⟩ := arr_ne he
      clear he
      go_wp2_with fail
      go_roundw
      case rel => exact ⟨k + 1, by go_num, by omega, Lib.hid (by rw [contains_take HX.out HN.out, hne]), trivial⟩
      case measure => simp [intOf]; omega
  · obtain rfl : k = l.length := by omega
    go_wp2_with fail
    go_ret
    have := HN.out
    rw [List.take_length] at this
    exact ⟨(by rw [show hasN l s = false from this]; rfl), rfl⟩
theorem row_cell {α : Type} {rep : Value → α → Prop} {u : World} {ga : Nat} {v : Value} {T : TypeId} {fr : Nat × Nat} {x : α} (h : u.heap[ga]? = some (.cells #[v] T fr)) (hr : rep v x) (hs : v.cells = #[v]) : RowAt 1 rep u (.slice (some ⟨ga, 0, none⟩) 1 1) [x] := by
 refine .inr ⟨ga, 0, 1, rfl, Nat.le_refl _, by decide, fun i y hi => ?_⟩
 cases i with
 | zero =>
   simp at hi
   subst hi
   refine ⟨_, hr, by rw [hs]; rfl, fun j z hz => ?_⟩
   rw [show 0 + 0 * 1 + j = j from by omega]
   rw [hs] at hz
   exact ent_cell h j z hz
 | succ i => simp at hi
def patC (a0 a1 : Int) (a2 : ByteArray) (a3 : Int) (q : Option Addr) (n c : Nat) : Array Value := #[.int .i64 a0, .int .i64 a1, .string a2, .int .i64 a3, .slice q n c]
/-- What both make: the names that a pattern binds. -/
def BoundC (F : FuncId) (f : Nat) : Prop := ∀ (p : Px.Pat) (v : Value) (w : World), PatAt f w v p → Sx.pw f p ≤ 400000 → Calls Try.prog F #[v] w (RNewS w (Sx.boundP f p))
theorem appd_grow {w0 w w' : World} {B base : Nat} {v v' : Value} {l l0 : List Nm} (h : Appd encS 9 w base v l v' w') (hown : OwnS w base v l0) (hb : Below B w0 w) (h1 : B ≤ w.heap.size) (h2 : B ≤ base) : Below B w0 w' ∧ OwnS w' base v' l :=
 ⟨h.below hown hb h1 h2, h.1⟩
set_option maxHeartbeats 4000000 in
theorem refBound_step (f : Nat) (ih : BoundC 53 f) : BoundC 53 (f + 1) := by
 intro p v w hp hw
 cases p with | mk k p nm i xs =>
 obtain ⟨av, rfl, hr⟩ := hp
 obtain ⟨q, cp, rfl⟩ := hr.len
 have HR := Lib.hid hr
 have HW : Hid ((xs.map (Sx.pw f)).sum ≤ 400000) := Lib.hid (by rw [Sx.pw] at hw; omega)
 clear hr hw
 go_enter Try.func53, Try.ntmps53
 have EP := Lib.hid (ent_new w #[.int .i64 k, .int .i64 p, .string ⟨nm.toArray⟩, .int .i64 i, .slice q xs.length cp] 94)
 have HB := Lib.hid ((Below.refl w.heap.size w).alloc (Nat.le_refl _) (.cells #[.int .i64 k, .int .i64 p, .string ⟨nm.toArray⟩, .int .i64 i, .slice q xs.length cp] 94))
 have hsz : w.heap.size + 1 ≤ (w.alloc (.cells #[.int .i64 k, .int .i64 p, .string ⟨nm.toArray⟩, .int .i64 i, .slice q xs.length cp] 94)).heap.size := by simp
 go_upto_region 1 with fail
 generalize w.alloc (.cells #[.int .i64 k, .int .i64 p, .string ⟨nm.toArray⟩, .int .i64 i, .slice q xs.length cp] 94) = w1 at EP HB hsz ⊢
 have e0 := ent_cell EP.out 0 _ rfl; have e1 := ent_cell EP.out 1 _ rfl; have e2 := ent_cell EP.out 2 _ rfl; have e3 := ent_cell EP.out 3 _ rfl; have e4 := ent_cell EP.out 4 _ rfl
 by_cases hk : k = 1
 · have hki : (k : Int) = 1 := by omega
   have HN := Lib.hid (ent_new w1 #[.string ⟨nm.toArray⟩] 9)
   go_wp2_with fail
   go_ret
   refine ⟨_, rfl, HB.out.alloc (by omega) _, fun u hu => ?_⟩
   rw [Sx.boundP, if_pos hk]
   exact row_cell ((hu w1.heap.size (by omega) (by simp)).trans HN.out) rfl rfl
 · have hki : ((k : Int) == 1) = false := beq_eq_false_iff_ne.2 (by omega)
   clear e0 e1 e2 e3 e4
   have hbp : Sx.boundP (f + 1) (.mk k p nm i xs) = xs.flatMap (Sx.boundP f) := by rw [Sx.boundP, if_neg hk]
   have HBP := Lib.hid hbp
   clear hk
   have e0 := ent_cell EP.out 0 _ rfl
   go_wp2_with fail
   clear e0 hbp hki
   go_loopw [3, 4] (fun v j wr => ∃ (m : Nat) (l : List Nm), j = .int .i64 m ∧ m ≤ xs.length ∧ Hid (l = (xs.take m).flatMap (Sx.boundP f)) ∧ Hid (OwnS wr (w.heap.size + 1) v l) ∧ Hid (wr.heap[w.heap.size]? = some (.cells #[.int .i64 k, .int .i64 p, .string ⟨nm.toArray⟩, .int .i64 i, .slice q xs.length cp] 94 (0, 0))) ∧ Hid (Below w.heap.size w wr)) (fun _ j _ => xs.length - (intOf j).toNat)
   case atStart => exact ⟨0, [], rfl, Nat.zero_le _, Lib.hid (by simp), Lib.hid (World.ownsRow_nil _ _ _ _), EP, HB⟩
   case round =>
    clear EP HB hsz
    obtain ⟨m, l, rfl, hm, HLE0, HO, EP, HB⟩ := hrel
    have hs1 := ent_lt EP.out
    have e4 := ent_cell EP.out 4 _ rfl
    by_cases hlt : m < xs.length
    · obtain ⟨y, hy⟩ : ∃ y, xs[m]? = some y := ⟨_, List.getElem?_eq_getElem hlt⟩
      rcases HR.out with ⟨h0, _⟩ | ⟨g, of, c', hv, g1, g2, g3⟩
      · rw [h0] at hlt; simp at hlt
      injection hv with hq1 _ hq2
      subst hq1; subst hq2
      obtain ⟨u, hu, _, hcell⟩ := g3 m y hy
      have hu2 := patAt_below hu HB.out
      obtain ⟨a0, a1, a2, a3, uq, un, uc, rfl⟩ := patAt_sh hu
      have c0 := cell_up HB.out (hcell 0 _ rfl); have c1 := cell_up HB.out (hcell 1 _ rfl); have c2 := cell_up HB.out (hcell 2 _ rfl); have c3 := cell_up HB.out (hcell 3 _ rfl); have c4 := cell_up HB.out (hcell 4 _ rfl)
      simp only [Nat.add_zero] at c0
      have hk1 : (m : Int) < (xs.length : Int) := by omega
      have hk2 : (xs.length : Int) ≤ (cp : Int) := by omega
      have hk3 := g2
      have hst := Sx.sum_take (Sx.pw f) xs m y hy
      have HST := Lib.hid hst
      have HT := Lib.hid (Sx.flat_take (Sx.boundP f) xs m y hy)
      have HIH := Lib.hid (ih y _ wr hu2 (by have := HW.out; omega))
      obtain ⟨va, ca, rfl⟩ := own_slice HO.out
      clear g1 g2 g3 hcell hu hy hu2 hst
      go_wp2_with fail
      clear e4 c0 c1 c2 c3 c4
      refine HIH.out.mono ?_
      rintro e w2 ⟨v2, rfl, hb, hnew⟩
      have HO2 := Lib.hid (own_kept HO.out hb)
      have HN2 := Lib.hid hnew.now
      have HB2 := Lib.hid (HB.out.trans (hb.mono HB.out.size))
      have hs2 := hb.size
      replace EP := Lib.hid (ent_below EP.out hb)
      have hlen : l.length + (Sx.boundP f y).length ≤ 1000000000 := by
       rw [HLE0.out]
       have h1 := nw_len ((xs.take m).flatMap (Sx.boundP f))
       have h2 := Sx.nw_flat (Sx.boundP f) (Sx.pw f) (xs.take m) (fun x _ => Sx.nw_bound f x)
       have h3 := nw_len (Sx.boundP f y)
       have h4 := Sx.nw_bound f y
       have := HST.out; have := HW.out; omega
      have HLE := Lib.hid hlen
      clear hb hnew HIH hlen HB HO
      go_wp2_with (at_builtin; refine list_app_s rfl (.tmp 18) (.tmp 24) rfl (w.heap.size + 1) _ _ rfl HO2.out _ rfl _ HN2.out HLE.out (by omega) ?_)
      intro v3 w3 happ
      obtain ⟨p3, q3, rfl⟩ := own_slice happ.1
      obtain ⟨hb3, ho3⟩ := appd_grow happ HO2.out HB2.out (by omega) (by omega)
      have HB3 := Lib.hid hb3
      have HO3 := Lib.hid ho3
      have HT3 : Hid (l ++ Sx.boundP f y = (xs.take (m + 1)).flatMap (Sx.boundP f)) := Lib.hid (by rw [HT.out, HLE0.out])
      obtain ⟨l3, hl3⟩ : ∃ l3, l3 = l ++ Sx.boundP f y := ⟨_, rfl⟩
      rw [← hl3] at HO3 HT3 ⊢
      clear hl3
      replace EP := Lib.hid (happ.at HO2.out EP.out (by omega))
      clear happ hb3 ho3
      go_wp2
      go_roundw
      case rel => exact ⟨m + 1, l3, by go_num, by omega, HT3, HO3, EP, HB3⟩
      case measure => simp [intOf]; omega
    · obtain rfl : m = xs.length := by omega
      obtain ⟨va, ca, rfl⟩ := own_slice HO.out
      go_wp2_with fail
      go_ret
      have he := HLE0.out
      rw [List.take_length] at he
      rw [HBP.out, ← he]
      exact ⟨_, rfl, HB.out, newS_own HO.out rfl (by omega)⟩
theorem refBound_any : ∀ f, BoundC 53 f
 | 0 => fun p v w hp => hp.elim
 | f + 1 => refBound_step f (refBound_any f)
end Go.Proofs.Ytgoacbomphlhjaa
namespace Go.Proofs.Ytgoacbomphlhjaa
open Go Go.RowKit
set_option linter.unusedVariables false
set_option linter.unusedSimpArgs false
set_option maxHeartbeats 4000000 in
theorem patNames_step (f : Nat) (ih : BoundC 74 f) : BoundC 74 (f + 1) := by
 intro p v w hp hw
 cases p with | mk k p nm i xs =>
 obtain ⟨av, rfl, hr⟩ := hp
 obtain ⟨q, cp, rfl⟩ := hr.len
 have HR := Lib.hid hr
 have HW : Hid ((xs.map (Sx.pw f)).sum ≤ 400000) := Lib.hid (by rw [Sx.pw] at hw; omega)
 clear hr hw
 go_enter Try.func74, Try.ntmps74
 have EP := Lib.hid (ent_new w #[.int .i64 k, .int .i64 p, .string ⟨nm.toArray⟩, .int .i64 i, .slice q xs.length cp] 94)
 have HB := Lib.hid ((Below.refl w.heap.size w).alloc (Nat.le_refl _) (.cells #[.int .i64 k, .int .i64 p, .string ⟨nm.toArray⟩, .int .i64 i, .slice q xs.length cp] 94))
 have hsz : w.heap.size + 1 ≤ (w.alloc (.cells #[.int .i64 k, .int .i64 p, .string ⟨nm.toArray⟩, .int .i64 i, .slice q xs.length cp] 94)).heap.size := by simp
 go_upto_region 1 with fail
 generalize w.alloc (.cells #[.int .i64 k, .int .i64 p, .string ⟨nm.toArray⟩, .int .i64 i, .slice q xs.length cp] 94) = w1 at EP HB hsz ⊢
 have e0 := ent_cell EP.out 0 _ rfl; have e1 := ent_cell EP.out 1 _ rfl; have e2 := ent_cell EP.out 2 _ rfl; have e3 := ent_cell EP.out 3 _ rfl; have e4 := ent_cell EP.out 4 _ rfl
 by_cases hk : k = 1
 · have hki : (k : Int) = 1 := by omega
   have HN := Lib.hid (ent_new w1 #[.string ⟨nm.toArray⟩] 9)
   go_wp2_with fail
   go_ret
   refine ⟨_, rfl, HB.out.alloc (by omega) _, fun u hu => ?_⟩
   rw [Sx.boundP, if_pos hk]
   exact row_cell ((hu w1.heap.size (by omega) (by simp)).trans HN.out) rfl rfl
 · have hki : ((k : Int) == 1) = false := beq_eq_false_iff_ne.2 (by omega)
   clear e0 e1 e2 e3 e4
   have hbp : Sx.boundP (f + 1) (.mk k p nm i xs) = xs.flatMap (Sx.boundP f) := by rw [Sx.boundP, if_neg hk]
   have HBP := Lib.hid hbp
   clear hk
   have e0 := ent_cell EP.out 0 _ rfl; have e4 := ent_cell EP.out 4 _ rfl
   go_wp2_with fail
   clear e0 e4 hbp hki
   go_loopw [3, 5, 15] (fun v _ j wr => ∃ (m : Nat) (l : List Nm), j = .int .i64 m ∧ m ≤ xs.length ∧ Hid (l = (xs.take m).flatMap (Sx.boundP f)) ∧ Hid (OwnS wr (w.heap.size + 1) v l) ∧ Hid (wr.heap[w.heap.size]? = some (.cells #[.int .i64 k, .int .i64 p, .string ⟨nm.toArray⟩, .int .i64 i, .slice q xs.length cp] 94 (0, 0))) ∧ Hid (Below w.heap.size w wr)) (fun _ _ j _ => xs.length - (intOf j).toNat)
   case atStart => exact ⟨0, [], rfl, Nat.zero_le _, Lib.hid (by simp), Lib.hid (World.ownsRow_nil _ _ _ _), EP, HB⟩
   case round =>
    clear EP HB hsz
    obtain ⟨m, l, rfl, hm, HLE0, HO, EP, HB⟩ := hrel
    have hs1 := ent_lt EP.out
    by_cases hlt : m < xs.length
    · obtain ⟨y, hy⟩ : ∃ y, xs[m]? = some y := ⟨_, List.getElem?_eq_getElem hlt⟩
      rcases HR.out with ⟨h0, _⟩ | ⟨g, of, c', hv, g1, g2, g3⟩
      · rw [h0] at hlt; simp at hlt
      injection hv with hq1 _ hq2
      subst hq1; subst hq2
      obtain ⟨u, hu, _, hcell⟩ := g3 m y hy
      have hu2 := patAt_below hu HB.out
      obtain ⟨a0, a1, a2, a3, uq, un, uc, rfl⟩ := patAt_sh hu
      have c0 := cell_up HB.out (hcell 0 _ rfl); have c1 := cell_up HB.out (hcell 1 _ rfl); have c2 := cell_up HB.out (hcell 2 _ rfl); have c3 := cell_up HB.out (hcell 3 _ rfl); have c4 := cell_up HB.out (hcell 4 _ rfl)
      simp only [Nat.add_zero] at c0
      have hk1 : (m : Int) < (xs.length : Int) := by omega
      have hk2 : (xs.length : Int) ≤ (cp : Int) := by omega
      have hk3 := g2
      have hst := Sx.sum_take (Sx.pw f) xs m y hy
      have HST := Lib.hid hst
      have HT := Lib.hid (Sx.flat_take (Sx.boundP f) xs m y hy)
      obtain ⟨wa, hwa⟩ : ∃ wa, wa = wr.alloc (.cells #[.int .i64 a0, .int .i64 a1, .string a2, .int .i64 a3, .slice uq un uc] 94) := ⟨_, rfl⟩
      have hba : Below wr.heap.size wr wa := by rw [hwa]; exact (Below.refl _ _).alloc (Nat.le_refl _) _
      have HBA := Lib.hid hba
      have HIH := Lib.hid (ih y _ wa (patAt_below hu2 hba) (by have := HW.out; omega))
      obtain ⟨va, ca, rfl⟩ := own_slice HO.out
      clear g1 g2 g3 hcell hu hy hu2 hst
      go_wp2_with fail
      clear c0 c1 c2 c3 c4
      rw [← hwa]
      clear hwa
      replace EP := Lib.hid (ent_below EP.out hba)
      replace HO := Lib.hid (own_kept HO.out hba)
      replace HB := Lib.hid (HB.out.trans (hba.mono (by omega)))
      have hsa := hba.size
      clear hba
      refine HIH.out.mono ?_
      rintro e w2 ⟨v2, rfl, hb, hnew⟩
      have HO2 := Lib.hid (own_kept HO.out hb)
      have HN2 := Lib.hid hnew.now
      have HB2 := Lib.hid (HB.out.trans (hb.mono HB.out.size))
      have hs2 := hb.size
      replace EP := Lib.hid (ent_below EP.out hb)
      have hlen : l.length + (Sx.boundP f y).length ≤ 1000000000 := by
       rw [HLE0.out]
       have h1 := nw_len ((xs.take m).flatMap (Sx.boundP f))
       have h2 := Sx.nw_flat (Sx.boundP f) (Sx.pw f) (xs.take m) (fun x _ => Sx.nw_bound f x)
       have h3 := nw_len (Sx.boundP f y)
       have h4 := Sx.nw_bound f y
       have := HST.out; have := HW.out; omega
      have HLE := Lib.hid hlen
      clear hb hnew HIH hlen HB HO
      go_wp2_with (at_builtin; refine list_app_s rfl (.tmp 19) (.tmp 21) rfl (w.heap.size + 1) _ _ rfl HO2.out _ rfl _ HN2.out HLE.out (by omega) ?_)
      intro v3 w3 happ
      obtain ⟨p3, q3, rfl⟩ := own_slice happ.1
      obtain ⟨hb3, ho3⟩ := appd_grow happ HO2.out HB2.out (by omega) (by omega)
      have HB3 := Lib.hid hb3
      have HO3 := Lib.hid ho3
      have HT3 : Hid (l ++ Sx.boundP f y = (xs.take (m + 1)).flatMap (Sx.boundP f)) := Lib.hid (by rw [HT.out, HLE0.out])
      obtain ⟨l3, hl3⟩ : ∃ l3, l3 = l ++ Sx.boundP f y := ⟨_, rfl⟩
      rw [← hl3] at HO3 HT3 ⊢
      clear hl3
      replace EP := Lib.hid (happ.at HO2.out EP.out (by omega))
      clear happ hb3 ho3
      go_wp2
      go_roundw
      case rel => exact ⟨m + 1, l3, by go_num, by omega, HT3, HO3, EP, HB3⟩
      case measure => simp [intOf]; omega
    · obtain rfl : m = xs.length := by omega
      obtain ⟨va, ca, rfl⟩ := own_slice HO.out
      go_wp2_with fail
      go_ret
      have he := HLE0.out
      rw [List.take_length] at he
      rw [HBP.out, ← he]
      exact ⟨_, rfl, HB.out, newS_own HO.out rfl (by omega)⟩
theorem patNames_any : ∀ f, BoundC 74 f
 | 0 => fun p v w hp => hp.elim
 | f + 1 => patNames_step f (patNames_any f)
theorem take_same {l m : List Nm} {k : Nat} {x y : Nm} (hl : l[k]? = some x) (hm : m[k]? = some y) (h : l.take k = m.take k) : (x = y → l.take (k + 1) = m.take (k + 1)) ∧ (x ≠ y → l ≠ m) := by
 refine ⟨fun e => ?_, fun e h2 => ?_⟩
 · rw [List.take_add_one, List.take_add_one, hl, hm, h, e]
 · subst h2; rw [hl] at hm; exact e (Option.some.inj hm)
set_option maxHeartbeats 2000000 in
theorem refSame_any (lv mv : Value) (l m : List Nm) (w : World) (hl : RowS w lv l) (hm : RowS w mv m) : Calls Try.prog 29 #[lv, mv] w fun e w' => e = .returned (.bool (decide (l = m))) ∧ Below w.heap.size w w' := by
 obtain ⟨q, cp, rfl⟩ := hl.len
 obtain ⟨q', cp', rfl⟩ := hm.len
 have HR := Lib.hid hl; have HR' := Lib.hid hm
 clear hl hm
 go_enter Try.func29, Try.ntmps29
 by_cases hlen : l.length = m.length
 · have hz : ((l.length : Int) == (m.length : Int)) = true := by simp [hlen]
   have HLEN := Lib.hid hlen
   have hz1 : (l.length : Int) = (m.length : Int) := by omega
   clear hlen
   go_wp2_with fail
   clear hz hz1
   go_loopw [4, 5] (fun _ i wr => ∃ k : Nat, i = .int .i64 k ∧ k ≤ l.length ∧ Hid (l.take k = m.take k) ∧ Hid (Below w.heap.size w wr)) (fun _ i _ => l.length - (intOf i).toNat)
   case atStart => exact ⟨0, rfl, Nat.zero_le _, Lib.hid (by simp), Lib.hid (Below.refl _ _)⟩
   case round =>
    obtain ⟨k, rfl, hk, HN, HB⟩ := hrel
    by_cases hlt : k < l.length
    · obtain ⟨x, hx⟩ : ∃ x, l[k]? = some x := ⟨_, List.getElem?_eq_getElem hlt⟩
      obtain ⟨y, hy⟩ : ∃ y, m[k]? = some y := ⟨_, List.getElem?_eq_getElem (by have := HLEN.out; omega)⟩
      rcases HR.out with ⟨h0, _⟩ | ⟨g, of, c', hv, g1, g2, g3⟩
      · rw [h0] at hlt; simp at hlt
      injection hv with hq1 _ hq2
      subst hq1; subst hq2
      rcases HR'.out with ⟨h0, _⟩ | ⟨g', of', c'', hv, g1', g2', g3'⟩
      · rw [h0] at hy; simp at hy
      injection hv with hq1 _ hq2
      subst hq1; subst hq2
      obtain ⟨u, hu, _, hcell⟩ := g3 k x hx
      have hu' : u = .string ⟨x.toArray⟩ := hu
      subst hu'
      have h0 := cell_up HB.out (hcell 0 _ rfl)
      obtain ⟨u2, hu2, _, hcell2⟩ := g3' k y hy
      have hu2' : u2 = .string ⟨y.toArray⟩ := hu2
      subst hu2'
      have h02 := cell_up HB.out (hcell2 0 _ rfl)
      simp only [Nat.mul_one, Nat.add_zero] at h0 h02
      have hk1 : (k : Int) < (l.length : Int) := by omega
      have hk2 : (l.length : Int) ≤ (cp : Int) := by omega
      have hk3 := g2
      have hk4 : (k : Int) < (m.length : Int) := by have := HLEN.out; omega
      have hk5 : (m.length : Int) ≤ (cp' : Int) := by omega
      have HTS := Lib.hid (take_same hx hy HN.out)
      clear g1 g2 g3 g1' g2' g3' hcell hu hcell2 hu2 hx hy
      by_cases he : x = y
      · have HE := Lib.hid he
        subst he
        go_wp2_with fail
        go_quiet (fail)
        go_wp2_with fail
        go_roundw
        case rel => exact ⟨k + 1, by go_num, by omega, Lib.hid (by first | exact HTS.out.1 rfl | exact HTS.out.1 trivial), Lib.hid (below_dn HB.out _)⟩
        case measure => simp [intOf]; omega
      · have HE := Lib.hid (HTS.out.2 he)
        have ha : ¬ (⟨x.toArray⟩ : ByteArray) = ⟨y.toArray⟩ := arr_ne he
        have hb : (x == y) = false := beq_eq_false_iff_ne.2 he
        go_wp2_with fail
        go_quiet (fail)
        go_wp2_with fail
        go_ret
        exact ⟨(by rw [decide_eq_false HE.out]; rfl), below_dn HB.out _⟩
    · obtain rfl : k = l.length := by omega
      go_wp2_with fail
      go_ret
      have he : l = m := by have := HN.out; rw [List.take_length] at this; rw [this, HLEN.out, List.take_length]
      exact ⟨(by rw [decide_eq_true he]; rfl), HB.out⟩
 · have HNE := Lib.hid (show ¬ l = m from fun e => hlen (by rw [e]))
   have hz : ¬ (l.length : Int) = (m.length : Int) := by omega
   clear hlen
   go_wp2_with fail
   go_ret
   exact ⟨(by rw [decide_eq_false HNE.out]; rfl), Below.refl _ _⟩
end Go.Proofs.Ytgoacbomphlhjaa
namespace Go.Proofs.Ytgoacbomphlhjaa
open Go Go.RowKit
set_option linter.unusedVariables false
set_option linter.unusedSimpArgs false
def cnt (l : List Nm) (s : Nm) : Int := (l.count s : Int)
section
variable {σ : Type} (Inv : Nat → σ → World → Prop) (Own : σ → World → Nat → Prop) (mb : Nat) (W0 : World) (fe fp : FuncId) (e1 e2 p1 p2 : Array Value) (stepE : Nat → σ → List Nm → Px.Expr → σ) (stepP : Nat → σ → List Nm → Px.Pat → σ)
def walkS : Nat → σ → List Nm → Px.Expr → σ
 | 0, s, _, _ => s
 | f + 1, s, vars, .mk k p nm i ns xs al => al.foldl (fun s a => walkS f (stepP f s vars a.1) (vars ++ Sx.boundP f a.1) a.2) (xs.foldl (fun s y => walkS f s (vars ++ ns) y) (stepE (f + 1) s vars (.mk k p nm i ns xs al)))
/-- What stands while a walk goes on; O: what could be written when it began. -/
structure Wst (s : σ) (vars : List Nm) (n : Nat) (O : Nat → Prop) (w wr : World) : Prop where
 bel : Below W0.heap.size W0 wr
 size : w.heap.size ≤ wr.heap.size
 stay : ∀ b, b < w.heap.size → b ≠ mb → ¬ O b → wr.heap[b]? = w.heap[b]?
 own : ∀ b, Own s wr b → O b ∨ w.heap.size ≤ b
 nam : NamesC wr mb n (cnt vars)
 inv : Inv n s wr
def walkV : Value := .agg #[.map (some mb), .func (.func fe) e1 e2, .func (.func fp) p1 p2]
/-- What is asked of those that are told of parts, and of what they keep. -/
structure Told : Prop where
 keep : ∀ n n' s w w', n ≤ n' → Inv n s w → w.heap.size ≤ w'.heap.size → (∀ b, b < w.heap.size → b ≠ mb → w'.heap[b]? = w.heap[b]?) → Inv n' s w' ∧ ∀ b, Own s w' b → Own s w b
 lt : ∀ n s w b, Inv n s w → Own s w b → b < w.heap.size
 old : W0.heap.size ≤ mb
 callE : ∀ args w, (callFunc fe args).run Try.prog w = .ok (.enter fe args) w
 callP : ∀ args w, (callFunc fp args).run Try.prog w = .ok (.enter fp args) w
 expr : ∀ f x v s vars n w, ExprAt f W0 v x → vars.length + Sx.ew f x ≤ 400000 → n ≤ 100000000 → Wst Inv Own mb W0 s vars n (Own s w) w w → Calls Try.prog fe (e1.push v ++ e2) w fun e w' => e = .returned (.tuple #[]) ∧ Wst Inv Own mb W0 (stepE f s vars x) vars (n + 1) (Own s w) w w'
 pat : ∀ f x v s vars n w, PatAt f W0 v x → vars.length + Sx.pw f x ≤ 400000 → n ≤ 100000000 → Wst Inv Own mb W0 s vars n (Own s w) w w → Calls Try.prog fp (p1.push v ++ p2) w fun e w' => e = .returned (.tuple #[]) ∧ Wst Inv Own mb W0 (stepP f s vars x) vars n (Own s w) w w'
variable {Inv Own mb W0 fe fp e1 e2 p1 p2 stepE stepP}
theorem Wst.self {s : σ} {vars : List Nm} {n : Nat} {O : Nat → Prop} {w wr : World} (h : Wst Inv Own mb W0 s vars n O w wr) : Wst Inv Own mb W0 s vars n (Own s wr) wr wr := ⟨h.bel, Nat.le_refl _, fun _ _ _ _ => rfl, fun _ hb => .inl hb, h.nam, h.inv⟩
theorem Wst.then {s s' : σ} {vars vars' : List Nm} {n n' : Nat} {O : Nat → Prop} {a b c : World} (h : Wst Inv Own mb W0 s vars n O a b) (k : Wst Inv Own mb W0 s' vars' n' (Own s b) b c) : Wst Inv Own mb W0 s' vars' n' O a c :=
 ⟨k.bel, Nat.le_trans h.size k.size, fun g h1 h2 h3 => (k.stay g (Nat.lt_of_lt_of_le h1 h.size) h2 (fun e => (h.own g e).elim h3 (fun e => by omega))).trans (h.stay g h1 h2 h3),
  fun g hg => (k.own g hg).elim (fun e => h.own g e) (fun e => .inr (Nat.le_trans h.size e)), k.nam, k.inv⟩
theorem Wst.only (ht : Told Inv Own mb W0 fe fp e1 e2 p1 p2 stepE stepP) {s : σ} {vars vars' : List Nm} {n n' : Nat} {O : Nat → Prop} {w a b : World} (h : Wst Inv Own mb W0 s vars n O w a) (h1 : Below W0.heap.size W0 b) (h2 : a.heap.size ≤ b.heap.size) (h3 : ∀ g, g < a.heap.size → g ≠ mb → b.heap[g]? = a.heap[g]?)
 (hn : NamesC b mb n' (cnt vars')) (hnn : n ≤ n') : Wst Inv Own mb W0 s vars' n' O w b :=
 ⟨h1, Nat.le_trans h.size h2, fun g k1 k2 k3 => (h3 g (Nat.lt_of_lt_of_le k1 h.size) k2).trans (h.stay g k1 k2 k3), fun g hg => h.own g ((ht.keep n n' s a b hnn h.inv h2 h3).2 g hg), hn, (ht.keep n n' s a b hnn h.inv h2 h3).1⟩
theorem Wst.below (ht : Told Inv Own mb W0 fe fp e1 e2 p1 p2 stepE stepP) {s : σ} {vars : List Nm} {n : Nat} {O : Nat → Prop} {w a b : World} (h : Wst Inv Own mb W0 s vars n O w a) (hb : Below a.heap.size a b) : Wst Inv Own mb W0 s vars n O w b :=
 h.only ht (h.bel.trans (hb.mono h.bel.size)) hb.size (fun g hg _ => hb.block g hg) (h.nam.below hb) (Nat.le_refl _)
theorem Wst.map (ht : Told Inv Own mb W0 fe fp e1 e2 p1 p2 stepE stepP) {s : σ} {vars vars' : List Nm} {n n' : Nat} {O : Nat → Prop} {w a b : World} (h : Wst Inv Own mb W0 s vars n O w a) (hg : a.grownBy b (some mb)) (hn : NamesC b mb n' (cnt vars')) (hnn : n ≤ n') : Wst Inv Own mb W0 s vars' n' O w b :=
 h.only ht (h.bel.trans ⟨hg.os, hg.tape, hg.output, hg.size, fun g hb => hg.block g (by have := h.bel.size; omega) (fun e => by have := Option.some.inj e; have := ht.old; omega)⟩) hg.size (fun g h1 h2 => hg.block g h1 (fun e => h2 (Option.some.inj e))) hn hnn
/-- What was made since. -/
theorem Wst.new (ht : Told Inv Own mb W0 fe fp e1 e2 p1 p2 stepE stepP) {s : σ} {vars : List Nm} {n : Nat} {O : Nat → Prop} {w a b : World} (h : Wst Inv Own mb W0 s vars n O w a) (hb : Below a.heap.size a b) (g : Nat) (hg : a.heap.size ≤ g) : g ≠ mb ∧ ¬ Own s b g :=
 ⟨fun e => by have := h.nam.lt; omega, fun e => by have := ht.lt n s a g h.inv ((ht.keep n n s a b (Nat.le_refl _) h.inv hb.size (fun g hg _ => hb.block g hg)).2 g e); omega⟩
theorem Wst.at {s : σ} {vars : List Nm} {n : Nat} {O : Nat → Prop} {w wr : World} (h : Wst Inv Own mb W0 s vars n O w wr) {g : Nat} {o : Obj} (e : w.heap[g]? = some o) (hg : g ≠ mb ∧ ¬ O g) : wr.heap[g]? = some o := (h.stay g (ent_lt e) hg.1 hg.2).trans e
theorem Wst.mono (ht : Told Inv Own mb W0 fe fp e1 e2 p1 p2 stepE stepP) {s : σ} {vars : List Nm} {n n' : Nat} {O : Nat → Prop} {w wr : World} (h : Wst Inv Own mb W0 s vars n O w wr) (hn : n ≤ n') : Wst Inv Own mb W0 s vars n' O w wr := { h with nam := h.nam.mono hn, inv := (ht.keep n n' s wr wr hn h.inv (Nat.le_refl _) (fun _ _ _ => rfl)).1 }
/-- A block of the walk's own. -/
def Loc (Own : σ → World → Nat → Prop) (mb : Nat) (s : σ) (a : World) (g : Nat) : Prop := g < a.heap.size ∧ g ≠ mb ∧ ¬ Own s a g
theorem Loc.step {s s' : σ} {vars : List Nm} {n : Nat} {a b : World} {g : Nat} (h : Loc Own mb s a g) (k : Wst Inv Own mb W0 s' vars n (Own s a) a b) : Loc Own mb s' b g :=
 ⟨Nat.lt_of_lt_of_le h.1 k.size, h.2.1, fun e => (k.own g e).elim h.2.2 (fun e => by have := h.1; omega)⟩
/-- A row that was made in blocks of the walk's own. -/
def KRow (Own : σ → World → Nat → Prop) (mb : Nat) (lo hi : Nat) (v : Value) (l : List Nm) (s : σ) (a : World) : Prop :=
 (∀ u : World, (∀ g, lo ≤ g → g < hi → u.heap[g]? = a.heap[g]?) → RowS u v l) ∧ ∀ g, lo ≤ g → g < hi → Loc Own mb s a g
theorem KRow.step {s s' : σ} {vars : List Nm} {n : Nat} {a b : World} {lo hi : Nat} {v : Value} {l : List Nm} (h : KRow Own mb lo hi v l s a) (k : Wst Inv Own mb W0 s' vars n (Own s a) a b) : KRow Own mb lo hi v l s' b :=
 ⟨fun u hu => h.1 u fun g h1 h2 => (hu g h1 h2).trans (k.stay g (h.2 g h1 h2).1 (h.2 g h1 h2).2.1 (h.2 g h1 h2).2.2), fun g h1 h2 => (h.2 g h1 h2).step k⟩
theorem KRow.row {s : σ} {a : World} {lo hi : Nat} {v : Value} {l : List Nm} (h : KRow Own mb lo hi v l s a) : RowS a v l := h.1 a fun _ _ _ => rfl
theorem sum_two {α : Type} (g : α → Nat) : ∀ l : List α, (l.map fun y => 2 * g y).sum = 2 * (l.map g).sum
 | [] => rfl
 | a :: r => by rw [List.map_cons, List.sum_cons, List.map_cons, List.sum_cons, sum_two g r, Nat.mul_add]
theorem cnt_small {l : List Nm} (h : l.length ≤ 500000) : ∀ s, -500000000 ≤ cnt l s ∧ cnt l s ≤ 500000000 := fun s => by
 have := List.count_le_length (a := s) (l := l)
 unfold cnt; omega
theorem cnt_add (a b : List Nm) (s : Nm) : bumps (cnt a) 1 b s = cnt (a ++ b) s := by rw [bumps_count]; unfold cnt; rw [List.count_append]; push_cast; omega
theorem cnt_drop (a b : List Nm) (s : Nm) : bumps (cnt (a ++ b)) (-1) b s = cnt a s := by rw [bumps_count]; unfold cnt; rw [List.count_append]; push_cast; omega
theorem Wst.added (ht : Told Inv Own mb W0 fe fp e1 e2 p1 p2 stepE stepP) {s : σ} {vars l : List Nm} {n : Nat} {O : Nat → Prop} {w a : World} {lv : Value} (h : Wst Inv Own mb W0 s vars n O w a) (hr : RowS a lv l) (hl : vars.length + nw l ≤ 400000) (hn : n ≤ 500000000) :
 Calls Try.prog 61 #[.map (some mb), lv] a fun e b => e = .returned (.bool (addsB (cnt vars) l)) ∧ Wst Inv Own mb W0 s (vars ++ l) (n + l.length) (Own s a) a b :=
 (addAll_any a mb n (cnt vars) lv l h.nam hr (by omega) (cnt_small (by omega)) hn).mono fun e b he => ⟨he.1, h.self.map ht he.2.1 (he.2.2.cong (cnt_add vars l)) (by omega)⟩
theorem Wst.dropped (ht : Told Inv Own mb W0 fe fp e1 e2 p1 p2 stepE stepP) {s : σ} {vars l : List Nm} {n : Nat} {O : Nat → Prop} {w a : World} {lv : Value} (h : Wst Inv Own mb W0 s (vars ++ l) n O w a) (hr : RowS a lv l) (hl : vars.length + nw l ≤ 400000) (hn : n ≤ 500000000) :
 Calls Try.prog 62 #[.map (some mb), lv] a fun e b => e = .returned (.tuple #[]) ∧ Wst Inv Own mb W0 s vars (n + l.length) (Own s a) a b :=
 (dropAll_any a mb n (cnt (vars ++ l)) lv l h.nam hr (by omega) (cnt_small (by rw [List.length_append]; have := nw_len l; omega)) hn).mono fun e b he => ⟨he.1, h.self.map ht he.2.1 (he.2.2.cong (cnt_drop vars l)) (by omega)⟩
/-- walk's contract. -/
def WalkC (Inv : Nat → σ → World → Prop) (Own : σ → World → Nat → Prop) (mb : Nat) (W0 : World) (fe fp : FuncId) (e1 e2 p1 p2 : Array Value) (stepE : Nat → σ → List Nm → Px.Expr → σ) (stepP : Nat → σ → List Nm → Px.Pat → σ) (f : Nat) : Prop :=
 ∀ x v s vars n w, ExprAt f W0 v x → vars.length + Sx.ew f x ≤ 400000 → n + 2 * Sx.ew f x ≤ 100000000 → Wst Inv Own mb W0 s vars n (Own s w) w w →
  Calls Try.prog 35 #[walkV mb fe fp e1 e2 p1 p2, v] w fun e w' => e = .returned (.tuple #[]) ∧ Wst Inv Own mb W0 (walkS stepE stepP f s vars x) vars (n + 2 * Sx.ew f x) (Own s w) w w'
set_option maxHeartbeats 4000000 in
theorem alt_step (ht : Told Inv Own mb W0 fe fp e1 e2 p1 p2 stepE stepP) (f : Nat) (ih : WalkC Inv Own mb W0 fe fp e1 e2 p1 p2 stepE stepP f) (pt : Px.Pat) (ey : Px.Expr) (a0 a1 a2 a3 a4 b0 b1 b2 b3 b4 b5 b6 : Value) (s : σ) (vars : List Nm) (n : Nat) (w : World)
 (hp : PatAt f W0 (.agg #[a0, a1, a2, a3, a4]) pt) (he : ExprAt f W0 (.agg #[b0, b1, b2, b3, b4, b5, b6]) ey) (hw : vars.length + Sx.pw f pt + Sx.ew f ey ≤ 400000) (hn : n + 2 * (Sx.pw f pt + Sx.ew f ey) ≤ 100000000) (h : Wst Inv Own mb W0 s vars n (Own s w) w w) :
 Calls Try.prog 63 #[walkV mb fe fp e1 e2 p1 p2, .agg #[a0, a1, a2, a3, a4, b0, b1, b2, b3, b4, b5, b6]] w fun e w' => e = .returned (.tuple #[]) ∧ Wst Inv Own mb W0 (walkS stepE stepP f (stepP f s vars pt) (vars ++ Sx.boundP f pt) ey) vars (n + 2 * (Sx.pw f pt + Sx.ew f ey)) (Own s w) w w' := by
 have HP := Lib.hid hp; have HE := Lib.hid he; have HI := Lib.hid ih; have HT := Lib.hid ht
 have hcp := ht.callP
 have hbn := Sx.nw_bound f pt
 have hbl : (Sx.boundP f pt).length ≤ nw (Sx.boundP f pt) := nw_len _
 have H0 := Lib.hid h
 clear hp he ih ht h
 unfold walkV at *
 go_enter Try.func63, Try.ntmps63
 obtain ⟨ew, ea, hb, hsz⟩ := ent2 w #[.map (some mb), .func (.func fe) e1 e2, .func (.func fp) p1 p2] #[a0, a1, a2, a3, a4, b0, b1, b2, b3, b4, b5, b6] 101 96
 go_upto_region 1 with fail
 have H1 := Lib.hid (H0.out.below HT.out hb)
 have HNW := Lib.hid (fun g (hg : w.heap.size ≤ g) => H0.out.new HT.out hb g hg)
 have HBA := Lib.hid hb
 generalize (w.alloc (.cells #[.map (some mb), .func (.func fe) e1 e2, .func (.func fp) p1 p2] 101)).alloc (.cells #[a0, a1, a2, a3, a4, b0, b1, b2, b3, b4, b5, b6] 96) = w1 at *
 have EW := Lib.hid ew; have EA := Lib.hid ea
 clear ew ea hb
 have w0 := ent_cell EW.out 0 _ rfl; have w1' := ent_cell EW.out 1 _ rfl; have w2' := ent_cell EW.out 2 _ rfl
 have x0 := ent_cell EA.out 0 _ rfl; have x1 := ent_cell EA.out 1 _ rfl; have x2 := ent_cell EA.out 2 _ rfl; have x3 := ent_cell EA.out 3 _ rfl; have x4 := ent_cell EA.out 4 _ rfl
 have LA : Hid (Loc Own mb s w1 (w.heap.size + 1)) := Lib.hid ⟨ent_lt EA.out, HNW.out _ (by omega)⟩
 have LW : Hid (Loc Own mb s w1 w.heap.size) := Lib.hid ⟨ent_lt EW.out, HNW.out _ (Nat.le_refl _)⟩
 have H := H1
 clear HNW H1
 go_wp2_with fail
 clear w0 w1' w2'
 clear x0 x1 x2 x3 x4
 refine (HT.out.pat f pt _ s vars n w1 HP.out (by omega) (by omega) H.out.self).mono ?_
 rintro e w2 ⟨rfl, k⟩
 replace EA := Lib.hid (k.at EA.out LA.out.2); replace EW := Lib.hid (k.at EW.out LW.out.2)
 replace LA := Lib.hid (LA.out.step k); replace LW := Lib.hid (LW.out.step k); replace H := Lib.hid (H.out.then k)
 clear k
 have x0 := ent_cell EA.out 0 _ rfl; have x1 := ent_cell EA.out 1 _ rfl; have x2 := ent_cell EA.out 2 _ rfl; have x3 := ent_cell EA.out 3 _ rfl; have x4 := ent_cell EA.out 4 _ rfl
 go_wp2_with fail
 clear x0 x1 x2 x3 x4
 refine (patNames_any f pt _ w2 (patAt_below HP.out H.out.bel) (by omega)).mono ?_
 rintro e w3 ⟨v3, rfl, hb3, hnew3⟩
 have k := H.out.self.below HT.out hb3
 have KR : Hid (KRow Own mb w2.heap.size w3.heap.size v3 (Sx.boundP f pt) (stepP f s vars pt) w3) := Lib.hid ⟨hnew3, fun g h1 h2 => ⟨h2, H.out.new HT.out hb3 g h1⟩⟩
 clear hb3 hnew3
 replace EA := Lib.hid (k.at EA.out LA.out.2); replace EW := Lib.hid (k.at EW.out LW.out.2)
 replace LA := Lib.hid (LA.out.step k); replace LW := Lib.hid (LW.out.step k); replace H := Lib.hid (H.out.then k)
 clear k
 have w0 := ent_cell EW.out 0 _ rfl; have w1' := ent_cell EW.out 1 _ rfl; have w2' := ent_cell EW.out 2 _ rfl
 go_wp2_with fail
 clear w0 w1' w2'
 refine (H.out.added HT.out KR.out.row (by omega) (by omega)).mono ?_
 rintro e w4 ⟨rfl, k⟩
 replace EA := Lib.hid (k.at EA.out LA.out.2); replace EW := Lib.hid (k.at EW.out LW.out.2)
 replace LA := Lib.hid (LA.out.step k); replace LW := Lib.hid (LW.out.step k); replace H := Lib.hid (H.out.then k)
 replace KR := Lib.hid (KR.out.step k)
 clear k
 have w0 := ent_cell EW.out 0 _ rfl; have w1' := ent_cell EW.out 1 _ rfl; have w2' := ent_cell EW.out 2 _ rfl
 have x5 := ent_cell EA.out 5 _ rfl; have x6 := ent_cell EA.out 6 _ rfl; have x7 := ent_cell EA.out 7 _ rfl; have x8 := ent_cell EA.out 8 _ rfl; have x9 := ent_cell EA.out 9 _ rfl; have x10 := ent_cell EA.out 10 _ rfl; have x11 := ent_cell EA.out 11 _ rfl
 go_wp2_with fail
 clear w0 w1' w2'
 clear x5 x6 x7 x8 x9 x10 x11
 refine (HI.out ey _ _ (vars ++ Sx.boundP f pt) (n + (Sx.boundP f pt).length) w4 HE.out (by rw [List.length_append]; omega) (by omega) H.out.self).mono ?_
 rintro e w5 ⟨rfl, k⟩
 replace EA := Lib.hid (k.at EA.out LA.out.2); replace EW := Lib.hid (k.at EW.out LW.out.2)
 replace LA := Lib.hid (LA.out.step k); replace LW := Lib.hid (LW.out.step k); replace H := Lib.hid (H.out.then k)
 replace KR := Lib.hid (KR.out.step k)
 clear k
 have w0 := ent_cell EW.out 0 _ rfl; have w1' := ent_cell EW.out 1 _ rfl; have w2' := ent_cell EW.out 2 _ rfl
 go_wp2_with fail
 clear w0 w1' w2'
 refine (H.out.dropped HT.out KR.out.row (by omega) (by omega)).mono ?_
 rintro e w6 ⟨rfl, k⟩
 replace H := Lib.hid (H.out.then k)
 clear k
 go_wp2_with fail
 refine bodyPost_end (v := .tuple #[]) (by simp [results, Try.results63, go_sem]) rfl ?_
 exact ⟨rfl, H.out.mono HT.out (by omega)⟩
set_option maxHeartbeats 8000000 in
set_option maxRecDepth 100000 in
theorem walk_step (ht : Told Inv Own mb W0 fe fp e1 e2 p1 p2 stepE stepP) (f : Nat) (ih : WalkC Inv Own mb W0 fe fp e1 e2 p1 p2 stepE stepP f) : WalkC Inv Own mb W0 fe fp e1 e2 p1 p2 stepE stepP (f + 1) := by
 intro x v s vars n w hx hw hn h
 have HXX := Lib.hid hx
 have hcp := ht.callE
 have HT := Lib.hid ht; have HI := Lib.hid ih
 have HAL := Lib.hid (alt_step ht f ih)
 have H0 := Lib.hid h
 cases x with | mk kd p nm i ns xs al =>
 obtain ⟨nv, xv, av, rfl, h1, h2, h3⟩ := hx
 obtain ⟨q1, c1, rfl⟩ := h1.len
 obtain ⟨q2, c2, rfl⟩ := h2.len
 obtain ⟨q3, c3, rfl⟩ := h3.len
 have HR1 := Lib.hid h1; have HR2 := Lib.hid h2; have HR3 := Lib.hid h3
 have hew : Sx.ew (f + 1) (.mk kd p nm i ns xs al) = 1 + nm.length + nw ns + (xs.map (Sx.ew f)).sum + (al.map fun a => Sx.pw f a.1 + Sx.ew f a.2).sum := by rw [Sx.ew]
 have hx2 : (xs.map fun y => 2 * Sx.ew f y).sum = 2 * (xs.map (Sx.ew f)).sum := sum_two (Sx.ew f) xs
 have ha2 : (al.map fun a : Px.Pat × Px.Expr => 2 * (Sx.pw f a.1 + Sx.ew f a.2)).sum = 2 * (al.map fun a => Sx.pw f a.1 + Sx.ew f a.2).sum := sum_two (fun a : Px.Pat × Px.Expr => Sx.pw f a.1 + Sx.ew f a.2) al
 have hnl := nw_len ns
 have HBW : Hid (vars.length + nw ns + (xs.map (Sx.ew f)).sum + (al.map fun a => Sx.pw f a.1 + Sx.ew f a.2).sum ≤ 400000 ∧ n + 2 + 2 * nw ns + (xs.map fun y => 2 * Sx.ew f y).sum + (al.map fun a : Px.Pat × Px.Expr => 2 * (Sx.pw f a.1 + Sx.ew f a.2)).sum ≤ 100000000 ∧ (xs.map fun y => 2 * Sx.ew f y).sum = 2 * (xs.map (Sx.ew f)).sum ∧ (al.map fun a : Px.Pat × Px.Expr => 2 * (Sx.pw f a.1 + Sx.ew f a.2)).sum = 2 * (al.map fun a => Sx.pw f a.1 + Sx.ew f a.2).sum) := Lib.hid (by omega)
 have HEW := Lib.hid hew; have HX2 := Lib.hid hx2; have HA2 := Lib.hid ha2; have HWW := Lib.hid hw
 have hnl4 : nw ns ≤ 400000 := by omega
 have hvl4 : vars.length ≤ 400000 := by omega
 have hnn4 : n ≤ 100000000 := by omega
 have hvn4 : vars.length + nw ns ≤ 400000 := by omega
 clear h1 h2 h3 hew hx2 ha2 ht ih h hw hn
 unfold walkV at *
 go_enter Try.func35, Try.ntmps35
 obtain ⟨ew, ea, hb, hsz⟩ := ent2 w #[.map (some mb), .func (.func fe) e1 e2, .func (.func fp) p1 p2] #[.int .i64 kd, .int .i64 p, .string ⟨nm.toArray⟩, .int .i64 i, .slice q1 ns.length c1, .slice q2 xs.length c2, .slice q3 al.length c3] 101 53
 go_upto_region 1 with fail
 have H1 := Lib.hid (H0.out.below HT.out hb)
 have HNW := Lib.hid (fun g (hg : w.heap.size ≤ g) => H0.out.new HT.out hb g hg)
 generalize (w.alloc (.cells #[.map (some mb), .func (.func fe) e1 e2, .func (.func fp) p1 p2] 101)).alloc (.cells #[.int .i64 kd, .int .i64 p, .string ⟨nm.toArray⟩, .int .i64 i, .slice q1 ns.length c1, .slice q2 xs.length c2, .slice q3 al.length c3] 53) = w1 at *
 have EW := Lib.hid ew; have EX := Lib.hid ea
 clear ew ea hb
 have LX : Hid (Loc Own mb s w1 (w.heap.size + 1)) := Lib.hid ⟨ent_lt EX.out, HNW.out _ (by omega)⟩
 have LW : Hid (Loc Own mb s w1 w.heap.size) := Lib.hid ⟨ent_lt EW.out, HNW.out _ (Nat.le_refl _)⟩
 have H := H1
 clear HNW H1
 have w0 := ent_cell EW.out 0 _ rfl; have w1' := ent_cell EW.out 1 _ rfl; have w2' := ent_cell EW.out 2 _ rfl
 have x0 := ent_cell EX.out 0 _ rfl; have x1 := ent_cell EX.out 1 _ rfl; have x2 := ent_cell EX.out 2 _ rfl; have x3 := ent_cell EX.out 3 _ rfl; have x4 := ent_cell EX.out 4 _ rfl; have x5 := ent_cell EX.out 5 _ rfl; have x6 := ent_cell EX.out 6 _ rfl
 go_wp2_with fail
 clear w0 w1' w2'
 clear x0 x1 x2 x3 x4 x5 x6
 refine (HT.out.expr (f + 1) _ _ s vars n w1 HXX.out HWW.out hnn4 H.out.self).mono ?_
 rintro e w2 ⟨rfl, k⟩
 replace EX := Lib.hid (k.at EX.out LX.out.2); replace EW := Lib.hid (k.at EW.out LW.out.2)
 replace LX := Lib.hid (LX.out.step k); replace LW := Lib.hid (LW.out.step k); replace H := Lib.hid (H.out.then k)
 clear k
 have w0 := ent_cell EW.out 0 _ rfl; have w1' := ent_cell EW.out 1 _ rfl; have w2' := ent_cell EW.out 2 _ rfl
 have x4 := ent_cell EX.out 4 _ rfl
 go_wp2_with fail
 clear w0 w1' w2'
 clear x4
 refine (H.out.added HT.out (rowS_below HR1.out H.out.bel) (by omega) (by omega)).mono ?_
 rintro e w3 ⟨rfl, k⟩
 replace EX := Lib.hid (k.at EX.out LX.out.2); replace EW := Lib.hid (k.at EW.out LW.out.2)
 replace LX := Lib.hid (LX.out.step k); replace LW := Lib.hid (LW.out.step k); replace H := Lib.hid (H.out.then k)
 clear k
 have x5 := ent_cell EX.out 5 _ rfl
 go_wp2_with fail
 clear x5
 obtain ⟨sb, hsb⟩ : ∃ sb, sb = stepE (f + 1) s vars (.mk kd p nm i ns xs al) := ⟨_, rfl⟩
 rw [← hsb] at H LX LW
 have HSB := Lib.hid hsb
 obtain ⟨nb, hnb⟩ : ∃ nb, nb = n + 1 + ns.length := ⟨_, rfl⟩
 rw [← hnb] at H
 clear hsb
 go_loopw [5, 20] (fun _ j wr => ∃ m : Nat, j = .int .i64 m ∧ m ≤ xs.length ∧ Hid (Wst Inv Own mb W0 ((xs.take m).foldl (fun s y => walkS stepE stepP f s (vars ++ ns) y) sb) (vars ++ ns) (nb + ((xs.take m).map (fun y : Px.Expr => 2 * Sx.ew f y)).sum) (Own s w) w wr) ∧ Hid (wr.heap[w.heap.size]? = some (.cells #[.map (some mb), .func (.func fe) e1 e2, .func (.func fp) p1 p2] 101 (0, 0))) ∧ Hid (wr.heap[w.heap.size + 1]? = some (.cells #[.int .i64 kd, .int .i64 p, .string ⟨nm.toArray⟩, .int .i64 i, .slice q1 ns.length c1, .slice q2 xs.length c2, .slice q3 al.length c3] 53 (0, 0))) ∧ Hid (Loc Own mb ((xs.take m).foldl (fun s y => walkS stepE stepP f s (vars ++ ns) y) sb) wr w.heap.size) ∧ Hid (Loc Own mb ((xs.take m).foldl (fun s y => walkS stepE stepP f s (vars ++ ns) y) sb) wr (w.heap.size + 1))) (fun _ j _ => xs.length - (intOf j).toNat)
 case atStart => exact ⟨0, rfl, Nat.zero_le _, Lib.hid (by simpa using H.out), EW, EX, Lib.hid (by simpa using LW.out), Lib.hid (by simpa using LX.out)⟩
 case round =>
  clear H EW EX LW LX
  obtain ⟨m, rfl, hm, H, EW, EX, LW, LX⟩ := hrel
  by_cases hlt : m < xs.length
  · obtain ⟨y, hy⟩ : ∃ y, xs[m]? = some y := ⟨_, List.getElem?_eq_getElem hlt⟩
    rcases HR2.out with ⟨h0, _⟩ | ⟨g, of, c', hv, g1, g2, g3⟩
    · rw [h0] at hlt; simp at hlt
    injection hv with hq1 _ hq2
    subst hq1; subst hq2
    obtain ⟨u, hu, _, hcell⟩ := g3 m y hy
    obtain ⟨z0, z1, z2, z3, zq1, zn1, zc1, zq2, zn2, zc2, zq3, zn3, zc3, rfl⟩ := exprAt_sh hu
    have d0 := cell_up H.out.bel (hcell 0 _ rfl)
    have d1 := cell_up H.out.bel (hcell 1 _ rfl)
    have d2 := cell_up H.out.bel (hcell 2 _ rfl)
    have d3 := cell_up H.out.bel (hcell 3 _ rfl)
    have d4 := cell_up H.out.bel (hcell 4 _ rfl)
    have d5 := cell_up H.out.bel (hcell 5 _ rfl)
    have d6 := cell_up H.out.bel (hcell 6 _ rfl)
    simp only [Nat.add_zero] at d0
    have hk1 : (m : Int) < (xs.length : Int) := by omega
    have hk2 : (xs.length : Int) ≤ (c2 : Int) := by omega
    have hk3 := g2
    have hst := Sx.sum_take (fun y : Px.Expr => 2 * Sx.ew f y) xs m y hy
    have htk : xs.take (m + 1) = xs.take m ++ [y] := by rw [List.take_add_one, hy]; rfl
    have HTK := Lib.hid htk
    have hbw := HBW.out
    try dsimp only at hst
    have HST := Lib.hid hst; have HBV := Lib.hid hbw
    clear g1 g2 g3 hcell hy htk hst hbw
    have w0 := ent_cell EW.out 0 _ rfl; have w1' := ent_cell EW.out 1 _ rfl; have w2' := ent_cell EW.out 2 _ rfl
    have ew2 := ent_alloc EW.out (.cells #[.int .i64 z0, .int .i64 z1, .string z2, .int .i64 z3, .slice zq1 zn1 zc1, .slice zq2 zn2 zc2, .slice zq3 zn3 zc3] 53)
    have v0 := ent_cell ew2 0 _ rfl; have v1 := ent_cell ew2 1 _ rfl; have v2 := ent_cell ew2 2 _ rfl
    go_wp2_with fail
    clear ew2 v0 v1 v2
    clear w0 w1' w2'
    clear d0 d1 d2 d3 d4 d5 d6
    have hba : Below wr.heap.size wr (wr.alloc (.cells #[.int .i64 z0, .int .i64 z1, .string z2, .int .i64 z3, .slice zq1 zn1 zc1, .slice zq2 zn2 zc2, .slice zq3 zn3 zc3] 53)) := (Below.refl _ _).alloc (Nat.le_refl _) _
    have k := H.out.self.below HT.out hba
    generalize wr.alloc (.cells #[.int .i64 z0, .int .i64 z1, .string z2, .int .i64 z3, .slice zq1 zn1 zc1, .slice zq2 zn2 zc2, .slice zq3 zn3 zc3] 53) = wa at k ⊢
    clear hba
    replace EX := Lib.hid (k.at EX.out LX.out.2); replace EW := Lib.hid (k.at EW.out LW.out.2)
    replace LX := Lib.hid (LX.out.step k); replace LW := Lib.hid (LW.out.step k); replace H := Lib.hid (H.out.then k)
    clear k
    have hst := HST.out; have hbw := HBV.out
    refine (HI.out y _ _ (vars ++ ns) _ wa hu (by rw [List.length_append]; omega) (by omega) H.out.self).mono ?_
    rintro e w5 ⟨rfl, k⟩
    replace EX := Lib.hid (k.at EX.out LX.out.2); replace EW := Lib.hid (k.at EW.out LW.out.2)
    replace LX := Lib.hid (LX.out.step k); replace LW := Lib.hid (LW.out.step k); replace H := Lib.hid (H.out.then k)
    clear k
    clear hst hbw
    go_wp2_with fail
    go_roundw
    case rel => exact ⟨m + 1, by go_num, by omega, Lib.hid (by rw [HTK.out, List.foldl_append, List.map_append, List.sum_append]; exact H.out.mono HT.out (by simp; omega)), EW, EX, Lib.hid (by rw [HTK.out, List.foldl_append]; exact LW.out), Lib.hid (by rw [HTK.out, List.foldl_append]; exact LX.out)⟩
    case measure => simp [intOf]; omega
  · obtain rfl : m = xs.length := by omega
    rw [List.take_length] at H LX LW
    have w0 := ent_cell EW.out 0 _ rfl; have w1' := ent_cell EW.out 1 _ rfl; have w2' := ent_cell EW.out 2 _ rfl
    have x4 := ent_cell EX.out 4 _ rfl
    go_wp2_with fail
    clear w0 w1' w2'
    clear x4
    have hbw := HBW.out
    refine (H.out.dropped HT.out (rowS_below HR1.out H.out.bel) (by omega) (by omega)).mono ?_
    rintro e w6 ⟨rfl, k⟩
    replace EX := Lib.hid (k.at EX.out LX.out.2); replace EW := Lib.hid (k.at EW.out LW.out.2)
    replace LX := Lib.hid (LX.out.step k); replace LW := Lib.hid (LW.out.step k); replace H := Lib.hid (H.out.then k)
    clear k
    have x6 := ent_cell EX.out 6 _ rfl
    go_wp2_with fail
    clear x6
    obtain ⟨sd, hsd⟩ : ∃ sd, sd = xs.foldl (fun s y => walkS stepE stepP f s (vars ++ ns) y) sb := ⟨_, rfl⟩
    rw [← hsd] at H LX LW
    obtain ⟨nd, hnd⟩ : ∃ nd, nd = nb + (xs.map fun y => 2 * Sx.ew f y).sum + ns.length := ⟨_, rfl⟩
    rw [← hnd] at H
    have HSD : Hid (sd = xs.foldl (fun s y => walkS stepE stepP f s (vars ++ ns) y) (stepE (f + 1) s vars (.mk kd p nm i ns xs al))) := Lib.hid (by rw [hsd, HSB.out])
    clear hsd hbw HSB
    obtain ⟨wz, hwz⟩ : ∃ x, x = wr := ⟨wr, rfl⟩
    subst hwz
    go_loopw [7, 36] (fun _ j wr => ∃ m : Nat, j = .int .i64 m ∧ m ≤ al.length ∧ Hid (Wst Inv Own mb W0 ((al.take m).foldl (fun s (a : Px.Pat × Px.Expr) => walkS stepE stepP f (stepP f s vars a.1) (vars ++ Sx.boundP f a.1) a.2) sd) vars (nd + ((al.take m).map (fun a : Px.Pat × Px.Expr => 2 * (Sx.pw f a.1 + Sx.ew f a.2))).sum) (Own s w) w wr) ∧ Hid (wr.heap[w.heap.size]? = some (.cells #[.map (some mb), .func (.func fe) e1 e2, .func (.func fp) p1 p2] 101 (0, 0))) ∧ Hid (wr.heap[w.heap.size + 1]? = some (.cells #[.int .i64 kd, .int .i64 p, .string ⟨nm.toArray⟩, .int .i64 i, .slice q1 ns.length c1, .slice q2 xs.length c2, .slice q3 al.length c3] 53 (0, 0))) ∧ Hid (Loc Own mb ((al.take m).foldl (fun s (a : Px.Pat × Px.Expr) => walkS stepE stepP f (stepP f s vars a.1) (vars ++ Sx.boundP f a.1) a.2) sd) wr w.heap.size) ∧ Hid (Loc Own mb ((al.take m).foldl (fun s (a : Px.Pat × Px.Expr) => walkS stepE stepP f (stepP f s vars a.1) (vars ++ Sx.boundP f a.1) a.2) sd) wr (w.heap.size + 1))) (fun _ j _ => al.length - (intOf j).toNat)
    case atStart => exact ⟨0, rfl, Nat.zero_le _, Lib.hid (by simpa using H.out), EW, EX, Lib.hid (by simpa using LW.out), Lib.hid (by simpa using LX.out)⟩
    case round =>
     clear H EW EX LW LX
     obtain ⟨m, rfl, hm, H, EW, EX, LW, LX⟩ := hrel
     by_cases hlt : m < al.length
     · obtain ⟨y, hy⟩ : ∃ y, al[m]? = some y := ⟨_, List.getElem?_eq_getElem hlt⟩
       rcases HR3.out with ⟨h0, _⟩ | ⟨g, of, c', hv, g1, g2, g3⟩
       · rw [h0] at hlt; simp at hlt
       injection hv with hq1 _ hq2
       subst hq1; subst hq2
       obtain ⟨u, hu, _, hcell⟩ := g3 m y hy
       obtain ⟨a0, a1, a2, a3, a4, b0, b1, b2, b3, b4, b5, b6, rfl, hpu, heu⟩ := hu
       obtain ⟨z0, z1, z2, z3, zq, zn, zc, hz⟩ := patAt_sh hpu
       obtain ⟨y0, y1, y2, y3, yq1, yn1, yc1, yq2, yn2, yc2, yq3, yn3, yc3, hy'⟩ := exprAt_sh heu
       simp only [Value.agg.injEq, Array.mk.injEq, List.cons.injEq, and_true] at hz hy'
       obtain ⟨rfl, rfl, rfl, rfl, rfl⟩ := hz
       obtain ⟨rfl, rfl, rfl, rfl, rfl, rfl, rfl⟩ := hy'
       have d0 := cell_up H.out.bel (hcell 0 _ rfl)
       have d1 := cell_up H.out.bel (hcell 1 _ rfl)
       have d2 := cell_up H.out.bel (hcell 2 _ rfl)
       have d3 := cell_up H.out.bel (hcell 3 _ rfl)
       have d4 := cell_up H.out.bel (hcell 4 _ rfl)
       have d5 := cell_up H.out.bel (hcell 5 _ rfl)
       have d6 := cell_up H.out.bel (hcell 6 _ rfl)
       have d7 := cell_up H.out.bel (hcell 7 _ rfl)
       have d8 := cell_up H.out.bel (hcell 8 _ rfl)
       have d9 := cell_up H.out.bel (hcell 9 _ rfl)
       have d10 := cell_up H.out.bel (hcell 10 _ rfl)
       have d11 := cell_up H.out.bel (hcell 11 _ rfl)
       simp only [Nat.add_zero] at d0
       have hk1 : (m : Int) < (al.length : Int) := by omega
       have hk2 : (al.length : Int) ≤ (c3 : Int) := by omega
       have hk3 := g2
       have hst := Sx.sum_take (fun a : Px.Pat × Px.Expr => 2 * (Sx.pw f a.1 + Sx.ew f a.2)) al m y hy
       have htk : al.take (m + 1) = al.take m ++ [y] := by rw [List.take_add_one, hy]; rfl
       have HTK := Lib.hid htk
       have hbw := HBW.out
       try dsimp only at hst
       have HST := Lib.hid hst; have HBV := Lib.hid hbw
       clear g1 g2 g3 hcell hy htk hst hbw
       have w0 := ent_cell EW.out 0 _ rfl; have w1' := ent_cell EW.out 1 _ rfl; have w2' := ent_cell EW.out 2 _ rfl
       have ew2 := ent_alloc EW.out (.cells #[.int .i64 z0, .int .i64 z1, .string z2, .int .i64 z3, .slice zq zn zc, .int .i64 y0, .int .i64 y1, .string y2, .int .i64 y3, .slice yq1 yn1 yc1, .slice yq2 yn2 yc2, .slice yq3 yn3 yc3] 96)
       have v0 := ent_cell ew2 0 _ rfl; have v1 := ent_cell ew2 1 _ rfl; have v2 := ent_cell ew2 2 _ rfl
       go_wp2_with fail
       clear ew2 v0 v1 v2
       clear w0 w1' w2'
       clear d0 d1 d2 d3 d4 d5 d6 d7 d8 d9 d10 d11
       have hba : Below wr.heap.size wr (wr.alloc (.cells #[.int .i64 z0, .int .i64 z1, .string z2, .int .i64 z3, .slice zq zn zc, .int .i64 y0, .int .i64 y1, .string y2, .int .i64 y3, .slice yq1 yn1 yc1, .slice yq2 yn2 yc2, .slice yq3 yn3 yc3] 96)) := (Below.refl _ _).alloc (Nat.le_refl _) _
       have k := H.out.self.below HT.out hba
       generalize wr.alloc (.cells #[.int .i64 z0, .int .i64 z1, .string z2, .int .i64 z3, .slice zq zn zc, .int .i64 y0, .int .i64 y1, .string y2, .int .i64 y3, .slice yq1 yn1 yc1, .slice yq2 yn2 yc2, .slice yq3 yn3 yc3] 96) = wa at k ⊢
       clear hba
       replace EX := Lib.hid (k.at EX.out LX.out.2); replace EW := Lib.hid (k.at EW.out LW.out.2)
       replace LX := Lib.hid (LX.out.step k); replace LW := Lib.hid (LW.out.step k); replace H := Lib.hid (H.out.then k)
       clear k
       have hst := HST.out; have hbw := HBV.out
       refine (HAL.out y.1 y.2 _ _ _ _ _ _ _ _ _ _ _ _ _ vars _ wa hpu heu (by omega) (by omega) H.out.self).mono ?_
       rintro e w5 ⟨rfl, k⟩
       replace EX := Lib.hid (k.at EX.out LX.out.2); replace EW := Lib.hid (k.at EW.out LW.out.2)
       replace LX := Lib.hid (LX.out.step k); replace LW := Lib.hid (LW.out.step k); replace H := Lib.hid (H.out.then k)
       clear k
       clear hst hbw
       go_wp2_with fail
       go_roundw
       case rel => exact ⟨m + 1, by go_num, by omega, Lib.hid (by rw [HTK.out, List.foldl_append, List.map_append, List.sum_append]; exact H.out.mono HT.out (by simp; omega)), EW, EX, Lib.hid (by rw [HTK.out, List.foldl_append]; exact LW.out), Lib.hid (by rw [HTK.out, List.foldl_append]; exact LX.out)⟩
       case measure => simp [intOf]; omega
     · obtain rfl : m = al.length := by omega
       rw [List.take_length] at H LX LW
       go_wp2_with fail
       refine bodyPost_end (v := .tuple #[]) (by simp [results, Try.results35, go_sem]) rfl ?_
       rw [walkS, ← HSD.out]
       exact ⟨rfl, H.out.mono HT.out (by have := HEW.out; have := HX2.out; have := HA2.out; rw [HEW.out]; omega)⟩
theorem walk_any (ht : Told Inv Own mb W0 fe fp e1 e2 p1 p2 stepE stepP) : ∀ f, WalkC Inv Own mb W0 fe fp e1 e2 p1 p2 stepE stepP f
 | 0 => fun x v s vars n w hx => hx.elim
 | f + 1 => walk_step ht f (walk_any ht f)
end
end Go.Proofs.Ytgoacbomphlhjaa
