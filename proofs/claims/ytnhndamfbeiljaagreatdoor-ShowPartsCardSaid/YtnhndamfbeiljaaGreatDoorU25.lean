/-
  Several texts in one: PShProg, WShow2, WLinesData, WLinesDef, WProg, WPats, PPow.
-/
import Derived.Test.YtnhndamfbeiljaaGreatDoorU00
import Derived.Test.YtnhndamfbeiljaaGreatDoorU24
import Derived.Test.YtnhndamfbeiljaaGreatDoorU18
import Derived.Test.YtnhndamfbeiljaaGreatDoorU23
import Derived.Test.YtnhndamfbeiljaaGreatDoorU03
import Derived.Stop.LaidErr
set_option linter.unusedVariables false
set_option linter.unusedSimpArgs false
set_option maxHeartbeats 4000000
set_option maxRecDepth 100000
namespace Go.Proofs.YtnhndamfbeiljaaGreatDoor
open Go Go.RowKit
open Go.Lib (hid)
open List renaming getElem_toArray → jPC, getElem_cons_succ → jPD, getElem_cons_zero → jPE, setIfInBounds_toArray → jPF, set_cons_zero → jPG, set_cons_succ → jPH
theorem jEX {l : List (List UInt8)} {k : Nat} {x : List UInt8} (h : l[k]? = some x) : (l.take (k + 1)).flatten = (l.take k).flatten ++ x := by
 rw [List.take_add_one, h]; simp
theorem jG (l : List (List UInt8)) : ∀ k, (l.take k).flatten.length <= l.flatten.length := by
 induction l with
 | nil => intro k; simp
 | cons a l ih =>
   intro k; cases k with
   | zero => simp
   | succ k => simp only [List.take_succ_cons, List.flatten_cons, List.length_append]; have := ih k; omega
theorem jLS {l : List (List UInt8)} {x : List UInt8} (h : x ∈ l) : x.length <= l.flatten.length := by
 induction l with
 | nil => cases h
 | cons a l ih =>
   simp only [List.flatten_cons, List.length_append]
   rcases List.mem_cons.1 h with rfl | h
   . omega
   . have := ih h; omega
theorem jL2 {α : Type} {sz : Nat} {rep : Value -> α -> Prop} {w : World} {v : Value} {xs : List α} (h : jAI sz rep w v xs) : (xs.length : Int) <= 9223372036854775807 := by
 rcases h with ⟨rfl, _⟩ | ⟨g, o, c, _, h1, h2, _⟩
 . simp
 . omega
theorem jM1 {f : Nat} {w w' : World} {v : Value} {c : Px.Con} (h : jEZ f w v c) (hb : Below w.heap.size w w') : jEZ f w' v c := by
 obtain ⟨av, rfl, h1⟩ := h; exact ⟨av, rfl, h1.mono hb (fun u x _ hu => jCK hu hb)⟩
theorem jJU (f : Nat) (v : Value) (q : Px.Prog) (w : World) (h : jGF f w v q) (hgood : ∀ d ∈ q.defs, jEP f d.body) (hlen : (Px.jC0 f q).length <= 800000) (htab : Lib.TabIs Tryz.prog w "internal/strconv.uint64pow10" .u64 Lib.pow10Tab) :
 Calls Tryz.prog 10 #[v] w fun e w' => e = .returned (.string ⟨(Px.jC0 f q).toArray⟩) /\ Below w.heap.size w w' := by
 obtain ⟨dv, fv, rfl, hds, hfs⟩ := h; obtain ⟨q1, c1, rfl⟩ := hds.len; obtain ⟨q2, c2, rfl⟩ := hfs.len; obtain ⟨i0, hi, hz0, hz1, hz2⟩ := info_parts jFZ; have HI1 := hid hz1; have HI2 := hid hz2; have HI0 := hid hz0; have HI := hid hi
 clear hi hz0 hz1 hz2; obtain ⟨DS, hDS⟩ : ∃ DS, DS = q.datas.map fun d => Px.jC5 f d ++ [10] := ⟨_, rfl⟩
 obtain ⟨FS, hFS⟩ : ∃ FS, FS = q.defs.map fun d => Px.jCL f d ++ [10] := ⟨_, rfl⟩
 have hout : Px.jC0 f q = DS.flatten ++ FS.flatten := by rw [hDS, hFS]; rfl
 rw [hout] at hlen ⊢; rw [List.length_append] at hlen; have HDS := hid hDS; have HFS := hid hFS; have HD := hid hds; have HF := hid hfs; have HGOOD := hid hgood; have HTAB := hid htab
 obtain ⟨ND, hND⟩ : ∃ ND, ND = q.datas.length := ⟨_, rfl⟩
 obtain ⟨NF, hNF⟩ : ∃ NF, NF = q.defs.length := ⟨_, rfl⟩
 have hDl : DS.length = ND := by rw [hDS, hND]; simp
 have hFl : FS.length = NF := by rw [hFS, hNF]; simp
 rw [<- hND, <- hNF]; have hnb1 : (ND : Int) <= 9223372036854775807 := by rw [hND]; exact jL2 hds
 have hnb2 : (NF : Int) <= 9223372036854775807 := by rw [hNF]; exact jL2 hfs
 have HND := hid hND; have HNF := hid hNF; have HDL := hid hDl; have HFL := hid hFl
 clear hds hfs hgood htab hDS hFS hout hND hNF hDl hFl; have hb0 : Below w.heap.size w (w.alloc (.cells #[.slice q1 ND c1, .slice q2 NF c2] 27)) := (Below.refl _ _).alloc (Nat.le_refl _) _; have EN := hid (jA3 w #[.slice q1 ND c1, .slice q2 NF c2] 27); have HB0 := hid hb0; clear hb0; go_enter Tryz.func10, Tryz.ntmps10; go_wp2_with fail
 go_loopw [3, 4] (fun s i wr => ∃ k : Nat, i = .int .i64 k /\ k <= ND /\ s = .string ⟨((DS.take k).flatten).toArray⟩ /\ Hid (wr.heap[w.heap.size]? = some (.cells #[.slice q1 ND c1, .slice q2 NF c2] 27 (0, 0))) /\ Hid (Below w.heap.size w wr)) (fun _ i _ => ND - (intOf i).toNat)
 case atStart => exact ⟨0, rfl, Nat.zero_le _, rfl, EN, HB0⟩
 case round =>
  clear EN HB0; obtain ⟨k, rfl, hk, rfl, EN, HB⟩ := hrel; have hs := HB.out.size; have e0 := jA EN.out 0 _ rfl; have e1 := jA EN.out 1 _ rfl; have hle := jG DS k; by_cases hlt : k < ND
  . obtain ⟨d, hd⟩ : ∃ d, q.datas[k]? = some d := ⟨_, List.getElem?_eq_getElem (by rw [<- HND.out]; exact hlt)⟩
    rcases HD.out with ⟨h, _⟩ | ⟨g, o, c', hv, h1, h2, h3⟩
    . have := HND.out; rw [h] at this; simp at this; omega
    injection hv with hq _ hc
    subst hq; subst hc
    obtain ⟨u, ⟨nv, cv, rfl, hps, hcs⟩, _, huc⟩ := h3 k d hd; obtain ⟨pq, pc, rfl⟩ := hps.len; obtain ⟨cq, cc, rfl⟩ := hcs.len; have up : ∀ j z, w.cell? ⟨g, j, none⟩ = some z -> wr.cell? ⟨g, j, none⟩ = some z := fun j z hz => (HB.out.cell (World.block_lt_of_cell? w _ hz)).trans hz
    have f0 := up _ _ (huc 0 _ rfl); have f1 := up _ _ (huc 1 _ rfl); have f2 := up _ _ (huc 2 _ rfl); have f3 := up _ _ (huc 3 _ rfl)
    rw [Nat.add_zero] at f0; have hdx : DS[k]? = some (Px.jC5 f d ++ [10]) := by rw [HDS.out, List.getElem?_map, hd]; rfl
    have hst := jEX hdx; have hdl := jLS (List.mem_of_getElem? hdx); rw [List.length_append, List.length_singleton] at hdl; obtain ⟨CS, hCS⟩ : ∃ CS, CS = d.cons.map (Px.jDT f) := ⟨_, rfl⟩
    have hdt : Px.jC5 f d = joined ([100, 97, 116, 97] :: d.name :: joined d.params :: CS) := by rw [hCS]; rfl
    rw [hdt, jAY] at hdl; have hcnt := jDS ([100, 97, 116, 97] :: d.name :: joined d.params :: CS); have hCl : CS.length = d.cons.length := by rw [hCS]; simp
    have hnc : d.cons.length <= 800000 := by simp only [List.length_cons, hCl] at hcnt; omega
    have hpl := jCE ([100, 97, 116, 97] :: d.name :: joined d.params :: CS) (joined d.params) (by simp); rw [jAY] at hpl; have hgp : (glue d.params).length <= 900000 := by omega
    have hgd : (glue ([100, 97, 116, 97] :: d.name :: joined d.params :: CS)).length <= 800000 := by omega
    have HST := hid hst; have HDT := hid hdt; have HCS := hid hCS; have HCL := hid hCl; have HPS := hid (jDH hps HB.out); have HCC := hid hcs; have HGD := hid hgd
    have hsum : ((DS.take k).flatten).length + (joined ([100, 97, 116, 97] :: d.name :: joined d.params :: CS)).length + 1 <= 800000 := by
     have h5 := jG DS (k + 1); rw [hst, hdt, List.length_append, List.length_append, List.length_singleton] at h5; omega
    have HSUM := hid hsum; clear hst hdt hdl hcnt hCS hCl hpl hps hcs huc up h3 hd hdx hgd hsum hle; obtain ⟨S, hS⟩ : ∃ S, S = (DS.take k).flatten := ⟨_, rfl⟩
    rw [<- hS] at HST HSUM ⊢; clear hS; obtain ⟨V, hV⟩ : ∃ x, x = wr := ⟨wr, rfl⟩
    subst hV; have EN2 := hid (jA2 EN.out (.cells #[.int .i64 d.pos, .string ⟨d.name.toArray⟩, .slice pq d.params.length pc, .slice cq d.cons.length cc] 36)); have ED := hid (jA3 V #[.int .i64 d.pos, .string ⟨d.name.toArray⟩, .slice pq d.params.length pc, .slice cq d.cons.length cc] 36); have hal : Below V.heap.size V (V.alloc (.cells #[.int .i64 d.pos, .string ⟨d.name.toArray⟩, .slice pq d.params.length pc, .slice cq d.cons.length cc] 36)) := (Below.refl _ _).alloc (Nat.le_refl _) _; have HB2 := hid (HB.out.trans (hal.mono hs)); have HPS2 := hid (jDH HPS.out hal); clear hal HPS; go_wp2_with fail; obtain ⟨U, hU⟩ : ∃ U, U = V.alloc (.cells #[.int .i64 d.pos, .string ⟨d.name.toArray⟩, .slice pq d.params.length pc, .slice cq d.cons.length cc] 36) := ⟨_, rfl⟩
    rw [<- hU] at EN2 ED HB2 HPS2 ⊢; clear hU f0 f1 f2 f3 e0 e1; have d1 := jA ED.out 1 _ rfl; have d2 := jA ED.out 2 _ rfl
    go_still_tail 5, (by kernel_rfl)
    still_call (jBT _ d.params _ (jDH HPS2.out (Below.drew (Below.refl _ _))) hgp)
    repeat still_step
    try refine wpStill_nil ?_
    change wpList _ _ _ _ _ U.drew; replace EN2 : Hid (U.drew.heap[w.heap.size]? = _) := EN2; replace ED : Hid (U.drew.heap[V.heap.size]? = _) := ED; replace HB2 := hid HB2.out.drew; have hVU : V.heap.size < U.drew.heap.size := jA6 ED.out; clear d1 d2 HPS2 hgp; generalize U.drew = U at *; have hsU := HB2.out.size; obtain ⟨h0, hh0⟩ : ∃ h0, h0 = [[100, 97, 116, 97], d.name, joined d.params] := ⟨_, rfl⟩
    have hown := World.ownsRow_lit (base := U.heap.size) (e := 9) (size := 1) U #[.string ⟨#[100, 97, 116, 97]⟩, .string ⟨d.name.toArray⟩, .string ⟨(joined d.params).toArray⟩] 3 (Nat.le_refl _) (by unfold maxLen; omega) rfl
    have hown' : (U.alloc (.cells #[.string ⟨#[100, 97, 116, 97]⟩, .string ⟨d.name.toArray⟩, .string ⟨(joined d.params).toArray⟩] 9)).ownsRow U.heap.size 9 1 (.slice (some ⟨U.heap.size, 0, none⟩) 3 3) (0 + 3) (jBA (h0 ++ CS.take 0)) := by
     rw [hh0]; exact hown
    have hal : Below U.heap.size U (U.alloc (.cells #[.string ⟨#[100, 97, 116, 97]⟩, .string ⟨d.name.toArray⟩, .string ⟨(joined d.params).toArray⟩] 9)) := (Below.refl _ _).alloc (Nat.le_refl _) _; have HOWN := hid hown'; have HBU := hid hal; have HH0 := hid hh0
    clear hown hown' hal hh0; go_wp2_with fail
    go_loopw [6, 7] (fun lv i wr => ∃ j : Nat, i = .int .i64 j /\ j <= d.cons.length /\ Hid (wr.ownsRow U.heap.size 9 1 lv (j + 3) (jBA (h0 ++ CS.take j))) /\ Hid (Below U.heap.size U wr)) (fun _ i _ => d.cons.length - (intOf i).toNat)
    case atStart => exact ⟨0, rfl, Nat.zero_le _, HOWN, HBU⟩
    case round =>
     clear HOWN HBU; obtain ⟨j, rfl, hj, HOWN, HBU⟩ := hrel; have hs2 := HBU.out.size; have ED2 := hid (jA0 ED.out HBU.out); have d3 := jA ED2.out 3 _ rfl; by_cases hlt2 : j < d.cons.length
     . obtain ⟨cn, hcn⟩ : ∃ x, d.cons[j]? = some x := ⟨_, List.getElem?_eq_getElem hlt2⟩
       have hbw : Below w.heap.size w wr := HB2.out.trans (HBU.out.mono HB2.out.size)
       rcases HCC.out with ⟨h, _⟩ | ⟨gc, oc, cc', hv, h1c, h2c, h3c⟩
       . rw [h] at hlt2; simp at hlt2
       injection hv with hq _ hc
       subst hq; subst hc
       obtain ⟨u, ⟨av, rfl, hfl⟩, _, huc⟩ := h3c j cn hcn; obtain ⟨fq, fc, rfl⟩ := hfl.len; have up : ∀ j z, w.cell? ⟨gc, j, none⟩ = some z -> wr.cell? ⟨gc, j, none⟩ = some z := fun j z hz => (hbw.cell (World.block_lt_of_cell? w _ hz)).trans hz
       have f1 := up _ _ (huc 1 _ rfl); have f2 := up _ _ (huc 2 _ rfl)
       obtain ⟨TS, hTS⟩ : ∃ TS, TS = cn.fields.map (Px.jBE f) := ⟨_, rfl⟩
       have hcx : CS[j]? = some (joined (cn.name :: TS)) := by rw [HCS.out, List.getElem?_map, hcn, hTS]; rfl
       have hcl := jCE ([100, 97, 116, 97] :: d.name :: joined d.params :: CS) _ (List.mem_cons_of_mem _ (List.mem_cons_of_mem _ (List.mem_cons_of_mem _ (List.mem_of_getElem? hcx)))); rw [jAY] at hcl; have hgt : (glue (cn.name :: TS)).length <= 800000 := by have := HGD.out; omega
       have hcnt := jDS (cn.name :: TS); have hTl : TS.length = cn.fields.length := by rw [hTS]; simp
       have hnf : cn.fields.length <= 800000 := by simp only [List.length_cons, hTl] at hcnt; omega
       have HCX := hid hcx; have HTS := hid hTS; have HTL := hid hTl; have HFL := hid hfl; have HGT := hid hgt
       obtain ⟨X, hX⟩ : ∃ x, x = wr := ⟨wr, rfl⟩
       subst hX; have g1 := f1; have g2 := f2
       have CELLS := hid (And.intro f1 (And.intro f2 d3)); clear h3c huc up hcx hTS hTl hcl hgt hcnt hfl hcn g1 g2; have hown1 := World.ownsRow_lit (base := X.heap.size) (e := 9) (size := 1) X #[.string ⟨cn.name.toArray⟩] 1 (Nat.le_refl _) (by unfold maxLen; omega) rfl; have hown1' : (X.alloc (.cells #[.string ⟨cn.name.toArray⟩] 9)).ownsRow X.heap.size 9 1 (.slice (some ⟨X.heap.size, 0, none⟩) 1 1) (0 + 1) (jBA (cn.name :: TS.take 0)) := hown1; have OWN1 := hid hown1'; have HB1 := hid ((Below.refl X.heap.size X).alloc (Nat.le_refl _) (.cells #[.string ⟨cn.name.toArray⟩] 9)); clear hown1 hown1'; go_wp2_with fail
       go_loopw [8, 9] (fun cv i wr => ∃ m : Nat, i = .int .i64 m /\ m <= cn.fields.length /\ Hid (wr.ownsRow X.heap.size 9 1 cv (m + 1) (jBA (cn.name :: TS.take m))) /\ Hid (Below X.heap.size X wr)) (fun _ i _ => cn.fields.length - (intOf i).toNat)
       case atStart => exact ⟨0, rfl, Nat.zero_le _, OWN1, HB1⟩
       case round =>
        clear OWN1 HB1 f1 f2 d3; obtain ⟨m, rfl, hm, HOC, HBX⟩ := hrel; have hsX := HBX.out.size; have f1 := (HBX.out.cell (World.block_lt_of_cell? _ _ CELLS.out.1)).trans CELLS.out.1; have f2 := (HBX.out.cell (World.block_lt_of_cell? _ _ CELLS.out.2.1)).trans CELLS.out.2.1; have d3 := (HBX.out.cell (World.block_lt_of_cell? _ _ CELLS.out.2.2)).trans CELLS.out.2.2; have hbwX : Below w.heap.size w wr := (HB2.out.trans (HBU.out.mono HB2.out.size)).trans (HBX.out.mono (HB2.out.trans (HBU.out.mono HB2.out.size)).size); by_cases hlt3 : m < cn.fields.length
        . obtain ⟨t, ht⟩ : ∃ t, cn.fields[m]? = some t := ⟨_, List.getElem?_eq_getElem hlt3⟩
          rcases HFL.out with ⟨h, _⟩ | ⟨gf, of, cf, hv, h1f, h2f, h3f⟩
          . rw [h] at hlt3; simp at hlt3
          injection hv with hq _ hc
          subst hq; subst hc
          obtain ⟨u, hu, hus, huc⟩ := h3f m t ht; obtain ⟨tp, ts, q1', n1, k1, rfl⟩ := jFE f _ _ _ hu; have t0 := huc 0 _ rfl; have t1 := huc 1 _ rfl; have t2 := huc 2 _ rfl
          replace t0 := (hbwX.cell (World.block_lt_of_cell? w _ t0)).trans t0; replace t1 := (hbwX.cell (World.block_lt_of_cell? w _ t1)).trans t1; replace t2 := (hbwX.cell (World.block_lt_of_cell? w _ t2)).trans t2; rw [Nat.add_zero] at t0; have HU := hid (jCK hu hbwX); have hpl := jCE (cn.name :: TS) (Px.jBE f t) (by rw [HTS.out]; exact List.mem_cons_of_mem _ (List.mem_map_of_mem (List.mem_of_getElem? ht))); have hpl2 : (Px.jBE f t).length <= 800000 := by have := HGT.out; omega
          have htm : TS[m]? = some (Px.jBE f t) := by rw [HTS.out, List.getElem?_map, ht]; rfl
          have HTM := hid htm; clear h3f huc hu hus ht hpl htm hbwX; go_wp2_with fail; refine (jGG f _ t _ HU.out hpl2).mono ?_; rintro e w2 ⟨rfl, hb2⟩; have HOC2 := hid (jA5 HOC.out hb2); have HBX2 := bT HBX hb2; have hs3 := HBX2.out.size; obtain ⟨S1, hS1⟩ : ∃ S, S = Px.jBE f t := ⟨_, rfl⟩
          rw [<- hS1] at HTM ⊢; clear hb2 hS1 hpl2; go_wp2_with (at_builtin; refine jAM _ rfl (.tmp 55) (.tmp 66) 33 rfl X.heap.size 9 i0 (.string ⟨#[]⟩) 1 16 Tryz.underlying33 HI.out HI0.out HI1.out HI2.out rfl (by decide) _ (m + 1) _ rfl (HOC2.out.alloc _) ⟨w2.heap.size, 0, none⟩ 1 1 [.string ⟨S1.toArray⟩] rfl (by decide) rfl ?ca1 ?ca2 ?ca3 ?ca4 ?ca5 ?_)
          case ca1 => exact fun j u h => jF1 w2 S1 _ j u h
          case ca2 => exact jE9 S1
          case ca3 => unfold maxLen; omega
          case ca4 => omega
          case ca5 => simp; omega
          intro v' w3 hown3 hgr hloc; have hB3 := (HBX2.out.alloc hs3 (.cells #[.string ⟨S1.toArray⟩] 9)).grown hgr (by simp; omega) (fun kk hkk => (HOC2.out.lt kk hkk).1)
          have hl3 : jBA (cn.name :: TS.take m) ++ [.string ⟨S1.toArray⟩] = jBA (cn.name :: TS.take (m + 1)) := by
           rw [<- jD9, List.take_add_one, HTM.out]; rfl
          rw [hl3] at hown3; have H1 := hid hown3; have H3 := hid hB3
          clear hown3 hB3 hgr hloc hl3 f1 f2 d3 t0 t1 t2; go_wp2
          go_roundw
          case rel => exact ⟨m + 1, by go_num, by omega, H1, H3⟩
          case measure => simp [intOf]; omega
        . obtain rfl : m = cn.fields.length := by omega
          have htk : TS.take cn.fields.length = TS := by rw [<- HTL.out, List.take_length]
          rw [htk] at HOC; clear htk; obtain ⟨S1, hS1⟩ : ∃ S, S = joined (cn.name :: TS) := ⟨_, rfl⟩
          have hj := jBT _ _ wr (jCG HOC.out) (by have := HGT.out; omega); rw [<- hS1] at hj HCX; obtain ⟨pc3, cc3, rfl⟩ := jDU HOC.out; have HJ := hid hj; have HOL := hid (jA5 HOWN.out HBX.out); have HBV := hid (HBU.out.trans (HBX.out.mono HBU.out.size)); have hsV := HBV.out.size; clear hj hS1; go_wp2_with fail; refine HJ.out.mono ?_; rintro e w4 ⟨rfl, rfl⟩; go_wp2_with (at_builtin; refine jAM _ rfl (.tmp 68) (.tmp 71) 33 rfl U.heap.size 9 i0 (.string ⟨#[]⟩) 1 16 Tryz.underlying33 HI.out HI0.out HI1.out HI2.out rfl (by decide) _ (j + 3) _ rfl (HOL.out.alloc _) ⟨w4.heap.size, 0, none⟩ 1 1 [.string ⟨S1.toArray⟩] rfl (by decide) rfl ?cb1 ?cb2 ?cb3 ?cb4 ?cb5 ?_)
          case cb1 => exact fun j u h => jF1 w4 S1 _ j u h
          case cb2 => exact jE9 S1
          case cb3 => unfold maxLen; omega
          case cb4 => omega
          case cb5 => simp; omega
          intro v' w3 hown3 hgr hloc; have hB3 := (HBV.out.alloc hsV (.cells #[.string ⟨S1.toArray⟩] 9)).grown hgr (by simp; omega) (fun kk hkk => (HOL.out.lt kk hkk).1)
          have hl3 : jBA (h0 ++ CS.take j) ++ [.string ⟨S1.toArray⟩] = jBA (h0 ++ CS.take (j + 1)) := by
           rw [<- jD9, List.take_add_one, HCX.out, List.append_assoc]; rfl
          rw [hl3] at hown3; have H1 := hid hown3; have H3 := hid hB3
          clear hown3 hB3 hgr hloc hl3 f1 f2 d3; go_wp2
          go_roundw
          case rel => exact ⟨j + 1, by go_num, by omega, hid (by rw [show j + 1 + 3 = j + 3 + 1 by omega]; exact H1.out), H3⟩
          case measure => simp [intOf]; omega
     . obtain rfl : j = d.cons.length := by omega
       have htk : CS.take d.cons.length = CS := by rw [<- HCL.out, List.take_length]
       rw [htk, HH0.out] at HOWN; clear htk; have hj := jBT _ _ wr (jCG HOWN.out) (by have := HGD.out; exact Nat.le_trans this (by omega)); obtain ⟨S1, hS1⟩ : ∃ S, S = joined ([[100, 97, 116, 97], d.name, joined d.params] ++ CS) := ⟨_, rfl⟩
       have hS1' : S1 = Px.jC5 f d := by rw [hS1, HDT.out]; rfl
       rw [<- hS1] at hj; have hsm : S.length + S1.length + 1 <= 800000 := by rw [hS1]; exact HSUM.out
       rw [<- hS1'] at HST; obtain ⟨pl3, cl3, rfl⟩ := jDU HOWN.out; have HJ := hid hj; have HBF := hid (HB2.out.trans (HBU.out.mono HB2.out.size)); have ENF := hid (jA0 EN2.out HBU.out); clear hj hS1 hS1'; go_wp2_with fail; refine HJ.out.mono ?_; rintro e w4 ⟨rfl, rfl⟩; have s1 := jCO (w := w4) S1 [10] (by simp only [List.length_singleton]; omega); have s2 := jCO (w := w4) S (S1 ++ [10]) (by simp only [List.length_append, List.length_singleton]; omega); rw [<- HST.out] at s2; go_wp2_with fail
       go_roundw
       case rel => exact ⟨k + 1, by go_num, by omega, by first | rfl | (rw [HST.out, bytes_lit1, jH1]), ENF, HBF⟩
       case measure => simp [intOf]; omega
  . obtain rfl : ND = k := by omega
    have htk : DS.take ND = DS := by rw [<- HDL.out, List.take_length]
    rw [htk]; clear htk hle; obtain ⟨S0, hS0⟩ : ∃ S, S = DS.flatten := ⟨_, rfl⟩
    rw [<- hS0] at hlen ⊢; have HS0 := hid hS0; clear hS0; obtain ⟨V, hV⟩ : ∃ x, x = wr := ⟨wr, rfl⟩
    subst hV; go_wp2_with fail
    go_loopw [3, 10] (fun s i wr => ∃ j : Nat, i = .int .i64 j /\ j <= NF /\ s = .string ⟨(S0 ++ (FS.take j).flatten).toArray⟩ /\ Hid (wr.heap[w.heap.size]? = some (.cells #[.slice q1 ND c1, .slice q2 NF c2] 27 (0, 0))) /\ Hid (Below w.heap.size w wr)) (fun _ i _ => NF - (intOf i).toNat)
    case atStart => exact ⟨0, rfl, Nat.zero_le _, by simp, EN, HB⟩
    case round =>
     clear EN HB e0 e1 hs; obtain ⟨j, rfl, hj, rfl, EN, HB⟩ := hrel; have hs := HB.out.size; have e0 := jA EN.out 0 _ rfl; have e1 := jA EN.out 1 _ rfl; by_cases hlt2 : j < NF
     . obtain ⟨d, hd⟩ : ∃ d, q.defs[j]? = some d := ⟨_, List.getElem?_eq_getElem (by rw [<- HNF.out]; exact hlt2)⟩
       rcases HF.out with ⟨h, _⟩ | ⟨g, o, c', hv, h1, h2, h3⟩
       . have := HNF.out; rw [h] at this; simp at this; omega
       injection hv with hq _ hc
       subst hq; subst hc
       obtain ⟨u, ⟨nv, b0, b1, b2, b3, b4, b5, b6, rfl, hps, hex⟩, _, huc⟩ := h3 j d hd; obtain ⟨pq, pc, rfl⟩ := hps.len; obtain ⟨xk, xp, xi, xs, r1, n1, d1, r2, n2, d2, r3, n3, d3, he⟩ := jAP f _ _ _ hex; simp only [Value.agg.injEq, Array.mk.injEq, List.cons.injEq, and_true] at he; obtain ⟨rfl, rfl, rfl, rfl, rfl, rfl, rfl⟩ := he; have up : ∀ j z, w.cell? ⟨g, j, none⟩ = some z -> wr.cell? ⟨g, j, none⟩ = some z := fun j z hz => (HB.out.cell (World.block_lt_of_cell? w _ hz)).trans hz
       have f0 := up _ _ (huc 0 _ rfl); have f1 := up _ _ (huc 1 _ rfl); have f2 := up _ _ (huc 2 _ rfl); have f3 := up _ _ (huc 3 _ rfl); have f4 := up _ _ (huc 4 _ rfl); have f5 := up _ _ (huc 5 _ rfl); have f6 := up _ _ (huc 6 _ rfl); have f7 := up _ _ (huc 7 _ rfl); have f8 := up _ _ (huc 8 _ rfl); have f9 := up _ _ (huc 9 _ rfl); rw [Nat.add_zero] at f0; have hdx : FS[j]? = some (Px.jCL f d ++ [10]) := by rw [HFS.out, List.getElem?_map, hd]; rfl
       have hst := jEX hdx; have hdl := jLS (List.mem_of_getElem? hdx); rw [List.length_append, List.length_singleton] at hdl; have hdt : Px.jCL f d = joined [[100, 101, 102], d.name, joined d.params, Px.jAE f d.body] := rfl; rw [hdt, jAY] at hdl; have hpl := jCE [[100, 101, 102], d.name, joined d.params, Px.jAE f d.body] (joined d.params) (by simp); rw [jAY] at hpl; have hpe := jCE [[100, 101, 102], d.name, joined d.params, Px.jAE f d.body] (Px.jAE f d.body) (by simp); have hgp : (glue d.params).length <= 900000 := by omega
       have hel : (Px.jAE f d.body).length <= 800000 := by omega
       have hsum : (S0 ++ (FS.take j).flatten).length + (joined [[100, 101, 102], d.name, joined d.params, Px.jAE f d.body]).length + 1 <= 800000 := by
        have h5 := jG FS (j + 1); rw [hst, hdt, List.length_append, List.length_append, List.length_singleton] at h5; rw [List.length_append]; omega
       have hgj : (glue [[100, 101, 102], d.name, joined d.params, Px.jAE f d.body]).length <= 800000 := by rw [jAY] at hsum; omega
       have HST := hid (show S0 ++ (FS.take (j + 1)).flatten = (S0 ++ (FS.take j).flatten) ++ (joined [[100, 101, 102], d.name, joined d.params, Px.jAE f d.body] ++ [10]) by rw [hst, hdt, List.append_assoc]); have HSUM := hid hsum; have hgd := HGOOD.out d (List.mem_of_getElem? hd); have hal : Below wr.heap.size wr (wr.alloc (.cells #[.int .i64 d.pos, .string ⟨d.name.toArray⟩, .slice pq d.params.length pc, .int .i64 xk, .int .i64 xp, .string xs, .int .i64 xi, .slice r1 n1 d1, .slice r2 n2 d2, .slice r3 n3 d3] 49)) := (Below.refl _ _).alloc (Nat.le_refl _) _; have ED := hid (jA3 wr #[.int .i64 d.pos, .string ⟨d.name.toArray⟩, .slice pq d.params.length pc, .int .i64 xk, .int .i64 xp, .string xs, .int .i64 xi, .slice r1 n1 d1, .slice r2 n2 d2, .slice r3 n3 d3] 49); have EN2 := hid (jA0 EN.out hal); have HB2 := hid (HB.out.trans (hal.mono hs)); have HPS := hid hps; have HEX := hid hex
       clear hst hdt hdl hpl hpe hps hex huc up h3 hd hdx hal hsum; obtain ⟨S, hS⟩ : ∃ S, S = S0 ++ (FS.take j).flatten := ⟨_, rfl⟩
       rw [<- hS] at HST HSUM ⊢; clear hS; go_wp2_with fail; obtain ⟨U, hU⟩ : ∃ U, U = wr.alloc (.cells #[.int .i64 d.pos, .string ⟨d.name.toArray⟩, .slice pq d.params.length pc, .int .i64 xk, .int .i64 xp, .string xs, .int .i64 xi, .slice r1 n1 d1, .slice r2 n2 d2, .slice r3 n3 d3] 49) := ⟨_, rfl⟩
       rw [<- hU] at ED EN2 HB2 ⊢; clear hU e0 e1 f0 f1 f2 f3 f4 f5 f6 f7 f8 f9
       have hallS : ∀ u, Below U.heap.size U u -> u.cell? ⟨wr.heap.size, 1, none⟩ = some (.string ⟨d.name.toArray⟩) /\ u.cell? ⟨wr.heap.size, 2, none⟩ = some (.slice pq d.params.length pc) /\ u.cell? ⟨wr.heap.size, 3, none⟩ = some (.int .i64 xk) /\ u.cell? ⟨wr.heap.size, 4, none⟩ = some (.int .i64 xp) /\ u.cell? ⟨wr.heap.size, 5, none⟩ = some (.string xs) /\ u.cell? ⟨wr.heap.size, 6, none⟩ = some (.int .i64 xi) /\ u.cell? ⟨wr.heap.size, 7, none⟩ = some (.slice r1 n1 d1) /\ u.cell? ⟨wr.heap.size, 8, none⟩ = some (.slice r2 n2 d2) /\ u.cell? ⟨wr.heap.size, 9, none⟩ = some (.slice r3 n3 d3) := fun u hu => by
        have e := jA0 ED.out hu; exact ⟨jA e 1 _ rfl, jA e 2 _ rfl, jA e 3 _ rfl, jA e 4 _ rfl, jA e 5 _ rfl, jA e 6 _ rfl, jA e 7 _ rfl, jA e 8 _ rfl, jA e 9 _ rfl⟩
       have HALL := hid hallS; obtain ⟨S1, hS1⟩ : ∃ S, S = Px.jAE f d.body := ⟨_, rfl⟩
       obtain ⟨S2, hS2⟩ : ∃ S, S = joined d.params := ⟨_, rfl⟩
       obtain ⟨S3, hS3⟩ : ∃ S, S = joined [[100, 101, 102], d.name, joined d.params, Px.jAE f d.body] := ⟨_, rfl⟩
       have HJP : ∀ u : World, Below U.heap.size U u -> Calls Tryz.prog 26 #[.slice pq d.params.length pc] u fun e w' => e = .returned (.string ⟨S2.toArray⟩) /\ w' = u := fun u hu => by
        rw [hS2]; exact jBT _ _ u (jDH HPS.out (HB2.out.trans (hu.mono HB2.out.size))) hgp
       have HEC : ∀ u : World, Below U.heap.size U u -> Calls Tryz.prog 16 #[.agg #[.int .i64 xk, .int .i64 xp, .string xs, .int .i64 xi, .slice r1 n1 d1, .slice r2 n2 d2, .slice r3 n3 d3]] u fun e w' => e = .returned (.string ⟨S1.toArray⟩) /\ Below u.heap.size u w' := fun u hu => by
        have hb := HB2.out.trans (hu.mono HB2.out.size); rw [hS1]; exact jKY f _ _ u (jF5 HEX.out hb) hgd hel ((Lib.tabBelow_of_tabIs HTAB.out) _ hb)
       have HJ : ∀ u : World, Calls Tryz.prog 26 #[.slice (some ⟨u.heap.size, 0, none⟩) 4 4] (u.alloc (.cells #[.string ⟨#[100, 101, 102]⟩, .string ⟨d.name.toArray⟩, .string ⟨S2.toArray⟩, .string ⟨S1.toArray⟩] 9)) fun e w' => e = .returned (.string ⟨S3.toArray⟩) /\ w' = u.alloc (.cells #[.string ⟨#[100, 101, 102]⟩, .string ⟨d.name.toArray⟩, .string ⟨S2.toArray⟩, .string ⟨S1.toArray⟩] 9) := fun u => by
        rw [hS3, hS1, hS2]; exact jBT _ _ _ (jHY (w := u) [[100, 101, 102], d.name, joined d.params, Px.jAE f d.body] #[.string ⟨#[100, 101, 102]⟩, .string ⟨d.name.toArray⟩, .string ⟨(joined d.params).toArray⟩, .string ⟨(Px.jAE f d.body).toArray⟩] rfl (by simp)) (by omega)
       rw [<- hS3] at HST HSUM; have HJPH := hid HJP; have HECH := hid HEC; have HJH := hid HJ
       have hl3 : S.length + S3.length + 1 <= 800000 := HSUM.out; clear hS1 hS2 hS3 HJP HEC HJ hallS hgd hel hgp hgj HSUM; refine wp_region_held_drew (S := fun w' => w'.cell? ⟨wr.heap.size, 1, none⟩ = some (.string ⟨d.name.toArray⟩) /\ w'.cell? ⟨wr.heap.size, 2, none⟩ = some (.slice pq d.params.length pc) /\ w'.cell? ⟨wr.heap.size, 3, none⟩ = some (.int .i64 xk) /\ w'.cell? ⟨wr.heap.size, 4, none⟩ = some (.int .i64 xp) /\ w'.cell? ⟨wr.heap.size, 5, none⟩ = some (.string xs) /\ w'.cell? ⟨wr.heap.size, 6, none⟩ = some (.int .i64 xi) /\ w'.cell? ⟨wr.heap.size, 7, none⟩ = some (.slice r1 n1 d1) /\ w'.cell? ⟨wr.heap.size, 8, none⟩ = some (.slice r2 n2 d2) /\ w'.cell? ⟨wr.heap.size, 9, none⟩ = some (.slice r3 n3 d3)) (by kernel_rfl) (HALL.out _ (Below.drew (Below.refl _ _))) (fun hHeld => ?_); refine wT 0 (.string ⟨S.toArray⟩) rfl (Or.inl ⟨by rfl, fun w' hSw => by obtain ⟨s1, s2, s3, s4, s5, s6, s7, s8, s9⟩ := hSw; go_simp⟩) hHeld ?_; refine wT 1 (.pointer (some ⟨wr.heap.size, 1, none⟩)) rfl (Or.inl ⟨by rfl, fun w' hSw => by obtain ⟨s1, s2, s3, s4, s5, s6, s7, s8, s9⟩ := hSw; go_simp⟩) hHeld ?_; refine wT 2 (.string ⟨d.name.toArray⟩) rfl (Or.inl ⟨by rfl, fun w' hSw => by obtain ⟨s1, s2, s3, s4, s5, s6, s7, s8, s9⟩ := hSw; go_simp⟩) hHeld ?_; refine wT 3 (.pointer (some ⟨wr.heap.size, 2, none⟩)) rfl (Or.inl ⟨by rfl, fun w' hSw => by obtain ⟨s1, s2, s3, s4, s5, s6, s7, s8, s9⟩ := hSw; go_simp⟩) hHeld ?_; refine wT 4 (.slice pq d.params.length pc) rfl (Or.inl ⟨by rfl, fun w' hSw => by obtain ⟨s1, s2, s3, s4, s5, s6, s7, s8, s9⟩ := hSw; go_simp⟩) hHeld ?_; refine wT 6 (.pointer (some ⟨wr.heap.size, 3, none⟩)) rfl (Or.inl ⟨by rfl, fun w' hSw => by obtain ⟨s1, s2, s3, s4, s5, s6, s7, s8, s9⟩ := hSw; go_simp⟩) hHeld ?_; refine wT 7 (.agg #[.int .i64 xk, .int .i64 xp, .string xs, .int .i64 xi, .slice r1 n1 d1, .slice r2 n2 d2, .slice r3 n3 d3]) rfl (Or.inl ⟨by rfl, fun w' hSw => by obtain ⟨s1, s2, s3, s4, s5, s6, s7, s8, s9⟩ := hSw; go_simp⟩) hHeld ?_; simp only [Act.put, jPF, jPG, jPH]; have HBD := hid (Below.drew (Below.refl U.heap.size U)); refine wR 5 rfl (fun K hK => ?_); go_simp; refine (HJPH.out _ HBD.out).mono ?_; rintro e w3 ⟨rfl, rfl⟩; refine hK.out _ _ hHeld (fun hHeld => ?_); clear hK K; refine wR 8 rfl (fun K hK => ?_); go_simp; refine (HECH.out _ HBD.out).mono ?_; rintro e w4 ⟨rfl, hb4⟩; have HBW4 := bT HBD hb4; have hs4 := HBW4.out.size; refine hK.out _ _ (HALL.out _ HBW4.out) (fun hHeld => ?_); clear hK K hb4; refine wR 9 rfl (fun K hK => ?_); go_simp; refine hK.out _ _ (HALL.out _ (HBW4.out.alloc hs4 _)) (fun hHeld => ?_); clear hK K; refine wR 10 rfl (fun K hK => ?_); go_simp; refine (HJH.out w4).mono ?_; rintro e w5 ⟨rfl, rfl⟩; refine hK.out _ _ hHeld (fun hHeld => ?_); clear hK K; have HBF := hid (HB2.out.trans ((HBW4.out.alloc hs4 (.cells #[.string ⟨#[100, 101, 102]⟩, .string ⟨d.name.toArray⟩, .string ⟨S2.toArray⟩, .string ⟨S1.toArray⟩] 9)).mono HB2.out.size)); have ENF := hid (jA0 EN2.out (HBW4.out.alloc hs4 (.cells #[.string ⟨#[100, 101, 102]⟩, .string ⟨d.name.toArray⟩, .string ⟨S2.toArray⟩, .string ⟨S1.toArray⟩] 9))); have hsF := HBF.out.size; have y1 := jCO (w := w4.alloc (.cells #[.string ⟨#[100, 101, 102]⟩, .string ⟨d.name.toArray⟩, .string ⟨S2.toArray⟩, .string ⟨S1.toArray⟩] 9)) S3 [10] (by simp only [List.length_singleton]; omega); have y2 := jCO (w := w4.alloc (.cells #[.string ⟨#[100, 101, 102]⟩, .string ⟨d.name.toArray⟩, .string ⟨S2.toArray⟩, .string ⟨S1.toArray⟩] 9)) S (S3 ++ [10]) (by simp only [List.length_append, List.length_singleton]; omega); rw [<- HST.out] at y2; refine wR 11 rfl (fun K hK => ?_); go_simp; refine hK.out _ _ hHeld (fun hHeld => ?_); clear hK K; refine wR 12 rfl (fun K hK => ?_); go_simp; refine hK.out _ _ hHeld (fun hHeld => ?_); clear hK K; refine wR 13 rfl (fun K hK => ?_); go_simp; refine hK.out _ _ hHeld (fun hHeld => ?_); clear hK K; refine wpAnyH_done (by kernel_rfl) ?_ _; clear y1 y2; go_wp2
       go_roundw
       case rel => exact ⟨j + 1, by go_num, by omega, by first | rfl | (rw [HST.out, bytes_lit1, jH1]), ENF, HBF⟩
       case measure => simp [intOf]; omega
     . obtain rfl : NF = j := by omega
       have htk : FS.take NF = FS := by rw [<- HFL.out, List.take_length]
       rw [htk]; clear htk; go_wp2_with fail; go_ret; exact ⟨by first | rfl | (rw [<- HS0.out]; rfl), HB.out⟩
namespace Sw
theorem jNQ {f : Nat} {w w' : World} {v : Value} {d : Px.Data} (h : jD2 f w v d) (hb : Below w.heap.size w w') : jD2 f w' v d := by
 obtain ⟨nv, cv, rfl, h1, h2⟩ := h; exact ⟨nv, cv, rfl, h1.mono hb (fun u x _ hu => hu), h2.mono hb (fun u x _ hu => jM1 hu hb)⟩
theorem defK {f : Nat} {w w' : World} {v : Value} {d : Px.Def} (h : jG5 f w v d) (hb : Below w.heap.size w w') : jG5 f w' v d := by
 obtain ⟨nv, b0, b1, b2, b3, b4, b5, b6, rfl, h1, h2⟩ := h; exact ⟨nv, b0, b1, b2, b3, b4, b5, b6, rfl, h1.mono hb (fun u x _ hu => hu), jFQ h2 hb⟩
theorem jC9 (w : World) (o : Obj) : Below w.heap.size w (w.alloc o) := (Below.refl _ _).alloc (Nat.le_refl _) _
theorem jOA (w : World) (htab : Lib.TabIs Tryz.prog w "internal/strconv.uint64pow10" .u64 Lib.pow10Tab) (v : Value) (x : Px.Data) (hx : jD2 50 w v x) (hn : Px.nmD x) (hl : (Px.jC5 50 x).length <= 800000) :
 Calls Tryz.prog 11 #[v] w fun e w' => e = .returned (.string ⟨(Px.jC5 50 x).toArray⟩) /\ Below w.heap.size w w' := by
 obtain ⟨k0, hrun⟩ := run_data x hn; exact jJW 50 w htab v x (fun w0 h => by subst h; exact hx) _ k0 hrun (by omega) (fun w0 o h => by subst h; exact jNQ hx (jC9 w o))
theorem showDef2 (w : World) (htab : Lib.TabIs Tryz.prog w "internal/strconv.uint64pow10" .u64 Lib.pow10Tab) (v : Value) (x : Px.Def) (hx : jG5 50 w v x) (hg : jEP 50 x.body) (hn : Px.nmF x) (hl : (Px.jCL 50 x).length <= 800000) :
 Calls Tryz.prog 14 #[v] w fun e w' => e = .returned (.string ⟨(Px.jCL 50 x).toArray⟩) /\ Below w.heap.size w w' := by
 obtain ⟨k0, hrun⟩ := run_defn x hg hn; have hb : (Px.jAE 50 x.body).length <= (Px.jCL 50 x).length := jB7 (by simp); have hok := jLC 50 x.body hg hn.2.2 (by omega); exact jKZ 50 w htab v x (fun w0 h => by subst h; exact ⟨hx, hok⟩) _ k0 hrun (by omega) (fun w0 o h => by subst h; exact ⟨defK hx (jC9 w o), hok⟩)
theorem jO8 (f : Nat) (w : World) (htab : Lib.TabIs Tryz.prog w "internal/strconv.uint64pow10" .u64 Lib.pow10Tab) (v : Value) (x : Px.TypeE) (hx : jBW f w v x) (hn : Px.nmT f x) (hl : (Px.jBE f x).length <= 800000) :
 Calls Tryz.prog 12 #[v] w fun e w' => e = .returned (.string ⟨(Px.jBE f x).toArray⟩) /\ Below w.heap.size w w' := by
 obtain ⟨k0, hrun⟩ := jNE f x hn; exact jIS f w htab v x (fun w0 h => by subst h; exact hx) _ k0 hrun (by omega) (fun w0 o h => by subst h; exact jCK hx (jC9 w o))
theorem showPat2 (f : Nat) (w : World) (htab : Lib.TabIs Tryz.prog w "internal/strconv.uint64pow10" .u64 Lib.pow10Tab) (v : Value) (x : Px.Pat) (hx : jDG f w v x) (ho : OkP f x) (hn : Px.nmP f x) (hl : (Px.jB1 f x).length <= 800000) :
 Calls Tryz.prog 37 #[v] w fun e w' => e = .returned (.string ⟨(Px.jB1 f x).toArray⟩) /\ Below w.heap.size w w' := by
 obtain ⟨k0, hrun⟩ := jNF f x hn; have hok := jLB f x hn ho; exact Sw.jEJ f w htab v x (fun w0 h => by subst h; exact ⟨hx, hok⟩) _ k0 hrun (by omega) (fun w0 o h => by subst h; exact ⟨patK hx (jC9 w o), hok⟩)
theorem jO9 (f : Nat) (w : World) (htab : Lib.TabIs Tryz.prog w "internal/strconv.uint64pow10" .u64 Lib.pow10Tab) (v : Value) (x : Px.Expr) (hx : jAU f w v x) (hg : jEP f x) (hn : Px.nmE f x) (hl : (Px.jAE f x).length <= 800000) :
 Calls Tryz.prog 15 #[v] w fun e w' => e = .returned (.string ⟨(Px.jAE f x).toArray⟩) /\ Below w.heap.size w w' :=
 jGU f w htab v x ⟨hx, jLC f x hg hn (by omega)⟩ _ (jL1 f x hg hn) (by omega)
theorem WB.below {TT : TypeId} {k lo B : Nat} {w w' : World} {cs : Array Value} {T : List UInt8} (h : WB TT k lo B w cs T) (hb : Below w.heap.size w w') : WB TT k lo B w' cs T := by
 obtain ⟨bv, hbv, ho⟩ := h.own; exact ⟨(hb.block B h.lt).trans h.heap, h.size, h.low, h.addr, bv, hbv, jA5 ho hb⟩
end Sw
namespace Sw
def jBN (ds : List Px.Data) : List UInt8 := (ds.map fun d => Px.jC5 50 d ++ [10]).flatten
theorem jIC {ds : List Px.Data} {k : Nat} {d : Px.Data} (h : ds[k]? = some d) : jBN (ds.take (k + 1)) = jBN (ds.take k) ++ Px.jC5 50 d ++ [10] := by
 unfold jBN; rw [List.take_add_one, h]; simp
theorem jKC (ds : List Px.Data) (k : Nat) : (jBN (ds.take k)).length <= (jBN ds).length := by
 have : jBN ds = jBN (ds.take k) ++ jBN (ds.drop k) := by unfold jBN; rw [<- List.flatten_append, <- List.map_append, List.take_append_drop]
 rw [this]; simp
end Sw
namespace Sw
def jCD (ds : List Px.Def) : List UInt8 := (ds.map fun d => Px.jCL 50 d ++ [10]).flatten
theorem jJ3 {ds : List Px.Def} {k : Nat} {d : Px.Def} (h : ds[k]? = some d) : jCD (ds.take (k + 1)) = jCD (ds.take k) ++ Px.jCL 50 d ++ [10] := by
 unfold jCD; rw [List.take_add_one, h]; simp
theorem jLH (ds : List Px.Def) (k : Nat) : (jCD (ds.take k)).length <= (jCD ds).length := by
 have : jCD ds = jCD (ds.take k) ++ jCD (ds.drop k) := by unfold jCD; rw [<- List.flatten_append, <- List.map_append, List.take_append_drop]
 rw [this]; simp
end Sw
namespace Sw
theorem jE7 (q : Px.Prog) : Px.jC0 50 q = jBN q.datas ++ jCD q.defs := rfl
end Sw
namespace Sw
theorem alt12 {f : Nat} {w : World} {u : Value} {x : Px.Pat × Px.Expr} (h : jNX (jDG f w) (jAU f w) u x) :
 ∃ (k1 p1 i1 : Int) (s1 : ByteArray) (a1 : Option Addr) (m1 d1 : Nat) (k2 p2 i2 : Int) (s2 : ByteArray) (a2 : Option Addr) (m2 d2 : Nat) (a3 : Option Addr) (m3 d3 : Nat) (a4 : Option Addr) (m4 d4 : Nat),
  u = .agg #[.int .i64 k1, .int .i64 p1, .string s1, .int .i64 i1, .slice a1 m1 d1, .int .i64 k2, .int .i64 p2, .string s2, .int .i64 i2, .slice a2 m2 d2, .slice a3 m3 d3, .slice a4 m4 d4] /\ jDG f w (.agg #[.int .i64 k1, .int .i64 p1, .string s1, .int .i64 i1, .slice a1 m1 d1]) x.1 /\ jAU f w (.agg #[.int .i64 k2, .int .i64 p2, .string s2, .int .i64 i2, .slice a2 m2 d2, .slice a3 m3 d3, .slice a4 m4 d4]) x.2 := by
 obtain ⟨a0, a1, a2, a3, a4, b0, b1, b2, b3, b4, b5, b6, rfl, h1, h2⟩ := h; obtain ⟨k1, p1, i1, s1, q1, m1, d1, e1⟩ := jE8 f w _ _ h1; obtain ⟨k2, p2, i2, s2, q2, m2, d2, q3, m3, d3, q4, m4, d4, e2⟩ := jAP f w _ _ h2; simp only [Value.agg.injEq, Array.mk.injEq, List.cons.injEq, and_true] at e1 e2; obtain ⟨rfl, rfl, rfl, rfl, rfl⟩ := e1; obtain ⟨rfl, rfl, rfl, rfl, rfl, rfl, rfl⟩ := e2; exact ⟨_, _, _, _, _, _, _, _, _, _, _, _, _, _, _, _, _, _, _, _, rfl, h1, h2⟩
theorem jPA {f k p : Nat} {nm : List UInt8} {i : Int} {ns : List (List UInt8)} {xs : List Px.Expr} {al : List (Px.Pat × Px.Expr)} (hg : jEP (f + 1) (.mk k p nm i ns xs al)) (hn : Px.nmE (f + 1) (.mk k p nm i ns xs al))
 (hl : (Px.jAE (f + 1) (.mk k p nm i ns xs al)).length <= 800000) : ∀ a ∈ al, (Px.jB1 f a.1).length <= 800000 /\ (Px.jAE f a.2).length <= 800000 := by
 intro a ha; have hgg := hg; obtain ⟨h8, _, h01, h35, h4, h67, hgx, hga⟩ := hg; obtain ⟨n1, n2, n3, n4, n5⟩ := hn; by_cases k5 : k = 5
 . subst k5; obtain ⟨y, rfl⟩ := List.length_eq_one_iff.1 (h35 (by simp)); rw [jCC f 5 p nm i ns [y] al hgg] at hl; simp only [show ¬ (5 : Nat) = 0 by decide, show ¬ (5 : Nat) = 1 by decide, show ¬ (5 : Nat) = 2 by decide, show ¬ (5 : Nat) = 7 by decide, show ¬ (5 : Nat) = 3 by decide, show ¬ (5 : Nat) = 6 by decide, show ¬ (5 : Nat) = 8 by decide, show ¬ (5 : Nat) = 4 by decide, if_false] at hl; have h1 : (joined [Px.jB1 f a.1, Px.jAE f a.2]).length <= _ := jB7 (List.mem_cons_of_mem [99, 97, 115, 101] (List.mem_cons_of_mem (([y].map (Px.jAE f)).headD []) (List.mem_map_of_mem (f := fun a : Px.Pat × Px.Expr => joined [Px.jB1 f a.1, Px.jAE f a.2]) ha))); have h2 : (Px.jAE f a.2).length <= (joined [Px.jB1 f a.1, Px.jAE f a.2]).length := jB7 (by simp); have h3 : (Px.jB1 f a.1).length <= (joined [Px.jB1 f a.1, Px.jAE f a.2]).length := jB7 (by simp); omega
 . rw [n5 k5] at ha; cases ha
def PatsC (f : Nat) : Prop := ∀ (x : Px.Expr) (v : Value) (w : World), jAU f w v x -> jEP f x -> Px.nmE f x -> (Px.jAE f x).length <= 800000 -> Lib.TabIs Tryz.prog w "internal/strconv.uint64pow10" .u64 Lib.pow10Tab ->
 Calls Tryz.prog 17 #[v] w fun e w' => e = .returned (.bool true) /\ Below w.heap.size w w'
theorem jON (f : Nat) (ih : PatsC f) : PatsC (f + 1) := by
 intro x v w hx hg hn hl htab; obtain ⟨k0, p0, nm, i0, ns, xs, al⟩ := x; have hat := jPA hg hn hl; obtain ⟨gp, _, _⟩ := jGB f k0 p0 nm i0 ns xs al hg; obtain ⟨_, _, _, _, _, _, hgx, hga⟩ := hg; obtain ⟨_, _, n3, n4, _⟩ := hn; obtain ⟨nv, xv, av, rfl, r1, r2, r3⟩ := hx; obtain ⟨qn, cn, rfl⟩ := r1.len; obtain ⟨qx, cx, rfl⟩ := r2.len; obtain ⟨qa, ca, rfl⟩ := r3.len; have HTB := hid (fun (w' : World) (h : Below w.heap.size w w') => (Lib.tabBelow_of_tabIs htab) w' h); have HL := hid hl; have HX := hid r2; have HA := hid r3
 have HGP := hid gp; have HAT := hid hat; have HGX := hid hgx; have HGA := hid hga; have HN3 := hid n3; have HN4 := hid n4
 obtain ⟨NS, hNS⟩ : ∃ n, n = ns.length := ⟨_, rfl⟩
 rw [<- hNS]; generalize (nm.toArray : Array UInt8) = nma at *; clear htab hl r1 r2 r3 gp hat hgx hga n3 n4 hNS; go_enter Tryz.func17, Tryz.ntmps17; go_upto_region 1 with fail
 have EN := hid (jA3 w #[.int .i64 k0, .int .i64 p0, .string ⟨nma⟩, .int .i64 i0, .slice qn NS cn, .slice qx xs.length cx, .slice qa al.length ca] 47); have hbx := jC9 w (.cells #[.int .i64 k0, .int .i64 p0, .string ⟨nma⟩, .int .i64 i0, .slice qn NS cn, .slice qx xs.length cx, .slice qa al.length ca] 47); have HB0 := hid hbx; clear hbx; generalize w.alloc (.cells #[.int .i64 k0, .int .i64 p0, .string ⟨nma⟩, .int .i64 i0, .slice qn NS cn, .slice qx xs.length cx, .slice qa al.length ca] 47) = w1 at *; have y5 := jA EN.out 5 _ rfl; go_wp2_with fail; clear y5; have HR := hid (Below.refl w1.heap.size w1)
 go_loopw [10] (fun i wr => ∃ k : Nat, i = .int .i64 k /\ k <= xs.length /\ Hid (Below w.heap.size w wr) /\ Hid (Below w1.heap.size w1 wr)) (fun i _ => xs.length - (intOf i).toNat)
 case atStart => exact ⟨0, rfl, Nat.zero_le _, HB0, HR⟩
 case round =>
  clear HR; obtain ⟨k, rfl, hk, HB, HB1⟩ := hrel; by_cases hlt : k < xs.length
  . obtain ⟨y, hy⟩ : ∃ y, xs[k]? = some y := ⟨_, List.getElem?_eq_getElem hlt⟩
    have hym : y ∈ xs := List.mem_of_getElem? hy
    rcases HX.out with ⟨h0, _⟩ | ⟨g, o, c', hv, e1, e2, e3⟩
    . rw [h0] at hlt; simp at hlt
    injection hv with q1 _ q2
    subst q1; subst q2
    obtain ⟨u, hu, hsz, hc⟩ := e3 k y hy; obtain ⟨k2, p2, i2, s2, a2, m2, d2, a3, m3, d3, a4, m4, d4, rfl⟩ := jAP f w _ _ hu; have hcell : ∀ j z, (Value.agg #[.int .i64 k2, .int .i64 p2, .string s2, .int .i64 i2, .slice a2 m2 d2, .slice a3 m3 d3, .slice a4 m4 d4]).cells[j]? = some z -> wr.cell? ⟨g, o + k * 7 + j, none⟩ = some z := fun j z hz => (HB.out.cell (World.block_lt_of_cell? w _ (hc j z hz))).trans (hc j z hz)
    have x0 : wr.cell? ⟨g, o + k * 7, none⟩ = some (.int .i64 k2) := hcell 0 _ rfl; have x1 : wr.cell? ⟨g, o + k * 7 + 1, none⟩ = some (.int .i64 p2) := hcell 1 _ rfl; have x2 : wr.cell? ⟨g, o + k * 7 + 2, none⟩ = some (.string s2) := hcell 2 _ rfl; have x3 : wr.cell? ⟨g, o + k * 7 + 3, none⟩ = some (.int .i64 i2) := hcell 3 _ rfl; have x4 : wr.cell? ⟨g, o + k * 7 + 4, none⟩ = some (.slice a2 m2 d2) := hcell 4 _ rfl; have x5 : wr.cell? ⟨g, o + k * 7 + 5, none⟩ = some (.slice a3 m3 d3) := hcell 5 _ rfl; have x6 : wr.cell? ⟨g, o + k * 7 + 6, none⟩ = some (.slice a4 m4 d4) := hcell 6 _ rfl; have t1 : (k : Int) < (xs.length : Int) := by omega
    have t2 : (xs.length : Int) <= (cx : Int) := by omega
    have t3 := e2; have HU := hid hu; clear hu hsz hc hcell e1 e2 e3 hy; go_upto_region 4 with fail
    have EX := hid (jA3 wr #[.int .i64 k2, .int .i64 p2, .string s2, .int .i64 i2, .slice a2 m2 d2, .slice a3 m3 d3, .slice a4 m4 d4] 47); have hbx := jC9 wr (.cells #[.int .i64 k2, .int .i64 p2, .string s2, .int .i64 i2, .slice a2 m2 d2, .slice a3 m3 d3, .slice a4 m4 d4] 47); have HBW := bT HB hbx; have HB1W := bT HB1 hbx; have HE := hid (jFQ HU.out HBW.out); clear HU hbx HB HB1 x0 x1 x2 x3 x4 x5 x6; generalize hq : wr.heap.size = N at *; generalize wr.alloc (.cells #[.int .i64 k2, .int .i64 p2, .string s2, .int .i64 i2, .slice a2 m2 d2, .slice a3 m3 d3, .slice a4 m4 d4] 47) = W1 at *; clear hq; have y0 := jA EX.out 0 _ rfl; have y1 := jA EX.out 1 _ rfl; have y2 := jA EX.out 2 _ rfl; have y3 := jA EX.out 3 _ rfl; have y4 := jA EX.out 4 _ rfl; have y5 := jA EX.out 5 _ rfl; have y6 := jA EX.out 6 _ rfl; have hlen := HGP.out y hym; go_wp2_with fail; refine (ih y _ W1 HE.out (HGX.out y hym) (HN3.out y hym) (by have := HL.out; omega) (HTB.out _ HBW.out)).mono ?_; rintro e W2 ⟨rfl, hb2⟩; have HB2 := bT HBW hb2; have HB12 := bT HB1W hb2; clear hb2 hlen; go_wp2_with fail; exact ⟨⟨k + 1, by go_num, by omega, HB2, HB12⟩, by simp [intOf]; omega⟩
  . obtain rfl : k = xs.length := by omega
    have hlt0 : ¬ ((xs.length : Int) < (xs.length : Int)) := by omega
    have y6 := (HB1.out.cell (World.block_lt_of_cell? w1 _ (jA EN.out 6 _ rfl))).trans (jA EN.out 6 _ rfl); clear hlt; go_wp2_with fail; clear y6 hlt0; obtain ⟨wa, hwa⟩ : ∃ x, x = wr := ⟨wr, rfl⟩
    subst hwa
    go_loopw [21] (fun i wr => ∃ k : Nat, i = .int .i64 k /\ k <= al.length /\ Hid (Below w.heap.size w wr) /\ Hid (Below w1.heap.size w1 wr)) (fun i _ => al.length - (intOf i).toNat)
    case atStart => exact ⟨0, rfl, Nat.zero_le _, HB, HB1⟩
    case round =>
     clear HB HB1; obtain ⟨k, rfl, hk, HB, HB1⟩ := hrel; by_cases hlt : k < al.length
     . obtain ⟨a, ha⟩ : ∃ a, al[k]? = some a := ⟨_, List.getElem?_eq_getElem hlt⟩
       have ham : a ∈ al := List.mem_of_getElem? ha; have hga := HGA.out; have n4 := HN4.out
       obtain ⟨hlp, hle⟩ := HAT.out a ham
       rcases HA.out with ⟨h0, _⟩ | ⟨g, o, c', hv, e1, e2, e3⟩
       . rw [h0] at hlt; simp at hlt
       injection hv with q1 _ q2
       subst q1; subst q2
       obtain ⟨u, hu, hsz, hc⟩ := e3 k a ha; obtain ⟨k1, p1, i1, s1, a1, m1, d1, k2, p2, i2, s2, a2, m2, d2, a3, m3, d3, a4, m4, d4, rfl, hp, he⟩ := alt12 hu; have hcell : ∀ j z, (Value.agg #[.int .i64 k1, .int .i64 p1, .string s1, .int .i64 i1, .slice a1 m1 d1, .int .i64 k2, .int .i64 p2, .string s2, .int .i64 i2, .slice a2 m2 d2, .slice a3 m3 d3, .slice a4 m4 d4]).cells[j]? = some z -> wr.cell? ⟨g, o + k * 12 + j, none⟩ = some z := fun j z hz => (HB.out.cell (World.block_lt_of_cell? w _ (hc j z hz))).trans (hc j z hz)
       have x0 : wr.cell? ⟨g, o + k * 12, none⟩ = some (.int .i64 k1) := hcell 0 _ rfl; have x1 : wr.cell? ⟨g, o + k * 12 + 1, none⟩ = some (.int .i64 p1) := hcell 1 _ rfl; have x2 : wr.cell? ⟨g, o + k * 12 + 2, none⟩ = some (.string s1) := hcell 2 _ rfl; have x3 : wr.cell? ⟨g, o + k * 12 + 3, none⟩ = some (.int .i64 i1) := hcell 3 _ rfl; have x4 : wr.cell? ⟨g, o + k * 12 + 4, none⟩ = some (.slice a1 m1 d1) := hcell 4 _ rfl; have x5 : wr.cell? ⟨g, o + k * 12 + 5, none⟩ = some (.int .i64 k2) := hcell 5 _ rfl; have x6 : wr.cell? ⟨g, o + k * 12 + 6, none⟩ = some (.int .i64 p2) := hcell 6 _ rfl; have x7 : wr.cell? ⟨g, o + k * 12 + 7, none⟩ = some (.string s2) := hcell 7 _ rfl; have x8 : wr.cell? ⟨g, o + k * 12 + 8, none⟩ = some (.int .i64 i2) := hcell 8 _ rfl; have x9 : wr.cell? ⟨g, o + k * 12 + 9, none⟩ = some (.slice a2 m2 d2) := hcell 9 _ rfl; have x10 : wr.cell? ⟨g, o + k * 12 + 10, none⟩ = some (.slice a3 m3 d3) := hcell 10 _ rfl; have x11 : wr.cell? ⟨g, o + k * 12 + 11, none⟩ = some (.slice a4 m4 d4) := hcell 11 _ rfl; have t1 : (k : Int) < (al.length : Int) := by omega
       have t2 : (al.length : Int) <= (ca : Int) := by omega
       have t3 := e2; have HP0 := hid hp; have HE0 := hid he
       clear hu hp he hsz hc hcell e1 e2 e3 ha; go_upto_region 10 with fail
       have EX := hid (jA3 wr #[.int .i64 k1, .int .i64 p1, .string s1, .int .i64 i1, .slice a1 m1 d1, .int .i64 k2, .int .i64 p2, .string s2, .int .i64 i2, .slice a2 m2 d2, .slice a3 m3 d3, .slice a4 m4 d4] 86); have hbx := jC9 wr (.cells #[.int .i64 k1, .int .i64 p1, .string s1, .int .i64 i1, .slice a1 m1 d1, .int .i64 k2, .int .i64 p2, .string s2, .int .i64 i2, .slice a2 m2 d2, .slice a3 m3 d3, .slice a4 m4 d4] 86); have HBW := bT HB hbx; have HB1W := bT HB1 hbx; have HE := hid (jFQ HE0.out HBW.out); have HP := hid (patK HP0.out HBW.out); clear HE0 HP0 hbx HB HB1 x0 x1 x2 x3 x4 x5 x6 x7 x8 x9 x10 x11; generalize hq : wr.heap.size = N at *; generalize wr.alloc (.cells #[.int .i64 k1, .int .i64 p1, .string s1, .int .i64 i1, .slice a1 m1 d1, .int .i64 k2, .int .i64 p2, .string s2, .int .i64 i2, .slice a2 m2 d2, .slice a3 m3 d3, .slice a4 m4 d4] 86) = W1 at *; clear hq; have x0 := jA EX.out 0 _ rfl; have x1 := jA EX.out 1 _ rfl; have x2 := jA EX.out 2 _ rfl; have x3 := jA EX.out 3 _ rfl; have x4 := jA EX.out 4 _ rfl; have x5 := jA EX.out 5 _ rfl; have x6 := jA EX.out 6 _ rfl; have x7 := jA EX.out 7 _ rfl; have x8 := jA EX.out 8 _ rfl; have x9 := jA EX.out 9 _ rfl; have x10 := jA EX.out 10 _ rfl; have x11 := jA EX.out 11 _ rfl; refine wp_region_held_drew (S := fun (u : World) => Below W1.heap.size W1 u) (by kernel_rfl) (show Below W1.heap.size W1 W1.drew from (Below.refl _ _).drew) (fun hHeld => ?_); refine wT 0 (.pointer (some ⟨N, 0, none⟩)) rfl (Or.inl ⟨by rfl, fun w' hSw => by go_simp⟩) hHeld ?_; refine wT 1 (.agg #[.int .i64 k1, .int .i64 p1, .string s1, .int .i64 i1, .slice a1 m1 d1]) rfl (Or.inl ⟨by rfl, fun w' hSw => by have hq : Below W1.heap.size W1 w' := hSw; have z0 := (hq.cell (World.block_lt_of_cell? W1 _ x0)).trans x0; have z1 := (hq.cell (World.block_lt_of_cell? W1 _ x1)).trans x1; have z2 := (hq.cell (World.block_lt_of_cell? W1 _ x2)).trans x2; have z3 := (hq.cell (World.block_lt_of_cell? W1 _ x3)).trans x3; have z4 := (hq.cell (World.block_lt_of_cell? W1 _ x4)).trans x4; clear x0 x1 x2 x3 x4 x5 x6 x7 x8 x9 x10 x11; go_simp⟩) hHeld ?_; refine wT 3 (.pointer (some ⟨N, 0, none⟩)) rfl (Or.inl ⟨by rfl, fun w' hSw => by go_simp⟩) hHeld ?_; refine wT 4 (.agg #[.int .i64 k1, .int .i64 p1, .string s1, .int .i64 i1, .slice a1 m1 d1]) rfl (Or.inl ⟨by rfl, fun w' hSw => by have hq : Below W1.heap.size W1 w' := hSw; have z0 := (hq.cell (World.block_lt_of_cell? W1 _ x0)).trans x0; have z1 := (hq.cell (World.block_lt_of_cell? W1 _ x1)).trans x1; have z2 := (hq.cell (World.block_lt_of_cell? W1 _ x2)).trans x2; have z3 := (hq.cell (World.block_lt_of_cell? W1 _ x3)).trans x3; have z4 := (hq.cell (World.block_lt_of_cell? W1 _ x4)).trans x4; clear x0 x1 x2 x3 x4 x5 x6 x7 x8 x9 x10 x11; go_simp⟩) hHeld ?_; simp only [Act.put, jPC, jPD, jPE, jPF, jPG, jPH]; have hd : Below W1.heap.size W1 W1.drew := (Below.refl _ _).drew; have HD := hid hd; clear hd; generalize W1.drew = w4 at HD hHeld ⊢; refine wR 2 rfl (fun K hK => ?_); go_simp; refine (showPat2 f w4 (HTB.out _ (HBW.out.trans (HD.out.mono HBW.out.size))) _ a.1 (patK HP.out HD.out) (hga a ham).1 (n4 a ham).1 hlp).mono ?_; rintro e w5 ⟨rfl, hb5⟩; have HD5 := bT HD hb5; clear hb5; refine hK.out _ _ HD5.out (fun hHeld => ?_); clear hK K
       refine wR 5 rfl (fun K hK => ?_); go_simp; refine (_root_.Go.Proofs.YtnhndamfbeiljaaGreatDoor.jEJ f _ a.1 w5 (patK HP.out HD5.out) (hga a ham).1 hlp (HTB.out _ (HBW.out.trans (HD5.out.mono HBW.out.size)))).mono ?_; rintro e w6 ⟨rfl, hb6⟩; have HD6 := bT HD5 hb6; clear hb6; refine hK.out _ _ HD6.out (fun hHeld => ?_); clear hK K
       generalize Px.jB1 f a.1 = TX at *; refine wR 6 rfl (fun K hK => ?_); go_simp; refine hK.out _ _ HD6.out (fun hHeld => ?_); clear hK K
       refine wR 7 rfl (fun K hK => ?_); go_simp; refine hK.out _ _ HD6.out (fun hHeld => ?_); clear hK K
       refine wR 8 rfl (fun K hK => ?_); go_simp; refine hK.out _ _ HD6.out (fun hHeld => ?_); clear hK K
       refine wR 9 rfl (fun K hK => ?_); go_simp; have z5 := (HD6.out.cell (World.block_lt_of_cell? W1 _ x5)).trans x5; have z6 := (HD6.out.cell (World.block_lt_of_cell? W1 _ x6)).trans x6; have z7 := (HD6.out.cell (World.block_lt_of_cell? W1 _ x7)).trans x7; have z8 := (HD6.out.cell (World.block_lt_of_cell? W1 _ x8)).trans x8; have z9 := (HD6.out.cell (World.block_lt_of_cell? W1 _ x9)).trans x9; have z10 := (HD6.out.cell (World.block_lt_of_cell? W1 _ x10)).trans x10; have z11 := (HD6.out.cell (World.block_lt_of_cell? W1 _ x11)).trans x11; go_simp; refine hK.out _ _ HD6.out (fun hHeld => ?_); clear hK K
       clear z5 z6 z7 z8 z9 z10 z11; refine wR 10 rfl (fun K hK => ?_); go_simp; refine (ih a.2 _ w6 (jFQ HE.out HD6.out) (hga a ham).2 (n4 a ham).2 hle (HTB.out _ (HBW.out.trans (HD6.out.mono HBW.out.size)))).mono ?_; rintro e w7 ⟨rfl, hb7⟩; have HD7 := bT HD6 hb7; clear hb7; refine hK.out _ _ HD7.out (fun hHeld => ?_); clear hK K
       refine wR 11 rfl (fun K hK => ?_); go_simp; refine hK.out _ _ HD7.out (fun hHeld => ?_); clear hK K
       refine wR 12 rfl (fun K hK => ?_); go_simp; refine hK.out _ _ HD7.out (fun hHeld => ?_); clear hK K
       refine wpAnyH_done (by kernel_rfl) ?_ _; have HB2 := hid (HBW.out.trans (HD7.out.mono HBW.out.size)); have HB12 := hid (HB1W.out.trans (HD7.out.mono HB1W.out.size)); go_wp2_with fail; exact ⟨⟨k + 1, by go_num, by omega, HB2, HB12⟩, by simp [intOf]; omega⟩
     . obtain rfl : k = al.length := by omega
       have hlt0 : ¬ ((al.length : Int) < (al.length : Int)) := by omega
       go_wp2_with fail; go_ret; exact ⟨rfl, HB.out⟩
theorem pats_any : ∀ f, PatsC f := by
 intro f
 induction f with
 | zero => intro x v w h; exact h.elim
 | succ f ih => exact jON f ih
end Sw

end Go.Proofs.YtnhndamfbeiljaaGreatDoor
