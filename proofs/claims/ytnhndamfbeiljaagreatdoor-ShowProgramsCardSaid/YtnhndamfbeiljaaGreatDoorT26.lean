import Derived.Test.YtnhndamfbeiljaaGreatDoorT25
import Derived.Test.YtnhndamfbeiljaaGreatDoorT24
set_option linter.unusedVariables false
set_option linter.unusedSimpArgs false
set_option maxHeartbeats 4000000
set_option maxRecDepth 100000
namespace Go.Proofs.YtnhndamfbeiljaaGreatDoor
open Go Go.RowKit
open Go.Lib (hid)
open List renaming setIfInBounds_toArray → jR2, set_cons_zero → jR3, set_cons_succ → jR4
theorem jF5 {l : List (List UInt8)} {k : Nat} {x : List UInt8} (h : l[k]? = some x) : (l.take (k + 1)).flatten = (l.take k).flatten ++ x := by
 rw [List.take_add_one, h]; simp
theorem jG7 (l : List (List UInt8)) : ∀ k, (l.take k).flatten.length <= l.flatten.length := by
 induction l with
 | nil => intro k; simp
 | cons a l ih =>
   intro k; cases k with
   | zero => simp
   | succ k => simp only [List.take_succ_cons, List.flatten_cons, List.length_append]; have := ih k; omega
theorem jN1 {l : List (List UInt8)} {x : List UInt8} (h : x ∈ l) : x.length <= l.flatten.length := by
 induction l with
 | nil => cases h
 | cons a l ih =>
   simp only [List.flatten_cons, List.length_append]
   rcases List.mem_cons.1 h with rfl | h
   . omega
   . have := ih h; omega
theorem jMG {α : Type} {sz : Nat} {rep : Value -> α -> Prop} {w : World} {v : Value} {xs : List α} (h : jAI sz rep w v xs) : (xs.length : Int) <= 9223372036854775807 := by
 rcases h with ⟨rfl, _⟩ | ⟨g, o, c, _, h1, h2, _⟩
 . simp
 . omega
theorem jND {f : Nat} {w w' : World} {v : Value} {c : Px.Con} (h : jG4 f w v c) (hb : Below w.heap.size w w') : jG4 f w' v c := by
 obtain ⟨av, rfl, h1⟩ := h; exact ⟨av, rfl, h1.mono hb (fun u x _ hu => jFA hu hb)⟩
theorem jKX (f : Nat) (v : Value) (q : Px.Prog) (w : World) (h : jER f w v q) (hgood : ∀ d ∈ q.defs, jF7 f d.body) (hlen : (Px.jB1 f q).length <= 800000) (htab : Lib.TabIs Tryz.prog w "internal/strconv.uint64pow10" .u64 Lib.pow10Tab) :
 Calls Tryz.prog 10 #[v] w fun e w' => e = .returned (.string ⟨(Px.jB1 f q).toArray⟩) /\ Below w.heap.size w w' := by
 obtain ⟨dv, fv, rfl, hds, hfs⟩ := h; obtain ⟨q1, c1, rfl⟩ := hds.len; obtain ⟨q2, c2, rfl⟩ := hfs.len; obtain ⟨i0, hi, hz0, hz1, hz2⟩ := info_parts jG6; have HI1 := hid hz1; have HI2 := hid hz2; have HI0 := hid hz0; have HI := hid hi
 clear hi hz0 hz1 hz2; obtain ⟨DS, hDS⟩ : ∃ DS, DS = q.datas.map fun d => Px.jBJ f d ++ [10] := ⟨_, rfl⟩
 obtain ⟨FS, hFS⟩ : ∃ FS, FS = q.defs.map fun d => Px.jC0 f d ++ [10] := ⟨_, rfl⟩
 have hout : Px.jB1 f q = DS.flatten ++ FS.flatten := by rw [hDS, hFS]; rfl
 rw [hout] at hlen ⊢; rw [List.length_append] at hlen; have HDS := hid hDS; have HFS := hid hFS; have HD := hid hds; have HF := hid hfs; have HGOOD := hid hgood; have HTAB := hid htab
 obtain ⟨ND, hND⟩ : ∃ ND, ND = q.datas.length := ⟨_, rfl⟩
 obtain ⟨NF, hNF⟩ : ∃ NF, NF = q.defs.length := ⟨_, rfl⟩
 have hDl : DS.length = ND := by rw [hDS, hND]; simp
 have hFl : FS.length = NF := by rw [hFS, hNF]; simp
 rw [<- hND, <- hNF]; have hnb1 : (ND : Int) <= 9223372036854775807 := by rw [hND]; exact jMG hds
 have hnb2 : (NF : Int) <= 9223372036854775807 := by rw [hNF]; exact jMG hfs
 have HND := hid hND; have HNF := hid hNF; have HDL := hid hDl; have HFL := hid hFl
 clear hds hfs hgood htab hDS hFS hout hND hNF hDl hFl; have hb0 : Below w.heap.size w (w.alloc (.cells #[.slice q1 ND c1, .slice q2 NF c2] 27)) := (Below.refl _ _).alloc (Nat.le_refl _) _; have EN := hid (jA3 w #[.slice q1 ND c1, .slice q2 NF c2] 27); have HB0 := hid hb0; clear hb0; go_enter Tryz.func10, Tryz.ntmps10; go_wp2_with fail
 go_loopw [3, 4] (fun s i wr => ∃ k : Nat, i = .int .i64 k /\ k <= ND /\ s = .string ⟨((DS.take k).flatten).toArray⟩ /\ Hid (wr.heap[w.heap.size]? = some (.cells #[.slice q1 ND c1, .slice q2 NF c2] 27 (0, 0))) /\ Hid (Below w.heap.size w wr)) (fun _ i _ => ND - (intOf i).toNat)
 case atStart => exact ⟨0, rfl, Nat.zero_le _, rfl, EN, HB0⟩
 case round =>
  clear EN HB0; obtain ⟨k, rfl, hk, rfl, EN, HB⟩ := hrel; have hs := HB.out.size; have e0 := jA EN.out 0 _ rfl; have e1 := jA EN.out 1 _ rfl; have hle := jG7 DS k; by_cases hlt : k < ND
  . obtain ⟨d, hd⟩ : ∃ d, q.datas[k]? = some d := ⟨_, List.getElem?_eq_getElem (by rw [<- HND.out]; exact hlt)⟩
    rcases HD.out with ⟨h, _⟩ | ⟨g, o, c', hv, h1, h2, h3⟩
    . have := HND.out; rw [h] at this; simp at this; omega
    injection hv with hq _ hc
    subst hq; subst hc
    obtain ⟨u, ⟨nv, cv, rfl, hps, hcs⟩, _, huc⟩ := h3 k d hd; obtain ⟨pq, pc, rfl⟩ := hps.len; obtain ⟨cq, cc, rfl⟩ := hcs.len; have up : ∀ j z, w.cell? ⟨g, j, none⟩ = some z -> wr.cell? ⟨g, j, none⟩ = some z := fun j z hz => (HB.out.cell (World.block_lt_of_cell? w _ hz)).trans hz
    have f0 := up _ _ (huc 0 _ rfl); have f1 := up _ _ (huc 1 _ rfl); have f2 := up _ _ (huc 2 _ rfl); have f3 := up _ _ (huc 3 _ rfl)
    rw [Nat.add_zero] at f0; have hdx : DS[k]? = some (Px.jBJ f d ++ [10]) := by rw [HDS.out, List.getElem?_map, hd]; rfl
    have hst := jF5 hdx; have hdl := jN1 (List.mem_of_getElem? hdx); rw [List.length_append, List.length_singleton] at hdl; obtain ⟨CS, hCS⟩ : ∃ CS, CS = d.cons.map (Px.jD2 f) := ⟨_, rfl⟩
    have hdt : Px.jBJ f d = joined ([100, 97, 116, 97] :: d.name :: joined d.params :: CS) := by rw [hCS]; rfl
    rw [hdt, jAX] at hdl; have hcnt := jDV ([100, 97, 116, 97] :: d.name :: joined d.params :: CS); have hCl : CS.length = d.cons.length := by rw [hCS]; simp
    have hnc : d.cons.length <= 800000 := by simp only [List.length_cons, hCl] at hcnt; omega
    have hpl := jCF ([100, 97, 116, 97] :: d.name :: joined d.params :: CS) (joined d.params) (by simp); rw [jAX] at hpl; have hgp : (glue d.params).length <= 900000 := by omega
    have hgd : (glue ([100, 97, 116, 97] :: d.name :: joined d.params :: CS)).length <= 800000 := by omega
    have HST := hid hst; have HDT := hid hdt; have HCS := hid hCS; have HCL := hid hCl; have HPS := hid (jDI hps HB.out); have HCC := hid hcs; have HGD := hid hgd
    have hsum : ((DS.take k).flatten).length + (joined ([100, 97, 116, 97] :: d.name :: joined d.params :: CS)).length + 1 <= 800000 := by
     have h5 := jG7 DS (k + 1); rw [hst, hdt, List.length_append, List.length_append, List.length_singleton] at h5; omega
    have HSUM := hid hsum; clear hst hdt hdl hcnt hCS hCl hpl hps hcs huc up h3 hd hdx hgd hsum hle; obtain ⟨S, hS⟩ : ∃ S, S = (DS.take k).flatten := ⟨_, rfl⟩
    rw [<- hS] at HST HSUM ⊢; clear hS; obtain ⟨V, hV⟩ : ∃ x, x = wr := ⟨wr, rfl⟩
    subst hV; have EN2 := hid (jA2 EN.out (.cells #[.int .i64 d.pos, .string ⟨d.name.toArray⟩, .slice pq d.params.length pc, .slice cq d.cons.length cc] 36)); have ED := hid (jA3 V #[.int .i64 d.pos, .string ⟨d.name.toArray⟩, .slice pq d.params.length pc, .slice cq d.cons.length cc] 36); have hal : Below V.heap.size V (V.alloc (.cells #[.int .i64 d.pos, .string ⟨d.name.toArray⟩, .slice pq d.params.length pc, .slice cq d.cons.length cc] 36)) := (Below.refl _ _).alloc (Nat.le_refl _) _; have HB2 := hid (HB.out.trans (hal.mono hs)); have HPS2 := hid (jDI HPS.out hal); clear hal HPS; go_wp2_with fail; obtain ⟨U, hU⟩ : ∃ U, U = V.alloc (.cells #[.int .i64 d.pos, .string ⟨d.name.toArray⟩, .slice pq d.params.length pc, .slice cq d.cons.length cc] 36) := ⟨_, rfl⟩
    rw [<- hU] at EN2 ED HB2 HPS2 ⊢; clear hU f0 f1 f2 f3 e0 e1; have d1 := jA ED.out 1 _ rfl; have d2 := jA ED.out 2 _ rfl
    go_still_tail 5, (by kernel_rfl)
    still_call (jBX _ d.params _ (jDI HPS2.out (Below.drew (Below.refl _ _))) hgp)
    repeat still_step
    try refine wpStill_nil ?_
    change wpList _ _ _ _ _ U.drew; replace EN2 : Hid (U.drew.heap[w.heap.size]? = _) := EN2; replace ED : Hid (U.drew.heap[V.heap.size]? = _) := ED; replace HB2 := hid HB2.out.drew; have hVU : V.heap.size < U.drew.heap.size := jA6 ED.out; clear d1 d2 HPS2 hgp; generalize U.drew = U at *; have hsU := HB2.out.size; obtain ⟨h0, hh0⟩ : ∃ h0, h0 = [[100, 97, 116, 97], d.name, joined d.params] := ⟨_, rfl⟩
    have hown := World.ownsRow_lit (base := U.heap.size) (e := 9) (size := 1) U #[.string ⟨#[100, 97, 116, 97]⟩, .string ⟨d.name.toArray⟩, .string ⟨(joined d.params).toArray⟩] 3 (Nat.le_refl _) (by unfold maxLen; omega) rfl
    have hown' : (U.alloc (.cells #[.string ⟨#[100, 97, 116, 97]⟩, .string ⟨d.name.toArray⟩, .string ⟨(joined d.params).toArray⟩] 9)).ownsRow U.heap.size 9 1 (.slice (some ⟨U.heap.size, 0, none⟩) 3 3) (0 + 3) (jBB (h0 ++ CS.take 0)) := by
     rw [hh0]; exact hown
    have hal : Below U.heap.size U (U.alloc (.cells #[.string ⟨#[100, 97, 116, 97]⟩, .string ⟨d.name.toArray⟩, .string ⟨(joined d.params).toArray⟩] 9)) := (Below.refl _ _).alloc (Nat.le_refl _) _; have HOWN := hid hown'; have HBU := hid hal; have HH0 := hid hh0
    clear hown hown' hal hh0; go_wp2_with fail
    go_loopw [6, 7] (fun lv i wr => ∃ j : Nat, i = .int .i64 j /\ j <= d.cons.length /\ Hid (wr.ownsRow U.heap.size 9 1 lv (j + 3) (jBB (h0 ++ CS.take j))) /\ Hid (Below U.heap.size U wr)) (fun _ i _ => d.cons.length - (intOf i).toNat)
    case atStart => exact ⟨0, rfl, Nat.zero_le _, HOWN, HBU⟩
    case round =>
     clear HOWN HBU; obtain ⟨j, rfl, hj, HOWN, HBU⟩ := hrel; have hs2 := HBU.out.size; have ED2 := hid (jA0 ED.out HBU.out); have d3 := jA ED2.out 3 _ rfl; by_cases hlt2 : j < d.cons.length
     . obtain ⟨cn, hcn⟩ : ∃ x, d.cons[j]? = some x := ⟨_, List.getElem?_eq_getElem hlt2⟩
       have hbw : Below w.heap.size w wr := HB2.out.trans (HBU.out.mono HB2.out.size)
       rcases HCC.out with ⟨h, _⟩ | ⟨gc, oc, cc', hv, h1c, h2c, h3c⟩
       . rw [h] at hlt2; simp at hlt2
       injection hv with hq _ hc
       subst hq; subst hc
       obtain ⟨u, ⟨av, rfl, hfl⟩, _, huc⟩ := h3c j cn hcn; obtain ⟨fq, fc, rfl⟩ := hfl.len; have up : ∀ j z, w.cell? ⟨gc, j, none⟩ = some z -> wr.cell? ⟨gc, j, none⟩ = some z := fun j z hz => (hbw.cell (World.block_lt_of_cell? w _ hz)).trans hz
       have f1 := up _ _ (huc 1 _ rfl); have f2 := up _ _ (huc 2 _ rfl)
       obtain ⟨TS, hTS⟩ : ∃ TS, TS = cn.fields.map (Px.showT f) := ⟨_, rfl⟩
       have hcx : CS[j]? = some (joined (cn.name :: TS)) := by rw [HCS.out, List.getElem?_map, hcn, hTS]; rfl
       have hcl := jCF ([100, 97, 116, 97] :: d.name :: joined d.params :: CS) _ (List.mem_cons_of_mem _ (List.mem_cons_of_mem _ (List.mem_cons_of_mem _ (List.mem_of_getElem? hcx)))); rw [jAX] at hcl; have hgt : (glue (cn.name :: TS)).length <= 800000 := by have := HGD.out; omega
       have hcnt := jDV (cn.name :: TS); have hTl : TS.length = cn.fields.length := by rw [hTS]; simp
       have hnf : cn.fields.length <= 800000 := by simp only [List.length_cons, hTl] at hcnt; omega
       have HCX := hid hcx; have HTS := hid hTS; have HTL := hid hTl; have HFL := hid hfl; have HGT := hid hgt
       obtain ⟨X, hX⟩ : ∃ x, x = wr := ⟨wr, rfl⟩
       subst hX; have g1 := f1; have g2 := f2
       have CELLS := hid (And.intro f1 (And.intro f2 d3)); clear h3c huc up hcx hTS hTl hcl hgt hcnt hfl hcn g1 g2; have hown1 := World.ownsRow_lit (base := X.heap.size) (e := 9) (size := 1) X #[.string ⟨cn.name.toArray⟩] 1 (Nat.le_refl _) (by unfold maxLen; omega) rfl; have hown1' : (X.alloc (.cells #[.string ⟨cn.name.toArray⟩] 9)).ownsRow X.heap.size 9 1 (.slice (some ⟨X.heap.size, 0, none⟩) 1 1) (0 + 1) (jBB (cn.name :: TS.take 0)) := hown1; have OWN1 := hid hown1'; have HB1 := hid ((Below.refl X.heap.size X).alloc (Nat.le_refl _) (.cells #[.string ⟨cn.name.toArray⟩] 9)); clear hown1 hown1'; go_wp2_with fail
       go_loopw [8, 9] (fun cv i wr => ∃ m : Nat, i = .int .i64 m /\ m <= cn.fields.length /\ Hid (wr.ownsRow X.heap.size 9 1 cv (m + 1) (jBB (cn.name :: TS.take m))) /\ Hid (Below X.heap.size X wr)) (fun _ i _ => cn.fields.length - (intOf i).toNat)
       case atStart => exact ⟨0, rfl, Nat.zero_le _, OWN1, HB1⟩
       case round =>
        clear OWN1 HB1 f1 f2 d3; obtain ⟨m, rfl, hm, HOC, HBX⟩ := hrel; have hsX := HBX.out.size; have f1 := (HBX.out.cell (World.block_lt_of_cell? _ _ CELLS.out.1)).trans CELLS.out.1; have f2 := (HBX.out.cell (World.block_lt_of_cell? _ _ CELLS.out.2.1)).trans CELLS.out.2.1; have d3 := (HBX.out.cell (World.block_lt_of_cell? _ _ CELLS.out.2.2)).trans CELLS.out.2.2; have hbwX : Below w.heap.size w wr := (HB2.out.trans (HBU.out.mono HB2.out.size)).trans (HBX.out.mono (HB2.out.trans (HBU.out.mono HB2.out.size)).size); by_cases hlt3 : m < cn.fields.length
        . obtain ⟨t, ht⟩ : ∃ t, cn.fields[m]? = some t := ⟨_, List.getElem?_eq_getElem hlt3⟩
          rcases HFL.out with ⟨h, _⟩ | ⟨gf, of, cf, hv, h1f, h2f, h3f⟩
          . rw [h] at hlt3; simp at hlt3
          injection hv with hq _ hc
          subst hq; subst hc
          obtain ⟨u, hu, hus, huc⟩ := h3f m t ht; obtain ⟨tp, ts, q1', n1, k1, rfl⟩ := jHD f _ _ _ hu; have t0 := huc 0 _ rfl; have t1 := huc 1 _ rfl; have t2 := huc 2 _ rfl
          replace t0 := (hbwX.cell (World.block_lt_of_cell? w _ t0)).trans t0; replace t1 := (hbwX.cell (World.block_lt_of_cell? w _ t1)).trans t1; replace t2 := (hbwX.cell (World.block_lt_of_cell? w _ t2)).trans t2; rw [Nat.add_zero] at t0; have HU := hid (jFA hu hbwX); have hpl := jCF (cn.name :: TS) (Px.showT f t) (by rw [HTS.out]; exact List.mem_cons_of_mem _ (List.mem_map_of_mem (List.mem_of_getElem? ht))); have hpl2 : (Px.showT f t).length <= 800000 := by have := HGT.out; omega
          have htm : TS[m]? = some (Px.showT f t) := by rw [HTS.out, List.getElem?_map, ht]; rfl
          have HTM := hid htm; clear h3f huc hu hus ht hpl htm hbwX; go_wp2_with fail; refine (jKV f _ t _ HU.out hpl2).mono ?_; rintro e w2 ⟨rfl, hb2⟩; have HOC2 := hid (jA5 HOC.out hb2); have HBX2 := bT HBX hb2; have hs3 := HBX2.out.size; obtain ⟨S1, hS1⟩ : ∃ S, S = Px.showT f t := ⟨_, rfl⟩
          rw [<- hS1] at HTM ⊢; clear hb2 hS1 hpl2; go_wp2_with (at_builtin; refine jAN _ rfl (.tmp 55) (.tmp 66) 33 rfl X.heap.size 9 i0 (.string ⟨#[]⟩) 1 16 Tryz.underlying33 HI.out HI0.out HI1.out HI2.out rfl (by decide) _ (m + 1) _ rfl (HOC2.out.alloc _) ⟨w2.heap.size, 0, none⟩ 1 1 [.string ⟨S1.toArray⟩] rfl (by decide) rfl ?ca1 ?ca2 ?ca3 ?ca4 ?ca5 ?_)
          case ca1 => exact fun j u h => jFC w2 S1 _ j u h
          case ca2 => exact jEH S1
          case ca3 => unfold maxLen; omega
          case ca4 => omega
          case ca5 => simp; omega
          intro v' w3 hown3 hgr hloc; have hB3 := (HBX2.out.alloc hs3 (.cells #[.string ⟨S1.toArray⟩] 9)).grown hgr (by simp; omega) (fun kk hkk => (HOC2.out.lt kk hkk).1)
          have hl3 : jBB (cn.name :: TS.take m) ++ [.string ⟨S1.toArray⟩] = jBB (cn.name :: TS.take (m + 1)) := by
           rw [<- jDC, List.take_add_one, HTM.out]; rfl
          rw [hl3] at hown3; have H1 := hid hown3; have H3 := hid hB3
          clear hown3 hB3 hgr hloc hl3 f1 f2 d3 t0 t1 t2; go_wp2
          go_roundw
          case rel => exact ⟨m + 1, by go_num, by omega, H1, H3⟩
          case measure => simp [intOf]; omega
        . obtain rfl : m = cn.fields.length := by omega
          have htk : TS.take cn.fields.length = TS := by rw [<- HTL.out, List.take_length]
          rw [htk] at HOC; clear htk; obtain ⟨S1, hS1⟩ : ∃ S, S = joined (cn.name :: TS) := ⟨_, rfl⟩
          have hj := jBX _ _ wr (jCI HOC.out) (by have := HGT.out; omega); rw [<- hS1] at hj HCX; obtain ⟨pc3, cc3, rfl⟩ := jDX HOC.out; have HJ := hid hj; have HOL := hid (jA5 HOWN.out HBX.out); have HBV := hid (HBU.out.trans (HBX.out.mono HBU.out.size)); have hsV := HBV.out.size; clear hj hS1; go_wp2_with fail; refine HJ.out.mono ?_; rintro e w4 ⟨rfl, rfl⟩; go_wp2_with (at_builtin; refine jAN _ rfl (.tmp 68) (.tmp 71) 33 rfl U.heap.size 9 i0 (.string ⟨#[]⟩) 1 16 Tryz.underlying33 HI.out HI0.out HI1.out HI2.out rfl (by decide) _ (j + 3) _ rfl (HOL.out.alloc _) ⟨w4.heap.size, 0, none⟩ 1 1 [.string ⟨S1.toArray⟩] rfl (by decide) rfl ?cb1 ?cb2 ?cb3 ?cb4 ?cb5 ?_)
          case cb1 => exact fun j u h => jFC w4 S1 _ j u h
          case cb2 => exact jEH S1
          case cb3 => unfold maxLen; omega
          case cb4 => omega
          case cb5 => simp; omega
          intro v' w3 hown3 hgr hloc; have hB3 := (HBV.out.alloc hsV (.cells #[.string ⟨S1.toArray⟩] 9)).grown hgr (by simp; omega) (fun kk hkk => (HOL.out.lt kk hkk).1)
          have hl3 : jBB (h0 ++ CS.take j) ++ [.string ⟨S1.toArray⟩] = jBB (h0 ++ CS.take (j + 1)) := by
           rw [<- jDC, List.take_add_one, HCX.out, List.append_assoc]; rfl
          rw [hl3] at hown3; have H1 := hid hown3; have H3 := hid hB3
          clear hown3 hB3 hgr hloc hl3 f1 f2 d3; go_wp2
          go_roundw
          case rel => exact ⟨j + 1, by go_num, by omega, hid (by rw [show j + 1 + 3 = j + 3 + 1 by omega]; exact H1.out), H3⟩
          case measure => simp [intOf]; omega
     . obtain rfl : j = d.cons.length := by omega
       have htk : CS.take d.cons.length = CS := by rw [<- HCL.out, List.take_length]
       rw [htk, HH0.out] at HOWN; clear htk; have hj := jBX _ _ wr (jCI HOWN.out) (by have := HGD.out; exact Nat.le_trans this (by omega)); obtain ⟨S1, hS1⟩ : ∃ S, S = joined ([[100, 97, 116, 97], d.name, joined d.params] ++ CS) := ⟨_, rfl⟩
       have hS1' : S1 = Px.jBJ f d := by rw [hS1, HDT.out]; rfl
       rw [<- hS1] at hj; have hsm : S.length + S1.length + 1 <= 800000 := by rw [hS1]; exact HSUM.out
       rw [<- hS1'] at HST; obtain ⟨pl3, cl3, rfl⟩ := jDX HOWN.out; have HJ := hid hj; have HBF := hid (HB2.out.trans (HBU.out.mono HB2.out.size)); have ENF := hid (jA0 EN2.out HBU.out); clear hj hS1 hS1'; go_wp2_with fail; refine HJ.out.mono ?_; rintro e w4 ⟨rfl, rfl⟩; have s1 := jDH (w := w4) S1 [10] (by simp only [List.length_singleton]; omega); have s2 := jDH (w := w4) S (S1 ++ [10]) (by simp only [List.length_append, List.length_singleton]; omega); rw [<- HST.out] at s2; go_wp2_with fail
       go_roundw
       case rel => exact ⟨k + 1, by go_num, by omega, by first | rfl | (rw [HST.out, bytes_lit1, jHB]), ENF, HBF⟩
       case measure => simp [intOf]; omega
  . obtain rfl : ND = k := by omega
    have htk : DS.take ND = DS := by rw [<- HDL.out, List.take_length]
    rw [htk]; clear htk hle; obtain ⟨S0, hS0⟩ : ∃ S, S = DS.flatten := ⟨_, rfl⟩
    rw [<- hS0] at hlen ⊢; have HS0 := hid hS0; clear hS0; obtain ⟨V, hV⟩ : ∃ x, x = wr := ⟨wr, rfl⟩
    subst hV; go_wp2_with fail
    go_loopw [3, 10] (fun s i wr => ∃ j : Nat, i = .int .i64 j /\ j <= NF /\ s = .string ⟨(S0 ++ (FS.take j).flatten).toArray⟩ /\ Hid (wr.heap[w.heap.size]? = some (.cells #[.slice q1 ND c1, .slice q2 NF c2] 27 (0, 0))) /\ Hid (Below w.heap.size w wr)) (fun _ i _ => NF - (intOf i).toNat)
    case atStart => exact ⟨0, rfl, Nat.zero_le _, by simp, EN, HB⟩
    case round =>
     clear EN HB e0 e1 hs; obtain ⟨j, rfl, hj, rfl, EN, HB⟩ := hrel; have hs := HB.out.size; have e0 := jA EN.out 0 _ rfl; have e1 := jA EN.out 1 _ rfl; by_cases hlt2 : j < NF
     . obtain ⟨d, hd⟩ : ∃ d, q.defs[j]? = some d := ⟨_, List.getElem?_eq_getElem (by rw [<- HNF.out]; exact hlt2)⟩
       rcases HF.out with ⟨h, _⟩ | ⟨g, o, c', hv, h1, h2, h3⟩
       . have := HNF.out; rw [h] at this; simp at this; omega
       injection hv with hq _ hc
       subst hq; subst hc
       obtain ⟨u, ⟨nv, b0, b1, b2, b3, b4, b5, b6, rfl, hps, hex⟩, _, huc⟩ := h3 j d hd; obtain ⟨pq, pc, rfl⟩ := hps.len; obtain ⟨xk, xp, xi, xs, r1, n1, d1, r2, n2, d2, r3, n3, d3, he⟩ := jAU f _ _ _ hex; simp only [Value.agg.injEq, Array.mk.injEq, List.cons.injEq, and_true] at he; obtain ⟨rfl, rfl, rfl, rfl, rfl, rfl, rfl⟩ := he; have up : ∀ j z, w.cell? ⟨g, j, none⟩ = some z -> wr.cell? ⟨g, j, none⟩ = some z := fun j z hz => (HB.out.cell (World.block_lt_of_cell? w _ hz)).trans hz
       have f0 := up _ _ (huc 0 _ rfl); have f1 := up _ _ (huc 1 _ rfl); have f2 := up _ _ (huc 2 _ rfl); have f3 := up _ _ (huc 3 _ rfl); have f4 := up _ _ (huc 4 _ rfl); have f5 := up _ _ (huc 5 _ rfl); have f6 := up _ _ (huc 6 _ rfl); have f7 := up _ _ (huc 7 _ rfl); have f8 := up _ _ (huc 8 _ rfl); have f9 := up _ _ (huc 9 _ rfl); rw [Nat.add_zero] at f0; have hdx : FS[j]? = some (Px.jC0 f d ++ [10]) := by rw [HFS.out, List.getElem?_map, hd]; rfl
       have hst := jF5 hdx; have hdl := jN1 (List.mem_of_getElem? hdx); rw [List.length_append, List.length_singleton] at hdl; have hdt : Px.jC0 f d = joined [[100, 101, 102], d.name, joined d.params, Px.showE f d.body] := rfl; rw [hdt, jAX] at hdl; have hpl := jCF [[100, 101, 102], d.name, joined d.params, Px.showE f d.body] (joined d.params) (by simp); rw [jAX] at hpl; have hpe := jCF [[100, 101, 102], d.name, joined d.params, Px.showE f d.body] (Px.showE f d.body) (by simp); have hgp : (glue d.params).length <= 900000 := by omega
       have hel : (Px.showE f d.body).length <= 800000 := by omega
       have hsum : (S0 ++ (FS.take j).flatten).length + (joined [[100, 101, 102], d.name, joined d.params, Px.showE f d.body]).length + 1 <= 800000 := by
        have h5 := jG7 FS (j + 1); rw [hst, hdt, List.length_append, List.length_append, List.length_singleton] at h5; rw [List.length_append]; omega
       have hgj : (glue [[100, 101, 102], d.name, joined d.params, Px.showE f d.body]).length <= 800000 := by rw [jAX] at hsum; omega
       have HST := hid (show S0 ++ (FS.take (j + 1)).flatten = (S0 ++ (FS.take j).flatten) ++ (joined [[100, 101, 102], d.name, joined d.params, Px.showE f d.body] ++ [10]) by rw [hst, hdt, List.append_assoc]); have HSUM := hid hsum; have hgd := HGOOD.out d (List.mem_of_getElem? hd); have hal : Below wr.heap.size wr (wr.alloc (.cells #[.int .i64 d.pos, .string ⟨d.name.toArray⟩, .slice pq d.params.length pc, .int .i64 xk, .int .i64 xp, .string xs, .int .i64 xi, .slice r1 n1 d1, .slice r2 n2 d2, .slice r3 n3 d3] 49)) := (Below.refl _ _).alloc (Nat.le_refl _) _; have ED := hid (jA3 wr #[.int .i64 d.pos, .string ⟨d.name.toArray⟩, .slice pq d.params.length pc, .int .i64 xk, .int .i64 xp, .string xs, .int .i64 xi, .slice r1 n1 d1, .slice r2 n2 d2, .slice r3 n3 d3] 49); have EN2 := hid (jA0 EN.out hal); have HB2 := hid (HB.out.trans (hal.mono hs)); have HPS := hid hps; have HEX := hid hex
       clear hst hdt hdl hpl hpe hps hex huc up h3 hd hdx hal hsum; obtain ⟨S, hS⟩ : ∃ S, S = S0 ++ (FS.take j).flatten := ⟨_, rfl⟩
       rw [<- hS] at HST HSUM ⊢; clear hS; go_wp2_with fail; obtain ⟨U, hU⟩ : ∃ U, U = wr.alloc (.cells #[.int .i64 d.pos, .string ⟨d.name.toArray⟩, .slice pq d.params.length pc, .int .i64 xk, .int .i64 xp, .string xs, .int .i64 xi, .slice r1 n1 d1, .slice r2 n2 d2, .slice r3 n3 d3] 49) := ⟨_, rfl⟩
       rw [<- hU] at ED EN2 HB2 ⊢; clear hU e0 e1 f0 f1 f2 f3 f4 f5 f6 f7 f8 f9
       have hallS : ∀ u, Below U.heap.size U u -> u.cell? ⟨wr.heap.size, 1, none⟩ = some (.string ⟨d.name.toArray⟩) /\ u.cell? ⟨wr.heap.size, 2, none⟩ = some (.slice pq d.params.length pc) /\ u.cell? ⟨wr.heap.size, 3, none⟩ = some (.int .i64 xk) /\ u.cell? ⟨wr.heap.size, 4, none⟩ = some (.int .i64 xp) /\ u.cell? ⟨wr.heap.size, 5, none⟩ = some (.string xs) /\ u.cell? ⟨wr.heap.size, 6, none⟩ = some (.int .i64 xi) /\ u.cell? ⟨wr.heap.size, 7, none⟩ = some (.slice r1 n1 d1) /\ u.cell? ⟨wr.heap.size, 8, none⟩ = some (.slice r2 n2 d2) /\ u.cell? ⟨wr.heap.size, 9, none⟩ = some (.slice r3 n3 d3) := fun u hu => by
        have e := jA0 ED.out hu; exact ⟨jA e 1 _ rfl, jA e 2 _ rfl, jA e 3 _ rfl, jA e 4 _ rfl, jA e 5 _ rfl, jA e 6 _ rfl, jA e 7 _ rfl, jA e 8 _ rfl, jA e 9 _ rfl⟩
       have HALL := hid hallS; obtain ⟨S1, hS1⟩ : ∃ S, S = Px.showE f d.body := ⟨_, rfl⟩
       obtain ⟨S2, hS2⟩ : ∃ S, S = joined d.params := ⟨_, rfl⟩
       obtain ⟨S3, hS3⟩ : ∃ S, S = joined [[100, 101, 102], d.name, joined d.params, Px.showE f d.body] := ⟨_, rfl⟩
       have HJP : ∀ u : World, Below U.heap.size U u -> Calls Tryz.prog 26 #[.slice pq d.params.length pc] u fun e w' => e = .returned (.string ⟨S2.toArray⟩) /\ w' = u := fun u hu => by
        rw [hS2]; exact jBX _ _ u (jDI HPS.out (HB2.out.trans (hu.mono HB2.out.size))) hgp
       have HEC : ∀ u : World, Below U.heap.size U u -> Calls Tryz.prog 16 #[.agg #[.int .i64 xk, .int .i64 xp, .string xs, .int .i64 xi, .slice r1 n1 d1, .slice r2 n2 d2, .slice r3 n3 d3]] u fun e w' => e = .returned (.string ⟨S1.toArray⟩) /\ Below u.heap.size u w' := fun u hu => by
        have hb := HB2.out.trans (hu.mono HB2.out.size); rw [hS1]; exact show_any f _ _ u (jFI HEX.out hb) hgd hel ((Lib.tabBelow_of_tabIs HTAB.out) _ hb)
       have HJ : ∀ u : World, Calls Tryz.prog 26 #[.slice (some ⟨u.heap.size, 0, none⟩) 4 4] (u.alloc (.cells #[.string ⟨#[100, 101, 102]⟩, .string ⟨d.name.toArray⟩, .string ⟨S2.toArray⟩, .string ⟨S1.toArray⟩] 9)) fun e w' => e = .returned (.string ⟨S3.toArray⟩) /\ w' = u.alloc (.cells #[.string ⟨#[100, 101, 102]⟩, .string ⟨d.name.toArray⟩, .string ⟨S2.toArray⟩, .string ⟨S1.toArray⟩] 9) := fun u => by
        rw [hS3, hS1, hS2]; exact jBX _ _ _ (jII (w := u) [[100, 101, 102], d.name, joined d.params, Px.showE f d.body] #[.string ⟨#[100, 101, 102]⟩, .string ⟨d.name.toArray⟩, .string ⟨(joined d.params).toArray⟩, .string ⟨(Px.showE f d.body).toArray⟩] rfl (by simp)) (by omega)
       rw [<- hS3] at HST HSUM; have HJPH := hid HJP; have HECH := hid HEC; have HJH := hid HJ
       have hl3 : S.length + S3.length + 1 <= 800000 := HSUM.out; clear hS1 hS2 hS3 HJP HEC HJ hallS hgd hel hgp hgj HSUM; refine wp_region_held_drew (S := fun w' => w'.cell? ⟨wr.heap.size, 1, none⟩ = some (.string ⟨d.name.toArray⟩) /\ w'.cell? ⟨wr.heap.size, 2, none⟩ = some (.slice pq d.params.length pc) /\ w'.cell? ⟨wr.heap.size, 3, none⟩ = some (.int .i64 xk) /\ w'.cell? ⟨wr.heap.size, 4, none⟩ = some (.int .i64 xp) /\ w'.cell? ⟨wr.heap.size, 5, none⟩ = some (.string xs) /\ w'.cell? ⟨wr.heap.size, 6, none⟩ = some (.int .i64 xi) /\ w'.cell? ⟨wr.heap.size, 7, none⟩ = some (.slice r1 n1 d1) /\ w'.cell? ⟨wr.heap.size, 8, none⟩ = some (.slice r2 n2 d2) /\ w'.cell? ⟨wr.heap.size, 9, none⟩ = some (.slice r3 n3 d3)) (by kernel_rfl) (HALL.out _ (Below.drew (Below.refl _ _))) (fun hHeld => ?_); refine wT 0 (.string ⟨S.toArray⟩) rfl (Or.inl ⟨by rfl, fun w' hSw => by obtain ⟨s1, s2, s3, s4, s5, s6, s7, s8, s9⟩ := hSw; go_simp⟩) hHeld ?_; refine wT 1 (.pointer (some ⟨wr.heap.size, 1, none⟩)) rfl (Or.inl ⟨by rfl, fun w' hSw => by obtain ⟨s1, s2, s3, s4, s5, s6, s7, s8, s9⟩ := hSw; go_simp⟩) hHeld ?_; refine wT 2 (.string ⟨d.name.toArray⟩) rfl (Or.inl ⟨by rfl, fun w' hSw => by obtain ⟨s1, s2, s3, s4, s5, s6, s7, s8, s9⟩ := hSw; go_simp⟩) hHeld ?_; refine wT 3 (.pointer (some ⟨wr.heap.size, 2, none⟩)) rfl (Or.inl ⟨by rfl, fun w' hSw => by obtain ⟨s1, s2, s3, s4, s5, s6, s7, s8, s9⟩ := hSw; go_simp⟩) hHeld ?_; refine wT 4 (.slice pq d.params.length pc) rfl (Or.inl ⟨by rfl, fun w' hSw => by obtain ⟨s1, s2, s3, s4, s5, s6, s7, s8, s9⟩ := hSw; go_simp⟩) hHeld ?_; refine wT 6 (.pointer (some ⟨wr.heap.size, 3, none⟩)) rfl (Or.inl ⟨by rfl, fun w' hSw => by obtain ⟨s1, s2, s3, s4, s5, s6, s7, s8, s9⟩ := hSw; go_simp⟩) hHeld ?_; refine wT 7 (.agg #[.int .i64 xk, .int .i64 xp, .string xs, .int .i64 xi, .slice r1 n1 d1, .slice r2 n2 d2, .slice r3 n3 d3]) rfl (Or.inl ⟨by rfl, fun w' hSw => by obtain ⟨s1, s2, s3, s4, s5, s6, s7, s8, s9⟩ := hSw; go_simp⟩) hHeld ?_; simp only [Act.put, jR2, jR3, jR4]; have HBD := hid (Below.drew (Below.refl U.heap.size U)); refine wR 5 rfl (fun K hK => ?_); go_simp; refine (HJPH.out _ HBD.out).mono ?_; rintro e w3 ⟨rfl, rfl⟩; refine hK.out _ _ hHeld (fun hHeld => ?_); clear hK K; refine wR 8 rfl (fun K hK => ?_); go_simp; refine (HECH.out _ HBD.out).mono ?_; rintro e w4 ⟨rfl, hb4⟩; have HBW4 := bT HBD hb4; have hs4 := HBW4.out.size; refine hK.out _ _ (HALL.out _ HBW4.out) (fun hHeld => ?_); clear hK K hb4; refine wR 9 rfl (fun K hK => ?_); go_simp; refine hK.out _ _ (HALL.out _ (HBW4.out.alloc hs4 _)) (fun hHeld => ?_); clear hK K; refine wR 10 rfl (fun K hK => ?_); go_simp; refine (HJH.out w4).mono ?_; rintro e w5 ⟨rfl, rfl⟩; refine hK.out _ _ hHeld (fun hHeld => ?_); clear hK K; have HBF := hid (HB2.out.trans ((HBW4.out.alloc hs4 (.cells #[.string ⟨#[100, 101, 102]⟩, .string ⟨d.name.toArray⟩, .string ⟨S2.toArray⟩, .string ⟨S1.toArray⟩] 9)).mono HB2.out.size)); have ENF := hid (jA0 EN2.out (HBW4.out.alloc hs4 (.cells #[.string ⟨#[100, 101, 102]⟩, .string ⟨d.name.toArray⟩, .string ⟨S2.toArray⟩, .string ⟨S1.toArray⟩] 9))); have hsF := HBF.out.size; have y1 := jDH (w := w4.alloc (.cells #[.string ⟨#[100, 101, 102]⟩, .string ⟨d.name.toArray⟩, .string ⟨S2.toArray⟩, .string ⟨S1.toArray⟩] 9)) S3 [10] (by simp only [List.length_singleton]; omega); have y2 := jDH (w := w4.alloc (.cells #[.string ⟨#[100, 101, 102]⟩, .string ⟨d.name.toArray⟩, .string ⟨S2.toArray⟩, .string ⟨S1.toArray⟩] 9)) S (S3 ++ [10]) (by simp only [List.length_append, List.length_singleton]; omega); rw [<- HST.out] at y2; refine wR 11 rfl (fun K hK => ?_); go_simp; refine hK.out _ _ hHeld (fun hHeld => ?_); clear hK K; refine wR 12 rfl (fun K hK => ?_); go_simp; refine hK.out _ _ hHeld (fun hHeld => ?_); clear hK K; refine wR 13 rfl (fun K hK => ?_); go_simp; refine hK.out _ _ hHeld (fun hHeld => ?_); clear hK K; refine wpAnyH_done (by kernel_rfl) ?_ _; clear y1 y2; go_wp2
       go_roundw
       case rel => exact ⟨j + 1, by go_num, by omega, by first | rfl | (rw [HST.out, bytes_lit1, jHB]), ENF, HBF⟩
       case measure => simp [intOf]; omega
     . obtain rfl : NF = j := by omega
       have htk : FS.take NF = FS := by rw [<- HFL.out, List.take_length]
       rw [htk]; clear htk; go_wp2_with fail; go_ret; exact ⟨by first | rfl | (rw [<- HS0.out]; rfl), HB.out⟩
namespace Sw
theorem jNB {f : Nat} {w w' : World} {v : Value} {d : Px.Data} (h : jD5 f w v d) (hb : Below w.heap.size w w') : jD5 f w' v d := by
 obtain ⟨nv, cv, rfl, h1, h2⟩ := h; exact ⟨nv, cv, rfl, h1.mono hb (fun u x _ hu => hu), h2.mono hb (fun u x _ hu => jND hu hb)⟩
theorem defK {f : Nat} {w w' : World} {v : Value} {d : Px.Def} (h : jGD f w v d) (hb : Below w.heap.size w w') : jGD f w' v d := by
 obtain ⟨nv, b0, b1, b2, b3, b4, b5, b6, rfl, h1, h2⟩ := h; exact ⟨nv, b0, b1, b2, b3, b4, b5, b6, rfl, h1.mono hb (fun u x _ hu => hu), exprK h2 hb⟩
theorem jDR (w : World) (o : Obj) : Below w.heap.size w (w.alloc o) := (Below.refl _ _).alloc (Nat.le_refl _) _
theorem jPS (w : World) (htab : Lib.TabIs Tryz.prog w "internal/strconv.uint64pow10" .u64 Lib.pow10Tab) (v : Value) (x : Px.Data) (hx : jD5 50 w v x) (hn : Px.nmD x) (hl : (Px.jBJ 50 x).length <= 800000) :
 Calls Tryz.prog 11 #[v] w fun e w' => e = .returned (.string ⟨(Px.jBJ 50 x).toArray⟩) /\ Below w.heap.size w w' := by
 obtain ⟨k0, hrun⟩ := run_data x hn; exact jL 50 w htab v x (fun w0 h => by subst h; exact hx) _ k0 hrun (by omega) (fun w0 o h => by subst h; exact jNB hx (jDR w o))
theorem showDef2 (w : World) (htab : Lib.TabIs Tryz.prog w "internal/strconv.uint64pow10" .u64 Lib.pow10Tab) (v : Value) (x : Px.Def) (hx : jGD 50 w v x) (hg : jF7 50 x.body) (hn : Px.nmF x) (hl : (Px.jC0 50 x).length <= 800000) :
 Calls Tryz.prog 14 #[v] w fun e w' => e = .returned (.string ⟨(Px.jC0 50 x).toArray⟩) /\ Below w.heap.size w w' := by
 obtain ⟨k0, hrun⟩ := run_defn x hg hn; have hb : (Px.showE 50 x.body).length <= (Px.jC0 50 x).length := jC1 (by simp); have hok := okExp_of 50 x.body hg hn.2.2 (by omega); exact jMC 50 w htab v x (fun w0 h => by subst h; exact ⟨hx, hok⟩) _ k0 hrun (by omega) (fun w0 o h => by subst h; exact ⟨defK hx (jDR w o), hok⟩)
theorem WB.b {TT : TypeId} {k lo B : Nat} {w w' : World} {cs : Array Value} {T : List UInt8} (h : WB TT k lo B w cs T) (hb : Below w.heap.size w w') : WB TT k lo B w' cs T := by
 obtain ⟨bv, hbv, ho⟩ := h.own; exact ⟨(hb.block B h.lt).trans h.heap, h.size, h.low, h.addr, bv, hbv, jA5 ho hb⟩
theorem WB.f {lo : Nat} (w : World) (hlo : lo <= w.heap.size) : WB 113 2 lo w.heap.size (w.alloc (.cells #[.pointer none, .slice none 0 0] 113)) #[.pointer none, .slice none 0 0] [] :=
 ⟨jA3 w _ _, rfl, hlo, .inl rfl, _, rfl, World.ownsRow_nil _ _ _ _⟩
theorem jHG (lo B : Nat) (w : World) (c1 : w.cell? ⟨B, 1, none⟩ = some (.slice none 0 0)) :
 Calls Tryz.prog 53 #[.pointer (some ⟨B, 0, none⟩)] w fun e w' => e = .returned (.string ⟨#[]⟩) /\ Below lo w w' := by
 have d1 : w.drew.cell? ⟨B, 1, none⟩ = some (.slice none 0 0) := c1; have hSD := fun v : World => Lib.run_unsafeSliceData_nil (P := Tryz.prog) (w := v) #[22] 165 0 0
 have hUS := fun v : World => Lib.run_unsafeString_none (P := Tryz.prog) (w := v) 165 3 9 none
 go_enter Tryz.func53, Tryz.ntmps53; go_wp2_with fail
 go_region
 all_goals (go_wp2_with fail; go_ret; exact ⟨rfl, Below.drew (Below.refl lo w)⟩)
end Sw
namespace Sw
def jB6 (ds : List Px.Data) : List UInt8 := (ds.map fun d => Px.jBJ 50 d ++ [10]).flatten
theorem jJ1 {ds : List Px.Data} {k : Nat} {d : Px.Data} (h : ds[k]? = some d) : jB6 (ds.take (k + 1)) = jB6 (ds.take k) ++ Px.jBJ 50 d ++ [10] := by
 unfold jB6; rw [List.take_add_one, h]; simp
theorem jLG (ds : List Px.Data) (k : Nat) : (jB6 (ds.take k)).length <= (jB6 ds).length := by
 have : jB6 ds = jB6 (ds.take k) ++ jB6 (ds.drop k) := by unfold jB6; rw [<- List.flatten_append, <- List.map_append, List.take_append_drop]
 rw [this]; simp
theorem jLF {ds : List Px.Data} (h : ds ≠ []) : jB6 ds ≠ [] := by
 cases ds with
 | nil => exact absurd rfl h
 | cons d r => unfold jB6; simp
theorem jJW (w : World) (htab : Lib.TabIs Tryz.prog w "internal/strconv.uint64pow10" .u64 Lib.pow10Tab) (v : Value) (ds : List Px.Data) (hr : jAI 4 (jD5 50 w) w v ds) (hn : ∀ d ∈ ds, Px.nmD d) (hl : (jB6 ds).length <= 800000) :
 Calls Tryz.prog 24 #[v, .func (.func 11) #[] #[]] w fun e w' => e = .returned (.string ⟨(jB6 ds).toArray⟩) /\ Below w.heap.size w w' := by
 obtain ⟨q, c, rfl⟩ := hr.len; have HR := hid hr; have HNM := hid hn; have HL := hid hl; have HTB := hid (fun (w' : World) (h : Below w.heap.size w w') => (Lib.tabBelow_of_tabIs htab) w' h); clear hr htab hn hl; go_enter Tryz.func24, Tryz.ntmps24; go_upto_region 2 with fail
 have HW := hid (WB.f (lo := w.heap.size) w (Nat.le_refl _)); have HB := hid (jDR w (.cells #[.pointer none, .slice none 0 0] 113)); generalize w.alloc (.cells #[.pointer none, .slice none 0 0] 113) = w1 at HW HB ⊢; go_wp2_with fail
 go_loopw [10] (fun i wr => ∃ (k : Nat) (cs : Array Value), i = .int .i64 k /\ k <= ds.length /\ Hid (WB 113 2 w.heap.size w.heap.size wr cs (jB6 (ds.take k))) /\ Hid (k = 0 -> cs[1]? = some (.slice none 0 0)) /\ Hid (Below w.heap.size w wr)) (fun i _ => ds.length - (intOf i).toNat)
 case atStart => exact ⟨0, _, rfl, Nat.zero_le _, HW, hid (fun _ => rfl), HB⟩
 case round =>
  clear HW HB; obtain ⟨k, cs, rfl, hk, HW, HZ, HB⟩ := hrel; by_cases hlt : k < ds.length
  . obtain ⟨d, hd⟩ : ∃ d, ds[k]? = some d := ⟨_, List.getElem?_eq_getElem hlt⟩
    have hmem : d ∈ ds := List.mem_of_getElem? hd
    rcases HR.out with ⟨h0, _⟩ | ⟨g, o, c', hv, e1, e2, e3⟩
    . rw [h0] at hlt; simp at hlt
    injection hv with q1 _ q2
    subst q1; subst q2
    obtain ⟨u, hu, hsz, hc⟩ := e3 k d hd; obtain ⟨zp, zs, q1, n1, c1, q2, n2, c2, rfl⟩ := jEX 50 _ _ _ hu; have hcell : ∀ j z, (Value.agg #[.int .i64 zp, .string zs, .slice q1 n1 c1, .slice q2 n2 c2]).cells[j]? = some z -> wr.cell? ⟨g, o + k * 4 + j, none⟩ = some z := fun j z hz => (HB.out.cell (World.block_lt_of_cell? w _ (hc j z hz))).trans (hc j z hz)
    have x0 : wr.cell? ⟨g, o + k * 4, none⟩ = some (.int .i64 zp) := hcell 0 _ rfl; have x1 : wr.cell? ⟨g, o + k * 4 + 1, none⟩ = some (.string zs) := hcell 1 _ rfl; have x2 : wr.cell? ⟨g, o + k * 4 + 2, none⟩ = some (.slice q1 n1 c1) := hcell 2 _ rfl; have x3 : wr.cell? ⟨g, o + k * 4 + 3, none⟩ = some (.slice q2 n2 c2) := hcell 3 _ rfl; have k1 : (k : Int) < (ds.length : Int) := by omega
    have k2 : (ds.length : Int) <= (c : Int) := by omega
    have k3 := e2; have HU := hid hu; have HT := hid (jJ1 hd); have hlt2 := jLG ds (k + 1); rw [HT.out] at hlt2; have HSZ := hid (show (jB6 (ds.take k)).length + (Px.jBJ 50 d).length + 1 <= 800000 by have := HL.out; simp only [List.length_append, List.length_cons, List.length_nil] at hlt2; omega); clear hu hsz hc hcell e1 e2 e3 hd hlt2; go_upto_region 5 with fail
    have EN := hid (jA3 wr #[.int .i64 zp, .string zs, .slice q1 n1 c1, .slice q2 n2 c2] 36); have hbx := jDR wr (.cells #[.int .i64 zp, .string zs, .slice q1 n1 c1, .slice q2 n2 c2] 36); have HW1 := hid (WB.b HW.out hbx); have HBW := bT HB hbx; have HD1 := hid (jNB HU.out HBW.out); have hnb : w.heap.size <= wr.heap.size := HB.out.size; clear HW HB HU hbx x0 x1 x2 x3; generalize hq : wr.heap.size = N at *; generalize wr.alloc (.cells #[.int .i64 zp, .string zs, .slice q1 n1 c1, .slice q2 n2 c2] 36) = W1 at *; clear hq; have y0 := jA EN.out 0 _ rfl; have y1 := jA EN.out 1 _ rfl; have y2 := jA EN.out 2 _ rfl; have y3 := jA EN.out 3 _ rfl; go_wp2_with fail; refine (jPS W1 (HTB.out _ HBW.out) _ d HD1.out (HNM.out d hmem) (by have := HSZ.out; omega)).mono ?_; rintro e W2 ⟨rfl, hb2⟩; have HW2 := hid (WB.b HW1.out hb2); have HB2 := bT HBW hb2; clear hb2; go_wp2_with fail; refine (jE1 btyB HW2.out (Px.jBJ 50 d) (by have := HSZ.out; omega) HB2.out.size).mono ?_; rintro e W3 ⟨⟨v3, rfl⟩, ⟨cs3, hw3, _⟩, hb3, _⟩; have HW3 := hid hw3; have HB3 := hid (HB2.out.trans hb3); clear hw3 hb3; go_wp2_with fail; refine (jDW btyB HW3.out 10 (by have := HSZ.out; simp only [List.length_append]; omega) HB3.out.size).mono ?_; rintro e W4 ⟨rfl, ⟨cs4, hw4, _⟩, hb4, _⟩; have HW4 := hid (show WB 113 2 w.heap.size w.heap.size W4 cs4 (jB6 (ds.take (k + 1))) by rw [HT.out]; exact hw4); have HB4 := hid (HB3.out.trans hb4); clear hw4 hb4; go_wp2_with fail; exact ⟨⟨k + 1, cs4, by go_num, by omega, HW4, hid (fun h => by omega), HB4⟩, by simp [intOf]; omega⟩
  . obtain rfl : k = ds.length := by omega
    have hlt0 : ¬ ((ds.length : Int) < (ds.length : Int)) := by omega
    by_cases h0 : ds = []
    . have hT0 : jB6 ds = [] := by subst h0; rfl
      have hl0 : ds.length = 0 := by subst h0; rfl
      have hc1 := (HW.out.cell 1).trans (HZ.out hl0); clear HW HZ HR HNM HL h0 hl0; go_wp2_with fail; refine (jHG w.heap.size w.heap.size wr hc1).mono ?_; rintro e W2 ⟨rfl, hb2⟩; go_wp2_with fail; go_ret; exact ⟨by rw [hT0]; rfl, HB.out.trans hb2⟩
    . have HW5 := hid (show WB 113 2 w.heap.size w.heap.size wr cs (jB6 ds) by have := HW.out; rwa [List.take_length] at this); have hne := jLF h0; go_wp2_with fail; refine (jDP btyB HW5.out hne).mono ?_; rintro e W2 ⟨rfl, hb2⟩; go_wp2_with fail; go_ret; exact ⟨rfl, HB.out.trans hb2⟩
end Sw
namespace Sw
def jBD (ds : List Px.Def) : List UInt8 := (ds.map fun d => Px.jC0 50 d ++ [10]).flatten
theorem jJV {ds : List Px.Def} {k : Nat} {d : Px.Def} (h : ds[k]? = some d) : jBD (ds.take (k + 1)) = jBD (ds.take k) ++ Px.jC0 50 d ++ [10] := by
 unfold jBD; rw [List.take_add_one, h]; simp
theorem jMS (ds : List Px.Def) (k : Nat) : (jBD (ds.take k)).length <= (jBD ds).length := by
 have : jBD ds = jBD (ds.take k) ++ jBD (ds.drop k) := by unfold jBD; rw [<- List.flatten_append, <- List.map_append, List.take_append_drop]
 rw [this]; simp
theorem jMR {ds : List Px.Def} (h : ds ≠ []) : jBD ds ≠ [] := by
 cases ds with
 | nil => exact absurd rfl h
 | cons d r => unfold jBD; simp
theorem jLE (w : World) (htab : Lib.TabIs Tryz.prog w "internal/strconv.uint64pow10" .u64 Lib.pow10Tab) (v : Value) (ds : List Px.Def) (hr : jAI 10 (jGD 50 w) w v ds) (hn : ∀ d ∈ ds, jF7 50 d.body /\ Px.nmF d) (hl : (jBD ds).length <= 800000) :
 Calls Tryz.prog 25 #[v, .func (.func 14) #[] #[]] w fun e w' => e = .returned (.string ⟨(jBD ds).toArray⟩) /\ Below w.heap.size w w' := by
 obtain ⟨q, c, rfl⟩ := hr.len; have HR := hid hr; have HNM := hid hn; have HL := hid hl; have HTB := hid (fun (w' : World) (h : Below w.heap.size w w') => (Lib.tabBelow_of_tabIs htab) w' h); clear hr htab hn hl; go_enter Tryz.func25, Tryz.ntmps25; go_upto_region 2 with fail
 have HW := hid (WB.f (lo := w.heap.size) w (Nat.le_refl _)); have HB := hid (jDR w (.cells #[.pointer none, .slice none 0 0] 113)); generalize w.alloc (.cells #[.pointer none, .slice none 0 0] 113) = w1 at HW HB ⊢; go_wp2_with fail
 go_loopw [10] (fun i wr => ∃ (k : Nat) (cs : Array Value), i = .int .i64 k /\ k <= ds.length /\ Hid (WB 113 2 w.heap.size w.heap.size wr cs (jBD (ds.take k))) /\ Hid (k = 0 -> cs[1]? = some (.slice none 0 0)) /\ Hid (Below w.heap.size w wr)) (fun i _ => ds.length - (intOf i).toNat)
 case atStart => exact ⟨0, _, rfl, Nat.zero_le _, HW, hid (fun _ => rfl), HB⟩
 case round =>
  clear HW HB; obtain ⟨k, cs, rfl, hk, HW, HZ, HB⟩ := hrel; by_cases hlt : k < ds.length
  . obtain ⟨d, hd⟩ : ∃ d, ds[k]? = some d := ⟨_, List.getElem?_eq_getElem hlt⟩
    have hmem : d ∈ ds := List.mem_of_getElem? hd
    rcases HR.out with ⟨h0, _⟩ | ⟨g, o, c', hv, e1, e2, e3⟩
    . rw [h0] at hlt; simp at hlt
    injection hv with q1 _ q2
    subst q1; subst q2
    obtain ⟨u, hu, hsz, hc⟩ := e3 k d hd; obtain ⟨zp, zs, q0, n0, c0, zk, zx, zi, zt, q1, n1, c1, q2, n2, c2, q3, n3, c3, rfl⟩ := jFK 50 _ _ _ hu; have hcell : ∀ j z, (Value.agg #[.int .i64 zp, .string zs, .slice q0 n0 c0, .int .i64 zk, .int .i64 zx, .string zt, .int .i64 zi, .slice q1 n1 c1, .slice q2 n2 c2, .slice q3 n3 c3]).cells[j]? = some z -> wr.cell? ⟨g, o + k * 10 + j, none⟩ = some z := fun j z hz => (HB.out.cell (World.block_lt_of_cell? w _ (hc j z hz))).trans (hc j z hz)
    have x0 : wr.cell? ⟨g, o + k * 10, none⟩ = some (.int .i64 zp) := hcell 0 _ rfl; have x1 : wr.cell? ⟨g, o + k * 10 + 1, none⟩ = some (.string zs) := hcell 1 _ rfl; have x2 : wr.cell? ⟨g, o + k * 10 + 2, none⟩ = some (.slice q0 n0 c0) := hcell 2 _ rfl; have x3 : wr.cell? ⟨g, o + k * 10 + 3, none⟩ = some (.int .i64 zk) := hcell 3 _ rfl; have x4 : wr.cell? ⟨g, o + k * 10 + 4, none⟩ = some (.int .i64 zx) := hcell 4 _ rfl; have x5 : wr.cell? ⟨g, o + k * 10 + 5, none⟩ = some (.string zt) := hcell 5 _ rfl; have x6 : wr.cell? ⟨g, o + k * 10 + 6, none⟩ = some (.int .i64 zi) := hcell 6 _ rfl; have x7 : wr.cell? ⟨g, o + k * 10 + 7, none⟩ = some (.slice q1 n1 c1) := hcell 7 _ rfl; have x8 : wr.cell? ⟨g, o + k * 10 + 8, none⟩ = some (.slice q2 n2 c2) := hcell 8 _ rfl; have x9 : wr.cell? ⟨g, o + k * 10 + 9, none⟩ = some (.slice q3 n3 c3) := hcell 9 _ rfl; have k1 : (k : Int) < (ds.length : Int) := by omega
    have k2 : (ds.length : Int) <= (c : Int) := by omega
    have k3 := e2; have HU := hid hu; have HT := hid (jJV hd); have hlt2 := jMS ds (k + 1); rw [HT.out] at hlt2; have HSZ := hid (show (jBD (ds.take k)).length + (Px.jC0 50 d).length + 1 <= 800000 by have := HL.out; simp only [List.length_append, List.length_cons, List.length_nil] at hlt2; omega); clear hu hsz hc hcell e1 e2 e3 hd hlt2; go_upto_region 5 with fail
    have EN := hid (jA3 wr #[.int .i64 zp, .string zs, .slice q0 n0 c0, .int .i64 zk, .int .i64 zx, .string zt, .int .i64 zi, .slice q1 n1 c1, .slice q2 n2 c2, .slice q3 n3 c3] 49); have hbx := jDR wr (.cells #[.int .i64 zp, .string zs, .slice q0 n0 c0, .int .i64 zk, .int .i64 zx, .string zt, .int .i64 zi, .slice q1 n1 c1, .slice q2 n2 c2, .slice q3 n3 c3] 49); have HW1 := hid (WB.b HW.out hbx); have HBW := bT HB hbx; have HD1 := hid (defK HU.out HBW.out); have hnb : w.heap.size <= wr.heap.size := HB.out.size; clear HW HB HU hbx x0 x1 x2 x3 x4 x5 x6 x7 x8 x9; generalize hq : wr.heap.size = N at *; generalize wr.alloc (.cells #[.int .i64 zp, .string zs, .slice q0 n0 c0, .int .i64 zk, .int .i64 zx, .string zt, .int .i64 zi, .slice q1 n1 c1, .slice q2 n2 c2, .slice q3 n3 c3] 49) = W1 at *; clear hq; have y0 := jA EN.out 0 _ rfl; have y1 := jA EN.out 1 _ rfl; have y2 := jA EN.out 2 _ rfl; have y3 := jA EN.out 3 _ rfl; have y4 := jA EN.out 4 _ rfl; have y5 := jA EN.out 5 _ rfl; have y6 := jA EN.out 6 _ rfl; have y7 := jA EN.out 7 _ rfl; have y8 := jA EN.out 8 _ rfl; have y9 := jA EN.out 9 _ rfl; go_wp2_with fail; refine (showDef2 W1 (HTB.out _ HBW.out) _ d HD1.out (HNM.out d hmem).1 (HNM.out d hmem).2 (by have := HSZ.out; omega)).mono ?_; rintro e W2 ⟨rfl, hb2⟩; have HW2 := hid (WB.b HW1.out hb2); have HB2 := bT HBW hb2; clear hb2; go_wp2_with fail; refine (jE1 btyB HW2.out (Px.jC0 50 d) (by have := HSZ.out; omega) HB2.out.size).mono ?_; rintro e W3 ⟨⟨v3, rfl⟩, ⟨cs3, hw3, _⟩, hb3, _⟩; have HW3 := hid hw3; have HB3 := hid (HB2.out.trans hb3); clear hw3 hb3; go_wp2_with fail; refine (jDW btyB HW3.out 10 (by have := HSZ.out; simp only [List.length_append]; omega) HB3.out.size).mono ?_; rintro e W4 ⟨rfl, ⟨cs4, hw4, _⟩, hb4, _⟩; have HW4 := hid (show WB 113 2 w.heap.size w.heap.size W4 cs4 (jBD (ds.take (k + 1))) by rw [HT.out]; exact hw4); have HB4 := hid (HB3.out.trans hb4); clear hw4 hb4; go_wp2_with fail; exact ⟨⟨k + 1, cs4, by go_num, by omega, HW4, hid (fun h => by omega), HB4⟩, by simp [intOf]; omega⟩
  . obtain rfl : k = ds.length := by omega
    have hlt0 : ¬ ((ds.length : Int) < (ds.length : Int)) := by omega
    by_cases h0 : ds = []
    . have hT0 : jBD ds = [] := by subst h0; rfl
      have hl0 : ds.length = 0 := by subst h0; rfl
      have hc1 := (HW.out.cell 1).trans (HZ.out hl0); clear HW HZ HR HNM HL h0 hl0; go_wp2_with fail; refine (jHG w.heap.size w.heap.size wr hc1).mono ?_; rintro e W2 ⟨rfl, hb2⟩; go_wp2_with fail; go_ret; exact ⟨by rw [hT0]; rfl, HB.out.trans hb2⟩
    . have HW5 := hid (show WB 113 2 w.heap.size w.heap.size wr cs (jBD ds) by have := HW.out; rwa [List.take_length] at this); have hne := jMR h0; go_wp2_with fail; refine (jDP btyB HW5.out hne).mono ?_; rintro e W2 ⟨rfl, hb2⟩; go_wp2_with fail; go_ret; exact ⟨rfl, HB.out.trans hb2⟩
end Sw
namespace Sw
theorem jIG (q : Px.Prog) : Px.jB1 50 q = jB6 q.datas ++ jBD q.defs := rfl
theorem jE4 (w : World) (htab : Lib.TabIs Tryz.prog w "internal/strconv.uint64pow10" .u64 Lib.pow10Tab) (v : Value) (q : Px.Prog) (hq : jER 50 w v q) (hg : ∀ d ∈ q.defs, jF7 50 d.body) (hn : Px.jO4 q) (hl : (Px.jB1 50 q).length <= 800000) :
 Calls Tryz.prog 9 #[v] w fun e w' => e = .returned (.string ⟨(Px.jB1 50 q).toArray⟩) /\ Below w.heap.size w w' := by
 rw [jIG] at hl ⊢; have hla : (jB6 q.datas).length <= 800000 := by simp only [List.length_append] at hl; omega
 have hlb : (jBD q.defs).length <= 800000 := by simp only [List.length_append] at hl; omega
 have HTB := hid (fun (w' : World) (h : Below w.heap.size w w') => (Lib.tabBelow_of_tabIs htab) w' h); obtain ⟨dv, fv, rfl, hds, hfs⟩ := hq; obtain ⟨q1, c1, rfl⟩ := hds.len; obtain ⟨q2, c2, rfl⟩ := hfs.len; obtain ⟨N1, hN1⟩ : ∃ n, n = q.datas.length := ⟨_, rfl⟩
 obtain ⟨N2, hN2⟩ : ∃ n, n = q.defs.length := ⟨_, rfl⟩
 rw [<- hN1] at hds ⊢; rw [<- hN2] at hfs ⊢; have HD := hid hds; have HF := hid hfs
 have HS := hid (fun v : World => jDH (w := v) (jB6 q.datas) (jBD q.defs) (by simp only [List.length_append] at hl ⊢; omega)); obtain ⟨T1, hT1⟩ : ∃ T, T = jB6 q.datas := ⟨_, rfl⟩
 obtain ⟨T2, hT2⟩ : ∃ T, T = jBD q.defs := ⟨_, rfl⟩
 rw [<- hT1, <- hT2] at HS ⊢; have HT1 := hid hT1; have HT2 := hid hT2
 clear hds hfs htab hl hN1 hN2 hT1 hT2; go_enter Tryz.func9, Tryz.ntmps9; go_upto_region 1 with fail
 have EN := hid (jA3 w #[.slice q1 N1 c1, .slice q2 N2 c2] 27); have hbx := jDR w (.cells #[.slice q1 N1 c1, .slice q2 N2 c2] 27); have HB := hid hbx; have HD1 := hid (HD.out.mono hbx (fun u x _ hu => jNB hu hbx)); have HF1 := hid (HF.out.mono hbx (fun u x _ hu => defK hu hbx)); clear hbx HD HF; generalize w.alloc (.cells #[.slice q1 N1 c1, .slice q2 N2 c2] 27) = w1 at *; refine wp_region_held_drew (S := fun (u : World) => Below w1.heap.size w1 u) (by kernel_rfl) (show Below w1.heap.size w1 w1.drew from (Below.refl _ _).drew) (fun hHeld => ?_); have x0 := jA EN.out 0 _ rfl; have x1 := jA EN.out 1 _ rfl; refine wT 0 (.pointer (some ⟨w.heap.size, 0, none⟩)) rfl (Or.inl ⟨by rfl, fun w' hSw => by go_simp⟩) hHeld ?_; refine wT 1 (.slice q1 N1 c1) rfl (Or.inl ⟨by rfl, fun w' hSw => by have hq : Below w1.heap.size w1 w' := hSw; have z := (hq.cell (World.block_lt_of_cell? w1 _ x0)).trans x0; go_simp⟩) hHeld ?_; refine wT 3 (.pointer (some ⟨w.heap.size, 1, none⟩)) rfl (Or.inl ⟨by rfl, fun w' hSw => by go_simp⟩) hHeld ?_; refine wT 4 (.slice q2 N2 c2) rfl (Or.inl ⟨by rfl, fun w' hSw => by have hq : Below w1.heap.size w1 w' := hSw; have z := (hq.cell (World.block_lt_of_cell? w1 _ x1)).trans x1; go_simp⟩) hHeld ?_; clear x0 x1; simp only [Act.put, jR2, jR3, jR4]; have hd : Below w1.heap.size w1 w1.drew := (Below.refl _ _).drew; have HDr := hid hd; clear hd; generalize w1.drew = w4 at HDr hHeld ⊢; refine wR 2 rfl (fun K hK => ?_); go_simp; have hcall := jJW w4 (HTB.out _ (HB.out.trans (HDr.out.mono HB.out.size))) _ q.datas (HD1.out.mono HDr.out (fun u x _ hu => jNB hu HDr.out)) hn.1 hla; rw [<- HT1.out] at hcall; refine hcall.mono ?_; clear hcall; rintro e w5 ⟨rfl, hb5⟩; have HD5 := bT HDr hb5; clear hb5; refine hK.out _ _ HD5.out (fun hHeld => ?_); clear hK K
 refine wR 5 rfl (fun K hK => ?_); go_simp; have hcall := jLE w5 (HTB.out _ (HB.out.trans (HD5.out.mono HB.out.size))) _ q.defs (HF1.out.mono HD5.out (fun u x _ hu => defK hu HD5.out)) (fun d hd => ⟨hg d hd, hn.2 d hd⟩) hlb; rw [<- HT2.out] at hcall; refine hcall.mono ?_; clear hcall; rintro e w6 ⟨rfl, hb6⟩; have HD6 := bT HD5 hb6; clear hb6; refine hK.out _ _ HD6.out (fun hHeld => ?_); clear hK K
 have hs := HS.out; clear HS hla hlb hg hn HD1 HF1; refine wR 6 rfl (fun K hK => ?_); go_simp; refine hK.out _ _ HD6.out (fun hHeld => ?_); clear hK K
 refine wR 7 rfl (fun K hK => ?_); go_simp; refine hK.out _ _ HD6.out (fun hHeld => ?_); clear hK K
 refine wpAnyH_done (by kernel_rfl) ?_ _; go_wp2_with fail; go_ret; exact ⟨rfl, HB.out.trans (HD6.out.mono HB.out.size)⟩
end Sw
end Go.Proofs.YtnhndamfbeiljaaGreatDoor
namespace Go.Proofs.YtnhndamfbeiljaaGreatDoor
open Go.Lib (hid)
open List renaming setIfInBounds_toArray → jR2, set_cons_zero → jR3, set_cons_succ → jR4
namespace Px
theorem zq2 {l : List Node} (h1 : 2 <= l.length) (h2 : l.length <= 2) (n : Node) : l = [l.headD n, l.getD 1 n] := by
 match l, h1, h2 with
 | [a, b], _, _ => rfl
theorem jM4 {l : List Node} (h1 : 3 <= l.length) (h2 : l.length <= 3) (n : Node) : l = [l.headD n, l.getD 1 n, l.getD 2 n] := by
 match l, h1, h2 with
 | [a, b, c], _, _ => rfl
theorem zq5 {l : List Node} (h1 : 4 <= l.length) (h2 : l.length <= 4) (n : Node) : l = [l.headD n, l.getD 1 n, l.getD 2 n, l.getD 3 n] := by
 match l, h1, h2 with
 | [a, b, c, d], _, _ => rfl
theorem zq4 {l : List Node} (h1 : 2 <= l.length) (n : Node) : l = l.headD n :: l.getD 1 n :: l.drop 2 := by
 match l, h1 with
 | a :: b :: r, _ => rfl
theorem zq3 {l : List Node} (h1 : 3 <= l.length) (n : Node) : l = l.headD n :: l.getD 1 n :: l.getD 2 n :: l.drop 3 := by
 match l, h1 with
 | a :: b :: c :: r, _ => rfl
theorem jEF {n : Node} (hg : NodeGood n) {s : List UInt8} (hw : word n = s) (hs : s ≠ []) (hp : ∀ x, Plain x -> x ≠ s) : Canon (n.list.headD n) s := by
 obtain ⟨a, r, hlr, hb, ht⟩ := jK hw hs; rw [hlr]; exact jJA (hg.kid (by rw [hlr]; simp)) hb ht hp
theorem jM8 {n : Node} (hg : NodeGood n) (ht : 0 < n.takes) : Canon n n.text := by
 cases hg with
 | leaf t h1 h3 h4 =>
   refine .leaf t _ h3 (fun e => ?_); have := (h1.num e).2.1; have h5 : 0 < jBG t.text := ht; omega
 | list t l h1 h3 h4 => exact absurd ht (by show ¬ 0 < 0; omega)
theorem jOB : ∀ (f : Nat) (n : Node) (t : Expr), NodeGood n -> NodeAll TInt n -> expr f n = .ok t -> Canon n (showE f t) := by
 intro f
 induction f with
 | zero => intro n t _ _ h; cases h
 | succ f ih =>
   intro n t hg hn h; have hgood := (jGL (f + 1) n t hn (fun _ _ => trivial) h).good; have kids : ∀ m ∈ n.list, ∀ y, expr f m = .ok y -> Canon m (showE f y) := fun m hm y hy => ih m y (hg.kid hm) (hn.kid hm) hy
   rw [expr] at h; by_cases h1 : jAF n = true
   . rw [if_pos h1] at h; unfold listExpr at h; by_cases w1 : word n = [102, 110]
     . rw [if_pos w1] at h; unfold jCW at h; cases hq : nodes n 3 3 with
       | error q => rw [hq] at h; cases h
       | ok l =>
         rw [hq] at h; simp only at h; obtain ⟨rfl, hl, hl2, hlb⟩ := jC8 hq; cases hns : names (n.list.getD 1 n) 1 with
         | error q => rw [hns] at h; cases h
         | ok ns =>
           rw [hns] at h; simp only at h; cases he : expr f (n.list.getD 2 n) with
           | error q => rw [he] at h; cases h
           | ok y =>
             rw [he] at h; simp only [Except.ok.injEq] at h; subst h; have c1 := jEF hg w1 (by simp) (fun x hx => hx.2.2.2.1); have c2 := jFX (hg.kid (jAT (l := n.list) (k := 1) (n := n) (by omega))) hns; have c3 := kids _ (jAT (l := n.list) (k := 2) (n := n) (by omega)) _ he; rw [jBC f _ _ _ _ _ _ _ hgood, if_neg (by decide), if_neg (by decide), if_neg (by decide), if_neg (by decide), if_pos rfl]; refine jBO hg hlb ?_; rw [jM4 hl hl2 n]; exact .cons c1 (.cons c2 (.cons c3 .nil))
     . rw [if_neg w1] at h; by_cases w2 : word n = [108, 101, 116]
       . rw [if_pos w2] at h; unfold jBW at h; cases hq : nodes n 3 3 with
         | error q => rw [hq] at h; cases h
         | ok l =>
           rw [hq] at h; simp only at h; obtain ⟨rfl, hl, hl2, hlb⟩ := jC8 hq; have m1 := jAT (l := n.list) (k := 1) (n := n) (by omega); cases hps : nodes (n.list.getD 1 n) 1 8 with
           | error q => rw [hps] at h; cases h
           | ok ps =>
             rw [hps] at h; simp only at h; obtain ⟨hpe, hpl, _, hpb⟩ := jC8 hps; cases hbs : each (pair (expr f)) ps with
             | error q => rw [hbs] at h; cases h
             | ok bs =>
               rw [hbs] at h; simp only at h; cases he : expr f (n.list.getD 2 n) with
               | error q => rw [he] at h; cases h
               | ok y =>
                 rw [he] at h; simp only [Except.ok.injEq] at h; subst h; have c1 := jEF hg w2 (by simp) (fun x hx => hx.2.2.2.2.1); have c3 := kids _ (jAT (l := n.list) (k := 2) (n := n) (by omega)) _ he
                 have e1 := jCO (len := fun b : List UInt8 × Expr => joined [b.1, showE f b.2]) (fun m hm x hx => by
                  have hmm : m ∈ (n.list.getD 1 n).list := by rw [<- hpe]; exact hm
                  have hmg := (hg.kid m1).kid hmm; have hmn := (hn.kid m1).kid hmm; unfold pair at hx; cases hz2 : nodes m 2 2 with
                  | error q => rw [hz2] at hx; cases hx
                  | ok l2 =>
                    rw [hz2] at hx; simp only at hx; obtain ⟨rfl, h4, h42, hmb⟩ := jC8 hz2; cases hz3 : name (m.list.headD m) with
                    | error q => rw [hz3] at hx; cases hx
                    | ok s =>
                      rw [hz3] at hx; simp only at hx; cases hz4 : expr f (m.list.getD 1 m) with
                      | error q => rw [hz4] at hx; cases hx
                      | ok e =>
                        rw [hz4] at hx; simp only [Except.ok.injEq] at hx; subst hx; have d1 := jFF (hmg.kid (jD3 (by omega))) hz3; have d2 := ih _ _ (hmg.kid (jAT (l := m.list) (k := 1) (n := m) (by omega))) (hmn.kid (jAT (l := m.list) (k := 1) (n := m) (by omega))) hz4; refine jBO hmg hmb ?_; rw [zq2 h4 h42 m]
                        exact .cons d1 (.cons d2 .nil)) hbs
                 rw [hpe] at e1; have c2 := jBO (hg.kid m1) hpb e1; rw [jBC f _ _ _ _ _ _ _ hgood, if_neg (by decide), if_neg (by decide), if_neg (by decide), if_neg (by decide), if_neg (by decide), if_neg (by decide), if_neg (by decide), if_pos rfl]; have hz : ((bs.map (·.2) ++ [y]).map (showE f)) = (bs.map (·.2)).map (showE f) ++ [showE f y] := by simp
                 rw [hz, jOT]; have hlast : ((bs.map (·.2)).map (showE f) ++ [showE f y]).getLastD [] = showE f y := by simp
                 rw [hlast]; refine jBO hg hlb ?_; rw [jM4 hl hl2 n]; exact .cons c1 (.cons c2 (.cons c3 .nil))
       . rw [if_neg w2] at h; by_cases w3 : word n = [99, 97, 115, 101]
         . rw [if_pos w3] at h; unfold jBL at h; cases hq : nodes n 3 18 with
           | error q => rw [hq] at h; cases h
           | ok l =>
             rw [hq] at h; simp only at h; obtain ⟨rfl, hl, hl2, hlb⟩ := jC8 hq; cases he : expr f (n.list.getD 1 n) with
             | error q => rw [he] at h; cases h
             | ok y =>
               rw [he] at h; simp only at h; cases hbs : each (alt f (expr f)) (n.list.drop 2) with
               | error q => rw [hbs] at h; cases h
               | ok alts1 =>
                 rw [hbs] at h; simp only [Except.ok.injEq] at h; subst h; have c1 := jEF hg w3 (by simp) (fun x hx => hx.2.2.2.2.2.1); have c2 := kids _ (jAT (l := n.list) (k := 1) (n := n) (by omega)) _ he
                 have e1 := jCO (len := fun b : Pat × Expr => joined [showP f b.1, showE f b.2]) (fun m hm x hx => by
                  have hmm : m ∈ n.list := List.mem_of_mem_drop hm; have hmg := hg.kid hmm; have hmn := hn.kid hmm; unfold alt at hx; cases hz2 : nodes m 2 2 with
                  | error q => rw [hz2] at hx; cases hx
                  | ok l2 =>
                    rw [hz2] at hx; simp only at hx; obtain ⟨rfl, h4, h42, hmb⟩ := jC8 hz2; cases hz3 : pat f (m.list.headD m) with
                    | error q => rw [hz3] at hx; cases hx
                    | ok s =>
                      rw [hz3] at hx; simp only at hx; cases hz4 : expr f (m.list.getD 1 m) with
                      | error q => rw [hz4] at hx; cases hx
                      | ok e =>
                        rw [hz4] at hx; simp only [Except.ok.injEq] at hx; subst hx; have d1 := jQ6 f _ _ (hmg.kid (jD3 (by omega))) hz3; have d2 := ih _ _ (hmg.kid (jAT (l := m.list) (k := 1) (n := m) (by omega))) (hmn.kid (jAT (l := m.list) (k := 1) (n := m) (by omega))) hz4; refine jBO hmg hmb ?_; rw [zq2 h4 h42 m]
                        exact .cons d1 (.cons d2 .nil)) hbs
                 rw [jBC f _ _ _ _ _ _ _ hgood, if_neg (by decide), if_neg (by decide), if_neg (by decide), if_neg (by decide), if_neg (by decide), if_neg (by decide), if_neg (by decide), if_neg (by decide)]; refine jBO hg hlb ?_; rw [zq4 (l := n.list) (by omega) n]; exact .cons c1 (.cons c2 e1)
         . rw [if_neg w3] at h; unfold jAV at h; cases hq : nodes n 2 9 with
           | error q => rw [hq] at h; cases h
           | ok l =>
             rw [hq] at h; simp only at h; obtain ⟨rfl, hl, hl2, hlb⟩ := jC8 hq; have hh0 : n.list.headD n ∈ n.list := jD3 (by omega)
             have tails : ∀ {s : List UInt8} {xs : List Expr}, Canon (n.list.headD n) s -> each (expr f) n.list.tail = .ok xs -> Canon n (joined (s :: xs.map (showE f))) := by
              intro s xs hs he; have e1 := jCO (len := showE f) (fun m hm x hx => kids m (List.mem_of_mem_tail hm) x hx) he; refine jBO hg hlb ?_; cases hnl : n.list with
              | nil => rw [hnl] at hl; simp at hl
              | cons a r => rw [hnl] at hs e1; exact .cons hs e1
             by_cases ht : 0 < (n.list.headD n).takes
             . rw [if_pos ht] at h; cases hh : hold n (1 + (n.list.headD n).takes) (1 + (n.list.headD n).takes) with
               | error q => rw [hh] at h; cases h
               | ok u =>
                 rw [hh] at h; simp only at h; cases hb : each (expr f) n.list.tail with
                 | error q => rw [hb] at h; cases h
                 | ok xs =>
                   rw [hb] at h; simp only [Except.ok.injEq] at h; subst h; rw [jBC f _ _ _ _ _ _ _ hgood, if_neg (by decide), if_neg (by decide), if_neg (by decide), if_pos rfl]; exact tails (jM8 (hg.kid hh0) ht) hb
             . rw [if_neg ht] at h; by_cases hcn : jAS (n.list.headD n) = true
               . rw [if_pos hcn] at h; cases hb : each (expr f) n.list.tail with
                 | error q => rw [hb] at h; cases h
                 | ok xs =>
                   rw [hb] at h; simp only [Except.ok.injEq] at h; subst h; have hxl := jCG hb; rw [List.length_tail] at hxl; rw [jBC f _ _ _ _ _ _ _ hgood, if_neg (by decide), if_neg (by decide), if_pos rfl, if_neg (by intro e; have := congrArg List.length e; rw [List.length_map, hxl] at this; simp at this; omega)]; exact tails (jCU (hg.kid hh0) (by unfold jAJ; rw [if_pos hcn])) hb
               . rw [if_neg hcn] at h; cases hb : each (expr f) n.list with
                 | error q => rw [hb] at h; cases h
                 | ok xs =>
                   rw [hb] at h; simp only [Except.ok.injEq] at h; subst h; rw [jBC f _ _ _ _ _ _ _ hgood, if_neg (by decide), if_neg (by decide), if_neg (by decide), if_neg (by decide), if_neg (by decide), if_pos rfl]; exact jBO hg hlb (jCO (len := showE f) (fun m hm x hx => kids m hm x hx) hb)
   . rw [if_neg h1] at h; have hlb : jAF n = false := by simpa using h1
     by_cases h2 : jB8 n = true
     . rw [if_pos h2] at h; simp only [Except.ok.injEq] at h; subst h; rw [jBC f _ _ _ _ _ _ _ hgood, if_pos rfl]; exact jKO hg (by unfold jB8 at h2; simpa using h2)
     . rw [if_neg h2] at h; have h2k := jI2 (by simpa using h2); by_cases h3 : jAS n = true
       . rw [if_pos h3] at h; simp only [Except.ok.injEq] at h; subst h; rw [jBC f _ _ _ _ _ _ _ hgood, if_neg (by decide), if_neg (by decide), if_pos rfl, if_pos (by rfl)]; exact jD hg hlb h2k
       . rw [if_neg h3] at h; by_cases h4 : jAM n = true
         . rw [if_pos h4] at h; simp only [Except.ok.injEq] at h; subst h; rw [jBC f _ _ _ _ _ _ _ hgood, if_neg (by decide), if_pos rfl]; exact jD hg hlb h2k
         . rw [if_neg h4] at h; cases h
theorem jQT (f : Nat) (n : Node) (c : Con) (hg : NodeGood n) (h : con f n = .ok c) : Canon n (jD2 f c) := by
 unfold con at h; cases hq : nodes n 1 9 with
 | error q => rw [hq] at h; cases h
 | ok l =>
   rw [hq] at h; simp only at h; obtain ⟨rfl, hl, _, hlb⟩ := jC8 hq; cases hc : jAJ (n.list.headD n) with
   | error q => rw [hc] at h; cases h
   | ok nm =>
     rw [hc] at h; simp only at h; have hk := jCU (hg.kid (jD3 (by omega))) hc; cases he : each (typeE f) n.list.tail with
     | error q => rw [he] at h; cases h
     | ok xs =>
       rw [he] at h; simp only [Except.ok.injEq] at h; subst h; have hs := jCO (len := showT f) (fun m hm x hx => jLW f m x (hg.kid (List.mem_of_mem_tail hm)) hx) he; refine jBO hg hlb ?_; cases hnl : n.list with
       | nil => rw [hnl] at hl; simp at hl
       | cons a r => rw [hnl] at hk hs; exact .cons hk hs
theorem jOG (f : Nat) (n : Node) (d : Data) (hg : NodeGood n) (hw : word n = [100, 97, 116, 97]) (h : data f n = .ok d) : Canon n (jBJ f d) := by
 unfold data at h; cases hq : nodes n 4 103 with
 | error q => rw [hq] at h; cases h
 | ok l =>
   rw [hq] at h; simp only at h; obtain ⟨rfl, hl, _, hlb⟩ := jC8 hq; have c0 := jEF hg hw (by simp) (fun x hx => hx.2.1); cases hcn : jAJ (n.list.getD 1 n) with
   | error q => rw [hcn] at h; cases h
   | ok nm =>
     rw [hcn] at h; simp only at h; have c1 := jCU (hg.kid (jAT (l := n.list) (k := 1) (n := n) (by omega))) hcn; cases hps : names (n.list.getD 2 n) 0 with
     | error q => rw [hps] at h; cases h
     | ok ps =>
       rw [hps] at h; simp only at h; have c2 := jFX (hg.kid (jAT (l := n.list) (k := 2) (n := n) (by omega))) hps; cases he : each (con f) (n.list.drop 3) with
       | error q => rw [he] at h; cases h
       | ok xs =>
         rw [he] at h; simp only [Except.ok.injEq] at h; subst h; have hs := jCO (len := jD2 f) (fun m hm x hx => jQT f m x (hg.kid (List.mem_of_mem_drop hm)) hx) he; refine jBO hg hlb ?_; rw [zq3 (l := n.list) (by omega) n]; exact .cons c0 (.cons c1 (.cons c2 hs))
theorem jOE (f : Nat) (n : Node) (d : Def) (hg : NodeGood n) (hn : NodeAll TInt n) (hw : word n = [100, 101, 102]) (h : defn f n = .ok d) : Canon n (jC0 f d) := by
 unfold defn at h; cases hq : nodes n 4 4 with
 | error q => rw [hq] at h; cases h
 | ok l =>
   rw [hq] at h; simp only at h; obtain ⟨rfl, hl, hl2, hlb⟩ := jC8 hq; have c0 := jEF hg hw (by simp) (fun x hx => hx.2.2.1); cases hcn : name (n.list.getD 1 n) with
   | error q => rw [hcn] at h; cases h
   | ok nm =>
     rw [hcn] at h; simp only at h; have c1 := jFF (hg.kid (jAT (l := n.list) (k := 1) (n := n) (by omega))) hcn; cases hps : names (n.list.getD 2 n) 0 with
     | error q => rw [hps] at h; cases h
     | ok ps =>
       rw [hps] at h; simp only at h; have c2 := jFX (hg.kid (jAT (l := n.list) (k := 2) (n := n) (by omega))) hps; cases he : expr f (n.list.getD 3 n) with
       | error q => rw [he] at h; cases h
       | ok x =>
         rw [he] at h; simp only [Except.ok.injEq] at h; subst h; have c3 := jOB f _ _ (hg.kid (jAT (l := n.list) (k := 3) (n := n) (by omega))) (hn.kid (jAT (l := n.list) (k := 3) (n := n) (by omega))) he; refine jBO hg hlb ?_; rw [zq5 hl hl2 n]; exact .cons c0 (.cons c1 (.cons c2 (.cons c3 .nil)))
end Px
end Go.Proofs.YtnhndamfbeiljaaGreatDoor
