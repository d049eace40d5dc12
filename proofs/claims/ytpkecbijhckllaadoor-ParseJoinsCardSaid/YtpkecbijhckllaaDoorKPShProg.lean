/-
 The reference's text of a program.
-/
import Derived.Test.YtpkecbijhckllaaDoorKPShE
namespace Go.Proofs.YtpkecbijhckllaaDoor
open Go Go.RowKit
set_option linter.unusedVariables false
set_option linter.unusedSimpArgs false
theorem flat_take {l : List (List UInt8)} {k : Nat} {x : List UInt8} (h : l[k]? = some x) : (l.take (k + 1)).flatten = (l.take k).flatten ++ x := by
 rw [List.take_add_one, h]; simp
theorem flat_le (l : List (List UInt8)) : ∀ k, (l.take k).flatten.length ≤ l.flatten.length := by
 induction l with
 | nil => intro k; simp
 | cons a l ih =>
  intro k
  cases k with
  | zero => simp
  | succ k => simp only [List.take_succ_cons, List.flatten_cons, List.length_append]; have := ih k; omega
theorem flat_mem {l : List (List UInt8)} {x : List UInt8} (h : x ∈ l) : x.length ≤ l.flatten.length := by
 induction l with
 | nil => cases h
 | cons a l ih =>
  simp only [List.flatten_cons, List.length_append]
  rcases List.mem_cons.1 h with rfl | h
  · omega
  · have := ih h; omega
theorem row_long {α : Type} {sz : Nat} {rep : Value → α → Prop} {w : World} {v : Value} {xs : List α} (h : RowAt sz rep w v xs) : (xs.length : Int) ≤ 9223372036854775807 := by
 rcases h with ⟨rfl, _⟩ | ⟨g, o, c, _, h1, h2, _⟩
 · simp
 · omega
theorem conAt_below {f : Nat} {w w' : World} {v : Value} {c : Px.Con} (h : ConAt f w v c) (hb : Below w.heap.size w w') : ConAt f w' v c := by
 obtain ⟨av, rfl, h1⟩ := h
 exact ⟨av, rfl, h1.mono hb (fun u x _ hu => typeAt_below hu hb)⟩
set_option maxHeartbeats 8000000 in
set_option maxRecDepth 100000 in
theorem showProg_any (f : Nat) (v : Value) (q : Px.Prog) (w : World) (h : ProgAt f w v q) (hgood : ∀ d ∈ q.defs, GoodE f d.body) (hlen : (Px.showProg f q).length ≤ 800000) (htab : Lib.TabIs Tryd.prog w "internal/strconv.uint64pow10" .u64 Lib.pow10Tab) :
 Calls Tryd.prog 18 #[v] w fun e w' => e = .returned (.string ⟨(Px.showProg f q).toArray⟩) ∧ Below w.heap.size w w' := by
 obtain ⟨dv, fv, rfl, hds, hfs⟩ := h
 obtain ⟨q1, c1, rfl⟩ := hds.len
 obtain ⟨q2, c2, rfl⟩ := hfs.len
 obtain ⟨i0, hi, hz0, hz1, hz2⟩ := info_parts infoStr
 have HI1 := Lib.hid hz1; have HI2 := Lib.hid hz2; have HI0 := Lib.hid hz0; have HI := Lib.hid hi
 clear hi hz0 hz1 hz2
 obtain ⟨DS, hDS⟩ : ∃ DS, DS = q.datas.map fun d => Px.showData f d ++ [10] := ⟨_, rfl⟩
 obtain ⟨FS, hFS⟩ : ∃ FS, FS = q.defs.map fun d => Px.showDef f d ++ [10] := ⟨_, rfl⟩
 have hout : Px.showProg f q = DS.flatten ++ FS.flatten := by rw [hDS, hFS]; rfl
 rw [hout] at hlen ⊢
 rw [List.length_append] at hlen
 have HDS := Lib.hid hDS; have HFS := Lib.hid hFS; have HD := Lib.hid hds; have HF := Lib.hid hfs; have HGOOD := Lib.hid hgood; have HTAB := Lib.hid htab
 obtain ⟨ND, hND⟩ : ∃ ND, ND = q.datas.length := ⟨_, rfl⟩
 obtain ⟨NF, hNF⟩ : ∃ NF, NF = q.defs.length := ⟨_, rfl⟩
 have hDl : DS.length = ND := by rw [hDS, hND]; simp
 have hFl : FS.length = NF := by rw [hFS, hNF]; simp
 rw [← hND, ← hNF]
 have hnb1 : (ND : Int) ≤ 9223372036854775807 := by rw [hND]; exact row_long hds
 have hnb2 : (NF : Int) ≤ 9223372036854775807 := by rw [hNF]; exact row_long hfs
 have HND := Lib.hid hND; have HNF := Lib.hid hNF; have HDL := Lib.hid hDl; have HFL := Lib.hid hFl
 clear hds hfs hgood htab hDS hFS hout hND hNF hDl hFl
 have hb0 : Below w.heap.size w (w.alloc (.cells #[.slice q1 ND c1, .slice q2 NF c2] 27)) := (Below.refl _ _).alloc (Nat.le_refl _) _
 have EN := Lib.hid (ent_new w #[.slice q1 ND c1, .slice q2 NF c2] 27)
 have HB0 := Lib.hid hb0
 clear hb0
 go_enter Tryd.func18, Tryd.ntmps18
 go_wp2_with fail
 go_loopw [3, 4] (fun s i wr => ∃ k : Nat, i = .int .i64 k ∧ k ≤ ND ∧ s = .string ⟨((DS.take k).flatten).toArray⟩ ∧ Hid (wr.heap[w.heap.size]? = some (.cells #[.slice q1 ND c1, .slice q2 NF c2] 27 (0, 0))) ∧ Hid (Below w.heap.size w wr)) (fun _ i _ => ND - (intOf i).toNat)
 case atStart => exact ⟨0, rfl, Nat.zero_le _, rfl, EN, HB0⟩
 case round =>
  clear EN HB0
  obtain ⟨k, rfl, hk, rfl, EN, HB⟩ := hrel
  have hs := HB.out.size
  have e0 := ent_cell EN.out 0 _ rfl
  have e1 := ent_cell EN.out 1 _ rfl
  have hle := flat_le DS k
  by_cases hlt : k < ND
  · obtain ⟨d, hd⟩ : ∃ d, q.datas[k]? = some d := ⟨_, List.getElem?_eq_getElem (by rw [← HND.out]; exact hlt)⟩
    rcases HD.out with ⟨h, _⟩ | ⟨g, o, c', hv, h1, h2, h3⟩
    · have := HND.out; rw [h] at this; simp at this; omega
    injection hv with hq _ hc
    subst hq; subst hc
    obtain ⟨u, ⟨nv, cv, rfl, hps, hcs⟩, _, huc⟩ := h3 k d hd
    obtain ⟨pq, pc, rfl⟩ := hps.len
    obtain ⟨cq, cc, rfl⟩ := hcs.len
    have up : ∀ j z, w.cell? ⟨g, j, none⟩ = some z → wr.cell? ⟨g, j, none⟩ = some z := fun j z hz => (HB.out.cell (World.block_lt_of_cell? w _ hz)).trans hz
    have f0 := up _ _ (huc 0 _ rfl); have f1 := up _ _ (huc 1 _ rfl); have f2 := up _ _ (huc 2 _ rfl); have f3 := up _ _ (huc 3 _ rfl)
    rw [Nat.add_zero] at f0
    have hdx : DS[k]? = some (Px.showData f d ++ [10]) := by rw [HDS.out, List.getElem?_map, hd]; rfl
    have hst := flat_take hdx
    have hdl := flat_mem (List.mem_of_getElem? hdx)
    rw [List.length_append, List.length_singleton] at hdl
    obtain ⟨CS, hCS⟩ : ∃ CS, CS = d.cons.map (Px.showCon f) := ⟨_, rfl⟩
    have hdt : Px.showData f d = joined ([100, 97, 116, 97] :: d.name :: joined d.params :: CS) := by rw [hCS]; rfl
    rw [hdt, joined_len] at hdl
    have hcnt := glue_count ([100, 97, 116, 97] :: d.name :: joined d.params :: CS)
    have hCl : CS.length = d.cons.length := by rw [hCS]; simp
    have hnc : d.cons.length ≤ 800000 := by simp only [List.length_cons, hCl] at hcnt; omega
    have hpl := glue_mem ([100, 97, 116, 97] :: d.name :: joined d.params :: CS) (joined d.params) (by simp)
    rw [joined_len] at hpl
    have hgp : (glue d.params).length ≤ 900000 := by omega
    have hgd : (glue ([100, 97, 116, 97] :: d.name :: joined d.params :: CS)).length ≤ 800000 := by omega
    have HST := Lib.hid hst; have HDT := Lib.hid hdt; have HCS := Lib.hid hCS; have HCL := Lib.hid hCl; have HPS := Lib.hid (strRow_below hps HB.out); have HCC := Lib.hid hcs; have HGD := Lib.hid hgd
    have hsum : ((DS.take k).flatten).length + (joined ([100, 97, 116, 97] :: d.name :: joined d.params :: CS)).length + 1 ≤ 800000 := by
     have h5 := flat_le DS (k + 1)
     rw [hst, hdt, List.length_append, List.length_append, List.length_singleton] at h5; omega
    have HSUM := Lib.hid hsum
    clear hst hdt hdl hcnt hCS hCl hpl hps hcs huc up h3 hd hdx hgd hsum hle
    obtain ⟨S, hS⟩ : ∃ S, S = (DS.take k).flatten := ⟨_, rfl⟩
    rw [← hS] at HST HSUM ⊢
    clear hS
    obtain ⟨V, hV⟩ : ∃ x, x = wr := ⟨wr, rfl⟩
    subst hV
    have EN2 := Lib.hid (ent_alloc EN.out (.cells #[.int .i64 d.pos, .string ⟨d.name.toArray⟩, .slice pq d.params.length pc, .slice cq d.cons.length cc] 83))
    have ED := Lib.hid (ent_new V #[.int .i64 d.pos, .string ⟨d.name.toArray⟩, .slice pq d.params.length pc, .slice cq d.cons.length cc] 83)
    have hal : Below V.heap.size V (V.alloc (.cells #[.int .i64 d.pos, .string ⟨d.name.toArray⟩, .slice pq d.params.length pc, .slice cq d.cons.length cc] 83)) := (Below.refl _ _).alloc (Nat.le_refl _) _
    have HB2 := Lib.hid (HB.out.trans (hal.mono hs))
    have HPS2 := Lib.hid (strRow_below HPS.out hal)
    clear hal HPS
    go_wp2_with fail
    obtain ⟨U, hU⟩ : ∃ U, U = V.alloc (.cells #[.int .i64 d.pos, .string ⟨d.name.toArray⟩, .slice pq d.params.length pc, .slice cq d.cons.length cc] 83) := ⟨_, rfl⟩
    rw [← hU] at EN2 ED HB2 HPS2 ⊢
    clear hU f0 f1 f2 f3 e0 e1
    have d1 := ent_cell ED.out 1 _ rfl
    have d2 := ent_cell ED.out 2 _ rfl
    go_still_tail 5, (by kernel_rfl)
    still_call (join_any _ d.params _ (strRow_below HPS2.out (Below.drew (Below.refl _ _))) hgp)
    repeat still_step
    try refine wpStill_nil ?_
    change wpList _ _ _ _ _ U.drew
    replace EN2 : Hid (U.drew.heap[w.heap.size]? = _) := EN2
    replace ED : Hid (U.drew.heap[V.heap.size]? = _) := ED
    replace HB2 := Lib.hid HB2.out.drew
    have hVU : V.heap.size < U.drew.heap.size := ent_lt ED.out
    clear d1 d2 HPS2 hgp
    generalize U.drew = U at *
    have hsU := HB2.out.size
    obtain ⟨h0, hh0⟩ : ∃ h0, h0 = [[100, 97, 116, 97], d.name, joined d.params] := ⟨_, rfl⟩
    have hown := World.ownsRow_lit (base := U.heap.size) (e := 9) (size := 1) U #[.string ⟨#[100, 97, 116, 97]⟩, .string ⟨d.name.toArray⟩, .string ⟨(joined d.params).toArray⟩] 3 (Nat.le_refl _) (by unfold maxLen; omega) rfl
    have hown' : (U.alloc (.cells #[.string ⟨#[100, 97, 116, 97]⟩, .string ⟨d.name.toArray⟩, .string ⟨(joined d.params).toArray⟩] 9)).ownsRow U.heap.size 9 1 (.slice (some ⟨U.heap.size, 0, none⟩) 3 3) (0 + 3) (strVs (h0 ++ CS.take 0)) := by
     rw [hh0]; exact hown
    have hal : Below U.heap.size U (U.alloc (.cells #[.string ⟨#[100, 97, 116, 97]⟩, .string ⟨d.name.toArray⟩, .string ⟨(joined d.params).toArray⟩] 9)) := (Below.refl _ _).alloc (Nat.le_refl _) _
    have HOWN := Lib.hid hown'; have HBU := Lib.hid hal; have HH0 := Lib.hid hh0
    clear hown hown' hal hh0
    go_wp2_with fail
    go_loopw [6, 7] (fun lv i wr => ∃ j : Nat, i = .int .i64 j ∧ j ≤ d.cons.length ∧ Hid (wr.ownsRow U.heap.size 9 1 lv (j + 3) (strVs (h0 ++ CS.take j))) ∧ Hid (Below U.heap.size U wr)) (fun _ i _ => d.cons.length - (intOf i).toNat)
    case atStart => exact ⟨0, rfl, Nat.zero_le _, HOWN, HBU⟩
    case round =>
     clear HOWN HBU
     obtain ⟨j, rfl, hj, HOWN, HBU⟩ := hrel
     have hs2 := HBU.out.size
     have ED2 := Lib.hid (ent_below ED.out HBU.out)
     have d3 := ent_cell ED2.out 3 _ rfl
     by_cases hlt2 : j < d.cons.length
     · obtain ⟨cn, hcn⟩ : ∃ x, d.cons[j]? = some x := ⟨_, List.getElem?_eq_getElem hlt2⟩
       have hbw : Below w.heap.size w wr := HB2.out.trans (HBU.out.mono HB2.out.size)
       rcases HCC.out with ⟨h, _⟩ | ⟨gc, oc, cc', hv, h1c, h2c, h3c⟩
       · rw [h] at hlt2; simp at hlt2
       injection hv with hq _ hc
       subst hq; subst hc
       obtain ⟨u, ⟨av, rfl, hfl⟩, _, huc⟩ := h3c j cn hcn
       obtain ⟨fq, fc, rfl⟩ := hfl.len
       have up : ∀ j z, w.cell? ⟨gc, j, none⟩ = some z → wr.cell? ⟨gc, j, none⟩ = some z := fun j z hz => (hbw.cell (World.block_lt_of_cell? w _ hz)).trans hz
       have f1 := up _ _ (huc 1 _ rfl); have f2 := up _ _ (huc 2 _ rfl)
       obtain ⟨TS, hTS⟩ : ∃ TS, TS = cn.fields.map (Px.showT f) := ⟨_, rfl⟩
       have hcx : CS[j]? = some (joined (cn.name :: TS)) := by rw [HCS.out, List.getElem?_map, hcn, hTS]; rfl
       have hcl := glue_mem ([100, 97, 116, 97] :: d.name :: joined d.params :: CS) _ (List.mem_cons_of_mem _ (List.mem_cons_of_mem _ (List.mem_cons_of_mem _ (List.mem_of_getElem? hcx))))
       rw [joined_len] at hcl
       have hgt : (glue (cn.name :: TS)).length ≤ 800000 := by have := HGD.out; omega
       have hcnt := glue_count (cn.name :: TS)
       have hTl : TS.length = cn.fields.length := by rw [hTS]; simp
       have hnf : cn.fields.length ≤ 800000 := by simp only [List.length_cons, hTl] at hcnt; omega
       have HCX := Lib.hid hcx; have HTS := Lib.hid hTS; have HTL := Lib.hid hTl; have HFL := Lib.hid hfl; have HGT := Lib.hid hgt
       obtain ⟨X, hX⟩ : ∃ x, x = wr := ⟨wr, rfl⟩
       subst hX
       have g1 := f1; have g2 := f2
       have CELLS := Lib.hid (And.intro f1 (And.intro f2 d3))
       clear h3c huc up hcx hTS hTl hcl hgt hcnt hfl hcn g1 g2
       have hown1 := World.ownsRow_lit (base := X.heap.size) (e := 9) (size := 1) X #[.string ⟨cn.name.toArray⟩] 1 (Nat.le_refl _) (by unfold maxLen; omega) rfl
       have hown1' : (X.alloc (.cells #[.string ⟨cn.name.toArray⟩] 9)).ownsRow X.heap.size 9 1 (.slice (some ⟨X.heap.size, 0, none⟩) 1 1) (0 + 1) (strVs (cn.name :: TS.take 0)) := hown1
       have OWN1 := Lib.hid hown1'
       have HB1 := Lib.hid ((Below.refl X.heap.size X).alloc (Nat.le_refl _) (.cells #[.string ⟨cn.name.toArray⟩] 9))
       clear hown1 hown1'
       go_wp2_with fail
       go_loopw [8, 9] (fun cv i wr => ∃ m : Nat, i = .int .i64 m ∧ m ≤ cn.fields.length ∧ Hid (wr.ownsRow X.heap.size 9 1 cv (m + 1) (strVs (cn.name :: TS.take m))) ∧ Hid (Below X.heap.size X wr)) (fun _ i _ => cn.fields.length - (intOf i).toNat)
       case atStart => exact ⟨0, rfl, Nat.zero_le _, OWN1, HB1⟩
       case round =>
        clear OWN1 HB1 f1 f2 d3
        obtain ⟨m, rfl, hm, HOC, HBX⟩ := hrel
        have hsX := HBX.out.size
        have f1 := (HBX.out.cell (World.block_lt_of_cell? _ _ CELLS.out.1)).trans CELLS.out.1
        have f2 := (HBX.out.cell (World.block_lt_of_cell? _ _ CELLS.out.2.1)).trans CELLS.out.2.1
        have d3 := (HBX.out.cell (World.block_lt_of_cell? _ _ CELLS.out.2.2)).trans CELLS.out.2.2
        have hbwX : Below w.heap.size w wr := (HB2.out.trans (HBU.out.mono HB2.out.size)).trans (HBX.out.mono (HB2.out.trans (HBU.out.mono HB2.out.size)).size)
        by_cases hlt3 : m < cn.fields.length
        · obtain ⟨t, ht⟩ : ∃ t, cn.fields[m]? = some t := ⟨_, List.getElem?_eq_getElem hlt3⟩
          rcases HFL.out with ⟨h, _⟩ | ⟨gf, of, cf, hv, h1f, h2f, h3f⟩
          · rw [h] at hlt3; simp at hlt3
          injection hv with hq _ hc
          subst hq; subst hc
          obtain ⟨u, hu, hus, huc⟩ := h3f m t ht
          obtain ⟨tp, ts, q1', n1, k1, rfl⟩ := typeAt_form f _ _ _ hu
          have t0 := huc 0 _ rfl; have t1 := huc 1 _ rfl; have t2 := huc 2 _ rfl
          replace t0 := (hbwX.cell (World.block_lt_of_cell? w _ t0)).trans t0
          replace t1 := (hbwX.cell (World.block_lt_of_cell? w _ t1)).trans t1
          replace t2 := (hbwX.cell (World.block_lt_of_cell? w _ t2)).trans t2
          rw [Nat.add_zero] at t0
          have HU := Lib.hid (typeAt_below hu hbwX)
          have hpl := glue_mem (cn.name :: TS) (Px.showT f t) (by rw [HTS.out]; exact List.mem_cons_of_mem _ (List.mem_map_of_mem (List.mem_of_getElem? ht)))
          have hpl2 : (Px.showT f t).length ≤ 800000 := by have := HGT.out; omega
          have htm : TS[m]? = some (Px.showT f t) := by rw [HTS.out, List.getElem?_map, ht]; rfl
          have HTM := Lib.hid htm
          clear h3f huc hu hus ht hpl htm hbwX
          go_wp2_with fail
          refine (showType_any f _ t _ HU.out hpl2).mono ?_
          rintro e w2 ⟨rfl, hb2⟩
          have HOC2 := Lib.hid (own_kept HOC.out hb2)
          have HBX2 := Lib.hid (HBX.out.trans (hb2.mono HBX.out.size))
          have hs3 := HBX2.out.size
          obtain ⟨S1, hS1⟩ : ∃ S, S = Px.showT f t := ⟨_, rfl⟩
          rw [← hS1] at HTM ⊢
          clear hb2 hS1 hpl2
          go_wp2_with (at_builtin; refine wpList_append_loc _ rfl (.tmp 55) (.tmp 66) 34 rfl X.heap.size 9 i0 (.string ⟨#[]⟩) 1 16 Tryd.underlying34 HI.out HI0.out HI1.out HI2.out rfl (by decide) _ (m + 1) _ rfl (HOC2.out.alloc _) ⟨w2.heap.size, 0, none⟩ 1 1 [.string ⟨S1.toArray⟩] rfl (by decide) rfl ?ca1 ?ca2 ?ca3 ?ca4 ?ca5 ?_)
          case ca1 => exact fun j u h => newText w2 S1 _ j u h
          case ca2 => exact one_text S1
          case ca3 => unfold maxLen; omega
          case ca4 => omega
          case ca5 => simp; omega
          intro v' w3 hown3 hgr hloc
          have hB3 := (HBX2.out.alloc hs3 (.cells #[.string ⟨S1.toArray⟩] 9)).grown hgr (by simp; omega) (fun kk hkk => (HOC2.out.lt kk hkk).1)
          have hl3 : strVs (cn.name :: TS.take m) ++ [.string ⟨S1.toArray⟩] = strVs (cn.name :: TS.take (m + 1)) := by
           rw [← strVs_snoc, List.take_add_one, HTM.out]; rfl
          rw [hl3] at hown3
          have H1 := Lib.hid hown3; have H3 := Lib.hid hB3
          clear hown3 hB3 hgr hloc hl3 f1 f2 d3 t0 t1 t2
          go_wp2
          go_roundw
          case rel => exact ⟨m + 1, by go_num, by omega, H1, H3⟩
          case measure => simp [intOf]; omega
        · obtain rfl : m = cn.fields.length := by omega
          have htk : TS.take cn.fields.length = TS := by rw [← HTL.out, List.take_length]
          rw [htk] at HOC
          clear htk
          obtain ⟨S1, hS1⟩ : ∃ S, S = joined (cn.name :: TS) := ⟨_, rfl⟩
          have hj := join_any _ _ wr (row_of_own HOC.out) (by have := HGT.out; omega)
          rw [← hS1] at hj HCX
          obtain ⟨pc3, cc3, rfl⟩ := own_len HOC.out
          have HJ := Lib.hid hj
          have HOL := Lib.hid (own_kept HOWN.out HBX.out)
          have HBV := Lib.hid (HBU.out.trans (HBX.out.mono HBU.out.size))
          have hsV := HBV.out.size
          clear hj hS1
          go_wp2_with fail
          refine HJ.out.mono ?_
          rintro e w4 ⟨rfl, rfl⟩
          go_wp2_with (at_builtin; refine wpList_append_loc _ rfl (.tmp 68) (.tmp 71) 34 rfl U.heap.size 9 i0 (.string ⟨#[]⟩) 1 16 Tryd.underlying34 HI.out HI0.out HI1.out HI2.out rfl (by decide) _ (j + 3) _ rfl (HOL.out.alloc _) ⟨w4.heap.size, 0, none⟩ 1 1 [.string ⟨S1.toArray⟩] rfl (by decide) rfl ?cb1 ?cb2 ?cb3 ?cb4 ?cb5 ?_)
          case cb1 => exact fun j u h => newText w4 S1 _ j u h
          case cb2 => exact one_text S1
          case cb3 => unfold maxLen; omega
          case cb4 => omega
          case cb5 => simp; omega
          intro v' w3 hown3 hgr hloc
          have hB3 := (HBV.out.alloc hsV (.cells #[.string ⟨S1.toArray⟩] 9)).grown hgr (by simp; omega) (fun kk hkk => (HOL.out.lt kk hkk).1)
          have hl3 : strVs (h0 ++ CS.take j) ++ [.string ⟨S1.toArray⟩] = strVs (h0 ++ CS.take (j + 1)) := by
           rw [← strVs_snoc, List.take_add_one, HCX.out, List.append_assoc]; rfl
          rw [hl3] at hown3
          have H1 := Lib.hid hown3; have H3 := Lib.hid hB3
          clear hown3 hB3 hgr hloc hl3 f1 f2 d3
          go_wp2
          go_roundw
          case rel => exact ⟨j + 1, by go_num, by omega, Lib.hid (by rw [show j + 1 + 3 = j + 3 + 1 by omega]; exact H1.out), H3⟩
          case measure => simp [intOf]; omega
     · obtain rfl : j = d.cons.length := by omega
       have htk : CS.take d.cons.length = CS := by rw [← HCL.out, List.take_length]
       rw [htk, HH0.out] at HOWN
       clear htk
       have hj := join_any _ _ wr (row_of_own HOWN.out) (by have := HGD.out; exact Nat.le_trans this (by omega))
       obtain ⟨S1, hS1⟩ : ∃ S, S = joined ([[100, 97, 116, 97], d.name, joined d.params] ++ CS) := ⟨_, rfl⟩
       have hS1' : S1 = Px.showData f d := by rw [hS1, HDT.out]; rfl
       rw [← hS1] at hj
       have hsm : S.length + S1.length + 1 ≤ 800000 := by rw [hS1]; exact HSUM.out
       rw [← hS1'] at HST
       obtain ⟨pl3, cl3, rfl⟩ := own_len HOWN.out
       have HJ := Lib.hid hj
       have HBF := Lib.hid (HB2.out.trans (HBU.out.mono HB2.out.size))
       have ENF := Lib.hid (ent_below EN2.out HBU.out)
       clear hj hS1 hS1'
       go_wp2_with fail
       refine HJ.out.mono ?_
       rintro e w4 ⟨rfl, rfl⟩
       have s1 := sum_text (w := w4) S1 [10] (by simp only [List.length_singleton]; omega)
       have s2 := sum_text (w := w4) S (S1 ++ [10]) (by simp only [List.length_append, List.length_singleton]; omega)
       rw [← HST.out] at s2
       go_wp2_with fail
       go_roundw
       case rel => exact ⟨k + 1, by go_num, by omega, by first | rfl | (rw [HST.out, bytes_lit1, bytes_app]), ENF, HBF⟩
       case measure => simp [intOf]; omega
  · obtain rfl : ND = k := by omega
    have htk : DS.take ND = DS := by rw [← HDL.out, List.take_length]
    rw [htk]
    clear htk hle
    obtain ⟨S0, hS0⟩ : ∃ S, S = DS.flatten := ⟨_, rfl⟩
    rw [← hS0] at hlen ⊢
    have HS0 := Lib.hid hS0
    clear hS0
    obtain ⟨V, hV⟩ : ∃ x, x = wr := ⟨wr, rfl⟩
    subst hV
    go_wp2_with fail
    go_loopw [3, 10] (fun s i wr => ∃ j : Nat, i = .int .i64 j ∧ j ≤ NF ∧ s = .string ⟨(S0 ++ (FS.take j).flatten).toArray⟩ ∧ Hid (wr.heap[w.heap.size]? = some (.cells #[.slice q1 ND c1, .slice q2 NF c2] 27 (0, 0))) ∧ Hid (Below w.heap.size w wr)) (fun _ i _ => NF - (intOf i).toNat)
    case atStart => exact ⟨0, rfl, Nat.zero_le _, by simp, EN, HB⟩
    case round =>
     clear EN HB e0 e1 hs
     obtain ⟨j, rfl, hj, rfl, EN, HB⟩ := hrel
     have hs := HB.out.size
     have e0 := ent_cell EN.out 0 _ rfl
     have e1 := ent_cell EN.out 1 _ rfl
     by_cases hlt2 : j < NF
     · obtain ⟨d, hd⟩ : ∃ d, q.defs[j]? = some d := ⟨_, List.getElem?_eq_getElem (by rw [← HNF.out]; exact hlt2)⟩
       rcases HF.out with ⟨h, _⟩ | ⟨g, o, c', hv, h1, h2, h3⟩
       · have := HNF.out; rw [h] at this; simp at this; omega
       injection hv with hq _ hc
       subst hq; subst hc
       obtain ⟨u, ⟨nv, b0, b1, b2, b3, b4, b5, b6, rfl, hps, hex⟩, _, huc⟩ := h3 j d hd
       obtain ⟨pq, pc, rfl⟩ := hps.len
       obtain ⟨xk, xp, xi, xs, r1, n1, d1, r2, n2, d2, r3, n3, d3, he⟩ := exprAt_form f _ _ _ hex
       simp only [Value.agg.injEq, Array.mk.injEq, List.cons.injEq, and_true] at he
       obtain ⟨rfl, rfl, rfl, rfl, rfl, rfl, rfl⟩ := he
       have up : ∀ j z, w.cell? ⟨g, j, none⟩ = some z → wr.cell? ⟨g, j, none⟩ = some z := fun j z hz => (HB.out.cell (World.block_lt_of_cell? w _ hz)).trans hz
       have f0 := up _ _ (huc 0 _ rfl)
       have f1 := up _ _ (huc 1 _ rfl)
       have f2 := up _ _ (huc 2 _ rfl)
       have f3 := up _ _ (huc 3 _ rfl)
       have f4 := up _ _ (huc 4 _ rfl)
       have f5 := up _ _ (huc 5 _ rfl)
       have f6 := up _ _ (huc 6 _ rfl)
       have f7 := up _ _ (huc 7 _ rfl)
       have f8 := up _ _ (huc 8 _ rfl)
       have f9 := up _ _ (huc 9 _ rfl)
       rw [Nat.add_zero] at f0
       have hdx : FS[j]? = some (Px.showDef f d ++ [10]) := by rw [HFS.out, List.getElem?_map, hd]; rfl
       have hst := flat_take hdx
       have hdl := flat_mem (List.mem_of_getElem? hdx)
       rw [List.length_append, List.length_singleton] at hdl
       have hdt : Px.showDef f d = joined [[100, 101, 102], d.name, joined d.params, Px.showE f d.body] := rfl
       rw [hdt, joined_len] at hdl
       have hpl := glue_mem [[100, 101, 102], d.name, joined d.params, Px.showE f d.body] (joined d.params) (by simp)
       rw [joined_len] at hpl
       have hpe := glue_mem [[100, 101, 102], d.name, joined d.params, Px.showE f d.body] (Px.showE f d.body) (by simp)
       have hgp : (glue d.params).length ≤ 900000 := by omega
       have hel : (Px.showE f d.body).length ≤ 800000 := by omega
       have hsum : (S0 ++ (FS.take j).flatten).length + (joined [[100, 101, 102], d.name, joined d.params, Px.showE f d.body]).length + 1 ≤ 800000 := by
        have h5 := flat_le FS (j + 1)
        rw [hst, hdt, List.length_append, List.length_append, List.length_singleton] at h5
        rw [List.length_append]; omega
       have hgj : (glue [[100, 101, 102], d.name, joined d.params, Px.showE f d.body]).length ≤ 800000 := by rw [joined_len] at hsum; omega
       have HST := Lib.hid (show S0 ++ (FS.take (j + 1)).flatten = (S0 ++ (FS.take j).flatten) ++ (joined [[100, 101, 102], d.name, joined d.params, Px.showE f d.body] ++ [10]) by rw [hst, hdt, List.append_assoc])
       have HSUM := Lib.hid hsum
       have hgd := HGOOD.out d (List.mem_of_getElem? hd)
       have hal : Below wr.heap.size wr (wr.alloc (.cells #[.int .i64 d.pos, .string ⟨d.name.toArray⟩, .slice pq d.params.length pc, .int .i64 xk, .int .i64 xp, .string xs, .int .i64 xi, .slice r1 n1 d1, .slice r2 n2 d2, .slice r3 n3 d3] 46)) := (Below.refl _ _).alloc (Nat.le_refl _) _
       have ED := Lib.hid (ent_new wr #[.int .i64 d.pos, .string ⟨d.name.toArray⟩, .slice pq d.params.length pc, .int .i64 xk, .int .i64 xp, .string xs, .int .i64 xi, .slice r1 n1 d1, .slice r2 n2 d2, .slice r3 n3 d3] 46)
       have EN2 := Lib.hid (ent_below EN.out hal)
       have HB2 := Lib.hid (HB.out.trans (hal.mono hs))
       have HPS := Lib.hid hps; have HEX := Lib.hid hex
       clear hst hdt hdl hpl hpe hps hex huc up h3 hd hdx hal hsum
       obtain ⟨S, hS⟩ : ∃ S, S = S0 ++ (FS.take j).flatten := ⟨_, rfl⟩
       rw [← hS] at HST HSUM ⊢
       clear hS
       go_wp2_with fail
       obtain ⟨U, hU⟩ : ∃ U, U = wr.alloc (.cells #[.int .i64 d.pos, .string ⟨d.name.toArray⟩, .slice pq d.params.length pc, .int .i64 xk, .int .i64 xp, .string xs, .int .i64 xi, .slice r1 n1 d1, .slice r2 n2 d2, .slice r3 n3 d3] 46) := ⟨_, rfl⟩
       rw [← hU] at ED EN2 HB2 ⊢
       clear hU e0 e1 f0 f1 f2 f3 f4 f5 f6 f7 f8 f9
       have hallS : ∀ u, Below U.heap.size U u → u.cell? ⟨wr.heap.size, 1, none⟩ = some (.string ⟨d.name.toArray⟩) ∧ u.cell? ⟨wr.heap.size, 2, none⟩ = some (.slice pq d.params.length pc) ∧ u.cell? ⟨wr.heap.size, 3, none⟩ = some (.int .i64 xk) ∧ u.cell? ⟨wr.heap.size, 4, none⟩ = some (.int .i64 xp) ∧ u.cell? ⟨wr.heap.size, 5, none⟩ = some (.string xs) ∧ u.cell? ⟨wr.heap.size, 6, none⟩ = some (.int .i64 xi) ∧ u.cell? ⟨wr.heap.size, 7, none⟩ = some (.slice r1 n1 d1) ∧ u.cell? ⟨wr.heap.size, 8, none⟩ = some (.slice r2 n2 d2) ∧ u.cell? ⟨wr.heap.size, 9, none⟩ = some (.slice r3 n3 d3) := fun u hu => by
        have e := ent_below ED.out hu
        exact ⟨ent_cell e 1 _ rfl, ent_cell e 2 _ rfl, ent_cell e 3 _ rfl, ent_cell e 4 _ rfl, ent_cell e 5 _ rfl, ent_cell e 6 _ rfl, ent_cell e 7 _ rfl, ent_cell e 8 _ rfl, ent_cell e 9 _ rfl⟩
       have HALL := Lib.hid hallS
       obtain ⟨S1, hS1⟩ : ∃ S, S = Px.showE f d.body := ⟨_, rfl⟩
       obtain ⟨S2, hS2⟩ : ∃ S, S = joined d.params := ⟨_, rfl⟩
       obtain ⟨S3, hS3⟩ : ∃ S, S = joined [[100, 101, 102], d.name, joined d.params, Px.showE f d.body] := ⟨_, rfl⟩
       have HJP : ∀ u : World, Below U.heap.size U u → Calls Tryd.prog 22 #[.slice pq d.params.length pc] u fun e w' => e = .returned (.string ⟨S2.toArray⟩) ∧ w' = u := fun u hu => by
        rw [hS2]; exact join_any _ _ u (strRow_below HPS.out (HB2.out.trans (hu.mono HB2.out.size))) hgp
       have HEC : ∀ u : World, Below U.heap.size U u → Calls Tryd.prog 12 #[.agg #[.int .i64 xk, .int .i64 xp, .string xs, .int .i64 xi, .slice r1 n1 d1, .slice r2 n2 d2, .slice r3 n3 d3]] u fun e w' => e = .returned (.string ⟨S1.toArray⟩) ∧ Below u.heap.size u w' := fun u hu => by
        have hb := HB2.out.trans (hu.mono HB2.out.size)
        rw [hS1]; exact show_any f _ _ u (exprAt_below HEX.out hb) hgd hel ((Lib.tabBelow_of_tabIs HTAB.out) _ hb)
       have HJ : ∀ u : World, Calls Tryd.prog 22 #[.slice (some ⟨u.heap.size, 0, none⟩) 4 4] (u.alloc (.cells #[.string ⟨#[100, 101, 102]⟩, .string ⟨d.name.toArray⟩, .string ⟨S2.toArray⟩, .string ⟨S1.toArray⟩] 9)) fun e w' => e = .returned (.string ⟨S3.toArray⟩) ∧ w' = u.alloc (.cells #[.string ⟨#[100, 101, 102]⟩, .string ⟨d.name.toArray⟩, .string ⟨S2.toArray⟩, .string ⟨S1.toArray⟩] 9) := fun u => by
        rw [hS3, hS1, hS2]
        exact join_any _ _ _ (rowLit (w := u) [[100, 101, 102], d.name, joined d.params, Px.showE f d.body] #[.string ⟨#[100, 101, 102]⟩, .string ⟨d.name.toArray⟩, .string ⟨(joined d.params).toArray⟩, .string ⟨(Px.showE f d.body).toArray⟩] rfl (by simp)) (by omega)
       rw [← hS3] at HST HSUM
       have HJPH := Lib.hid HJP; have HECH := Lib.hid HEC; have HJH := Lib.hid HJ
       have hl3 : S.length + S3.length + 1 ≤ 800000 := HSUM.out
       clear hS1 hS2 hS3 HJP HEC HJ hallS hgd hel hgp hgj HSUM
       refine wp_region_held_drew (S := fun w' => w'.cell? ⟨wr.heap.size, 1, none⟩ = some (.string ⟨d.name.toArray⟩) ∧ w'.cell? ⟨wr.heap.size, 2, none⟩ = some (.slice pq d.params.length pc) ∧ w'.cell? ⟨wr.heap.size, 3, none⟩ = some (.int .i64 xk) ∧ w'.cell? ⟨wr.heap.size, 4, none⟩ = some (.int .i64 xp) ∧ w'.cell? ⟨wr.heap.size, 5, none⟩ = some (.string xs) ∧ w'.cell? ⟨wr.heap.size, 6, none⟩ = some (.int .i64 xi) ∧ w'.cell? ⟨wr.heap.size, 7, none⟩ = some (.slice r1 n1 d1) ∧ w'.cell? ⟨wr.heap.size, 8, none⟩ = some (.slice r2 n2 d2) ∧ w'.cell? ⟨wr.heap.size, 9, none⟩ = some (.slice r3 n3 d3)) (by kernel_rfl) (HALL.out _ (Below.drew (Below.refl _ _))) (fun hHeld => ?_)
       refine wpAnyH_take (i := 0) (v := .string ⟨S.toArray⟩) rfl (by kernel_rfl) (by kernel_rfl) (by kernel_rfl) (fun _ _ _ h => h) (Or.inl ⟨by rfl, fun w' hSw => by obtain ⟨s1, s2, s3, s4, s5, s6, s7, s8, s9⟩ := hSw; go_simp⟩) hHeld ?_
       refine wpAnyH_take (i := 1) (v := .pointer (some ⟨wr.heap.size, 1, none⟩)) rfl (by kernel_rfl) (by kernel_rfl) (by kernel_rfl) (fun _ _ _ h => h) (Or.inl ⟨by rfl, fun w' hSw => by obtain ⟨s1, s2, s3, s4, s5, s6, s7, s8, s9⟩ := hSw; go_simp⟩) hHeld ?_
       refine wpAnyH_take (i := 2) (v := .string ⟨d.name.toArray⟩) rfl (by kernel_rfl) (by kernel_rfl) (by kernel_rfl) (fun _ _ _ h => h) (Or.inl ⟨by rfl, fun w' hSw => by obtain ⟨s1, s2, s3, s4, s5, s6, s7, s8, s9⟩ := hSw; go_simp⟩) hHeld ?_
       refine wpAnyH_take (i := 3) (v := .pointer (some ⟨wr.heap.size, 2, none⟩)) rfl (by kernel_rfl) (by kernel_rfl) (by kernel_rfl) (fun _ _ _ h => h) (Or.inl ⟨by rfl, fun w' hSw => by obtain ⟨s1, s2, s3, s4, s5, s6, s7, s8, s9⟩ := hSw; go_simp⟩) hHeld ?_
       refine wpAnyH_take (i := 4) (v := .slice pq d.params.length pc) rfl (by kernel_rfl) (by kernel_rfl) (by kernel_rfl) (fun _ _ _ h => h) (Or.inl ⟨by rfl, fun w' hSw => by obtain ⟨s1, s2, s3, s4, s5, s6, s7, s8, s9⟩ := hSw; go_simp⟩) hHeld ?_
       refine wpAnyH_take (i := 6) (v := .pointer (some ⟨wr.heap.size, 3, none⟩)) rfl (by kernel_rfl) (by kernel_rfl) (by kernel_rfl) (fun _ _ _ h => h) (Or.inl ⟨by rfl, fun w' hSw => by obtain ⟨s1, s2, s3, s4, s5, s6, s7, s8, s9⟩ := hSw; go_simp⟩) hHeld ?_
       refine wpAnyH_take (i := 7) (v := .agg #[.int .i64 xk, .int .i64 xp, .string xs, .int .i64 xi, .slice r1 n1 d1, .slice r2 n2 d2, .slice r3 n3 d3]) rfl (by kernel_rfl) (by kernel_rfl) (by kernel_rfl) (fun _ _ _ h => h) (Or.inl ⟨by rfl, fun w' hSw => by obtain ⟨s1, s2, s3, s4, s5, s6, s7, s8, s9⟩ := hSw; go_simp⟩) hHeld ?_
       simp only [Act.put, List.setIfInBounds_toArray, List.set_cons_zero, List.set_cons_succ]
       have HBD := Lib.hid (Below.drew (Below.refl U.heap.size U))
       refine wpAnyH_ready (rs := [5]) (by kernel_rfl) (by simp) ?_
       refine AllReadyH.cons rfl (fun K hK => ?_) AllReadyH.nil
       go_simp
       refine (HJPH.out _ HBD.out).mono ?_
       rintro e w3 ⟨rfl, rfl⟩
       refine hK.out _ _ hHeld (fun hHeld => ?_)
       clear hK K
       refine wpAnyH_ready (rs := [8]) (by kernel_rfl) (by simp) ?_
       refine AllReadyH.cons rfl (fun K hK => ?_) AllReadyH.nil
       go_simp
       refine (HECH.out _ HBD.out).mono ?_
       rintro e w4 ⟨rfl, hb4⟩
       have HBW4 := Lib.hid (HBD.out.trans (hb4.mono HBD.out.size))
       have hs4 := HBW4.out.size
       refine hK.out _ _ (HALL.out _ HBW4.out) (fun hHeld => ?_)
       clear hK K hb4
       refine wpAnyH_ready (rs := [9]) (by kernel_rfl) (by simp) ?_
       refine AllReadyH.cons rfl (fun K hK => ?_) AllReadyH.nil
       go_simp
       refine hK.out _ _ (HALL.out _ (HBW4.out.alloc hs4 _)) (fun hHeld => ?_)
       clear hK K
       refine wpAnyH_ready (rs := [10]) (by kernel_rfl) (by simp) ?_
       refine AllReadyH.cons rfl (fun K hK => ?_) AllReadyH.nil
       go_simp
       refine (HJH.out w4).mono ?_
       rintro e w5 ⟨rfl, rfl⟩
       refine hK.out _ _ hHeld (fun hHeld => ?_)
       clear hK K
       have HBF := Lib.hid (HB2.out.trans ((HBW4.out.alloc hs4 (.cells #[.string ⟨#[100, 101, 102]⟩, .string ⟨d.name.toArray⟩, .string ⟨S2.toArray⟩, .string ⟨S1.toArray⟩] 9)).mono HB2.out.size))
       have ENF := Lib.hid (ent_below EN2.out (HBW4.out.alloc hs4 (.cells #[.string ⟨#[100, 101, 102]⟩, .string ⟨d.name.toArray⟩, .string ⟨S2.toArray⟩, .string ⟨S1.toArray⟩] 9)))
       have hsF := HBF.out.size
       have y1 := sum_text (w := w4.alloc (.cells #[.string ⟨#[100, 101, 102]⟩, .string ⟨d.name.toArray⟩, .string ⟨S2.toArray⟩, .string ⟨S1.toArray⟩] 9)) S3 [10] (by simp only [List.length_singleton]; omega)
       have y2 := sum_text (w := w4.alloc (.cells #[.string ⟨#[100, 101, 102]⟩, .string ⟨d.name.toArray⟩, .string ⟨S2.toArray⟩, .string ⟨S1.toArray⟩] 9)) S (S3 ++ [10]) (by simp only [List.length_append, List.length_singleton]; omega)
       rw [← HST.out] at y2
       refine wpAnyH_ready (rs := [11]) (by kernel_rfl) (by simp) ?_
       refine AllReadyH.cons rfl (fun K hK => ?_) AllReadyH.nil
       go_simp
       refine hK.out _ _ hHeld (fun hHeld => ?_)
       clear hK K
       refine wpAnyH_ready (rs := [12]) (by kernel_rfl) (by simp) ?_
       refine AllReadyH.cons rfl (fun K hK => ?_) AllReadyH.nil
       go_simp
       refine hK.out _ _ hHeld (fun hHeld => ?_)
       clear hK K
       refine wpAnyH_ready (rs := [13]) (by kernel_rfl) (by simp) ?_
       refine AllReadyH.cons rfl (fun K hK => ?_) AllReadyH.nil
       go_simp
       refine hK.out _ _ hHeld (fun hHeld => ?_)
       clear hK K
       refine wpAnyH_done (by kernel_rfl) ?_ _
       clear y1 y2
       go_wp2
       go_roundw
       case rel => exact ⟨j + 1, by go_num, by omega, by first | rfl | (rw [HST.out, bytes_lit1, bytes_app]), ENF, HBF⟩
       case measure => simp [intOf]; omega
     · obtain rfl : NF = j := by omega
       have htk : FS.take NF = FS := by rw [← HFL.out, List.take_length]
       rw [htk]
       clear htk
       go_wp2_with fail
       go_ret
       exact ⟨by first | rfl | (rw [← HS0.out]; rfl), HB.out⟩
end Go.Proofs.YtpkecbijhckllaaDoor
