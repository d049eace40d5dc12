/-
  Several texts in one: SData, SMain, SProg.
-/
import Derived.Test.YtgoacbomphlhjaaP00
import Derived.Test.YtgoacbomphlhjaaP21
set_option linter.unusedVariables false
set_option linter.unusedSimpArgs false
namespace Go.Proofs.Ytgoacbomphlhjaa
open Go.Lib (hid)
open List renaming getElem_toArray → jX, getElem_cons_succ → jY, getElem_cons_zero → jZ, setIfInBounds_toArray → JA, set_cons_zero → JB, set_cons_succ → JC
open Go Go.RowKit
/-- What stands while types are gone through. -/
structure Ast (W0 : World) (cb tb kb bb ub nt : Nat) (m : Nm → Option Int) (s : Int × List Nm) (n : Nat) (w : World) : Prop where
 bel : Below W0.heap.size W0 w
 ck : CkAt w cb s.1 tb kb bb
 types : MapI w tb nt m
 seen : NamesC w ub n (cnt s.2)
theorem Ast.below {W0 : World} {cb tb kb bb ub nt n : Nat} {m : Nm → Option Int} {s : Int × List Nm} {w w' : World} (h : Ast W0 cb tb kb bb ub nt m s n w) (hb : Below w.heap.size w w') : Ast W0 cb tb kb bb ub nt m s n w' :=
 ⟨h.bel.trans (hb.mono h.bel.size), jC h.ck hb, h.types.below hb, h.seen.below hb⟩
/-- What stands while one type is gone through. -/
structure Bst (W0 w0 : World) (cb tb kb bb ub pb nt np : Nat) (m : Nm → Option Int) (ps : List Nm) (s : Int × List Nm) (n : Nat) (w : World) : Prop where
 bel : Below W0.heap.size W0 w
 keeps : KB (CB2 cb ub) w0 w
 ck : CkAt w cb s.1 tb kb bb
 types : MapI w tb nt m
 seen : NamesC w ub n (cnt s.2)
 par : NamesC w pb np (cnt ps)
theorem Bst.below {W0 w0 : World} {cb tb kb bb ub pb nt np n : Nat} {m : Nm → Option Int} {ps : List Nm} {s : Int × List Nm} {w : World} {w' : World} (h : Bst W0 w0 cb tb kb bb ub pb nt np m ps s n w) (hb : Below w.heap.size w w') : Bst W0 w0 cb tb kb bb ub pb nt np m ps s n w' :=
 ⟨h.bel.trans (hb.mono h.bel.size), h.keeps.trans (KB.of_below hb), jC h.ck hb, h.types.below hb, h.seen.below hb, h.par.below hb⟩
theorem Bst.asks {W0 w0 : World} {cb tb kb bb ub pb nt np n : Nat} {m : Nm → Option Int} {ps : List Nm} {s : Int × List Nm} {w : World} {w' : World} {a : Int} (h : Bst W0 w0 cb tb kb bb ub pb nt np m ps s n w) (hc0 : W0.heap.size ≤ cb) (k : KB (Only cb) w w') (hc : CkAt w' cb a tb kb bb) : Bst W0 w0 cb tb kb bb ub pb nt np m ps (a, s.2) n w' :=
 ⟨k.below h.bel (Nat.le_refl _) (fun g hg e => by have : g = cb := e; omega), h.keeps.trans (k.weak fun _ _ e => .inl e), hc, h.types.kb k (ck_nem h.ck h.types), h.seen.kb k (fun e => ck_ne h.ck h.seen (Eq.symm e)), h.par.kb k (fun e => ck_ne h.ck h.par (Eq.symm e))⟩
theorem Bst.adds {W0 w0 : World} {cb tb kb bb ub pb nt np n : Nat} {m : Nm → Option Int} {ps : List Nm} {s : Int × List Nm} {w : World} {w' : World} {nm : Nm} (h : Bst W0 w0 cb tb kb bb ub pb nt np m ps s n w) (hu0 : W0.heap.size ≤ ub) (hut : tb ≠ ub) (hup : pb ≠ ub) (k : w.grownBy w' (some ub)) (hn : NamesC w' ub (n + 1) (bump (cnt s.2) nm (cnt s.2 nm + 1))) : Bst W0 w0 cb tb kb bb ub pb nt np m ps (s.1, s.2 ++ [nm]) (n + 1) w' := by
 have hk : KB (fun b => b = ub) w w' := KB.of_map k (fun _ => rfl)
 exact ⟨hk.below h.bel (Nat.le_refl _) (fun g hg e => by have : g = ub := e; omega), h.keeps.trans (hk.weak fun _ _ e => .inr e), hk.at h.ck (ck_ne h.ck h.seen), h.types.kb hk hut, hn.cong (cnt_bump s.2 nm), h.par.kb hk hup⟩
theorem Bst.fst {W0 w0 : World} {cb tb kb bb ub pb nt np n : Nat} {m : Nm → Option Int} {ps : List Nm} {s : Int × List Nm} {w : World} (h : Bst W0 w0 cb tb kb bb ub pb nt np m ps s n w) : Fst W0 w cb tb kb bb pb nt np m ps s.1 w := ⟨h.bel, KB.refl _ _, h.ck, h.types, h.par⟩
theorem Bst.field {W0 w0 : World} {cb tb kb bb ub pb nt np n : Nat} {m : Nm → Option Int} {ps : List Nm} {s : Int × List Nm} {w : World} {w' : World} {a : Int} (h : Bst W0 w0 cb tb kb bb ub pb nt np m ps s n w) (hc0 : W0.heap.size ≤ cb) (k : Fst W0 w cb tb kb bb pb nt np m ps a w') : Bst W0 w0 cb tb kb bb ub pb nt np m ps (a, s.2) n w' := h.asks hc0 k.keeps k.ck
def conS (m : Nm → Option Int) (ps : List Nm) (s : Int × List Nm) (x : Px.Con) : Int × List Nm := (x.fields.foldl (fieldS m ps 50) (asked s.1 (!s.2.contains x.name) x.pos), s.2 ++ [x.name])
def dataS (m : Nm → Option Int) (s : Int × List Nm) (d : Px.Data) : Int × List Nm := d.cons.foldl (conS m d.params) (asked s.1 (addsB (fun _ => 0) d.params) d.pos, s.2)
theorem conS_seen (m : Nm → Option Int) (ps : List Nm) : ∀ (l : List Px.Con) (s : Int × List Nm), (l.foldl (conS m ps) s).2 = s.2 ++ l.map (·.name)
 | [], s => by simp
 | x :: r, s => by rw [List.foldl_cons, conS_seen m ps r]; simp [conS]
set_option maxHeartbeats 8000000 in
set_option maxRecDepth 100000 in
theorem data_ck_any (cb tb kb bb ub nt n : Nat) (m : Nm → Option Int) (W0 : World) (hc0 : W0.heap.size ≤ cb) (hu0 : W0.heap.size ≤ ub) (hut : tb ≠ ub) (d : Px.Data) (v : Value) (s : Int × List Nm) (w : World)
 (hd : DataAt 50 W0 v d) (hw : Sx.dw d ≤ 400000) (hs : s.2.length + d.cons.length ≤ 400000) (hn : n + d.cons.length ≤ 100000000) (h : Ast W0 cb tb kb bb ub nt m s n w) :
 Calls Try.prog 47 #[.pointer (some ⟨cb, 0, none⟩), v, .map (some ub)] w fun e w' => e = .returned (.tuple #[]) ∧ KB (CB2 cb ub) w w' ∧ Ast W0 cb tb kb bb ub nt m (dataS m s d) (n + d.cons.length) w' := by
 obtain ⟨q0, c0, q1, c1, rfl, hr, hrc⟩ := dataAt_sh hd
 have HR := hid hr; have HC := hid hrc
 have hlen : d.params.length ≤ nw d.params := nw_len _
 have hdw : Sx.dw d = 1 + d.name.length + nw d.params + (d.cons.map Sx.cw).sum := rfl
 have HW : Hid ((d.cons.map Sx.cw).sum ≤ 400000) := hid (by omega)
 have hnp : nw d.params ≤ 400000 := by omega
 have hcu : cb ≠ ub := ck_ne h.ck h.seen
 have hcb := jK h.ck
 have hub := h.seen.lt
 have htb := h.types.lt
 have H0 := hid h
 have hmm := @run_makeMap Try.prog
 clear hd hr hrc h hdw hw
 go_enter Try.func47, Try.ntmps47
 have EX := hid (jI w #[.int .i64 d.pos, .string ⟨d.name.toArray⟩, .slice q0 d.params.length c0, .slice q1 d.cons.length c1] 44)
 have HB := hid (show Below w.heap.size w (w.alloc (.cells #[.int .i64 d.pos, .string ⟨d.name.toArray⟩, .slice q0 d.params.length c0, .slice q1 d.cons.length c1] 44)) from (Below.refl _ _).alloc (Nat.le_refl _) _)
 have hsz : (w.alloc (.cells #[.int .i64 d.pos, .string ⟨d.name.toArray⟩, .slice q0 d.params.length c0, .slice q1 d.cons.length c1] 44)).heap.size = w.heap.size + 1 := by simp
 go_upto_region 2 with fail
 generalize w.alloc (.cells #[.int .i64 d.pos, .string ⟨d.name.toArray⟩, .slice q0 d.params.length c0, .slice q1 d.cons.length c1] 44) = wa at EX HB hsz ⊢
 obtain ⟨w1, hw1⟩ : ∃ u, u = wa.alloc (.map #[] 0) := ⟨_, rfl⟩
 have HB1 := hid (show Below w.heap.size w w1 by rw [hw1]; exact HB.out.alloc (by omega) _)
 have EX1 : Hid (w1.heap[w.heap.size]? = some (.cells #[.int .i64 d.pos, .string ⟨d.name.toArray⟩, .slice q0 d.params.length c0, .slice q1 d.cons.length c1] 44 (0, 0))) := hid (by rw [hw1]; exact jH EX.out _)
 have hp1 := NamesC.made wa
 rw [← hw1, hsz] at hp1
 rw [← hw1]
 have H1 := hid (show Bst W0 w cb tb kb bb ub (w.heap.size + 1) nt 0 m [] s n w1 from ⟨(H0.out.below HB1.out).bel, KB.of_below HB1.out, (H0.out.below HB1.out).ck, (H0.out.below HB1.out).types, (H0.out.below HB1.out).seen, hp1.cong (fun s => by simp [cnt])⟩)
 have hs1 : w.heap.size + 1 < w1.heap.size := by rw [hw1]; simp; omega
 clear hw1 hp1 EX HB HB1 hsz
 obtain ⟨pb, hpb⟩ : ∃ pb, pb = w.heap.size + 1 := ⟨_, rfl⟩
 rw [← hpb] at H1 ⊢
 have hpb1 : w.heap.size < pb := by omega
 have hpb2 : pb < w1.heap.size := by omega
 clear hpb
 obtain ⟨rr, hrr⟩ : ∃ r, addsB (fun _ => 0) d.params = r := ⟨_, rfl⟩
 have HRN := hid (show addsB (cnt []) d.params = rr by rw [show cnt [] = (fun _ => (0 : Int)) from funext fun s => by simp [cnt]]; exact hrr)
 have HRR := hid hrr
 clear hrr
 refine wp_region_held_drew (S := fun (u : World) => ∀ (g : Nat) (o : Obj), w1.heap[g]? = some o → g ≠ cb → g ≠ pb → u.heap[g]? = some o) (by kernel_rfl) (fun g o h _ _ => h) (fun jM => ?_)
 refine wT 0 (.pointer (some ⟨cb, 0, none⟩)) rfl (Or.inl ⟨by rfl, fun w' hSw => by go_simp⟩) jM ?_
 refine wT 1 (.map (some pb)) rfl (Or.inl ⟨by rfl, fun w' hSw => by go_simp⟩) jM ?_
 refine wT 2 (.pointer (some ⟨w.heap.size, 2, none⟩)) rfl (Or.inl ⟨by rfl, fun w' hSw => by go_simp⟩) jM ?_
 refine wT 3 (.slice q0 d.params.length c0) rfl (Or.inl ⟨by rfl, fun w' hSw => by have h := jA (hSw _ _ EX1.out (by omega) (by omega)) 2 _ rfl; go_simp⟩) jM ?_
 refine wT 5 (.pointer (some ⟨w.heap.size, 0, none⟩)) rfl (Or.inl ⟨by rfl, fun w' hSw => by go_simp⟩) jM ?_
 refine wT 6 (.int .i64 d.pos) rfl (Or.inl ⟨by rfl, fun w' hSw => by have h := jA (hSw _ _ EX1.out (by omega) (by omega)) 0 _ rfl; go_simp⟩) jM ?_
 simp only [Act.put, jX, jY, jZ, JA, JB, JC]
 refine wpAnyH_ready (rs := [4]) (by kernel_rfl) (by simp) ?_
 refine AllReadyH.cons rfl (fun K hK => ?_) AllReadyH.nil
 go_simp
 refine (addAll_any w1.drew pb 0 (cnt []) _ d.params ((H1.out.below ((Below.refl _ _).drew)).par) (jQ HR.out (H1.out.bel.drew)) (by omega) (cnt_small (by simp)) (by omega)).mono ?_
 rintro e w2 ⟨rfl, hg2, hn2⟩
 rw [HRN.out]
 have hk2 : KB (fun b => b = pb) w1.drew w2 := KB.of_map hg2 (fun _ => rfl)
 have hd1 := H1.out.below ((Below.refl _ w1).drew)
 have hk02 : KB (CB2 cb ub) w w2 := ⟨hk2.os.trans hd1.keeps.os, hk2.tape.trans hd1.keeps.tape, hk2.output.trans hd1.keeps.output, Nat.le_trans hd1.keeps.size hk2.size, fun g h1 h2 => (hk2.block g (Nat.lt_of_lt_of_le h1 hd1.keeps.size) (by omega)).trans (hd1.keeps.block g h1 h2)⟩
 have H2 := hid (show Bst W0 w cb tb kb bb ub pb nt (0 + d.params.length) m d.params s n w2 from ⟨hk2.below hd1.bel (Nat.le_refl _) (fun g hg e => by have : g = pb := e; have := H0.out.bel.size; omega), hk02, hk2.at hd1.ck (by omega), hd1.types.kb hk2 (by omega), hd1.seen.kb hk2 (by omega), hn2.cong (fun t => by rw [cnt_add]; rfl)⟩)
 have hS2 : ∀ (g : Nat) (o : Obj), w1.heap[g]? = some o → g ≠ cb → g ≠ pb → w2.heap[g]? = some o := fun g o h _ h1 => hk2.at (show w1.drew.heap[g]? = some o from h) h1
 clear hg2 hn2 hk2 hd1 hk02
 refine hK.out _ _ hS2 (fun jM => ?_)
 clear hK K
 refine wpAnyH_ready (rs := [7]) (by kernel_rfl) (by simp) ?_
 refine AllReadyH.cons rfl (fun K hK => ?_) AllReadyH.nil
 go_simp
 refine (ask_any w2 cb tb kb bb s.1 rr d.pos H2.out.ck).mono ?_
 rintro e w3 ⟨rfl, hk3, hc3⟩
 have H3 := hid (H2.out.asks hc0 hk3 hc3)
 have hS3 : ∀ (g : Nat) (o : Obj), w1.heap[g]? = some o → g ≠ cb → g ≠ pb → w3.heap[g]? = some o := fun g o h h1 h2 => hk3.at (hS2 g o h h1 h2) h1
 have EX3 := hid (hS3 _ _ EX1.out (by omega) (by omega))
 clear hk3 hc3 H2
 refine hK.out _ _ hS3 (fun jM => ?_)
 clear hS2 hS3
 clear hK K
 refine wpAnyH_done (by kernel_rfl) ?_ _
 clear H1 EX1 hs1
 have HST := hid (show dataS m s d = d.cons.foldl (conS m d.params) (asked s.1 rr d.pos, s.2) by rw [dataS, HRR.out])
 have hpu : pb ≠ ub := by omega
 have e3 := jA EX3.out 3 _ rfl
 go_wp2_with fail
 clear e3 EX3
 go_loopw [23] (fun i wr => ∃ k : Nat, i = .int .i64 k ∧ k ≤ d.cons.length ∧ Hid (Bst W0 w cb tb kb bb ub pb nt (0 + d.params.length) m d.params ((d.cons.take k).foldl (conS m d.params) (asked s.1 rr d.pos, s.2)) (n + k) wr)) (fun i _ => d.cons.length - (intOf i).toNat)
 case atStart => exact ⟨0, rfl, Nat.zero_le _, H3⟩
 case round =>
  clear H3
  obtain ⟨k, rfl, hk, HP⟩ := hrel
  by_cases hlt : k < d.cons.length
  · obtain ⟨x, hx⟩ : ∃ x, d.cons[k]? = some x := ⟨_, List.getElem?_eq_getElem hlt⟩
    rcases HC.out with ⟨h0, _⟩ | ⟨g, of, c', hv, g1, g2, g3⟩
    · rw [h0] at hlt; simp at hlt
    injection hv with hq1 _ hq2
    subst hq1; subst hq2
    obtain ⟨u, hu, _, hcell⟩ := g3 k x hx
    obtain ⟨r2, s2, rfl, hrf⟩ := conAt_sh hu
    have z0 := jE HP.out.bel (hcell 0 _ rfl); have z1 := jE HP.out.bel (hcell 1 _ rfl); have z2 := jE HP.out.bel (hcell 2 _ rfl)
    simp only [Nat.add_zero] at z0
    have hk1 : (k : Int) < (d.cons.length : Int) := by omega
    have hk2 : (d.cons.length : Int) ≤ (c1 : Int) := by omega
    have hk3 := g2
    have hcw := Sx.sum_mem Sx.cw (List.mem_of_getElem? hx)
    have hcc : Sx.cw x = 1 + x.name.length + (x.fields.map (Sx.tyw 50)).sum := rfl
    have hnm : x.name.length ≤ 400000 := by have := HW.out; omega
    have HFW := hid (show (x.fields.map (Sx.tyw 50)).sum ≤ 400000 by have := HW.out; omega)
    have HTK := hid (take_fold (conS m d.params) d.cons k x hx (asked s.1 rr d.pos, s.2))
    have hsn : ((d.cons.take k).foldl (conS m d.params) (asked s.1 rr d.pos, s.2)).2.length = s.2.length + k := by rw [conS_seen]; simp; omega
    obtain ⟨sk, hsk⟩ : ∃ sk, (d.cons.take k).foldl (conS m d.params) (asked s.1 rr d.pos, s.2) = sk := ⟨_, rfl⟩
    rw [hsk] at HP hsn HTK
    have HRF := hid hrf
    have E4 := hid (jI wr #[.int .i64 x.pos, .string ⟨x.name.toArray⟩, .slice r2 x.fields.length s2] 47)
    have hwr := HP.out.keeps.size
    have HPA := hid (HP.out.below ((Below.refl _ wr).alloc (Nat.le_refl _) (.cells #[.int .i64 x.pos, .string ⟨x.name.toArray⟩, .slice r2 x.fields.length s2] 47)))
    clear g1 g2 g3 hcell hu hx hcw hcc hrf hsk HP
    go_upto_region 6 with fail
    clear z0 z1 z2
    obtain ⟨w4, hw4⟩ : ∃ u, u = wr.alloc (.cells #[.int .i64 x.pos, .string ⟨x.name.toArray⟩, .slice r2 x.fields.length s2] 47) := ⟨_, rfl⟩
    rw [← hw4] at E4 HPA ⊢
    have hs4 : wr.heap.size < w4.heap.size := by rw [hw4]; simp
    clear hw4
    have hcbr : cb ≠ wr.heap.size := by omega
    have hubr : ub ≠ wr.heap.size := by omega
    obtain ⟨rq, hrq⟩ : ∃ r, (!sk.2.contains x.name) = r := ⟨_, rfl⟩
    have HRQ := hid hrq
    clear hrq
    refine wp_region_held_drew (S := fun (u : World) => ∀ (g : Nat) (o : Obj), w4.heap[g]? = some o → g ≠ cb → g ≠ ub → u.heap[g]? = some o) (by kernel_rfl) (fun g o h _ _ => h) (fun jM => ?_)
    refine wT 0 (.pointer (some ⟨cb, 0, none⟩)) rfl (Or.inl ⟨by rfl, fun w' hSw => by go_simp⟩) jM ?_
    refine wT 1 (.map (some ub)) rfl (Or.inl ⟨by rfl, fun w' hSw => by go_simp⟩) jM ?_
    refine wT 2 (.pointer (some ⟨wr.heap.size, 1, none⟩)) rfl (Or.inl ⟨by rfl, fun w' hSw => by go_simp⟩) jM ?_
    refine wT 3 (.string ⟨x.name.toArray⟩) rfl (Or.inl ⟨by rfl, fun w' hSw => by have h := jA (hSw _ _ E4.out (Ne.symm hcbr) (Ne.symm hubr)) 1 _ rfl; go_simp⟩) jM ?_
    refine wT 5 (.pointer (some ⟨wr.heap.size, 0, none⟩)) rfl (Or.inl ⟨by rfl, fun w' hSw => by go_simp⟩) jM ?_
    refine wT 6 (.int .i64 x.pos) rfl (Or.inl ⟨by rfl, fun w' hSw => by have h := jA (hSw _ _ E4.out (Ne.symm hcbr) (Ne.symm hubr)) 0 _ rfl; go_simp⟩) jM ?_
    simp only [Act.put, jX, jY, jZ, JA, JB, JC]
    refine wpAnyH_ready (rs := [4]) (by kernel_rfl) (by simp) ?_
    refine AllReadyH.cons rfl (fun K hK => ?_) AllReadyH.nil
    go_simp
    refine (add_any w4.drew ub (n + k) (cnt sk.2) x.name ((HPA.out.below ((Below.refl _ _).drew)).seen) hnm (fun s' => by have := cnt_small (l := sk.2) (by omega) s'; omega) (by omega)).mono ?_
    rintro e w5 ⟨rfl, hg5, hn5⟩
    rw [cnt_zero, HRQ.out]
    have H5 := hid ((HPA.out.below ((Below.refl _ _).drew)).adds hu0 hut hpu hg5 hn5)
    have hS5 : ∀ (g : Nat) (o : Obj), w4.heap[g]? = some o → g ≠ cb → g ≠ ub → w5.heap[g]? = some o := fun g o h _ h1 => (hg5.block g (jK h) (fun e => h1 (Option.some.inj e))).trans h
    clear hg5 hn5
    refine hK.out _ _ hS5 (fun jM => ?_)
    clear hK K
    refine wpAnyH_ready (rs := [7]) (by kernel_rfl) (by simp) ?_
    refine AllReadyH.cons rfl (fun K hK => ?_) AllReadyH.nil
    go_simp
    refine (ask_any w5 cb tb kb bb sk.1 rq x.pos H5.out.ck).mono ?_
    rintro e w6 ⟨rfl, hk6, hc6⟩
    have H6 := hid (H5.out.asks hc0 hk6 hc6)
    have hS6 : ∀ (g : Nat) (o : Obj), w4.heap[g]? = some o → g ≠ cb → g ≠ ub → w6.heap[g]? = some o := fun g o h h1 h2 => hk6.at (hS5 g o h h1 h2) h1
    have E6 := hid (hS6 _ _ E4.out (Ne.symm hcbr) (Ne.symm hubr))
    clear hk6 hc6 H5
    refine hK.out _ _ hS6 (fun jM => ?_)
    clear hS5 hS6
    clear hK K
    refine wpAnyH_done (by kernel_rfl) ?_ _
    clear HPA E4
    have HSK := hid (show conS m d.params sk x = (x.fields.foldl (fieldS m d.params 50) (asked sk.1 rq x.pos), sk.2 ++ [x.name]) by rw [conS, HRQ.out])
    have e2 := jA E6.out 2 _ rfl
    go_wp2_with fail
    clear e2 E6
    go_loopw [38] (fun i wr => ∃ j : Nat, i = .int .i64 j ∧ j ≤ x.fields.length ∧ Hid (Bst W0 w cb tb kb bb ub pb nt (0 + d.params.length) m d.params ((x.fields.take j).foldl (fieldS m d.params 50) (asked sk.1 rq x.pos), sk.2 ++ [x.name]) (n + k + 1) wr)) (fun i _ => x.fields.length - (intOf i).toNat)
    case atStart => exact ⟨0, rfl, Nat.zero_le _, H6⟩
    case round =>
     clear H6
     obtain ⟨j, rfl, hj, HP⟩ := hrel
     by_cases hltj : j < x.fields.length
     · obtain ⟨y, hy⟩ : ∃ y, x.fields[j]? = some y := ⟨_, List.getElem?_eq_getElem hltj⟩
       rcases HRF.out with ⟨h0, _⟩ | ⟨g', of', c', hv, g1, g2, g3⟩
       · rw [h0] at hltj; simp at hltj
       injection hv with hq1 _ hq2
       subst hq1; subst hq2
       obtain ⟨u, hu, _, hcell⟩ := g3 j y hy
       obtain ⟨a0, a1, uq, un, uc, rfl⟩ := typeAt_sh hu
       have z0 := jE HP.out.bel (hcell 0 _ rfl); have z1 := jE HP.out.bel (hcell 1 _ rfl); have z2 := jE HP.out.bel (hcell 2 _ rfl)
       simp only [Nat.add_zero] at z0
       have hj1 : (j : Int) < (x.fields.length : Int) := by omega
       have hj2 : (x.fields.length : Int) ≤ (s2 : Int) := by omega
       have hj3 := g2
       have HSM := hid (Sx.sum_mem (Sx.tyw 50) (List.mem_of_getElem? hy))
       have HTJ := hid (take_fold (fieldS m d.params 50) x.fields j y hy (asked sk.1 rq x.pos))
       have HPB := hid (HP.out.below ((Below.refl _ wr).alloc (Nat.le_refl _) (.cells #[.int .i64 a0, .string a1, .slice uq un uc] 112)))
       have HU := hid hu
       have EA := jI wr #[.int .i64 a0, .string a1, .slice uq un uc] 112
       have y0 := jA EA 0 _ rfl; have y1 := jA EA 1 _ rfl; have y2 := jA EA 2 _ rfl
       clear g1 g2 g3 hcell hu hy EA HP
       go_wp2_with fail
       clear z0 z1 z2 y0 y1 y2
       refine (field_any cb tb kb bb pb nt (0 + d.params.length) m d.params W0 hc0 (by omega) 50 y _ _ _ HU.out (by have := HSM.out; have := HFW.out; omega) HPB.out.fst).mono ?_
       rintro e w8 ⟨rfl, hf⟩
       have H8 := hid (HPB.out.field hc0 hf)
       clear hf HPB
       go_wp2_with fail
       go_roundw
       case rel => exact ⟨j + 1, by go_num, by omega, hid (by rw [HTJ.out]; exact H8.out)⟩
       case measure => simp [intOf]; omega
     · obtain rfl : j = x.fields.length := by omega
       have HE := hid (show Bst W0 w cb tb kb bb ub pb nt (0 + d.params.length) m d.params (conS m d.params sk x) (n + (k + 1)) wr by rw [HSK.out]; have h := HP.out; rw [List.take_length] at h; exact h)
       clear HP
       go_wp2_with fail
       go_roundw
       case rel => exact ⟨k + 1, by go_num, by omega, hid (by rw [HTK.out]; exact HE.out)⟩
       case measure => simp [intOf]; omega
  · obtain rfl : k = d.cons.length := by omega
    go_wp2_with fail
    refine bodyPost_end (v := .tuple #[]) (by simp [results, Try.results47, go_sem]) rfl ?_
    have h := HP.out
    rw [List.take_length, ← HST.out] at h
    exact ⟨rfl, h.keeps, h.bel, h.ck, h.types, h.seen⟩
end Go.Proofs.Ytgoacbomphlhjaa

namespace Go.Proofs.Ytgoacbomphlhjaa
open Go.Lib (hid)
open List renaming getElem_toArray → jX, getElem_cons_succ → jY, getElem_cons_zero → jZ, setIfInBounds_toArray → JA, set_cons_zero → JB, set_cons_succ → JC
open Go Go.RowKit
def sMain : Nm := [109, 97, 105, 110]
def mainS (a : Int) : List Px.Def → Int
 | [] => asked a false 0
 | d :: r => if d.name = sMain then asked a (decide (d.params.length = 0)) d.pos else mainS a r
theorem mainS_skip (a : Int) : ∀ (l : List Px.Def) (k : Nat), (∀ x ∈ l.take k, x.name ≠ sMain) → mainS a l = mainS a (l.drop k)
 | l, 0, _ => rfl
 | [], k + 1, _ => rfl
 | d :: r, k + 1, h => by
   rw [mainS, if_neg (h d (by simp)), List.drop_succ_cons]
   exact mainS_skip a r k (fun x hx => h x (by simp [hx]))
theorem drop_at {α : Type} {l : List α} {k : Nat} {x : α} (h : l[k]? = some x) : l.drop k = x :: l.drop (k + 1) := by
 obtain ⟨hk, e⟩ := List.getElem?_eq_some_iff.1 h
 rw [List.drop_eq_getElem_cons hk, e]
set_option maxHeartbeats 4000000 in
set_option maxRecDepth 100000 in
theorem main_ck_any (cb tb kb bb : Nat) (W0 : World) (hc0 : W0.heap.size ≤ cb) (f : Nat) (l : List Px.Def) (v : Value) (a : Int) (w : World) (hv : RowAt 10 (DefAt f W0) W0 v l) (hl : (l.map Sx.fw).sum ≤ 400000) (hbel : Below W0.heap.size W0 w) (h : CkAt w cb a tb kb bb) :
 Calls Try.prog 49 #[.pointer (some ⟨cb, 0, none⟩), v] w fun e w' => e = .returned (.tuple #[]) ∧ KB (Only cb) w w' ∧ CkAt w' cb (mainS a l) tb kb bb := by
 obtain ⟨q, cp, rfl⟩ := hv.len
 have HR := hid hv
 have HC := hid h
 have HB := hid hbel
 have hll : l.length ≤ 400000 := Nat.le_trans (Sx.len_sum Sx.fw _ (fun x _ => by unfold Sx.fw; omega)) hl
 have hK : Hid (KB (Only cb) w w) := hid (KB.refl _ _)
 clear hv h hbel
 go_enter Try.func49, Try.ntmps49
 go_wp2_with fail
 go_loopw [8] (fun i wr => ∃ k : Nat, i = .int .i64 k ∧ k ≤ l.length ∧ Hid (∀ x ∈ l.take k, x.name ≠ sMain) ∧ Hid (Below w.heap.size w wr)) (fun i _ => l.length - (intOf i).toNat)
 case atStart => exact ⟨0, rfl, Nat.zero_le _, hid (by simp), hid (Below.refl _ _)⟩
 case round =>
  obtain ⟨k, rfl, hk, HN, HW⟩ := hrel
  by_cases hlt : k < l.length
  · obtain ⟨d, hd⟩ : ∃ d, l[k]? = some d := ⟨_, List.getElem?_eq_getElem hlt⟩
    rcases HR.out with ⟨h0, _⟩ | ⟨g, of, c', hv, g1, g2, g3⟩
    · rw [h0] at hlt; simp at hlt
    injection hv with hq1 _ hq2
    subst hq1; subst hq2
    obtain ⟨u, hu, _, hcell⟩ := g3 k d hd
    obtain ⟨q0, c0, k1, p, sn, i, q1, n1, c1, q2, n2, c2, q3, n3, c3, rfl, hrp, _⟩ := defAt_sh hu
    have HBW := hid (HB.out.trans (HW.out.mono HB.out.size))
    have z0 := jE HBW.out (hcell 0 _ rfl); have z1 := jE HBW.out (hcell 1 _ rfl); have z2 := jE HBW.out (hcell 2 _ rfl); have z3 := jE HBW.out (hcell 3 _ rfl); have z4 := jE HBW.out (hcell 4 _ rfl); have z5 := jE HBW.out (hcell 5 _ rfl); have z6 := jE HBW.out (hcell 6 _ rfl); have z7 := jE HBW.out (hcell 7 _ rfl); have z8 := jE HBW.out (hcell 8 _ rfl); have z9 := jE HBW.out (hcell 9 _ rfl)
    simp only [Nat.add_zero] at z0
    have hk1 : (k : Int) < (l.length : Int) := by omega
    have hk2 : (l.length : Int) ≤ (cp : Int) := by omega
    have hk3 := g2
    have hfw := Sx.sum_mem Sx.fw (List.mem_of_getElem? hd)
    have hff : Sx.fw d = 1 + d.name.length + nw d.params + Sx.ew 50 d.body := rfl
    have hpl : d.params.length ≤ nw d.params := nw_len _
    have hpn : d.params.length ≤ 400000 := by omega
    have E4 := hid (jI wr #[.int .i64 d.pos, .string ⟨d.name.toArray⟩, .slice q0 d.params.length c0, .int .i64 k1, .int .i64 p, .string sn, .int .i64 i, .slice q1 n1 c1, .slice q2 n2 c2, .slice q3 n3 c3] 58)
    have y0 := jA E4.out 0 _ rfl; have y1 := jA E4.out 1 _ rfl; have y2 := jA E4.out 2 _ rfl
    have HWA := hid (HW.out.alloc HW.out.size (.cells #[.int .i64 d.pos, .string ⟨d.name.toArray⟩, .slice q0 d.params.length c0, .int .i64 k1, .int .i64 p, .string sn, .int .i64 i, .slice q1 n1 c1, .slice q2 n2 c2, .slice q3 n3 c3] 58))
    have HD := hid hd
    clear g1 g2 g3 hcell hu hd hfw hff
    by_cases hm : d.name = sMain
    · have hq : (⟨d.name.toArray⟩ : ByteArray) = { data := #[109, 97, 105, 110] } := by rw [hm]; rfl
      rw [hq] at z1 y1 HWA E4
      have HRB := hid (show ((d.params.length : Int) == 0) = decide (d.params.length = 0) from Bool.eq_iff_iff.2 (by simp))
      have HM := hid hm
      clear hm hq
      go_wp2_with fail
      refine (ask_any _ cb tb kb bb a ((d.params.length : Int) == 0) d.pos (jC HC.out HWA.out)).mono ?_
      rintro e w5 ⟨rfl, hk5, hc5⟩
      have K5 := hid ((KB.of_below HWA.out).trans hk5)
      have C5 := hid hc5
      clear hk5 hc5
      go_wp2_with fail
      refine bodyPost_ret (results_none rfl _ _ _) rfl ?_
      exact ⟨rfl, K5.out, by rw [mainS_skip a l k HN.out, drop_at HD.out, mainS, if_pos HM.out, ← HRB.out]; exact C5.out⟩
    · have hq : ¬ (⟨d.name.toArray⟩ : ByteArray) = { data := #[109, 97, 105, 110] } := arr_ne hm
      have hq2 : ¬ d.name = [109, 97, 105, 110] := hm
      have hq4 : (d.name == [109, 97, 105, 110]) = false := beq_eq_false_iff_ne.2 hq2
      have hq3 : ¬ d.name.toArray = #[109, 97, 105, 110] := fun e => hq2 (by simpa using congrArg Array.toList e)
      have HM := hid hm
      clear hm
      go_wp2_with fail
      go_roundw
      case rel => exact ⟨k + 1, by go_num, by omega, hid (fun x hx => by rw [List.take_add_one, HD.out] at hx; rcases List.mem_append.1 hx with h | h; exact HN.out x h; simp at h; subst h; exact HM.out), HWA⟩
      case measure => simp [intOf]; omega
  · obtain rfl : k = l.length := by omega
    go_wp2_with fail
    refine (ask_any wr cb tb kb bb a false 0 (jC HC.out HW.out)).mono ?_
    rintro e w5 ⟨rfl, hk5, hc5⟩
    have K5 := hid ((KB.of_below HW.out).trans hk5)
    have C5 := hid hc5
    clear hk5 hc5
    go_wp2_with fail
    refine bodyPost_end (v := .tuple #[]) (by simp [results, Try.results49, go_sem]) rfl ?_
    exact ⟨rfl, K5.out, by rw [mainS_skip a l l.length HN.out, List.drop_length]; exact C5.out⟩
end Go.Proofs.Ytgoacbomphlhjaa

namespace Go.Proofs.Ytgoacbomphlhjaa
open Go.Lib (hid)
open List renaming getElem_toArray → jX, getElem_cons_succ → jY, getElem_cons_zero → jZ, setIfInBounds_toArray → JA, set_cons_zero → JB, set_cons_succ → JC
open Go Go.RowKit
/-- What stands while a program is gone through. -/
structure Gst (W0 w0 : World) (cb tb kb bb nt nk : Nat) (mt : Nm → Option Int) (mk : Nm → Option C3) (a : Int) (vars : List Nm) (n : Nat) (w : World) : Prop where
 bel : Below W0.heap.size W0 w
 keeps : KB (CB2 cb bb) w0 w
 ck : CkAt w cb a tb kb bb
 types : MapI w tb nt mt
 cons : MapC w kb nk mk
 bound : NamesC w bb n (cnt vars)
/-- Where the program's blocks lie. -/
structure Gat (W0 w0 : World) (cb tb kb bb : Nat) : Prop where
 gc0 : W0.heap.size ≤ cb
 gb0 : W0.heap.size ≤ bb
 gtb : tb ≠ bb
 gkb : kb ≠ bb
 gw0 : W0.heap.size ≤ w0.heap.size
 gc1 : cb < w0.heap.size
 gt1 : tb < w0.heap.size
 gk1 : kb < w0.heap.size
 gb1 : bb < w0.heap.size
variable {W0 w0 : World} {cb tb kb bb nt nk n : Nat} {mt : Nm → Option Int} {mk : Nm → Option C3} {a : Int} {vars : List Nm} {w w' : World}
theorem Gst.below (h : Gst W0 w0 cb tb kb bb nt nk mt mk a vars n w) (hb : Below w.heap.size w w') : Gst W0 w0 cb tb kb bb nt nk mt mk a vars n w' :=
 ⟨h.bel.trans (hb.mono h.bel.size), h.keeps.trans (KB.of_below hb), jC h.ck hb, h.types.below hb, h.cons.below hb, h.bound.below hb⟩
theorem Gst.fresh {x : Nat} {a' : Int} (h : Gst W0 w0 cb tb kb bb nt nk mt mk a vars n w) (l : Gat W0 w0 cb tb kb bb) (hx : w0.heap.size ≤ x) (k : KB (CB2 cb x) w w') (hc : CkAt w' cb a' tb kb bb) : Gst W0 w0 cb tb kb bb nt nk mt mk a' vars n w' := by
 have l1 := l.gc1; have l2 := l.gt1; have l3 := l.gk1; have l4 := l.gb1; have l5 := l.gc0; have l6 := l.gw0
 have m1 := ck_ne h.ck h.bound; have m2 := ck_nem h.ck h.types; have m3 := ck_nem h.ck h.cons
 exact ⟨k.below h.bel (Nat.le_refl _) (fun g hg e => by rcases e with e | e <;> omega), ⟨k.os.trans h.keeps.os, k.tape.trans h.keeps.tape, k.output.trans h.keeps.output, Nat.le_trans h.keeps.size k.size, fun g h1 h2 => (k.block g (Nat.lt_of_lt_of_le h1 h.keeps.size) (fun e => e.elim (fun e => h2 (.inl e)) (fun e => by omega))).trans (h.keeps.block g h1 h2)⟩, hc, h.types.kb k (fun e => by rcases e with e | e <;> omega), h.cons.kb k (fun e => by rcases e with e | e <;> omega), h.bound.kb k (fun e => by rcases e with e | e <;> omega)⟩
theorem Gst.bnd {a' : Int} {vars' : List Nm} {n' : Nat} (h : Gst W0 w0 cb tb kb bb nt nk mt mk a vars n w) (l : Gat W0 w0 cb tb kb bb) (k : KB (CB2 cb bb) w w') (hc : CkAt w' cb a' tb kb bb) (hn : NamesC w' bb n' (cnt vars')) : Gst W0 w0 cb tb kb bb nt nk mt mk a' vars' n' w' := by
 have l5 := l.gc0; have l6 := l.gb0; have l7 := l.gtb; have l8 := l.gkb
 have m2 := ck_nem h.ck h.types; have m3 := ck_nem h.ck h.cons
 exact ⟨k.below h.bel (Nat.le_refl _) (fun g hg e => by rcases e with e | e <;> omega), h.keeps.trans k, hc, h.types.kb k (fun e => by rcases e with e | e <;> omega), h.cons.kb k (fun e => by rcases e with e | e <;> omega), hn⟩
theorem Gst.dst (h : Gst W0 w0 cb tb kb bb nt nk mt mk a vars n w) : Dst W0 cb tb kb bb nk mk a vars n w := ⟨h.bel, h.ck, h.cons, h.bound⟩
def givenL : List Nm := [sInt, sBool, sCpx]
def consL : List Nm := [sFalse, sTrue]
def seeD (s : Int × List Nm) (d : Px.Data) : Int × List Nm := (asked s.1 (!s.2.contains d.name) d.pos, s.2 ++ [d.name])
def seeF (s : Int × List Nm) (d : Px.Def) : Int × List Nm := (asked s.1 (!s.2.contains d.name) d.pos, s.2 ++ [d.name])
theorem seeD_names : ∀ (l : List Px.Data) (s : Int × List Nm), (l.foldl seeD s).2 = s.2 ++ l.map (·.name)
 | [], s => by simp
 | x :: r, s => by rw [List.foldl_cons, seeD_names r]; simp [seeD]
theorem seeF_names : ∀ (l : List Px.Def) (s : Int × List Nm), (l.foldl seeF s).2 = s.2 ++ l.map (·.name)
 | [], s => by simp
 | x :: r, s => by rw [List.foldl_cons, seeF_names r]; simp [seeF]
def consNames (l : List Px.Data) : List Nm := l.flatMap fun d => d.cons.map (·.name)
theorem dataS_names (m : Nm → Option Int) : ∀ (l : List Px.Data) (s : Int × List Nm), (l.foldl (dataS m) s).2 = s.2 ++ consNames l
 | [], s => by simp [consNames]
 | x :: r, s => by rw [List.foldl_cons, dataS_names m r, dataS, conS_seen]; simp [consNames]
theorem cons_le (d : Px.Data) : d.cons.length + 1 ≤ Sx.dw d := by
 have h := Sx.len_sum Sx.cw d.cons (fun x _ => by unfold Sx.cw; omega)
 have hdd : Sx.dw d = 1 + d.name.length + nw d.params + (d.cons.map Sx.cw).sum := rfl
 omega
theorem consNames_le : ∀ (l : List Px.Data), (consNames l).length ≤ (l.map Sx.dw).sum
 | [] => by simp [consNames]
 | x :: r => by
   have h := consNames_le r
   have hc := cons_le x
   have e : consNames (x :: r) = x.cons.map (·.name) ++ consNames r := by simp [consNames]
   rw [e, List.length_append, List.length_map, List.map_cons, List.sum_cons]
   omega
theorem named_given (s : Nm) : named given s = cnt givenL s := by
 unfold named given givenL cnt
 by_cases h1 : s = sCpx
 · subst h1; decide
 · by_cases h2 : s = sBool
   · subst h2; decide
   · by_cases h3 : s = sInt
     · subst h3; decide
     · simp [putm, h1, h2, h3, List.count_cons, Ne.symm h1, Ne.symm h2, Ne.symm h3, beq_iff_eq]
theorem named_cons (s : Nm) : named (consTab []) s = cnt consL s := by
 unfold named consTab consL cnt cons0
 by_cases h1 : s = sTrue
 · subst h1; decide
 · by_cases h2 : s = sFalse
   · subst h2; decide
   · simp [putm, h1, h2, List.count_cons, Ne.symm h1, Ne.symm h2, beq_iff_eq]
def progS1 (p : Px.Prog) : Int := (p.datas.foldl seeD (-1, givenL)).1
def progS2 (p : Px.Prog) : Int := (p.datas.foldl (dataS (typesTab p.datas)) (progS1 p, consL)).1
def progS3 (p : Px.Prog) : Int := (p.defs.foldl seeF (progS2 p, [])).1
def progV (p : Px.Prog) : List Nm := p.defs.map (·.name)
def progS4 (p : Px.Prog) : Int := p.defs.foldl (defS (consTab p.datas) (progV p) 50) (progS3 p)
def progS (p : Px.Prog) : Int := mainS (progS4 p) p.defs
theorem prog_empty (f : Nat) (u : World) : ProgAt f u (.agg #[.slice none 0 0, .slice none 0 0]) ⟨[], []⟩ := ⟨_, _, rfl, .inl ⟨rfl, _, _, rfl⟩, .inl ⟨rfl, _, _, rfl⟩⟩
theorem given_len (s : Nm) (h : (given s).isSome) : s.length ≤ 400000 := by
 unfold given at h
 by_cases h1 : s = sCpx
 · subst h1; decide
 · by_cases h2 : s = sBool
   · subst h2; decide
   · by_cases h3 : s = sInt
     · subst h3; decide
     · simp [putm, h1, h2, h3] at h
theorem cons0_len (s : Nm) (h : (consTab [] s).isSome) : s.length ≤ 400000 := by
 have h : (cons0 s).isSome := h
 unfold cons0 at h
 by_cases h1 : s = sTrue
 · subst h1; decide
 · by_cases h2 : s = sFalse
   · subst h2; decide
   · simp [putm, h1, h2] at h
set_option maxHeartbeats 16000000 in
set_option maxRecDepth 100000 in
theorem prog_ck_any (p : Px.Prog) (v : Value) (hp : ProgAt 50 W0 v p) (hw : (p.datas.map Sx.dw).sum + (p.defs.map Sx.fw).sum ≤ 190000) (L : Gat W0 w cb tb kb bb) (h : Gst W0 w cb tb kb bb nt nk (typesTab p.datas) (consTab p.datas) (-1) [] 0 w) :
 Calls Try.prog 24 #[.pointer (some ⟨cb, 0, none⟩), v] w fun e w' => e = .returned (.tuple #[]) ∧ KB (CB2 cb bb) w w' ∧ CkAt w' cb (progS p) tb kb bb := by
 obtain ⟨dv, fv, rfl, h1, h2⟩ := hp
 obtain ⟨q1, c1, rfl⟩ := h1.len
 obtain ⟨q2, c2, rfl⟩ := h2.len
 have HD := hid h1; have HF := hid h2
 have HW := hid hw
 have hld : p.datas.length ≤ 190000 := Nat.le_trans (Sx.len_sum Sx.dw _ (fun x _ => by unfold Sx.dw; omega)) (by omega)
 have hlf : p.defs.length ≤ 190000 := Nat.le_trans (Sx.len_sum Sx.fw _ (fun x _ => by unfold Sx.fw; omega)) (by omega)
 have H0 := hid h
 have HL := hid L
 have hcb := L.gc1; have hbb := L.gb1; have hww := L.gw0
 obtain ⟨mt, hmt⟩ : ∃ m, typesTab p.datas = m := ⟨_, rfl⟩
 obtain ⟨mk, hmk⟩ : ∃ m, consTab p.datas = m := ⟨_, rfl⟩
 have HMT := hid hmt; have HMK := hid hmk
 rw [hmt, hmk] at H0
 clear h1 h2 hw h L hmt hmk
 go_enter Try.func24, Try.ntmps24
 have EX := hid (jI w #[.slice q1 p.datas.length c1, .slice q2 p.defs.length c2] 27)
 have HB := hid (show Below w.heap.size w (w.alloc (.cells #[.slice q1 p.datas.length c1, .slice q2 p.defs.length c2] 27)) from (Below.refl _ _).alloc (Nat.le_refl _) _)
 go_upto_region 1 with fail
 generalize w.alloc (.cells #[.slice q1 p.datas.length c1, .slice q2 p.defs.length c2] 27) = w1 at EX HB ⊢
 go_wp2_with fail
 refine (given_any w1).mono ?_
 rintro e w2 ⟨g1, rfl, b2, hg1, m2⟩
 have B2 := hid (HB.out.trans (b2.mono HB.out.size))
 have hg1' := hg1
 have M2 := hid m2
 have EX2 := hid (jC EX.out b2)
 clear b2 m2 EX HB
 go_wp2_with fail
 refine (namesI_any w2 g1 3 given M2.out given_len (by omega)).mono ?_
 rintro e w3 ⟨sb, rfl, b3, hsb, n3⟩
 have hsb0 : w.heap.size ≤ sb := Nat.le_trans B2.out.size hsb
 have B3 := hid (B2.out.trans (b3.mono B2.out.size))
 have N3 := hid (n3.cong named_given)
 have EX3 := hid (jC EX2.out b3)
 clear b3 n3 EX2 B2 M2
 go_wp2_with fail
 refine (cons_any 50 ⟨[], []⟩ _ w3 (prog_empty 50 w3) (by simp)).mono ?_
 rintro e w4 ⟨g2, rfl, b4, hg2, m4⟩
 have B4 := hid (B3.out.trans (b4.mono B3.out.size))
 have M4 := hid m4
 have N4 := hid (N3.out.below b4)
 have EX4 := hid (jC EX3.out b4)
 clear b4 m4 EX3 N3 B3
 go_wp2_with fail
 refine (namesC_any w4 g2 _ (consTab []) M4.out cons0_len (by simp)).mono ?_
 rintro e w5 ⟨ub, rfl, b5, hub, n5⟩
 have hub0 : w.heap.size ≤ ub := Nat.le_trans B4.out.size hub
 have hsu : sb ≠ ub := by have := N4.out.lt; omega
 have B5 := hid (B4.out.trans (b5.mono B4.out.size))
 have U5 := hid (show NamesC w5 ub 2 (cnt consL) from n5.cong named_cons)
 have N5 := hid (N4.out.below b5)
 have EX5 := hid (jC EX4.out b5)
 have H5 := hid (H0.out.below B5.out)
 clear b5 n5 EX4 N4 B4 B5 M4 hub hg2 hsb hg1 hg1'
 have hxs : w.heap.size ≠ sb := by have := EX5.out; intro e; subst e; obtain ⟨D, ⟨es, cl, hb, _⟩, _⟩ := N5.out; rw [this] at hb; cases hb
 have hxu : w.heap.size ≠ ub := by have := EX5.out; intro e; subst e; obtain ⟨D, ⟨es, cl, hb, _⟩, _⟩ := U5.out; rw [this] at hb; cases hb
 have e0 := jA EX5.out 0 _ rfl
 go_wp2_with fail
 clear e0
 go_loopw [22] (fun i wr => ∃ k : Nat, i = .int .i64 k ∧ k ≤ p.datas.length ∧ Hid (Gst W0 w cb tb kb bb nt nk mt mk ((p.datas.take k).foldl seeD (-1, givenL)).1 [] 0 wr) ∧ Hid (NamesC wr sb (3 + k) (cnt ((p.datas.take k).foldl seeD (-1, givenL)).2)) ∧ Hid (NamesC wr ub 2 (cnt consL)) ∧ Hid (wr.heap[w.heap.size]? = some (.cells #[.slice q1 p.datas.length c1, .slice q2 p.defs.length c2] 27 (0, 0)))) (fun i _ => p.datas.length - (intOf i).toNat)
 case atStart => exact ⟨0, rfl, Nat.zero_le _, H5, N5, U5, EX5⟩
 case round =>
  clear H5 N5 U5 EX5
  obtain ⟨k, rfl, hk, HP, HN, HU, HE⟩ := hrel
  by_cases hlt : k < p.datas.length
  · obtain ⟨d, hd⟩ : ∃ d, p.datas[k]? = some d := ⟨_, List.getElem?_eq_getElem hlt⟩
    rcases HD.out with ⟨h0, _⟩ | ⟨g, of, c', hv, g1, g2, g3⟩
    · rw [h0] at hlt; simp at hlt
    injection hv with hq1 _ hq2
    subst hq1; subst hq2
    obtain ⟨u, hu, _, hcell⟩ := g3 k d hd
    obtain ⟨r0, s0, r1, s1, rfl, _, _⟩ := dataAt_sh hu
    have z0 := jE HP.out.bel (hcell 0 _ rfl); have z1 := jE HP.out.bel (hcell 1 _ rfl); have z2 := jE HP.out.bel (hcell 2 _ rfl); have z3 := jE HP.out.bel (hcell 3 _ rfl)
    simp only [Nat.add_zero] at z0
    have hk1 : (k : Int) < (p.datas.length : Int) := by omega
    have hk2 : (p.datas.length : Int) ≤ (c1 : Int) := by omega
    have hk3 := g2
    have hdw := Sx.sum_mem Sx.dw (List.mem_of_getElem? hd)
    have hnm : d.name.length ≤ 400000 := by have hdd : Sx.dw d = 1 + d.name.length + nw d.params + (d.cons.map Sx.cw).sum := rfl; have := HW.out; omega
    have HTK := hid (take_fold seeD p.datas k d hd (-1, givenL))
    have hsn : ((p.datas.take k).foldl seeD (-1, givenL)).2.length = 3 + k := by rw [seeD_names]; simp [givenL]; omega
    obtain ⟨sk, hsk⟩ : ∃ sk, (p.datas.take k).foldl seeD (-1, givenL) = sk := ⟨_, rfl⟩
    rw [hsk] at HP HN hsn HTK
    have hwr := HP.out.keeps.size
    have hal := (Below.refl _ wr).alloc (Nat.le_refl _) (.cells #[.int .i64 d.pos, .string ⟨d.name.toArray⟩, .slice r0 d.params.length s0, .slice r1 d.cons.length s1] 44)
    have E4 := hid (jI wr #[.int .i64 d.pos, .string ⟨d.name.toArray⟩, .slice r0 d.params.length s0, .slice r1 d.cons.length s1] 44)
    have HPA := hid (HP.out.below hal)
    have HNA := hid (HN.out.below hal)
    have HUA := hid (HU.out.below hal)
    have HEA := hid (jC HE.out hal)
    clear g1 g2 g3 hcell hu hd hdw hsk hal HE HU
    go_upto_region 5 with fail
    clear z0 z1 z2 z3
    obtain ⟨w4, hw4⟩ : ∃ u, u = wr.alloc (.cells #[.int .i64 d.pos, .string ⟨d.name.toArray⟩, .slice r0 d.params.length s0, .slice r1 d.cons.length s1] 44) := ⟨_, rfl⟩
    rw [← hw4] at E4 HPA HNA HUA HEA ⊢
    clear hw4
    have hcbr : cb ≠ wr.heap.size := by omega
    have hsbr : sb ≠ wr.heap.size := by have := HN.out.lt; omega
    clear HN HP
    obtain ⟨rq, hrq⟩ : ∃ r, (!sk.2.contains d.name) = r := ⟨_, rfl⟩
    have HRQ := hid hrq
    clear hrq
    refine wp_region_held_drew (S := fun (u : World) => ∀ (g : Nat) (o : Obj), w4.heap[g]? = some o → g ≠ cb → g ≠ sb → u.heap[g]? = some o) (by kernel_rfl) (fun g o h _ _ => h) (fun jM => ?_)
    refine wT 0 (.pointer (some ⟨cb, 0, none⟩)) rfl (Or.inl ⟨by rfl, fun w' hSw => by go_simp⟩) jM ?_
    refine wT 1 (.map (some sb)) rfl (Or.inl ⟨by rfl, fun w' hSw => by go_simp⟩) jM ?_
    refine wT 2 (.pointer (some ⟨wr.heap.size, 1, none⟩)) rfl (Or.inl ⟨by rfl, fun w' hSw => by go_simp⟩) jM ?_
    refine wT 3 (.string ⟨d.name.toArray⟩) rfl (Or.inl ⟨by rfl, fun w' hSw => by have h := jA (hSw _ _ E4.out (Ne.symm hcbr) (Ne.symm hsbr)) 1 _ rfl; go_simp⟩) jM ?_
    refine wT 5 (.pointer (some ⟨wr.heap.size, 0, none⟩)) rfl (Or.inl ⟨by rfl, fun w' hSw => by go_simp⟩) jM ?_
    refine wT 6 (.int .i64 d.pos) rfl (Or.inl ⟨by rfl, fun w' hSw => by have h := jA (hSw _ _ E4.out (Ne.symm hcbr) (Ne.symm hsbr)) 0 _ rfl; go_simp⟩) jM ?_
    simp only [Act.put, jX, jY, jZ, JA, JB, JC]
    refine wpAnyH_ready (rs := [4]) (by kernel_rfl) (by simp) ?_
    refine AllReadyH.cons rfl (fun K hK => ?_) AllReadyH.nil
    go_simp
    refine (add_any w4.drew sb (3 + k) (cnt sk.2) d.name (HNA.out.below ((Below.refl _ _).drew)) hnm (fun s' => by have := cnt_small (l := sk.2) (by omega) s'; omega) (by omega)).mono ?_
    rintro e w5 ⟨rfl, hg5, hn5⟩
    rw [cnt_zero, HRQ.out]
    have hk5 : KB (fun b => b = sb) w4 w5 := ((KB.of_below ((Below.refl _ w4).drew)).trans (KB.of_map hg5 (fun _ => rfl)))
    have H5 := hid (HPA.out.fresh HL.out (x := sb) hsb0 (hk5.weak fun _ _ e => .inr e) (hk5.at HPA.out.ck (by omega)))
    have N5 := hid (show NamesC w5 sb (3 + (k + 1)) (cnt (sk.2 ++ [d.name])) from hn5.cong (cnt_bump sk.2 d.name))
    have U5 := hid (HUA.out.kb hk5 (Ne.symm hsu))
    have hS5 : ∀ (g : Nat) (o : Obj), w4.heap[g]? = some o → g ≠ cb → g ≠ sb → w5.heap[g]? = some o := fun g o h _ h1 => hk5.at h h1
    clear hg5 hn5 hk5
    refine hK.out _ _ hS5 (fun jM => ?_)
    clear hK K
    refine wpAnyH_ready (rs := [7]) (by kernel_rfl) (by simp) ?_
    refine AllReadyH.cons rfl (fun K hK => ?_) AllReadyH.nil
    go_simp
    refine (ask_any w5 cb tb kb bb sk.1 rq d.pos H5.out.ck).mono ?_
    rintro e w6 ⟨rfl, hk6, hc6⟩
    have H6 := hid (H5.out.fresh HL.out (x := sb) hsb0 (hk6.weak fun _ _ e => .inl e) hc6)
    have N6 := hid (N5.out.kb hk6 (show ¬ (sb = cb) by omega))
    have U6 := hid (U5.out.kb hk6 (show ¬ (ub = cb) by omega))
    have hS6 : ∀ (g : Nat) (o : Obj), w4.heap[g]? = some o → g ≠ cb → g ≠ sb → w6.heap[g]? = some o := fun g o h h1 h2 => hk6.at (hS5 g o h h1 h2) h1
    have X6 := hid (hS6 _ _ HEA.out (by omega) hxs)
    clear hk6 hc6 H5 N5 U5
    refine hK.out _ _ hS6 (fun jM => ?_)
    clear hS5 hS6
    clear hK K
    refine wpAnyH_done (by kernel_rfl) ?_ _
    clear HPA E4
    have HSK := hid (show seeD sk d = (asked sk.1 rq d.pos, sk.2 ++ [d.name]) by rw [seeD, HRQ.out])
    go_wp2_with fail
    go_roundw
    case rel => exact ⟨k + 1, by go_num, by omega, hid (by rw [HTK.out, HSK.out]; exact H6.out), hid (by rw [HTK.out, HSK.out]; exact N6.out), U6, X6⟩
    case measure => simp [intOf]; omega
  · obtain rfl : k = p.datas.length := by omega
    have HS1 := hid (show ((p.datas.take p.datas.length).foldl seeD (-1, givenL)).1 = progS1 p by rw [List.take_length]; rfl)
    rw [HS1.out] at HP
    have e0 := jA HE.out 0 _ rfl
    clear HN HS1
    go_wp2_with fail
    clear e0
    go_loopw [38] (fun i wr => ∃ k : Nat, i = .int .i64 k ∧ k ≤ p.datas.length ∧ Hid (Gst W0 w cb tb kb bb nt nk mt mk ((p.datas.take k).foldl (dataS mt) (progS1 p, consL)).1 [] 0 wr) ∧ Hid (NamesC wr ub (2 + ((p.datas.take k).map Sx.dw).sum) (cnt ((p.datas.take k).foldl (dataS mt) (progS1 p, consL)).2)) ∧ Hid (wr.heap[w.heap.size]? = some (.cells #[.slice q1 p.datas.length c1, .slice q2 p.defs.length c2] 27 (0, 0)))) (fun i _ => p.datas.length - (intOf i).toNat)
    case atStart => exact ⟨0, rfl, Nat.zero_le _, HP, HU, HE⟩
    case round =>
     clear HP HU HE
     obtain ⟨k, rfl, hk, HP, HU, HE⟩ := hrel
     by_cases hlt : k < p.datas.length
     · obtain ⟨d, hd⟩ : ∃ d, p.datas[k]? = some d := ⟨_, List.getElem?_eq_getElem hlt⟩
       rcases HD.out with ⟨h0, _⟩ | ⟨g, of, c', hv, g1, g2, g3⟩
       · rw [h0] at hlt; simp at hlt
       injection hv with hq1 _ hq2
       subst hq1; subst hq2
       obtain ⟨u, hu, _, hcell⟩ := g3 k d hd
       have HDA := hid hu
       obtain ⟨r0, s0, r1, s1, rfl, _, _⟩ := dataAt_sh hu
       have z0 := jE HP.out.bel (hcell 0 _ rfl); have z1 := jE HP.out.bel (hcell 1 _ rfl); have z2 := jE HP.out.bel (hcell 2 _ rfl); have z3 := jE HP.out.bel (hcell 3 _ rfl)
       simp only [Nat.add_zero] at z0
       have hk1 : (k : Int) < (p.datas.length : Int) := by omega
       have hk2 : (p.datas.length : Int) ≤ (c1 : Int) := by omega
       have hk3 := g2
       have hdw := Sx.sum_take Sx.dw p.datas k d hd
       have hcl := cons_le d
       have HSK : Hid (((p.datas.take (k + 1)).map Sx.dw).sum = ((p.datas.take k).map Sx.dw).sum + Sx.dw d) := hid (by rw [List.take_add_one, hd]; simp)
       have HTK := hid (take_fold (dataS mt) p.datas k d hd (progS1 p, consL))
       have hsn : ((p.datas.take k).foldl (dataS mt) (progS1 p, consL)).2.length ≤ 2 + ((p.datas.take k).map Sx.dw).sum := by rw [dataS_names, List.length_append]; have := consNames_le (p.datas.take k); have e2 : ((progS1 p, consL) : Int × List Nm).2.length = 2 := rfl; omega
       obtain ⟨sk, hsk⟩ : ∃ sk, (p.datas.take k).foldl (dataS mt) (progS1 p, consL) = sk := ⟨_, rfl⟩
       rw [hsk] at HP HU hsn HTK
       have hwr := HP.out.keeps.size
       have HNB := hid (show Sx.dw d ≤ 400000 ∧ sk.2.length + d.cons.length ≤ 400000 ∧ 2 + ((p.datas.take k).map Sx.dw).sum + d.cons.length ≤ 100000000 ∧ d.cons.length ≤ Sx.dw d by have := HW.out; omega)
       have hal := (Below.refl _ wr).alloc (Nat.le_refl _) (.cells #[.int .i64 d.pos, .string ⟨d.name.toArray⟩, .slice r0 d.params.length s0, .slice r1 d.cons.length s1] 44)
       have E4 := hid (jI wr #[.int .i64 d.pos, .string ⟨d.name.toArray⟩, .slice r0 d.params.length s0, .slice r1 d.cons.length s1] 44)
       have HPA := hid (HP.out.below hal)
       have HUA := hid (HU.out.below hal)
       have HEA := hid (jC HE.out hal)
       clear g1 g2 g3 hcell hu hd hdw hsk hal HE HU HP hcl hsn
       have y0 := jA E4.out 0 _ rfl; have y1 := jA E4.out 1 _ rfl; have y2 := jA E4.out 2 _ rfl; have y3 := jA E4.out 3 _ rfl
       go_wp2_with fail
       clear z0 z1 z2 z3 y0 y1 y2 y3 E4
       refine (data_ck_any cb tb kb bb ub nt (2 + ((p.datas.take k).map Sx.dw).sum) mt W0 HL.out.gc0 (by omega) (by have := HL.out.gt1; omega) d _ sk _ HDA.out HNB.out.1 HNB.out.2.1 HNB.out.2.2.1 ⟨HPA.out.bel, HPA.out.ck, HPA.out.types, HUA.out⟩).mono ?_
       rintro e w6 ⟨rfl, hk6, ha6⟩
       have H6 := hid (HPA.out.fresh HL.out (x := ub) hub0 hk6 ha6.ck)
       have U6 := hid (ha6.seen.mono (show _ ≤ 2 + ((p.datas.take (k + 1)).map Sx.dw).sum by rw [HSK.out]; have := HNB.out; omega))
       have X6 := hid (hk6.at HEA.out (fun e => by rcases e with e | e <;> omega))
       clear hk6 ha6 HPA HUA HEA
       go_wp2_with fail
       go_roundw
       case rel => exact ⟨k + 1, by go_num, by omega, hid (by rw [HTK.out]; exact H6.out), hid (by rw [HTK.out]; exact U6.out), X6⟩
       case measure => simp [intOf]; omega
     · obtain rfl : k = p.datas.length := by omega
       have HS1 := hid (show ((p.datas.take p.datas.length).foldl (dataS mt) (progS1 p, consL)).1 = progS2 p by rw [List.take_length, ← HMT.out]; rfl)
       rw [HS1.out] at HP
       have e1 := jA HE.out 1 _ rfl
       clear HU HS1
       go_wp2_with fail
       clear e1
       go_loopw [50] (fun i wr => ∃ k : Nat, i = .int .i64 k ∧ k ≤ p.defs.length ∧ Hid (Gst W0 w cb tb kb bb nt nk mt mk ((p.defs.take k).foldl seeF (progS2 p, [])).1 ((p.defs.take k).foldl seeF (progS2 p, [])).2 (0 + k) wr) ∧ Hid (wr.heap[w.heap.size]? = some (.cells #[.slice q1 p.datas.length c1, .slice q2 p.defs.length c2] 27 (0, 0)))) (fun i _ => p.defs.length - (intOf i).toNat)
       case atStart => exact ⟨0, rfl, Nat.zero_le _, HP, HE⟩
       case round =>
        clear HP HE
        obtain ⟨k, rfl, hk, HP, HE⟩ := hrel
        by_cases hlt : k < p.defs.length
        · obtain ⟨d, hd⟩ : ∃ d, p.defs[k]? = some d := ⟨_, List.getElem?_eq_getElem hlt⟩
          rcases HF.out with ⟨h0, _⟩ | ⟨g, of, c', hv, g1, g2, g3⟩
          · rw [h0] at hlt; simp at hlt
          injection hv with hq1 _ hq2
          subst hq1; subst hq2
          obtain ⟨u, hu, _, hcell⟩ := g3 k d hd
          obtain ⟨r0, s0, k1, p1, sn, i1, u1, n1, v1, u2, n2, v2, u3, n3, v3, rfl, _, _⟩ := defAt_sh hu
          have z0 := jE HP.out.bel (hcell 0 _ rfl); have z1 := jE HP.out.bel (hcell 1 _ rfl); have z2 := jE HP.out.bel (hcell 2 _ rfl); have z3 := jE HP.out.bel (hcell 3 _ rfl); have z4 := jE HP.out.bel (hcell 4 _ rfl); have z5 := jE HP.out.bel (hcell 5 _ rfl); have z6 := jE HP.out.bel (hcell 6 _ rfl); have z7 := jE HP.out.bel (hcell 7 _ rfl); have z8 := jE HP.out.bel (hcell 8 _ rfl); have z9 := jE HP.out.bel (hcell 9 _ rfl)
          simp only [Nat.add_zero] at z0
          have hk1 : (k : Int) < (p.defs.length : Int) := by omega
          have hk2 : (p.defs.length : Int) ≤ (c2 : Int) := by omega
          have hk3 := g2
          have hdw := Sx.sum_mem Sx.fw (List.mem_of_getElem? hd)
          have hnm : d.name.length ≤ 400000 := by have hdd : Sx.fw d = 1 + d.name.length + nw d.params + Sx.ew 50 d.body := rfl; have := HW.out; omega
          have HTK := hid (take_fold seeF p.defs k d hd (progS2 p, []))
          have hsn : ((p.defs.take k).foldl seeF (progS2 p, [])).2.length = k := by rw [seeF_names]; simp; omega
          obtain ⟨sk, hsk⟩ : ∃ sk, (p.defs.take k).foldl seeF (progS2 p, []) = sk := ⟨_, rfl⟩
          rw [hsk] at HP hsn HTK
          have hwr := HP.out.keeps.size
          have hal := (Below.refl _ wr).alloc (Nat.le_refl _) (.cells #[.int .i64 d.pos, .string ⟨d.name.toArray⟩, .slice r0 d.params.length s0, .int .i64 k1, .int .i64 p1, .string sn, .int .i64 i1, .slice u1 n1 v1, .slice u2 n2 v2, .slice u3 n3 v3] 58)
          have E4 := hid (jI wr #[.int .i64 d.pos, .string ⟨d.name.toArray⟩, .slice r0 d.params.length s0, .int .i64 k1, .int .i64 p1, .string sn, .int .i64 i1, .slice u1 n1 v1, .slice u2 n2 v2, .slice u3 n3 v3] 58)
          have HPA := hid (HP.out.below hal)
          have HEA := hid (jC HE.out hal)
          clear g1 g2 g3 hcell hu hd hdw hsk hal HE HP
          go_upto_region 15 with fail
          clear z0 z1 z2 z3 z4 z5 z6 z7 z8 z9
          obtain ⟨w4, hw4⟩ : ∃ u, u = wr.alloc (.cells #[.int .i64 d.pos, .string ⟨d.name.toArray⟩, .slice r0 d.params.length s0, .int .i64 k1, .int .i64 p1, .string sn, .int .i64 i1, .slice u1 n1 v1, .slice u2 n2 v2, .slice u3 n3 v3] 58) := ⟨_, rfl⟩
          rw [← hw4] at E4 HPA HEA ⊢
          clear hw4
          have hcbr : cb ≠ wr.heap.size := by omega
          have hbbr : bb ≠ wr.heap.size := by omega
          have hcbb := ck_ne HPA.out.ck HPA.out.bound
          obtain ⟨rq, hrq⟩ : ∃ r, (!sk.2.contains d.name) = r := ⟨_, rfl⟩
          have HRQ := hid hrq
          clear hrq
          refine wp_region_held_drew (S := fun (u : World) => (∀ (g : Nat) (o : Obj), w4.heap[g]? = some o → g ≠ cb → g ≠ bb → u.heap[g]? = some o) ∧ u.cell? ⟨cb, 3, none⟩ = some (.map (some bb))) (by kernel_rfl) (⟨fun g o h _ _ => h, jA ((HPA.out.below ((Below.refl _ _).drew)).ck) 3 _ rfl⟩) (fun jM => ?_)
          refine wT 0 (.pointer (some ⟨cb, 0, none⟩)) rfl (Or.inl ⟨by rfl, fun w' hSw => by go_simp⟩) jM ?_
          refine wT 1 (.pointer (some ⟨cb, 0, none⟩)) rfl (Or.inl ⟨by rfl, fun w' hSw => by go_simp⟩) jM ?_
          refine wT 2 (.pointer (some ⟨cb, 0, none⟩)) rfl (Or.inl ⟨by rfl, fun w' hSw => by go_simp⟩) jM ?_
          refine wT 3 (.pointer (some ⟨cb, 3, none⟩)) rfl (Or.inl ⟨by rfl, fun w' hSw => by go_simp⟩) jM ?_
          refine wT 4 (.map (some bb)) rfl (Or.inl ⟨by rfl, fun w' hSw => by have h := hSw.2; go_simp⟩) jM ?_
          refine wT 5 (.pointer (some ⟨wr.heap.size, 1, none⟩)) rfl (Or.inl ⟨by rfl, fun w' hSw => by go_simp⟩) jM ?_
          refine wT 6 (.string ⟨d.name.toArray⟩) rfl (Or.inl ⟨by rfl, fun w' hSw => by have h := jA (hSw.1 _ _ E4.out (Ne.symm hcbr) (Ne.symm hbbr)) 1 _ rfl; go_simp⟩) jM ?_
          refine wT 8 (.pointer (some ⟨wr.heap.size, 0, none⟩)) rfl (Or.inl ⟨by rfl, fun w' hSw => by go_simp⟩) jM ?_
          refine wT 9 (.int .i64 d.pos) rfl (Or.inl ⟨by rfl, fun w' hSw => by have h := jA (hSw.1 _ _ E4.out (Ne.symm hcbr) (Ne.symm hbbr)) 0 _ rfl; go_simp⟩) jM ?_
          simp only [Act.put, jX, jY, jZ, JA, JB, JC]
          refine wpAnyH_ready (rs := [7]) (by kernel_rfl) (by simp) ?_
          refine AllReadyH.cons rfl (fun K hK => ?_) AllReadyH.nil
          go_simp
          refine (add_any w4.drew bb (0 + k) (cnt sk.2) d.name ((HPA.out.below ((Below.refl _ _).drew)).bound) hnm (fun s' => by have := cnt_small (l := sk.2) (by omega) s'; omega) (by omega)).mono ?_
          rintro e w5 ⟨rfl, hg5, hn5⟩
          rw [cnt_zero, HRQ.out]
          have hk5 : KB (fun b => b = bb) w4 w5 := ((KB.of_below ((Below.refl _ w4).drew)).trans (KB.of_map hg5 (fun _ => rfl)))
          have H5 := hid (HPA.out.bnd HL.out (hk5.weak fun _ _ e => .inr e) (hk5.at HPA.out.ck hcbb) (hn5.cong (cnt_bump sk.2 d.name)))
          have hS5 : ∀ (g : Nat) (o : Obj), w4.heap[g]? = some o → g ≠ cb → g ≠ bb → w5.heap[g]? = some o := fun g o h _ h1 => hk5.at h h1
          clear hg5 hn5 hk5
          refine hK.out _ _ ⟨hS5, jA H5.out.ck 3 _ rfl⟩ (fun jM => ?_)
          clear hK K
          refine wpAnyH_ready (rs := [10]) (by kernel_rfl) (by simp) ?_
          refine AllReadyH.cons rfl (fun K hK => ?_) AllReadyH.nil
          go_simp
          refine (ask_any w5 cb tb kb bb sk.1 rq d.pos H5.out.ck).mono ?_
          rintro e w6 ⟨rfl, hk6, hc6⟩
          have H6 := hid (H5.out.bnd HL.out (hk6.weak fun _ _ e => .inl e) hc6 (H5.out.bound.kb hk6 (fun e => hcbb (Eq.symm e))))
          have hS6 : ∀ (g : Nat) (o : Obj), w4.heap[g]? = some o → g ≠ cb → g ≠ bb → w6.heap[g]? = some o := fun g o h h1 h2 => hk6.at (hS5 g o h h1 h2) h1
          have X6 := hid (hS6 _ _ HEA.out (by omega) (by omega))
          clear hk6 hc6 H5
          refine hK.out _ _ ⟨hS6, jA H6.out.ck 3 _ rfl⟩ (fun jM => ?_)
          clear hS5 hS6
          clear hK K
          refine wpAnyH_done (by kernel_rfl) ?_ _
          clear HPA E4
          have HSK := hid (show seeF sk d = (asked sk.1 rq d.pos, sk.2 ++ [d.name]) by rw [seeF, HRQ.out])
          go_wp2_with fail
          go_roundw
          case rel => exact ⟨k + 1, by go_num, by omega, hid (by rw [HTK.out, HSK.out]; exact H6.out), X6⟩
          case measure => simp [intOf]; omega
        · obtain rfl : k = p.defs.length := by omega
          have HS1 := hid (show (p.defs.take p.defs.length).foldl seeF (progS2 p, []) = (progS3 p, progV p) by rw [List.take_length]; exact Prod.ext rfl (by rw [seeF_names]; rfl))
          rw [HS1.out] at HP
          have e1 := jA HE.out 1 _ rfl
          clear HS1
          go_wp2_with fail
          clear e1
          go_loopw [69] (fun i wr => ∃ k : Nat, i = .int .i64 k ∧ k ≤ p.defs.length ∧ Hid (Gst W0 w cb tb kb bb nt nk mt mk ((p.defs.take k).foldl (defS mk (progV p) 50) (progS3 p)) (progV p) (0 + p.defs.length + 2 * ((p.defs.take k).map Sx.fw).sum) wr) ∧ Hid (wr.heap[w.heap.size]? = some (.cells #[.slice q1 p.datas.length c1, .slice q2 p.defs.length c2] 27 (0, 0)))) (fun i _ => p.defs.length - (intOf i).toNat)
          case atStart => exact ⟨0, rfl, Nat.zero_le _, HP, HE⟩
          case round =>
           clear HP HE
           obtain ⟨k, rfl, hk, HP, HE⟩ := hrel
           by_cases hlt : k < p.defs.length
           · obtain ⟨d, hd⟩ : ∃ d, p.defs[k]? = some d := ⟨_, List.getElem?_eq_getElem hlt⟩
             rcases HF.out with ⟨h0, _⟩ | ⟨g, of, c', hv, g1, g2, g3⟩
             · rw [h0] at hlt; simp at hlt
             injection hv with hq1 _ hq2
             subst hq1; subst hq2
             obtain ⟨u, hu, _, hcell⟩ := g3 k d hd
             have HDA := hid hu
             obtain ⟨r0, s0, k1, p1, sn, i1, u1, n1, v1, u2, n2, v2, u3, n3, v3, rfl, _, _⟩ := defAt_sh hu
             have z0 := jE HP.out.bel (hcell 0 _ rfl); have z1 := jE HP.out.bel (hcell 1 _ rfl); have z2 := jE HP.out.bel (hcell 2 _ rfl); have z3 := jE HP.out.bel (hcell 3 _ rfl); have z4 := jE HP.out.bel (hcell 4 _ rfl); have z5 := jE HP.out.bel (hcell 5 _ rfl); have z6 := jE HP.out.bel (hcell 6 _ rfl); have z7 := jE HP.out.bel (hcell 7 _ rfl); have z8 := jE HP.out.bel (hcell 8 _ rfl); have z9 := jE HP.out.bel (hcell 9 _ rfl)
             simp only [Nat.add_zero] at z0
             have hk1 : (k : Int) < (p.defs.length : Int) := by omega
             have hk2 : (p.defs.length : Int) ≤ (c2 : Int) := by omega
             have hk3 := g2
             have hdw := Sx.sum_take Sx.fw p.defs k d hd
             have hdd : Sx.fw d = 1 + d.name.length + nw d.params + Sx.ew 50 d.body := rfl
             have HSK : Hid (((p.defs.take (k + 1)).map Sx.fw).sum = ((p.defs.take k).map Sx.fw).sum + Sx.fw d) := hid (by rw [List.take_add_one, hd]; simp)
             have HTK := hid (take_fold (defS mk (progV p) 50) p.defs k d hd (progS3 p))
             have hvl : (progV p).length = p.defs.length := by simp [progV]
             have hwr := HP.out.keeps.size
             have HNB := hid (show (progV p).length + nw d.params + Sx.ew 50 d.body ≤ 400000 ∧ 0 + p.defs.length + 2 * ((p.defs.take k).map Sx.fw).sum + 2 * nw d.params + 2 * Sx.ew 50 d.body ≤ 100000000 ∧ nw d.params + Sx.ew 50 d.body ≤ Sx.fw d by have := HW.out; omega)
             have hal := (Below.refl _ wr).alloc (Nat.le_refl _) (.cells #[.int .i64 d.pos, .string ⟨d.name.toArray⟩, .slice r0 d.params.length s0, .int .i64 k1, .int .i64 p1, .string sn, .int .i64 i1, .slice u1 n1 v1, .slice u2 n2 v2, .slice u3 n3 v3] 58)
             have E4 := hid (jI wr #[.int .i64 d.pos, .string ⟨d.name.toArray⟩, .slice r0 d.params.length s0, .int .i64 k1, .int .i64 p1, .string sn, .int .i64 i1, .slice u1 n1 v1, .slice u2 n2 v2, .slice u3 n3 v3] 58)
             have HPA := hid (HP.out.below hal)
             have HEA := hid (jC HE.out hal)
             clear g1 g2 g3 hcell hu hd hdw hdd hal HE HP hvl
             have y0 := jA E4.out 0 _ rfl; have y1 := jA E4.out 1 _ rfl; have y2 := jA E4.out 2 _ rfl; have y3 := jA E4.out 3 _ rfl; have y4 := jA E4.out 4 _ rfl; have y5 := jA E4.out 5 _ rfl; have y6 := jA E4.out 6 _ rfl; have y7 := jA E4.out 7 _ rfl; have y8 := jA E4.out 8 _ rfl; have y9 := jA E4.out 9 _ rfl
             go_wp2_with fail
             clear z0 z1 z2 z3 z4 z5 z6 z7 z8 z9 y0 y1 y2 y3 y4 y5 y6 y7 y8 y9 E4
             refine (def_ck_any cb tb kb bb nk _ mk W0 HL.out.gc0 HL.out.gb0 HL.out.gkb 50 d _ _ (progV p) _ HDA.out HNB.out.1 HNB.out.2.1 HPA.out.dst).mono ?_
             rintro e w6 ⟨rfl, hk6, ha6⟩
             have H6 := hid (HPA.out.bnd HL.out hk6 ha6.ck (ha6.nam.mono (show _ ≤ 0 + p.defs.length + 2 * ((p.defs.take (k + 1)).map Sx.fw).sum by rw [HSK.out]; have := HNB.out; omega)))
             have X6 := hid (hk6.at HEA.out (fun e => by rcases e with e | e <;> omega))
             clear hk6 ha6 HPA HEA
             go_wp2_with fail
             go_roundw
             case rel => exact ⟨k + 1, by go_num, by omega, hid (by rw [HTK.out]; exact H6.out), X6⟩
             case measure => simp [intOf]; omega
           · obtain rfl : k = p.defs.length := by omega
             have HS1 := hid (show (p.defs.take p.defs.length).foldl (defS mk (progV p) 50) (progS3 p) = progS4 p by rw [List.take_length, ← HMK.out]; rfl)
             rw [HS1.out] at HP
             have e1 := jA HE.out 1 _ rfl
             clear HS1
             go_wp2_with fail
             clear e1
             refine (main_ck_any cb tb kb bb W0 HL.out.gc0 50 p.defs _ (progS4 p) wr HF.out (by have := HW.out; omega) HP.out.bel HP.out.ck).mono ?_
             rintro e w6 ⟨rfl, hk6, hc6⟩
             have K6 := hid (HP.out.keeps.trans (hk6.weak fun _ _ e => .inl e))
             have C6 := hid hc6
             clear hk6 hc6
             go_wp2_with fail
             refine bodyPost_end (v := .tuple #[]) (by simp [results, Try.results24, go_sem]) rfl ?_
             exact ⟨rfl, K6.out, C6.out⟩
end Go.Proofs.Ytgoacbomphlhjaa
