/-
  The program's Canon.
-/
import Derived.Test.YtcblppojnailpaaDoorH17
import Derived.Test.YtcblppojnailpaaDoorH04
import Derived.Test.YtcblppojnailpaaDoorH13
import Derived.BigRegion
namespace Go.Proofs.YtcblppojnailpaaDoor
open Go Go.RowKit
set_option linter.unusedVariables false
set_option linter.unusedSimpArgs false
/-- The numbers that variables get. -/
def numOf (l : List Nat) (n : Nat) : Nat := if n ∈ l then l.idxOf n else 0
/-- The closure's map, as far as j. -/
def CnS (b3 nb : Nat) (l : List Nat) (w : World) : Prop := w.heap[b3]? = some (.cells #[.map (some nb)] 80 (0, 0)) ∧ ∃ Lm, MapK encInt (fun _ _ => True) w nb Lm ∧ ∀ n : Nat, lookL (n : Int) Lm = if n ∈ l then some (.int .i64 (l.idxOf n : Nat)) else none
theorem CnS.keep {b3 nb : Nat} {l : List Nat} {w w' : World} (h : CnS b3 nb l w) (h1 : w'.heap[b3]? = w.heap[b3]?) (h2 : w'.heap[nb]? = w.heap[nb]?) : CnS b3 nb l w' := by
 obtain ⟨a, Lm, b, c⟩ := h
 exact ⟨h1.trans a, Lm, b.keep h2 fun _ _ => trivial, c⟩
theorem CnS.lt {b3 nb : Nat} {l : List Nat} {w : World} (h : CnS b3 nb l w) : b3 < w.heap.size ∧ nb < w.heap.size := by
 obtain ⟨a, Lm, b, c⟩ := h
 exact ⟨ent_lt a, b.lt⟩
set_option maxHeartbeats 4000000 in
set_option maxRecDepth 100000 in
theorem canonLook_any (b3 nb n : Nat) (l : List Nat) (w : World) (h : CnS b3 nb l w) :
 Calls Tryd.prog 40 #[.int .i64 (n : Int), .pointer (some ⟨b3, 0, none⟩)] w (fun e w' => e = .returned (.agg #[.int .i64 (numOf l n : Nat), .string ⟨#[]⟩, .slice none 0 0]) ∧ Below w.heap.size w w') := by
 have hlk : ∀ u, Below w.heap.size w u → (Instr.lookup 80 (.map (some nb)) (.int .i64 (n : Int)) false).run Tryd.prog u = .ok (.int .i64 (numOf l n : Nat)) u := fun u hu => by
  obtain ⟨_, Lm, h4, h5⟩ := h.keep (hu.block _ h.lt.1) (hu.block _ h.lt.2)
  have h3 := (h4.look lawI Tryd.underlying80 (z := .int .i64 0) (by kernel_rfl) (n : Int) trivial).1
  rw [h5 n] at h3
  unfold numOf
  by_cases hn : n ∈ l
  · rw [if_pos hn] at h3 ⊢; exact h3
  · rw [if_neg hn] at h3 ⊢; exact h3
 have E3 := Lib.hid h.1
 clear h
 go_enter Tryd.func40, Tryd.ntmps40
 have ER := Lib.hid (ent_new w #[.int .i64 0, .string ⟨#[]⟩, .slice none 0 0] 30)
 have hb : Below w.heap.size w (w.alloc (.cells #[.int .i64 0, .string ⟨#[]⟩, .slice none 0 0] 30)) := (Below.refl _ _).alloc (Nat.le_refl _) _
 have HB := Lib.hid hb
 have hl := hlk _ hb
 have c0 := ent_cell (ent_below E3.out hb) 0 _ rfl
 clear hb hlk
 obtain ⟨K, hK⟩ : ∃ K, K = numOf l n := ⟨_, rfl⟩
 rw [← hK] at hl ⊢
 clear hK
 go_upto_region 1 with fail
 generalize w.alloc (.cells #[.int .i64 0, .string ⟨#[]⟩, .slice none 0 0] 30) = w1 at ER HB hl c0 ⊢
 go_wp2_with fail
 refine (var_any (K : Int) w1).mono ?_
 rintro e w2 ⟨rfl, hb2⟩
 have ER2 := Lib.hid (ent_below ER.out hb2)
 have HB2 := Lib.hid (HB.out.trans (hb2.mono HB.out.size))
 clear hb2 hl c0
 have r0 := ent_cell ER2.out 0 _ rfl
 have r1 := ent_cell ER2.out 1 _ rfl
 have r2 := ent_cell ER2.out 2 _ rfl
 have rf := ent_free ER2.out
 go_wp2_with fail
 clear r0 r1 r2 rf
 have ER3 := ent_set3 ER2.out (.int .i64 (K : Int)) (.string ⟨#[]⟩) (.slice none 0 0)
 have r0 := ent_cell ER3 0 _ rfl
 have r1 := ent_cell ER3 1 _ rfl
 have r2 := ent_cell ER3 2 _ rfl
 refine bodyPost_ret (v := .agg #[.int .i64 (K : Int), .string ⟨#[]⟩, .slice none 0 0]) (by simp [results, Tryd.results40, go_sem, r0, r1, r2]) rfl ?_
 exact ⟨rfl, below_set3 HB2.out w.heap.size (Nat.le_refl _) _ _ _⟩
/-- What looks for a variable's number, for the maker. -/
theorem lookC_canon {Q : LKey → Prop} {l : List Nat} {L0 mb db b3 nb : Nat} (h1 : b3 < L0 ∧ nb < L0 ∧ mb < L0 ∧ db < L0) (h2 : b3 ≠ mb ∧ nb ≠ mb ∧ b3 ≠ db ∧ nb ≠ db) (hq : ∀ x, Q x → x.1 < L0 ∧ x.1 ≠ mb ∧ x.1 ≠ db) :
 LookC Q (fun n => .v (numOf l n)) L0 mb db (fun _ => False) 40 #[.pointer (some ⟨b3, 0, none⟩)] (fun w => CnS b3 nb l w) := by
 refine ⟨enters_of Tryd.func40 (by kernel_rfl) rfl, fun w n hI hL => ?_, fun w w' hI hc => ?_, fun b hb => hb.elim, fun x hx => ⟨(hq x hx).1, (hq x hx).2.1, (hq x hx).2.2, fun h => h⟩, by omega⟩
 · refine (canonLook_any b3 nb n l w hI).mono ?_
   rintro e w' ⟨rfl, hb⟩
   exact ⟨_, .v (numOf l n), rfl, rfl, tyQ_v.2 ⟨_, _, _, _, rfl⟩, hI.keep (hb.block _ hI.lt.1) (hb.block _ hI.lt.2), .of_below hb⟩
 · exact hI.keep (hc.block _ hI.lt.1 (by omega)) (hc.block _ hI.lt.2 (by omega))
theorem canon_num (t : Ux.Ty) : t.app (fun n => .v (numOf (Ux.varsT t) n)) = Ux.canon t := by
 unfold Ux.canon
 exact Ux.app_congr t fun n hn => by unfold numOf; rw [if_pos ((Ux.varsT_mem t n).2 hn)]
set_option maxHeartbeats 4000000 in
set_option maxRecDepth 100000 in
theorem canonP_any (t : Ux.Ty) (v : Value) (w : World) (ht : TyP w v t) (hsz : t.sz ≤ 10000000000) :
 Calls Tryd.prog 21 #[v] w (fun e w' => ∃ r, e = .returned r ∧ Below w.heap.size w w' ∧ TyP w' r (Ux.canon t)) := by
 obtain ⟨ti, ts, tq, tn, tc, rfl⟩ := tyP_sh ht
 obtain ⟨U, hu1, _, hu3⟩ := tyP_Q t _ ht
 have HT := Lib.hid ht
 have HTQ := Lib.hid hu1
 have HU := Lib.hid (show ∀ x, x ∈ U → x.1 < w.heap.size from fun x hx => by obtain ⟨cs, T, e⟩ := hu3 x hx; exact ent_lt e)
 have HSZ := Lib.hid hsz
 clear ht hu1 hu3 hsz
 have hmm := @run_makeMap Tryd.prog
 go_enter Tryd.func21, Tryd.ntmps21
 go_upto_region 2 with fail
 clear hmm
 have hz1 : (w.alloc (.cells #[.int .i64 ti, .string ts, .slice tq tn tc] 30)).heap.size = w.heap.size + 1 := by simp
 have hz2 : ((w.alloc (.cells #[.int .i64 ti, .string ts, .slice tq tn tc] 30)).alloc (.cells #[.int .i64 0, .string ⟨#[]⟩, .slice none 0 0] 30)).heap.size = w.heap.size + 1 + 1 := by simp
 have hz3 : (((w.alloc (.cells #[.int .i64 ti, .string ts, .slice tq tn tc] 30)).alloc (.cells #[.int .i64 0, .string ⟨#[]⟩, .slice none 0 0] 30)).alloc (.map #[] 0)).heap.size = w.heap.size + 1 + 1 + 1 := by simp
 have hz4 : ((((w.alloc (.cells #[.int .i64 ti, .string ts, .slice tq tn tc] 30)).alloc (.cells #[.int .i64 0, .string ⟨#[]⟩, .slice none 0 0] 30)).alloc (.map #[] 0)).alloc (.cells #[.map (some (w.heap.size + 1 + 1))] 80)).heap.size = w.heap.size + 1 + 1 + 1 + 1 := by simp
 have hb1 : Below w.heap.size w (w.alloc (.cells #[.int .i64 ti, .string ts, .slice tq tn tc] 30)) := (Below.refl _ _).alloc (Nat.le_refl _) _
 have hb2 : Below w.heap.size w ((w.alloc (.cells #[.int .i64 ti, .string ts, .slice tq tn tc] 30)).alloc (.cells #[.int .i64 0, .string ⟨#[]⟩, .slice none 0 0] 30)) := hb1.alloc (by rw [hz1]; omega) _
 have hb3 : Below w.heap.size w (((w.alloc (.cells #[.int .i64 ti, .string ts, .slice tq tn tc] 30)).alloc (.cells #[.int .i64 0, .string ⟨#[]⟩, .slice none 0 0] 30)).alloc (.map #[] 0)) := hb2.alloc (by rw [hz2]; omega) _
 have hb : Below w.heap.size w ((((w.alloc (.cells #[.int .i64 ti, .string ts, .slice tq tn tc] 30)).alloc (.cells #[.int .i64 0, .string ⟨#[]⟩, .slice none 0 0] 30)).alloc (.map #[] 0)).alloc (.cells #[.map (some (w.heap.size + 1 + 1))] 80)) := hb3.alloc (by rw [hz3]; omega) _
 have e1 := ent_alloc (ent_alloc (ent_alloc (ent_new w #[.int .i64 ti, .string ts, .slice tq tn tc] 30) (.cells #[.int .i64 0, .string ⟨#[]⟩, .slice none 0 0] 30)) (.map #[] 0)) (.cells #[.map (some (w.heap.size + 1 + 1))] 80)
 have e2 := ent_alloc (ent_alloc (ent_new (w.alloc (.cells #[.int .i64 ti, .string ts, .slice tq tn tc] 30)) #[.int .i64 0, .string ⟨#[]⟩, .slice none 0 0] 30) (.map #[] 0)) (.cells #[.map (some (w.heap.size + 1 + 1))] 80)
 rw [hz1] at e2
 have e3 := (MapK.made (enc := encInt) (V := fun _ _ => True) ((w.alloc (.cells #[.int .i64 ti, .string ts, .slice tq tn tc] 30)).alloc (.cells #[.int .i64 0, .string ⟨#[]⟩, .slice none 0 0] 30))).keep (w' := ((((w.alloc (.cells #[.int .i64 ti, .string ts, .slice tq tn tc] 30)).alloc (.cells #[.int .i64 0, .string ⟨#[]⟩, .slice none 0 0] 30)).alloc (.map #[] 0)).alloc (.cells #[.map (some (w.heap.size + 1 + 1))] 80))) (Below.heap_alloc (((w.alloc (.cells #[.int .i64 ti, .string ts, .slice tq tn tc] 30)).alloc (.cells #[.int .i64 0, .string ⟨#[]⟩, .slice none 0 0] 30)).alloc (.map #[] 0)) _ _ (by rw [hz3, hz2]; omega)) fun _ _ => trivial
 rw [hz2] at e3
 have e4 := ent_new (((w.alloc (.cells #[.int .i64 ti, .string ts, .slice tq tn tc] 30)).alloc (.cells #[.int .i64 0, .string ⟨#[]⟩, .slice none 0 0] 30)).alloc (.map #[] 0)) #[.map (some (w.heap.size + 1 + 1))] 80
 rw [hz3] at e4
 have ET := Lib.hid e1; have ER := Lib.hid e2; have E3 := Lib.hid e4; have HMK := Lib.hid e3
 have HB := Lib.hid hb; have HZ := Lib.hid hz4
 clear hz1 hz2 hz3 hz4 hb1 hb2 hb3 hb e1 e2 e3 e4
 generalize ((((w.alloc (.cells #[.int .i64 ti, .string ts, .slice tq tn tc] 30)).alloc (.cells #[.int .i64 0, .string ⟨#[]⟩, .slice none 0 0] 30)).alloc (.map #[] 0)).alloc (.cells #[.map (some (w.heap.size + 1 + 1))] 80)) = w1 at ET ER E3 HMK HB HZ ⊢
 obtain ⟨b2, hb2⟩ : ∃ b, b = w.heap.size + 1 := ⟨_, rfl⟩
 obtain ⟨nb, hnb⟩ : ∃ b, b = w.heap.size + 1 + 1 := ⟨_, rfl⟩
 obtain ⟨b3, hb3⟩ : ∃ b, b = w.heap.size + 1 + 1 + 1 := ⟨_, rfl⟩
 rw [← hb3] at E3 ⊢
 rw [← hnb] at E3 HMK ⊢
 rw [← hb2] at ER ⊢
 have HBS := Lib.hid (show b2 = w.heap.size + 1 ∧ nb = w.heap.size + 2 ∧ b3 = w.heap.size + 3 ∧ w1.heap.size = w.heap.size + 4 by have := HZ.out; omega)
 clear hb2 hnb hb3 HZ
 have t0 := ent_cell ET.out 0 _ rfl
 have t1 := ent_cell ET.out 1 _ rfl
 have t2 := ent_cell ET.out 2 _ rfl
 go_wp2_with fail
 refine (vars_any t _ w1 (tyP_below HT.out HB.out) HSZ.out).mono ?_
 rintro e w2 ⟨rv, rfl, hbv, hnew⟩
 obtain ⟨lp, lc, rfl⟩ := hnew.now.len
 obtain ⟨l, hl⟩ : ∃ l, l = Ux.varsT t := ⟨_, rfl⟩
 rw [← hl] at hnew ⊢
 have HL := Lib.hid hl
 have hll : l.length ≤ 10000000000 := by
  have h1 := firsts_len t.vs []
  have h2 := vs_len t
  have h3 := HSZ.out
  rw [hl]; unfold Ux.varsT; simp at h1; omega
 obtain ⟨n0, hn0⟩ : ∃ n0, n0 = l.length := ⟨_, rfl⟩
 rw [← hn0] at hnew hll ⊢
 have HN0 := Lib.hid hn0
 have HNL := Lib.hid (show ∀ u : World, (∀ b, w1.heap.size ≤ b → b < w2.heap.size → u.heap[b]? = w2.heap[b]?) → NumsR u (.slice lp n0 lc) l from hnew)
 have HB2 := Lib.hid (HB.out.trans (hbv.mono HB.out.size))
 have HS2 := Lib.hid hbv.size
 have ET2 := Lib.hid (ent_below ET.out hbv); have ER2 := Lib.hid (ent_below ER.out hbv); have E32 := Lib.hid (ent_below E3.out hbv)
 have HM2 : Hid (∃ Lm, MapK encInt (fun _ _ => True) w2 nb Lm ∧ ∀ n : Nat, lookL (n : Int) Lm = if n ∈ l.take 0 then some (.int .i64 (l.idxOf n : Nat)) else none) := Lib.hid ⟨[], HMK.out.keep (hbv.block _ HMK.out.lt) (fun _ _ => trivial), fun n => by simp [lookL_nil]⟩
 clear hbv hnew hl hn0 ET ER E3 HMK t0 t1 t2
 go_wp2_with fail
 go_loopw [10] (fun i wr => ∃ j : Nat, i = .int .i64 j ∧ j ≤ n0 ∧ Hid (Chg (· = nb) w2 wr) ∧ Hid (∃ Lm, MapK encInt (fun _ _ => True) wr nb Lm ∧ ∀ n : Nat, lookL (n : Int) Lm = if n ∈ l.take j then some (.int .i64 (l.idxOf n : Nat)) else none)) (fun i _ => n0 - (intOf i).toNat)
 case atStart => exact ⟨0, rfl, Nat.zero_le _, Lib.hid (.refl _ _), HM2⟩
 case round =>
  clear HM2
  obtain ⟨j, rfl, hj, HC, HM⟩ := hrel
  have hs2 := HC.out.size
  by_cases hlt : j < n0
  · obtain ⟨x, hx⟩ : ∃ x, l[j]? = some x := ⟨_, List.getElem?_eq_getElem (by have := HN0.out; omega)⟩
    have hnr := HNL.out wr fun b h1 h2 => HC.out.block b h2 (by have := HBS.out; omega)
    obtain ⟨g, of, lc', hlv, hlc, hlc2⟩ := nums_some hnr (by intro e; rw [e] at hx; cases hx)
    injection hlv with e1 ex e2
    clear ex
    subst e1; subst e2
    rw [← HN0.out] at hlc
    have x0 := nums_cell hnr hx
    have HX := Lib.hid hx
    have HIX : Hid (l.idxOf x = j) := Lib.hid (by
     have h := Ux.idxOf_get (l := l) (by rw [HL.out]; exact Ux.varsT_nodup t) (k := j) (by have := HN0.out; omega)
     rwa [List.getD_eq_getElem?_getD, hx] at h)
    have hj1 : (j : Int) < (n0 : Int) := by omega
    have hj2 : (n0 : Int) ≤ (lc : Int) := by omega
    have hj3 : (j : Int) ≤ 10000000000 := by omega
    have c3 := ent_cell (ent_chg E32.out HC.out (by have := HBS.out; omega)) 0 _ rfl
    obtain ⟨Lm, hmk, hlk⟩ := HM.out
    obtain ⟨w3, hup, hmk3, hgr3⟩ := hmk.update lawI Tryd.underlying80 (x : Int) trivial (.int .i64 (j : Int)) (fun _ _ _ _ _ => trivial)
    replace hup : (Instr.mapUpdate 80 (.map (some nb)) (.int .i64 (x : Int)) (.int .i64 (j : Int))).run Tryd.prog wr = .ok () w3 := hup
    have HC3 := Lib.hid (HC.out.trans (show Chg (· = nb) wr w3 from Chg.grown hgr3 fun k hk => (Option.some.inj hk).symm))
    have HM3 : Hid (∃ Lm, MapK encInt (fun _ _ => True) w3 nb Lm ∧ ∀ n : Nat, lookL (n : Int) Lm = if n ∈ l.take (j + 1) then some (.int .i64 (l.idxOf n : Nat)) else none) := Lib.hid ⟨_, hmk3, fun n => by
     rw [lookL_set, List.take_add_one, HX.out]
     by_cases e : n = x
     · rw [if_pos (by omega), if_pos (by simp [e]), e, HIX.out]
     · rw [if_neg (by omega), hlk n]
       by_cases h : n ∈ l.take j
       · rw [if_pos h, if_pos (List.mem_append.2 (.inl h))]
       · rw [if_neg h, if_neg (fun h2 => (List.mem_append.1 h2).elim h fun h3 => e (by simpa using h3))]⟩
    clear hmk hlk hmk3 hgr3 hnr hx
    go_wp2_with fail
    clear hup x0 c3
    go_roundw
    case rel => exact ⟨j + 1, by go_num, by omega, HC3, HM3⟩
    case measure => simp [intOf]; omega
  · obtain rfl : j = n0 := by omega
    have HCN : Hid (CnS b3 nb l wr) := Lib.hid ⟨ent_chg E32.out HC.out (by have := HBS.out; omega), by
     obtain ⟨Lm, h1, h2⟩ := HM.out
     exact ⟨Lm, h1, fun n => by rw [h2 n, HN0.out, List.take_length]⟩⟩
    have HBr := Lib.hid (HB2.out.trans (HC.out.below HB2.out.size fun k hk => by have := HBS.out; omega))
    have ETr := Lib.hid (ent_chg ET2.out HC.out (by have := HBS.out; omega)); have ERr := Lib.hid (ent_chg ER2.out HC.out (by have := HBS.out; omega))
    have HSr := Lib.hid (show w.heap.size + 4 ≤ wr.heap.size by have := HBS.out; have := HS2.out; omega)
    clear HC HM hs2 hlt hj HNL
    go_upto_region 7 with fail
    refine wp_region_held_drew (S := fun (u : World) => Chg (· = b2) wr.drew u) (by kernel_rfl) (Chg.refl _ _) (fun hHeld => ?_)
    have ETD := Lib.hid (show wr.drew.heap[w.heap.size]? = some (.cells #[.int .i64 ti, .string ts, .slice tq tn tc] 30 (0, 0)) from ETr.out)
    have ERD := Lib.hid (show wr.drew.heap[b2]? = some (.cells #[.int .i64 0, .string ⟨#[]⟩, .slice none 0 0] 30 (0, 0)) from ERr.out)
    have HCD : Hid (CnS b3 nb l wr.drew) := Lib.hid HCN.out
    have HBD := Lib.hid (show Below w.heap.size w wr.drew from HBr.out.drew)
    have HSD := Lib.hid (show w.heap.size + 4 ≤ wr.drew.heap.size from HSr.out)
    generalize wr.drew = wd at ETD ERD HCD HBD HSD hHeld ⊢
    refine wpAnyH_take (i := 0) (v := .func (.func 40) #[] #[.pointer (some ⟨b3, 0, none⟩)]) rfl (by kernel_rfl) (by kernel_rfl) (by kernel_rfl) (fun _ _ _ h => h) (Or.inl ⟨by rfl, fun w' hSw => by go_simp⟩) hHeld ?_
    refine wpAnyH_take (i := 2) (v := .agg #[.int .i64 ti, .string ts, .slice tq tn tc]) rfl (by kernel_rfl) (by kernel_rfl) (by kernel_rfl) (fun _ _ _ h => h) (Or.inl ⟨by rfl, fun w' hSw => by have h := ent_chg ETD.out hSw (by have := HBS.out; omega); have t0 := ent_cell h 0 _ rfl; have t1 := ent_cell h 1 _ rfl; have t2 := ent_cell h 2 _ rfl; go_simp⟩) hHeld ?_
    try simp only [Act.put, List.getElem_toArray, List.getElem_cons_succ, List.getElem_cons_zero, List.setIfInBounds_toArray, List.set_cons_zero, List.set_cons_succ]
    refine wpAnyH_ready (rs := [1]) (by kernel_rfl) (by simp) ?_
    refine AllReadyH.cons rfl (fun K hK => ?_) AllReadyH.nil
    go_simp
    refine (newMaker_any (· ∈ U) (fun n => .v (numOf l n)) _ _ wd).mono ?_
    rintro e wB ⟨mb, db, rfl, hbB, hmb, hdb, hmk⟩
    have HBB := Lib.hid hbB
    have HMK := Lib.hid hmk
    clear hbB hmk
    refine hK.out _ _ (.of_below HBB.out) (fun hHeld => ?_)
    clear hK K
    refine wpAnyH_ready (rs := [3]) (by kernel_rfl) (by simp) ?_
    refine AllReadyH.cons rfl (fun K hK => ?_) AllReadyH.nil
    go_simp
    have hmd : mb < wB.heap.size ∧ db < wB.heap.size := ⟨ent_lt HMK.out.cell, by obtain ⟨L, h4, _⟩ := HMK.out.made; exact h4.lt⟩
    have hsB := HBB.out.size
    have hclt := HCD.out.lt
    have hbs := HBS.out
    have hsd := HSD.out
    refine (mkTyp_any (· ∈ U) (fun n => .v (numOf l n)) mb db (fun _ => False) _ _ (fun u => CnS b3 nb l u) (fun _ => none) 0 t _ wB (lookC_canon (by omega) (by omega) (fun x hx => by have := HU.out x hx; omega)) (HCD.out.keep (HBB.out.block _ hclt.1) (HBB.out.block _ hclt.2)) HMK.out (fun B ys h => by cases h) (fun B ys h => by cases h) (tyQ_keep HTQ.out fun x hx => (HBB.out.block _ (by have := HU.out x hx; omega)).trans (HBD.out.block _ (HU.out x hx))) (by rw [show (t.app fun n => .v (numOf l n)).sz = t.sz from Ux.sz_ren _ t]; have := HSZ.out; omega)).mono ?_
    rintro e wC ⟨r, c, n', rfl, hright, hmw, hmm, _⟩
    have htq := right_ty (fun B ys h => by have := hmm B ys h; rw [posOf_nil] at this; exact this) _ _ hright
    have htq2 := tyQ_more (Q' := fun x : LKey => wB.heap.size ≤ x.1 ∧ x.1 < wC.heap.size) htq (w' := wC) fun x hx => ⟨by
     obtain ⟨ys, hys⟩ := hx
     have h1 := hmw.new x.1 (by rw [hys]; simp) rfl
     obtain ⟨cs, e, _⟩ := (hmm _ _ hys).ex
     exact ⟨by omega, ent_lt e⟩, rfl⟩
    have hty : TyP wC r (t.app fun n => .v (numOf l n)) := tyQ_P _ _ htq2
    have hbC : Below wd.heap.size wd wC := HBB.out.trans (hmw.chg.below (by omega) (fun k hk => by rcases hk with hk | hk | hk | hk <;> omega))
    obtain ⟨z0, z1, zq, zm, zc, rfl⟩ := tyP_sh hty
    have HTYQ := Lib.hid htq2
    have HBC := Lib.hid hbC
    have HSB := Lib.hid (show wd.heap.size ≤ wB.heap.size from hsB)
    clear hty htq htq2 hbC hright hmw hmm hmd hsB hclt hbs hsd
    refine hK.out _ _ (.of_below HBC.out) (fun hHeld => ?_)
    clear hK K
    refine wpAnyH_ready (rs := [4]) (by kernel_rfl) (by simp) ?_
    refine AllReadyH.cons rfl (fun K hK => ?_) AllReadyH.nil
    have ERC := ent_below ERD.out HBC.out
    have r0 := ent_cell ERC 0 _ rfl
    have r1 := ent_cell ERC 1 _ rfl
    have r2 := ent_cell ERC 2 _ rfl
    have rf := ent_free ERC
    go_simp
    refine hK.out _ _ ((Chg.of_below HBC.out).trans (chg_set3 wC b2 _ _ _)) (fun hHeld => ?_)
    have HER := Lib.hid (ent_set3 ERC (.int .i64 z0) (.string z1) (.slice zq zm zc))
    clear r0 r1 r2 rf ERC
    clear hK K
    refine wpAnyH_done (by kernel_rfl) ?_ _
    have HK8 : Hid (∀ b, b ≠ b2 → (((wC.setCell ⟨b2, 0, none⟩ (.int .i64 z0)).setCell ⟨b2, 1, none⟩ (.string z1)).setCell ⟨b2, 2, none⟩ (.slice zq zm zc)).heap[b]? = wC.heap[b]?) :=
     Lib.hid (fun b hb => ((Below.heap_setCell _ ⟨b2, 2, none⟩ _ b hb).trans (Below.heap_setCell _ ⟨b2, 1, none⟩ _ b hb)).trans (Below.heap_setCell _ ⟨b2, 0, none⟩ _ b hb))
    have HB8 := Lib.hid (below_set3 (HBD.out.trans (HBC.out.mono HBD.out.size)) b2 (by have := HBS.out; omega) (.int .i64 z0) (.string z1) (.slice zq zm zc))
    generalize ((wC.setCell ⟨b2, 0, none⟩ (.int .i64 z0)).setCell ⟨b2, 1, none⟩ (.string z1)).setCell ⟨b2, 2, none⟩ (.slice zq zm zc) = w8 at HER HK8 HB8 ⊢
    have r0 := ent_cell HER.out 0 _ rfl
    have r1 := ent_cell HER.out 1 _ rfl
    have r2 := ent_cell HER.out 2 _ rfl
    go_wp2_with fail
    refine bodyPost_ret (v := .agg #[.int .i64 z0, .string z1, .slice zq zm zc]) (by simp [results, Tryd.results21, go_sem, r0, r1, r2]) rfl ?_
    refine ⟨_, rfl, HB8.out, ?_⟩
    have hcn := canon_num t
    rw [← HL.out] at hcn
    rw [← hcn]
    exact tyQ_P _ _ (tyQ_keep HTYQ.out fun x hx => HK8.out x.1 (by have := HBS.out; have := HSB.out; have := HSD.out; omega))
end Go.Proofs.YtcblppojnailpaaDoor
