/-
  The document's answers, layer 2: patterns that are tokens.
-/
import Derived.Test.YtgoacbomphlhjaaP00
import Derived.Test.YtgoacbomphlhjaaP08
import Derived.Deep.DeepCutAuto
import Derived.BigRegion
set_option linter.unusedVariables false
set_option linter.unusedSimpArgs false
namespace Go.Proofs.Ytgoacbomphlhjaa
open Go.Lib (hid)
open List renaming getElem_toArray → jX, getElem_cons_succ → jY, getElem_cons_zero → jZ, setIfInBounds_toArray → JA, set_cons_zero → JB, set_cons_succ → JC
open Go Go.RowKit
set_option maxHeartbeats 4000000 in
set_option maxRecDepth 100000 in
theorem pat_wild (f : Nat) (n : Px.Node) (lv : Value) (w : World) (hg : Px.NodeGood n) (hl : Px.jS n = false) (hk : n.tok.kind = 5) (ht : n.tok.text = [95]) : Calls Try.prog 73 #[nV n lv] w (RTold w (PatAt (f + 1)) ShPat (Px.pat (f + 1) n)) := by
 have hp := (pat_leaf_pure f n hg hl).1 hk ht
 have HT5 := hid (fun w => tok_is n lv 5 true w (by rw [hl]; simp [hk]))
 have HNAME := hid (fun w => name_any n lv w hg)
 have HP := hid hp
 unfold nV at *
 rw [hl] at *
 clear hl hp
 clear hk
 rw [ht] at *
 clear ht
 go_enter Try.func73, Try.ntmps73
 obtain ⟨en, er, et, hb, hsz⟩ := ent3 w #[.int .i64 n.tok.kind, .int .i64 n.tok.pos, .string ⟨[95].toArray⟩, .int .i64 n.tok.int, .bool false, lv] #[.int .i64 0, .int .i64 0, .string ⟨#[]⟩, .int .i64 0, .slice none 0 0] #[.int .i64 0, .int .i64 n.tok.pos, .string ⟨#[]⟩, .int .i64 0, .slice none 0 0] 73 94 94
 have EN := hid en; have ER := hid er; have ET := hid et; have HB := hid hb
 replace hsz := Nat.le_of_eq hsz.symm
 clear en er et hb
 go_wp2_with fail
 refine (HT5.out _).mono ?_
 rintro e w5 ⟨rfl, hb⟩
 replace hsz := Nat.le_trans hsz hb.size
 replace EN := hid (jC EN.out hb)
 replace ER := hid (jC ER.out hb)
 replace ET := hid (jC ET.out hb)
 replace HB := hid (HB.out.trans (hb.mono HB.out.size))
 clear hb
 have enc0 := jA EN.out 0 _ rfl
 have enc1 := jA EN.out 1 _ rfl
 have enc2 := jA EN.out 2 _ rfl
 have enc3 := jA EN.out 3 _ rfl
 have enc4 := jA EN.out 4 _ rfl
 have enc5 := jA EN.out 5 _ rfl
 have enf := jD EN.out
 have erc0 := jA ER.out 0 _ rfl
 have erc1 := jA ER.out 1 _ rfl
 have erc2 := jA ER.out 2 _ rfl
 have erc3 := jA ER.out 3 _ rfl
 have erc4 := jA ER.out 4 _ rfl
 have erf := jD ER.out
 have etc0 := jA ET.out 0 _ rfl
 have etc1 := jA ET.out 1 _ rfl
 have etc2 := jA ET.out 2 _ rfl
 have etc3 := jA ET.out 3 _ rfl
 have etc4 := jA ET.out 4 _ rfl
 have etf := jD ET.out
 go_wp2_with fail
 replace EN := hid (jB (jB (jB (jB (jB (EN.out) (w.heap.size + 1) 0 (.int .i64 0) (by omega)) (w.heap.size + 1) 1 (.int .i64 n.tok.pos) (by omega)) (w.heap.size + 1) 2 (.string ⟨#[]⟩) (by omega)) (w.heap.size + 1) 3 (.int .i64 0) (by omega)) (w.heap.size + 1) 4 (.slice none 0 0) (by omega))
 replace ER := hid (ent_set5 (ER.out) (.int .i64 0) (.int .i64 n.tok.pos) (.string ⟨#[]⟩) (.int .i64 0) (.slice none 0 0))
 replace ET := hid (jB (jB (jB (jB (jB (ET.out) (w.heap.size + 1) 0 (.int .i64 0) (by omega)) (w.heap.size + 1) 1 (.int .i64 n.tok.pos) (by omega)) (w.heap.size + 1) 2 (.string ⟨#[]⟩) (by omega)) (w.heap.size + 1) 3 (.int .i64 0) (by omega)) (w.heap.size + 1) 4 (.slice none 0 0) (by omega))
 replace HB := hid (Below.setCell (Below.setCell (Below.setCell (Below.setCell (Below.setCell (HB.out) (p := ⟨w.heap.size + 1, 0, none⟩) (by dsimp only; omega) (.int .i64 0)) (p := ⟨w.heap.size + 1, 1, none⟩) (by dsimp only; omega) (.int .i64 n.tok.pos)) (p := ⟨w.heap.size + 1, 2, none⟩) (by dsimp only; omega) (.string ⟨#[]⟩)) (p := ⟨w.heap.size + 1, 3, none⟩) (by dsimp only; omega) (.int .i64 0)) (p := ⟨w.heap.size + 1, 4, none⟩) (by dsimp only; omega) (.slice none 0 0))
 have r0 := jA ER.out 0 _ rfl
 have r1 := jA ER.out 1 _ rfl
 have r2 := jA ER.out 2 _ rfl
 have r3 := jA ER.out 3 _ rfl
 have r4 := jA ER.out 4 _ rfl
 refine bodyPost_ret (v := .tuple #[.agg #[.int .i64 0, .int .i64 n.tok.pos, .string ⟨#[]⟩, .int .i64 0, .slice none 0 0], .int .i64 (-1)]) (by simp [results, Try.results73, go_sem, r0, r1, r2, r3, r4]) rfl ?_
 exact jO (x := Px.Pat.mk 0 n.pos [] 0 []) HP.out HB.out ⟨_, _, _, _, _, _, _, rfl⟩ (fun u hu => ⟨_, rfl, .inl ⟨rfl, none, 0, rfl⟩⟩)
set_option maxHeartbeats 4000000 in
set_option maxRecDepth 100000 in
theorem pat_int (f : Nat) (n : Px.Node) (lv : Value) (w : World) (hg : Px.NodeGood n) (hl : Px.jS n = false) (hk : n.tok.kind = 2) : Calls Try.prog 73 #[nV n lv] w (RTold w (PatAt (f + 1)) ShPat (Px.pat (f + 1) n)) := by
 have hp := (pat_leaf_pure f n hg hl).2.1 hk
 have HT5 := hid (fun w => tok_is n lv 5 false w (by rw [hl]; simp [hk]))
 have HT2 := hid (fun w => tok_is n lv 2 true w (by rw [hl]; simp [hk]))
 have HNAME := hid (fun w => name_any n lv w hg)
 have HP := hid hp
 unfold nV at *
 rw [hl] at *
 clear hl hp
 clear hk
 go_enter Try.func73, Try.ntmps73
 obtain ⟨en, er, et, hb, hsz⟩ := ent3 w #[.int .i64 n.tok.kind, .int .i64 n.tok.pos, .string ⟨n.tok.text.toArray⟩, .int .i64 n.tok.int, .bool false, lv] #[.int .i64 0, .int .i64 0, .string ⟨#[]⟩, .int .i64 0, .slice none 0 0] #[.int .i64 0, .int .i64 n.tok.pos, .string ⟨#[]⟩, .int .i64 0, .slice none 0 0] 73 94 94
 have EN := hid en; have ER := hid er; have ET := hid et; have HB := hid hb
 replace hsz := Nat.le_of_eq hsz.symm
 clear en er et hb
 go_wp2_with fail
 refine (HT5.out _).mono ?_
 rintro e w5 ⟨rfl, hb⟩
 replace hsz := Nat.le_trans hsz hb.size
 replace EN := hid (jC EN.out hb)
 replace ER := hid (jC ER.out hb)
 replace ET := hid (jC ET.out hb)
 replace HB := hid (HB.out.trans (hb.mono HB.out.size))
 clear hb
 have enc0 := jA EN.out 0 _ rfl
 have enc1 := jA EN.out 1 _ rfl
 have enc2 := jA EN.out 2 _ rfl
 have enc3 := jA EN.out 3 _ rfl
 have enc4 := jA EN.out 4 _ rfl
 have enc5 := jA EN.out 5 _ rfl
 have enf := jD EN.out
 go_wp2_with fail
 clear enc0 enc1 enc2 enc3 enc4 enc5 enf
 refine (HT2.out _).mono ?_
 rintro e w2 ⟨rfl, hb⟩
 replace hsz := Nat.le_trans hsz hb.size
 replace EN := hid (jC EN.out hb)
 replace ER := hid (jC ER.out hb)
 replace ET := hid (jC ET.out hb)
 replace HB := hid (HB.out.trans (hb.mono HB.out.size))
 clear hb
 have enc0 := jA EN.out 0 _ rfl
 have enc1 := jA EN.out 1 _ rfl
 have enc2 := jA EN.out 2 _ rfl
 have enc3 := jA EN.out 3 _ rfl
 have enc4 := jA EN.out 4 _ rfl
 have enc5 := jA EN.out 5 _ rfl
 have enf := jD EN.out
 have etc0 := jA ET.out 0 _ rfl
 have etc1 := jA ET.out 1 _ rfl
 have etc2 := jA ET.out 2 _ rfl
 have etc3 := jA ET.out 3 _ rfl
 have etc4 := jA ET.out 4 _ rfl
 have etf := jD ET.out
 go_upto_region 6 with fail
 go_cut [4] (fun s wx => s = .pointer (some ⟨w.heap.size + 2, 0, none⟩) ∧ wx = ((w2.setCell ⟨w.heap.size + 2, 0, none⟩ (.int .i64 2)).setCell ⟨w.heap.size + 2, 3, none⟩ (.int .i64 n.tok.int)).drew)
 case first =>
  go_region
  all_goals (try go_wp2_with fail)
  all_goals (go_meet; exact ⟨rfl, rfl⟩)
 case rest =>
 obtain ⟨rfl, rfl⟩ := hcut
 clear enc0 enc1 enc2 enc3 enc4 enc5 enf etc0 etc1 etc2 etc3 etc4 etf
 replace EN := hid (jB (jB (EN.out) (w.heap.size + 2) 0 (.int .i64 2) (by omega)) (w.heap.size + 2) 3 (.int .i64 n.tok.int) (by omega))
 replace ER := hid (jB (jB (ER.out) (w.heap.size + 2) 0 (.int .i64 2) (by omega)) (w.heap.size + 2) 3 (.int .i64 n.tok.int) (by omega))
 replace ET := hid (jG #[.int .i64 2, .int .i64 n.tok.pos, .string ⟨#[]⟩, .int .i64 n.tok.int, .slice none 0 0] (jG #[.int .i64 2, .int .i64 n.tok.pos, .string ⟨#[]⟩, .int .i64 0, .slice none 0 0] (ET.out) 0 (.int .i64 2) rfl) 3 (.int .i64 n.tok.int) rfl)
 replace HB := hid (Below.setCell (Below.setCell (HB.out) (p := ⟨w.heap.size + 2, 0, none⟩) (by dsimp only; omega) (.int .i64 2)) (p := ⟨w.heap.size + 2, 3, none⟩) (by dsimp only; omega) (.int .i64 n.tok.int))
 replace EN := ent_drew EN
 replace ER := ent_drew ER
 replace ET := ent_drew ET
 replace HB := hid (HB.out.drew)
 replace hsz : w.heap.size + 3 ≤ (((w2.setCell ⟨w.heap.size + 2, 0, none⟩ (.int .i64 2)).setCell ⟨w.heap.size + 2, 3, none⟩ (.int .i64 n.tok.int)).drew).heap.size := by simpa using hsz
 generalize (((w2.setCell ⟨w.heap.size + 2, 0, none⟩ (.int .i64 2)).setCell ⟨w.heap.size + 2, 3, none⟩ (.int .i64 n.tok.int)).drew) = wq at *
 have erc0 := jA ER.out 0 _ rfl
 have erc1 := jA ER.out 1 _ rfl
 have erc2 := jA ER.out 2 _ rfl
 have erc3 := jA ER.out 3 _ rfl
 have erc4 := jA ER.out 4 _ rfl
 have erf := jD ER.out
 have etc0 := jA ET.out 0 _ rfl
 have etc1 := jA ET.out 1 _ rfl
 have etc2 := jA ET.out 2 _ rfl
 have etc3 := jA ET.out 3 _ rfl
 have etc4 := jA ET.out 4 _ rfl
 have etf := jD ET.out
 go_wp2_with fail
 replace EN := hid (jB (jB (jB (jB (jB (EN.out) (w.heap.size + 1) 0 (.int .i64 2) (by omega)) (w.heap.size + 1) 1 (.int .i64 n.tok.pos) (by omega)) (w.heap.size + 1) 2 (.string ⟨#[]⟩) (by omega)) (w.heap.size + 1) 3 (.int .i64 n.tok.int) (by omega)) (w.heap.size + 1) 4 (.slice none 0 0) (by omega))
 replace ER := hid (ent_set5 (ER.out) (.int .i64 2) (.int .i64 n.tok.pos) (.string ⟨#[]⟩) (.int .i64 n.tok.int) (.slice none 0 0))
 replace ET := hid (jB (jB (jB (jB (jB (ET.out) (w.heap.size + 1) 0 (.int .i64 2) (by omega)) (w.heap.size + 1) 1 (.int .i64 n.tok.pos) (by omega)) (w.heap.size + 1) 2 (.string ⟨#[]⟩) (by omega)) (w.heap.size + 1) 3 (.int .i64 n.tok.int) (by omega)) (w.heap.size + 1) 4 (.slice none 0 0) (by omega))
 replace HB := hid (Below.setCell (Below.setCell (Below.setCell (Below.setCell (Below.setCell (HB.out) (p := ⟨w.heap.size + 1, 0, none⟩) (by dsimp only; omega) (.int .i64 2)) (p := ⟨w.heap.size + 1, 1, none⟩) (by dsimp only; omega) (.int .i64 n.tok.pos)) (p := ⟨w.heap.size + 1, 2, none⟩) (by dsimp only; omega) (.string ⟨#[]⟩)) (p := ⟨w.heap.size + 1, 3, none⟩) (by dsimp only; omega) (.int .i64 n.tok.int)) (p := ⟨w.heap.size + 1, 4, none⟩) (by dsimp only; omega) (.slice none 0 0))
 have r0 := jA ER.out 0 _ rfl
 have r1 := jA ER.out 1 _ rfl
 have r2 := jA ER.out 2 _ rfl
 have r3 := jA ER.out 3 _ rfl
 have r4 := jA ER.out 4 _ rfl
 refine bodyPost_ret (v := .tuple #[.agg #[.int .i64 2, .int .i64 n.tok.pos, .string ⟨#[]⟩, .int .i64 n.tok.int, .slice none 0 0], .int .i64 (-1)]) (by simp [results, Try.results73, go_sem, r0, r1, r2, r3, r4]) rfl ?_
 exact jO (x := Px.Pat.mk 2 n.pos [] n.tok.int []) HP.out HB.out ⟨_, _, _, _, _, _, _, rfl⟩ (fun u hu => ⟨_, rfl, .inl ⟨rfl, none, 0, rfl⟩⟩)
set_option maxHeartbeats 4000000 in
set_option maxRecDepth 100000 in
theorem pat_con (f : Nat) (n : Px.Node) (lv : Value) (w : World) (hg : Px.NodeGood n) (hl : Px.jS n = false) (hk : n.tok.kind = 4) : Calls Try.prog 73 #[nV n lv] w (RTold w (PatAt (f + 1)) ShPat (Px.pat (f + 1) n)) := by
 have hp := (pat_leaf_pure f n hg hl).2.2.1 hk
 have HT5 := hid (fun w => tok_is n lv 5 false w (by rw [hl]; simp [hk]))
 have HT2 := hid (fun w => tok_is n lv 2 false w (by rw [hl]; simp [hk]))
 have HT4 := hid (fun w => tok_is n lv 4 true w (by rw [hl]; simp [hk]))
 have HNAME := hid (fun w => name_any n lv w hg)
 have HP := hid hp
 unfold nV at *
 rw [hl] at *
 clear hl hp
 clear hk
 go_enter Try.func73, Try.ntmps73
 obtain ⟨en, er, et, hb, hsz⟩ := ent3 w #[.int .i64 n.tok.kind, .int .i64 n.tok.pos, .string ⟨n.tok.text.toArray⟩, .int .i64 n.tok.int, .bool false, lv] #[.int .i64 0, .int .i64 0, .string ⟨#[]⟩, .int .i64 0, .slice none 0 0] #[.int .i64 0, .int .i64 n.tok.pos, .string ⟨#[]⟩, .int .i64 0, .slice none 0 0] 73 94 94
 have EN := hid en; have ER := hid er; have ET := hid et; have HB := hid hb
 replace hsz := Nat.le_of_eq hsz.symm
 clear en er et hb
 go_wp2_with fail
 refine (HT5.out _).mono ?_
 rintro e w5 ⟨rfl, hb⟩
 replace hsz := Nat.le_trans hsz hb.size
 replace EN := hid (jC EN.out hb)
 replace ER := hid (jC ER.out hb)
 replace ET := hid (jC ET.out hb)
 replace HB := hid (HB.out.trans (hb.mono HB.out.size))
 clear hb
 have enc0 := jA EN.out 0 _ rfl
 have enc1 := jA EN.out 1 _ rfl
 have enc2 := jA EN.out 2 _ rfl
 have enc3 := jA EN.out 3 _ rfl
 have enc4 := jA EN.out 4 _ rfl
 have enc5 := jA EN.out 5 _ rfl
 have enf := jD EN.out
 go_wp2_with fail
 clear enc0 enc1 enc2 enc3 enc4 enc5 enf
 refine (HT2.out _).mono ?_
 rintro e w2 ⟨rfl, hb⟩
 replace hsz := Nat.le_trans hsz hb.size
 replace EN := hid (jC EN.out hb)
 replace ER := hid (jC ER.out hb)
 replace ET := hid (jC ET.out hb)
 replace HB := hid (HB.out.trans (hb.mono HB.out.size))
 clear hb
 have enc0 := jA EN.out 0 _ rfl
 have enc1 := jA EN.out 1 _ rfl
 have enc2 := jA EN.out 2 _ rfl
 have enc3 := jA EN.out 3 _ rfl
 have enc4 := jA EN.out 4 _ rfl
 have enc5 := jA EN.out 5 _ rfl
 have enf := jD EN.out
 go_wp2_with fail
 clear enc0 enc1 enc2 enc3 enc4 enc5 enf
 refine (HT4.out _).mono ?_
 rintro e w4 ⟨rfl, hb⟩
 replace hsz := Nat.le_trans hsz hb.size
 replace EN := hid (jC EN.out hb)
 replace ER := hid (jC ER.out hb)
 replace ET := hid (jC ET.out hb)
 replace HB := hid (HB.out.trans (hb.mono HB.out.size))
 clear hb
 have enc0 := jA EN.out 0 _ rfl
 have enc1 := jA EN.out 1 _ rfl
 have enc2 := jA EN.out 2 _ rfl
 have enc3 := jA EN.out 3 _ rfl
 have enc4 := jA EN.out 4 _ rfl
 have enc5 := jA EN.out 5 _ rfl
 have enf := jD EN.out
 have etc0 := jA ET.out 0 _ rfl
 have etc1 := jA ET.out 1 _ rfl
 have etc2 := jA ET.out 2 _ rfl
 have etc3 := jA ET.out 3 _ rfl
 have etc4 := jA ET.out 4 _ rfl
 have etf := jD ET.out
 go_upto_region 9 with fail
 go_cut [4] (fun s wx => s = .pointer (some ⟨w.heap.size + 2, 0, none⟩) ∧ wx = ((w4.setCell ⟨w.heap.size + 2, 0, none⟩ (.int .i64 3)).setCell ⟨w.heap.size + 2, 2, none⟩ (.string ⟨n.tok.text.toArray⟩)).drew)
 case first =>
  go_region
  all_goals (try go_wp2_with fail)
  all_goals (go_meet; exact ⟨rfl, rfl⟩)
 case rest =>
 obtain ⟨rfl, rfl⟩ := hcut
 clear enc0 enc1 enc2 enc3 enc4 enc5 enf etc0 etc1 etc2 etc3 etc4 etf
 replace EN := hid (jB (jB (EN.out) (w.heap.size + 2) 0 (.int .i64 3) (by omega)) (w.heap.size + 2) 2 (.string ⟨n.tok.text.toArray⟩) (by omega))
 replace ER := hid (jB (jB (ER.out) (w.heap.size + 2) 0 (.int .i64 3) (by omega)) (w.heap.size + 2) 2 (.string ⟨n.tok.text.toArray⟩) (by omega))
 replace ET := hid (jG #[.int .i64 3, .int .i64 n.tok.pos, .string ⟨n.tok.text.toArray⟩, .int .i64 0, .slice none 0 0] (jG #[.int .i64 3, .int .i64 n.tok.pos, .string ⟨#[]⟩, .int .i64 0, .slice none 0 0] (ET.out) 0 (.int .i64 3) rfl) 2 (.string ⟨n.tok.text.toArray⟩) rfl)
 replace HB := hid (Below.setCell (Below.setCell (HB.out) (p := ⟨w.heap.size + 2, 0, none⟩) (by dsimp only; omega) (.int .i64 3)) (p := ⟨w.heap.size + 2, 2, none⟩) (by dsimp only; omega) (.string ⟨n.tok.text.toArray⟩))
 replace EN := ent_drew EN
 replace ER := ent_drew ER
 replace ET := ent_drew ET
 replace HB := hid (HB.out.drew)
 replace hsz : w.heap.size + 3 ≤ (((w4.setCell ⟨w.heap.size + 2, 0, none⟩ (.int .i64 3)).setCell ⟨w.heap.size + 2, 2, none⟩ (.string ⟨n.tok.text.toArray⟩)).drew).heap.size := by simpa using hsz
 generalize (((w4.setCell ⟨w.heap.size + 2, 0, none⟩ (.int .i64 3)).setCell ⟨w.heap.size + 2, 2, none⟩ (.string ⟨n.tok.text.toArray⟩)).drew) = wq at *
 have erc0 := jA ER.out 0 _ rfl
 have erc1 := jA ER.out 1 _ rfl
 have erc2 := jA ER.out 2 _ rfl
 have erc3 := jA ER.out 3 _ rfl
 have erc4 := jA ER.out 4 _ rfl
 have erf := jD ER.out
 have etc0 := jA ET.out 0 _ rfl
 have etc1 := jA ET.out 1 _ rfl
 have etc2 := jA ET.out 2 _ rfl
 have etc3 := jA ET.out 3 _ rfl
 have etc4 := jA ET.out 4 _ rfl
 have etf := jD ET.out
 go_wp2_with fail
 replace EN := hid (jB (jB (jB (jB (jB (EN.out) (w.heap.size + 1) 0 (.int .i64 3) (by omega)) (w.heap.size + 1) 1 (.int .i64 n.tok.pos) (by omega)) (w.heap.size + 1) 2 (.string ⟨n.tok.text.toArray⟩) (by omega)) (w.heap.size + 1) 3 (.int .i64 0) (by omega)) (w.heap.size + 1) 4 (.slice none 0 0) (by omega))
 replace ER := hid (ent_set5 (ER.out) (.int .i64 3) (.int .i64 n.tok.pos) (.string ⟨n.tok.text.toArray⟩) (.int .i64 0) (.slice none 0 0))
 replace ET := hid (jB (jB (jB (jB (jB (ET.out) (w.heap.size + 1) 0 (.int .i64 3) (by omega)) (w.heap.size + 1) 1 (.int .i64 n.tok.pos) (by omega)) (w.heap.size + 1) 2 (.string ⟨n.tok.text.toArray⟩) (by omega)) (w.heap.size + 1) 3 (.int .i64 0) (by omega)) (w.heap.size + 1) 4 (.slice none 0 0) (by omega))
 replace HB := hid (Below.setCell (Below.setCell (Below.setCell (Below.setCell (Below.setCell (HB.out) (p := ⟨w.heap.size + 1, 0, none⟩) (by dsimp only; omega) (.int .i64 3)) (p := ⟨w.heap.size + 1, 1, none⟩) (by dsimp only; omega) (.int .i64 n.tok.pos)) (p := ⟨w.heap.size + 1, 2, none⟩) (by dsimp only; omega) (.string ⟨n.tok.text.toArray⟩)) (p := ⟨w.heap.size + 1, 3, none⟩) (by dsimp only; omega) (.int .i64 0)) (p := ⟨w.heap.size + 1, 4, none⟩) (by dsimp only; omega) (.slice none 0 0))
 have r0 := jA ER.out 0 _ rfl
 have r1 := jA ER.out 1 _ rfl
 have r2 := jA ER.out 2 _ rfl
 have r3 := jA ER.out 3 _ rfl
 have r4 := jA ER.out 4 _ rfl
 refine bodyPost_ret (v := .tuple #[.agg #[.int .i64 3, .int .i64 n.tok.pos, .string ⟨n.tok.text.toArray⟩, .int .i64 0, .slice none 0 0], .int .i64 (-1)]) (by simp [results, Try.results73, go_sem, r0, r1, r2, r3, r4]) rfl ?_
 exact jO (x := Px.Pat.mk 3 n.pos n.text 0 []) HP.out HB.out ⟨_, _, _, _, _, _, _, rfl⟩ (fun u hu => ⟨_, rfl, .inl ⟨rfl, none, 0, rfl⟩⟩)
set_option maxHeartbeats 4000000 in
set_option maxRecDepth 100000 in
theorem pat_name (f : Nat) (n : Px.Node) (lv : Value) (w : World) (hg : Px.NodeGood n) (hl : Px.jS n = false) (h5 : n.tok.kind ≠ 5) (h2 : n.tok.kind ≠ 2) (h4 : n.tok.kind ≠ 4) : Calls Try.prog 73 #[nV n lv] w (RTold w (PatAt (f + 1)) ShPat (Px.pat (f + 1) n)) := by
 have hp := (pat_leaf_pure f n hg hl).2.2.2 (fun h => h5 h.1) h2 h4
 have HT5 := hid (fun w => tok_is n lv 5 false w (by rw [hl]; simp [h5, h2, h4]))
 have HT2 := hid (fun w => tok_is n lv 2 false w (by rw [hl]; simp [h5, h2, h4]))
 have HT4 := hid (fun w => tok_is n lv 4 false w (by rw [hl]; simp [h5, h2, h4]))
 have HNAME := hid (fun w => name_any n lv w hg)
 have HP := hid hp
 unfold nV at *
 rw [hl] at *
 clear hl hp
 clear h5 h2 h4
 go_enter Try.func73, Try.ntmps73
 obtain ⟨en, er, et, hb, hsz⟩ := ent3 w #[.int .i64 n.tok.kind, .int .i64 n.tok.pos, .string ⟨n.tok.text.toArray⟩, .int .i64 n.tok.int, .bool false, lv] #[.int .i64 0, .int .i64 0, .string ⟨#[]⟩, .int .i64 0, .slice none 0 0] #[.int .i64 0, .int .i64 n.tok.pos, .string ⟨#[]⟩, .int .i64 0, .slice none 0 0] 73 94 94
 have EN := hid en; have ER := hid er; have ET := hid et; have HB := hid hb
 replace hsz := Nat.le_of_eq hsz.symm
 clear en er et hb
 go_wp2_with fail
 refine (HT5.out _).mono ?_
 rintro e w5 ⟨rfl, hb⟩
 replace hsz := Nat.le_trans hsz hb.size
 replace EN := hid (jC EN.out hb)
 replace ER := hid (jC ER.out hb)
 replace ET := hid (jC ET.out hb)
 replace HB := hid (HB.out.trans (hb.mono HB.out.size))
 clear hb
 have enc0 := jA EN.out 0 _ rfl
 have enc1 := jA EN.out 1 _ rfl
 have enc2 := jA EN.out 2 _ rfl
 have enc3 := jA EN.out 3 _ rfl
 have enc4 := jA EN.out 4 _ rfl
 have enc5 := jA EN.out 5 _ rfl
 have enf := jD EN.out
 go_wp2_with fail
 clear enc0 enc1 enc2 enc3 enc4 enc5 enf
 refine (HT2.out _).mono ?_
 rintro e w2 ⟨rfl, hb⟩
 replace hsz := Nat.le_trans hsz hb.size
 replace EN := hid (jC EN.out hb)
 replace ER := hid (jC ER.out hb)
 replace ET := hid (jC ET.out hb)
 replace HB := hid (HB.out.trans (hb.mono HB.out.size))
 clear hb
 have enc0 := jA EN.out 0 _ rfl
 have enc1 := jA EN.out 1 _ rfl
 have enc2 := jA EN.out 2 _ rfl
 have enc3 := jA EN.out 3 _ rfl
 have enc4 := jA EN.out 4 _ rfl
 have enc5 := jA EN.out 5 _ rfl
 have enf := jD EN.out
 go_wp2_with fail
 clear enc0 enc1 enc2 enc3 enc4 enc5 enf
 refine (HT4.out _).mono ?_
 rintro e w4 ⟨rfl, hb⟩
 replace hsz := Nat.le_trans hsz hb.size
 replace EN := hid (jC EN.out hb)
 replace ER := hid (jC ER.out hb)
 replace ET := hid (jC ET.out hb)
 replace HB := hid (HB.out.trans (hb.mono HB.out.size))
 clear hb
 have enc0 := jA EN.out 0 _ rfl
 have enc1 := jA EN.out 1 _ rfl
 have enc2 := jA EN.out 2 _ rfl
 have enc3 := jA EN.out 3 _ rfl
 have enc4 := jA EN.out 4 _ rfl
 have enc5 := jA EN.out 5 _ rfl
 have enf := jD EN.out
 go_wp2_with fail
 clear enc0 enc1 enc2 enc3 enc4 enc5 enf
 refine (HNAME.out _).mono ?_
 intro e w6 ht6
 cases hnm : Px.name n with
 | error p =>
   obtain ⟨z, rfl, ⟨zs, rfl⟩, hb⟩ := jN ht6 hnm
   replace hsz := Nat.le_trans hsz hb.size
   replace EN := hid (jC EN.out hb)
   replace ER := hid (jC ER.out hb)
   replace ET := hid (jC ET.out hb)
   replace HB := hid (HB.out.trans (hb.mono HB.out.size))
   clear hb
   have HNM := hid hnm; clear ht6 hnm
   have etc0 := jA ET.out 0 _ rfl
   have etc1 := jA ET.out 1 _ rfl
   have etc2 := jA ET.out 2 _ rfl
   have etc3 := jA ET.out 3 _ rfl
   have etc4 := jA ET.out 4 _ rfl
   have etf := jD ET.out
   go_upto_region 13 with fail
   clear etc0 etc1 etc2 etc3 etc4 etf
   replace EN := hid (jB (jB (EN.out) (w.heap.size + 2) 0 (.int .i64 1) (by omega)) (w.heap.size + 2) 2 (.string zs) (by omega))
   replace ER := hid (jB (jB (ER.out) (w.heap.size + 2) 0 (.int .i64 1) (by omega)) (w.heap.size + 2) 2 (.string zs) (by omega))
   replace ET := hid (jG #[.int .i64 1, .int .i64 n.tok.pos, .string zs, .int .i64 0, .slice none 0 0] (jG #[.int .i64 1, .int .i64 n.tok.pos, .string ⟨#[]⟩, .int .i64 0, .slice none 0 0] (ET.out) 0 (.int .i64 1) rfl) 2 (.string zs) rfl)
   replace HB := hid (Below.setCell (Below.setCell (HB.out) (p := ⟨w.heap.size + 2, 0, none⟩) (by dsimp only; omega) (.int .i64 1)) (p := ⟨w.heap.size + 2, 2, none⟩) (by dsimp only; omega) (.string zs))
   have erc0 := jA ER.out 0 _ rfl
   have erc1 := jA ER.out 1 _ rfl
   have erc2 := jA ER.out 2 _ rfl
   have erc3 := jA ER.out 3 _ rfl
   have erc4 := jA ER.out 4 _ rfl
   have erf := jD ER.out
   have etc0 := jA ET.out 0 _ rfl
   have etc1 := jA ET.out 1 _ rfl
   have etc2 := jA ET.out 2 _ rfl
   have etc3 := jA ET.out 3 _ rfl
   have etc4 := jA ET.out 4 _ rfl
   have etf := jD ET.out
   go_wp2_with fail
   replace EN := hid (jB (jB (jB (jB (jB (EN.out) (w.heap.size + 1) 0 (.int .i64 1) (by omega)) (w.heap.size + 1) 1 (.int .i64 n.tok.pos) (by omega)) (w.heap.size + 1) 2 (.string zs) (by omega)) (w.heap.size + 1) 3 (.int .i64 0) (by omega)) (w.heap.size + 1) 4 (.slice none 0 0) (by omega))
   replace ER := hid (ent_set5 (ER.out) (.int .i64 1) (.int .i64 n.tok.pos) (.string zs) (.int .i64 0) (.slice none 0 0))
   replace ET := hid (jB (jB (jB (jB (jB (ET.out) (w.heap.size + 1) 0 (.int .i64 1) (by omega)) (w.heap.size + 1) 1 (.int .i64 n.tok.pos) (by omega)) (w.heap.size + 1) 2 (.string zs) (by omega)) (w.heap.size + 1) 3 (.int .i64 0) (by omega)) (w.heap.size + 1) 4 (.slice none 0 0) (by omega))
   replace HB := hid (Below.setCell (Below.setCell (Below.setCell (Below.setCell (Below.setCell (HB.out) (p := ⟨w.heap.size + 1, 0, none⟩) (by dsimp only; omega) (.int .i64 1)) (p := ⟨w.heap.size + 1, 1, none⟩) (by dsimp only; omega) (.int .i64 n.tok.pos)) (p := ⟨w.heap.size + 1, 2, none⟩) (by dsimp only; omega) (.string zs)) (p := ⟨w.heap.size + 1, 3, none⟩) (by dsimp only; omega) (.int .i64 0)) (p := ⟨w.heap.size + 1, 4, none⟩) (by dsimp only; omega) (.slice none 0 0))
   have r0 := jA ER.out 0 _ rfl
   have r1 := jA ER.out 1 _ rfl
   have r2 := jA ER.out 2 _ rfl
   have r3 := jA ER.out 3 _ rfl
   have r4 := jA ER.out 4 _ rfl
   refine bodyPost_ret (v := .tuple #[.agg #[.int .i64 1, .int .i64 n.tok.pos, .string zs, .int .i64 0, .slice none 0 0], .int .i64 p]) (by simp [results, Try.results73, go_sem, r0, r1, r2, r3, r4]) rfl ?_
   exact jL (by rw [HP.out, HNM.out]) HB.out ⟨_, _, _, _, _, _, _, rfl⟩
 | ok s =>
   obtain ⟨z, rfl, _, hnew, hb⟩ := rtold_ok ht6 hnm
   obtain rfl := hnew.now
   replace hsz := Nat.le_trans hsz hb.size
   replace EN := hid (jC EN.out hb)
   replace ER := hid (jC ER.out hb)
   replace ET := hid (jC ET.out hb)
   replace HB := hid (HB.out.trans (hb.mono HB.out.size))
   clear hb
   have HNM := hid hnm; clear ht6 hnm hnew
   have etc0 := jA ET.out 0 _ rfl
   have etc1 := jA ET.out 1 _ rfl
   have etc2 := jA ET.out 2 _ rfl
   have etc3 := jA ET.out 3 _ rfl
   have etc4 := jA ET.out 4 _ rfl
   have etf := jD ET.out
   go_upto_region 13 with fail
   clear etc0 etc1 etc2 etc3 etc4 etf
   replace EN := hid (jB (jB (EN.out) (w.heap.size + 2) 0 (.int .i64 1) (by omega)) (w.heap.size + 2) 2 (.string ⟨s.toArray⟩) (by omega))
   replace ER := hid (jB (jB (ER.out) (w.heap.size + 2) 0 (.int .i64 1) (by omega)) (w.heap.size + 2) 2 (.string ⟨s.toArray⟩) (by omega))
   replace ET := hid (jG #[.int .i64 1, .int .i64 n.tok.pos, .string ⟨s.toArray⟩, .int .i64 0, .slice none 0 0] (jG #[.int .i64 1, .int .i64 n.tok.pos, .string ⟨#[]⟩, .int .i64 0, .slice none 0 0] (ET.out) 0 (.int .i64 1) rfl) 2 (.string ⟨s.toArray⟩) rfl)
   replace HB := hid (Below.setCell (Below.setCell (HB.out) (p := ⟨w.heap.size + 2, 0, none⟩) (by dsimp only; omega) (.int .i64 1)) (p := ⟨w.heap.size + 2, 2, none⟩) (by dsimp only; omega) (.string ⟨s.toArray⟩))
   have erc0 := jA ER.out 0 _ rfl
   have erc1 := jA ER.out 1 _ rfl
   have erc2 := jA ER.out 2 _ rfl
   have erc3 := jA ER.out 3 _ rfl
   have erc4 := jA ER.out 4 _ rfl
   have erf := jD ER.out
   have etc0 := jA ET.out 0 _ rfl
   have etc1 := jA ET.out 1 _ rfl
   have etc2 := jA ET.out 2 _ rfl
   have etc3 := jA ET.out 3 _ rfl
   have etc4 := jA ET.out 4 _ rfl
   have etf := jD ET.out
   go_wp2_with fail
   replace EN := hid (jB (jB (jB (jB (jB (EN.out) (w.heap.size + 1) 0 (.int .i64 1) (by omega)) (w.heap.size + 1) 1 (.int .i64 n.tok.pos) (by omega)) (w.heap.size + 1) 2 (.string ⟨s.toArray⟩) (by omega)) (w.heap.size + 1) 3 (.int .i64 0) (by omega)) (w.heap.size + 1) 4 (.slice none 0 0) (by omega))
   replace ER := hid (ent_set5 (ER.out) (.int .i64 1) (.int .i64 n.tok.pos) (.string ⟨s.toArray⟩) (.int .i64 0) (.slice none 0 0))
   replace ET := hid (jB (jB (jB (jB (jB (ET.out) (w.heap.size + 1) 0 (.int .i64 1) (by omega)) (w.heap.size + 1) 1 (.int .i64 n.tok.pos) (by omega)) (w.heap.size + 1) 2 (.string ⟨s.toArray⟩) (by omega)) (w.heap.size + 1) 3 (.int .i64 0) (by omega)) (w.heap.size + 1) 4 (.slice none 0 0) (by omega))
   replace HB := hid (Below.setCell (Below.setCell (Below.setCell (Below.setCell (Below.setCell (HB.out) (p := ⟨w.heap.size + 1, 0, none⟩) (by dsimp only; omega) (.int .i64 1)) (p := ⟨w.heap.size + 1, 1, none⟩) (by dsimp only; omega) (.int .i64 n.tok.pos)) (p := ⟨w.heap.size + 1, 2, none⟩) (by dsimp only; omega) (.string ⟨s.toArray⟩)) (p := ⟨w.heap.size + 1, 3, none⟩) (by dsimp only; omega) (.int .i64 0)) (p := ⟨w.heap.size + 1, 4, none⟩) (by dsimp only; omega) (.slice none 0 0))
   have r0 := jA ER.out 0 _ rfl
   have r1 := jA ER.out 1 _ rfl
   have r2 := jA ER.out 2 _ rfl
   have r3 := jA ER.out 3 _ rfl
   have r4 := jA ER.out 4 _ rfl
   refine bodyPost_ret (v := .tuple #[.agg #[.int .i64 1, .int .i64 n.tok.pos, .string ⟨s.toArray⟩, .int .i64 0, .slice none 0 0], .int .i64 (-1)]) (by simp [results, Try.results73, go_sem, r0, r1, r2, r3, r4]) rfl ?_
   exact jO (x := Px.Pat.mk 1 n.pos s 0 []) (by rw [HP.out, HNM.out]) HB.out ⟨_, _, _, _, _, _, _, rfl⟩ (fun u hu => ⟨_, rfl, .inl ⟨rfl, none, 0, rfl⟩⟩)
set_option maxHeartbeats 4000000 in
set_option maxRecDepth 100000 in
theorem pat_sym (f : Nat) (n : Px.Node) (lv : Value) (w : World) (hg : Px.NodeGood n) (hl : Px.jS n = false) (hk : n.tok.kind = 5) (ht : n.tok.text ≠ [95]) : Calls Try.prog 73 #[nV n lv] w (RTold w (PatAt (f + 1)) ShPat (Px.pat (f + 1) n)) := by
 have hp := (pat_leaf_pure f n hg hl).2.2.2 (fun h => ht h.2) (by rw [hk]; decide) (by rw [hk]; decide)
 have HT5 := hid (fun w => tok_is n lv 5 true w (by rw [hl]; simp [hk]))
 have HT2 := hid (fun w => tok_is n lv 2 false w (by rw [hl]; simp [hk]))
 have HT4 := hid (fun w => tok_is n lv 4 false w (by rw [hl]; simp [hk]))
 have HNAME := hid (fun w => name_any n lv w hg)
 have HP := hid hp
 unfold nV at *
 rw [hl] at *
 clear hl hp
 have htf : (n.tok.text == [95]) = false := beq_eq_false_iff_ne.2 ht
 clear hk ht
 go_enter Try.func73, Try.ntmps73
 obtain ⟨en, er, et, hb, hsz⟩ := ent3 w #[.int .i64 n.tok.kind, .int .i64 n.tok.pos, .string ⟨n.tok.text.toArray⟩, .int .i64 n.tok.int, .bool false, lv] #[.int .i64 0, .int .i64 0, .string ⟨#[]⟩, .int .i64 0, .slice none 0 0] #[.int .i64 0, .int .i64 n.tok.pos, .string ⟨#[]⟩, .int .i64 0, .slice none 0 0] 73 94 94
 have EN := hid en; have ER := hid er; have ET := hid et; have HB := hid hb
 replace hsz := Nat.le_of_eq hsz.symm
 clear en er et hb
 go_wp2_with fail
 refine (HT5.out _).mono ?_
 rintro e w5 ⟨rfl, hb⟩
 replace hsz := Nat.le_trans hsz hb.size
 replace EN := hid (jC EN.out hb)
 replace ER := hid (jC ER.out hb)
 replace ET := hid (jC ET.out hb)
 replace HB := hid (HB.out.trans (hb.mono HB.out.size))
 clear hb
 have enc0 := jA EN.out 0 _ rfl
 have enc1 := jA EN.out 1 _ rfl
 have enc2 := jA EN.out 2 _ rfl
 have enc3 := jA EN.out 3 _ rfl
 have enc4 := jA EN.out 4 _ rfl
 have enc5 := jA EN.out 5 _ rfl
 have enf := jD EN.out
 go_wp2_with fail
 clear enc0 enc1 enc2 enc3 enc4 enc5 enf
 refine (HT2.out _).mono ?_
 rintro e w2 ⟨rfl, hb⟩
 replace hsz := Nat.le_trans hsz hb.size
 replace EN := hid (jC EN.out hb)
 replace ER := hid (jC ER.out hb)
 replace ET := hid (jC ET.out hb)
 replace HB := hid (HB.out.trans (hb.mono HB.out.size))
 clear hb
 have enc0 := jA EN.out 0 _ rfl
 have enc1 := jA EN.out 1 _ rfl
 have enc2 := jA EN.out 2 _ rfl
 have enc3 := jA EN.out 3 _ rfl
 have enc4 := jA EN.out 4 _ rfl
 have enc5 := jA EN.out 5 _ rfl
 have enf := jD EN.out
 go_wp2_with fail
 clear enc0 enc1 enc2 enc3 enc4 enc5 enf
 refine (HT4.out _).mono ?_
 rintro e w4 ⟨rfl, hb⟩
 replace hsz := Nat.le_trans hsz hb.size
 replace EN := hid (jC EN.out hb)
 replace ER := hid (jC ER.out hb)
 replace ET := hid (jC ET.out hb)
 replace HB := hid (HB.out.trans (hb.mono HB.out.size))
 clear hb
 have enc0 := jA EN.out 0 _ rfl
 have enc1 := jA EN.out 1 _ rfl
 have enc2 := jA EN.out 2 _ rfl
 have enc3 := jA EN.out 3 _ rfl
 have enc4 := jA EN.out 4 _ rfl
 have enc5 := jA EN.out 5 _ rfl
 have enf := jD EN.out
 go_wp2_with fail
 clear enc0 enc1 enc2 enc3 enc4 enc5 enf
 refine (HNAME.out _).mono ?_
 intro e w6 ht6
 cases hnm : Px.name n with
 | error p =>
   obtain ⟨z, rfl, ⟨zs, rfl⟩, hb⟩ := jN ht6 hnm
   replace hsz := Nat.le_trans hsz hb.size
   replace EN := hid (jC EN.out hb)
   replace ER := hid (jC ER.out hb)
   replace ET := hid (jC ET.out hb)
   replace HB := hid (HB.out.trans (hb.mono HB.out.size))
   clear hb
   have HNM := hid hnm; clear ht6 hnm
   have etc0 := jA ET.out 0 _ rfl
   have etc1 := jA ET.out 1 _ rfl
   have etc2 := jA ET.out 2 _ rfl
   have etc3 := jA ET.out 3 _ rfl
   have etc4 := jA ET.out 4 _ rfl
   have etf := jD ET.out
   go_upto_region 13 with fail
   clear etc0 etc1 etc2 etc3 etc4 etf
   replace EN := hid (jB (jB (EN.out) (w.heap.size + 2) 0 (.int .i64 1) (by omega)) (w.heap.size + 2) 2 (.string zs) (by omega))
   replace ER := hid (jB (jB (ER.out) (w.heap.size + 2) 0 (.int .i64 1) (by omega)) (w.heap.size + 2) 2 (.string zs) (by omega))
   replace ET := hid (jG #[.int .i64 1, .int .i64 n.tok.pos, .string zs, .int .i64 0, .slice none 0 0] (jG #[.int .i64 1, .int .i64 n.tok.pos, .string ⟨#[]⟩, .int .i64 0, .slice none 0 0] (ET.out) 0 (.int .i64 1) rfl) 2 (.string zs) rfl)
   replace HB := hid (Below.setCell (Below.setCell (HB.out) (p := ⟨w.heap.size + 2, 0, none⟩) (by dsimp only; omega) (.int .i64 1)) (p := ⟨w.heap.size + 2, 2, none⟩) (by dsimp only; omega) (.string zs))
   have erc0 := jA ER.out 0 _ rfl
   have erc1 := jA ER.out 1 _ rfl
   have erc2 := jA ER.out 2 _ rfl
   have erc3 := jA ER.out 3 _ rfl
   have erc4 := jA ER.out 4 _ rfl
   have erf := jD ER.out
   have etc0 := jA ET.out 0 _ rfl
   have etc1 := jA ET.out 1 _ rfl
   have etc2 := jA ET.out 2 _ rfl
   have etc3 := jA ET.out 3 _ rfl
   have etc4 := jA ET.out 4 _ rfl
   have etf := jD ET.out
   go_wp2_with fail
   replace EN := hid (jB (jB (jB (jB (jB (EN.out) (w.heap.size + 1) 0 (.int .i64 1) (by omega)) (w.heap.size + 1) 1 (.int .i64 n.tok.pos) (by omega)) (w.heap.size + 1) 2 (.string zs) (by omega)) (w.heap.size + 1) 3 (.int .i64 0) (by omega)) (w.heap.size + 1) 4 (.slice none 0 0) (by omega))
   replace ER := hid (ent_set5 (ER.out) (.int .i64 1) (.int .i64 n.tok.pos) (.string zs) (.int .i64 0) (.slice none 0 0))
   replace ET := hid (jB (jB (jB (jB (jB (ET.out) (w.heap.size + 1) 0 (.int .i64 1) (by omega)) (w.heap.size + 1) 1 (.int .i64 n.tok.pos) (by omega)) (w.heap.size + 1) 2 (.string zs) (by omega)) (w.heap.size + 1) 3 (.int .i64 0) (by omega)) (w.heap.size + 1) 4 (.slice none 0 0) (by omega))
   replace HB := hid (Below.setCell (Below.setCell (Below.setCell (Below.setCell (Below.setCell (HB.out) (p := ⟨w.heap.size + 1, 0, none⟩) (by dsimp only; omega) (.int .i64 1)) (p := ⟨w.heap.size + 1, 1, none⟩) (by dsimp only; omega) (.int .i64 n.tok.pos)) (p := ⟨w.heap.size + 1, 2, none⟩) (by dsimp only; omega) (.string zs)) (p := ⟨w.heap.size + 1, 3, none⟩) (by dsimp only; omega) (.int .i64 0)) (p := ⟨w.heap.size + 1, 4, none⟩) (by dsimp only; omega) (.slice none 0 0))
   have r0 := jA ER.out 0 _ rfl
   have r1 := jA ER.out 1 _ rfl
   have r2 := jA ER.out 2 _ rfl
   have r3 := jA ER.out 3 _ rfl
   have r4 := jA ER.out 4 _ rfl
   refine bodyPost_ret (v := .tuple #[.agg #[.int .i64 1, .int .i64 n.tok.pos, .string zs, .int .i64 0, .slice none 0 0], .int .i64 p]) (by simp [results, Try.results73, go_sem, r0, r1, r2, r3, r4]) rfl ?_
   exact jL (by rw [HP.out, HNM.out]) HB.out ⟨_, _, _, _, _, _, _, rfl⟩
 | ok s =>
   obtain ⟨z, rfl, _, hnew, hb⟩ := rtold_ok ht6 hnm
   obtain rfl := hnew.now
   replace hsz := Nat.le_trans hsz hb.size
   replace EN := hid (jC EN.out hb)
   replace ER := hid (jC ER.out hb)
   replace ET := hid (jC ET.out hb)
   replace HB := hid (HB.out.trans (hb.mono HB.out.size))
   clear hb
   have HNM := hid hnm; clear ht6 hnm hnew
   have etc0 := jA ET.out 0 _ rfl
   have etc1 := jA ET.out 1 _ rfl
   have etc2 := jA ET.out 2 _ rfl
   have etc3 := jA ET.out 3 _ rfl
   have etc4 := jA ET.out 4 _ rfl
   have etf := jD ET.out
   go_upto_region 13 with fail
   clear etc0 etc1 etc2 etc3 etc4 etf
   replace EN := hid (jB (jB (EN.out) (w.heap.size + 2) 0 (.int .i64 1) (by omega)) (w.heap.size + 2) 2 (.string ⟨s.toArray⟩) (by omega))
   replace ER := hid (jB (jB (ER.out) (w.heap.size + 2) 0 (.int .i64 1) (by omega)) (w.heap.size + 2) 2 (.string ⟨s.toArray⟩) (by omega))
   replace ET := hid (jG #[.int .i64 1, .int .i64 n.tok.pos, .string ⟨s.toArray⟩, .int .i64 0, .slice none 0 0] (jG #[.int .i64 1, .int .i64 n.tok.pos, .string ⟨#[]⟩, .int .i64 0, .slice none 0 0] (ET.out) 0 (.int .i64 1) rfl) 2 (.string ⟨s.toArray⟩) rfl)
   replace HB := hid (Below.setCell (Below.setCell (HB.out) (p := ⟨w.heap.size + 2, 0, none⟩) (by dsimp only; omega) (.int .i64 1)) (p := ⟨w.heap.size + 2, 2, none⟩) (by dsimp only; omega) (.string ⟨s.toArray⟩))
   have erc0 := jA ER.out 0 _ rfl
   have erc1 := jA ER.out 1 _ rfl
   have erc2 := jA ER.out 2 _ rfl
   have erc3 := jA ER.out 3 _ rfl
   have erc4 := jA ER.out 4 _ rfl
   have erf := jD ER.out
   have etc0 := jA ET.out 0 _ rfl
   have etc1 := jA ET.out 1 _ rfl
   have etc2 := jA ET.out 2 _ rfl
   have etc3 := jA ET.out 3 _ rfl
   have etc4 := jA ET.out 4 _ rfl
   have etf := jD ET.out
   go_wp2_with fail
   replace EN := hid (jB (jB (jB (jB (jB (EN.out) (w.heap.size + 1) 0 (.int .i64 1) (by omega)) (w.heap.size + 1) 1 (.int .i64 n.tok.pos) (by omega)) (w.heap.size + 1) 2 (.string ⟨s.toArray⟩) (by omega)) (w.heap.size + 1) 3 (.int .i64 0) (by omega)) (w.heap.size + 1) 4 (.slice none 0 0) (by omega))
   replace ER := hid (ent_set5 (ER.out) (.int .i64 1) (.int .i64 n.tok.pos) (.string ⟨s.toArray⟩) (.int .i64 0) (.slice none 0 0))
   replace ET := hid (jB (jB (jB (jB (jB (ET.out) (w.heap.size + 1) 0 (.int .i64 1) (by omega)) (w.heap.size + 1) 1 (.int .i64 n.tok.pos) (by omega)) (w.heap.size + 1) 2 (.string ⟨s.toArray⟩) (by omega)) (w.heap.size + 1) 3 (.int .i64 0) (by omega)) (w.heap.size + 1) 4 (.slice none 0 0) (by omega))
   replace HB := hid (Below.setCell (Below.setCell (Below.setCell (Below.setCell (Below.setCell (HB.out) (p := ⟨w.heap.size + 1, 0, none⟩) (by dsimp only; omega) (.int .i64 1)) (p := ⟨w.heap.size + 1, 1, none⟩) (by dsimp only; omega) (.int .i64 n.tok.pos)) (p := ⟨w.heap.size + 1, 2, none⟩) (by dsimp only; omega) (.string ⟨s.toArray⟩)) (p := ⟨w.heap.size + 1, 3, none⟩) (by dsimp only; omega) (.int .i64 0)) (p := ⟨w.heap.size + 1, 4, none⟩) (by dsimp only; omega) (.slice none 0 0))
   have r0 := jA ER.out 0 _ rfl
   have r1 := jA ER.out 1 _ rfl
   have r2 := jA ER.out 2 _ rfl
   have r3 := jA ER.out 3 _ rfl
   have r4 := jA ER.out 4 _ rfl
   refine bodyPost_ret (v := .tuple #[.agg #[.int .i64 1, .int .i64 n.tok.pos, .string ⟨s.toArray⟩, .int .i64 0, .slice none 0 0], .int .i64 (-1)]) (by simp [results, Try.results73, go_sem, r0, r1, r2, r3, r4]) rfl ?_
   exact jO (x := Px.Pat.mk 1 n.pos s 0 []) (by rw [HP.out, HNM.out]) HB.out ⟨_, _, _, _, _, _, _, rfl⟩ (fun u hu => ⟨_, rfl, .inl ⟨rfl, none, 0, rfl⟩⟩)
/-- A pattern, as the document reads it. -/
theorem pat_any : ∀ (k f : Nat) (n : Px.Node) (v : Value) (w : World), k ≤ f → NdAt k w v n → Px.NodeGood n → Calls Try.prog 73 #[v] w (RTold w (PatAt f) ShPat (Px.pat f n)) := by
 intro k
 induction k with
 | zero => intro f n v w _ hn; exact hn.elim
 | succ k ih =>
   intro f n v w hf hn hg
   cases f with
   | zero => omega
   | succ f =>
     cases hl : Px.jS n with
     | true => exact pat_list f k n v w hn hg hl (fun m hm v w1 h => ih f m v w1 (by omega) h (hg.kid hm))
     | false =>
       obtain ⟨lv, rfl, _⟩ := hn
       by_cases h5 : n.tok.kind = 5
       · by_cases ht : n.tok.text = [95]
         · exact pat_wild f n lv w hg hl h5 ht
         · exact pat_sym f n lv w hg hl h5 ht
       · by_cases h2 : n.tok.kind = 2
         · exact pat_int f n lv w hg hl h2
         · by_cases h4 : n.tok.kind = 4
           · exact pat_con f n lv w hg hl h4
           · exact pat_name f n lv w hg hl h5 h2 h4
end Go.Proofs.Ytgoacbomphlhjaa
