import Derived.Test.YtlnjdclmopblcaaDoorI05
import Derived.Deep.DeepCutAuto
import Derived.BigRegion
set_option linter.unusedVariables false
set_option linter.unusedSimpArgs false
set_option maxHeartbeats 40000000
set_option maxRecDepth 100000
namespace Go.Proofs.YtlnjdclmopblcaaDoor
open Go Go.RowKit
open Go.Lib (hid)
theorem Mf (f : Nat) (n : Px.Node) (lv : Value) (w : World) (hg : Px.jq n) (hl : Px.jR n = false) (hk : n.tok.kind = 5) (ht : n.tok.text = [95]) : Calls Tryd.prog 76 #[nV n lv] w (qN w (qj (f + 1)) yS (Px.pat (f + 1) n)) := by
 have hp := (Zc f n hg hl).1 hk ht; have mI := hid (fun w => yl n lv 5 true w (by rw [hl]; simp [hk])); have HP := hid hp; unfold nV at *; rw [hl] at *; clear hl hp; clear hk; rw [ht] at *; clear ht; go_enter Tryd.func76, Tryd.ntmps76; obtain ⟨en, er, et, hb, hsz⟩ := Yv w #[.int .i64 n.tok.kind, .int .i64 n.tok.pos, .string ⟨[95].toArray⟩, .int .i64 n.tok.int, .bool false, lv] #[.int .i64 0, .int .i64 0, .string ⟨#[]⟩, .int .i64 0, .slice none 0 0] #[.int .i64 0, .int .i64 n.tok.pos, .string ⟨#[]⟩, .int .i64 0, .slice none 0 0] 73 85 85; have EN := hid en; have ER := hid er; have ET := hid et; have HB := hid hb
 replace hsz := JS hsz.symm; clear en er et hb; go_wp2_with fail; refine (mI.out _).mono ?_; rintro e w5 ⟨rfl, hb⟩; replace EN := bE EN hb; replace ER := bE ER hb; replace ET := bE ET hb; replace HB := bT HB hb; clear hb; have enc2 := xK EN 2 rfl; obtain ⟨J3, J4, qA, qJ, qW, Qx⟩ := xF5 ER; obtain ⟨j3, jv, jw, JH, JX⟩ := xQ5 ET; go_wp2_with fail; replace ER := hid (ZH (ER.out) (.int .i64 0) (.int .i64 n.tok.pos) (.string ⟨#[]⟩) (.int .i64 0) (.slice none 0 0)); replace HB := xS HB ER; obtain ⟨r0, r1, r2, r3, r4⟩ := xQ5 ER; refine jG (v := .tuple #[.agg #[.int .i64 0, .int .i64 n.tok.pos, .string ⟨#[]⟩, .int .i64 0, .slice none 0 0], .int .i64 (-1)]) (by simp [results, Tryd.results76, go_sem, r0, r1, r2, r3, r4]) rfl ?_; exact Jq (x := Px.QJ.mk 0 n.pos [] 0 []) HP HB ⟨_, _, _, _, _, _, _, rfl⟩ (fun u hu => ⟨_, rfl, .inl ⟨rfl, none, 0, rfl⟩⟩)
theorem rP (f : Nat) (n : Px.Node) (lv : Value) (w : World) (hg : Px.jq n) (hl : Px.jR n = false) (hk : n.tok.kind = 2) : Calls Tryd.prog 76 #[nV n lv] w (qN w (qj (f + 1)) yS (Px.pat (f + 1) n)) := by
 have hp := (Zc f n hg hl).2.1 hk; have mI := hid (fun w => yl n lv 5 false w (by rw [hl]; simp [hk])); have HT2 := hid (fun w => yl n lv 2 true w (by rw [hl]; simp [hk])); have HP := hid hp; unfold nV at *; rw [hl] at *; clear hl hp; clear hk; go_enter Tryd.func76, Tryd.ntmps76; obtain ⟨en, er, et, hb, hsz⟩ := Yv w #[.int .i64 n.tok.kind, .int .i64 n.tok.pos, .string ⟨n.tok.text.toArray⟩, .int .i64 n.tok.int, .bool false, lv] #[.int .i64 0, .int .i64 0, .string ⟨#[]⟩, .int .i64 0, .slice none 0 0] #[.int .i64 0, .int .i64 n.tok.pos, .string ⟨#[]⟩, .int .i64 0, .slice none 0 0] 73 85 85; have EN := hid en; have ER := hid er; have ET := hid et; have HB := hid hb
 replace hsz := JS hsz.symm; clear en er et hb; go_wp2_with fail; refine (mI.out _).mono ?_; rintro e w5 ⟨rfl, hb⟩; replace hsz := bS hsz hb; replace EN := bE EN hb; replace ER := bE ER hb; replace ET := bE ET hb; replace HB := bT HB hb; clear hb; obtain ⟨Jd, enc1, enc2, enc3, enc4, JZ, QI⟩ := xF6 EN; go_wp2_with fail; clear Jd enc1 enc2 enc3 enc4 JZ QI; refine (HT2.out _).mono ?_; rintro e w2 ⟨rfl, hb⟩; replace hsz := bS hsz hb; replace EN := bE EN hb; replace ER := bE ER hb; replace ET := bE ET hb; replace HB := bT HB hb; clear hb; obtain ⟨Jd, enc1, enc2, enc3, enc4, JZ, QI⟩ := xF6 EN; obtain ⟨j3, jv, jw, JH, JX, QH⟩ := xF5 ET; go_upto_region 6 with fail
 go_cut [4] (fun s wx => s = .pointer (some ⟨w.heap.size + 2, 0, none⟩) /\ wx = ((w2.setCell ⟨w.heap.size + 2, 0, none⟩ (.int .i64 2)).setCell ⟨w.heap.size + 2, 3, none⟩ (.int .i64 n.tok.int)).drew)
 case first =>
  go_region
  all_goals (try go_wp2_with fail)
  all_goals (go_meet; exact ⟨rfl, rfl⟩)
 case rest =>
 obtain ⟨rfl, rfl⟩ := hcut; clear Jd enc1 enc2 enc3 enc4 JZ QI j3 jv jw JH JX QH; replace EN := hid (jO (jO (EN.out) (w.heap.size + 2) 0 (.int .i64 2) (by omega)) (w.heap.size + 2) 3 (.int .i64 n.tok.int) (by omega)); replace ER := hid (jO (jO (ER.out) (w.heap.size + 2) 0 (.int .i64 2) (by omega)) (w.heap.size + 2) 3 (.int .i64 n.tok.int) (by omega)); replace ET := hid (JI #[.int .i64 2, .int .i64 n.tok.pos, .string ⟨#[]⟩, .int .i64 n.tok.int, .slice none 0 0] (JI #[.int .i64 2, .int .i64 n.tok.pos, .string ⟨#[]⟩, .int .i64 0, .slice none 0 0] (ET.out) 0 (.int .i64 2) rfl) 3 (.int .i64 n.tok.int) rfl); replace HB := hid (jN (jN (HB.out) (p := ⟨w.heap.size + 2, 0, none⟩) (by dsimp only; omega) (.int .i64 2)) (p := ⟨w.heap.size + 2, 3, none⟩) (by dsimp only; omega) (.int .i64 n.tok.int)); replace EN := qM EN; replace ER := qM ER; replace ET := qM ET; replace HB := hid (HB.out.drew); replace hsz : w.heap.size + 3 <= (((w2.setCell ⟨w.heap.size + 2, 0, none⟩ (.int .i64 2)).setCell ⟨w.heap.size + 2, 3, none⟩ (.int .i64 n.tok.int)).drew).heap.size := by simpa using hsz
 generalize (((w2.setCell ⟨w.heap.size + 2, 0, none⟩ (.int .i64 2)).setCell ⟨w.heap.size + 2, 3, none⟩ (.int .i64 n.tok.int)).drew) = wq at *; obtain ⟨J3, J4, qA, qJ, qW, Qx⟩ := xF5 ER; obtain ⟨j3, jv, jw, JH, JX⟩ := xQ5 ET; go_wp2_with fail; replace ER := hid (ZH (ER.out) (.int .i64 2) (.int .i64 n.tok.pos) (.string ⟨#[]⟩) (.int .i64 n.tok.int) (.slice none 0 0)); replace HB := xS HB ER; obtain ⟨r0, r1, r2, r3, r4⟩ := xQ5 ER; refine jG (v := .tuple #[.agg #[.int .i64 2, .int .i64 n.tok.pos, .string ⟨#[]⟩, .int .i64 n.tok.int, .slice none 0 0], .int .i64 (-1)]) (by simp [results, Tryd.results76, go_sem, r0, r1, r2, r3, r4]) rfl ?_; exact Jq (x := Px.QJ.mk 2 n.pos [] n.tok.int []) HP HB ⟨_, _, _, _, _, _, _, rfl⟩ (fun u hu => ⟨_, rfl, .inl ⟨rfl, none, 0, rfl⟩⟩)
theorem rQ (f : Nat) (n : Px.Node) (lv : Value) (w : World) (hg : Px.jq n) (hl : Px.jR n = false) (hk : n.tok.kind = 4) : Calls Tryd.prog 76 #[nV n lv] w (qN w (qj (f + 1)) yS (Px.pat (f + 1) n)) := by
 have hp := (Zc f n hg hl).2.2.1 hk; have mI := hid (fun w => yl n lv 5 false w (by rw [hl]; simp [hk])); have HT2 := hid (fun w => yl n lv 2 false w (by rw [hl]; simp [hk])); have rR := hid (fun w => yl n lv 4 true w (by rw [hl]; simp [hk])); have HP := hid hp; unfold nV at *; rw [hl] at *; clear hl hp; clear hk; go_enter Tryd.func76, Tryd.ntmps76; obtain ⟨en, er, et, hb, hsz⟩ := Yv w #[.int .i64 n.tok.kind, .int .i64 n.tok.pos, .string ⟨n.tok.text.toArray⟩, .int .i64 n.tok.int, .bool false, lv] #[.int .i64 0, .int .i64 0, .string ⟨#[]⟩, .int .i64 0, .slice none 0 0] #[.int .i64 0, .int .i64 n.tok.pos, .string ⟨#[]⟩, .int .i64 0, .slice none 0 0] 73 85 85; have EN := hid en; have ER := hid er; have ET := hid et; have HB := hid hb
 replace hsz := JS hsz.symm; clear en er et hb; go_wp2_with fail; refine (mI.out _).mono ?_; rintro e w5 ⟨rfl, hb⟩; replace hsz := bS hsz hb; replace EN := bE EN hb; replace ER := bE ER hb; replace ET := bE ET hb; replace HB := bT HB hb; clear hb; obtain ⟨Jd, enc1, enc2, enc3, enc4, JZ, QI⟩ := xF6 EN; go_wp2_with fail; clear Jd enc1 enc2 enc3 enc4 JZ QI; refine (HT2.out _).mono ?_; rintro e w2 ⟨rfl, hb⟩; replace hsz := bS hsz hb; replace EN := bE EN hb; replace ER := bE ER hb; replace ET := bE ET hb; replace HB := bT HB hb; clear hb; obtain ⟨Jd, enc1, enc2, enc3, enc4, JZ, QI⟩ := xF6 EN; go_wp2_with fail; clear Jd enc1 enc2 enc3 enc4 JZ QI; refine (rR.out _).mono ?_; rintro e w4 ⟨rfl, hb⟩; replace hsz := bS hsz hb; replace EN := bE EN hb; replace ER := bE ER hb; replace ET := bE ET hb; replace HB := bT HB hb; clear hb; obtain ⟨Jd, enc1, enc2, enc3, enc4, JZ, QI⟩ := xF6 EN; obtain ⟨j3, jv, jw, JH, JX, QH⟩ := xF5 ET; go_upto_region 9 with fail
 go_cut [4] (fun s wx => s = .pointer (some ⟨w.heap.size + 2, 0, none⟩) /\ wx = ((w4.setCell ⟨w.heap.size + 2, 0, none⟩ (.int .i64 3)).setCell ⟨w.heap.size + 2, 2, none⟩ (.string ⟨n.tok.text.toArray⟩)).drew)
 case first =>
  go_region
  all_goals (try go_wp2_with fail)
  all_goals (go_meet; exact ⟨rfl, rfl⟩)
 case rest =>
 obtain ⟨rfl, rfl⟩ := hcut; clear Jd enc1 enc2 enc3 enc4 JZ QI j3 jv jw JH JX QH; replace EN := hid (jO (jO (EN.out) (w.heap.size + 2) 0 (.int .i64 3) (by omega)) (w.heap.size + 2) 2 (.string ⟨n.tok.text.toArray⟩) (by omega)); replace ER := hid (jO (jO (ER.out) (w.heap.size + 2) 0 (.int .i64 3) (by omega)) (w.heap.size + 2) 2 (.string ⟨n.tok.text.toArray⟩) (by omega)); replace ET := hid (JI #[.int .i64 3, .int .i64 n.tok.pos, .string ⟨n.tok.text.toArray⟩, .int .i64 0, .slice none 0 0] (JI #[.int .i64 3, .int .i64 n.tok.pos, .string ⟨#[]⟩, .int .i64 0, .slice none 0 0] (ET.out) 0 (.int .i64 3) rfl) 2 (.string ⟨n.tok.text.toArray⟩) rfl); replace HB := hid (jN (jN (HB.out) (p := ⟨w.heap.size + 2, 0, none⟩) (by dsimp only; omega) (.int .i64 3)) (p := ⟨w.heap.size + 2, 2, none⟩) (by dsimp only; omega) (.string ⟨n.tok.text.toArray⟩)); replace EN := qM EN; replace ER := qM ER; replace ET := qM ET; replace HB := hid (HB.out.drew); replace hsz : w.heap.size + 3 <= (((w4.setCell ⟨w.heap.size + 2, 0, none⟩ (.int .i64 3)).setCell ⟨w.heap.size + 2, 2, none⟩ (.string ⟨n.tok.text.toArray⟩)).drew).heap.size := by simpa using hsz
 generalize (((w4.setCell ⟨w.heap.size + 2, 0, none⟩ (.int .i64 3)).setCell ⟨w.heap.size + 2, 2, none⟩ (.string ⟨n.tok.text.toArray⟩)).drew) = wq at *; obtain ⟨J3, J4, qA, qJ, qW, Qx⟩ := xF5 ER; obtain ⟨j3, jv, jw, JH, JX⟩ := xQ5 ET; go_wp2_with fail; replace ER := hid (ZH (ER.out) (.int .i64 3) (.int .i64 n.tok.pos) (.string ⟨n.tok.text.toArray⟩) (.int .i64 0) (.slice none 0 0)); replace HB := xS HB ER; obtain ⟨r0, r1, r2, r3, r4⟩ := xQ5 ER; refine jG (v := .tuple #[.agg #[.int .i64 3, .int .i64 n.tok.pos, .string ⟨n.tok.text.toArray⟩, .int .i64 0, .slice none 0 0], .int .i64 (-1)]) (by simp [results, Tryd.results76, go_sem, r0, r1, r2, r3, r4]) rfl ?_; exact Jq (x := Px.QJ.mk 3 n.pos n.text 0 []) HP HB ⟨_, _, _, _, _, _, _, rfl⟩ (fun u hu => ⟨_, rfl, .inl ⟨rfl, none, 0, rfl⟩⟩)
theorem Mg (f : Nat) (n : Px.Node) (lv : Value) (w : World) (hg : Px.jq n) (hl : Px.jR n = false) (h5 : n.tok.kind ≠ 5) (h2 : n.tok.kind ≠ 2) (h4 : n.tok.kind ≠ 4) : Calls Tryd.prog 76 #[nV n lv] w (qN w (qj (f + 1)) yS (Px.pat (f + 1) n)) := by
 have hp := (Zc f n hg hl).2.2.2 (fun h => h5 h.1) h2 h4; have mI := hid (fun w => yl n lv 5 false w (by rw [hl]; simp [h5, h2, h4])); have HT2 := hid (fun w => yl n lv 2 false w (by rw [hl]; simp [h5, h2, h4])); have rR := hid (fun w => yl n lv 4 false w (by rw [hl]; simp [h5, h2, h4])); have xH := hid (fun w => YJ n lv w hg); have HP := hid hp; unfold nV at *; rw [hl] at *; clear hl hp; clear h5 h2 h4; go_enter Tryd.func76, Tryd.ntmps76; obtain ⟨en, er, et, hb, hsz⟩ := Yv w #[.int .i64 n.tok.kind, .int .i64 n.tok.pos, .string ⟨n.tok.text.toArray⟩, .int .i64 n.tok.int, .bool false, lv] #[.int .i64 0, .int .i64 0, .string ⟨#[]⟩, .int .i64 0, .slice none 0 0] #[.int .i64 0, .int .i64 n.tok.pos, .string ⟨#[]⟩, .int .i64 0, .slice none 0 0] 73 85 85; have EN := hid en; have ER := hid er; have ET := hid et; have HB := hid hb
 replace hsz := JS hsz.symm; clear en er et hb; go_wp2_with fail; refine (mI.out _).mono ?_; rintro e w5 ⟨rfl, hb⟩; replace hsz := bS hsz hb; replace EN := bE EN hb; replace ER := bE ER hb; replace ET := bE ET hb; replace HB := bT HB hb; clear hb; obtain ⟨Jd, enc1, enc2, enc3, enc4, JZ, QI⟩ := xF6 EN; go_wp2_with fail; clear Jd enc1 enc2 enc3 enc4 JZ QI; refine (HT2.out _).mono ?_; rintro e w2 ⟨rfl, hb⟩; replace hsz := bS hsz hb; replace EN := bE EN hb; replace ER := bE ER hb; replace ET := bE ET hb; replace HB := bT HB hb; clear hb; obtain ⟨Jd, enc1, enc2, enc3, enc4, JZ, QI⟩ := xF6 EN; go_wp2_with fail; clear Jd enc1 enc2 enc3 enc4 JZ QI; refine (rR.out _).mono ?_; rintro e w4 ⟨rfl, hb⟩; replace hsz := bS hsz hb; replace EN := bE EN hb; replace ER := bE ER hb; replace ET := bE ET hb; replace HB := bT HB hb; clear hb; obtain ⟨Jd, enc1, enc2, enc3, enc4, JZ, QI⟩ := xF6 EN; go_wp2_with fail; clear Jd enc1 enc2 enc3 enc4 JZ QI; refine (xH.out _).mono ?_; intro e w6 E5; cases hnm : Px.name n with
 | error p =>
   obtain ⟨z, rfl, ⟨zs, rfl⟩, hb⟩ := Jb E5 hnm; replace ER := bE ER hb; replace ET := bE ET hb; replace HB := bT HB hb; clear hb; have VE := hid hnm; clear E5 hnm
   obtain ⟨j3, jv, jw, JH, JX, QH⟩ := xF5 ET; go_upto_region 13 with fail
   clear j3 jv jw JH JX QH; replace ER := hid (jO (jO (ER.out) (w.heap.size + 2) 0 (.int .i64 1) (by omega)) (w.heap.size + 2) 2 (.string zs) (by omega)); replace ET := hid (JI #[.int .i64 1, .int .i64 n.tok.pos, .string zs, .int .i64 0, .slice none 0 0] (JI #[.int .i64 1, .int .i64 n.tok.pos, .string ⟨#[]⟩, .int .i64 0, .slice none 0 0] (ET.out) 0 (.int .i64 1) rfl) 2 (.string zs) rfl); replace HB := hid (jN (jN (HB.out) (p := ⟨w.heap.size + 2, 0, none⟩) (by dsimp only; omega) (.int .i64 1)) (p := ⟨w.heap.size + 2, 2, none⟩) (by dsimp only; omega) (.string zs)); obtain ⟨J3, J4, qA, qJ, qW, Qx⟩ := xF5 ER; obtain ⟨j3, jv, jw, JH, JX⟩ := xQ5 ET; go_wp2_with fail; replace ER := hid (ZH (ER.out) (.int .i64 1) (.int .i64 n.tok.pos) (.string zs) (.int .i64 0) (.slice none 0 0)); replace HB := xS HB ER; obtain ⟨r0, r1, r2, r3, r4⟩ := xQ5 ER; refine jG (v := .tuple #[.agg #[.int .i64 1, .int .i64 n.tok.pos, .string zs, .int .i64 0, .slice none 0 0], .int .i64 p]) (by simp [results, Tryd.results76, go_sem, r0, r1, r2, r3, r4]) rfl ?_; exact jr (by rw [HP.out, VE.out]) HB ⟨_, _, _, _, _, _, _, rfl⟩
 | ok s =>
   obtain ⟨z, rfl, _, hnew, hb⟩ := Jm E5 hnm; obtain rfl := hnew.now; replace ER := bE ER hb; replace ET := bE ET hb; replace HB := bT HB hb; clear hb; have VE := hid hnm; clear E5 hnm hnew
   obtain ⟨j3, jv, jw, JH, JX, QH⟩ := xF5 ET; go_upto_region 13 with fail
   clear j3 jv jw JH JX QH; replace ER := hid (jO (jO (ER.out) (w.heap.size + 2) 0 (.int .i64 1) (by omega)) (w.heap.size + 2) 2 (.string ⟨s.toArray⟩) (by omega)); replace ET := hid (JI #[.int .i64 1, .int .i64 n.tok.pos, .string ⟨s.toArray⟩, .int .i64 0, .slice none 0 0] (JI #[.int .i64 1, .int .i64 n.tok.pos, .string ⟨#[]⟩, .int .i64 0, .slice none 0 0] (ET.out) 0 (.int .i64 1) rfl) 2 (.string ⟨s.toArray⟩) rfl); replace HB := hid (jN (jN (HB.out) (p := ⟨w.heap.size + 2, 0, none⟩) (by dsimp only; omega) (.int .i64 1)) (p := ⟨w.heap.size + 2, 2, none⟩) (by dsimp only; omega) (.string ⟨s.toArray⟩)); obtain ⟨J3, J4, qA, qJ, qW, Qx⟩ := xF5 ER; obtain ⟨j3, jv, jw, JH, JX⟩ := xQ5 ET; go_wp2_with fail; replace ER := hid (ZH (ER.out) (.int .i64 1) (.int .i64 n.tok.pos) (.string ⟨s.toArray⟩) (.int .i64 0) (.slice none 0 0)); replace HB := xS HB ER; obtain ⟨r0, r1, r2, r3, r4⟩ := xQ5 ER; refine jG (v := .tuple #[.agg #[.int .i64 1, .int .i64 n.tok.pos, .string ⟨s.toArray⟩, .int .i64 0, .slice none 0 0], .int .i64 (-1)]) (by simp [results, Tryd.results76, go_sem, r0, r1, r2, r3, r4]) rfl ?_; exact Jq (x := Px.QJ.mk 1 n.pos s 0 []) (by rw [HP.out, VE.out]) HB ⟨_, _, _, _, _, _, _, rfl⟩ (fun u hu => ⟨_, rfl, .inl ⟨rfl, none, 0, rfl⟩⟩)
theorem rT (f : Nat) (n : Px.Node) (lv : Value) (w : World) (hg : Px.jq n) (hl : Px.jR n = false) (hk : n.tok.kind = 5) (ht : n.tok.text ≠ [95]) : Calls Tryd.prog 76 #[nV n lv] w (qN w (qj (f + 1)) yS (Px.pat (f + 1) n)) := by
 have hp := (Zc f n hg hl).2.2.2 (fun h => ht h.2) (by rw [hk]; decide) (by rw [hk]; decide); have mI := hid (fun w => yl n lv 5 true w (by rw [hl]; simp [hk])); have HT2 := hid (fun w => yl n lv 2 false w (by rw [hl]; simp [hk])); have rR := hid (fun w => yl n lv 4 false w (by rw [hl]; simp [hk])); have xH := hid (fun w => YJ n lv w hg); have HP := hid hp; unfold nV at *; rw [hl] at *; clear hl hp; have jHK : (n.tok.text == [95]) = false := qF.2 ht; clear hk ht; go_enter Tryd.func76, Tryd.ntmps76; obtain ⟨en, er, et, hb, hsz⟩ := Yv w #[.int .i64 n.tok.kind, .int .i64 n.tok.pos, .string ⟨n.tok.text.toArray⟩, .int .i64 n.tok.int, .bool false, lv] #[.int .i64 0, .int .i64 0, .string ⟨#[]⟩, .int .i64 0, .slice none 0 0] #[.int .i64 0, .int .i64 n.tok.pos, .string ⟨#[]⟩, .int .i64 0, .slice none 0 0] 73 85 85; have EN := hid en; have ER := hid er; have ET := hid et; have HB := hid hb
 replace hsz := JS hsz.symm; clear en er et hb; go_wp2_with fail; refine (mI.out _).mono ?_; rintro e w5 ⟨rfl, hb⟩; replace hsz := bS hsz hb; replace EN := bE EN hb; replace ER := bE ER hb; replace ET := bE ET hb; replace HB := bT HB hb; clear hb; obtain ⟨Jd, enc1, enc2, enc3, enc4, JZ, QI⟩ := xF6 EN; go_wp2_with fail; clear Jd enc1 enc2 enc3 enc4 JZ QI; refine (HT2.out _).mono ?_; rintro e w2 ⟨rfl, hb⟩; replace hsz := bS hsz hb; replace EN := bE EN hb; replace ER := bE ER hb; replace ET := bE ET hb; replace HB := bT HB hb; clear hb; obtain ⟨Jd, enc1, enc2, enc3, enc4, JZ, QI⟩ := xF6 EN; go_wp2_with fail; clear Jd enc1 enc2 enc3 enc4 JZ QI; refine (rR.out _).mono ?_; rintro e w4 ⟨rfl, hb⟩; replace hsz := bS hsz hb; replace EN := bE EN hb; replace ER := bE ER hb; replace ET := bE ET hb; replace HB := bT HB hb; clear hb; obtain ⟨Jd, enc1, enc2, enc3, enc4, JZ, QI⟩ := xF6 EN; go_wp2_with fail; clear Jd enc1 enc2 enc3 enc4 JZ QI; refine (xH.out _).mono ?_; intro e w6 E5; cases hnm : Px.name n with
 | error p =>
   obtain ⟨z, rfl, ⟨zs, rfl⟩, hb⟩ := Jb E5 hnm; replace ER := bE ER hb; replace ET := bE ET hb; replace HB := bT HB hb; clear hb; have VE := hid hnm; clear E5 hnm
   obtain ⟨j3, jv, jw, JH, JX, QH⟩ := xF5 ET; go_upto_region 13 with fail
   clear j3 jv jw JH JX QH; replace ER := hid (jO (jO (ER.out) (w.heap.size + 2) 0 (.int .i64 1) (by omega)) (w.heap.size + 2) 2 (.string zs) (by omega)); replace ET := hid (JI #[.int .i64 1, .int .i64 n.tok.pos, .string zs, .int .i64 0, .slice none 0 0] (JI #[.int .i64 1, .int .i64 n.tok.pos, .string ⟨#[]⟩, .int .i64 0, .slice none 0 0] (ET.out) 0 (.int .i64 1) rfl) 2 (.string zs) rfl); replace HB := hid (jN (jN (HB.out) (p := ⟨w.heap.size + 2, 0, none⟩) (by dsimp only; omega) (.int .i64 1)) (p := ⟨w.heap.size + 2, 2, none⟩) (by dsimp only; omega) (.string zs)); obtain ⟨J3, J4, qA, qJ, qW, Qx⟩ := xF5 ER; obtain ⟨j3, jv, jw, JH, JX⟩ := xQ5 ET; go_wp2_with fail; replace ER := hid (ZH (ER.out) (.int .i64 1) (.int .i64 n.tok.pos) (.string zs) (.int .i64 0) (.slice none 0 0)); replace HB := xS HB ER; obtain ⟨r0, r1, r2, r3, r4⟩ := xQ5 ER; refine jG (v := .tuple #[.agg #[.int .i64 1, .int .i64 n.tok.pos, .string zs, .int .i64 0, .slice none 0 0], .int .i64 p]) (by simp [results, Tryd.results76, go_sem, r0, r1, r2, r3, r4]) rfl ?_; exact jr (by rw [HP.out, VE.out]) HB ⟨_, _, _, _, _, _, _, rfl⟩
 | ok s =>
   obtain ⟨z, rfl, _, hnew, hb⟩ := Jm E5 hnm; obtain rfl := hnew.now; replace ER := bE ER hb; replace ET := bE ET hb; replace HB := bT HB hb; clear hb; have VE := hid hnm; clear E5 hnm hnew
   obtain ⟨j3, jv, jw, JH, JX, QH⟩ := xF5 ET; go_upto_region 13 with fail
   clear j3 jv jw JH JX QH; replace ER := hid (jO (jO (ER.out) (w.heap.size + 2) 0 (.int .i64 1) (by omega)) (w.heap.size + 2) 2 (.string ⟨s.toArray⟩) (by omega)); replace ET := hid (JI #[.int .i64 1, .int .i64 n.tok.pos, .string ⟨s.toArray⟩, .int .i64 0, .slice none 0 0] (JI #[.int .i64 1, .int .i64 n.tok.pos, .string ⟨#[]⟩, .int .i64 0, .slice none 0 0] (ET.out) 0 (.int .i64 1) rfl) 2 (.string ⟨s.toArray⟩) rfl); replace HB := hid (jN (jN (HB.out) (p := ⟨w.heap.size + 2, 0, none⟩) (by dsimp only; omega) (.int .i64 1)) (p := ⟨w.heap.size + 2, 2, none⟩) (by dsimp only; omega) (.string ⟨s.toArray⟩)); obtain ⟨J3, J4, qA, qJ, qW, Qx⟩ := xF5 ER; obtain ⟨j3, jv, jw, JH, JX⟩ := xQ5 ET; go_wp2_with fail; replace ER := hid (ZH (ER.out) (.int .i64 1) (.int .i64 n.tok.pos) (.string ⟨s.toArray⟩) (.int .i64 0) (.slice none 0 0)); replace HB := xS HB ER; obtain ⟨r0, r1, r2, r3, r4⟩ := xQ5 ER; refine jG (v := .tuple #[.agg #[.int .i64 1, .int .i64 n.tok.pos, .string ⟨s.toArray⟩, .int .i64 0, .slice none 0 0], .int .i64 (-1)]) (by simp [results, Tryd.results76, go_sem, r0, r1, r2, r3, r4]) rfl ?_; exact Jq (x := Px.QJ.mk 1 n.pos s 0 []) (by rw [HP.out, VE.out]) HB ⟨_, _, _, _, _, _, _, rfl⟩ (fun u hu => ⟨_, rfl, .inl ⟨rfl, none, 0, rfl⟩⟩)
theorem rU : ∀ (k f : Nat) (n : Px.Node) (v : Value) (w : World), k <= f -> Qw k w v n -> Px.jq n -> Calls Tryd.prog 76 #[v] w (qN w (qj f) yS (Px.pat f n)) := by
 intro k
 induction k with
 | zero => intro f n v w _ hn; exact hn.elim
 | succ k ih =>
   intro f n v w hf hn hg; cases f with
   | zero => omega
   | succ f =>
     cases hl : Px.jR n with
     | true => exact Me f k n v w hn hg hl (fun m hm v w1 h => ih f m v w1 (by omega) h (hg.kid hm))
     | false =>
       obtain ⟨lv, rfl, _⟩ := hn; by_cases h5 : n.tok.kind = 5
       . by_cases ht : n.tok.text = [95]
         . exact Mf f n lv w hg hl h5 ht
         . exact rT f n lv w hg hl h5 ht
       . by_cases h2 : n.tok.kind = 2
         . exact rP f n lv w hg hl h2
         . by_cases h4 : n.tok.kind = 4
           . exact rQ f n lv w hg hl h4
           . exact Mg f n lv w hg hl h5 h2 h4
def qH (v : Value) : Prop := ∃ (k p : Int) (s : ByteArray) (i : Int) (q1 : Option Addr) (n1 c1 : Nat) (q2 : Option Addr) (n2 c2 : Nat) (q3 : Option Addr) (n3 c3 : Nat), v = .agg #[.int .i64 k, .int .i64 p, .string s, .int .i64 i, .slice q1 n1 c1, .slice q2 n2 c2, .slice q3 n3 c3]
theorem VG {v : Value} (h : qH v) : v.cells.size = 7 := by
 obtain ⟨k, p, s, i, q1, n1, c1, q2, n2, c2, q3, n3, c3, rfl⟩ := h; rfl
theorem u6 : (Tryd.prog.info? 38).map (fun i => (i.zero, i.size, i.bytes)) = some (some (.agg #[.int .i64 0, .int .i64 0, .string ⟨#[]⟩, .int .i64 0, .slice none 0 0, .slice none 0 0, .slice none 0 0]), 7, 112) := by kernel_rfl
theorem Mh (w : World) (a0 a1 a2 a3 a4 a5 a6 : Value) (T : TypeId) (j : Nat) (u : Value) (h : ([a0, a1, a2, a3, a4, a5, a6] : List Value)[j]? = some u) :
 (w.alloc (.cells #[a0, a1, a2, a3, a4, a5, a6] T)).cell? ((⟨w.heap.size, 0, none⟩ : Addr).add j) = some u := by
 have e : (⟨w.heap.size, 0, none⟩ : Addr).add j = ⟨w.heap.size, j, none⟩ := by unfold Addr.add; split <;> simp_all
 rw [e, jT]
 simpa using h
theorem dz (vs : List Value) (a0 a1 a2 a3 a4 a5 a6 : Value) : cellsOf (vs ++ [.agg #[a0, a1, a2, a3, a4, a5, a6]]) = cellsOf vs ++ [a0, a1, a2, a3, a4, a5, a6] := by
 simp [cellsOf, Value.cells]
theorem xM (w : World) (g k : Nat) (a b c d e f i : Value) (h : k ≠ g) : (((((((w.setCell ⟨g, 0, none⟩ a).setCell ⟨g, 1, none⟩ b).setCell ⟨g, 2, none⟩ c).setCell ⟨g, 3, none⟩ d).setCell ⟨g, 4, none⟩ e).setCell ⟨g, 5, none⟩ f).setCell ⟨g, 6, none⟩ i).heap[k]? = w.heap[k]? :=
 (jP _ ⟨g, 6, none⟩ i k h).trans ((jP _ ⟨g, 5, none⟩ f k h).trans (xL w g k a b c d e h))
theorem Vk (f k : Nat) (lv : Value) (l : List Px.Node) (w : World) (hr : JO 6 (Qw k w) w lv l) (hlen : l.length <= 1000) (ih : ∀ m ∈ l, ∀ v w1, Qw k w1 v m -> Calls Tryd.prog 47 #[v] w1 (qN w1 (JB f) qH (Px.expr f m))) : Calls Tryd.prog 67 #[lv] w (qN w (fun u => JO 7 (JB f u) u) Gq (Px.each (Px.expr f) l)) := by
 obtain ⟨q, c, rfl⟩ := hr.len; have HR := hid hr; have YZ := hid ih
 obtain ⟨i0, hi, hq0, hq1, hq2⟩ := QL u6; have I0 := hid hi; have PQ := hid hq0; have PR := hid hq1; have PS := hid hq2
 clear hi hq0 hq1 hq2 hr ih; go_enter Tryd.func67, Tryd.ntmps67; go_wp2_with fail
 go_loopw [2, 3, 4, 5, 6, 7] (fun _ _ av i _ _ wr => ∃ (j : Nat) (vs : List Value) (xs : List Px.Expr), i = .int .i64 (j : Nat) /\ j <= l.length /\ Hid (Px.each (Px.expr f) (l.take j) = .ok xs) /\ Hid (vs.length = j) /\ Hid (qw (Kept (JB f) w.heap.size wr av.ownBlock) vs xs /\ ∀ u ∈ vs, qH u) /\ Hid (wr.ownsRow w.heap.size 38 7 av vs.length (cellsOf vs)) /\ Hid (Below w.heap.size w wr)) (fun _ _ _ i _ _ _ => l.length - (intOf i).toNat)
 case atStart => exact ⟨0, [], [], rfl, jh _, hid (by simp [Px.each]), hid rfl, hid ⟨trivial, fun _ h => by cases h⟩, hid (jo _ _ _ _), hid (jD _ _)⟩
 case round =>
  obtain ⟨j, vs, xs, rfl, hj, HE, Gr, uz, HO, HB⟩ := hrel; have hsz := HB.out.size; by_cases hlt : j < l.length
  . obtain ⟨mj, Gs⟩ : ∃ mj, l[j]? = some mj := ⟨_, jA hlt⟩
    have hstep := Px.qU Gs HE.out
    rcases HR.out with ⟨h0, _⟩ | ⟨g, of, c', hv, g1, g2, g3⟩
    . rw [h0] at hlt; simp at hlt
    injection hv with hq1 _ hq2
    subst hq1; subst hq2
    obtain ⟨u, hu, _, hcell⟩ := g3 j mj Gs; have HU := hid (hu.below HB.out); have dx := hid (YZ.out mj (jI Gs)); obtain ⟨k2, Oo, hk2, rfl, hkr, m0, m1, m2, m3, m4, m5⟩ := Jk hu hcell; have n0 := jC HB m0; have n1 := jC HB m1; have n2 := jC HB m2; have n3 := jC HB m3; have n4 := jC HB m4; have n5 := jC HB m5
    have HST := hid hstep; clear hu hcell hkr m0 m1 m2 m3 m4 m5 hstep Gs g3; obtain ⟨pa, ca, rfl⟩ := jH HO; go_wp2_with fail; clear n0 n1 n2 n3 n4 n5; refine (dx.out _ _ HU.out).mono ?_; intro e w5 ht; cases Uf : Px.expr f mj with
    | error p =>
      obtain ⟨z, rfl, ⟨zk, zp, zs, zi, WU, WV, WW, WX, WY, WZ, Wd, We, Wh, rfl⟩, hb⟩ := Jb ht Uf; have hge : (p : Int) >= 0 := by omega
      have MR := hid (HST.out.2 p Uf); have HB2 := hid ((HB.out.trans (hb.mono hsz)).alloc (bS hsz hb) (.cells #[.int .i64 zk, .int .i64 zp, .string zs, .int .i64 zi, .slice WU WV WW, .slice WX WY WZ, .slice Wd We Wh] 38)); clear ht Uf hb; go_wp2_with fail; go_ret2; exact jr MR HB2 ⟨_, _, _, rfl⟩
    | ok x =>
      obtain ⟨z, rfl, hsh, hnew, hb⟩ := Jm ht Uf; have rF := hid (HST.out.1 x Uf); have hk1 := VF (base := w.heap.size) (ob := (Value.slice pa vs.length ca).ownBlock) hnew hsz hb.size (fun g hg => (HO.out.lt g hg).2); have WT := hid hk1; have zV := hid (jc HO hb); have Zt := hid (And.intro (uz.out.1.mono fun z y h => h.below hb) uz.out.2)
      have rG := hid hsh; obtain ⟨zk, zp, zs, zi, WU, WV, WW, WX, WY, WZ, Wd, We, Wh, rfl⟩ := hsh; have hs5 := bS hsz hb; have HB2 := hid ((HB.out.trans (hb.mono hsz)).alloc hs5 (.cells #[.int .i64 zk, .int .i64 zp, .string zs, .int .i64 zi, .slice WU WV WW, .slice WX WY WZ, .slice Wd We Wh] 38)); have hal : Below w5.heap.size w5 (w5.alloc (.cells #[.int .i64 zk, .int .i64 zp, .string zs, .int .i64 zi, .slice WU WV WW, .slice WX WY WZ, .slice Wd We Wh] 38)) := (jD _ _).alloc (jB _) _; replace WT := hid (WT.out.below hal); replace zV := hid (jc zV hal); replace Zt := hid (And.intro (Zt.out.1.mono fun z y h => h.below hal) Zt.out.2)
      replace hs5 := jS hs5 hal.size; have x0 : (w5.alloc (.cells #[.int .i64 zk, .int .i64 zp, .string zs, .int .i64 zi, .slice WU WV WW, .slice WX WY WZ, .slice Wd We Wh] 38)).cell? ⟨w5.heap.size, 0, none⟩ = some (.int .i64 zk) := by rw [jT]; rfl
      have x1 : (w5.alloc (.cells #[.int .i64 zk, .int .i64 zp, .string zs, .int .i64 zi, .slice WU WV WW, .slice WX WY WZ, .slice Wd We Wh] 38)).cell? ⟨w5.heap.size, 1, none⟩ = some (.int .i64 zp) := by rw [jT]; rfl
      have x2 : (w5.alloc (.cells #[.int .i64 zk, .int .i64 zp, .string zs, .int .i64 zi, .slice WU WV WW, .slice WX WY WZ, .slice Wd We Wh] 38)).cell? ⟨w5.heap.size, 2, none⟩ = some (.string zs) := by rw [jT]; rfl
      have x3 : (w5.alloc (.cells #[.int .i64 zk, .int .i64 zp, .string zs, .int .i64 zi, .slice WU WV WW, .slice WX WY WZ, .slice Wd We Wh] 38)).cell? ⟨w5.heap.size, 3, none⟩ = some (.int .i64 zi) := by rw [jT]; rfl
      have x4 : (w5.alloc (.cells #[.int .i64 zk, .int .i64 zp, .string zs, .int .i64 zi, .slice WU WV WW, .slice WX WY WZ, .slice Wd We Wh] 38)).cell? ⟨w5.heap.size, 4, none⟩ = some (.slice WU WV WW) := by rw [jT]; rfl
      have x5 : (w5.alloc (.cells #[.int .i64 zk, .int .i64 zp, .string zs, .int .i64 zi, .slice WU WV WW, .slice WX WY WZ, .slice Wd We Wh] 38)).cell? ⟨w5.heap.size, 5, none⟩ = some (.slice WX WY WZ) := by rw [jT]; rfl
      have x6 : (w5.alloc (.cells #[.int .i64 zk, .int .i64 zp, .string zs, .int .i64 zi, .slice WU WV WW, .slice WX WY WZ, .slice Wd We Wh] 38)).cell? ⟨w5.heap.size, 6, none⟩ = some (.slice Wd We Wh) := by rw [jT]; rfl
      clear hal ht Uf hk1 hnew hb; go_upto_region 8 with fail
      generalize w5.alloc (.cells #[.int .i64 zk, .int .i64 zp, .string zs, .int .i64 zi, .slice WU WV WW, .slice WX WY WZ, .slice Wd We Wh] 38) = W5 at *; go_wp2_with (at_builtin; refine qi _ rfl (.tmp 25) (.tmp 27) 35 rfl w.heap.size 38 i0 (.agg #[.int .i64 0, .int .i64 0, .string ⟨#[]⟩, .int .i64 0, .slice none 0 0, .slice none 0 0, .slice none 0 0]) 7 112 Tryd.underlying35 I0 PQ PR PS rfl (by decide) _ vs.length _ rfl (zV.out.alloc _) ⟨W5.heap.size, 0, none⟩ 1 1 [.int .i64 zk, .int .i64 zp, .string zs, .int .i64 zi, .slice WU WV WW, .slice WX WY WZ, .slice Wd We Wh] rfl (by decide) rfl ?c1 ?c2 ?c3 ?c4 ?c5 ?_)
      case c1 => exact fun j u h => Mh W5 _ _ _ _ _ _ _ _ j u h
      case c2 => intro u hu; simp only [jf, Ja, Qu] at hu; rcases hu with rfl | rfl | rfl | rfl | rfl | rfl | rfl <;> rfl
      case c3 => have := Gr.out; unfold maxLen; omega
      case c4 => have := Gr.out; omega
      case c5 => simp; omega
      intro v6 w6 hown hgr hloc; have uo : ∀ kk, (Value.slice pa vs.length ca).ownBlock = some kk -> w.heap.size <= kk := fun kk hkk => (zV.out.lt kk hkk).1
      have vD := hid ((HB2.out.alloc HB2.out.size (.cells #[.int .i64 zk, .int .i64 zp, .string zs, .int .i64 zi, .slice WU WV WW, .slice WX WY WZ, .slice Wd We Wh] 38)).grown hgr (by have := HB2.out.size; simp; omega) (fun kk hkk => by have := uo kk hkk; omega)); have hstep : ∀ z x, Kept (JB f) w.heap.size W5 (Value.slice pa vs.length ca).ownBlock z x -> Kept (JB f) w.heap.size w6 v6.ownBlock z x := fun z x hk => (hk.below ((jD _ _).alloc (jB _) (.cells #[.int .i64 zk, .int .i64 zp, .string zs, .int .i64 zi, .slice WU WV WW, .slice WX WY WZ, .slice Wd We Wh] 38))).step hgr.size (fun b hb1 hb2 => hgr.block b hb1 (fun e => hb2 e.symm)) (by rw [Jt]; exact hloc)
      have Ya : qw (Kept (JB f) w.heap.size w6 v6.ownBlock) (vs ++ [.agg #[.int .i64 zk, .int .i64 zp, .string zs, .int .i64 zi, .slice WU WV WW, .slice WX WY WZ, .slice Wd We Wh]]) (xs ++ [x]) := qw.snoc (hstep _ _ WT.out) (Zt.out.1.mono hstep); rw [<- dz] at hown; have uD := hid hown; have rH := hid Ya
      clear hown hgr hloc uo hstep Ya x0 x1 x2 x3 x4 x5 x6; go_wp2
      go_roundw
      case rel => exact ⟨j + 1, vs ++ [.agg #[.int .i64 zk, .int .i64 zp, .string zs, .int .i64 zi, .slice WU WV WW, .slice WX WY WZ, .slice Wd We Wh]], xs ++ [x], by go_num, by omega, rF, hid (by have := Gr.out; simp [this]), hid ⟨rH.out, fun u hu => (jW.1 hu).elim (fun h => Zt.out.2 u h) (fun h => by rw [j4.1 h]; exact rG.out)⟩, hid (by rw [jE]; exact uD.out), vD⟩
      case measure => simp [intOf]; omega
  . have Ey : j = l.length := by omega
    subst Ey; have he := HE.out; rw [jY] at he; have uh := hid he; have rJ := hid (qw.len uz.out.1); obtain ⟨pa, ca, rfl⟩ := jH HO; clear he; go_wp2; go_ret2; exact Jq uh HB ⟨_, _, _, rfl⟩ (fun u hu => uu HO rJ uz.out.1 (fun v hv => VG (uz.out.2 v hv)) u hu)
theorem YK (f : Nat) (n : Px.Node) (hl : Px.jR n = false) :
 (n.tok.kind = 2 -> Px.expr (f + 1) n = .ok (.mk 0 n.pos [] n.tok.int [] [] [])) /\ (n.tok.kind = 4 -> Px.expr (f + 1) n = .ok (.mk 2 n.pos n.text 0 [] [] [])) /\
   (n.tok.kind ≠ 2 -> n.tok.kind ≠ 4 -> Px.expr (f + 1) n = match Px.name n with | .ok s => .ok (.mk 1 n.pos s 0 [] [] []) | .error p => .error p) := by
 have h0 : Px.expr (f + 1) n = if Px.yB n then .ok (.mk 0 n.pos [] n.tok.int [] [] []) else if Px.qY n then .ok (.mk 2 n.pos n.text 0 [] [] []) else if Px.qR n then .ok (.mk 1 n.pos n.text 0 [] [] []) else .error n.pos := by
  rw [Px.expr, hl]; rfl
 have hi : Px.yB n = (n.tok.kind == 2) := rfl; have hc : Px.qY n = (n.tok.kind == 4) := rfl; refine ⟨fun h2 => ?_, fun h4 => ?_, fun h2 h4 => ?_⟩
 . rw [h0, hi, h2]; simp
 . rw [h0, hi, hc, h4]; simp
 . have e2 : (n.tok.kind == 2) = false := qF.2 h2; have e4 : (n.tok.kind == 4) = false := qF.2 h4; rw [h0, hi, hc, e2, e4]; unfold Px.name; by_cases hn : Px.qR n = true
   . simp [hn]
   . simp [hn]
theorem Ug (f : Nat) (k : Nat) (w w' : World) (p : Nat) (s : List UInt8) (i : Int) : New (JB (f + 1)) w w' (.agg #[.int .i64 k, .int .i64 p, .string ⟨s.toArray⟩, .int .i64 i, .slice none 0 0, .slice none 0 0, .slice none 0 0]) (.mk k p s i [] [] []) :=
 fun u hu => ⟨_, _, _, rfl, .inl ⟨rfl, none, 0, rfl⟩, .inl ⟨rfl, none, 0, rfl⟩, .inl ⟨rfl, none, 0, rfl⟩⟩
theorem Mi (f : Nat) (n : Px.Node) (lv : Value) (w : World) (hg : Px.jq n) (hl : Px.jR n = false) (hk : n.tok.kind = 2) : Calls Tryd.prog 62 #[nV n lv] w (qN w (JB (f + 1)) qH (Px.expr (f + 1) n)) := by
 have hp := (YK f n hl).1 hk; have HP := hid hp; unfold nV at *; rw [hl] at *; clear hl hp hg; rw [hk] at *; clear hk; go_enter Tryd.func62, Tryd.ntmps62; obtain ⟨en, er, et, hb, hsz⟩ := Yv w #[.int .i64 2, .int .i64 n.tok.pos, .string ⟨n.tok.text.toArray⟩, .int .i64 n.tok.int, .bool false, lv] #[.int .i64 0, .int .i64 0, .string ⟨#[]⟩, .int .i64 0, .slice none 0 0, .slice none 0 0, .slice none 0 0] #[.int .i64 0, .int .i64 n.tok.pos, .string ⟨#[]⟩, .int .i64 0, .slice none 0 0, .slice none 0 0, .slice none 0 0] 73 38 38; have EN := hid en; have ER := hid er; have ET := hid et; have HB := hid hb
 replace hsz := JS hsz.symm; clear en er et hb; obtain ⟨Jd, enc1, enc2, enc3, enc4, JZ, QI⟩ := xF6 EN; obtain ⟨j3, jv, jw, JH, JX, Jy, Jz, QH⟩ := xF7 ET; go_upto_region 4 with fail
 generalize Ov : ((w.alloc (.cells #[.int .i64 2, .int .i64 n.tok.pos, .string ⟨n.tok.text.toArray⟩, .int .i64 n.tok.int, .bool false, lv] 73)).alloc (.cells #[.int .i64 0, .int .i64 0, .string ⟨#[]⟩, .int .i64 0, .slice none 0 0, .slice none 0 0, .slice none 0 0] 38)).alloc (.cells #[.int .i64 0, .int .i64 n.tok.pos, .string ⟨#[]⟩, .int .i64 0, .slice none 0 0, .slice none 0 0, .slice none 0 0] 38) = w2 at *; clear Ov
 go_cut [4] (fun s wx => s = .pointer (some ⟨w.heap.size + 2, 0, none⟩) /\ wx = ((w2.setCell ⟨w.heap.size + 2, 0, none⟩ (.int .i64 0)).setCell ⟨w.heap.size + 2, 3, none⟩ (.int .i64 n.tok.int)).drew)
 case first =>
  go_region
  all_goals (try go_wp2_with fail)
  all_goals (go_meet; exact ⟨rfl, rfl⟩)
 case rest =>
 obtain ⟨rfl, rfl⟩ := hcut; clear Jd enc1 enc2 enc3 enc4 JZ QI j3 jv jw JH JX Jy Jz QH; replace EN := hid (jO (jO (EN.out) (w.heap.size + 2) 0 (.int .i64 0) (by omega)) (w.heap.size + 2) 3 (.int .i64 n.tok.int) (by omega)); replace ER := hid (jO (jO (ER.out) (w.heap.size + 2) 0 (.int .i64 0) (by omega)) (w.heap.size + 2) 3 (.int .i64 n.tok.int) (by omega)); replace ET := hid (JI #[.int .i64 0, .int .i64 n.tok.pos, .string ⟨#[]⟩, .int .i64 n.tok.int, .slice none 0 0, .slice none 0 0, .slice none 0 0] (JI #[.int .i64 0, .int .i64 n.tok.pos, .string ⟨#[]⟩, .int .i64 0, .slice none 0 0, .slice none 0 0, .slice none 0 0] (ET.out) 0 (.int .i64 0) rfl) 3 (.int .i64 n.tok.int) rfl); replace HB := hid (jN (jN (HB.out) (p := ⟨w.heap.size + 2, 0, none⟩) (by dsimp only; omega) (.int .i64 0)) (p := ⟨w.heap.size + 2, 3, none⟩) (by dsimp only; omega) (.int .i64 n.tok.int)); replace EN := qM EN; replace ER := qM ER; replace ET := qM ET; replace HB := hid (HB.out.drew); replace hsz : w.heap.size + 3 <= (((w2.setCell ⟨w.heap.size + 2, 0, none⟩ (.int .i64 0)).setCell ⟨w.heap.size + 2, 3, none⟩ (.int .i64 n.tok.int)).drew).heap.size := by simpa using hsz
 generalize (((w2.setCell ⟨w.heap.size + 2, 0, none⟩ (.int .i64 0)).setCell ⟨w.heap.size + 2, 3, none⟩ (.int .i64 n.tok.int)).drew) = wq at *; obtain ⟨J3, J4, qA, qJ, qW, QQ, zN, Qx⟩ := xF7 ER; obtain ⟨j3, jv, jw, JH, JX, Jy, Jz⟩ := xQ7 ET; go_wp2_with fail; replace ER := hid (Je (ER.out) (.int .i64 0) (.int .i64 n.tok.pos) (.string ⟨#[]⟩) (.int .i64 n.tok.int) (.slice none 0 0) (.slice none 0 0) (.slice none 0 0)); replace HB := xS HB ER; obtain ⟨r0, r1, r2, r3, r4, r5, r6⟩ := xQ7 ER; refine jG (v := .tuple #[.agg #[.int .i64 0, .int .i64 n.tok.pos, .string ⟨#[]⟩, .int .i64 n.tok.int, .slice none 0 0, .slice none 0 0, .slice none 0 0], .int .i64 (-1)]) (by simp [results, Tryd.results62, go_sem, r0, r1, r2, r3, r4, r5, r6]) rfl ?_; exact Jq HP HB ⟨_, _, _, _, _, _, _, _, _, _, _, _, _, rfl⟩ (Ug f 0 _ _ n.tok.pos [] n.tok.int)
theorem Mj (f : Nat) (n : Px.Node) (lv : Value) (w : World) (hg : Px.jq n) (hl : Px.jR n = false) (hk : n.tok.kind = 4) : Calls Tryd.prog 62 #[nV n lv] w (qN w (JB (f + 1)) qH (Px.expr (f + 1) n)) := by
 have hp := (YK f n hl).2.1 hk; have HP := hid hp; unfold nV at *; rw [hl] at *; clear hl hp hg; rw [hk] at *; clear hk; go_enter Tryd.func62, Tryd.ntmps62; obtain ⟨en, er, et, hb, hsz⟩ := Yv w #[.int .i64 4, .int .i64 n.tok.pos, .string ⟨n.tok.text.toArray⟩, .int .i64 n.tok.int, .bool false, lv] #[.int .i64 0, .int .i64 0, .string ⟨#[]⟩, .int .i64 0, .slice none 0 0, .slice none 0 0, .slice none 0 0] #[.int .i64 0, .int .i64 n.tok.pos, .string ⟨#[]⟩, .int .i64 0, .slice none 0 0, .slice none 0 0, .slice none 0 0] 73 38 38; have EN := hid en; have ER := hid er; have ET := hid et; have HB := hid hb
 replace hsz := JS hsz.symm; clear en er et hb; obtain ⟨Jd, enc1, enc2, enc3, enc4, JZ, QI⟩ := xF6 EN; obtain ⟨j3, jv, jw, JH, JX, Jy, Jz, QH⟩ := xF7 ET; go_upto_region 7 with fail
 generalize Ov : ((w.alloc (.cells #[.int .i64 4, .int .i64 n.tok.pos, .string ⟨n.tok.text.toArray⟩, .int .i64 n.tok.int, .bool false, lv] 73)).alloc (.cells #[.int .i64 0, .int .i64 0, .string ⟨#[]⟩, .int .i64 0, .slice none 0 0, .slice none 0 0, .slice none 0 0] 38)).alloc (.cells #[.int .i64 0, .int .i64 n.tok.pos, .string ⟨#[]⟩, .int .i64 0, .slice none 0 0, .slice none 0 0, .slice none 0 0] 38) = w2 at *; clear Ov
 go_cut [4] (fun s wx => s = .pointer (some ⟨w.heap.size + 2, 0, none⟩) /\ wx = ((w2.setCell ⟨w.heap.size + 2, 0, none⟩ (.int .i64 2)).setCell ⟨w.heap.size + 2, 2, none⟩ (.string ⟨n.tok.text.toArray⟩)).drew)
 case first =>
  go_region
  all_goals (try go_wp2_with fail)
  all_goals (go_meet; exact ⟨rfl, rfl⟩)
 case rest =>
 obtain ⟨rfl, rfl⟩ := hcut; clear Jd enc1 enc2 enc3 enc4 JZ QI j3 jv jw JH JX Jy Jz QH; replace EN := hid (jO (jO (EN.out) (w.heap.size + 2) 0 (.int .i64 2) (by omega)) (w.heap.size + 2) 2 (.string ⟨n.tok.text.toArray⟩) (by omega)); replace ER := hid (jO (jO (ER.out) (w.heap.size + 2) 0 (.int .i64 2) (by omega)) (w.heap.size + 2) 2 (.string ⟨n.tok.text.toArray⟩) (by omega)); replace ET := hid (JI #[.int .i64 2, .int .i64 n.tok.pos, .string ⟨n.tok.text.toArray⟩, .int .i64 0, .slice none 0 0, .slice none 0 0, .slice none 0 0] (JI #[.int .i64 2, .int .i64 n.tok.pos, .string ⟨#[]⟩, .int .i64 0, .slice none 0 0, .slice none 0 0, .slice none 0 0] (ET.out) 0 (.int .i64 2) rfl) 2 (.string ⟨n.tok.text.toArray⟩) rfl); replace HB := hid (jN (jN (HB.out) (p := ⟨w.heap.size + 2, 0, none⟩) (by dsimp only; omega) (.int .i64 2)) (p := ⟨w.heap.size + 2, 2, none⟩) (by dsimp only; omega) (.string ⟨n.tok.text.toArray⟩)); replace EN := qM EN; replace ER := qM ER; replace ET := qM ET; replace HB := hid (HB.out.drew); replace hsz : w.heap.size + 3 <= (((w2.setCell ⟨w.heap.size + 2, 0, none⟩ (.int .i64 2)).setCell ⟨w.heap.size + 2, 2, none⟩ (.string ⟨n.tok.text.toArray⟩)).drew).heap.size := by simpa using hsz
 generalize (((w2.setCell ⟨w.heap.size + 2, 0, none⟩ (.int .i64 2)).setCell ⟨w.heap.size + 2, 2, none⟩ (.string ⟨n.tok.text.toArray⟩)).drew) = wq at *; obtain ⟨J3, J4, qA, qJ, qW, QQ, zN, Qx⟩ := xF7 ER; obtain ⟨j3, jv, jw, JH, JX, Jy, Jz⟩ := xQ7 ET; go_wp2_with fail; replace ER := hid (Je (ER.out) (.int .i64 2) (.int .i64 n.tok.pos) (.string ⟨n.tok.text.toArray⟩) (.int .i64 0) (.slice none 0 0) (.slice none 0 0) (.slice none 0 0)); replace HB := xS HB ER; obtain ⟨r0, r1, r2, r3, r4, r5, r6⟩ := xQ7 ER; refine jG (v := .tuple #[.agg #[.int .i64 2, .int .i64 n.tok.pos, .string ⟨n.tok.text.toArray⟩, .int .i64 0, .slice none 0 0, .slice none 0 0, .slice none 0 0], .int .i64 (-1)]) (by simp [results, Tryd.results62, go_sem, r0, r1, r2, r3, r4, r5, r6]) rfl ?_; exact Jq HP HB ⟨_, _, _, _, _, _, _, _, _, _, _, _, _, rfl⟩ (Ug f 2 _ _ n.tok.pos n.tok.text 0)
theorem lF (f : Nat) (n : Px.Node) (lv : Value) (w : World) (hg : Px.jq n) (hl : Px.jR n = false) (h2 : n.tok.kind ≠ 2) (h4 : n.tok.kind ≠ 4) : Calls Tryd.prog 62 #[nV n lv] w (qN w (JB (f + 1)) qH (Px.expr (f + 1) n)) := by
 have hp := (YK f n hl).2.2 h2 h4; have xH := hid (fun w => YJ n lv w hg); have HP := hid hp; unfold nV at *; rw [hl] at *; clear hl hp hg; have e2 : (n.tok.kind == 2) = false := qF.2 h2; have e4 : (n.tok.kind == 4) = false := qF.2 h4; go_enter Tryd.func62, Tryd.ntmps62; obtain ⟨en, er, et, hb, hsz⟩ := Yv w #[.int .i64 n.tok.kind, .int .i64 n.tok.pos, .string ⟨n.tok.text.toArray⟩, .int .i64 n.tok.int, .bool false, lv] #[.int .i64 0, .int .i64 0, .string ⟨#[]⟩, .int .i64 0, .slice none 0 0, .slice none 0 0, .slice none 0 0] #[.int .i64 0, .int .i64 n.tok.pos, .string ⟨#[]⟩, .int .i64 0, .slice none 0 0, .slice none 0 0, .slice none 0 0] 73 38 38; have EN := hid en; have ER := hid er; have ET := hid et; have HB := hid hb
 replace hsz := JS hsz.symm; clear en er et hb; obtain ⟨Jd, enc1, enc2, enc3, enc4, JZ, QI⟩ := xF6 EN; go_wp2_with fail; clear Jd enc1 enc2 enc3 enc4 JZ QI; refine (xH.out _).mono ?_; intro e w6 E5; cases hnm : Px.name n with
 | error p =>
   obtain ⟨z, rfl, ⟨zs, rfl⟩, hb⟩ := Jb E5 hnm; replace ER := bE ER hb; replace ET := bE ET hb; replace HB := bT HB hb; clear hb; have VE := hid hnm; clear E5 hnm
   obtain ⟨j3, jv, jw, JH, JX, Jy, Jz, QH⟩ := xF7 ET; go_upto_region 11 with fail
   clear j3 jv jw JH JX Jy Jz QH; replace ER := hid (jO (jO (ER.out) (w.heap.size + 2) 0 (.int .i64 1) (by omega)) (w.heap.size + 2) 2 (.string zs) (by omega)); replace ET := hid (JI #[.int .i64 1, .int .i64 n.tok.pos, .string zs, .int .i64 0, .slice none 0 0, .slice none 0 0, .slice none 0 0] (JI #[.int .i64 1, .int .i64 n.tok.pos, .string ⟨#[]⟩, .int .i64 0, .slice none 0 0, .slice none 0 0, .slice none 0 0] (ET.out) 0 (.int .i64 1) rfl) 2 (.string zs) rfl); replace HB := hid (jN (jN (HB.out) (p := ⟨w.heap.size + 2, 0, none⟩) (by dsimp only; omega) (.int .i64 1)) (p := ⟨w.heap.size + 2, 2, none⟩) (by dsimp only; omega) (.string zs)); obtain ⟨J3, J4, qA, qJ, qW, QQ, zN, Qx⟩ := xF7 ER; obtain ⟨j3, jv, jw, JH, JX, Jy, Jz⟩ := xQ7 ET; go_wp2_with fail; replace ER := hid (Je (ER.out) (.int .i64 1) (.int .i64 n.tok.pos) (.string zs) (.int .i64 0) (.slice none 0 0) (.slice none 0 0) (.slice none 0 0)); replace HB := xS HB ER; obtain ⟨r0, r1, r2, r3, r4, r5, r6⟩ := xQ7 ER; refine jG (v := .tuple #[.agg #[.int .i64 1, .int .i64 n.tok.pos, .string zs, .int .i64 0, .slice none 0 0, .slice none 0 0, .slice none 0 0], .int .i64 p]) (by simp [results, Tryd.results62, go_sem, r0, r1, r2, r3, r4, r5, r6]) rfl ?_; exact jr (by rw [HP.out, VE.out]) HB ⟨_, _, _, _, _, _, _, _, _, _, _, _, _, rfl⟩
 | ok s =>
   obtain ⟨z, rfl, _, hnew, hb⟩ := Jm E5 hnm; obtain rfl := hnew.now; replace ER := bE ER hb; replace ET := bE ET hb; replace HB := bT HB hb; clear hb; have VE := hid hnm; clear E5 hnm hnew
   obtain ⟨j3, jv, jw, JH, JX, Jy, Jz, QH⟩ := xF7 ET; go_upto_region 11 with fail
   clear j3 jv jw JH JX Jy Jz QH; replace ER := hid (jO (jO (ER.out) (w.heap.size + 2) 0 (.int .i64 1) (by omega)) (w.heap.size + 2) 2 (.string ⟨s.toArray⟩) (by omega)); replace ET := hid (JI #[.int .i64 1, .int .i64 n.tok.pos, .string ⟨s.toArray⟩, .int .i64 0, .slice none 0 0, .slice none 0 0, .slice none 0 0] (JI #[.int .i64 1, .int .i64 n.tok.pos, .string ⟨#[]⟩, .int .i64 0, .slice none 0 0, .slice none 0 0, .slice none 0 0] (ET.out) 0 (.int .i64 1) rfl) 2 (.string ⟨s.toArray⟩) rfl); replace HB := hid (jN (jN (HB.out) (p := ⟨w.heap.size + 2, 0, none⟩) (by dsimp only; omega) (.int .i64 1)) (p := ⟨w.heap.size + 2, 2, none⟩) (by dsimp only; omega) (.string ⟨s.toArray⟩)); obtain ⟨J3, J4, qA, qJ, qW, QQ, zN, Qx⟩ := xF7 ER; obtain ⟨j3, jv, jw, JH, JX, Jy, Jz⟩ := xQ7 ET; go_wp2_with fail; replace ER := hid (Je (ER.out) (.int .i64 1) (.int .i64 n.tok.pos) (.string ⟨s.toArray⟩) (.int .i64 0) (.slice none 0 0) (.slice none 0 0) (.slice none 0 0)); replace HB := xS HB ER; obtain ⟨r0, r1, r2, r3, r4, r5, r6⟩ := xQ7 ER; refine jG (v := .tuple #[.agg #[.int .i64 1, .int .i64 n.tok.pos, .string ⟨s.toArray⟩, .int .i64 0, .slice none 0 0, .slice none 0 0, .slice none 0 0], .int .i64 (-1)]) (by simp [results, Tryd.results62, go_sem, r0, r1, r2, r3, r4, r5, r6]) rfl ?_; exact Jq (x := Px.Expr.mk 1 n.pos s 0 [] [] []) (by rw [HP.out, VE.out]) HB ⟨_, _, _, _, _, _, _, _, _, _, _, _, _, rfl⟩ (Ug f 1 _ _ n.tok.pos s 0)
theorem Mk (f : Nat) (n : Px.Node) (lv : Value) (w : World) (hg : Px.jq n) (hl : Px.jR n = false) : Calls Tryd.prog 62 #[nV n lv] w (qN w (JB (f + 1)) qH (Px.expr (f + 1) n)) := by
 by_cases h2 : n.tok.kind = 2
 . exact Mi f n lv w hg hl h2
 . by_cases h4 : n.tok.kind = 4
   . exact Mj f n lv w hg hl h4
   . exact lF f n lv w hg hl h2 h4
theorem Yb {α : Type} (enc : α -> Value) (h : ∀ x, (enc x).cells.toList = [enc x]) (l : List α) : cellsOf (l.map enc) = l.map enc := by
 induction l with
 | nil => rfl
 | cons a r ih =>
   have e : cellsOf ((a :: r).map enc) = (enc a).cells.toList ++ cellsOf (r.map enc) := by simp [cellsOf]
   rw [e, h, ih]; rfl
theorem u7 {α : Type} {enc : α -> Value} : ∀ {us : List Value} {ys : List α}, qw (fun v x => v = enc x) us ys -> us = ys.map enc
 | [], [], _ => rfl
 | u :: us, y :: ys, h => by rw [je, <- u7 h.2, h.1]
 | [], _ :: _, h => h.elim
 | _ :: _, [], h => h.elim
def uP {α : Type} (enc : α -> Value) (E : TypeId) (w : World) (base : Nat) (v : Value) (l : List α) (v' : Value) (w' : World) : Prop :=
 w'.ownsRow base E 1 v' l.length (l.map enc) /\ w.grownBy w' v.ownBlock /\ (v'.ownBlock = v.ownBlock \/ ∀ g, v'.ownBlock = some g -> w.heap.size <= g)
theorem vU {α : Type} (enc : α -> Value) (henc : ∀ x, (enc x).cells.toList = [enc x]) (Ow : ∀ x, (enc x).oneCell' = true) (E : TypeId) (TL : TypeId) (ht : Tryd.prog.underlying TL = some (.slice E)) {z : Value} {bytes : Nat}
 (hinfo : (Tryd.prog.info? E).map (fun i => (i.zero, i.size, i.bytes)) = some (some z, 1, bytes)) (hzs : z.cells.size = 1) (hby : bytes <= 1000)
 {w : World} {ops : Array Oper} {o : Oper} {a : Act} {K : Act -> World -> Prop} {Q : Exit -> Act -> World -> Prop} {X : Prop} (hgd : o.guard = none) (s x : Operand) (ho : o.op = .call { callee := .builtin .append, args := #[s, x], argTypes := #[TL, TL] })
 (base : Nat) (v : Value) (l : List α) (hs : a.eval s = v) (hown : w.ownsRow base E 1 v l.length (l.map enc)) (vx : Value) (hx : a.eval x = vx) (ys : List α) (hrow : JO 1 (fun v x => v = enc x) w vx ys) (hl : l.length + ys.length <= 1000000000) (hbase : base <= w.heap.size)
 (h : ∀ v' w', uP enc E w base v (l ++ ys) v' w' -> K (a.put o.dst v') w') : if Region.wanted o (yielded ops a.tmps) = true then Oper.wp Tryd.prog o a w K Q else X := by
 obtain ⟨i0, h0, h1, h2, h3⟩ := QL hinfo; refine qy (Js := fun v x => v = enc x) hgd s x TL ho base E i0 z 1 bytes ht h0 h1 h2 h3 hzs (by decide) v l.length (l.map enc) hs (by rw [Yb enc henc]; exact hown) vx hx ys hrow (fun u x hu c hc => ?_) (by unfold maxLen; omega) ?_ hbase ?_
 . subst hu; rw [henc] at hc; rw [j4.1 hc]; exact Ow x
 . have : (l.length + ys.length) * bytes <= 1000000000 * 1000 := Nat.mul_le_mul hl hby
   omega
 . intro v' w' us hr hsz ho' hg hlc; refine h v' w' ⟨?_, hg, hlc⟩; have e := u7 hr; subst e; rw [<- QN, Yb enc henc] at ho'; rw [jE]; exact ho'
theorem QK {w : World} {ops : Array Oper} {rest : List Oper} {o : Oper} {a : Act} {Q : Exit -> Act -> World -> Prop} (hgd : o.guard = none)
 (h : ∀ K : Act -> World -> Prop, (∀ b u, wpList Tryd.prog ops Q rest b u -> K b u) -> if Region.wanted o (yielded ops a.tmps) = true then Oper.wp Tryd.prog o a w K Q else False) : wpList Tryd.prog ops Q (o :: rest) a w := by
 refine wpList_plain hgd fun K hK => ?_
 have := h K hK; rw [if_pos (by simp [Region.wanted, hgd])] at this; exact this
def encS (s : Nm) : Value := .string ⟨s.toArray⟩
def encI (p : Nat) : Value := .int .i64 (p : Int)
theorem rV : (Tryd.prog.info? 3).map (fun i => (i.zero, i.size, i.bytes)) = some (some (.int .i64 0), 1, 8) := by kernel_rfl
abbrev QW (w : World) (base : Nat) (v : Value) (l : List Nm) : Prop := w.ownsRow base 9 1 v l.length (l.map encS)
abbrev zW (w : World) (base : Nat) (v : Value) (l : List Nat) : Prop := w.ownsRow base 3 1 v l.length (l.map encI)
abbrev Yk (w : World) (v : Value) (l : List Nm) : Prop := JO 1 (zA w) w v l
abbrev rW (w : World) (v : Value) (l : List Nat) : Prop := JO 1 (fun v p => v = encI p) w v l
theorem qc {w : World} {ops : Array Oper} {o : Oper} {a : Act} {K : Act -> World -> Prop} {Q : Exit -> Act -> World -> Prop} {X : Prop} (hgd : o.guard = none) (s x : Operand) (ho : o.op = .call { callee := .builtin .append, args := #[s, x], argTypes := #[34, 34] })
 (base : Nat) (v : Value) (l : List Nm) (hs : a.eval s = v) (hown : QW w base v l) (vx : Value) (hx : a.eval x = vx) (ys : List Nm) (hrow : Yk w vx ys) (hl : l.length + ys.length <= 1000000000) (hbase : base <= w.heap.size)
 (h : ∀ v' w', uP encS 9 w base v (l ++ ys) v' w' -> K (a.put o.dst v') w') : if Region.wanted o (yielded ops a.tmps) = true then Oper.wp Tryd.prog o a w K Q else X :=
 vU encS (fun _ => rfl) (fun _ => rfl) 9 34 Tryd.underlying34 Ka rfl (by decide) hgd s x ho base v l hs hown vx hx ys hrow hl hbase h
theorem Qe {w : World} {ops : Array Oper} {rest : List Oper} {o : Oper} {a : Act} {Q : Exit -> Act -> World -> Prop} (hgd : o.guard = none) (s x : Operand) (ho : o.op = .call { callee := .builtin .append, args := #[s, x], argTypes := #[34, 34] })
 (base : Nat) (v : Value) (l : List Nm) (hs : a.eval s = v) (hown : QW w base v l) (vx : Value) (hx : a.eval x = vx) (ys : List Nm) (hrow : Yk w vx ys) (hl : l.length + ys.length <= 1000000000) (hbase : base <= w.heap.size)
 (h : ∀ v' w', uP encS 9 w base v (l ++ ys) v' w' -> wpList Tryd.prog ops Q rest (a.put o.dst v') w') : wpList Tryd.prog ops Q (o :: rest) a w :=
 QK hgd fun K hK => qc hgd s x ho base v l hs hown vx hx ys hrow hl hbase fun v' w' hA => hK _ _ (h v' w' hA)
theorem ZI {w : World} {ops : Array Oper} {o : Oper} {a : Act} {K : Act -> World -> Prop} {Q : Exit -> Act -> World -> Prop} {X : Prop} (hgd : o.guard = none) (s x : Operand) (ho : o.op = .call { callee := .builtin .append, args := #[s, x], argTypes := #[44, 44] })
 (base : Nat) (v : Value) (l : List Nat) (hs : a.eval s = v) (hown : zW w base v l) (vx : Value) (hx : a.eval x = vx) (ys : List Nat) (hrow : rW w vx ys) (hl : l.length + ys.length <= 1000000000) (hbase : base <= w.heap.size)
 (h : ∀ v' w', uP encI 3 w base v (l ++ ys) v' w' -> K (a.put o.dst v') w') : if Region.wanted o (yielded ops a.tmps) = true then Oper.wp Tryd.prog o a w K Q else X :=
 vU encI (fun _ => rfl) (fun _ => rfl) 3 44 Tryd.underlying44 rV rfl (by decide) hgd s x ho base v l hs hown vx hx ys hrow hl hbase h
theorem zK {w : World} {ops : Array Oper} {rest : List Oper} {o : Oper} {a : Act} {Q : Exit -> Act -> World -> Prop} (hgd : o.guard = none) (s x : Operand) (ho : o.op = .call { callee := .builtin .append, args := #[s, x], argTypes := #[44, 44] })
 (base : Nat) (v : Value) (l : List Nat) (hs : a.eval s = v) (hown : zW w base v l) (vx : Value) (hx : a.eval x = vx) (ys : List Nat) (hrow : rW w vx ys) (hl : l.length + ys.length <= 1000000000) (hbase : base <= w.heap.size)
 (h : ∀ v' w', uP encI 3 w base v (l ++ ys) v' w' -> wpList Tryd.prog ops Q rest (a.put o.dst v') w') : wpList Tryd.prog ops Q (o :: rest) a w :=
 QK hgd fun K hK => ZI hgd s x ho base v l hs hown vx hx ys hrow hl hbase fun v' w' hA => hK _ _ (h v' w' hA)
theorem uP.below {α : Type} {enc : α -> Value} {E : TypeId} {w w' : World} {base : Nat} {v v' : Value} {l l0 : List α} {B : Nat} {w0 : World} (h : uP enc E w base v l v' w') (hown : w.ownsRow base E 1 v l0.length (l0.map enc)) (hb : Below B w0 w) (h1 : B <= w.heap.size) (h2 : B <= base) : Below B w0 w' :=
 hb.grown h.2.1 h1 (fun k hk => by have := (hown.lt k hk).1; omega)
theorem uP.at {α : Type} {enc : α -> Value} {E : TypeId} {w w' : World} {base : Nat} {v v' : Value} {l l0 : List α} (h : uP enc E w base v l v' w') (hown : w.ownsRow base E 1 v l0.length (l0.map enc)) {g : Nat} {o : Obj} (he : w.heap[g]? = some o) (hg : g < base) : w'.heap[g]? = some o :=
 (h.2.1.block g (ji he) (fun e => by have := (hown.lt g e.symm).1; omega)).trans he
theorem Ht {w : World} {base n : Nat} {v : Value} {l : List Nm} (h : w.ownsRow base 9 1 v n (l.map encS)) (hn : n = l.length) : Yk w v l := by
 refine KY (by rw [Yb encS (fun _ => rfl)]; exact h) hn ?_ (fun u hu => ?_)
 . clear h hn
   induction l with
   | nil => trivial
   | cons a r ih => exact ⟨rfl, ih⟩
 . obtain ⟨x, _, rfl⟩ := ZB.1 hu; rfl
theorem Ml {w : World} {base n : Nat} {v : Value} {l : List Nat} (h : w.ownsRow base 3 1 v n (l.map encI)) (hn : n = l.length) : rW w v l := by
 refine KY (by rw [Yb encI (fun _ => rfl)]; exact h) hn ?_ (fun u hu => ?_)
 . clear h hn
   induction l with
   | nil => trivial
   | cons a r ih => exact ⟨rfl, ih⟩
 . obtain ⟨x, _, rfl⟩ := ZB.1 hu; rfl
def E8 (w : World) (l : List Nm) (e : Ending) (w' : World) : Prop := ∃ v, e = .returned v /\ Below w.heap.size w w' /\ New (fun u => Yk u) w w' v l
theorem UA {w w' : World} {base n : Nat} {v : Value} {l : List Nm} (h : w'.ownsRow base 9 1 v n (l.map encS)) (hn : n = l.length) (hb : w.heap.size <= base) : New (fun u => Yk u) w w' v l :=
 fun u hu => Ht (Qp h fun b hb' => hu b (by have := (h.lt b hb').1; omega) (h.lt b hb').2) hn
theorem yT {f : Nat} {w : World} {v : Value} {p : Px.QJ} (h : qj f w v p) : ∃ (a0 a1 : Int) (a2 : ByteArray) (a3 : Int) (q : Option Addr) (n c : Nat), v = .agg #[.int .i64 a0, .int .i64 a1, .string a2, .int .i64 a3, .slice q n c] := by
 cases f with
 | zero => exact h.elim
 | succ f =>
   cases p with | mk k p nm i xs =>
   obtain ⟨av, rfl, hr⟩ := h; obtain ⟨q, c, rfl⟩ := hr.len; exact ⟨_, _, _, _, _, _, _, rfl⟩
theorem zw {f : Nat} {w : World} {v : Value} {x : Px.Expr} (h : JB f w v x) : qH v := by
 cases f with
 | zero => exact h.elim
 | succ f =>
   cases x with | mk k p nm i ns xs al =>
   obtain ⟨nv, xv, av, rfl, h1, h2, h3⟩ := h; obtain ⟨q1, c1, rfl⟩ := h1.len; obtain ⟨q2, c2, rfl⟩ := h2.len; obtain ⟨q3, c3, rfl⟩ := h3.len; exact ⟨_, _, _, _, _, _, _, _, _, _, _, _, _, rfl⟩
theorem JM {w w' : World} {v : Value} {l : List Nm} (h : Yk w v l) (hb : Below w.heap.size w w') : Yk w' v l := h.mono hb (fun _ _ _ h => h)
theorem qB : ∀ {f : Nat} {w w' : World} {v : Value} {p : Px.QJ}, qj f w v p -> Below w.heap.size w w' -> qj f w' v p := by
 intro f
 induction f with
 | zero => intro w w' v p h; exact h.elim
 | succ f ih =>
   intro w w' v p h hb; cases p with | mk k p nm i xs =>
   obtain ⟨av, rfl, hr⟩ := h; exact ⟨av, rfl, hr.mono hb (fun u x _ hu => ih hu hb)⟩
theorem JY : ∀ {f : Nat} {w w' : World} {v : Value} {x : Px.Expr}, JB f w v x -> Below w.heap.size w w' -> JB f w' v x := by
 intro f
 induction f with
 | zero => intro w w' v x h; exact h.elim
 | succ f ih =>
   intro w w' v x h hb; cases x with | mk k p nm i ns xs al =>
   obtain ⟨nv, xv, av, rfl, h1, h2, h3⟩ := h; refine ⟨nv, xv, av, rfl, JM h1 hb, h2.mono hb (fun u x _ hu => ih hu hb), h3.mono hb (fun u x _ hu => ?_)⟩; obtain ⟨a0, a1, a2, a3, a4, b0, b1, b2, b3, b4, b5, b6, rfl, hp, he⟩ := hu; exact ⟨_, _, _, _, _, _, _, _, _, _, _, _, rfl, qB hp hb, ih he hb⟩
namespace Sx
def jV : Nat -> Px.QJ -> List Nm
 | 0, _ => []
 | f + 1, .mk k _ nm _ xs => if k = 1 then [nm] else xs.flatMap (jV f)
def qE : Nat -> Px.Expr -> List Nm -> List Nm
 | 0, _, _ => []
 | f + 1, .mk k _ nm _ ns xs al, but => ((if k = 1 /\ but.contains nm = false then [nm] else []) ++ xs.flatMap fun y => qE f y (but ++ ns)) ++ al.flatMap fun a => qE f a.2 (but ++ jV f a.1)
def once : List Nm -> List Nm -> List Nm
 | out, [] => out
 | out, s :: r => once (if out.contains s then out else out ++ [s]) r
def gU (f : Nat) (x : Px.Expr) : List Nm := once [] (qE f x [])
def pw : Nat -> Px.QJ -> Nat
 | 0, _ => 0
 | f + 1, .mk _ _ nm _ xs => 1 + nm.length + (xs.map (pw f)).sum
def ew : Nat -> Px.Expr -> Nat
 | 0, _ => 0
 | f + 1, .mk _ _ nm _ ns xs al => 1 + nm.length + nw ns + (xs.map (ew f)).sum + (al.map fun a => pw f a.1 + ew f a.2).sum
theorem QD {α : Type} (g : α -> Nat) (l : List α) (k : Nat) (x : α) (h : l[k]? = some x) : ((l.take k).map g).sum + g x <= (l.map g).sum := by
 obtain ⟨hk, rfl⟩ := jm.1 h
 conv => rhs; rw [<- uK k l, Jg hk]
 simp only [QN, je, List.sum_append, jy]; omega
theorem E9 {α : Type} (g : α -> Nat) {l : List α} {x : α} (h : x ∈ l) : g x <= (l.map g).sum := by
 obtain ⟨k, hk⟩ := ZQ.1 h; have := QD g l k x hk; omega
theorem yx {α : Type} (g : α -> List Nm) (h : α -> Nat) : ∀ (l : List α), (∀ x ∈ l, nw (g x) <= h x) -> nw (l.flatMap g) <= (l.map h).sum
 | [], _ => by simp [nw]
 | a :: r, hx => by
   rw [qP, Ud, je, jy]; have h1 := hx a (by simp); have h2 := yx g h r (fun x hm => hx x (by simp [hm])); omega
theorem zB : ∀ (f : Nat) (p : Px.QJ), nw (jV f p) <= pw f p
 | 0, _ => by simp [jV, nw]
 | f + 1, .mk k p nm i xs => by
   rw [jV, pw]
   split
   . rw [Gp]; simp [nw]; omega
   . have := yx (jV f) (pw f) xs (fun x _ => zB f x); omega
theorem Yc : ∀ (f : Nat) (x : Px.Expr) (but : List Nm), nw (qE f x but) <= ew f x
 | 0, _, _ => by simp [qE, nw]
 | f + 1, .mk k p nm i ns xs al, but => by
   rw [qE, ew, Ud, Ud]; have h1 := yx (fun y => qE f y (but ++ ns)) (ew f) xs (fun x _ => Yc f x _); have h2 := yx (fun a : Px.QJ × Px.Expr => qE f a.2 (but ++ jV f a.1)) (fun a => pw f a.1 + ew f a.2) al (fun a _ => by have := Yc f a.2 (but ++ jV f a.1); omega)
   have h3 : nw (if k = 1 /\ but.contains nm = false then [nm] else []) <= 1 + nm.length := by
    split
    . rw [Gp]; simp [nw]; omega
    . simp [nw]
   omega
theorem YB {α : Type} (g : α -> List Nm) (l : List α) (k : Nat) (x : α) (h : l[k]? = some x) : (l.take (k + 1)).flatMap g = (l.take k).flatMap g ++ g x := by
 rw [JC, h]; simp
theorem gV (l : List Nm) (s : Nm) : ∀ out, once out (l ++ [s]) = if (once out l).contains s then once out l else once out l ++ [s] := by
 induction l with
 | nil => intro out; rfl
 | cons a r ih => intro out; rw [JQ, once, ih, once]
theorem Mm : ∀ (l out : List Nm), (once out l).length <= out.length + l.length := by
 intro l
 induction l with
 | nil => intro out; simp [once]
 | cons a r ih =>
   intro out; rw [once]; have := ih (if out.contains a then out else out ++ [a]); have h2 : (if out.contains a then out else out ++ [a]).length <= out.length + 1 := by split <;> simp
   rw [JG]; omega
end Sx
theorem Kc (f k : Nat) (n : Px.Node) (v : Value) (w : World) (hn : Qw (k + 1) w v n) (hg : Px.jq n) (hl : Px.jR n = true) (hw1 : Px.word n = [102, 110]) (hcall : ∀ v w1, Qw (k + 1) w1 v n -> Calls Tryd.prog 63 #[v] w1 (qN w1 (JB (f + 1)) qH (Px.zU (Px.expr f) n))) : Calls Tryd.prog 47 #[v] w (qN w (JB (f + 1)) qH (Px.expr (f + 1) n)) := by
 have Vv := hid hn; obtain ⟨lv, rfl, hr⟩ := hn; obtain ⟨q, c, rfl⟩ := hr.len
 have hp0 : Px.expr (f + 1) n = (if Px.word n = [102, 110] then Px.zU (Px.expr f) n else if Px.word n = [108, 101, 116] then Px.letExpr (Px.expr f) n else if Px.word n = [99, 97, 115, 101] then Px.qm f (Px.expr f) n else Px.J2 (Px.expr f) n) := by
  rw [Px.expr, if_pos hl]; rfl
 have vT : Hid (Px.expr (f + 1) n = Px.zU (Px.expr f) n) := hid (by rw [hp0, if_pos hw1]); have Hu := hid hcall; clear hcall
 have Hy : Px.Yu n [102, 110] = true := by rw [Px.head_eq hg [102, 110] (by decide) (by unfold Px.Plain; decide) (by decide)]; exact JL hw1
 have fA := hid Hy; have Xq := hid (fun w1 (hb : Below w.heap.size w w1) (s : List UInt8) => VC (k + 1) n _ s w1 (Vv.out.below hb)); clear hr hg hp0 hw1 Hy; unfold nV at *; rw [hl] at Vv Xq ⊢; clear hl; go_enter Tryd.func47, Tryd.ntmps47; obtain ⟨en, er, et, hb, hsz⟩ := Yv w #[.int .i64 n.tok.kind, .int .i64 n.tok.pos, .string ⟨n.tok.text.toArray⟩, .int .i64 n.tok.int, .bool true, (.slice q n.list.length c)] #[.int .i64 0, .int .i64 0, .string ⟨#[]⟩, .int .i64 0, .slice none 0 0, .slice none 0 0, .slice none 0 0] #[.int .i64 0, .int .i64 n.tok.pos, .string ⟨#[]⟩, .int .i64 0, .slice none 0 0, .slice none 0 0, .slice none 0 0] 73 38 38; have EN := hid en; have ER := hid er; have ET := hid et; have HB := hid hb
 replace hsz := JS hsz.symm; clear en er et hb; obtain ⟨Jd, enc1, enc2, enc3, enc4, JZ, QI⟩ := xF6 EN; go_wp2_with fail; clear Jd enc1 enc2 enc3 enc4 JZ QI; refine (Xq.out _ HB.out [102, 110]).mono ?_; rintro e OC ⟨rfl, hb⟩; rw [fA.out]; replace hsz := bS hsz hb; replace EN := bE EN hb; replace ER := bE ER hb; replace HB := bT HB hb; clear hb; obtain ⟨Jd, enc1, enc2, enc3, enc4, JZ, QI⟩ := xF6 EN; go_wp2_with fail; clear Jd enc1 enc2 enc3 enc4 JZ QI; have QX := hid hsz; refine (Hu.out _ _ (Vv.out.below HB.out)).mono ?_; intro e w5 ht; cases hx : Px.zU (Px.expr f) n with
 | error p =>
   obtain ⟨z, rfl, ⟨xk, xp, vE, xi, q1, n1, c1, q2, n2, c2, q3, n3, c3, rfl⟩, hb⟩ := Jb ht hx; have HX := hid hx; replace ER := bE ER hb; replace HB := bT HB hb; clear hb; clear ht hx EN ET; obtain ⟨J3, J4, qA, qJ, qW, QQ, zN, Qx⟩ := xF7 ER; go_wp2_with fail; replace ER := hid (Je (ER.out) (.int .i64 xk) (.int .i64 xp) (.string vE) (.int .i64 xi) (.slice q1 n1 c1) (.slice q2 n2 c2) (.slice q3 n3 c3)); replace HB := xS HB ER; obtain ⟨r0, r1, r2, r3, r4, r5, r6⟩ := xQ7 ER; refine jG (v := .tuple #[.agg #[.int .i64 xk, .int .i64 xp, .string vE, .int .i64 xi, .slice q1 n1 c1, .slice q2 n2 c2, .slice q3 n3 c3], .int .i64 p]) (by simp [results, Tryd.results47, go_sem, r0, r1, r2, r3, r4, r5, r6]) rfl ?_; exact jr (by rw [vT.out, HX.out]) HB ⟨_, _, _, _, _, _, _, _, _, _, _, _, _, rfl⟩
 | ok x =>
   obtain ⟨z, rfl, ⟨xk, xp, vE, xi, q1, n1, c1, q2, n2, c2, q3, n3, c3, rfl⟩, hnew, hb⟩ := Jm ht hx; have HX := hid hx; have Vw := hid hnew
   have S1 := hid (JR.refl OC.heap.size w5); replace ER := bE ER hb; replace HB := bT HB hb; clear hb; clear ht hx hnew EN ET; obtain ⟨J3, J4, qA, qJ, qW, QQ, zN, Qx⟩ := xF7 ER; go_wp2_with fail; replace ER := hid (Je (ER.out) (.int .i64 xk) (.int .i64 xp) (.string vE) (.int .i64 xi) (.slice q1 n1 c1) (.slice q2 n2 c2) (.slice q3 n3 c3)); replace HB := xS HB ER; obtain ⟨r0, r1, r2, r3, r4, r5, r6⟩ := xQ7 ER; refine jG (v := .tuple #[.agg #[.int .i64 xk, .int .i64 xp, .string vE, .int .i64 xi, .slice q1 n1 c1, .slice q2 n2 c2, .slice q3 n3 c3], .int .i64 (-1)]) (by simp [results, Tryd.results47, go_sem, r0, r1, r2, r3, r4, r5, r6]) rfl ?_; exact Jq (x := x) (by rw [vT.out, HX.out]) HB ⟨_, _, _, _, _, _, _, _, _, _, _, _, _, rfl⟩ (New.stay Vw (by have := QX.out; omega) (JR.set (JR.set (JR.set (JR.set (JR.set (JR.set (JR.set (S1.out) (w.heap.size + 1) 0 _ (by have := QX.out; omega)) (w.heap.size + 1) 1 _ (by have := QX.out; omega)) (w.heap.size + 1) 2 _ (by have := QX.out; omega)) (w.heap.size + 1) 3 _ (by have := QX.out; omega)) (w.heap.size + 1) 4 _ (by have := QX.out; omega)) (w.heap.size + 1) 5 _ (by have := QX.out; omega)) (w.heap.size + 1) 6 _ (by have := QX.out; omega)))
end Go.Proofs.YtlnjdclmopblcaaDoor
