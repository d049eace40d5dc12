/-
  Several texts in one: RNodes, RAny, RTwo.
-/
import Derived.Test.YtgoacbomphlhjaaP00
import Derived.Test.YtgoacbomphlhjaaP07
import Derived.Deep.DeepCutAuto
import Derived.BigRegion
import Derived.Test.YtgoacbomphlhjaaP01
import Derived.Deep.RegionHeld
import Derived.Test.YtgoacbomphlhjaaP10
set_option linter.unusedVariables false
set_option linter.unusedSimpArgs false
namespace Go.Proofs.Ytgoacbomphlhjaa
open Go.Lib (hid)
open List renaming getElem_toArray → jX, getElem_cons_succ → jY, getElem_cons_zero → jZ, setIfInBounds_toArray → JA, set_cons_zero → JB, set_cons_succ → JC
open Go Go.RowKit
theorem ent2 (w : World) (a b : Array Value) (TA TB : TypeId) :
 ((w.alloc (.cells a TA)).alloc (.cells b TB)).heap[w.heap.size]? = some (.cells a TA (0, 0)) ∧ ((w.alloc (.cells a TA)).alloc (.cells b TB)).heap[w.heap.size + 1]? = some (.cells b TB (0, 0)) ∧
   Below w.heap.size w ((w.alloc (.cells a TA)).alloc (.cells b TB)) ∧ ((w.alloc (.cells a TA)).alloc (.cells b TB)).heap.size = w.heap.size + 2 := by
 refine ⟨jH (jI w a TA) _, ?_, ((Below.refl _ w).alloc (Nat.le_refl _) _).alloc (by simp) _, by simp⟩
 have := jI (w.alloc (.cells a TA)) b TB
 rw [World.size_alloc] at this; exact this
def TokV (t : Lx.Tok) : Value := .agg #[.int .i64 t.kind, .int .i64 t.pos, .string ⟨t.text.toArray⟩, .int .i64 t.int]
def TokRow (w : World) (lv : Value) (all : List Lx.Tok) : Prop := RowAt 4 (fun v t => v = TokV t) w lv all
def ShNode (v : Value) : Prop := ∃ (k p : Int) (s : ByteArray) (i : Int) (b : Bool) (q : Option Addr) (n c : Nat), v = .agg #[.int .i64 k, .int .i64 p, .string s, .int .i64 i, .bool b, .slice q n c]
/-- A node, the place behind it, and where it is wrong. -/
def RNodes (w : World) (all : List Lx.Tok) (D : Nat) (r : Px.R (Px.Node × List Lx.Tok)) (e : Ending) (w' : World) : Prop :=
 Below w.heap.size w w' ∧ ∃ v nx k, e = .returned (.tuple #[v, .int .i64 nx, .int .i64 k]) ∧ ShNode v ∧
  (match r with | .ok (n, ts) => k = -1 ∧ ∃ j : Nat, nx = (j : Int) ∧ j ≤ all.length ∧ ts = all.drop j ∧ New (NdAt D) w w' v n | .error p => k = (p : Int))
theorem rnodes_err {w w' : World} {all : List Lx.Tok} {D : Nat} {r : Px.R (Px.Node × List Lx.Tok)} {p : Nat} {v : Value} {nx : Int} (hr : r = .error p) (hb : Below w.heap.size w w') (hs : ShNode v) : RNodes w all D r (.returned (.tuple #[v, .int .i64 nx, .int .i64 (p : Int)])) w' := by
 subst hr; exact ⟨hb, v, nx, p, rfl, hs, rfl⟩
theorem rnodes_ok {w w' : World} {all : List Lx.Tok} {D : Nat} {r : Px.R (Px.Node × List Lx.Tok)} {n : Px.Node} {j : Nat} {v : Value} (hr : r = .ok (n, all.drop j)) (hj : j ≤ all.length) (hb : Below w.heap.size w w') (hs : ShNode v) (hn : New (NdAt D) w w' v n) : RNodes w all D r (.returned (.tuple #[v, .int .i64 (j : Int), .int .i64 (-1)])) w' := by
 subst hr; exact ⟨hb, v, j, -1, rfl, hs, rfl, j, rfl, hj, rfl, hn⟩
theorem tok_cells {g o : Nat} {w : World} {t : Lx.Tok} {i : Nat} {u : Value} (hu : u = TokV t) (hc : ∀ j z, u.cells[j]? = some z → w.cell? ⟨g, o + i * 4 + j, none⟩ = some z) :
 w.cell? ⟨g, o + i * 4, none⟩ = some (.int .i64 t.kind) ∧ w.cell? ⟨g, o + i * 4 + 1, none⟩ = some (.int .i64 t.pos) ∧ w.cell? ⟨g, o + i * 4 + 2, none⟩ = some (.string ⟨t.text.toArray⟩) ∧ w.cell? ⟨g, o + i * 4 + 3, none⟩ = some (.int .i64 t.int) := by
 subst hu
 exact ⟨hc 0 (.int .i64 t.kind) rfl, hc 1 (.int .i64 t.pos) rfl, hc 2 (.string ⟨t.text.toArray⟩) rfl, hc 3 (.int .i64 t.int) rfl⟩
set_option maxHeartbeats 4000000 in
set_option maxRecDepth 100000 in
theorem nodes_end (f d stop i : Nat) (all : List Lx.Tok) (lv : Value) (w : World) (hr : TokRow w lv all) (hi : all.length ≤ i) : Calls Try.prog 19 #[lv, .int .i64 i, .int .i64 d, .int .i64 stop] w (RNodes w all (41 - d) (Px.node stop (f + 1) d (all.drop i))) := by
 obtain ⟨q, c, rfl⟩ := hr.len
 have hp : Px.node stop (f + 1) d (all.drop i) = .error stop := by rw [List.drop_eq_nil_of_le hi]; rfl
 have HP := hid hp
 have hii : (i : Int) ≥ (all.length : Int) := by omega
 clear hr hp
 go_enter Try.func19, Try.ntmps19
 have ER := hid (jI w #[.int .i64 0, .int .i64 0, .string ⟨#[]⟩, .int .i64 0, .bool false, .slice none 0 0] 73)
 have HB := hid ((Below.refl w.heap.size w).alloc (Nat.le_refl _) (.cells #[.int .i64 0, .int .i64 0, .string ⟨#[]⟩, .int .i64 0, .bool false, .slice none 0 0] 73))
 go_upto_region 2 with fail
 generalize w.alloc (.cells #[.int .i64 0, .int .i64 0, .string ⟨#[]⟩, .int .i64 0, .bool false, .slice none 0 0] 73) = wz at ER HB ⊢
 have erc0 := jA ER.out 0 _ rfl
 have erc1 := jA ER.out 1 _ rfl
 have erc2 := jA ER.out 2 _ rfl
 have erc3 := jA ER.out 3 _ rfl
 have erc4 := jA ER.out 4 _ rfl
 have erc5 := jA ER.out 5 _ rfl
 have erf := jD ER.out
 have hsz := HB.out.size
 go_wp2_with fail
 replace ER := hid (ent_set6 (ER.out) (.int .i64 0) (.int .i64 0) (.string ⟨#[]⟩) (.int .i64 0) (.bool false) (.slice none 0 0))
 replace HB := hid (Below.setCell (Below.setCell (Below.setCell (Below.setCell (Below.setCell (Below.setCell (HB.out) (p := ⟨w.heap.size, 0, none⟩) (by dsimp only; omega) (.int .i64 0)) (p := ⟨w.heap.size, 1, none⟩) (by dsimp only; omega) (.int .i64 0)) (p := ⟨w.heap.size, 2, none⟩) (by dsimp only; omega) (.string ⟨#[]⟩)) (p := ⟨w.heap.size, 3, none⟩) (by dsimp only; omega) (.int .i64 0)) (p := ⟨w.heap.size, 4, none⟩) (by dsimp only; omega) (.bool false)) (p := ⟨w.heap.size, 5, none⟩) (by dsimp only; omega) (.slice none 0 0))
 have r0 := jA ER.out 0 _ rfl
 have r1 := jA ER.out 1 _ rfl
 have r2 := jA ER.out 2 _ rfl
 have r3 := jA ER.out 3 _ rfl
 have r4 := jA ER.out 4 _ rfl
 have r5 := jA ER.out 5 _ rfl
 refine bodyPost_ret (v := .tuple #[.agg #[.int .i64 0, .int .i64 0, .string ⟨#[]⟩, .int .i64 0, .bool false, .slice none 0 0], .int .i64 i, .int .i64 stop]) (by simp [results, Try.results19, go_sem, r0, r1, r2, r3, r4, r5]) rfl ?_
 exact rnodes_err HP.out HB.out ⟨_, _, _, _, _, _, _, _, rfl⟩
set_option maxHeartbeats 4000000 in
set_option maxRecDepth 100000 in
theorem nodes_leaf (f d stop i : Nat) (all : List Lx.Tok) (lv : Value) (w : World) (hr : TokRow w lv all) (hd : d ≤ 40) (t : Lx.Tok) (ht : all[i]? = some t) (hk0 : t.kind ≠ 0) (hk1 : t.kind ≠ 1) : Calls Try.prog 19 #[lv, .int .i64 i, .int .i64 d, .int .i64 stop] w (RNodes w all (41 - d) (Px.node stop (f + 1) d (all.drop i))) := by
 obtain ⟨q, c, rfl⟩ := hr.len
 have hlt : i < all.length := (List.getElem?_eq_some_iff.1 ht).1
 have hdr : all.drop i = t :: all.drop (i + 1) := by rw [List.drop_eq_getElem_cons hlt]; congr 1; exact (List.getElem?_eq_some_iff.1 ht).2
 have hp : Px.node stop (f + 1) d (all.drop i) = .ok (.mk t [] (Px.takesOf t.text), all.drop (i + 1)) := by rw [hdr, Px.node, if_neg hk1, if_neg hk0]
 have HP := hid hp
 have hii : ¬ (i : Int) ≥ (all.length : Int) := by omega
 have hij : (i : Int) < (all.length : Int) := by omega
 rcases hr with ⟨h0, _⟩ | ⟨g, of, c', hv, g1, g2, g3⟩
 · rw [h0] at hlt; simp at hlt
 injection hv with hq1 _ hq2
 subst hq1; subst hq2
 obtain ⟨u, hu, _, hcell⟩ := g3 i t ht
 obtain ⟨n0, n1, n2, n3⟩ := tok_cells hu hcell
 have HG3 := hid g3; have HTT := hid ht; have HLT := hid hlt
 clear hu hcell hp hdr g3 ht
 go_enter Try.func19, Try.ntmps19
 obtain ⟨er, et, hb, hsz⟩ := ent2 w #[.int .i64 0, .int .i64 0, .string ⟨#[]⟩, .int .i64 0, .bool false, .slice none 0 0] #[.int .i64 t.kind, .int .i64 t.pos, .string ⟨t.text.toArray⟩, .int .i64 t.int] 73 70
 have ER := hid er; have ET := hid et; have HB := hid hb
 replace n0 := jE ((Below.refl w.heap.size w).alloc (Nat.le_refl _) (.cells #[.int .i64 0, .int .i64 0, .string ⟨#[]⟩, .int .i64 0, .bool false, .slice none 0 0] 73)) n0
 replace n1 := jE ((Below.refl w.heap.size w).alloc (Nat.le_refl _) (.cells #[.int .i64 0, .int .i64 0, .string ⟨#[]⟩, .int .i64 0, .bool false, .slice none 0 0] 73)) n1
 replace n2 := jE ((Below.refl w.heap.size w).alloc (Nat.le_refl _) (.cells #[.int .i64 0, .int .i64 0, .string ⟨#[]⟩, .int .i64 0, .bool false, .slice none 0 0] 73)) n2
 replace n3 := jE ((Below.refl w.heap.size w).alloc (Nat.le_refl _) (.cells #[.int .i64 0, .int .i64 0, .string ⟨#[]⟩, .int .i64 0, .bool false, .slice none 0 0] 73)) n3
 replace hsz := Nat.le_of_eq hsz.symm
 clear er et hb
 have erc0 := jA ER.out 0 _ rfl
 have erc1 := jA ER.out 1 _ rfl
 have erc2 := jA ER.out 2 _ rfl
 have erc3 := jA ER.out 3 _ rfl
 have erc4 := jA ER.out 4 _ rfl
 have erc5 := jA ER.out 5 _ rfl
 have erf := jD ER.out
 have etc0 := jA ET.out 0 _ rfl
 have etc1 := jA ET.out 1 _ rfl
 have etc2 := jA ET.out 2 _ rfl
 have etc3 := jA ET.out 3 _ rfl
 have etf := jD ET.out
 have b0 : (t.kind != 0) = true := bne_iff_ne.2 hk0
 have b1 : (t.kind == 1) = false := beq_eq_false_iff_ne.2 hk1
 have hlb : Px.jS (.mk t [] (Px.takesOf t.text)) = false := by unfold Px.jS; exact beq_eq_false_iff_ne.2 hk0
 have HLB := hid hlb; clear hlb hk0 hk1
 go_upto_region 7 with fail
 clear erc0 erc1 erc2 erc3 erc4 erc5 erf etc0 etc1 etc2 etc3 etf
 clear n0 n1 n2 n3
 generalize (w.alloc (.cells #[.int .i64 0, .int .i64 0, .string ⟨#[]⟩, .int .i64 0, .bool false, .slice none 0 0] 73)).alloc (.cells #[.int .i64 t.kind, .int .i64 t.pos, .string ⟨t.text.toArray⟩, .int .i64 t.int] 70) = wz at ER ET HB hsz ⊢
 have erc0 := jA ER.out 0 _ rfl
 have erc1 := jA ER.out 1 _ rfl
 have erc2 := jA ER.out 2 _ rfl
 have erc3 := jA ER.out 3 _ rfl
 have erc4 := jA ER.out 4 _ rfl
 have erc5 := jA ER.out 5 _ rfl
 have erf := jD ER.out
 have etc0 := jA ET.out 0 _ rfl
 have etc1 := jA ET.out 1 _ rfl
 have etc2 := jA ET.out 2 _ rfl
 have etc3 := jA ET.out 3 _ rfl
 have etf := jD ET.out
 go_wp2_with fail
 replace ER := hid (ent_set6 (ER.out) (.int .i64 t.kind) (.int .i64 t.pos) (.string ⟨t.text.toArray⟩) (.int .i64 t.int) (.bool false) (.slice none 0 0))
 replace ET := hid (jB (jB (jB (jB (jB (jB (ET.out) (w.heap.size) 0 (.int .i64 t.kind) (by omega)) (w.heap.size) 1 (.int .i64 t.pos) (by omega)) (w.heap.size) 2 (.string ⟨t.text.toArray⟩) (by omega)) (w.heap.size) 3 (.int .i64 t.int) (by omega)) (w.heap.size) 4 (.bool false) (by omega)) (w.heap.size) 5 (.slice none 0 0) (by omega))
 replace HB := hid (Below.setCell (Below.setCell (Below.setCell (Below.setCell (Below.setCell (Below.setCell (HB.out) (p := ⟨w.heap.size, 0, none⟩) (by dsimp only; omega) (.int .i64 t.kind)) (p := ⟨w.heap.size, 1, none⟩) (by dsimp only; omega) (.int .i64 t.pos)) (p := ⟨w.heap.size, 2, none⟩) (by dsimp only; omega) (.string ⟨t.text.toArray⟩)) (p := ⟨w.heap.size, 3, none⟩) (by dsimp only; omega) (.int .i64 t.int)) (p := ⟨w.heap.size, 4, none⟩) (by dsimp only; omega) (.bool false)) (p := ⟨w.heap.size, 5, none⟩) (by dsimp only; omega) (.slice none 0 0))
 have r0 := jA ER.out 0 _ rfl
 have r1 := jA ER.out 1 _ rfl
 have r2 := jA ER.out 2 _ rfl
 have r3 := jA ER.out 3 _ rfl
 have r4 := jA ER.out 4 _ rfl
 have r5 := jA ER.out 5 _ rfl
 refine bodyPost_ret (v := .tuple #[.agg #[.int .i64 t.kind, .int .i64 t.pos, .string ⟨t.text.toArray⟩, .int .i64 t.int, .bool false, .slice none 0 0], .int .i64 ((i + 1 : Nat) : Int), .int .i64 (-1)]) (by simp [results, Try.results19, go_sem, r0, r1, r2, r3, r4, r5]) rfl ?_
 exact rnodes_ok HP.out HLT.out HB.out ⟨_, _, _, _, _, _, _, _, rfl⟩ (fun u hu => by rw [show 41 - d = (40 - d) + 1 from by omega]; exact ⟨.slice none 0 0, by unfold nV; rw [HLB.out]; rfl, .inl ⟨rfl, none, 0, rfl⟩⟩)
set_option maxHeartbeats 4000000 in
set_option maxRecDepth 100000 in
theorem nodes_close (f d stop i : Nat) (all : List Lx.Tok) (lv : Value) (w : World) (hr : TokRow w lv all) (hd : d ≤ 40) (t : Lx.Tok) (ht : all[i]? = some t) (hk1 : t.kind = 1) : Calls Try.prog 19 #[lv, .int .i64 i, .int .i64 d, .int .i64 stop] w (RNodes w all (41 - d) (Px.node stop (f + 1) d (all.drop i))) := by
 obtain ⟨q, c, rfl⟩ := hr.len
 have hlt : i < all.length := (List.getElem?_eq_some_iff.1 ht).1
 have hdr : all.drop i = t :: all.drop (i + 1) := by rw [List.drop_eq_getElem_cons hlt]; congr 1; exact (List.getElem?_eq_some_iff.1 ht).2
 have hp : Px.node stop (f + 1) d (all.drop i) = .error t.pos := by rw [hdr, Px.node, if_pos hk1]
 have HP := hid hp
 have hii : ¬ (i : Int) ≥ (all.length : Int) := by omega
 have hij : (i : Int) < (all.length : Int) := by omega
 rcases hr with ⟨h0, _⟩ | ⟨g, of, c', hv, g1, g2, g3⟩
 · rw [h0] at hlt; simp at hlt
 injection hv with hq1 _ hq2
 subst hq1; subst hq2
 obtain ⟨u, hu, _, hcell⟩ := g3 i t ht
 obtain ⟨n0, n1, n2, n3⟩ := tok_cells hu hcell
 have HG3 := hid g3; have HTT := hid ht; have HLT := hid hlt
 clear hu hcell hp hdr g3 ht
 go_enter Try.func19, Try.ntmps19
 obtain ⟨er, et, hb, hsz⟩ := ent2 w #[.int .i64 0, .int .i64 0, .string ⟨#[]⟩, .int .i64 0, .bool false, .slice none 0 0] #[.int .i64 t.kind, .int .i64 t.pos, .string ⟨t.text.toArray⟩, .int .i64 t.int] 73 70
 have ER := hid er; have ET := hid et; have HB := hid hb
 replace n0 := jE ((Below.refl w.heap.size w).alloc (Nat.le_refl _) (.cells #[.int .i64 0, .int .i64 0, .string ⟨#[]⟩, .int .i64 0, .bool false, .slice none 0 0] 73)) n0
 replace n1 := jE ((Below.refl w.heap.size w).alloc (Nat.le_refl _) (.cells #[.int .i64 0, .int .i64 0, .string ⟨#[]⟩, .int .i64 0, .bool false, .slice none 0 0] 73)) n1
 replace n2 := jE ((Below.refl w.heap.size w).alloc (Nat.le_refl _) (.cells #[.int .i64 0, .int .i64 0, .string ⟨#[]⟩, .int .i64 0, .bool false, .slice none 0 0] 73)) n2
 replace n3 := jE ((Below.refl w.heap.size w).alloc (Nat.le_refl _) (.cells #[.int .i64 0, .int .i64 0, .string ⟨#[]⟩, .int .i64 0, .bool false, .slice none 0 0] 73)) n3
 replace hsz := Nat.le_of_eq hsz.symm
 clear er et hb
 have erc0 := jA ER.out 0 _ rfl
 have erc1 := jA ER.out 1 _ rfl
 have erc2 := jA ER.out 2 _ rfl
 have erc3 := jA ER.out 3 _ rfl
 have erc4 := jA ER.out 4 _ rfl
 have erc5 := jA ER.out 5 _ rfl
 have erf := jD ER.out
 have etc0 := jA ET.out 0 _ rfl
 have etc1 := jA ET.out 1 _ rfl
 have etc2 := jA ET.out 2 _ rfl
 have etc3 := jA ET.out 3 _ rfl
 have etf := jD ET.out
 have b1 : (t.kind == 1) = true := by rw [hk1]; rfl
 clear hk1
 go_upto_region 5 with fail
 clear erc0 erc1 erc2 erc3 erc4 erc5 erf etc0 etc1 etc2 etc3 etf
 clear n0 n1 n2 n3
 generalize (w.alloc (.cells #[.int .i64 0, .int .i64 0, .string ⟨#[]⟩, .int .i64 0, .bool false, .slice none 0 0] 73)).alloc (.cells #[.int .i64 t.kind, .int .i64 t.pos, .string ⟨t.text.toArray⟩, .int .i64 t.int] 70) = wz at ER ET HB hsz ⊢
 have erc0 := jA ER.out 0 _ rfl
 have erc1 := jA ER.out 1 _ rfl
 have erc2 := jA ER.out 2 _ rfl
 have erc3 := jA ER.out 3 _ rfl
 have erc4 := jA ER.out 4 _ rfl
 have erc5 := jA ER.out 5 _ rfl
 have erf := jD ER.out
 have etc0 := jA ET.out 0 _ rfl
 have etc1 := jA ET.out 1 _ rfl
 have etc2 := jA ET.out 2 _ rfl
 have etc3 := jA ET.out 3 _ rfl
 have etf := jD ET.out
 go_region
 all_goals (try go_wp2_with fail)
 replace ER := hid (ent_set6 (ER.out) (.int .i64 0) (.int .i64 0) (.string ⟨#[]⟩) (.int .i64 0) (.bool false) (.slice none 0 0))
 replace ET := hid (jB (jB (jB (jB (jB (jB (ET.out) (w.heap.size) 0 (.int .i64 0) (by omega)) (w.heap.size) 1 (.int .i64 0) (by omega)) (w.heap.size) 2 (.string ⟨#[]⟩) (by omega)) (w.heap.size) 3 (.int .i64 0) (by omega)) (w.heap.size) 4 (.bool false) (by omega)) (w.heap.size) 5 (.slice none 0 0) (by omega))
 replace HB := hid (Below.setCell (Below.setCell (Below.setCell (Below.setCell (Below.setCell (Below.setCell (HB.out) (p := ⟨w.heap.size, 0, none⟩) (by dsimp only; omega) (.int .i64 0)) (p := ⟨w.heap.size, 1, none⟩) (by dsimp only; omega) (.int .i64 0)) (p := ⟨w.heap.size, 2, none⟩) (by dsimp only; omega) (.string ⟨#[]⟩)) (p := ⟨w.heap.size, 3, none⟩) (by dsimp only; omega) (.int .i64 0)) (p := ⟨w.heap.size, 4, none⟩) (by dsimp only; omega) (.bool false)) (p := ⟨w.heap.size, 5, none⟩) (by dsimp only; omega) (.slice none 0 0))
 replace ER := ent_drew ER
 replace HB := hid (HB.out.drew)
 have r0 := jA ER.out 0 _ rfl
 have r1 := jA ER.out 1 _ rfl
 have r2 := jA ER.out 2 _ rfl
 have r3 := jA ER.out 3 _ rfl
 have r4 := jA ER.out 4 _ rfl
 have r5 := jA ER.out 5 _ rfl
 refine bodyPost_ret (v := .tuple #[.agg #[.int .i64 0, .int .i64 0, .string ⟨#[]⟩, .int .i64 0, .bool false, .slice none 0 0], .int .i64 i, .int .i64 t.pos]) (by simp [results, Try.results19, go_sem, r0, r1, r2, r3, r4, r5]) rfl ?_
 refine rnodes_err HP.out ?_ ⟨_, _, _, _, _, _, _, _, rfl⟩
 with_reducible exact HB.out
set_option maxHeartbeats 4000000 in
set_option maxRecDepth 100000 in
theorem nodes_deep (f d stop i : Nat) (all : List Lx.Tok) (lv : Value) (w : World) (hr : TokRow w lv all) (hd : d ≤ 40) (t : Lx.Tok) (ht : all[i]? = some t) (hk0 : t.kind = 0) (hd40 : d = 40) : Calls Try.prog 19 #[lv, .int .i64 i, .int .i64 d, .int .i64 stop] w (RNodes w all (41 - d) (Px.node stop (f + 1) d (all.drop i))) := by
 obtain ⟨q, c, rfl⟩ := hr.len
 have hlt : i < all.length := (List.getElem?_eq_some_iff.1 ht).1
 have hdr : all.drop i = t :: all.drop (i + 1) := by rw [List.drop_eq_getElem_cons hlt]; congr 1; exact (List.getElem?_eq_some_iff.1 ht).2
 have hp : Px.node stop (f + 1) d (all.drop i) = .error t.pos := by rw [hdr, Px.node, if_neg (by omega), if_pos hk0, if_pos hd40]
 have HP := hid hp
 have hii : ¬ (i : Int) ≥ (all.length : Int) := by omega
 have hij : (i : Int) < (all.length : Int) := by omega
 rcases hr with ⟨h0, _⟩ | ⟨g, of, c', hv, g1, g2, g3⟩
 · rw [h0] at hlt; simp at hlt
 injection hv with hq1 _ hq2
 subst hq1; subst hq2
 obtain ⟨u, hu, _, hcell⟩ := g3 i t ht
 obtain ⟨n0, n1, n2, n3⟩ := tok_cells hu hcell
 have HG3 := hid g3; have HTT := hid ht; have HLT := hid hlt
 clear hu hcell hp hdr g3 ht
 go_enter Try.func19, Try.ntmps19
 obtain ⟨er, et, hb, hsz⟩ := ent2 w #[.int .i64 0, .int .i64 0, .string ⟨#[]⟩, .int .i64 0, .bool false, .slice none 0 0] #[.int .i64 t.kind, .int .i64 t.pos, .string ⟨t.text.toArray⟩, .int .i64 t.int] 73 70
 have ER := hid er; have ET := hid et; have HB := hid hb
 replace n0 := jE ((Below.refl w.heap.size w).alloc (Nat.le_refl _) (.cells #[.int .i64 0, .int .i64 0, .string ⟨#[]⟩, .int .i64 0, .bool false, .slice none 0 0] 73)) n0
 replace n1 := jE ((Below.refl w.heap.size w).alloc (Nat.le_refl _) (.cells #[.int .i64 0, .int .i64 0, .string ⟨#[]⟩, .int .i64 0, .bool false, .slice none 0 0] 73)) n1
 replace n2 := jE ((Below.refl w.heap.size w).alloc (Nat.le_refl _) (.cells #[.int .i64 0, .int .i64 0, .string ⟨#[]⟩, .int .i64 0, .bool false, .slice none 0 0] 73)) n2
 replace n3 := jE ((Below.refl w.heap.size w).alloc (Nat.le_refl _) (.cells #[.int .i64 0, .int .i64 0, .string ⟨#[]⟩, .int .i64 0, .bool false, .slice none 0 0] 73)) n3
 replace hsz := Nat.le_of_eq hsz.symm
 clear er et hb
 have erc0 := jA ER.out 0 _ rfl
 have erc1 := jA ER.out 1 _ rfl
 have erc2 := jA ER.out 2 _ rfl
 have erc3 := jA ER.out 3 _ rfl
 have erc4 := jA ER.out 4 _ rfl
 have erc5 := jA ER.out 5 _ rfl
 have erf := jD ER.out
 have etc0 := jA ET.out 0 _ rfl
 have etc1 := jA ET.out 1 _ rfl
 have etc2 := jA ET.out 2 _ rfl
 have etc3 := jA ET.out 3 _ rfl
 have etf := jD ET.out
 have b1 : (t.kind == 1) = false := by rw [hk0]; rfl
 have b0 : (t.kind != 0) = false := by rw [hk0]; rfl
 have hdi : (d : Int) ≥ 40 := by omega
 clear hk0 hd40
 go_upto_region 9 with fail
 clear erc0 erc1 erc2 erc3 erc4 erc5 erf etc0 etc1 etc2 etc3 etf
 clear n0 n1 n2 n3
 generalize (w.alloc (.cells #[.int .i64 0, .int .i64 0, .string ⟨#[]⟩, .int .i64 0, .bool false, .slice none 0 0] 73)).alloc (.cells #[.int .i64 t.kind, .int .i64 t.pos, .string ⟨t.text.toArray⟩, .int .i64 t.int] 70) = wz at ER ET HB hsz ⊢
 have erc0 := jA ER.out 0 _ rfl
 have erc1 := jA ER.out 1 _ rfl
 have erc2 := jA ER.out 2 _ rfl
 have erc3 := jA ER.out 3 _ rfl
 have erc4 := jA ER.out 4 _ rfl
 have erc5 := jA ER.out 5 _ rfl
 have erf := jD ER.out
 have etc0 := jA ET.out 0 _ rfl
 have etc1 := jA ET.out 1 _ rfl
 have etc2 := jA ET.out 2 _ rfl
 have etc3 := jA ET.out 3 _ rfl
 have etf := jD ET.out
 go_region
 all_goals (try go_wp2_with fail)
 replace ER := hid (ent_set6 (ER.out) (.int .i64 0) (.int .i64 0) (.string ⟨#[]⟩) (.int .i64 0) (.bool false) (.slice none 0 0))
 replace ET := hid (jB (jB (jB (jB (jB (jB (ET.out) (w.heap.size) 0 (.int .i64 0) (by omega)) (w.heap.size) 1 (.int .i64 0) (by omega)) (w.heap.size) 2 (.string ⟨#[]⟩) (by omega)) (w.heap.size) 3 (.int .i64 0) (by omega)) (w.heap.size) 4 (.bool false) (by omega)) (w.heap.size) 5 (.slice none 0 0) (by omega))
 replace HB := hid (Below.setCell (Below.setCell (Below.setCell (Below.setCell (Below.setCell (Below.setCell (HB.out) (p := ⟨w.heap.size, 0, none⟩) (by dsimp only; omega) (.int .i64 0)) (p := ⟨w.heap.size, 1, none⟩) (by dsimp only; omega) (.int .i64 0)) (p := ⟨w.heap.size, 2, none⟩) (by dsimp only; omega) (.string ⟨#[]⟩)) (p := ⟨w.heap.size, 3, none⟩) (by dsimp only; omega) (.int .i64 0)) (p := ⟨w.heap.size, 4, none⟩) (by dsimp only; omega) (.bool false)) (p := ⟨w.heap.size, 5, none⟩) (by dsimp only; omega) (.slice none 0 0))
 replace ER := ent_drew ER
 replace HB := hid (HB.out.drew)
 have r0 := jA ER.out 0 _ rfl
 have r1 := jA ER.out 1 _ rfl
 have r2 := jA ER.out 2 _ rfl
 have r3 := jA ER.out 3 _ rfl
 have r4 := jA ER.out 4 _ rfl
 have r5 := jA ER.out 5 _ rfl
 refine bodyPost_ret (v := .tuple #[.agg #[.int .i64 0, .int .i64 0, .string ⟨#[]⟩, .int .i64 0, .bool false, .slice none 0 0], .int .i64 i, .int .i64 t.pos]) (by simp [results, Try.results19, go_sem, r0, r1, r2, r3, r4, r5]) rfl ?_
 refine rnodes_err HP.out ?_ ⟨_, _, _, _, _, _, _, _, rfl⟩
 with_reducible exact HB.out
end Go.Proofs.Ytgoacbomphlhjaa

namespace Go.Proofs.Ytgoacbomphlhjaa
open Go.Lib (hid)
open List renaming getElem_toArray → jX, getElem_cons_succ → jY, getElem_cons_zero → jZ, setIfInBounds_toArray → JA, set_cons_zero → JB, set_cons_succ → JC
open Go Go.RowKit
section
variable {P : Program} {ops : Array Oper} {Q : Exit → Act → World → Prop} {md : Region.Mode} {S : Array Bool → World → Prop}
/-- Whatever comes up next, S holds behind it, of what has come up then. -/
def anyL (P : Program) (md : Region.Mode) (ops : Array Oper) (Q : Exit → Act → World → Prop) (S : Array Bool → World → Prop) : Nat → Array Bool → Act → World → Prop
 | 0, l, a, w => Region.ready md ops l = [] ∧ Q .normal a w
 | k + 1, l, a, w => (Region.ready md ops l = [] → Q .normal a w) ∧
    ∀ i ∈ Region.ready md ops l, wpOp P ops Q i (fun b u => S (l.setIfInBounds i true) u ∧ anyL P md ops Q S k (l.setIfInBounds i true) b u) a w
theorem any_of_L : ∀ (k : Nat) (l : Array Bool) (a : Act) (w : World), anyL P md ops Q S k l a w → wpAny P md ops Q k l a w
 | 0, _, _, _, h => h
 | k + 1, _, _, _, h => ⟨h.1, fun i hi => wpOp_mono (fun b u hb => any_of_L k _ b u hb.2) (h.2 i hi)⟩
theorem not_waits {i j : Nat} {l : Array Bool} {oj : Oper} (hi : i ∈ Region.ready md ops l) (hall : ∀ e ∈ oj.after, Region.binds md e = true → l.getD e.on false = true) : ∀ e ∈ oj.after, Region.binds md e = true → e.on ≠ i := by
 intro e he hb heq
 have h0 := (mem_ready.1 hi).1
 have h1 := hall e he hb
 rw [heq] at h1
 rcases Nat.lt_or_ge i l.size with h | h
 · simp [h] at h0 h1; rw [h0] at h1; cases h1
 · simp [Array.getElem?_eq_none h] at h1
theorem anyL_first {i d : Nat} {oi od : Oper} {v : Value} (hi : ops[i]? = some oi) (hsel : ∀ (j : Nat) (o : Oper) cs b, ops[j]? = some o → o.op ≠ .select cs b)
 (hQ : ∀ c a w, Q (.panic c) (a.put oi.dst v) w → Q (.panic c) a w) (hod : ops[d]? = some od) (hdep : ∃ e ∈ od.after, Region.binds md e = true ∧ e.on = i)
 (hS : ∀ l w, S (l.setIfInBounds i true) w ↔ S l w) : ∀ (k : Nat) (l : Array Bool) (a : Act) (w : World),
   (∀ j oj, ops[j]? = some oj → j ≠ i → l.getD j true = false → (∀ e ∈ oj.after, Region.binds md e = true → e.on ≠ i) → oi.apart ops oj = true) →
   i ∈ Region.ready md ops l → l.getD d true = false → YieldsIf P ops (fun u => ∃ m, Array.getD m d true = false ∧ S m u) oi v a → S l w →
   anyL P md ops Q S k (l.setIfInBounds i true) (a.put oi.dst v) w → anyL P md ops Q S (k + 1) l a w := by
 intro k
 induction k with
 | zero =>
   intro l a w _ hr hd hy hl H
   refine ⟨fun h => (by rw [h] at hr; cases hr), fun j hj => ?_⟩
   by_cases hji : j = i
   · subst hji; exact hy.wpOp hi ⟨l, hd, hl⟩ ⟨(hS _ _).2 hl, H⟩
   · have := ready_mono hj hji
     rw [H.1] at this
     cases this
 | succ k ih =>
   intro l a w hfree hr hd hy hl H
   refine ⟨fun h => (by rw [h] at hr; cases hr), fun j hj => ?_⟩
   by_cases hji : j = i
   · subst hji; exact hy.wpOp hi ⟨l, hd, hl⟩ ⟨(hS _ _).2 hl, H⟩
   · obtain ⟨hjun, oj, hoj, hall⟩ := mem_ready.1 hj
     have hno := not_waits (j := j) hr hall
     have hjd : j ≠ d := by
      intro e
      subst e
      rw [hoj] at hod
      injection hod with hod
      subst hod
      obtain ⟨e, he, hb, h⟩ := hdep
      exact hno e he hb h
     refine wpOp_mono (fun b u h3 => ?_) (wpOp_putIf hoj (hfree j oj hoj hji hjun hno) (fun cs b => hsel i oi cs b hi) (fun cs b => hsel j oj cs b hoj) hQ hy (H.2 j (ready_mono hj hji)))
     obtain ⟨h4, h5, h6⟩ := h3
     rw [← Array.setIfInBounds_comm _ _ hji] at h5 h6
     have h7 := (hS _ _).1 h5
     refine ⟨h7, ih (l.setIfInBounds j true) b u (fun m om hm hmi hun hnm => ?_) (ready_mono hr (Ne.symm hji)) (by rw [getD_set_ne true hjd]; exact hd) h4 h7 h6⟩
     refine hfree m om hm hmi ?_ hnm
     by_cases hjm : j = m
     · subst hjm; exact hjun
     · rw [getD_set_ne true hjm] at hun; exact hun
/-- Number i is taken first: number d waits for it. -/
theorem anyL_take {i : Nat} (d : Nat) {oi : Oper} {v : Value} {k : Nat} {l : Array Bool} {a : Act} {w : World} (hi : ops[i]? = some oi)
 (hs : Region.noSelect ops = true) (hf : Region.free md ops l i = true) (hr : (Region.ready md ops l).contains i = true)
 (hQ : ∀ c a w, Q (.panic c) (a.put oi.dst v) w → Q (.panic c) a w) (hd : ((ops[d]?).map fun o => o.after.any fun e => Region.binds md e && e.on == i) = some true) (hl : l.getD d true = false)
 (hS : ∀ l w, S (l.setIfInBounds i true) w ↔ S l w) (hy : YieldsIf P ops (fun u => ∃ m, Array.getD m d true = false ∧ S m u) oi v a) (hSl : S l w)
 (h : anyL P md ops Q S k (l.setIfInBounds i true) (a.put oi.dst v) w) : anyL P md ops Q S (k + 1) l a w := by
 cases hod : ops[d]? with
 | none => rw [hod] at hd; cases hd
 | some od =>
   rw [hod] at hd
   have h1 : od.after.any (fun e => Region.binds md e && e.on == i) = true := by simpa using hd
   obtain ⟨e, he, hb⟩ := Array.any_eq_true'.1 h1
   simp only [Bool.and_eq_true, beq_iff_eq] at hb
   exact anyL_first hi (Region.noSelect_spec hs) hQ hod ⟨e, he, hb⟩ hS k l a w (Region.free_spec hi hf) (by simpa using hr) hl hy hSl h
theorem anyL_ready1 {i : Nat} {oi : Oper} {k : Nat} {l : Array Bool} {a : Act} {w : World} (hr : Region.ready md ops l = [i]) (hi : ops[i]? = some oi)
 (h1 : ∀ K' : Act → World → Prop, Shut (∀ b u, S (l.setIfInBounds i true) u → anyL P md ops Q S k (l.setIfInBounds i true) b u → K' b u) → if Region.wanted oi (yielded ops a.tmps) = true then Oper.wp P oi a w K' Q else K' (a.put oi.dst undef) w) : anyL P md ops Q S (k + 1) l a w := by
 refine ⟨fun h => absurd (hr ▸ h) (by simp), fun j hj => ?_⟩
 rw [hr] at hj
 rw [List.mem_singleton.1 hj]
 exact wpOp_step hi (fun K' hK => h1 K' (fun b u hb hu => hK b u ⟨hb, hu⟩))
theorem anyL_ready2 {i j : Nat} {oi oj : Oper} {k : Nat} {l : Array Bool} {a : Act} {w : World} (hr : Region.ready md ops l = [i, j]) (hi : ops[i]? = some oi) (hj : ops[j]? = some oj)
 (h1 : ∀ K' : Act → World → Prop, Shut (∀ b u, S (l.setIfInBounds i true) u → anyL P md ops Q S k (l.setIfInBounds i true) b u → K' b u) → if Region.wanted oi (yielded ops a.tmps) = true then Oper.wp P oi a w K' Q else K' (a.put oi.dst undef) w)
 (h2 : ∀ K' : Act → World → Prop, Shut (∀ b u, S (l.setIfInBounds j true) u → anyL P md ops Q S k (l.setIfInBounds j true) b u → K' b u) → if Region.wanted oj (yielded ops a.tmps) = true then Oper.wp P oj a w K' Q else K' (a.put oj.dst undef) w) : anyL P md ops Q S (k + 1) l a w := by
 refine ⟨fun h => absurd (hr ▸ h) (by simp), fun m hm => ?_⟩
 rw [hr] at hm
 rcases List.mem_cons.1 hm with rfl | hm
 · exact wpOp_step hi (fun K' hK => h1 K' (fun b u hb hu => hK b u ⟨hb, hu⟩))
 · rw [List.mem_singleton.1 hm]
   exact wpOp_step hj (fun K' hK => h2 K' (fun b u hb hu => hK b u ⟨hb, hu⟩))
theorem anyL_done {l : Array Bool} {a : Act} {w : World} (hr : Region.ready md ops l = []) (h : Q .normal a w) : ∀ k, anyL P md ops Q S k l a w
 | 0 => ⟨hr, h⟩
 | _ + 1 => ⟨fun _ => h, by rw [hr]; simp⟩
theorem wp_region_L {id : Nat} {a : Act} {w : World} (hm : P.follows .mixedOrders = true) (h : anyL P .any ops Q S ops.size (Array.replicate ops.size false) a w.drew) : (Code.region id ops true).wp P Q a w :=
 wp_region_any hm (any_of_L _ _ _ _ h)
end
end Go.Proofs.Ytgoacbomphlhjaa

namespace Go.Proofs.Ytgoacbomphlhjaa
open Go.Lib (hid)
open List renaming getElem_toArray → jX, getElem_cons_succ → jY, getElem_cons_zero → jZ, setIfInBounds_toArray → JA, set_cons_zero → JB, set_cons_succ → JC
open Go Go.RowKit
structure Two (W0 : World) (gx f : Nat) (p : Int) (c4 c5 nv xv : Value) (nn xn : Nat) (strs vs ys : List Value) (xs : List Px.Expr) (L : List (Nat × Obj)) (w : World) : Prop where
 low : Below gx W0 w
 lt : gx < w.heap.size
 et : w.heap[gx]? = some (.cells #[.int .i64 4, .int .i64 p, .string ⟨#[]⟩, .int .i64 0, c4, c5, .slice none 0 0] 53 (0, 0))
 on : w.ownsRow (gx + 1) 9 1 nv nn strs
 ox : w.ownsRow (gx + 1) 53 7 xv xn (cellsOf vs)
 kx : Reps (KeptS (ExprAt f) (gx + 1) w (fun g => nv.ownBlock = some g ∨ xv.ownBlock = some g)) ys xs
 sh : ∀ u ∈ ys, ShExpr u
 bx : ∀ b ∈ L, gx < b.1 ∧ w.heap[b.1]? = some b.2 ∧ nv.ownBlock ≠ some b.1 ∧ xv.ownBlock ≠ some b.1
section
variable {W0 : World} {gx f : Nat} {p : Int} {c4 c5 nv xv : Value} {nn xn : Nat} {strs vs ys : List Value} {xs : List Px.Expr} {L : List (Nat × Obj)} {w w' : World}
theorem Two.cell (h : Two W0 gx f p c4 c5 nv xv nn xn strs vs ys xs L w) : w.cell? ⟨gx, 4, none⟩ = some c4 ∧ w.cell? ⟨gx, 5, none⟩ = some c5 := ⟨jA h.et 4 _ rfl, jA h.et 5 _ rfl⟩
theorem Two.below (h : Two W0 gx f p c4 c5 nv xv nn xn strs vs ys xs L w) (hb : Below w.heap.size w w') : Two W0 gx f p c4 c5 nv xv nn xn strs vs ys xs L w' where
 low := h.low.trans (hb.mono (Nat.le_of_lt h.lt))
 lt := Nat.lt_of_lt_of_le h.lt hb.size
 et := (hb.block _ h.lt).trans h.et
 on := jJ h.on hb
 ox := jJ h.ox hb
 kx := h.kx.mono fun _ _ k => k.below hb
 sh := h.sh
 bx := fun b hm => ⟨(h.bx b hm).1, (hb.block _ (jK (h.bx b hm).2.1)).trans (h.bx b hm).2.1, (h.bx b hm).2.2⟩
theorem Two.alloc (h : Two W0 gx f p c4 c5 nv xv nn xn strs vs ys xs L w) (cs : Array Value) (T : TypeId) : Two W0 gx f p c4 c5 nv xv nn xn strs vs ys xs ((w.heap.size, .cells cs T (0, 0)) :: L) (w.alloc (.cells cs T)) := by
 have hb : Below w.heap.size w (w.alloc (.cells cs T)) := (Below.refl _ _).alloc (Nat.le_refl _) _
 have h1 := h.below hb
 refine { h1 with bx := fun b hm => ?_ }
 rcases List.mem_cons.1 hm with rfl | hm
 · exact ⟨h.lt, jI w cs T, fun e => by have := (h.on.lt _ e).2; omega, fun e => by have := (h.ox.lt _ e).2; omega⟩
 · exact h1.bx b hm
theorem Two.only (h : Two W0 gx f p c4 c5 nv xv nn xn strs vs ys xs L w) {M : List (Nat × Obj)} (hM : ∀ b ∈ M, b ∈ L) : Two W0 gx f p c4 c5 nv xv nn xn strs vs ys xs M w := { h with bx := fun b hm => h.bx b (hM b hm) }
theorem Two.add (h : Two W0 gx f p c4 c5 nv xv nn xn strs vs ys xs L w) {y : Value} {x : Px.Expr} (hk : New (ExprAt f) w w' y x) (hs : ShExpr y) (hb : Below w.heap.size w w') : Two W0 gx f p c4 c5 nv xv nn xn strs vs (ys ++ [y]) (xs ++ [x]) L w' := by
 have h1 := h.below hb
 refine { h1 with kx := Reps.snoc (hk.keptS (by have := h.lt; omega) (fun g hg => hg.elim (fun e => (h.on.lt g e).2) (fun e => (h.ox.lt g e).2))) h1.kx, sh := fun u hu => ?_ }
 rcases List.mem_append.1 hu with hu | hu
 · exact h.sh u hu
 · rw [List.mem_singleton.1 hu]; exact hs
theorem Two.growN (h : Two W0 gx f p c4 c5 nv xv nn xn strs vs ys xs L w) {v' : Value} {m : Nat} {more : List Value} (ho : w'.ownsRow (gx + 1) 9 1 v' m more) (hg : w.grownBy w' nv.ownBlock)
 (hl : v'.ownBlock = nv.ownBlock ∨ ∀ g, v'.ownBlock = some g → w.heap.size ≤ g) : Two W0 gx f p c4 c5 v' xv m xn more vs ys xs L w' where
 low := h.low.trans ⟨hg.os, hg.tape, hg.output, hg.size, fun b hb => hg.block b (by have := h.lt; omega) (fun e => by have := (h.on.lt b e.symm).1; omega)⟩
 lt := Nat.lt_of_lt_of_le h.lt hg.size
 et := (hg.block _ h.lt (fun e => by have := (h.on.lt gx e.symm).1; omega)).trans h.et
 on := ho
 ox := own_stays h.ox fun b hb => hg.block b (h.ox.lt b hb).2 (fun e => own_type_ne h.on h.ox (by decide) b e.symm hb)
 kx := h.kx.mono fun _ _ k => k.step (S' := fun g => v'.ownBlock = some g ∨ xv.ownBlock = some g) hg.size (fun b hb1 _ hb3 => hg.block b hb1 (fun e => hb3 (.inl e.symm)))
  (fun g hg' => hg'.elim (fun e => hl.elim (fun e' => .inl (.inl (e' ▸ e))) (fun e' => .inr (e' g e))) (fun e => .inl (.inr e)))
 sh := h.sh
 bx := fun b hm => ⟨(h.bx b hm).1, (hg.block _ (jK (h.bx b hm).2.1) (fun e => (h.bx b hm).2.2.1 e.symm)).trans (h.bx b hm).2.1,
  fun e => hl.elim (fun e' => (h.bx b hm).2.2.1 (e' ▸ e)) (fun e' => by have := e' _ e; have := jK (h.bx b hm).2.1; omega), (h.bx b hm).2.2.2⟩
theorem Two.growX (h : Two W0 gx f p c4 c5 nv xv nn xn strs vs ys xs L w) {v' : Value} {m : Nat} {more : List Value} (ho : w'.ownsRow (gx + 1) 53 7 v' m (cellsOf more)) (hg : w.grownBy w' xv.ownBlock)
 (hl : v'.ownBlock = xv.ownBlock ∨ ∀ g, v'.ownBlock = some g → w.heap.size ≤ g) : Two W0 gx f p c4 c5 nv v' nn m strs more ys xs L w' where
 low := h.low.trans ⟨hg.os, hg.tape, hg.output, hg.size, fun b hb => hg.block b (by have := h.lt; omega) (fun e => by have := (h.ox.lt b e.symm).1; omega)⟩
 lt := Nat.lt_of_lt_of_le h.lt hg.size
 et := (hg.block _ h.lt (fun e => by have := (h.ox.lt gx e.symm).1; omega)).trans h.et
 on := own_stays h.on fun b hb => hg.block b (h.on.lt b hb).2 (fun e => own_type_ne h.ox h.on (by decide) b e.symm hb)
 ox := ho
 kx := h.kx.mono fun _ _ k => k.step (S' := fun g => nv.ownBlock = some g ∨ v'.ownBlock = some g) hg.size (fun b hb1 _ hb3 => hg.block b hb1 (fun e => hb3 (.inr e.symm)))
  (fun g hg' => hg'.elim (fun e => .inl (.inl e)) (fun e => hl.elim (fun e' => .inl (.inr (e' ▸ e))) (fun e' => .inr (e' g e))))
 sh := h.sh
 bx := fun b hm => ⟨(h.bx b hm).1, (hg.block _ (jK (h.bx b hm).2.1) (fun e => (h.bx b hm).2.2.2 e.symm)).trans (h.bx b hm).2.1, (h.bx b hm).2.2.1,
  fun e => hl.elim (fun e' => (h.bx b hm).2.2.2 (e' ▸ e)) (fun e' => by have := e' _ e; have := jK (h.bx b hm).2.1; omega)⟩
theorem Two.st (h : Two W0 gx f p c4 c5 nv xv nn xn strs vs ys xs L w) (j : Nat) (z c4' c5' : Value)
 (he : (#[.int .i64 4, .int .i64 p, .string ⟨#[]⟩, .int .i64 0, c4, c5, .slice none 0 0] : Array Value).setIfInBounds j z = #[.int .i64 4, .int .i64 p, .string ⟨#[]⟩, .int .i64 0, c4', c5', .slice none 0 0]) :
 Two W0 gx f p c4' c5' nv xv nn xn strs vs ys xs L (w.setCell ⟨gx, j, none⟩ z) := by
 have hst : ∀ b, b ≠ gx → (w.setCell ⟨gx, j, none⟩ z).heap[b]? = w.heap[b]? := fun b hb => Below.heap_setCell w ⟨gx, j, none⟩ z b hb
 have hsz : (w.setCell ⟨gx, j, none⟩ z).heap.size = w.heap.size := by simp
 refine ⟨h.low.setCell (p := ⟨gx, j, none⟩) (Nat.le_refl _) z, by rw [hsz]; exact h.lt, ?_, own_stays h.on fun b hb => hst b (by have := (h.on.lt b hb).1; omega), own_stays h.ox fun b hb => hst b (by have := (h.ox.lt b hb).1; omega),
  h.kx.mono fun _ _ k => k.step (Nat.le_of_eq hsz.symm) (fun b _ hb2 _ => hst b (by omega)) (fun g hg => .inl hg), h.sh,
  fun b hm => ⟨(h.bx b hm).1, (hst b.1 (by have := (h.bx b hm).1; omega)).trans (h.bx b hm).2.1, (h.bx b hm).2.2⟩⟩
 have := ent_set h.et j z
 rw [he] at this
 exact this
/-- append(x.Names, s): one name more. -/
theorem Two.stepN (h : Two W0 gx f p c4 c5 nv xv nn xn strs vs ys xs L w) {s : ByteArray} {gb : Nat} (hb : (gb, .cells #[.string s] 9 (0, 0)) ∈ L) (hn : nn ≤ 100)
 {ops : Array Oper} {o : Oper} {a : Act} {K : Act → World → Prop} {Q : Exit → Act → World → Prop} {X : Prop} (hgd : o.guard = none) (l r : Operand)
 (ho : o.op = .call { callee := .builtin .append, args := #[l, r], argTypes := #[41, 41] }) (hl : a.eval l = nv) (hr : a.eval r = .slice (some ⟨gb, 0, none⟩) 1 1)
 (hK : ∀ v' w', Two W0 gx f p c4 c5 v' xv (nn + 1) xn (strs ++ [.string s]) vs ys xs L w' → K (a.put o.dst v') w') : if Region.wanted o (yielded ops a.tmps) = true then Oper.wp Try.prog o a w K Q else X := by
 obtain ⟨i0, h0, h1, h2, h3⟩ := info_parts infoStr
 refine step_append_loc hgd l r 41 ho (gx + 1) 9 i0 (.string ⟨#[]⟩) 1 16 Try.underlying41 h0 h1 h2 h3 rfl (by decide) nv nn strs hl h.on ⟨gb, 0, none⟩ 1 1 [.string s] hr (by decide) rfl ?_ ?_ (by unfold maxLen; omega) (by omega) (by have := h.lt; omega) ?_
 · intro j u hu
   have e : (⟨gb, 0, none⟩ : Addr).add j = ⟨gb, j, none⟩ := by unfold Addr.add; split <;> simp_all
   rw [e]
   exact jA (h.bx _ hb).2.1 j u (by simpa using hu)
 · intro u hu; rw [List.mem_singleton.1 hu]; rfl
 · intro v' w' hown hgr hloc
   exact hK v' w' (h.growN hown hgr hloc)
/-- append(x.Args, y): one part more. -/
theorem Two.stepX (h : Two W0 gx f p c4 c5 nv xv nn xn strs vs ys xs L w) {a0 a1 a2 a3 a4 a5 a6 : Value} {gb : Nat} (hb : (gb, .cells #[a0, a1, a2, a3, a4, a5, a6] 53 (0, 0)) ∈ L) (hn : xn ≤ 100)
 (hone : ∀ u ∈ [a0, a1, a2, a3, a4, a5, a6], u.oneCell' = true)
 {ops : Array Oper} {o : Oper} {a : Act} {K : Act → World → Prop} {Q : Exit → Act → World → Prop} {X : Prop} (hgd : o.guard = none) (l r : Operand)
 (ho : o.op = .call { callee := .builtin .append, args := #[l, r], argTypes := #[50, 50] }) (hl : a.eval l = xv) (hr : a.eval r = .slice (some ⟨gb, 0, none⟩) 1 1)
 (hK : ∀ v' w', Two W0 gx f p c4 c5 nv v' nn (xn + 1) strs (vs ++ [.agg #[a0, a1, a2, a3, a4, a5, a6]]) ys xs L w' → K (a.put o.dst v') w') : if Region.wanted o (yielded ops a.tmps) = true then Oper.wp Try.prog o a w K Q else X := by
 obtain ⟨i0, h0, h1, h2, h3⟩ := info_parts infoExpr
 refine step_append_loc hgd l r 50 ho (gx + 1) 53 i0 (.agg #[.int .i64 0, .int .i64 0, .string ⟨#[]⟩, .int .i64 0, .slice none 0 0, .slice none 0 0, .slice none 0 0]) 7 112 Try.underlying50 h0 h1 h2 h3 rfl (by decide) xv xn (cellsOf vs) hl h.ox ⟨gb, 0, none⟩ 1 1 [a0, a1, a2, a3, a4, a5, a6] hr (by decide) rfl ?_ hone (by unfold maxLen; omega) (by omega) (by have := h.lt; omega) ?_
 · intro j u hu
   have e : (⟨gb, 0, none⟩ : Addr).add j = ⟨gb, j, none⟩ := by unfold Addr.add; split <;> simp_all
   rw [e]
   exact jA (h.bx _ hb).2.1 j u (by simpa using hu)
 · intro v' w' hown hgr hloc
   rw [← cells7] at hown
   exact hK v' w' (h.growX hown hgr hloc)
theorem Two.listX (h : Two W0 gx f p c4 c5 nv xv nn xn strs vs ys xs L w) {a0 a1 a2 a3 a4 a5 a6 : Value} {gb : Nat} (hb : (gb, .cells #[a0, a1, a2, a3, a4, a5, a6] 53 (0, 0)) ∈ L) (hn : xn ≤ 100)
 (hone : ∀ u ∈ [a0, a1, a2, a3, a4, a5, a6], u.oneCell' = true)
 {ops : Array Oper} {rest : List Oper} {o : Oper} {a : Act} {Q : Exit → Act → World → Prop} (hgd : o.guard = none) (l r : Operand)
 (ho : o.op = .call { callee := .builtin .append, args := #[l, r], argTypes := #[50, 50] }) (hl : a.eval l = xv) (hr : a.eval r = .slice (some ⟨gb, 0, none⟩) 1 1)
 (hK : ∀ v' w', Two W0 gx f p c4 c5 nv v' nn (xn + 1) strs (vs ++ [.agg #[a0, a1, a2, a3, a4, a5, a6]]) ys xs L w' → wpList Try.prog ops Q rest (a.put o.dst v') w') : wpList Try.prog ops Q (o :: rest) a w := by
 obtain ⟨i0, h0, h1, h2, h3⟩ := info_parts infoExpr
 refine wpList_append_loc w hgd l r 50 ho (gx + 1) 53 i0 (.agg #[.int .i64 0, .int .i64 0, .string ⟨#[]⟩, .int .i64 0, .slice none 0 0, .slice none 0 0, .slice none 0 0]) 7 112 Try.underlying50 h0 h1 h2 h3 rfl (by decide) xv xn (cellsOf vs) hl h.ox ⟨gb, 0, none⟩ 1 1 [a0, a1, a2, a3, a4, a5, a6] hr (by decide) rfl ?_ hone (by unfold maxLen; omega) (by omega) (by have := h.lt; omega) ?_
 · intro j u hu
   have e : (⟨gb, 0, none⟩ : Addr).add j = ⟨gb, j, none⟩ := by unfold Addr.add; split <;> simp_all
   rw [e]
   exact jA (h.bx _ hb).2.1 j u (by simpa using hu)
 · intro v' w' hown hgr hloc
   rw [← cells7] at hown
   exact hK v' w' (h.growX hown hgr hloc)
/-- What the two lists hold, in a later world. -/
theorem Two.rows {ns : List (List UInt8)} (h : Two W0 gx f p c4 c5 nv xv nn xn (strVs ns) vs vs xs L w) (hn : xn = xs.length) {u : World} (hu : ∀ b, gx < b → b < w.heap.size → u.heap[b]? = w.heap[b]?) : RowAt 1 (StrAt u) u nv ns ∧ RowAt 7 (ExprAt f u) u xv xs :=
 ⟨row_of_own (own_stays h.on fun b hb => hu b (by have := (h.on.lt b hb).1; omega) (h.on.lt b hb).2), rowS h.ox hn h.kx (fun v hv => shExpr_size (h.sh v hv)) (fun b h1 h2 => hu b (by omega) h2)⟩
theorem ent_low {W0 w : World} {gx g : Nat} {o : Option Obj} (h : Below gx W0 w) (e : W0.heap[g]? = o) (hg : g < gx) : w.heap[g]? = o := (h.block g hg).trans e
/-- Three things that hold, each till something has come up. -/
def S3 (x y z : Nat) (A B C : World → Prop) (l : Array Bool) (u : World) : Prop := (l.getD x true = false → A u) ∧ (l.getD y true = false → B u) ∧ (l.getD z true = false → C u)
theorem S3.iff {x y z i : Nat} {A B C : World → Prop} (hx : i ≠ x) (hy : i ≠ y) (hz : i ≠ z) (l : Array Bool) (u : World) : S3 x y z A B C (l.setIfInBounds i true) u ↔ S3 x y z A B C l u := by
 unfold S3
 rw [getD_set_ne true hx, getD_set_ne true hy, getD_set_ne true hz]
theorem Two.s3 (h : Two W0 gx f p c4 c5 nv xv nn xn strs vs ys xs L w) {gy : Nat} {o : Obj} (hy : (gy, o) ∈ L) {n0 x0 : Value} {l : Array Bool} (h4 : l.getD 4 true = false → c4 = n0) (h5 : l.getD 9 true = false → c5 = x0) :
 S3 4 9 8 (fun u => u.cell? ⟨gx, 4, none⟩ = some n0) (fun u => u.cell? ⟨gx, 5, none⟩ = some x0) (fun u => u.heap[gy]? = some o) l w :=
 ⟨fun e => h4 e ▸ h.cell.1, fun e => h5 e ▸ h.cell.2, fun _ => (h.bx _ hy).2.1⟩
end
end Go.Proofs.Ytgoacbomphlhjaa
