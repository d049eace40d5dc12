/-
  The document's answers, layer 2: nodes at a list; nodes, whole.
-/
import Derived.Test.YtgoacbomphlhjaaP00
import Derived.Test.YtgoacbomphlhjaaP13
import Derived.Test.YtgoacbomphlhjaaP02
set_option linter.unusedVariables false
set_option linter.unusedSimpArgs false
namespace Go.Proofs.Ytgoacbomphlhjaa
open Go.Lib (hid)
open List renaming getElem_toArray → jX, getElem_cons_succ → jY, getElem_cons_zero → jZ, setIfInBounds_toArray → JA, set_cons_zero → JB, set_cons_succ → JC
open Go Go.RowKit
namespace Px
open Lx (Tok)
/-- What comes ahead of what a list's rest is. -/
def pre (xs : List Node) : R (List Node × List Tok) → R (List Node × List Tok)
 | .error p => .error p
 | .ok (l, ts) => .ok (xs ++ l, ts)
theorem pre_nil (r : R (List Node × List Tok)) : pre [] r = r := by cases r <;> rfl
theorem rest_bad' {stop f d p : Nat} {t : Tok} {ts : List Tok} (h1 : t.kind ≠ 1) (h : node stop f d (t :: ts) = .error p) : rest stop (f + 1) d (t :: ts) = .error p := by
 rw [rest, if_neg h1, h]
theorem pre_snoc {stop f d : Nat} {t : Tok} {ts ts' : List Tok} {n : Node} (xs : List Node) (h1 : t.kind ≠ 1) (h : node stop f d (t :: ts) = .ok (n, ts')) : pre xs (rest stop (f + 1) d (t :: ts)) = pre (xs ++ [n]) (rest stop f d ts') := by
 rw [rest, if_neg h1, h]
 dsimp only
 cases rest stop f d ts' with
 | error p => rfl
 | ok x => obtain ⟨l, us⟩ := x; simp [pre]
theorem node_of_rest {stop f d : Nat} {t : Tok} {ts : List Tok} (h0 : t.kind = 0) (hd : d ≠ 40) : node stop (f + 1) d (t :: ts) = (match rest stop f (d + 1) ts with | .error p => .error p | .ok (l, ts') => .ok (.mk t l 0, ts')) := by
 rw [node, if_neg (by rw [h0]; decide), if_pos h0, if_neg hd]
 cases rest stop f (d + 1) ts <;> rfl
end Px
theorem infoNode : (Try.prog.info? 73).map (fun i => (i.zero, i.size, i.bytes)) = some (some (.agg #[.int .i64 0, .int .i64 0, .string ⟨#[]⟩, .int .i64 0, .bool false, .slice none 0 0]), 6, 72) := by kernel_rfl
theorem shNode_size {v : Value} (h : ShNode v) : v.cells.size = 6 := by
 obtain ⟨_, _, _, _, _, _, _, _, rfl⟩ := h; rfl
theorem six_at (w : World) (a0 a1 a2 a3 a4 a5 : Value) (T : TypeId) (j : Nat) (u : Value) (h : ([a0, a1, a2, a3, a4, a5] : List Value)[j]? = some u) :
 (w.alloc (.cells #[a0, a1, a2, a3, a4, a5] T)).cell? ((⟨w.heap.size, 0, none⟩ : Addr).add j) = some u := by
 have e : (⟨w.heap.size, 0, none⟩ : Addr).add j = ⟨w.heap.size, j, none⟩ := by unfold Addr.add; split <;> simp_all
 rw [e, World.cell?_alloc_mark]
 have : (#[a0, a1, a2, a3, a4, a5] : Array Value)[j]? = some u := by simpa using h
 exact this
theorem cells6 (vs : List Value) (a0 a1 a2 a3 a4 a5 : Value) : cellsOf (vs ++ [.agg #[a0, a1, a2, a3, a4, a5]]) = cellsOf vs ++ [a0, a1, a2, a3, a4, a5] := by
 rw [cellsOf_append]; rfl
theorem set6_other (w : World) (g k : Nat) (a b c d e f : Value) (h : k ≠ g) : ((((((w.setCell ⟨g, 0, none⟩ a).setCell ⟨g, 1, none⟩ b).setCell ⟨g, 2, none⟩ c).setCell ⟨g, 3, none⟩ d).setCell ⟨g, 4, none⟩ e).setCell ⟨g, 5, none⟩ f).heap[k]? = w.heap[k]? :=
 (Below.heap_setCell _ ⟨g, 5, none⟩ f k h).trans ((Below.heap_setCell _ ⟨g, 4, none⟩ e k h).trans ((Below.heap_setCell _ ⟨g, 3, none⟩ d k h).trans ((Below.heap_setCell _ ⟨g, 2, none⟩ c k h).trans ((Below.heap_setCell _ ⟨g, 1, none⟩ b k h).trans (Below.heap_setCell _ ⟨g, 0, none⟩ a k h)))))
set_option maxHeartbeats 4000000 in
set_option maxRecDepth 100000 in
theorem nodes_list (f d stop i : Nat) (all : List Lx.Tok) (lv : Value) (w : World) (hr : TokRow w lv all) (hd : d < 40) (t : Lx.Tok) (ht : all[i]? = some t) (hk0 : t.kind = 0) (hlen : all.length ≤ 1000000) (hf : 2 * (all.length - i) + 1 ≤ f + 1) (ih : ∀ g, g ≤ f → ∀ (j : Nat) (lv : Value) (w1 : World), TokRow w1 lv all → 2 * (all.length - j) + 1 ≤ g → Calls Try.prog 19 #[lv, .int .i64 j, .int .i64 (d + 1 : Nat), .int .i64 stop] w1 (RNodes w1 all (40 - d) (Px.node stop g (d + 1) (all.drop j)))) : Calls Try.prog 19 #[lv, .int .i64 i, .int .i64 d, .int .i64 stop] w (RNodes w all (41 - d) (Px.node stop (f + 1) d (all.drop i))) := by
 have HROW := hid hr
 have HIH := hid ih
 clear ih
 obtain ⟨q, c, rfl⟩ := hr.len
 have hlt : i < all.length := (List.getElem?_eq_some_iff.1 ht).1
 have hdr : all.drop i = t :: all.drop (i + 1) := by rw [List.drop_eq_getElem_cons hlt]; congr 1; exact (List.getElem?_eq_some_iff.1 ht).2
 have hp : Px.node stop (f + 1) d (all.drop i) = (match Px.rest stop f (d + 1) (all.drop (i + 1)) with | .error p => .error p | .ok (l, ts') => .ok (.mk t l 0, ts')) := by rw [hdr]; exact Px.node_of_rest hk0 (by omega)
 have HP := hid hp
 have hii : ¬ (i : Int) ≥ (all.length : Int) := by omega
 have hij : (i : Int) < (all.length : Int) := by omega
 rcases hr with ⟨h0, _⟩ | ⟨g, of, c', hv, g1, g2, g3⟩
 · rw [h0] at hlt; simp at hlt
 injection hv with hq1 _ hq2
 subst hq1; subst hq2
 obtain ⟨u, hu, _, hcell⟩ := g3 i t ht
 obtain ⟨n0, n1, n2, n3⟩ := tok_cells hu hcell
 have HG3 := hid g3; have HTT := hid ht; have HLT := hid hlt
 clear hu hcell hp hdr g3 ht
 go_enter Try.func19, Try.ntmps19
 obtain ⟨er, et, hb, hsz⟩ := ent2 w #[.int .i64 0, .int .i64 0, .string ⟨#[]⟩, .int .i64 0, .bool false, .slice none 0 0] #[.int .i64 t.kind, .int .i64 t.pos, .string ⟨t.text.toArray⟩, .int .i64 t.int] 73 70
 have ER := hid er; have ET := hid et; have HB := hid hb
 replace n0 := jE ((Below.refl w.heap.size w).alloc (Nat.le_refl _) (.cells #[.int .i64 0, .int .i64 0, .string ⟨#[]⟩, .int .i64 0, .bool false, .slice none 0 0] 73)) n0
 replace n1 := jE ((Below.refl w.heap.size w).alloc (Nat.le_refl _) (.cells #[.int .i64 0, .int .i64 0, .string ⟨#[]⟩, .int .i64 0, .bool false, .slice none 0 0] 73)) n1
 replace n2 := jE ((Below.refl w.heap.size w).alloc (Nat.le_refl _) (.cells #[.int .i64 0, .int .i64 0, .string ⟨#[]⟩, .int .i64 0, .bool false, .slice none 0 0] 73)) n2
 replace n3 := jE ((Below.refl w.heap.size w).alloc (Nat.le_refl _) (.cells #[.int .i64 0, .int .i64 0, .string ⟨#[]⟩, .int .i64 0, .bool false, .slice none 0 0] 73)) n3
 replace hsz := Nat.le_of_eq hsz.symm
 clear er et hb
 have erc0 := jA ER.out 0 _ rfl
 have erc1 := jA ER.out 1 _ rfl
 have erc2 := jA ER.out 2 _ rfl
 have erc3 := jA ER.out 3 _ rfl
 have erc4 := jA ER.out 4 _ rfl
 have erc5 := jA ER.out 5 _ rfl
 have erf := jD ER.out
 have etc0 := jA ET.out 0 _ rfl
 have etc1 := jA ET.out 1 _ rfl
 have etc2 := jA ET.out 2 _ rfl
 have etc3 := jA ET.out 3 _ rfl
 have etf := jD ET.out
 have b1 : (t.kind == 1) = false := by rw [hk0]; rfl
 have b0 : (t.kind != 0) = false := by rw [hk0]; rfl
 have hdi : ¬ (d : Int) ≥ 40 := by omega
 have HK0 := hid hk0
 clear hk0
 obtain ⟨i0, hi0, hz0, hs0, hby0⟩ := info_parts infoNode
 have I0 := hid hi0; have I00 := hid hz0; have I01 := hid hs0; have I02 := hid hby0
 clear hi0 hz0 hs0 hby0
 go_wp2_with fail
 clear erc0 erc1 erc2 erc3 erc4 erc5 erf etc0 etc1 etc2 etc3 etf
 clear n0 n1 n2 n3
 have hsz2 : ((w.alloc (.cells #[.int .i64 0, .int .i64 0, .string ⟨#[]⟩, .int .i64 0, .bool false, .slice none 0 0] 73)).alloc (.cells #[.int .i64 t.kind, .int .i64 t.pos, .string ⟨t.text.toArray⟩, .int .i64 t.int] 70)).heap.size = w.heap.size + 1 + 1 := by simp
 generalize hwz : (w.alloc (.cells #[.int .i64 0, .int .i64 0, .string ⟨#[]⟩, .int .i64 0, .bool false, .slice none 0 0] 73)).alloc (.cells #[.int .i64 t.kind, .int .i64 t.pos, .string ⟨t.text.toArray⟩, .int .i64 t.int] 70) = wz at *
 clear hwz
 have EN : Hid ((wz.alloc (.cells #[.int .i64 t.kind, .int .i64 t.pos, .string ⟨t.text.toArray⟩, .int .i64 t.int, .bool true, .slice none 0 0] 73)).heap[w.heap.size + 2]? = some (.cells #[.int .i64 t.kind, .int .i64 t.pos, .string ⟨t.text.toArray⟩, .int .i64 t.int, .bool true, .slice none 0 0] 73 (0, 0))) := hid (by have := jI wz #[.int .i64 t.kind, .int .i64 t.pos, .string ⟨t.text.toArray⟩, .int .i64 t.int, .bool true, .slice none 0 0] 73; rw [hsz2] at this; exact this)
 replace ER := hid (jH ER.out (.cells #[.int .i64 t.kind, .int .i64 t.pos, .string ⟨t.text.toArray⟩, .int .i64 t.int, .bool true, .slice none 0 0] 73))
 replace HB := hid (HB.out.alloc HB.out.size (.cells #[.int .i64 t.kind, .int .i64 t.pos, .string ⟨t.text.toArray⟩, .int .i64 t.int, .bool true, .slice none 0 0] 73))
 replace hsz : w.heap.size + 3 ≤ (wz.alloc (.cells #[.int .i64 t.kind, .int .i64 t.pos, .string ⟨t.text.toArray⟩, .int .i64 t.int, .bool true, .slice none 0 0] 73)).heap.size := by simp; omega
 generalize wz.alloc (.cells #[.int .i64 t.kind, .int .i64 t.pos, .string ⟨t.text.toArray⟩, .int .i64 t.int, .bool true, .slice none 0 0] 73) = wy at EN ER HB hsz ⊢
 clear ET hsz2
 have hOWN : Hid (wy.ownsRow (w.heap.size + 3) 73 6 (.slice none 0 0) ([] : List Value).length (cellsOf [])) := hid (World.ownsRow_nil _ _ _ _)
 have hi1 : i + 1 ≤ all.length := by omega
 go_loopw [1] (fun iv wr => ∃ (j : Nat) (vs : List Value) (xs : List Px.Node) (av : Value) (gg : Nat), iv = .int .i64 j ∧ i + 1 ≤ j ∧ j ≤ all.length ∧ Hid (Px.rest stop f (d + 1) (all.drop (i + 1)) = Px.pre xs (Px.rest stop gg (d + 1) (all.drop j))) ∧ Hid (gg ≤ f ∧ 2 * (all.length - j) + 2 ≤ gg) ∧ Hid (vs.length ≤ j) ∧ Hid (Reps (Kept (NdAt (40 - d)) (w.heap.size + 3) wr av.ownBlock) vs xs ∧ ∀ u ∈ vs, ShNode u) ∧ Hid (wr.ownsRow (w.heap.size + 3) 73 6 av vs.length (cellsOf vs)) ∧ w.heap.size + 3 ≤ wr.heap.size ∧ Hid (wr.heap[w.heap.size]? = some (.cells #[.int .i64 0, .int .i64 0, .string ⟨#[]⟩, .int .i64 0, .bool false, .slice none 0 0] 73 (0, 0))) ∧ Hid (wr.heap[w.heap.size + 2]? = some (.cells #[.int .i64 t.kind, .int .i64 t.pos, .string ⟨t.text.toArray⟩, .int .i64 t.int, .bool true, av] 73 (0, 0))) ∧ Hid (Below w.heap.size w wr)) (fun iv _ => all.length + 1 - (intOf iv).toNat)
 case atStart => exact ⟨i + 1, [], [], .slice none 0 0, f, by go_num, Nat.le_refl _, hi1, hid (Px.pre_nil _).symm, hid ⟨Nat.le_refl _, by omega⟩, hid (Nat.zero_le _), hid ⟨trivial, fun _ h => by cases h⟩, hOWN, hsz, ER, EN, HB⟩
 case round =>
  clear ER EN HB hsz hOWN
  obtain ⟨j, vs, xs, av, gg, rfl, hj0, hj, HE, HGG, HVL, HRV, HO, hsz, ER, EN, HB⟩ := hrel
  obtain ⟨gq, hgq⟩ : ∃ gq, gg = gq + 1 := ⟨gg - 1, by have := HGG.out.2; omega⟩
  subst hgq
  obtain ⟨pa, ca, rfl⟩ := jF HO.out
  by_cases hjl : j < all.length
  · obtain ⟨t2, ht2⟩ : ∃ t2, all[j]? = some t2 := ⟨_, List.getElem?_eq_getElem hjl⟩
    have hdj : all.drop j = t2 :: all.drop (j + 1) := by rw [List.drop_eq_getElem_cons hjl]; congr 1; exact (List.getElem?_eq_some_iff.1 ht2).2
    obtain ⟨u2, hu2, _, hcell2⟩ := HG3.out j t2 ht2
    obtain ⟨n0, n1, n2, n3⟩ := tok_cells hu2 hcell2
    replace n0 := jE HB.out n0
    have hjji : ¬ (j : Int) ≥ (all.length : Int) := by omega
    have hjj : (j : Int) < (all.length : Int) := by omega
    have HDJ := hid hdj
    clear hu2 hcell2 n1 n2 n3 hdj
    by_cases hk1 : t2.kind = 1
    · have b2 : (t2.kind != 1) = false := by rw [hk1]; rfl
      have HPE : Hid (Px.node stop (f + 1) d (all.drop i) = .ok (.mk t xs 0, all.drop (j + 1))) := hid (by
       rw [HP.out, HE.out, HDJ.out, Px.rest_end _ _ _ _ _ hk1]; simp [Px.pre])
      have HLX := hid (Reps.len HRV.out.1)
      have HLB : Hid (Px.jS (.mk t xs 0) = true) := hid (by unfold Px.jS; rw [beq_iff_eq]; exact HK0.out)
      clear hk1
      have erc0 := jA ER.out 0 _ rfl
      have erc1 := jA ER.out 1 _ rfl
      have erc2 := jA ER.out 2 _ rfl
      have erc3 := jA ER.out 3 _ rfl
      have erc4 := jA ER.out 4 _ rfl
      have erc5 := jA ER.out 5 _ rfl
      have erf := jD ER.out
      have enc0 := jA EN.out 0 _ rfl
      have enc1 := jA EN.out 1 _ rfl
      have enc2 := jA EN.out 2 _ rfl
      have enc3 := jA EN.out 3 _ rfl
      have enc4 := jA EN.out 4 _ rfl
      have enc5 := jA EN.out 5 _ rfl
      have enf := jD EN.out
      go_wp2_with fail
      replace ER := hid (ent_set6 (ER.out) (.int .i64 t.kind) (.int .i64 t.pos) (.string ⟨t.text.toArray⟩) (.int .i64 t.int) (.bool true) (.slice pa vs.length ca))
      replace EN := hid (jB (jB (jB (jB (jB (jB (EN.out) (w.heap.size) 0 (.int .i64 t.kind) (by omega)) (w.heap.size) 1 (.int .i64 t.pos) (by omega)) (w.heap.size) 2 (.string ⟨t.text.toArray⟩) (by omega)) (w.heap.size) 3 (.int .i64 t.int) (by omega)) (w.heap.size) 4 (.bool true) (by omega)) (w.heap.size) 5 (.slice pa vs.length ca) (by omega))
      replace HB := hid (Below.setCell (Below.setCell (Below.setCell (Below.setCell (Below.setCell (Below.setCell (HB.out) (p := ⟨w.heap.size, 0, none⟩) (by dsimp only; omega) (.int .i64 t.kind)) (p := ⟨w.heap.size, 1, none⟩) (by dsimp only; omega) (.int .i64 t.pos)) (p := ⟨w.heap.size, 2, none⟩) (by dsimp only; omega) (.string ⟨t.text.toArray⟩)) (p := ⟨w.heap.size, 3, none⟩) (by dsimp only; omega) (.int .i64 t.int)) (p := ⟨w.heap.size, 4, none⟩) (by dsimp only; omega) (.bool true)) (p := ⟨w.heap.size, 5, none⟩) (by dsimp only; omega) (.slice pa vs.length ca))
      have r0 := jA ER.out 0 _ rfl
      have r1 := jA ER.out 1 _ rfl
      have r2 := jA ER.out 2 _ rfl
      have r3 := jA ER.out 3 _ rfl
      have r4 := jA ER.out 4 _ rfl
      have r5 := jA ER.out 5 _ rfl
      refine bodyPost_ret (v := .tuple #[.agg #[.int .i64 t.kind, .int .i64 t.pos, .string ⟨t.text.toArray⟩, .int .i64 t.int, .bool true, .slice pa vs.length ca], .int .i64 ((j + 1 : Nat) : Int), .int .i64 (-1)]) (by simp [results, Try.results19, go_sem, r0, r1, r2, r3, r4, r5]) rfl ?_
      exact rnodes_ok HPE.out (by omega) HB.out ⟨_, _, _, _, _, _, _, _, rfl⟩ (fun u hu => by rw [show 41 - d = (40 - d) + 1 from by omega]; exact ⟨.slice pa vs.length ca, by unfold nV; rw [HLB.out]; rfl, row_new HO.out HLX.out HRV.out.1 (fun v hv => shNode_size (HRV.out.2 v hv)) u (fun b h1 h2 => (hu b (by omega) (by simpa using h2)).trans (set6_other _ _ b _ _ _ _ _ _ (by omega)))⟩)
    · have b2 : (t2.kind != 1) = true := bne_iff_ne.2 hk1
      have HK1 := hid hk1
      have hihj := HIH.out gq (by have := HGG.out.1; omega) j _ _ (show TokRow wr (.slice (some ⟨g, of, none⟩) all.length c) all from HROW.out.mono HB.out (fun _ _ _ h => h)) (by have := HGG.out.2; omega)
      rw [show ((d + 1 : Nat) : Int) = (d : Int) + 1 from by omega] at hihj
      have HIHJ := hid hihj; clear hihj
      clear hk1
      go_wp2_with fail
      clear n0 b2
      refine HIHJ.out.mono ?_
      intro e w5 ht5
      cases hnd : Px.node stop gq (d + 1) (all.drop j) with
      | error p =>
        obtain ⟨hb, v, nx, kk, rfl, ⟨xk, xp, xs2, xi, xb, xq, xn, xc, rfl⟩, hk⟩ := ht5
        rw [hnd] at hk
        dsimp only at hk
        subst hk
        have hge : (p : Int) ≥ 0 := by omega
        have HPE : Hid (Px.node stop (f + 1) d (all.drop i) = .error p) := hid (by rw [HP.out, HE.out, HDJ.out]; rw [HDJ.out] at hnd; rw [Px.rest_bad' HK1.out hnd]; rfl)
        replace hsz := Nat.le_trans hsz hb.size
        replace ER := hid (jC ER.out hb)
        replace EN := hid (jC EN.out hb)
        replace HB := hid (HB.out.trans (hb.mono HB.out.size))
        clear hb
        replace ER := hid (jH ER.out (.cells #[.int .i64 xk, .int .i64 xp, .string xs2, .int .i64 xi, .bool xb, .slice xq xn xc] 73))
        replace EN := hid (jH EN.out (.cells #[.int .i64 xk, .int .i64 xp, .string xs2, .int .i64 xi, .bool xb, .slice xq xn xc] 73))
        replace HB := hid (HB.out.alloc HB.out.size (.cells #[.int .i64 xk, .int .i64 xp, .string xs2, .int .i64 xi, .bool xb, .slice xq xn xc] 73))
        clear hnd
        have erc0 := jA ER.out 0 _ rfl
        have erc1 := jA ER.out 1 _ rfl
        have erc2 := jA ER.out 2 _ rfl
        have erc3 := jA ER.out 3 _ rfl
        have erc4 := jA ER.out 4 _ rfl
        have erc5 := jA ER.out 5 _ rfl
        have erf := jD ER.out
        have enc0 := jA EN.out 0 _ rfl
        have enc1 := jA EN.out 1 _ rfl
        have enc2 := jA EN.out 2 _ rfl
        have enc3 := jA EN.out 3 _ rfl
        have enc4 := jA EN.out 4 _ rfl
        have enc5 := jA EN.out 5 _ rfl
        have enf := jD EN.out
        go_wp2_with fail
        replace ER := hid (ent_set6 (ER.out) (.int .i64 0) (.int .i64 0) (.string ⟨#[]⟩) (.int .i64 0) (.bool false) (.slice none 0 0))
        replace EN := hid (jB (jB (jB (jB (jB (jB (EN.out) (w.heap.size) 0 (.int .i64 0) (by omega)) (w.heap.size) 1 (.int .i64 0) (by omega)) (w.heap.size) 2 (.string ⟨#[]⟩) (by omega)) (w.heap.size) 3 (.int .i64 0) (by omega)) (w.heap.size) 4 (.bool false) (by omega)) (w.heap.size) 5 (.slice none 0 0) (by omega))
        replace HB := hid (Below.setCell (Below.setCell (Below.setCell (Below.setCell (Below.setCell (Below.setCell (HB.out) (p := ⟨w.heap.size, 0, none⟩) (by dsimp only; omega) (.int .i64 0)) (p := ⟨w.heap.size, 1, none⟩) (by dsimp only; omega) (.int .i64 0)) (p := ⟨w.heap.size, 2, none⟩) (by dsimp only; omega) (.string ⟨#[]⟩)) (p := ⟨w.heap.size, 3, none⟩) (by dsimp only; omega) (.int .i64 0)) (p := ⟨w.heap.size, 4, none⟩) (by dsimp only; omega) (.bool false)) (p := ⟨w.heap.size, 5, none⟩) (by dsimp only; omega) (.slice none 0 0))
        have r0 := jA ER.out 0 _ rfl
        have r1 := jA ER.out 1 _ rfl
        have r2 := jA ER.out 2 _ rfl
        have r3 := jA ER.out 3 _ rfl
        have r4 := jA ER.out 4 _ rfl
        have r5 := jA ER.out 5 _ rfl
        refine bodyPost_ret (v := .tuple #[.agg #[.int .i64 0, .int .i64 0, .string ⟨#[]⟩, .int .i64 0, .bool false, .slice none 0 0], .int .i64 j, .int .i64 p]) (by simp [results, Try.results19, go_sem, r0, r1, r2, r3, r4, r5]) rfl ?_
        exact rnodes_err (by rw [HPE.out]) HB.out ⟨_, _, _, _, _, _, _, _, rfl⟩
      | ok y =>
        obtain ⟨m, ts2⟩ := y
        obtain ⟨hb, v, nx, kk, rfl, hsh, hk⟩ := ht5
        rw [hnd] at hk
        dsimp only at hk
        obtain ⟨rfl, j2, rfl, hj2, hts, hnew⟩ := hk
        have hless := ((Px.node_more stop stop gq (d + 1) (all.drop j)).1 m ts2 hnd).2.2.1
        rw [hts, List.length_drop, List.length_drop] at hless
        have hjj2 : j < j2 := by omega
        have HE2 : Hid (Px.rest stop f (d + 1) (all.drop (i + 1)) = Px.pre (xs ++ [m]) (Px.rest stop gq (d + 1) (all.drop j2))) := hid (by rw [HE.out, HDJ.out]; rw [HDJ.out] at hnd; rw [Px.pre_snoc xs HK1.out hnd, hts])
        have HGG2 : Hid (gq ≤ f ∧ 2 * (all.length - j2) + 2 ≤ gq) := hid ⟨by have := HGG.out.1; omega, by have := HGG.out.2; omega⟩
        have hk1 := new_kept (base := w.heap.size + 3) (ob := (Value.slice pa vs.length ca).ownBlock) hnew hsz hb.size (fun g hg => (HO.out.lt g hg).2)
        have HK2 := hid hk1; have HO2 := hid (jJ HO.out hb); have HRV2 := hid (And.intro (HRV.out.1.mono fun z y h => h.below hb) HRV.out.2)
        have HSH := hid hsh
        obtain ⟨xk, xp, xs2, xi, xb, xq, xn, xc, rfl⟩ := hsh
        replace hsz := Nat.le_trans hsz hb.size
        replace ER := hid (jC ER.out hb)
        replace EN := hid (jC EN.out hb)
        replace HB := hid (HB.out.trans (hb.mono HB.out.size))
        clear hb
        clear hnd hts hless hk1 hnew
        replace ER := hid (jH ER.out (.cells #[.int .i64 xk, .int .i64 xp, .string xs2, .int .i64 xi, .bool xb, .slice xq xn xc] 73))
        replace EN := hid (jH EN.out (.cells #[.int .i64 xk, .int .i64 xp, .string xs2, .int .i64 xi, .bool xb, .slice xq xn xc] 73))
        replace HB := hid (HB.out.alloc HB.out.size (.cells #[.int .i64 xk, .int .i64 xp, .string xs2, .int .i64 xi, .bool xb, .slice xq xn xc] 73))
        have hal : Below w5.heap.size w5 (w5.alloc (.cells #[.int .i64 xk, .int .i64 xp, .string xs2, .int .i64 xi, .bool xb, .slice xq xn xc] 73)) := (Below.refl _ _).alloc (Nat.le_refl _) _
        replace HK2 := hid (HK2.out.below hal); replace HO2 := hid (jJ HO2.out hal); replace HRV2 := hid (And.intro (HRV2.out.1.mono fun z y h => h.below hal) HRV2.out.2)
        replace hsz := Nat.le_trans hsz hal.size
        have x0 : (w5.alloc (.cells #[.int .i64 xk, .int .i64 xp, .string xs2, .int .i64 xi, .bool xb, .slice xq xn xc] 73)).cell? ⟨w5.heap.size, 0, none⟩ = some (.int .i64 xk) := by rw [World.cell?_alloc_mark]; rfl
        have x1 : (w5.alloc (.cells #[.int .i64 xk, .int .i64 xp, .string xs2, .int .i64 xi, .bool xb, .slice xq xn xc] 73)).cell? ⟨w5.heap.size, 1, none⟩ = some (.int .i64 xp) := by rw [World.cell?_alloc_mark]; rfl
        have x2 : (w5.alloc (.cells #[.int .i64 xk, .int .i64 xp, .string xs2, .int .i64 xi, .bool xb, .slice xq xn xc] 73)).cell? ⟨w5.heap.size, 2, none⟩ = some (.string xs2) := by rw [World.cell?_alloc_mark]; rfl
        have x3 : (w5.alloc (.cells #[.int .i64 xk, .int .i64 xp, .string xs2, .int .i64 xi, .bool xb, .slice xq xn xc] 73)).cell? ⟨w5.heap.size, 3, none⟩ = some (.int .i64 xi) := by rw [World.cell?_alloc_mark]; rfl
        have x4 : (w5.alloc (.cells #[.int .i64 xk, .int .i64 xp, .string xs2, .int .i64 xi, .bool xb, .slice xq xn xc] 73)).cell? ⟨w5.heap.size, 4, none⟩ = some (.bool xb) := by rw [World.cell?_alloc_mark]; rfl
        have x5 : (w5.alloc (.cells #[.int .i64 xk, .int .i64 xp, .string xs2, .int .i64 xi, .bool xb, .slice xq xn xc] 73)).cell? ⟨w5.heap.size, 5, none⟩ = some (.slice xq xn xc) := by rw [World.cell?_alloc_mark]; rfl
        clear hal
        go_upto_region 16 with fail
        generalize w5.alloc (.cells #[.int .i64 xk, .int .i64 xp, .string xs2, .int .i64 xi, .bool xb, .slice xq xn xc] 73) = W5 at *
        have enc0 := jA EN.out 0 _ rfl
        have enc1 := jA EN.out 1 _ rfl
        have enc2 := jA EN.out 2 _ rfl
        have enc3 := jA EN.out 3 _ rfl
        have enc4 := jA EN.out 4 _ rfl
        have enc5 := jA EN.out 5 _ rfl
        have enf := jD EN.out
        go_wp2_with (at_builtin; refine wpList_append_loc _ rfl (.tmp 79) (.tmp 81) 71 rfl (w.heap.size + 3) 73 i0 (.agg #[.int .i64 0, .int .i64 0, .string ⟨#[]⟩, .int .i64 0, .bool false, .slice none 0 0]) 6 72 Try.underlying71 I0.out I00.out I01.out I02.out rfl (by decide) _ vs.length _ rfl (HO2.out.alloc _) ⟨W5.heap.size, 0, none⟩ 1 1 [.int .i64 xk, .int .i64 xp, .string xs2, .int .i64 xi, .bool xb, .slice xq xn xc] rfl (by decide) rfl ?c1 ?c2 ?c3 ?c4 ?c5 ?_)
        case c1 => exact fun j u h => six_at _ _ _ _ _ _ _ _ j u h
        case c2 => intro u hu; simp only [List.mem_cons, List.not_mem_nil, or_false] at hu; rcases hu with rfl | rfl | rfl | rfl | rfl | rfl <;> rfl
        case c3 => have := HVL.out; unfold maxLen; omega
        case c4 => have := HVL.out; omega
        case c5 => simp; omega
        intro v6 w6 hown hgr hloc
        clear enc0 enc1 enc2 enc3 enc4 enc5 enf
        clear x0 x1 x2 x3 x4 x5
        have hob : ∀ kk, (Value.slice pa vs.length ca).ownBlock = some kk → w.heap.size + 3 ≤ kk := fun kk hkk => (HO2.out.lt kk hkk).1
        replace ER := hid ((hgr.block (w.heap.size) (by have := jK ER.out; simp; omega) (fun e => by have := hob _ e.symm; omega)).trans (jH ER.out (.cells #[.int .i64 xk, .int .i64 xp, .string xs2, .int .i64 xi, .bool xb, .slice xq xn xc] 73)))
        replace EN := hid ((hgr.block (w.heap.size + 2) (by have := jK EN.out; simp; omega) (fun e => by have := hob _ e.symm; omega)).trans (jH EN.out (.cells #[.int .i64 xk, .int .i64 xp, .string xs2, .int .i64 xi, .bool xb, .slice xq xn xc] 73)))
        replace HB := hid ((HB.out.alloc HB.out.size (.cells #[.int .i64 xk, .int .i64 xp, .string xs2, .int .i64 xi, .bool xb, .slice xq xn xc] 73)).grown hgr (by have := HB.out.size; simp; omega) (fun kk hkk => by have := hob kk hkk; omega))
        have hstep : ∀ z x, Kept (NdAt (40 - d)) (w.heap.size + 3) W5 (Value.slice pa vs.length ca).ownBlock z x → Kept (NdAt (40 - d)) (w.heap.size + 3) w6 v6.ownBlock z x := fun z x hk => (hk.below ((Below.refl _ _).alloc (Nat.le_refl _) (.cells #[.int .i64 xk, .int .i64 xp, .string xs2, .int .i64 xi, .bool xb, .slice xq xn xc] 73))).step hgr.size (fun b hb1 hb2 => hgr.block b hb1 (fun e => hb2 e.symm)) (by rw [World.size_alloc]; exact hloc)
        have hreps : Reps (Kept (NdAt (40 - d)) (w.heap.size + 3) w6 v6.ownBlock) (vs ++ [.agg #[.int .i64 xk, .int .i64 xp, .string xs2, .int .i64 xi, .bool xb, .slice xq xn xc]]) (xs ++ [m]) := Reps.snoc (hstep _ _ HK2.out) (HRV2.out.1.mono hstep)
        rw [← cells6] at hown
        have hs6 : w.heap.size + 3 ≤ w6.heap.size := by have := hgr.size; simp at this; omega
        obtain ⟨p6, c6, rfl⟩ := jF hown
        have HO6 := hid hown; have HR6 := hid hreps
        clear hown hgr hloc hob hstep hreps hsz
        have enc0 := jA EN.out 0 _ rfl
        have enc1 := jA EN.out 1 _ rfl
        have enc2 := jA EN.out 2 _ rfl
        have enc3 := jA EN.out 3 _ rfl
        have enc4 := jA EN.out 4 _ rfl
        have enc5 := jA EN.out 5 _ rfl
        have enf := jD EN.out
        go_wp2
        replace ER := hid (jB (ER.out) (w.heap.size + 2) 5 (.slice p6 (vs.length + 1) c6) (by omega))
        replace EN := hid (jG #[.int .i64 t.kind, .int .i64 t.pos, .string ⟨t.text.toArray⟩, .int .i64 t.int, .bool true, .slice p6 (vs.length + 1) c6] (EN.out) 5 (.slice p6 (vs.length + 1) c6) rfl)
        replace HB := hid (Below.setCell (HB.out) (p := ⟨w.heap.size + 2, 5, none⟩) (by dsimp only; omega) (.slice p6 (vs.length + 1) c6))
        go_roundw
        case rel => exact ⟨j2, vs ++ [.agg #[.int .i64 xk, .int .i64 xp, .string xs2, .int .i64 xi, .bool xb, .slice xq xn xc]], xs ++ [m], .slice p6 (vs.length + 1) c6, gq, by go_num, by omega, hj2, HE2, HGG2, hid (by have := HVL.out; simp; omega), hid ⟨HR6.out.mono fun z y h => kept_set h (by omega), fun u hu => (List.mem_append.1 hu).elim (fun h => HRV2.out.2 u h) (fun h => by rw [List.mem_singleton.1 h]; exact HSH.out)⟩, hid (by rw [List.length_append]; exact own_set HO6.out (by omega)), by simpa using hs6, ER, EN, HB⟩
        case measure => simp [intOf]; omega
  · have hje : j = all.length := by omega
    subst hje
    have hjji : (all.length : Int) ≥ (all.length : Int) := Int.le_refl _
    have hihj := HIH.out gq (by have := HGG.out.1; omega) all.length _ _ (show TokRow wr (.slice (some ⟨g, of, none⟩) all.length c) all from HROW.out.mono HB.out (fun _ _ _ h => h)) (by have := HGG.out.2; omega)
    rw [show ((d + 1 : Nat) : Int) = (d : Int) + 1 from by omega] at hihj
    have HIHJ := hid hihj; clear hihj
    have HPE : Hid (Px.node stop (f + 1) d (all.drop i) = .error stop) := hid (by rw [HP.out, HE.out, List.drop_eq_nil_of_le (Nat.le_refl _)]; rfl)
    have hnd : Px.node stop gq (d + 1) (all.drop all.length) = .error stop := by rw [List.drop_eq_nil_of_le (Nat.le_refl _)]; cases gq <;> rfl
    go_wp2_with fail
    refine HIHJ.out.mono ?_
    intro e w5 ht5
    obtain ⟨hb, v, nx, kk, rfl, ⟨xk, xp, xs2, xi, xb, xq, xn, xc, rfl⟩, hk⟩ := ht5
    rw [hnd] at hk
    dsimp only at hk
    subst hk
    have hge : (stop : Int) ≥ 0 := by omega
    replace hsz := Nat.le_trans hsz hb.size
    replace ER := hid (jC ER.out hb)
    replace EN := hid (jC EN.out hb)
    replace HB := hid (HB.out.trans (hb.mono HB.out.size))
    clear hb
    replace ER := hid (jH ER.out (.cells #[.int .i64 xk, .int .i64 xp, .string xs2, .int .i64 xi, .bool xb, .slice xq xn xc] 73))
    replace EN := hid (jH EN.out (.cells #[.int .i64 xk, .int .i64 xp, .string xs2, .int .i64 xi, .bool xb, .slice xq xn xc] 73))
    replace HB := hid (HB.out.alloc HB.out.size (.cells #[.int .i64 xk, .int .i64 xp, .string xs2, .int .i64 xi, .bool xb, .slice xq xn xc] 73))
    clear hnd
    have erc0 := jA ER.out 0 _ rfl
    have erc1 := jA ER.out 1 _ rfl
    have erc2 := jA ER.out 2 _ rfl
    have erc3 := jA ER.out 3 _ rfl
    have erc4 := jA ER.out 4 _ rfl
    have erc5 := jA ER.out 5 _ rfl
    have erf := jD ER.out
    have enc0 := jA EN.out 0 _ rfl
    have enc1 := jA EN.out 1 _ rfl
    have enc2 := jA EN.out 2 _ rfl
    have enc3 := jA EN.out 3 _ rfl
    have enc4 := jA EN.out 4 _ rfl
    have enc5 := jA EN.out 5 _ rfl
    have enf := jD EN.out
    go_wp2_with fail
    replace ER := hid (ent_set6 (ER.out) (.int .i64 0) (.int .i64 0) (.string ⟨#[]⟩) (.int .i64 0) (.bool false) (.slice none 0 0))
    replace EN := hid (jB (jB (jB (jB (jB (jB (EN.out) (w.heap.size) 0 (.int .i64 0) (by omega)) (w.heap.size) 1 (.int .i64 0) (by omega)) (w.heap.size) 2 (.string ⟨#[]⟩) (by omega)) (w.heap.size) 3 (.int .i64 0) (by omega)) (w.heap.size) 4 (.bool false) (by omega)) (w.heap.size) 5 (.slice none 0 0) (by omega))
    replace HB := hid (Below.setCell (Below.setCell (Below.setCell (Below.setCell (Below.setCell (Below.setCell (HB.out) (p := ⟨w.heap.size, 0, none⟩) (by dsimp only; omega) (.int .i64 0)) (p := ⟨w.heap.size, 1, none⟩) (by dsimp only; omega) (.int .i64 0)) (p := ⟨w.heap.size, 2, none⟩) (by dsimp only; omega) (.string ⟨#[]⟩)) (p := ⟨w.heap.size, 3, none⟩) (by dsimp only; omega) (.int .i64 0)) (p := ⟨w.heap.size, 4, none⟩) (by dsimp only; omega) (.bool false)) (p := ⟨w.heap.size, 5, none⟩) (by dsimp only; omega) (.slice none 0 0))
    have r0 := jA ER.out 0 _ rfl
    have r1 := jA ER.out 1 _ rfl
    have r2 := jA ER.out 2 _ rfl
    have r3 := jA ER.out 3 _ rfl
    have r4 := jA ER.out 4 _ rfl
    have r5 := jA ER.out 5 _ rfl
    refine bodyPost_ret (v := .tuple #[.agg #[.int .i64 0, .int .i64 0, .string ⟨#[]⟩, .int .i64 0, .bool false, .slice none 0 0], .int .i64 all.length, .int .i64 stop]) (by simp [results, Try.results19, go_sem, r0, r1, r2, r3, r4, r5]) rfl ?_
    exact rnodes_err (by rw [HPE.out]) HB.out ⟨_, _, _, _, _, _, _, _, rfl⟩
theorem nodes_any (stop : Nat) (all : List Lx.Tok) (hlen : all.length ≤ 1000000) : ∀ (f d i : Nat) (lv : Value) (w : World), TokRow w lv all → d ≤ 40 → 2 * (all.length - i) + 1 ≤ f →
 Calls Try.prog 19 #[lv, .int .i64 i, .int .i64 d, .int .i64 stop] w (RNodes w all (41 - d) (Px.node stop f d (all.drop i))) := by
 intro f
 induction f using Nat.strongRecOn with
 | _ f IH =>
   intro d i lv w hr hd hf
   obtain ⟨f', rfl⟩ : ∃ g, f = g + 1 := ⟨f - 1, by omega⟩
   by_cases hi : i < all.length
   · obtain ⟨t, ht⟩ : ∃ t, all[i]? = some t := ⟨_, List.getElem?_eq_getElem hi⟩
     by_cases h1 : t.kind = 1
     · exact nodes_close f' d stop i all lv w hr hd t ht h1
     · by_cases h0 : t.kind = 0
       · by_cases h40 : d = 40
         · exact nodes_deep f' d stop i all lv w hr hd t ht h0 h40
         · refine nodes_list f' d stop i all lv w hr (by omega) t ht h0 hlen hf (fun g hg j lv w1 hr1 hf1 => ?_)
           have h9 := IH g (by omega) (d + 1) j lv w1 hr1 (by omega) hf1
           rwa [show 41 - (d + 1) = 40 - d from by omega] at h9
       · exact nodes_leaf f' d stop i all lv w hr hd t ht h0 h1
   · exact nodes_end f' d stop i all lv w hr (by omega)
end Go.Proofs.Ytgoacbomphlhjaa
