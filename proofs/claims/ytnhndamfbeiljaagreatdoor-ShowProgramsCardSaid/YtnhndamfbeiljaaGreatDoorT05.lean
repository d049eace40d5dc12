/-
  Several texts in one: PRead, PRest, PEnt, PEachPat.
-/
import Derived.Test.YtnhndamfbeiljaaGreatDoorT00
import Derived.Test.YtnhndamfbeiljaaGreatDoorT04
import Derived.IntWalk
import Derived.Deep.RegionWith
import Derived.Deep.RegionHeld3
set_option linter.unusedVariables false
set_option linter.unusedSimpArgs false
set_option maxHeartbeats 4000000
set_option maxRecDepth 100000
namespace Go.Proofs.YtnhndamfbeiljaaGreatDoor
open Go Go.RowKit
open Go.Lib (hid)
open List renaming getElem_toArray → jR, getElem_cons_succ → jR0, getElem_cons_zero → jR1, setIfInBounds_toArray → jR2, set_cons_zero → jR3, set_cons_succ → jR4
theorem jM7 (t : List UInt8) : Px.jBG t <= 2 := by
 unfold Px.jBG; split
 . omega
 . split <;> omega
def jDB (d : Nat) (u : World) (v : Value) (n : Px.Node) : Prop := ∃ lv, v = jA7 n lv /\ jAC u (40 - d) lv n.list /\ n.takes <= 2
def jEQ {α : Type} (rep : World -> Value -> α -> Prop) (r : Nat) (tv : Value) (all : List Lx.Tok) (i stop B : Nat) (w : World) (res : Px.R (α × List Lx.Tok)) (e : Ending) (w' : World) : Prop :=
 w.grownBy w' (some r) /\ match res with
  | .error p => e = jAW p
  | .ok (n, ts) => ∃ v j, e = .returned v /\ New rep w w' v n /\ ts = all.drop j /\ i < j /\ Reader w' r tv all j stop B
def jNL (f : Nat) : Prop := ∀ (r : Nat) (tv : Value) (all : List Lx.Tok) (i stop B d : Nat) (w : World), Reader w r tv all i stop B -> d <= 40 -> 2 * (all.length - i) + 1 <= f ->
 Calls Tryz.prog 46 #[.pointer (some ⟨r, 0, none⟩), .int .i64 d] w (jEQ (jDB d) r tv all i stop B w (Px.node stop f d (all.drop i)))
def jPA (f : Nat) : Prop := ∀ (r : Nat) (tv : Value) (all : List Lx.Tok) (i stop B d : Nat) (w : World), Reader w r tv all i stop B -> 1 <= d -> d <= 40 -> 2 * (all.length - i) + 2 <= f ->
 Calls Tryz.prog 85 #[.pointer (some ⟨r, 0, none⟩), .int .i64 d] w (jEQ (fun u lv l => jAC u (40 - d + 1) lv l) r tv all i stop B w (Px.rest stop f d (all.drop i)))
theorem Reader.bump {w : World} {r : Nat} {tv : Value} {all : List Lx.Tok} {i stop B : Nat} (h : Reader w r tv all i stop B) (hi : i < all.length) :
 Reader (w.setCell ⟨r, 1, none⟩ (.int .i64 ((i : Int) + 1))) r tv all (i + 1) stop B /\ w.grownBy (w.setCell ⟨r, 1, none⟩ (.int .i64 ((i : Int) + 1))) (some r) := by
 have hg : w.grownBy (w.setCell ⟨r, 1, none⟩ (.int .i64 ((i : Int) + 1))) (some r) :=
  ⟨rfl, rfl, rfl, by simp, fun k _ hk => Below.heap_setCell w ⟨r, 1, none⟩ _ k (fun e => hk (by rw [e]))⟩
 refine ⟨h.moved hg ?_ hi, hg⟩; rw [heap_setCell_same w r 1 _ _ _ h.obj]; rfl
theorem jAB {r : Nat} {a b c : World} (h : a.grownBy b (some r)) (k : Below a.heap.size b c) : a.grownBy c (some r) :=
 ⟨k.os.trans h.os, k.tape.trans h.tape, k.output.trans h.output, Nat.le_trans h.size k.size, fun x hx hr => (k.block x hx).trans (h.block x hx hr)⟩
theorem kids_nil (u : World) (k : Nat) : jAC u k (.slice none 0 0) [] := by
 cases k with
 | zero => exact ⟨rfl, none, 0, rfl⟩
 | succ k => exact .inl ⟨rfl, none, 0, rfl⟩
structure Six (w : World) (g : Nat) : Prop where
 cells : ∃ x0 x1 x2 x3 x4 x5 : Value, w.cell? ⟨g, 0, none⟩ = some x0 /\ w.cell? ⟨g, 1, none⟩ = some x1 /\ w.cell? ⟨g, 2, none⟩ = some x2 /\ w.cell? ⟨g, 3, none⟩ = some x3 /\ w.cell? ⟨g, 4, none⟩ = some x4 /\ w.cell? ⟨g, 5, none⟩ = some x5
 free : ∀ o, w.frozen? ⟨g, o, none⟩ = false
theorem jOX (w : World) (x0 x1 x2 x3 x4 x5 : Value) (T : TypeId) : Six (w.alloc (.cells #[x0, x1, x2, x3, x4, x5] T)) w.heap.size :=
 ⟨⟨x0, x1, x2, x3, x4, x5, by refine ⟨?_, ?_, ?_, ?_, ?_, ?_⟩ <;> (rw [World.cell?_alloc_mark]; rfl)⟩, fun o => by simp only [World.frozen?, heap_alloc_new]; simp⟩
theorem Six.of_block {w w' : World} {g : Nat} (h : Six w g) (e : w'.heap[g]? = w.heap[g]?) : Six w' g := by
 obtain ⟨x0, x1, x2, x3, x4, x5, c⟩ := h.cells; have ec : ∀ o, w'.cell? ⟨g, o, none⟩ = w.cell? ⟨g, o, none⟩ := fun o => World.cell?_of_block (w := w) (a := ⟨g, o, none⟩) e
 exact ⟨⟨x0, x1, x2, x3, x4, x5, by rw [ec, ec, ec, ec, ec, ec]; exact c⟩, fun o => by rw [World.frozen?_of_block (w := w) (a := ⟨g, o, none⟩) e]; exact h.free o⟩
def set6 (W : World) (g : Nat) (v0 v1 v2 v3 v4 v5 : Value) : World := ((((((W.setCell ⟨g, 0, none⟩ v0).setCell ⟨g, 1, none⟩ v1).setCell ⟨g, 2, none⟩ v2).setCell ⟨g, 3, none⟩ v3).setCell ⟨g, 4, none⟩ v4).setCell ⟨g, 5, none⟩ v5).drew
theorem jNT (W : World) (g : Nat) (v0 v1 v2 v3 v4 v5 : Value) : Below g W (set6 W g v0 v1 v2 v3 v4 v5) :=
 (((((((Below.refl g W).setCell (Nat.le_refl g) v0).setCell (Nat.le_refl g) v1).setCell (Nat.le_refl g) v2).setCell (Nat.le_refl g) v3).setCell (Nat.le_refl g) v4).setCell (Nat.le_refl g) v5).drew
theorem jME (W : World) (g : Nat) (v0 v1 v2 v3 v4 v5 : Value) : Below g W ((((((W.setCell ⟨g, 0, none⟩ v0).setCell ⟨g, 1, none⟩ v1).setCell ⟨g, 2, none⟩ v2).setCell ⟨g, 3, none⟩ v3).setCell ⟨g, 4, none⟩ v4).setCell ⟨g, 5, none⟩ v5) :=
 ((((((Below.refl g W).setCell (Nat.le_refl g) v0).setCell (Nat.le_refl g) v1).setCell (Nat.le_refl g) v2).setCell (Nat.le_refl g) v3).setCell (Nat.le_refl g) v4).setCell (Nat.le_refl g) v5
theorem jIH (W : World) (g : Nat) (v0 v1 v2 v3 v4 v5 : Value) (k : Nat) (h : k ≠ g) : (((((((W.setCell ⟨g, 0, none⟩ v0).setCell ⟨g, 1, none⟩ v1).setCell ⟨g, 2, none⟩ v2).setCell ⟨g, 3, none⟩ v3).setCell ⟨g, 4, none⟩ v4).setCell ⟨g, 5, none⟩ v5)).heap[k]? = W.heap[k]? := by
 rw [Below.heap_setCell _ _ _ k h, Below.heap_setCell _ _ _ k h, Below.heap_setCell _ _ _ k h, Below.heap_setCell _ _ _ k h, Below.heap_setCell _ _ _ k h, Below.heap_setCell _ _ _ k h]
structure TokBox (w : World) (g : Nat) (t : Lx.Tok) : Prop where
 c0 : w.cell? ⟨g, 0, none⟩ = some (.int .i64 t.kind)
 c1 : w.cell? ⟨g, 1, none⟩ = some (.int .i64 t.pos)
 c2 : w.cell? ⟨g, 2, none⟩ = some (.string ⟨t.text.toArray⟩)
 c3 : w.cell? ⟨g, 3, none⟩ = some (.int .i64 t.int)
theorem tokBox (w : World) (t : Lx.Tok) (T : TypeId) (g : Nat) (hg : w.heap.size = g) : TokBox (w.alloc (.cells #[.int .i64 t.kind, .int .i64 t.pos, .string ⟨t.text.toArray⟩, .int .i64 t.int] T)) g t := by
 subst hg
 constructor <;> (rw [World.cell?_alloc_mark]; rfl)
theorem TokBox.of_block {w w' : World} {g : Nat} {t : Lx.Tok} (h : TokBox w g t) (e : w'.heap[g]? = w.heap[g]?) : TokBox w' g t := by
 have ec : ∀ o, w'.cell? ⟨g, o, none⟩ = w.cell? ⟨g, o, none⟩ := fun o => World.cell?_of_block (w := w) (a := ⟨g, o, none⟩) e
 exact ⟨by rw [ec]; exact h.c0, by rw [ec]; exact h.c1, by rw [ec]; exact h.c2, by rw [ec]; exact h.c3⟩
theorem Reader.free {w : World} {r : Nat} {tv : Value} {all : List Lx.Tok} {i stop B : Nat} (h : Reader w r tv all i stop B) (o : Nat) : w.frozen? ⟨r, o, none⟩ = false := by
 have ho := h.obj; simp only [World.frozen?, ho, jF3]; simp
theorem node_end (f r : Nat) (tv : Value) (all : List Lx.Tok) (i stop B d : Nat) (w : World) (h : Reader w r tv all i stop B) (hi : i = all.length) :
 Calls Tryz.prog 46 #[.pointer (some ⟨r, 0, none⟩), .int .i64 d] w (jEQ (jDB d) r tv all i stop B w (Px.node stop (f + 1) d (all.drop i))) := by
 have hp : Px.node stop (f + 1) d (all.drop i) = .error stop := by rw [hi, List.drop_length, Px.node]
 rw [hp]; have H1 := hid (h.below ((Below.refl _ w).alloc (Nat.le_refl _) (.cells #[.int .i64 0, .int .i64 0, .string ⟨#[]⟩, .int .i64 0, .slice none 0 0, .int .i64 0] 105))); have HI := hid hi; clear hp hi; go_enter Tryz.func46, Tryz.ntmps46; go_wp2_with fail; refine (jKP r tv all i stop B _ H1.out HI.out).mono ?_; rintro e w1 ⟨rfl, hb⟩; exact ⟨rfl, jBE (jAR hb) (Nat.le_refl _) _, rfl⟩
theorem jH6 (f r : Nat) (tv : Value) (all : List Lx.Tok) (i stop B d : Nat) (w : World) (h : Reader w r tv all i stop B) (t : Lx.Tok) (ht : all[i]? = some t) (h1 : t.kind ≠ 1) (h0 : t.kind ≠ 0) :
 Calls Tryz.prog 46 #[.pointer (some ⟨r, 0, none⟩), .int .i64 d] w (jEQ (jDB d) r tv all i stop B w (Px.node stop (f + 1) d (all.drop i))) := by
 obtain ⟨hlt, hget⟩ := List.getElem?_eq_some_iff.1 ht
 have hp : Px.node stop (f + 1) d (all.drop i) = .ok (.mk t [] (Px.jBG t.text), all.drop (i + 1)) := by
  rw [List.drop_eq_getElem_cons hlt, hget, Px.node, if_neg h1, if_neg h0]
 rw [hp]; have hle := h.short; have k1 : (t.kind == 1) = false := by simpa using h1
 have k0 : (t.kind == 0) = false := by simpa using h0
 have H1 := hid (h.below ((Below.refl _ w).alloc (Nat.le_refl _) (.cells #[.int .i64 0, .int .i64 0, .string ⟨#[]⟩, .int .i64 0, .slice none 0 0, .int .i64 0] 105))); have HT := hid ht; have H := hid h; clear hp ht hget h1 h0 h; go_enter Tryz.func46, Tryz.ntmps46; go_wp2_with fail; refine (jDE r tv all i stop B _ H1.out t HT.out).mono ?_; unfold tokV; rintro e w1 ⟨rfl, hb⟩; have hR := H1.out.below hb; obtain ⟨c0, c1, c2, c3⟩ := hR.cells; have fr := hR.free 1; have hrl := hR.lt; have hRb := hR.bump hlt; have hgr : w.grownBy (w1.setCell ⟨r, 1, none⟩ (.int .i64 ((i : Int) + 1))) (some r) := jB9 (jBE (jAR hb) (Nat.le_refl _) _) hRb.2; have hrw := H.out.lt; have hsix : Six w1 w.heap.size := (jOX w _ _ _ _ _ _ _).of_block (hb.block _ (by simp)); have hsz1 := (jAR hb).size; have hsz0 := hb.size; clear hR hb; go_wp2_with fail; have hbelow : Below w1.heap.size (w1.setCell ⟨r, 1, none⟩ (.int .i64 ((i : Int) + 1))) ((w1.setCell ⟨r, 1, none⟩ (.int .i64 ((i : Int) + 1))).alloc (.cells #[.int .i64 t.kind, .int .i64 t.pos, .string ⟨t.text.toArray⟩, .int .i64 t.int] 102)) := (Below.refl _ _).alloc (by simp) _; have hR2 := hRb.1.below (hbelow.mono (by simp)); have hG := jAB hgr (hbelow.mono hsz1); have hsix2 : Six ((w1.setCell ⟨r, 1, none⟩ (.int .i64 ((i : Int) + 1))).alloc (.cells #[.int .i64 t.kind, .int .i64 t.pos, .string ⟨t.text.toArray⟩, .int .i64 t.int] 102)) w.heap.size := hsix.of_block (by rw [hbelow.block _ (by simp at hsz0; omega)]; exact Below.heap_setCell _ _ _ _ (by simp; omega)); have htb := tokBox (w1.setCell ⟨r, 1, none⟩ (.int .i64 ((i : Int) + 1))) t 102 w1.heap.size (by simp); clear hbelow hgr hRb hsix fr c0 c1 c2 c3; generalize ((w1.setCell ⟨r, 1, none⟩ (.int .i64 ((i : Int) + 1))).alloc (.cells #[.int .i64 t.kind, .int .i64 t.pos, .string ⟨t.text.toArray⟩, .int .i64 t.int] 102)) = W at *; obtain ⟨b0, b1, b2, b3⟩ := htb; obtain ⟨e0, e1, e2, e3⟩ := hR2.cells; obtain ⟨⟨x0, x1, x2, x3, x4, x5, o0, o1, o2, o3, o4, o5⟩, ofr⟩ := hsix2; have hlook := run_look W.drew B t.text hR2.prims; have HR2 := hid hR2; have HG := hid hG
 clear hR2 hG e0 e1 e2
 go_region
 go_wp2; refine bodyPost_ret (v := jA7 (.mk t [] (Px.jBG t.text)) (.slice none 0 0)) (by simp [results, Tryz.results46, go_sem, jA7, Px.Node.tok, Px.Node.takes, o0, o1, o2, o3, o4, o5]) rfl ?_; have h6 := jNT W w.heap.size (.int .i64 t.kind) (.int .i64 t.pos) (.string ⟨t.text.toArray⟩) (.int .i64 t.int) (.slice none 0 0) (.int .i64 (Px.jBG t.text)); have hg6 := jAB HG.out h6; exact ⟨hg6, _, i + 1, rfl, fun u _ => ⟨_, rfl, kids_nil u _, jM7 t.text⟩, rfl, Nat.lt_succ_self i, H.out.moved hg6 ((h6.block r hrw).trans HR2.out.obj) hlt⟩
theorem jIS (f r : Nat) (tv : Value) (all : List Lx.Tok) (i stop B d : Nat) (w : World) (h : Reader w r tv all i stop B) (t : Lx.Tok) (ht : all[i]? = some t) (h1 : t.kind = 1 \/ (t.kind = 0 /\ d = 40)) :
 Calls Tryz.prog 46 #[.pointer (some ⟨r, 0, none⟩), .int .i64 d] w (jEQ (jDB d) r tv all i stop B w (Px.node stop (f + 1) d (all.drop i))) := by
 obtain ⟨hlt, hget⟩ := List.getElem?_eq_some_iff.1 ht
 have hp : Px.node stop (f + 1) d (all.drop i) = .error t.pos := by
  rw [List.drop_eq_getElem_cons hlt, hget, Px.node]
  rcases h1 with h1 | ⟨h0, rfl⟩
  . rw [if_pos h1]
  . rw [if_neg (by omega), if_pos h0, if_pos rfl]
 rw [hp]; have hle := h.short; have H1 := hid (h.below ((Below.refl _ w).alloc (Nat.le_refl _) (.cells #[.int .i64 0, .int .i64 0, .string ⟨#[]⟩, .int .i64 0, .slice none 0 0, .int .i64 0] 105))); have HT := hid ht; have H := hid h; clear hp ht hget h
 rcases h1 with h1 | ⟨h0, rfl⟩
 . have k1 : (t.kind == 1) = true := by simpa using h1
   clear h1; go_enter Tryz.func46, Tryz.ntmps46; go_wp2_with fail; refine (jDE r tv all i stop B _ H1.out t HT.out).mono ?_; unfold tokV; rintro e w1 ⟨rfl, hb⟩; have hR := H1.out.below hb; obtain ⟨c0, c1, c2, c3⟩ := hR.cells; have fr := hR.free 1; have hrl := hR.lt; have hRb := hR.bump hlt; have hgr : w.grownBy (w1.setCell ⟨r, 1, none⟩ (.int .i64 ((i : Int) + 1))) (some r) := jB9 (jBE (jAR hb) (Nat.le_refl _) _) hRb.2; have hsz1 := (jAR hb).size; have HG := hid hgr; clear hR hb hRb hgr; go_wp2; refine ⟨rfl, ?_, rfl⟩; exact jAB HG.out ((Below.refl _ _).alloc (by simpa using hsz1) _)
 . have k1 : (t.kind == 1) = false := by simp [h0]
   have k0 : (t.kind == 0) = true := by simpa using h0
   clear h0; go_enter Tryz.func46, Tryz.ntmps46; go_wp2_with fail; refine (jDE r tv all i stop B _ H1.out t HT.out).mono ?_; unfold tokV; rintro e w1 ⟨rfl, hb⟩; have hR := H1.out.below hb; obtain ⟨c0, c1, c2, c3⟩ := hR.cells; have fr := hR.free 1; have hrl := hR.lt; have hRb := hR.bump hlt; have hgr : w.grownBy (w1.setCell ⟨r, 1, none⟩ (.int .i64 ((i : Int) + 1))) (some r) := jB9 (jBE (jAR hb) (Nat.le_refl _) _) hRb.2; have hsz1 := (jAR hb).size; have HG := hid hgr; clear hR hb hRb hgr; go_wp2; refine ⟨rfl, ?_, rfl⟩; exact jAB HG.out ((Below.refl _ _).alloc (by simpa using hsz1) _)
theorem jQE (f r : Nat) (tv : Value) (all : List Lx.Tok) (i stop B d : Nat) (w : World) (h : Reader w r tv all i stop B) (t : Lx.Tok) (ht : all[i]? = some t) (h0 : t.kind = 0) (hd : d < 40) (hf : 2 * (all.length - i) <= f) (hrest : jPA f) :
 Calls Tryz.prog 46 #[.pointer (some ⟨r, 0, none⟩), .int .i64 d] w (jEQ (jDB d) r tv all i stop B w (Px.node stop (f + 1) d (all.drop i))) := by
 obtain ⟨hlt, hget⟩ := List.getElem?_eq_some_iff.1 ht
 have hp : Px.node stop (f + 1) d (all.drop i) = match Px.rest stop f (d + 1) (all.drop (i + 1)) with | .error p => .error p | .ok (l, ts') => .ok (.mk t l 0, ts') := by
  rw [List.drop_eq_getElem_cons hlt, hget, Px.node, if_neg (by omega), if_pos h0, if_neg (by omega)]; rfl
 have Hpn := hid hp; clear hp
 generalize hout : Px.node stop (f + 1) d (all.drop i) = out at *; have hle := h.short; have k1 : (t.kind == 1) = false := by simp [h0]
 have k0 : (t.kind == 0) = true := by simpa using h0
 have k2 : ((d : Int) == 40) = false := by simp; omega
 have H1 := hid (h.below ((Below.refl _ w).alloc (Nat.le_refl _) (.cells #[.int .i64 0, .int .i64 0, .string ⟨#[]⟩, .int .i64 0, .slice none 0 0, .int .i64 0] 105))); have HT := hid ht; have H := hid h; have HRest := hid hrest; clear ht hget h h0 hrest hout; go_enter Tryz.func46, Tryz.ntmps46; go_wp2_with fail; refine (jDE r tv all i stop B _ H1.out t HT.out).mono ?_; unfold tokV; rintro e w1 ⟨rfl, hb⟩; have hR := H1.out.below hb; obtain ⟨c0, c1, c2, c3⟩ := hR.cells; have fr := hR.free 1; have hrl := hR.lt; have hRb := hR.bump hlt; have hgr : w.grownBy (w1.setCell ⟨r, 1, none⟩ (.int .i64 ((i : Int) + 1))) (some r) := jB9 (jBE (jAR hb) (Nat.le_refl _) _) hRb.2; have hrw := H.out.lt; have hsix : Six w1 w.heap.size := (jOX w _ _ _ _ _ _ _).of_block (hb.block _ (by simp)); have hsz1 := (jAR hb).size; have hsz0 := hb.size; clear hR hb; go_wp2_with fail; have hbelow : Below w1.heap.size (w1.setCell ⟨r, 1, none⟩ (.int .i64 ((i : Int) + 1))) ((w1.setCell ⟨r, 1, none⟩ (.int .i64 ((i : Int) + 1))).alloc (.cells #[.int .i64 t.kind, .int .i64 t.pos, .string ⟨t.text.toArray⟩, .int .i64 t.int] 102)) := (Below.refl _ _).alloc (by simp) _; have hR2 := hRb.1.below (hbelow.mono (by simp)); have hG := jAB hgr (hbelow.mono hsz1); have hsix2 : Six ((w1.setCell ⟨r, 1, none⟩ (.int .i64 ((i : Int) + 1))).alloc (.cells #[.int .i64 t.kind, .int .i64 t.pos, .string ⟨t.text.toArray⟩, .int .i64 t.int] 102)) w.heap.size := hsix.of_block (by rw [hbelow.block _ (by simp at hsz0; omega)]; exact Below.heap_setCell _ _ _ _ (by simp; omega)); have htb := tokBox (w1.setCell ⟨r, 1, none⟩ (.int .i64 ((i : Int) + 1))) t 102 w1.heap.size (by simp); simp only [World.size_alloc] at hsz0; have hWs : w1.heap.size < ((w1.setCell ⟨r, 1, none⟩ (.int .i64 ((i : Int) + 1))).alloc (.cells #[.int .i64 t.kind, .int .i64 t.pos, .string ⟨t.text.toArray⟩, .int .i64 t.int] 102)).heap.size := by simp
 clear hbelow hgr hRb hsix fr c0 c1 c2 c3; generalize ((w1.setCell ⟨r, 1, none⟩ (.int .i64 ((i : Int) + 1))).alloc (.cells #[.int .i64 t.kind, .int .i64 t.pos, .string ⟨t.text.toArray⟩, .int .i64 t.int] 102)) = W at *; have HR2 := hid hR2; have HG := hid hG; have HTB := hid htb; have HSX := hid hsix2
 obtain ⟨b0, b1, b2, b3⟩ := htb
 have hcall : ∀ n, Calls Tryz.prog 85 #[.pointer (some ⟨r, 0, none⟩), .int .i64 ((d : Int) + 1)] (W.drewN n) (jEQ (fun u lv l => jAC u (40 - (d + 1) + 1) lv l) r tv all (i + 1) stop B (W.drewN n) (Px.rest stop f (d + 1) (all.drop (i + 1)))) := fun n => by
  have := HRest.out r tv all (i + 1) stop B (d + 1) (W.drewN n) (HR2.out.below (jHM (Below.refl _ _) n)) (by omega) (by omega) (by omega)
  simpa using this
 have HC := hid hcall; clear hR2 hG hcall hsix2; cases hres : Px.rest stop f (d + 1) (all.drop (i + 1)) with
 | error p =>
   have HRES := hid hres; clear hres
   have hw1 : IntKind.i64.wrap ((d : Int) + 1) = (d : Int) + 1 := IntWalk.i64_in _ (by omega); refine wp_region_held_drew (S := fun w' => TokBox w' w1.heap.size t) (by kernel_rfl) (HTB.out.of_block rfl) (fun hHeld => ?_); refine wT 0 (tokV t) rfl (Or.inl ⟨by rfl, fun w' hSw => by obtain ⟨q0, q1, q2, q3⟩ := hSw; go_simp; rfl⟩) hHeld ?_; refine wT 1 (.pointer (some ⟨r, 0, none⟩)) rfl (Or.inl ⟨by rfl, fun w' hSw => by go_simp⟩) hHeld ?_; refine wT 2 (.int .i64 d) rfl (Or.inl ⟨by rfl, fun w' hSw => by go_simp⟩) hHeld ?_; refine wT 3 (.int .i64 ((d : Int) + 1)) rfl (Or.inl ⟨by rfl, fun w' hSw => by go_simp⟩) hHeld ?_; simp only [Act.put, jR2, jR3, jR4]; refine wR 4 rfl (fun K hK => ?_); go_simp; have hc := HC.out 1; rw [HRES.out] at hc; refine hc.mono ?_; rintro e w2 ⟨hg2, rfl⟩; have ho : out = .error p := by rw [Hpn.out, HRES.out]
   subst ho; exact ⟨rfl, jB9 HG.out ⟨hg2.os, hg2.tape, hg2.output, hg2.size, hg2.block⟩, rfl⟩
 | ok res =>
   obtain ⟨l, ts'⟩ := res; have HRES := hid hres; clear hres
   have hw1 : IntKind.i64.wrap ((d : Int) + 1) = (d : Int) + 1 := IntWalk.i64_in _ (by omega); refine wp_region_held_drew (S := fun w' => TokBox w' w1.heap.size t) (by kernel_rfl) (HTB.out.of_block rfl) (fun hHeld => ?_); refine wT 0 (tokV t) rfl (Or.inl ⟨by rfl, fun w' hSw => by obtain ⟨q0, q1, q2, q3⟩ := hSw; go_simp; rfl⟩) hHeld ?_; refine wT 1 (.pointer (some ⟨r, 0, none⟩)) rfl (Or.inl ⟨by rfl, fun w' hSw => by go_simp⟩) hHeld ?_; refine wT 2 (.int .i64 d) rfl (Or.inl ⟨by rfl, fun w' hSw => by go_simp⟩) hHeld ?_; refine wT 3 (.int .i64 ((d : Int) + 1)) rfl (Or.inl ⟨by rfl, fun w' hSw => by go_simp⟩) hHeld ?_; simp only [Act.put, jR2, jR3, jR4]; refine wR 4 rfl (fun K hK => ?_); go_simp; have hc := HC.out 1; rw [HRES.out] at hc; refine hc.mono ?_; rintro e w2 ⟨hg2', v, j, rfl, hnew', hts, hij, hrd⟩; have hg2 : W.grownBy w2 (some r) := ⟨hg2'.os, hg2'.tape, hg2'.output, hg2'.size, hg2'.block⟩; have hnew : New (fun u lv l => jAC u (40 - (d + 1) + 1) lv l) W w2 v l := hnew'; have ho : out = .ok (.mk t l 0, ts') := by rw [Hpn.out, HRES.out]
   subst ho; obtain ⟨pk, ck, rfl⟩ := hnew.now.len; have hWs2 : ∀ k, k < W.heap.size -> k ≠ r -> w2.heap[k]? = W.heap[k]? := fun k hk hkr => hg2.block k hk (fun e => hkr (by simpa using e))
   have htb2 : TokBox w2 w1.heap.size t := HTB.out.of_block (hWs2 _ hWs (by omega)); have hsx2 : Six w2 w.heap.size := HSX.out.of_block (hWs2 _ (by omega) (by omega)); have Hg2 := hid hg2; have Hnew := hid hnew; have Hts := hid hts; have Hrd := hid hrd
   refine hK.out _ _ htb2 (fun hHeld2 => ?_); clear hK K hc hg2 hnew hg2' hnew' hts hrd hWs2 hHeld; refine wR 5 rfl (fun K hK => ?_); unfold tokV; go_simp; refine hK.out _ _ htb2 (fun hHeld3 => ?_); clear hK K hHeld2; obtain ⟨⟨x0, x1, x2, x3, x4, x5, o0, o1, o2, o3, o4, o5⟩, ofr⟩ := hsx2; refine wR 6 rfl (fun K hK => ?_); go_simp; refine hK.out _ _ (htb2.of_block (jIH _ _ _ _ _ _ _ _ _ (by omega))) (fun _ => ?_); clear hK K; refine wpAnyH_done (by kernel_rfl) ?_ _; go_wp2; refine bodyPost_ret (v := jA7 (.mk t l 0) (.slice pk l.length ck)) (by simp [results, Tryz.results46, go_sem, jA7, Px.Node.tok, Px.Node.takes, o0, o1, o2, o3, o4, o5]) rfl ?_; have h6' := jME w2 w.heap.size (.int .i64 t.kind) (.int .i64 t.pos) (.string ⟨t.text.toArray⟩) (.int .i64 t.int) (.slice pk l.length ck) (.int .i64 0); have hgf := jAB (jB9 HG.out Hg2.out) h6'; refine ⟨hgf, _, j, rfl, fun u hu => ⟨_, rfl, ?_, Nat.zero_le 2⟩, Hts.out, by omega, H.out.moved hgf ((h6'.block r hrw).trans Hrd.out.obj) Hrd.out.le⟩
   have hk : jAC u (40 - (d + 1) + 1) (.slice pk l.length ck) l := Hnew.out u fun b hb1 hb2 => by
    rw [hu b (by omega) (by simpa using hb2)]; exact jIH _ _ _ _ _ _ _ _ _ (by omega)
   rw [show 40 - d = 40 - (d + 1) + 1 by omega]; exact hk
theorem infoNode : (Tryz.prog.info? 105).map (fun i => (i.zero, i.size, i.bytes)) = some (some (.agg #[.int .i64 0, .int .i64 0, .string ⟨#[]⟩, .int .i64 0, .slice none 0 0, .int .i64 0]), 6, 72) := by kernel_rfl
theorem jEC {w w' : World} {base r : Nat} {e : TypeId} {size : Nat} {v : Value} {n : Nat} {xs : List Value} (h : w.ownsRow base e size v n xs) (hg : w.grownBy w' (some r)) (hr : r < base) : w'.ownsRow base e size v n xs := by
 refine h.kept hg ?_; cases hv : v.ownBlock with
 | none => exact .inl rfl
 | some k => exact .inr (by have := (h.lt k hv).1; simp; omega)
theorem newNode (w : World) (x0 x1 x2 x3 x4 x5 : Value) (T : TypeId) (j : Nat) (u : Value) (h : ([x0, x1, x2, x3, x4, x5] : List Value)[j]? = some u) :
 (w.alloc (.cells #[x0, x1, x2, x3, x4, x5] T)).cell? ((⟨w.heap.size, 0, none⟩ : Addr).add j) = some u := by
 have e : (⟨w.heap.size, 0, none⟩ : Addr).add j = ⟨w.heap.size, j, none⟩ := by unfold Addr.add; split <;> simp_all
 rw [e, World.cell?_alloc_mark]
 simpa using h
theorem jQU (vs : List Value) (x0 x1 x2 x3 x4 x5 : Value) : cellsOf (vs ++ [.agg #[x0, x1, x2, x3, x4, x5]]) = cellsOf vs ++ [x0, x1, x2, x3, x4, x5] := by
 simp [cellsOf, Value.cells]
theorem kids_row {d : Nat} {w : World} {v : Value} {l : List Px.Node} (h : jAI 6 (jDB d w) w v l) : jAC w (40 - d + 1) v l := by
 rcases h with h | ⟨g, o, c, h1, h2, h3, h4⟩
 . exact .inl h
 . refine .inr ⟨g, o, c, h1, h2, h3, fun i n hn => ?_⟩; obtain ⟨u, ⟨lv, rfl, hk, hs⟩, _, hc⟩ := h4 i n hn; exact ⟨lv, ⟨hc 0 _ rfl, hc 1 _ rfl, hc 2 _ rfl, hc 3 _ rfl, hc 4 _ rfl, hc 5 _ rfl, hs⟩, hk⟩
def Ahead (stop f d : Nat) (ts : List Lx.Tok) (F : Nat) (ts' : List Lx.Tok) (ns : List Px.Node) : Prop :=
 Px.rest stop f d ts = match Px.rest stop F d ts' with | .error p => .error p | .ok (l, tt) => .ok (ns ++ l, tt)
theorem Ahead.refl (stop f d : Nat) (ts : List Lx.Tok) : Ahead stop f d ts f ts [] := by
 unfold Ahead; cases Px.rest stop f d ts with
 | error p => rfl
 | ok x => rfl
theorem Ahead.nil {stop f d F : Nat} {ts : List Lx.Tok} {ns : List Px.Node} (h : Ahead stop f d ts (F + 1) [] ns) : Px.rest stop f d ts = .error stop := by
 unfold Ahead at h; rw [h, Px.rest]
theorem Ahead.close {stop f d F : Nat} {t : Lx.Tok} {ts ts' : List Lx.Tok} {ns : List Px.Node} (h : Ahead stop f d ts (F + 1) (t :: ts') ns) (h1 : t.kind = 1) : Px.rest stop f d ts = .ok (ns, ts') := by
 unfold Ahead at h; rw [h, Px.rest, if_pos h1]; simp
theorem Ahead.bad {stop f d F p : Nat} {t : Lx.Tok} {ts ts' : List Lx.Tok} {ns : List Px.Node} (h : Ahead stop f d ts (F + 1) (t :: ts') ns) (h1 : t.kind ≠ 1) (hn : Px.node stop F d (t :: ts') = .error p) : Px.rest stop f d ts = .error p := by
 unfold Ahead at h; rw [h, Px.rest, if_neg h1, hn]
theorem Ahead.more {stop f d F : Nat} {t : Lx.Tok} {ts ts' tt : List Lx.Tok} {ns : List Px.Node} {n : Px.Node} (h : Ahead stop f d ts (F + 1) (t :: ts') ns) (h1 : t.kind ≠ 1) (hn : Px.node stop F d (t :: ts') = .ok (n, tt)) : Ahead stop f d ts F tt (ns ++ [n]) := by
 unfold Ahead at *; rw [h, Px.rest, if_neg h1, hn]
 dsimp only
 cases Px.rest stop F d tt with
 | error p => rfl
 | ok x => obtain ⟨l, u⟩ := x; simp
def Shape6 (v : Value) : Prop := ∃ (n : Px.Node) (lv : Value), v = jA7 n lv
theorem rest_of (f : Nat) (ih : ∀ g, g < f -> jNL g) : jPA f := by
 intro r tv all i stop B d w h hd1 hd hf; have hrw := h.lt; have hshort := h.short; obtain ⟨i0, hi, hz0, hz1, hz2⟩ := info_parts infoNode; have HI1 := hid hz1; have HI2 := hid hz2; have HI0 := hid hz0; have HI := hid hi
 have HIH := hid ih; have H := hid h; generalize hout : Px.rest stop f d (all.drop i) = out; have HOUT := hid hout; clear hi hz0 hz1 hz2 ih h hout
 have hfd : ∀ (a b c e : Value) (u : World), (Instr.field 102 (.agg #[a, b, c, e]) 0).run Tryz.prog u = .ok a u := fun a b c e u => by
  kernel_rfl
 go_enter Tryz.func85, Tryz.ntmps85; go_wp2_with fail
 go_loopw [5] (fun v wr => ∃ (j F : Nat) (vs : List Value) (ns : List Px.Node), i <= j /\ Hid (Reader wr r tv all j stop B) /\ 2 * (all.length - j) + 2 <= F /\ F <= f /\ Hid (Ahead stop f d (all.drop i) F (all.drop j) ns) /\ Hid (Reps (Kept (jDB d) w.heap.size wr v.ownBlock) vs ns /\ ∀ u ∈ vs, Shape6 u) /\ Hid (wr.ownsRow w.heap.size 105 6 v vs.length (cellsOf vs)) /\ vs.length <= j /\ Hid (w.grownBy wr (some r))) (fun _ wr => all.length - (intOf ((wr.cell? ⟨r, 1, none⟩).getD undef)).toNat)
 case atStart => exact ⟨i, f, [], [], Nat.le_refl _, H, hf, Nat.le_refl _, hid (Ahead.refl _ _ _ _), hid ⟨trivial, fun _ h => by cases h⟩, hid (World.ownsRow_nil _ _ _ _), Nat.zero_le _, hid ⟨rfl, rfl, rfl, Nat.le_refl _, fun _ _ _ => rfl⟩⟩
 case round =>
  obtain ⟨j, F, vs, ns, hij, Hrd, hF, hFf, Ha, Hr, Ho, hvj, Hg⟩ := hrel; obtain ⟨F, rfl⟩ : ∃ G, F = G + 1 := ⟨F - 1, by omega⟩
  have hjl := Hrd.out.le; cases htj : all[j]? with
  | none =>
    have hje : j = all.length := by have := List.getElem?_eq_none_iff.1 htj; omega
    have Hje := hid hje; clear htj hje; go_wp2_with fail; refine (jKP r tv all j stop B _ Hrd.out Hje.out).mono ?_; rintro e w1 ⟨rfl, hb⟩
    have ho : out = .error stop := by
     have := Ha.out; rw [Hje.out, List.drop_length] at this; rw [<- HOUT.out]; exact this.nil
    subst ho; exact ⟨rfl, jB9 Hg.out (jBE hb (Nat.le_refl _) _), rfl⟩
  | some t =>
    obtain ⟨hlt, hget⟩ := List.getElem?_eq_some_iff.1 htj; have hdrop : all.drop j = t :: all.drop (j + 1) := by rw [List.drop_eq_getElem_cons hlt, hget]
    have HT := hid htj; have HD := hid hdrop
    clear htj hget hdrop; by_cases h1 : t.kind = 1
    . have k1 : (t.kind != 1) = false := by simp [h1]
      have H1 := hid h1; clear h1
      go_wp2_with fail; refine (jDE r tv all j stop B _ Hrd.out t HT.out).mono ?_; unfold tokV; rintro e w1 ⟨rfl, hb⟩; have hR := Hrd.out.below hb; obtain ⟨c0, c1, c2, c3⟩ := hR.cells; have fr := hR.free 1; have hRb := hR.bump hlt; have HB := hid hb; have HRb := hid hRb
      clear hb hR hRb; go_wp2; go_ret
      have ho : out = .ok (ns, all.drop (j + 1)) := by
       have := Ha.out; rw [HD.out] at this; rw [<- HOUT.out]; exact this.close H1.out
      subst ho; have hgb : w1.grownBy (w1.setCell ⟨r, 1, none⟩ (.int .i64 ((j : Int) + 1))) (some r) := HRb.out.2; have hgw := jBE (w := wr) HB.out (Nat.le_refl _) (some r); refine ⟨jB9 (jB9 Hg.out hgw) hgb, _, j + 1, rfl, fun u hu => ?_, rfl, by omega, HRb.out.1⟩; have hown := jEC (jEC Ho.out hgw hrw) hgb hrw
      have hk : Reps (Kept (jDB d) w.heap.size (w1.setCell ⟨r, 1, none⟩ (.int .i64 ((j : Int) + 1))) u5.ownBlock) vs ns :=
       Hr.out.1.mono fun z y hk => (hk.below HB.out).since (by simp) (fun b hb1 hb2 _ => hgb.block b hb2 (fun e => by simp at e; omega)) (.inl rfl)
      exact kids_row (New.row hown (Reps.len hk) hk (fun z hz => by obtain ⟨n, lv, rfl⟩ := Hr.out.2 z hz; rfl) u hu)
    . have k1 : (t.kind != 1) = true := by simp [h1]
      have H1 := hid h1; clear h1
      go_wp2_with fail; refine (jDE r tv all j stop B _ Hrd.out t HT.out).mono ?_; unfold tokV; rintro e w1 ⟨rfl, hb⟩; have HB := hid hb; clear hb
      have hcall := HIH.out F (by omega) r tv all j stop B d w1 (Hrd.out.below HB.out) hd (by omega); have HC := hid hcall; clear hcall
      go_wp2_with fail; cases hn : Px.node stop F d (all.drop j) with
      | error p =>
        have hc := HC.out; rw [hn] at hc; refine hc.mono ?_; rintro e w2 ⟨hg2, he⟩; obtain rfl : e = jAW p := he
        have ho : out = .error p := by
         have := Ha.out; rw [HD.out] at this hn; rw [<- HOUT.out]; exact this.bad H1.out hn
        subst ho; exact ⟨rfl, jB9 (jB9 Hg.out (jBE HB.out (Nat.le_refl _) _)) hg2, rfl⟩
      | ok res =>
        obtain ⟨n, tt⟩ := res; have hc := HC.out; rw [hn] at hc; refine hc.mono ?_; clear hc; rintro e w2 ⟨hg2, v, j2, rfl, hnew, htt, hj2, hrd2⟩; obtain ⟨lv, rfl, hkids, _⟩ := hnew.now; obtain ⟨pk, ck, rfl⟩ := hkids.len
        have hah : Ahead stop f d (all.drop i) F tt (ns ++ [n]) := by
         have := Ha.out; rw [HD.out] at this hn; exact this.more H1.out hn
        subst htt; have hBs := Hg.out.size; have hs1 := HB.out.size; have hs2 := hg2.size; have hg02 : w.grownBy w2 (some r) := jB9 (jB9 Hg.out (jBE HB.out (Nat.le_refl _) _)) hg2; have hown2 := jEC (jEC Ho.out (jBE HB.out (Nat.le_refl _) _) hrw) hg2 hrw; have hk0 := hnew.kept (base := w.heap.size) (ob := u5.ownBlock) (by omega) (fun g hg => by have := (Ho.out.lt g hg).2; omega)
        have hk1 : Reps (Kept (jDB d) w.heap.size w2 u5.ownBlock) vs ns :=
         Hr.out.1.mono fun z y hk => (hk.below HB.out).since hs2 (fun b hb1 hb2 _ => hg2.block b hb2 (fun e => by simp at e; omega)) (.inl rfl)
        have hss : ∀ u ∈ vs ++ [jA7 n (.slice pk n.list.length ck)], Shape6 u := fun u hu => (List.mem_append.1 hu).elim (fun h => Hr.out.2 u h) (fun h => ⟨n, _, List.mem_singleton.1 h⟩)
        have hlen2 : (cellsOf vs).length = vs.length * 6 := Ho.out.1; have HL := hid hlen2; have Hown2 := hid hown2; have HK0 := hid hk0; have HK1 := hid hk1; have HSS := hid hss; have HAH := hid hah; have HG02 := hid hg02; have HRD2 := hid hrd2
        have hvq : vs.length <= 4096 := by omega
        clear hlen2 hown2 hk0 hk1 hss hah hg02 hrd2 hnew hkids hg2 hn; unfold jA7; go_wp2_with (at_builtin; refine jAN _ rfl (.tmp 10) (.tmp 14) 103 rfl w.heap.size 105 i0 (.agg #[.int .i64 0, .int .i64 0, .string ⟨#[]⟩, .int .i64 0, .slice none 0 0, .int .i64 0]) 6 72 Tryz.underlying103 HI.out HI0.out HI1.out HI2.out rfl (by decide) _ vs.length _ rfl (Hown2.out.alloc _) ⟨w2.heap.size, 0, none⟩ 1 1 [.int .i64 n.tok.kind, .int .i64 n.tok.pos, .string ⟨n.tok.text.toArray⟩, .int .i64 n.tok.int, .slice pk n.list.length ck, .int .i64 n.takes] rfl (by decide) rfl ?c1 ?c2 ?c3 ?c4 ?c5 ?_)
        case c1 => exact fun j u h => newNode w2 _ _ _ _ _ _ _ j u h
        case c2 => intro u hu; simp only [List.mem_cons, List.not_mem_nil, or_false] at hu; rcases hu with rfl | rfl | rfl | rfl | rfl | rfl <;> rfl
        case c3 => unfold maxLen; omega
        case c4 => omega
        case c5 => simp; omega
        intro v' w3 hown3 hgr hloc; have hal : Below w2.heap.size w2 (w2.alloc (.cells #[.int .i64 n.tok.kind, .int .i64 n.tok.pos, .string ⟨n.tok.text.toArray⟩, .int .i64 n.tok.int, .slice pk n.list.length ck, .int .i64 n.takes] 105)) := (Below.refl _ _).alloc (Nat.le_refl _) _; have hB3 : Below w.heap.size w2 w3 := (hal.mono (by omega)).grown hgr (by simp; omega) (fun kk hkk => (Hown2.out.lt kk hkk).1); have hstep : ∀ z x, Kept (jDB d) w.heap.size w2 u5.ownBlock z x -> Kept (jDB d) w.heap.size w3 v'.ownBlock z x := fun z x hk => (hk.below hal).step hgr.size (fun b hb1 hb2 => hgr.block b hb1 (fun e => hb2 e.symm)) (by simpa using hloc)
        have hreps : Reps (Kept (jDB d) w.heap.size w3 v'.ownBlock) (vs ++ [jA7 n (.slice pk n.list.length ck)]) (ns ++ [n]) := Reps.snoc (hstep _ _ HK0.out) (HK1.out.mono fun z y hk => hstep _ _ hk); have hG3 := jAB HG02.out hB3; have hrd3 : Reader w3 r tv all j2 stop B := H.out.moved hG3 ((hB3.block r hrw).trans HRD2.out.obj) HRD2.out.le; rw [<- jQU] at hown3; have hm : (w3.cell? ⟨r, 1, none⟩) = some (.int .i64 j2) := hrd3.cells.2.1; have hm0 : (wr.cell? ⟨r, 1, none⟩) = some (.int .i64 j) := Hrd.out.cells.2.1; have A1 := hid hown3; have A2 := hid hreps; have A3 := hid hG3; have A4 := hid hrd3; have A5 := hid hm; have A6 := hid hm0
        have A7 := hid hj2; have A8 := hid HRD2.out.le; clear hown3 hreps hG3 hrd3 hm hm0 hgr hstep hloc hal hB3; go_wp2
        go_roundw
        case rel => exact ⟨j2, F, vs ++ [jA7 n (.slice pk n.list.length ck)], ns ++ [n], by have := A7.out; omega, A4, by have := A7.out; omega, by omega, HAH, hid ⟨A2.out, HSS.out⟩, hid (by rw [List.length_append]; exact A1.out), by have := A7.out; simp; omega, A3⟩
        case measure => rw [A5.out, A6.out]; have := A7.out; have := A8.out; simp [intOf]; omega
theorem node_of (f : Nat) (hrest : jPA f) : jNL (f + 1) := by
 intro r tv all i stop B d w h hd hf; cases ht : all[i]? with
 | none => exact node_end f r tv all i stop B d w h (by have := List.getElem?_eq_none_iff.1 ht; have := h.le; omega)
 | some t =>
   by_cases h1 : t.kind = 1
   . exact jIS f r tv all i stop B d w h t ht (.inl h1)
   . by_cases h0 : t.kind = 0
     . by_cases h40 : d = 40
       . exact jIS f r tv all i stop B d w h t ht (.inr ⟨h0, h40⟩)
       . have hlt := (List.getElem?_eq_some_iff.1 ht).1; exact jQE f r tv all i stop B d w h t ht h0 (by omega) (by omega) hrest
     . exact jH6 f r tv all i stop B d w h t ht h1 h0
theorem jQD (f : Nat) : ∀ g, g <= f -> jNL g /\ jPA g := by
 induction f with
 | zero =>
   intro g hg; obtain rfl : g = 0 := by omega
   refine ⟨fun r tv all i stop B d w h hd hf => by omega, fun r tv all i stop B d w h _ hd hf => by omega⟩
 | succ f ih =>
   intro g hg; by_cases e : g <= f
   . exact ih g e
   . obtain rfl : g = f + 1 := by omega
     have hn : jNL (f + 1) := node_of f (ih f (Nat.le_refl f)).2; exact ⟨hn, rest_of (f + 1) fun g hg => (ih g (by omega)).1⟩
theorem jMP (f : Nat) : jNL f := (jQD f f (Nat.le_refl f)).1
theorem jA {w : World} {g : Nat} {cs : Array Value} {T : TypeId} {fr : Nat × Nat} (h : w.heap[g]? = some (.cells cs T fr)) (j : Nat) (v : Value) (hv : cs[j]? = some v) : w.cell? ⟨g, j, none⟩ = some v := by
 simp only [World.cell?, h]; simpa using hv
theorem jA1 {w : World} {g : Nat} {cs : Array Value} {T : TypeId} (h : w.heap[g]? = some (.cells cs T (0, 0))) (o : Nat) : w.frozen? ⟨g, o, none⟩ = false := by
 simp only [World.frozen?, h]; simp
theorem jA3 (w : World) (cs : Array Value) (T : TypeId) : (w.alloc (.cells cs T)).heap[w.heap.size]? = some (.cells cs T (0, 0)) := heap_alloc_new w _
theorem jA6 {w : World} {g : Nat} {o : Obj} (h : w.heap[g]? = some o) : g < w.heap.size := (Array.getElem?_eq_some_iff.1 h).1
theorem jA2 {w : World} {g : Nat} {o : Obj} (h : w.heap[g]? = some o) (o' : Obj) : (w.alloc o').heap[g]? = some o := (Below.heap_alloc w o' g (jA6 h)).trans h
theorem jA0 {w w' : World} {g : Nat} {o : Obj} (h : w.heap[g]? = some o) (hb : Below w.heap.size w w') : w'.heap[g]? = some o := (hb.block g (jA6 h)).trans h
theorem jAE {w : World} {g : Nat} {cs : Array Value} {T : TypeId} (h : w.heap[g]? = some (.cells cs T (0, 0))) (j : Nat) (v : Value) : (w.setCell ⟨g, j, none⟩ v).heap[g]? = some (.cells (cs.setIfInBounds j v) T (0, 0)) := heap_setCell_same w g j _ _ _ h
theorem jA4 {w : World} {g : Nat} {o : Obj} (h : w.heap[g]? = some o) (b j : Nat) (v : Value) (hne : g ≠ b) : (w.setCell ⟨b, j, none⟩ v).heap[g]? = some o := (Below.heap_setCell w ⟨b, j, none⟩ v g hne).trans h
theorem New.later {α : Type} {rep : World -> Value -> α -> Prop} {w w1 w2 w' : World} {v : Value} {x : α} (h : New rep w1 w2 v x) (h0 : w.heap.size <= w1.heap.size) (hs : w2.heap.size <= w'.heap.size)
 (hk : ∀ b, w1.heap.size <= b -> b < w2.heap.size -> w'.heap[b]? = w2.heap[b]?) : New rep w w' v x :=
 fun u hu => h u fun b hb1 hb2 => (hu b (by omega) (by omega)).trans (hk b hb1 hb2)
def Stay (lo : Nat) (w w' : World) : Prop := w.heap.size <= w'.heap.size /\ ∀ b, lo <= b -> b < w.heap.size -> w'.heap[b]? = w.heap[b]?
theorem Stay.refl (lo : Nat) (w : World) : Stay lo w w := ⟨Nat.le_refl _, fun _ _ _ => rfl⟩
theorem Stay.below {lo : Nat} {w w' w'' : World} (h : Stay lo w w') (hb : Below w'.heap.size w' w'') : Stay lo w w'' :=
 ⟨Nat.le_trans h.1 hb.size, fun b h1 h2 => (hb.block b (Nat.lt_of_lt_of_le h2 h.1)).trans (h.2 b h1 h2)⟩
theorem Stay.alloc {lo : Nat} {w w' : World} (h : Stay lo w w') (o : Obj) : Stay lo w (w'.alloc o) := h.below ((Below.refl _ _).alloc (Nat.le_refl _) o)
theorem Stay.set {lo : Nat} {w w' : World} (h : Stay lo w w') (g j : Nat) (v : Value) (hg : g < lo) : Stay lo w (w'.setCell ⟨g, j, none⟩ v) :=
 ⟨by simpa using h.1, fun b h1 h2 => (Below.heap_setCell w' ⟨g, j, none⟩ v b (by simp; omega)).trans (h.2 b h1 h2)⟩
theorem Stay.drew {lo : Nat} {w w' : World} (h : Stay lo w w') : Stay lo w w'.drew := h
theorem New.stay {α : Type} {rep : World -> Value -> α -> Prop} {w w1 w2 w' : World} {v : Value} {x : α} (h : New rep w1 w2 v x) (h0 : w.heap.size <= w1.heap.size) (hs : Stay w1.heap.size w2 w') : New rep w w' v x :=
 h.later h0 hs.1 hs.2
theorem New.drewn {α : Type} {rep : World -> Value -> α -> Prop} {w w' : World} {v : Value} {x : α} (h : New rep w.drew w' v x) : New rep w w' v x := h
def jEL (_ : World) (v : Value) (s : List UInt8) : Prop := v = .string ⟨s.toArray⟩
def jCM : Nat -> World -> Value -> Px.TypeE -> Prop
 | 0, _, _, _ => False
 | f + 1, u, v, .mk p nm args => ∃ av, v = .agg #[.int .i64 p, .string ⟨nm.toArray⟩, av] /\ jAI 3 (jCM f u) u av args
def jE : Nat -> World -> Value -> Px.Pat -> Prop
 | 0, _, _, _ => False
 | f + 1, u, v, .mk k p nm i args => ∃ av, v = .agg #[.int .i64 k, .int .i64 p, .string ⟨nm.toArray⟩, .int .i64 i, av] /\ jAI 5 (jE f u) u av args
def AltOf (pa : Value -> Px.Pat -> Prop) (ex : Value -> Px.Expr -> Prop) (v : Value) (x : Px.Pat × Px.Expr) : Prop :=
 ∃ a0 a1 a2 a3 a4 b0 b1 b2 b3 b4 b5 b6 : Value, v = .agg #[a0, a1, a2, a3, a4, b0, b1, b2, b3, b4, b5, b6] /\ pa (.agg #[a0, a1, a2, a3, a4]) x.1 /\ ex (.agg #[b0, b1, b2, b3, b4, b5, b6]) x.2
def jB : Nat -> World -> Value -> Px.Expr -> Prop
 | 0, _, _, _ => False
 | f + 1, u, v, .mk k p nm i ns xs al => ∃ nv xv av, v = .agg #[.int .i64 k, .int .i64 p, .string ⟨nm.toArray⟩, .int .i64 i, nv, xv, av] /\
    jAI 1 (jEL u) u nv ns /\ jAI 7 (jB f u) u xv xs /\ jAI 12 (AltOf (jE f u) (jB f u)) u av al
theorem jB4 {α : Type} (sz : Nat) (rep : Value -> α -> Prop) (u : World) : jAI sz rep u (.slice none 0 0) [] := .inl ⟨rfl, none, 0, rfl⟩
theorem jKI {w : World} {k g o c n : Nat} {l : List Px.Node} (h : jAC w k (.slice (some ⟨g, o, none⟩) n c) l) (j : Nat) (hj : j <= l.length) :
 jAC w k (.slice (some ⟨g, if c = j then o else o + j * 6, none⟩) (l.length - j) (c - j)) (l.drop j) := by
 cases k with
 | zero =>
   obtain ⟨rfl, p, c', _⟩ := h; exact ⟨by simp, _, _, by simp at hj; subst hj; rfl⟩
 | succ k =>
   rcases h with ⟨rfl, p, c', _⟩ | ⟨g', o', c', he, h2, h3, h4⟩
   . exact .inl ⟨by simp, _, _, by simp at hj; subst hj; rfl⟩
   . injection he with e1 e2 e3
     injection e1 with e1
     injection e1 with e4 e5
     subst e3; subst e4; subst e5
     by_cases hjl : j = l.length
     . exact .inl ⟨by rw [hjl]; simp, _, _, by rw [hjl, Nat.sub_self]⟩
     . refine .inr ⟨g, o + j * 6, c - j, ?_, ?_, ?_, fun i m hm => ?_⟩
       . rw [if_neg (by omega), List.length_drop]
       . rw [List.length_drop]; omega
       . omega
       . rw [List.getElem?_drop] at hm; obtain ⟨kv, a, b⟩ := h4 (j + i) m hm; refine ⟨kv, ?_, b⟩; have e : o + j * 6 + i * 6 = o + (j + i) * 6 := by rw [Nat.add_mul]; omega
         rw [e]; exact a
theorem jMZ (k : Nat) (n : Px.Node) (lv : Value) (A B : Int) (a b : Nat) (w : World) (hA : A = (a : Int)) (hB : B = (b : Int)) (hk : jAC w k lv n.list) (ha : a <= 1000) (hb : b <= 1000)  (h : Px.hold n a b = .ok ()) :
 Calls Tryz.prog 124 #[jA7 n lv, .int .i64 A, .int .i64 B] w fun e w' => e = .returned (.tuple #[]) /\ Below w.heap.size w w' := by
 subst hA; subst hB; exact jP4 k n lv a b w hk ha hb  h
theorem jKL (k : Nat) (n : Px.Node) (lv : Value) (A B : Int) (a b : Nat) (w : World) (hA : A = (a : Int)) (hB : B = (b : Int)) (hk : jAC w k lv n.list) (ha : a <= 1000) (hb : b <= 1000) (p : Nat) (h : Px.hold n a b = .error p) :
 Calls Tryz.prog 124 #[jA7 n lv, .int .i64 A, .int .i64 B] w fun e w' => e = jAW p /\ Below w.heap.size w w' := by
 subst hA; subst hB; exact jN k n lv a b w hk ha hb p h
theorem jBA (k : Nat) (n : Px.Node) (lv : Value) (A B : Int) (a b : Nat) (w : World) (hA : A = (a : Int)) (hB : B = (b : Int)) (hk : jAC w k lv n.list) (ha : a <= 1000) (hb : b <= 1000) (l : List Px.Node) (h : Px.nodes n a b = .ok l) :
 Calls Tryz.prog 87 #[jA7 n lv, .int .i64 A, .int .i64 B] w fun e w' => e = .returned lv /\ Below w.heap.size w w' := by
 subst hA; subst hB; exact nodes_ok k n lv a b w hk ha hb l h
theorem jBU (k : Nat) (n : Px.Node) (lv : Value) (A B : Int) (a b : Nat) (w : World) (hA : A = (a : Int)) (hB : B = (b : Int)) (hk : jAC w k lv n.list) (ha : a <= 1000) (hb : b <= 1000) (p : Nat) (h : Px.nodes n a b = .error p) :
 Calls Tryz.prog 87 #[jA7 n lv, .int .i64 A, .int .i64 B] w fun e w' => e = jAW p /\ Below w.heap.size w w' := by
 subst hA; subst hB; exact jQA k n lv a b w hk ha hb p h
theorem jCZ {w : World} {k g o c n : Nat} {l : List Px.Node} (h : jAC w k (.slice (some ⟨g, o, none⟩) n c) l) (j o' : Nat) (hj : j <= l.length) (hc : ¬ c = j) (ho : o' = o + j * 6) (hn : n = l.length) :
 jAC w k (.slice (some ⟨g, o', none⟩) (n - j) (c - j)) (l.drop j) := by
 have := jKI h j hj; rw [if_neg hc, <- ho, <- hn] at this; exact this
theorem jBF {w w' : World} (h : Below w.drew.heap.size w.drew w') : Below w.heap.size w w' := ⟨h.os, h.tape, h.output, h.size, h.block⟩
theorem jMT {w : World} {k g o c n : Nat} {l : List Px.Node} (h : jAC w k (.slice (some ⟨g, o, none⟩) n c) l) (j o' : Nat) (hj : j <= l.length) (ho : o' = o + j * 6) (hn : n = l.length) :
 jAC w k (.slice (if c = j then some ⟨g, o, none⟩ else some ⟨g, o', none⟩) (n - j) (c - j)) (l.drop j) := by
 have := jKI h j hj; subst ho; subst hn
 by_cases hc : c = j
 . rw [if_pos hc] at this ⊢; exact this
 . rw [if_neg hc] at this ⊢; exact this
theorem jAP {α : Type} {w : World} {rep : World -> Value -> α -> Prop} {r : Px.R α} {x : α} {e : Ending} {w' : World} (h : jB3 w rep r e w') (hr : r = .ok x) : ∃ v, e = .returned v /\ New rep w w' v x /\ Below w.heap.size w w' := by
 subst hr; obtain ⟨hb, v, he, hn⟩ := h; exact ⟨v, he, hn, hb⟩
theorem jAQ {α : Type} {w : World} {rep : World -> Value -> α -> Prop} {r : Px.R α} {p : Nat} {e : Ending} {w' : World} (h : jB3 w rep r e w') (hr : r = .error p) : e = jAW p /\ Below w.heap.size w w' := by
 subst hr; exact ⟨h.2, h.1⟩
theorem jD1 (k : Nat) (n : Px.Node) (lv : Value) (w : World) (s : List UInt8) (hk : jAC w k lv n.list) (hs : Px.word n = s) :
 Calls Tryz.prog 48 #[jA7 n lv] w fun e w' => e = .returned (.string ⟨s.toArray⟩) /\ Below w.heap.size w w' := by
 subst hs; exact jI8 k n lv w hk
theorem infoPat : (Tryz.prog.info? 84).map (fun i => (i.zero, i.size, i.bytes)) = some (some (.agg #[.int .i64 0, .int .i64 0, .string ⟨#[]⟩, .int .i64 0, .slice none 0 0]), 5, 64) := by kernel_rfl
def jEN (v : Value) : Prop := ∃ a0 a1 a2 a3 a4 : Value, v = .agg #[a0, a1, a2, a3, a4] /\ ∀ u ∈ ([a0, a1, a2, a3, a4] : List Value), u.oneCell' = true
theorem jEN.size {v : Value} (h : jEN v) : v.cells.size = 5 := by
 obtain ⟨a0, a1, a2, a3, a4, rfl, hone⟩ := h; rfl
theorem newPat (w : World) (a0 a1 a2 a3 a4 : Value) (T : TypeId) (j : Nat) (u : Value) (h : ([a0, a1, a2, a3, a4] : List Value)[j]? = some u) :
 (w.alloc (.cells #[a0, a1, a2, a3, a4] T)).cell? ((⟨w.heap.size, 0, none⟩ : Addr).add j) = some u := by
 have e : (⟨w.heap.size, 0, none⟩ : Addr).add j = ⟨w.heap.size, j, none⟩ := by unfold Addr.add; split <;> simp_all
 rw [e, World.cell?_alloc_mark]
 simpa using h
theorem cellsPat (vs : List Value) (a0 a1 a2 a3 a4 : Value) : cellsOf (vs ++ [.agg #[a0, a1, a2, a3, a4]]) = cellsOf vs ++ [a0, a1, a2, a3, a4] := by
 simp [cellsOf, Value.cells]
theorem jN5 {α : Type} (F : FuncId) (hF : ∀ (args : Array Value) (w : World), (callFunc F args).run Tryz.prog w = .ok (.enter F args) w) (f : Px.Node -> Px.R α) (rep : World -> Value -> α -> Prop) (shape : ∀ w v x, rep w v x -> jEN v)
 (k : Nat) (lv : Value) (l : List Px.Node) (w : World) (hk : jAC w k lv l) (hl : l.length <= 1000)
 (part : ∀ n ∈ l, ∀ j kv w1, k = j + 1 -> Below w.heap.size w w1 -> jAC w1 j kv n.list -> Calls Tryz.prog F #[jA7 n kv] w1 (jB3 w1 rep (f n))) :
 Calls Tryz.prog 170 #[lv, .func (.func F) #[] #[]] w (jB3 w (fun u => jAI 5 (rep u) u) (Px.each f l)) := by
 obtain ⟨p0, cp0, rfl⟩ := hk.len; obtain ⟨i0, hi, hz0, hz1, hz2⟩ := info_parts infoPat; have HI1 := hid hz1; have HI2 := hid hz2; have HI0 := hid hz0; have HI := hid hi
 have HK := hid hk; have HP := hid part; have HS := hid shape; clear hi hz0 hz1 hz2 hk part shape; go_enter Tryz.func170, Tryz.ntmps170; go_wp2_with fail
 go_loopw [5, 10] (fun v i wr => ∃ (q : Nat) (vs : List Value) (xs : List α), i = .int .i64 q /\ q <= l.length /\ Hid (Px.each f (l.take q) = .ok xs) /\ vs.length = q /\ Hid (Reps (Kept rep w.heap.size wr v.ownBlock) vs xs /\ ∀ u ∈ vs, jEN u) /\ Hid (wr.ownsRow w.heap.size 84 5 v vs.length (cellsOf vs)) /\ Below w.heap.size w wr) (fun _ i _ => l.length - (intOf i).toNat)
 case atStart => exact ⟨0, [], [], rfl, Nat.zero_le _, hid (by simp [Px.each]), rfl, hid ⟨trivial, fun _ h => by cases h⟩, hid (World.ownsRow_nil _ _ _ _), Below.refl _ _⟩
 case round =>
  obtain ⟨q, vs, xs, rfl, hq, He, hvs, Hr, Ho, hb⟩ := hrel; have HB := hid hb; clear hb
  by_cases hlt : q < l.length
  . have hne : l ≠ [] := by intro e; rw [e] at hlt; simp at hlt
    obtain ⟨j, g, o, c, hkj, hsl, h3, h4, h5⟩ := HK.out.some hne
    injection hsl with hp0 _ hcp
    subst hp0; subst hcp
    obtain ⟨kv, hn, hkm⟩ := h5 q _ (List.getElem?_eq_getElem hlt); have hnq : l[q]? = some l[q] := List.getElem?_eq_getElem hlt; have hmem : l[q] ∈ l := List.getElem_mem hlt; generalize l[q] = m at *; have hn2 := hn.below HB.out; obtain ⟨pk, ck, rfl⟩ := hkm.len; obtain ⟨c0, c1, c2, c3, c4, c5⟩ := hn2; have hstep := Px.jC9 hnq He.out; have Hstep := hid hstep; have HKM := hid (hkm.below HB.out); have HMEM := hid hmem; have HKJ := hid hkj; have HVS := hid hvs; clear hstep h5 hn hkm hmem hkj hnq hne hvs; have NB := hid (jCX wr m (.slice pk m.list.length ck) 105); cases hfm : f m with
    | error p =>
      have Hbad := hid (Hstep.out.2 p hfm); have Hfm := hid hfm; clear hfm
      go_wp2_with fail; have hc := HP.out m HMEM.out j (.slice pk m.list.length ck) _ HKJ.out (HB.out.alloc HB.out.size (.cells #[.int .i64 m.tok.kind, .int .i64 m.tok.pos, .string ⟨m.tok.text.toArray⟩, .int .i64 m.tok.int, .slice pk m.list.length ck, .int .i64 m.takes] 105)) (HKM.out.below ((Below.refl _ _).alloc (Nat.le_refl _) _)); rw [Hfm.out] at hc; refine hc.mono ?_; rintro e w2 ⟨hb2, he⟩; obtain rfl : e = jAW p := he; refine ⟨rfl, (HB.out.alloc HB.out.size _).trans (hb2.mono (by have := HB.out.size; simp; omega)), ?_⟩; rw [Hbad.out]; rfl
    | ok x =>
      have Hgood := hid (Hstep.out.1 x hfm); have Hfm := hid hfm; clear hfm
      go_wp2_with fail; have hc := HP.out m HMEM.out j (.slice pk m.list.length ck) _ HKJ.out (HB.out.alloc HB.out.size (.cells #[.int .i64 m.tok.kind, .int .i64 m.tok.pos, .string ⟨m.tok.text.toArray⟩, .int .i64 m.tok.int, .slice pk m.list.length ck, .int .i64 m.takes] 105)) (HKM.out.below ((Below.refl _ _).alloc (Nat.le_refl _) _)); rw [Hfm.out] at hc; refine hc.mono ?_; clear hc; rintro e w2 ⟨hb2, v, rfl, hrep⟩; have hsh := HS.out _ _ _ hrep.now; have hkept := hrep.kept (base := w.heap.size) (ob := u5.ownBlock) (by have := HB.out.size; simp; omega) (fun g hg => by have := (Ho.out.lt g hg).2; simp; omega); have HR := hid hkept; clear hrep hkept
      have hB2 := (HB.out.alloc HB.out.size (.cells #[.int .i64 m.tok.kind, .int .i64 m.tok.pos, .string ⟨m.tok.text.toArray⟩, .int .i64 m.tok.int, .slice pk m.list.length ck, .int .i64 m.takes] 105)).trans (hb2.mono (by have := HB.out.size; simp; omega)); have hw2 : Below wr.heap.size wr w2 := jAR hb2; have hown2 := jA5 Ho.out hw2; have hBs := HB.out.size; have hs2 := hw2.size; have hlen2 : (cellsOf vs).length = vs.length * 5 := Ho.out.1; obtain ⟨a0, a1, a2, a3, a4, rfl, hone⟩ := hsh; have HONE := hid hone; clear hone
      have HL := hid hlen2; clear hlen2
      have HB2 := hid hB2; have HW2 := hid hw2; have Hown2 := hid hown2
      have hvq : vs.length <= 1000 := by have := HVS.out; omega
      clear hB2 hw2 hown2 hb2; have HSH := hid (show jEN (.agg #[a0, a1, a2, a3, a4]) from ⟨a0, a1, a2, a3, a4, rfl, HONE.out⟩); have hss : ∀ u ∈ vs ++ [.agg #[a0, a1, a2, a3, a4]], jEN u := fun u hu => (List.mem_append.1 hu).elim (fun h => Hr.out.2 u h) (fun h => by rw [List.mem_singleton.1 h]; exact HSH.out)
      have HSS := hid hss; clear hss
      go_wp2_with (at_builtin; refine jAN _ rfl (.tmp 14) (.tmp 18) 82 rfl w.heap.size 84 i0 (.agg #[.int .i64 0, .int .i64 0, .string ⟨#[]⟩, .int .i64 0, .slice none 0 0]) 5 64 Tryz.underlying82 HI.out HI0.out HI1.out HI2.out rfl (by decide) _ vs.length _ rfl (Hown2.out.alloc _) ⟨w2.heap.size, 0, none⟩ 1 1 [a0, a1, a2, a3, a4] rfl (by decide) rfl ?c1 ?c2 ?c3 ?c4 ?c5 ?_)
      case c1 => exact fun j u h => newPat w2 a0 a1 a2 a3 a4 _ j u h
      case c2 => exact HONE.out
      case c3 => unfold maxLen; omega
      case c4 => omega
      case c5 => simp; omega
      intro v' w3 hown3 hgr hloc; have hB3 := (HB2.out.alloc (by omega) (.cells #[a0, a1, a2, a3, a4] 84)).grown hgr (by simp; omega) (fun kk hkk => (Hown2.out.lt kk hkk).1); have hstep : ∀ z x, Kept rep w.heap.size w2 u5.ownBlock z x -> Kept rep w.heap.size w3 v'.ownBlock z x := fun z x hk => (hk.below ((Below.refl _ _).alloc (Nat.le_refl _) (.cells #[a0, a1, a2, a3, a4] 84))).step hgr.size (fun b hb1 hb2 => hgr.block b hb1 (fun e => hb2 e.symm)) (by simpa using hloc)
      have hreps : Reps (Kept rep w.heap.size w3 v'.ownBlock) (vs ++ [.agg #[a0, a1, a2, a3, a4]]) (xs ++ [x]) := Reps.snoc (hstep _ _ HR.out) (Hr.out.1.mono fun z y hk => hstep _ _ (hk.below HW2.out)); rw [<- cellsPat] at hown3; have H1 := hid hB3; have H2 := hid hown3; have H3 := hid hreps
      clear hgr hB3 hown3 hreps hstep hloc; go_wp2
      go_roundw
      case rel => exact ⟨q + 1, vs ++ [.agg #[a0, a1, a2, a3, a4]], xs ++ [x], by go_num, by omega, Hgood, by have := HVS.out; simp [this], hid ⟨H3.out, HSS.out⟩, hid (by rw [List.length_append]; exact H2.out), H1.out⟩
      case measure => simp [intOf]; omega
  . obtain rfl : q = l.length := by omega
    have he := He.out; rw [List.take_length] at he; have hx := Px.jCG he; have He2 := hid he; have Hx := hid hx; have Hv := hid hvs
    clear he hx hvs; go_wp2; go_ret; exact ⟨HB.out, by rw [He2.out]; exact ⟨_, rfl, New.row Ho.out (by rw [Hv.out, Hx.out]) Hr.out.1 (fun u hu => (Hr.out.2 u hu).size)⟩⟩
end Go.Proofs.YtnhndamfbeiljaaGreatDoor
