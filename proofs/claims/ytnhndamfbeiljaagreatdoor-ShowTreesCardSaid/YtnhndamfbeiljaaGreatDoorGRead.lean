/-
  Several texts in one: PRead, PRest, PEnt, PNames, PToks.
-/
import Derived.Test.YtnhndamfbeiljaaGreatDoorGRow
import Derived.IntWalk
import Derived.Deep.RegionWith
import Derived.Deep.RegionHeld3
import Derived.Test.YtnhndamfbeiljaaGreatDoorGEach
import Derived.Test.YtnhndamfbeiljaaGreatDoorGPure
namespace Go.Proofs.YtnhndamfbeiljaaGreatDoor
open Go Go.RowKit
set_option linter.unusedVariables false
set_option linter.unusedSimpArgs false

theorem takes_small (t : List UInt8) : Px.takesOf t ≤ 2 := by
  unfold Px.takesOf; split
  · omega
  · split <;> omega

/-- A node that stands in d lists, as a value. -/
def NodeRep (d : Nat) (u : World) (v : Value) (n : Px.Node) : Prop := ∃ lv, v = nodeV n lv ∧ KidsAt u (40 - d) lv n.list ∧ n.takes ≤ 2

def ReadPost {α : Type} (rep : World → Value → α → Prop) (r : Nat) (tv : Value) (all : List Lx.Tok) (i stop B : Nat) (w : World) (res : Px.R (α × List Lx.Tok)) (e : Ending) (w' : World) : Prop :=
  w.grownBy w' (some r) ∧ match res with
    | .error p => e = wrongAt p
    | .ok (n, ts) => ∃ v j, e = .returned v ∧ New rep w w' v n ∧ ts = all.drop j ∧ i < j ∧ Reader w' r tv all j stop B

def NodeC (f : Nat) : Prop := ∀ (r : Nat) (tv : Value) (all : List Lx.Tok) (i stop B d : Nat) (w : World), Reader w r tv all i stop B → d ≤ 40 → 2 * (all.length - i) + 1 ≤ f →
  Calls Tryz.prog 46 #[.pointer (some ⟨r, 0, none⟩), .int .i64 d] w (ReadPost (NodeRep d) r tv all i stop B w (Px.node stop f d (all.drop i)))

def RestC (f : Nat) : Prop := ∀ (r : Nat) (tv : Value) (all : List Lx.Tok) (i stop B d : Nat) (w : World), Reader w r tv all i stop B → 1 ≤ d → d ≤ 40 → 2 * (all.length - i) + 2 ≤ f →
  Calls Tryz.prog 85 #[.pointer (some ⟨r, 0, none⟩), .int .i64 d] w (ReadPost (fun u lv l => KidsAt u (40 - d + 1) lv l) r tv all i stop B w (Px.rest stop f d (all.drop i)))

theorem Reader.bump {w : World} {r : Nat} {tv : Value} {all : List Lx.Tok} {i stop B : Nat} (h : Reader w r tv all i stop B) (hi : i < all.length) :
    Reader (w.setCell ⟨r, 1, none⟩ (.int .i64 ((i : Int) + 1))) r tv all (i + 1) stop B ∧ w.grownBy (w.setCell ⟨r, 1, none⟩ (.int .i64 ((i : Int) + 1))) (some r) := by
  have hg : w.grownBy (w.setCell ⟨r, 1, none⟩ (.int .i64 ((i : Int) + 1))) (some r) :=
    ⟨rfl, rfl, rfl, by simp, fun k _ hk => Below.heap_setCell w ⟨r, 1, none⟩ _ k (fun e => hk (by rw [e]))⟩
  refine ⟨h.moved hg ?_ hi, hg⟩
  rw [heap_setCell_same w r 1 _ _ _ h.obj]; rfl

theorem grown_then {r : Nat} {a b c : World} (h : a.grownBy b (some r)) (k : Below a.heap.size b c) : a.grownBy c (some r) :=
  ⟨k.os.trans h.os, k.tape.trans h.tape, k.output.trans h.output, Nat.le_trans h.size k.size, fun x hx hr => (k.block x hx).trans (h.block x hx hr)⟩
theorem kids_nil (u : World) (k : Nat) : KidsAt u k (.slice none 0 0) [] := by
  cases k with
  | zero => exact ⟨rfl, none, 0, rfl⟩
  | succ k => exact .inl ⟨rfl, none, 0, rfl⟩

/-- A variable of six cells. -/
structure Six (w : World) (g : Nat) : Prop where
  cells : ∃ x0 x1 x2 x3 x4 x5 : Value, w.cell? ⟨g, 0, none⟩ = some x0 ∧ w.cell? ⟨g, 1, none⟩ = some x1 ∧ w.cell? ⟨g, 2, none⟩ = some x2 ∧ w.cell? ⟨g, 3, none⟩ = some x3 ∧ w.cell? ⟨g, 4, none⟩ = some x4 ∧ w.cell? ⟨g, 5, none⟩ = some x5
  free : ∀ o, w.frozen? ⟨g, o, none⟩ = false
theorem six_new (w : World) (x0 x1 x2 x3 x4 x5 : Value) (T : TypeId) : Six (w.alloc (.cells #[x0, x1, x2, x3, x4, x5] T)) w.heap.size :=
  ⟨⟨x0, x1, x2, x3, x4, x5, by refine ⟨?_, ?_, ?_, ?_, ?_, ?_⟩ <;> (rw [World.cell?_alloc_mark]; rfl)⟩, fun o => by simp only [World.frozen?, heap_alloc_new]; simp⟩
theorem Six.of_block {w w' : World} {g : Nat} (h : Six w g) (e : w'.heap[g]? = w.heap[g]?) : Six w' g := by
  obtain ⟨x0, x1, x2, x3, x4, x5, c⟩ := h.cells
  have ec : ∀ o, w'.cell? ⟨g, o, none⟩ = w.cell? ⟨g, o, none⟩ := fun o => World.cell?_of_block (w := w) (a := ⟨g, o, none⟩) e
  exact ⟨⟨x0, x1, x2, x3, x4, x5, by rw [ec, ec, ec, ec, ec, ec]; exact c⟩, fun o => by rw [World.frozen?_of_block (w := w) (a := ⟨g, o, none⟩) e]; exact h.free o⟩

def set6 (W : World) (g : Nat) (v0 v1 v2 v3 v4 v5 : Value) : World := ((((((W.setCell ⟨g, 0, none⟩ v0).setCell ⟨g, 1, none⟩ v1).setCell ⟨g, 2, none⟩ v2).setCell ⟨g, 3, none⟩ v3).setCell ⟨g, 4, none⟩ v4).setCell ⟨g, 5, none⟩ v5).drew
theorem set6_below (W : World) (g : Nat) (v0 v1 v2 v3 v4 v5 : Value) : Below g W (set6 W g v0 v1 v2 v3 v4 v5) :=
  (((((((Below.refl g W).setCell (Nat.le_refl g) v0).setCell (Nat.le_refl g) v1).setCell (Nat.le_refl g) v2).setCell (Nat.le_refl g) v3).setCell (Nat.le_refl g) v4).setCell (Nat.le_refl g) v5).drew

theorem set6_belown (W : World) (g : Nat) (v0 v1 v2 v3 v4 v5 : Value) : Below g W ((((((W.setCell ⟨g, 0, none⟩ v0).setCell ⟨g, 1, none⟩ v1).setCell ⟨g, 2, none⟩ v2).setCell ⟨g, 3, none⟩ v3).setCell ⟨g, 4, none⟩ v4).setCell ⟨g, 5, none⟩ v5) :=
  ((((((Below.refl g W).setCell (Nat.le_refl g) v0).setCell (Nat.le_refl g) v1).setCell (Nat.le_refl g) v2).setCell (Nat.le_refl g) v3).setCell (Nat.le_refl g) v4).setCell (Nat.le_refl g) v5
theorem set6_block (W : World) (g : Nat) (v0 v1 v2 v3 v4 v5 : Value) (k : Nat) (h : k ≠ g) : (((((((W.setCell ⟨g, 0, none⟩ v0).setCell ⟨g, 1, none⟩ v1).setCell ⟨g, 2, none⟩ v2).setCell ⟨g, 3, none⟩ v3).setCell ⟨g, 4, none⟩ v4).setCell ⟨g, 5, none⟩ v5)).heap[k]? = W.heap[k]? := by
  rw [Below.heap_setCell _ _ _ k h, Below.heap_setCell _ _ _ k h, Below.heap_setCell _ _ _ k h, Below.heap_setCell _ _ _ k h, Below.heap_setCell _ _ _ k h, Below.heap_setCell _ _ _ k h]

/-- A token in a variable of its own. -/
structure TokBox (w : World) (g : Nat) (t : Lx.Tok) : Prop where
  c0 : w.cell? ⟨g, 0, none⟩ = some (.int .i64 t.kind)
  c1 : w.cell? ⟨g, 1, none⟩ = some (.int .i64 t.pos)
  c2 : w.cell? ⟨g, 2, none⟩ = some (.string ⟨t.text.toArray⟩)
  c3 : w.cell? ⟨g, 3, none⟩ = some (.int .i64 t.int)
theorem tokBox (w : World) (t : Lx.Tok) (T : TypeId) (g : Nat) (hg : w.heap.size = g) : TokBox (w.alloc (.cells #[.int .i64 t.kind, .int .i64 t.pos, .string ⟨t.text.toArray⟩, .int .i64 t.int] T)) g t := by
  subst hg
  constructor <;> (rw [World.cell?_alloc_mark]; rfl)
theorem TokBox.of_block {w w' : World} {g : Nat} {t : Lx.Tok} (h : TokBox w g t) (e : w'.heap[g]? = w.heap[g]?) : TokBox w' g t := by
  have ec : ∀ o, w'.cell? ⟨g, o, none⟩ = w.cell? ⟨g, o, none⟩ := fun o => World.cell?_of_block (w := w) (a := ⟨g, o, none⟩) e
  exact ⟨by rw [ec]; exact h.c0, by rw [ec]; exact h.c1, by rw [ec]; exact h.c2, by rw [ec]; exact h.c3⟩

theorem Reader.free {w : World} {r : Nat} {tv : Value} {all : List Lx.Tok} {i stop B : Nat} (h : Reader w r tv all i stop B) (o : Nat) : w.frozen? ⟨r, o, none⟩ = false := by
  have ho := h.obj
  simp only [World.frozen?, ho, readerObj]; simp

theorem node_end (f r : Nat) (tv : Value) (all : List Lx.Tok) (i stop B d : Nat) (w : World) (h : Reader w r tv all i stop B) (hi : i = all.length) :
    Calls Tryz.prog 46 #[.pointer (some ⟨r, 0, none⟩), .int .i64 d] w (ReadPost (NodeRep d) r tv all i stop B w (Px.node stop (f + 1) d (all.drop i))) := by
  have hp : Px.node stop (f + 1) d (all.drop i) = .error stop := by rw [hi, List.drop_length, Px.node]
  rw [hp]
  have H1 := Lib.hid (h.below ((Below.refl _ w).alloc (Nat.le_refl _) (.cells #[.int .i64 0, .int .i64 0, .string ⟨#[]⟩, .int .i64 0, .slice none 0 0, .int .i64 0] 105)))
  have HI := Lib.hid hi
  clear hp hi
  go_enter Tryz.func46, Tryz.ntmps46
  go_wp2_with fail
  refine (ahead_end r tv all i stop B _ H1.out HI.out).mono ?_
  rintro e w1 ⟨rfl, hb⟩
  exact ⟨rfl, grown_below (below_box hb) (Nat.le_refl _) _, rfl⟩

set_option maxHeartbeats 1000000 in
theorem node_leaf (f r : Nat) (tv : Value) (all : List Lx.Tok) (i stop B d : Nat) (w : World) (h : Reader w r tv all i stop B) (t : Lx.Tok) (ht : all[i]? = some t) (h1 : t.kind ≠ 1) (h0 : t.kind ≠ 0) :
    Calls Tryz.prog 46 #[.pointer (some ⟨r, 0, none⟩), .int .i64 d] w (ReadPost (NodeRep d) r tv all i stop B w (Px.node stop (f + 1) d (all.drop i))) := by
  obtain ⟨hlt, hget⟩ := List.getElem?_eq_some_iff.1 ht
  have hp : Px.node stop (f + 1) d (all.drop i) = .ok (.mk t [] (Px.takesOf t.text), all.drop (i + 1)) := by
    rw [List.drop_eq_getElem_cons hlt, hget, Px.node, if_neg h1, if_neg h0]
  rw [hp]
  have hle := h.short
  have k1 : (t.kind == 1) = false := by simpa using h1
  have k0 : (t.kind == 0) = false := by simpa using h0
  have H1 := Lib.hid (h.below ((Below.refl _ w).alloc (Nat.le_refl _) (.cells #[.int .i64 0, .int .i64 0, .string ⟨#[]⟩, .int .i64 0, .slice none 0 0, .int .i64 0] 105)))
  have HT := Lib.hid ht
  have H := Lib.hid h
  clear hp ht hget h1 h0 h
  go_enter Tryz.func46, Tryz.ntmps46
  go_wp2_with fail
  refine (ahead_some r tv all i stop B _ H1.out t HT.out).mono ?_
  unfold tokV
  rintro e w1 ⟨rfl, hb⟩
  have hR := H1.out.below hb
  obtain ⟨c0, c1, c2, c3⟩ := hR.cells
  have fr := hR.free 1
  have hrl := hR.lt
  have hRb := hR.bump hlt
  have hgr : w.grownBy (w1.setCell ⟨r, 1, none⟩ (.int .i64 ((i : Int) + 1))) (some r) := grown_trans (grown_below (below_box hb) (Nat.le_refl _) _) hRb.2
  have hrw := H.out.lt
  have hsix : Six w1 w.heap.size := (six_new w _ _ _ _ _ _ _).of_block (hb.block _ (by simp))
  have hsz1 := (below_box hb).size
  have hsz0 := hb.size
  clear hR hb
  go_wp2_with fail
  have hbelow : Below w1.heap.size (w1.setCell ⟨r, 1, none⟩ (.int .i64 ((i : Int) + 1))) ((w1.setCell ⟨r, 1, none⟩ (.int .i64 ((i : Int) + 1))).alloc (.cells #[.int .i64 t.kind, .int .i64 t.pos, .string ⟨t.text.toArray⟩, .int .i64 t.int] 102)) := (Below.refl _ _).alloc (by simp) _
  have hR2 := hRb.1.below (hbelow.mono (by simp))
  have hG := grown_then hgr (hbelow.mono hsz1)
  have hsix2 : Six ((w1.setCell ⟨r, 1, none⟩ (.int .i64 ((i : Int) + 1))).alloc (.cells #[.int .i64 t.kind, .int .i64 t.pos, .string ⟨t.text.toArray⟩, .int .i64 t.int] 102)) w.heap.size := hsix.of_block (by rw [hbelow.block _ (by simp at hsz0; omega)]; exact Below.heap_setCell _ _ _ _ (by simp; omega))
  have htb := tokBox (w1.setCell ⟨r, 1, none⟩ (.int .i64 ((i : Int) + 1))) t 102 w1.heap.size (by simp)
  clear hbelow hgr hRb hsix fr c0 c1 c2 c3
  generalize ((w1.setCell ⟨r, 1, none⟩ (.int .i64 ((i : Int) + 1))).alloc (.cells #[.int .i64 t.kind, .int .i64 t.pos, .string ⟨t.text.toArray⟩, .int .i64 t.int] 102)) = W at *
  obtain ⟨b0, b1, b2, b3⟩ := htb
  obtain ⟨e0, e1, e2, e3⟩ := hR2.cells
  obtain ⟨⟨x0, x1, x2, x3, x4, x5, o0, o1, o2, o3, o4, o5⟩, ofr⟩ := hsix2
  have hlook := run_look W.drew B t.text hR2.prims
  have HR2 := Lib.hid hR2; have HG := Lib.hid hG
  clear hR2 hG e0 e1 e2
  go_region
  go_wp2
  refine bodyPost_ret (v := nodeV (.mk t [] (Px.takesOf t.text)) (.slice none 0 0)) (by simp [results, Tryz.results46, go_sem, nodeV, Px.Node.tok, Px.Node.takes, o0, o1, o2, o3, o4, o5]) rfl ?_
  have h6 := set6_below W w.heap.size (.int .i64 t.kind) (.int .i64 t.pos) (.string ⟨t.text.toArray⟩) (.int .i64 t.int) (.slice none 0 0) (.int .i64 (Px.takesOf t.text))
  have hg6 := grown_then HG.out h6
  exact ⟨hg6, _, i + 1, rfl, fun u _ => ⟨_, rfl, kids_nil u _, takes_small t.text⟩, rfl, Nat.lt_succ_self i, H.out.moved hg6 ((h6.block r hrw).trans HR2.out.obj) hlt⟩

set_option maxHeartbeats 1000000 in
theorem node_close (f r : Nat) (tv : Value) (all : List Lx.Tok) (i stop B d : Nat) (w : World) (h : Reader w r tv all i stop B) (t : Lx.Tok) (ht : all[i]? = some t) (h1 : t.kind = 1 ∨ (t.kind = 0 ∧ d = 40)) :
    Calls Tryz.prog 46 #[.pointer (some ⟨r, 0, none⟩), .int .i64 d] w (ReadPost (NodeRep d) r tv all i stop B w (Px.node stop (f + 1) d (all.drop i))) := by
  obtain ⟨hlt, hget⟩ := List.getElem?_eq_some_iff.1 ht
  have hp : Px.node stop (f + 1) d (all.drop i) = .error t.pos := by
    rw [List.drop_eq_getElem_cons hlt, hget, Px.node]
    rcases h1 with h1 | ⟨h0, rfl⟩
    · rw [if_pos h1]
    · rw [if_neg (by omega), if_pos h0, if_pos rfl]
  rw [hp]
  have hle := h.short
  have H1 := Lib.hid (h.below ((Below.refl _ w).alloc (Nat.le_refl _) (.cells #[.int .i64 0, .int .i64 0, .string ⟨#[]⟩, .int .i64 0, .slice none 0 0, .int .i64 0] 105)))
  have HT := Lib.hid ht
  have H := Lib.hid h
  clear hp ht hget h
  rcases h1 with h1 | ⟨h0, rfl⟩
  · have k1 : (t.kind == 1) = true := by simpa using h1
    clear h1
    go_enter Tryz.func46, Tryz.ntmps46
    go_wp2_with fail
    refine (ahead_some r tv all i stop B _ H1.out t HT.out).mono ?_
    unfold tokV
    rintro e w1 ⟨rfl, hb⟩
    have hR := H1.out.below hb
    obtain ⟨c0, c1, c2, c3⟩ := hR.cells
    have fr := hR.free 1
    have hrl := hR.lt
    have hRb := hR.bump hlt
    have hgr : w.grownBy (w1.setCell ⟨r, 1, none⟩ (.int .i64 ((i : Int) + 1))) (some r) := grown_trans (grown_below (below_box hb) (Nat.le_refl _) _) hRb.2
    have hsz1 := (below_box hb).size
    have HG := Lib.hid hgr
    clear hR hb hRb hgr
    go_wp2
    refine ⟨rfl, ?_, rfl⟩
    exact grown_then HG.out ((Below.refl _ _).alloc (by simpa using hsz1) _)
  · have k1 : (t.kind == 1) = false := by simp [h0]
    have k0 : (t.kind == 0) = true := by simpa using h0
    clear h0
    go_enter Tryz.func46, Tryz.ntmps46
    go_wp2_with fail
    refine (ahead_some r tv all i stop B _ H1.out t HT.out).mono ?_
    unfold tokV
    rintro e w1 ⟨rfl, hb⟩
    have hR := H1.out.below hb
    obtain ⟨c0, c1, c2, c3⟩ := hR.cells
    have fr := hR.free 1
    have hrl := hR.lt
    have hRb := hR.bump hlt
    have hgr : w.grownBy (w1.setCell ⟨r, 1, none⟩ (.int .i64 ((i : Int) + 1))) (some r) := grown_trans (grown_below (below_box hb) (Nat.le_refl _) _) hRb.2
    have hsz1 := (below_box hb).size
    have HG := Lib.hid hgr
    clear hR hb hRb hgr
    go_wp2
    refine ⟨rfl, ?_, rfl⟩
    exact grown_then HG.out ((Below.refl _ _).alloc (by simpa using hsz1) _)

set_option maxHeartbeats 2000000 in
theorem node_open (f r : Nat) (tv : Value) (all : List Lx.Tok) (i stop B d : Nat) (w : World) (h : Reader w r tv all i stop B) (t : Lx.Tok) (ht : all[i]? = some t) (h0 : t.kind = 0) (hd : d < 40) (hf : 2 * (all.length - i) ≤ f) (hrest : RestC f) :
    Calls Tryz.prog 46 #[.pointer (some ⟨r, 0, none⟩), .int .i64 d] w (ReadPost (NodeRep d) r tv all i stop B w (Px.node stop (f + 1) d (all.drop i))) := by
  obtain ⟨hlt, hget⟩ := List.getElem?_eq_some_iff.1 ht
  have hp : Px.node stop (f + 1) d (all.drop i) = match Px.rest stop f (d + 1) (all.drop (i + 1)) with | .error p => .error p | .ok (l, ts') => .ok (.mk t l 0, ts') := by
    rw [List.drop_eq_getElem_cons hlt, hget, Px.node, if_neg (by omega), if_pos h0, if_neg (by omega)]; rfl
  have Hpn := Lib.hid hp; clear hp
  generalize hout : Px.node stop (f + 1) d (all.drop i) = out at *
  have hle := h.short
  have k1 : (t.kind == 1) = false := by simp [h0]
  have k0 : (t.kind == 0) = true := by simpa using h0
  have k2 : ((d : Int) == 40) = false := by simp; omega
  have H1 := Lib.hid (h.below ((Below.refl _ w).alloc (Nat.le_refl _) (.cells #[.int .i64 0, .int .i64 0, .string ⟨#[]⟩, .int .i64 0, .slice none 0 0, .int .i64 0] 105)))
  have HT := Lib.hid ht
  have H := Lib.hid h
  have HRest := Lib.hid hrest
  clear ht hget h h0 hrest hout
  go_enter Tryz.func46, Tryz.ntmps46
  go_wp2_with fail
  refine (ahead_some r tv all i stop B _ H1.out t HT.out).mono ?_
  unfold tokV
  rintro e w1 ⟨rfl, hb⟩
  have hR := H1.out.below hb
  obtain ⟨c0, c1, c2, c3⟩ := hR.cells
  have fr := hR.free 1
  have hrl := hR.lt
  have hRb := hR.bump hlt
  have hgr : w.grownBy (w1.setCell ⟨r, 1, none⟩ (.int .i64 ((i : Int) + 1))) (some r) := grown_trans (grown_below (below_box hb) (Nat.le_refl _) _) hRb.2
  have hrw := H.out.lt
  have hsix : Six w1 w.heap.size := (six_new w _ _ _ _ _ _ _).of_block (hb.block _ (by simp))
  have hsz1 := (below_box hb).size
  have hsz0 := hb.size
  clear hR hb
  go_wp2_with fail
  have hbelow : Below w1.heap.size (w1.setCell ⟨r, 1, none⟩ (.int .i64 ((i : Int) + 1))) ((w1.setCell ⟨r, 1, none⟩ (.int .i64 ((i : Int) + 1))).alloc (.cells #[.int .i64 t.kind, .int .i64 t.pos, .string ⟨t.text.toArray⟩, .int .i64 t.int] 102)) := (Below.refl _ _).alloc (by simp) _
  have hR2 := hRb.1.below (hbelow.mono (by simp))
  have hG := grown_then hgr (hbelow.mono hsz1)
  have hsix2 : Six ((w1.setCell ⟨r, 1, none⟩ (.int .i64 ((i : Int) + 1))).alloc (.cells #[.int .i64 t.kind, .int .i64 t.pos, .string ⟨t.text.toArray⟩, .int .i64 t.int] 102)) w.heap.size := hsix.of_block (by rw [hbelow.block _ (by simp at hsz0; omega)]; exact Below.heap_setCell _ _ _ _ (by simp; omega))
  have htb := tokBox (w1.setCell ⟨r, 1, none⟩ (.int .i64 ((i : Int) + 1))) t 102 w1.heap.size (by simp)
  simp only [World.size_alloc] at hsz0
  have hWs : w1.heap.size < ((w1.setCell ⟨r, 1, none⟩ (.int .i64 ((i : Int) + 1))).alloc (.cells #[.int .i64 t.kind, .int .i64 t.pos, .string ⟨t.text.toArray⟩, .int .i64 t.int] 102)).heap.size := by simp
  clear hbelow hgr hRb hsix fr c0 c1 c2 c3
  generalize ((w1.setCell ⟨r, 1, none⟩ (.int .i64 ((i : Int) + 1))).alloc (.cells #[.int .i64 t.kind, .int .i64 t.pos, .string ⟨t.text.toArray⟩, .int .i64 t.int] 102)) = W at *
  have HR2 := Lib.hid hR2; have HG := Lib.hid hG; have HTB := Lib.hid htb; have HSX := Lib.hid hsix2
  obtain ⟨b0, b1, b2, b3⟩ := htb
  have hcall : ∀ n, Calls Tryz.prog 85 #[.pointer (some ⟨r, 0, none⟩), .int .i64 ((d : Int) + 1)] (W.drewN n) (ReadPost (fun u lv l => KidsAt u (40 - (d + 1) + 1) lv l) r tv all (i + 1) stop B (W.drewN n) (Px.rest stop f (d + 1) (all.drop (i + 1)))) := fun n => by
    have := HRest.out r tv all (i + 1) stop B (d + 1) (W.drewN n) (HR2.out.below (below_drawn (Below.refl _ _) n)) (by omega) (by omega) (by omega)
    simpa using this
  have HC := Lib.hid hcall
  clear hR2 hG hcall hsix2
  cases hres : Px.rest stop f (d + 1) (all.drop (i + 1)) with
  | error p =>
    have HRES := Lib.hid hres; clear hres
    have hw1 : IntKind.i64.wrap ((d : Int) + 1) = (d : Int) + 1 := IntWalk.i64_in _ (by omega)
    refine wp_region_held_drew (S := fun w' => TokBox w' w1.heap.size t) (by kernel_rfl) (HTB.out.of_block rfl) (fun hHeld => ?_)
    refine wpAnyH_take (i := 0) (v := tokV t) rfl (by kernel_rfl) (by kernel_rfl) (by kernel_rfl) (fun _ _ _ h => h) (Or.inl ⟨by rfl, fun w' hSw => by obtain ⟨q0, q1, q2, q3⟩ := hSw; go_simp; rfl⟩) hHeld ?_
    refine wpAnyH_take (i := 1) (v := .pointer (some ⟨r, 0, none⟩)) rfl (by kernel_rfl) (by kernel_rfl) (by kernel_rfl) (fun _ _ _ h => h) (Or.inl ⟨by rfl, fun w' hSw => by go_simp⟩) hHeld ?_
    refine wpAnyH_take (i := 2) (v := .int .i64 d) rfl (by kernel_rfl) (by kernel_rfl) (by kernel_rfl) (fun _ _ _ h => h) (Or.inl ⟨by rfl, fun w' hSw => by go_simp⟩) hHeld ?_
    refine wpAnyH_take (i := 3) (v := .int .i64 ((d : Int) + 1)) rfl (by kernel_rfl) (by kernel_rfl) (by kernel_rfl) (fun _ _ _ h => h) (Or.inl ⟨by rfl, fun w' hSw => by go_simp⟩) hHeld ?_
    simp only [Act.put, List.setIfInBounds_toArray, List.set_cons_zero, List.set_cons_succ]
    refine wpAnyH_ready (rs := [4]) (by kernel_rfl) (by simp) ?_
    refine AllReadyH.cons rfl (fun K hK => ?_) AllReadyH.nil
    go_simp
    have hc := HC.out 1
    rw [HRES.out] at hc
    refine hc.mono ?_
    rintro e w2 ⟨hg2, rfl⟩
    have ho : out = .error p := by rw [Hpn.out, HRES.out]
    subst ho
    exact ⟨rfl, grown_trans HG.out ⟨hg2.os, hg2.tape, hg2.output, hg2.size, hg2.block⟩, rfl⟩
  | ok res =>
    obtain ⟨l, ts'⟩ := res
    have HRES := Lib.hid hres; clear hres
    have hw1 : IntKind.i64.wrap ((d : Int) + 1) = (d : Int) + 1 := IntWalk.i64_in _ (by omega)
    refine wp_region_held_drew (S := fun w' => TokBox w' w1.heap.size t) (by kernel_rfl) (HTB.out.of_block rfl) (fun hHeld => ?_)
    refine wpAnyH_take (i := 0) (v := tokV t) rfl (by kernel_rfl) (by kernel_rfl) (by kernel_rfl) (fun _ _ _ h => h) (Or.inl ⟨by rfl, fun w' hSw => by obtain ⟨q0, q1, q2, q3⟩ := hSw; go_simp; rfl⟩) hHeld ?_
    refine wpAnyH_take (i := 1) (v := .pointer (some ⟨r, 0, none⟩)) rfl (by kernel_rfl) (by kernel_rfl) (by kernel_rfl) (fun _ _ _ h => h) (Or.inl ⟨by rfl, fun w' hSw => by go_simp⟩) hHeld ?_
    refine wpAnyH_take (i := 2) (v := .int .i64 d) rfl (by kernel_rfl) (by kernel_rfl) (by kernel_rfl) (fun _ _ _ h => h) (Or.inl ⟨by rfl, fun w' hSw => by go_simp⟩) hHeld ?_
    refine wpAnyH_take (i := 3) (v := .int .i64 ((d : Int) + 1)) rfl (by kernel_rfl) (by kernel_rfl) (by kernel_rfl) (fun _ _ _ h => h) (Or.inl ⟨by rfl, fun w' hSw => by go_simp⟩) hHeld ?_
    simp only [Act.put, List.setIfInBounds_toArray, List.set_cons_zero, List.set_cons_succ]
    refine wpAnyH_ready (rs := [4]) (by kernel_rfl) (by simp) ?_
    refine AllReadyH.cons rfl (fun K hK => ?_) AllReadyH.nil
    go_simp
    have hc := HC.out 1
    rw [HRES.out] at hc
    refine hc.mono ?_
    rintro e w2 ⟨hg2', v, j, rfl, hnew', hts, hij, hrd⟩
    have hg2 : W.grownBy w2 (some r) := ⟨hg2'.os, hg2'.tape, hg2'.output, hg2'.size, hg2'.block⟩
    have hnew : New (fun u lv l => KidsAt u (40 - (d + 1) + 1) lv l) W w2 v l := hnew'
    have ho : out = .ok (.mk t l 0, ts') := by rw [Hpn.out, HRES.out]
    subst ho
    obtain ⟨pk, ck, rfl⟩ := hnew.now.len
    have hWs2 : ∀ k, k < W.heap.size → k ≠ r → w2.heap[k]? = W.heap[k]? := fun k hk hkr => hg2.block k hk (fun e => hkr (by simpa using e))
    have htb2 : TokBox w2 w1.heap.size t := HTB.out.of_block (hWs2 _ hWs (by omega))
    have hsx2 : Six w2 w.heap.size := HSX.out.of_block (hWs2 _ (by omega) (by omega))
    have Hg2 := Lib.hid hg2; have Hnew := Lib.hid hnew; have Hts := Lib.hid hts; have Hrd := Lib.hid hrd
    refine hK.out _ _ htb2 (fun hHeld2 => ?_)
    clear hK K hc hg2 hnew hg2' hnew' hts hrd hWs2 hHeld
    refine wpAnyH_ready (rs := [5]) (by kernel_rfl) (by simp) ?_
    refine AllReadyH.cons rfl (fun K hK => ?_) AllReadyH.nil
    unfold tokV
    go_simp
    refine hK.out _ _ htb2 (fun hHeld3 => ?_)
    clear hK K hHeld2
    obtain ⟨⟨x0, x1, x2, x3, x4, x5, o0, o1, o2, o3, o4, o5⟩, ofr⟩ := hsx2
    refine wpAnyH_ready (rs := [6]) (by kernel_rfl) (by simp) ?_
    refine AllReadyH.cons rfl (fun K hK => ?_) AllReadyH.nil
    go_simp
    refine hK.out _ _ (htb2.of_block (set6_block _ _ _ _ _ _ _ _ _ (by omega))) (fun _ => ?_)
    clear hK K
    refine wpAnyH_done (by kernel_rfl) ?_ _
    go_wp2
    refine bodyPost_ret (v := nodeV (.mk t l 0) (.slice pk l.length ck)) (by simp [results, Tryz.results46, go_sem, nodeV, Px.Node.tok, Px.Node.takes, o0, o1, o2, o3, o4, o5]) rfl ?_
    have h6' := set6_belown w2 w.heap.size (.int .i64 t.kind) (.int .i64 t.pos) (.string ⟨t.text.toArray⟩) (.int .i64 t.int) (.slice pk l.length ck) (.int .i64 0)
    have hgf := grown_then (grown_trans HG.out Hg2.out) h6'
    refine ⟨hgf, _, j, rfl, fun u hu => ⟨_, rfl, ?_, Nat.zero_le 2⟩, Hts.out, by omega, H.out.moved hgf ((h6'.block r hrw).trans Hrd.out.obj) Hrd.out.le⟩
    have hk : KidsAt u (40 - (d + 1) + 1) (.slice pk l.length ck) l := Hnew.out u fun b hb1 hb2 => by
      rw [hu b (by omega) (by simpa using hb2)]
      exact set6_block _ _ _ _ _ _ _ _ _ (by omega)
    rw [show 40 - d = 40 - (d + 1) + 1 by omega]; exact hk
end Go.Proofs.YtnhndamfbeiljaaGreatDoor

namespace Go.Proofs.YtnhndamfbeiljaaGreatDoor
open Go Go.RowKit

theorem infoNode : (Tryz.prog.info? 105).map (fun i => (i.zero, i.size, i.bytes)) = some (some (.agg #[.int .i64 0, .int .i64 0, .string ⟨#[]⟩, .int .i64 0, .slice none 0 0, .int .i64 0]), 6, 72) := by kernel_rfl

theorem own_moved {w w' : World} {base r : Nat} {e : TypeId} {size : Nat} {v : Value} {n : Nat} {xs : List Value} (h : w.ownsRow base e size v n xs) (hg : w.grownBy w' (some r)) (hr : r < base) : w'.ownsRow base e size v n xs := by
  refine h.kept hg ?_
  cases hv : v.ownBlock with
  | none => exact .inl rfl
  | some k => exact .inr (by have := (h.lt k hv).1; simp; omega)

theorem newNode (w : World) (x0 x1 x2 x3 x4 x5 : Value) (T : TypeId) (j : Nat) (u : Value) (h : ([x0, x1, x2, x3, x4, x5] : List Value)[j]? = some u) :
    (w.alloc (.cells #[x0, x1, x2, x3, x4, x5] T)).cell? ((⟨w.heap.size, 0, none⟩ : Addr).add j) = some u := by
  have e : (⟨w.heap.size, 0, none⟩ : Addr).add j = ⟨w.heap.size, j, none⟩ := by unfold Addr.add; split <;> simp_all
  rw [e, World.cell?_alloc_mark]
  simpa using h
theorem cellsNode (vs : List Value) (x0 x1 x2 x3 x4 x5 : Value) : cellsOf (vs ++ [.agg #[x0, x1, x2, x3, x4, x5]]) = cellsOf vs ++ [x0, x1, x2, x3, x4, x5] := by
  simp [cellsOf, Value.cells]

/-- A row of nodes is a list of them. -/
theorem kids_row {d : Nat} {w : World} {v : Value} {l : List Px.Node} (h : RowAt 6 (NodeRep d w) w v l) : KidsAt w (40 - d + 1) v l := by
  rcases h with h | ⟨g, o, c, h1, h2, h3, h4⟩
  · exact .inl h
  · refine .inr ⟨g, o, c, h1, h2, h3, fun i n hn => ?_⟩
    obtain ⟨u, ⟨lv, rfl, hk, hs⟩, _, hc⟩ := h4 i n hn
    exact ⟨lv, ⟨hc 0 _ rfl, hc 1 _ rfl, hc 2 _ rfl, hc 3 _ rfl, hc 4 _ rfl, hc 5 _ rfl, hs⟩, hk⟩

/-- What is left of the tokens, and what came ahead. -/
def Ahead (stop f d : Nat) (ts : List Lx.Tok) (F : Nat) (ts' : List Lx.Tok) (ns : List Px.Node) : Prop :=
  Px.rest stop f d ts = match Px.rest stop F d ts' with | .error p => .error p | .ok (l, tt) => .ok (ns ++ l, tt)
theorem Ahead.refl (stop f d : Nat) (ts : List Lx.Tok) : Ahead stop f d ts f ts [] := by
  unfold Ahead
  cases Px.rest stop f d ts with
  | error p => rfl
  | ok x => rfl
theorem Ahead.nil {stop f d F : Nat} {ts : List Lx.Tok} {ns : List Px.Node} (h : Ahead stop f d ts (F + 1) [] ns) : Px.rest stop f d ts = .error stop := by
  unfold Ahead at h; rw [h, Px.rest]
theorem Ahead.close {stop f d F : Nat} {t : Lx.Tok} {ts ts' : List Lx.Tok} {ns : List Px.Node} (h : Ahead stop f d ts (F + 1) (t :: ts') ns) (h1 : t.kind = 1) : Px.rest stop f d ts = .ok (ns, ts') := by
  unfold Ahead at h; rw [h, Px.rest, if_pos h1]; simp
theorem Ahead.bad {stop f d F p : Nat} {t : Lx.Tok} {ts ts' : List Lx.Tok} {ns : List Px.Node} (h : Ahead stop f d ts (F + 1) (t :: ts') ns) (h1 : t.kind ≠ 1) (hn : Px.node stop F d (t :: ts') = .error p) : Px.rest stop f d ts = .error p := by
  unfold Ahead at h; rw [h, Px.rest, if_neg h1, hn]
theorem Ahead.more {stop f d F : Nat} {t : Lx.Tok} {ts ts' tt : List Lx.Tok} {ns : List Px.Node} {n : Px.Node} (h : Ahead stop f d ts (F + 1) (t :: ts') ns) (h1 : t.kind ≠ 1) (hn : Px.node stop F d (t :: ts') = .ok (n, tt)) : Ahead stop f d ts F tt (ns ++ [n]) := by
  unfold Ahead at *
  rw [h, Px.rest, if_neg h1, hn]
  dsimp only
  cases Px.rest stop F d tt with
  | error p => rfl
  | ok x => obtain ⟨l, u⟩ := x; simp

def Shape6 (v : Value) : Prop := ∃ (n : Px.Node) (lv : Value), v = nodeV n lv

set_option maxHeartbeats 2000000 in
set_option maxRecDepth 100000 in
theorem rest_of (f : Nat) (ih : ∀ g, g < f → NodeC g) : RestC f := by
  intro r tv all i stop B d w h hd1 hd hf
  have hrw := h.lt
  have hshort := h.short
  obtain ⟨i0, hi, hz0, hz1, hz2⟩ := info_parts infoNode
  have HI1 := Lib.hid hz1; have HI2 := Lib.hid hz2; have HI0 := Lib.hid hz0; have HI := Lib.hid hi
  have HIH := Lib.hid ih
  have H := Lib.hid h
  generalize hout : Px.rest stop f d (all.drop i) = out
  have HOUT := Lib.hid hout
  clear hi hz0 hz1 hz2 ih h hout
  have hfd : ∀ (a b c e : Value) (u : World), (Instr.field 102 (.agg #[a, b, c, e]) 0).run Tryz.prog u = .ok a u := fun a b c e u => by
    kernel_rfl
  go_enter Tryz.func85, Tryz.ntmps85
  go_wp2_with fail
  go_loopw [5] (fun v wr => ∃ (j F : Nat) (vs : List Value) (ns : List Px.Node), i ≤ j ∧ Hid (Reader wr r tv all j stop B) ∧ 2 * (all.length - j) + 2 ≤ F ∧ F ≤ f ∧ Hid (Ahead stop f d (all.drop i) F (all.drop j) ns) ∧ Hid (Reps (Kept (NodeRep d) w.heap.size wr v.ownBlock) vs ns ∧ ∀ u ∈ vs, Shape6 u) ∧ Hid (wr.ownsRow w.heap.size 105 6 v vs.length (cellsOf vs)) ∧ vs.length ≤ j ∧ Hid (w.grownBy wr (some r))) (fun _ wr => all.length - (intOf ((wr.cell? ⟨r, 1, none⟩).getD undef)).toNat)
  case atStart => exact ⟨i, f, [], [], Nat.le_refl _, H, hf, Nat.le_refl _, Lib.hid (Ahead.refl _ _ _ _), Lib.hid ⟨trivial, fun _ h => by cases h⟩, Lib.hid (World.ownsRow_nil _ _ _ _), Nat.zero_le _, Lib.hid ⟨rfl, rfl, rfl, Nat.le_refl _, fun _ _ _ => rfl⟩⟩
  case round =>
    obtain ⟨j, F, vs, ns, hij, Hrd, hF, hFf, Ha, Hr, Ho, hvj, Hg⟩ := hrel
    obtain ⟨F, rfl⟩ : ∃ G, F = G + 1 := ⟨F - 1, by omega⟩
    have hjl := Hrd.out.le
    cases htj : all[j]? with
    | none =>
      have hje : j = all.length := by have := List.getElem?_eq_none_iff.1 htj; omega
      have Hje := Lib.hid hje
      clear htj hje
      go_wp2_with fail
      refine (ahead_end r tv all j stop B _ Hrd.out Hje.out).mono ?_
      rintro e w1 ⟨rfl, hb⟩
      have ho : out = .error stop := by
        have := Ha.out
        rw [Hje.out, List.drop_length] at this
        rw [← HOUT.out]; exact this.nil
      subst ho
      exact ⟨rfl, grown_trans Hg.out (grown_below hb (Nat.le_refl _) _), rfl⟩
    | some t =>
      obtain ⟨hlt, hget⟩ := List.getElem?_eq_some_iff.1 htj
      have hdrop : all.drop j = t :: all.drop (j + 1) := by rw [List.drop_eq_getElem_cons hlt, hget]
      have HT := Lib.hid htj; have HD := Lib.hid hdrop
      clear htj hget hdrop
      by_cases h1 : t.kind = 1
      · have k1 : (t.kind != 1) = false := by simp [h1]
        have H1 := Lib.hid h1; clear h1
        go_wp2_with fail
        refine (ahead_some r tv all j stop B _ Hrd.out t HT.out).mono ?_
        unfold tokV
        rintro e w1 ⟨rfl, hb⟩
        have hR := Hrd.out.below hb
        obtain ⟨c0, c1, c2, c3⟩ := hR.cells
        have fr := hR.free 1
        have hRb := hR.bump hlt
        have HB := Lib.hid hb; have HRb := Lib.hid hRb
        clear hb hR hRb
        go_wp2
        go_ret
        have ho : out = .ok (ns, all.drop (j + 1)) := by
          have := Ha.out
          rw [HD.out] at this
          rw [← HOUT.out]; exact this.close H1.out
        subst ho
        have hgb : w1.grownBy (w1.setCell ⟨r, 1, none⟩ (.int .i64 ((j : Int) + 1))) (some r) := HRb.out.2
        have hgw := grown_below (w := wr) HB.out (Nat.le_refl _) (some r)
        refine ⟨grown_trans (grown_trans Hg.out hgw) hgb, _, j + 1, rfl, fun u hu => ?_, rfl, by omega, HRb.out.1⟩
        have hown := own_moved (own_moved Ho.out hgw hrw) hgb hrw
        have hk : Reps (Kept (NodeRep d) w.heap.size (w1.setCell ⟨r, 1, none⟩ (.int .i64 ((j : Int) + 1))) u5.ownBlock) vs ns :=
          Hr.out.1.mono fun z y hk => (hk.below HB.out).since (by simp) (fun b hb1 hb2 _ => hgb.block b hb2 (fun e => by simp at e; omega)) (.inl rfl)
        exact kids_row (New.row hown (Reps.len hk) hk (fun z hz => by obtain ⟨n, lv, rfl⟩ := Hr.out.2 z hz; rfl) u hu)
      · have k1 : (t.kind != 1) = true := by simp [h1]
        have H1 := Lib.hid h1; clear h1
        go_wp2_with fail
        refine (ahead_some r tv all j stop B _ Hrd.out t HT.out).mono ?_
        unfold tokV
        rintro e w1 ⟨rfl, hb⟩
        have HB := Lib.hid hb; clear hb
        have hcall := HIH.out F (by omega) r tv all j stop B d w1 (Hrd.out.below HB.out) hd (by omega)
        have HC := Lib.hid hcall; clear hcall
        go_wp2_with fail
        cases hn : Px.node stop F d (all.drop j) with
        | error p =>
          have hc := HC.out
          rw [hn] at hc
          refine hc.mono ?_
          rintro e w2 ⟨hg2, he⟩
          obtain rfl : e = wrongAt p := he
          have ho : out = .error p := by
            have := Ha.out
            rw [HD.out] at this hn
            rw [← HOUT.out]; exact this.bad H1.out hn
          subst ho
          exact ⟨rfl, grown_trans (grown_trans Hg.out (grown_below HB.out (Nat.le_refl _) _)) hg2, rfl⟩
        | ok res =>
          obtain ⟨n, tt⟩ := res
          have hc := HC.out
          rw [hn] at hc
          refine hc.mono ?_
          clear hc
          rintro e w2 ⟨hg2, v, j2, rfl, hnew, htt, hj2, hrd2⟩
          obtain ⟨lv, rfl, hkids, _⟩ := hnew.now
          obtain ⟨pk, ck, rfl⟩ := hkids.len
          have hah : Ahead stop f d (all.drop i) F tt (ns ++ [n]) := by
            have := Ha.out
            rw [HD.out] at this hn
            exact this.more H1.out hn
          subst htt
          have hBs := Hg.out.size
          have hs1 := HB.out.size
          have hs2 := hg2.size
          have hg02 : w.grownBy w2 (some r) := grown_trans (grown_trans Hg.out (grown_below HB.out (Nat.le_refl _) _)) hg2
          have hown2 := own_moved (own_moved Ho.out (grown_below HB.out (Nat.le_refl _) _) hrw) hg2 hrw
          have hk0 := hnew.kept (base := w.heap.size) (ob := u5.ownBlock) (by omega) (fun g hg => by have := (Ho.out.lt g hg).2; omega)
          have hk1 : Reps (Kept (NodeRep d) w.heap.size w2 u5.ownBlock) vs ns :=
            Hr.out.1.mono fun z y hk => (hk.below HB.out).since hs2 (fun b hb1 hb2 _ => hg2.block b hb2 (fun e => by simp at e; omega)) (.inl rfl)
          have hss : ∀ u ∈ vs ++ [nodeV n (.slice pk n.list.length ck)], Shape6 u := fun u hu => (List.mem_append.1 hu).elim (fun h => Hr.out.2 u h) (fun h => ⟨n, _, List.mem_singleton.1 h⟩)
          have hlen2 : (cellsOf vs).length = vs.length * 6 := Ho.out.1
          have HL := Lib.hid hlen2; have Hown2 := Lib.hid hown2; have HK0 := Lib.hid hk0; have HK1 := Lib.hid hk1; have HSS := Lib.hid hss; have HAH := Lib.hid hah; have HG02 := Lib.hid hg02; have HRD2 := Lib.hid hrd2
          have hvq : vs.length ≤ 4096 := by omega
          clear hlen2 hown2 hk0 hk1 hss hah hg02 hrd2 hnew hkids hg2 hn
          unfold nodeV
          go_wp2_with (at_builtin; refine wpList_append_loc _ rfl (.tmp 10) (.tmp 14) 103 rfl w.heap.size 105 i0 (.agg #[.int .i64 0, .int .i64 0, .string ⟨#[]⟩, .int .i64 0, .slice none 0 0, .int .i64 0]) 6 72 Tryz.underlying103 HI.out HI0.out HI1.out HI2.out rfl (by decide) _ vs.length _ rfl (Hown2.out.alloc _) ⟨w2.heap.size, 0, none⟩ 1 1 [.int .i64 n.tok.kind, .int .i64 n.tok.pos, .string ⟨n.tok.text.toArray⟩, .int .i64 n.tok.int, .slice pk n.list.length ck, .int .i64 n.takes] rfl (by decide) rfl ?c1 ?c2 ?c3 ?c4 ?c5 ?_)
          case c1 => exact fun j u h => newNode w2 _ _ _ _ _ _ _ j u h
          case c2 => intro u hu; simp only [List.mem_cons, List.not_mem_nil, or_false] at hu; rcases hu with rfl | rfl | rfl | rfl | rfl | rfl <;> rfl
          case c3 => unfold maxLen; omega
          case c4 => omega
          case c5 => simp; omega
          intro v' w3 hown3 hgr hloc
          have hal : Below w2.heap.size w2 (w2.alloc (.cells #[.int .i64 n.tok.kind, .int .i64 n.tok.pos, .string ⟨n.tok.text.toArray⟩, .int .i64 n.tok.int, .slice pk n.list.length ck, .int .i64 n.takes] 105)) := (Below.refl _ _).alloc (Nat.le_refl _) _
          have hB3 : Below w.heap.size w2 w3 := (hal.mono (by omega)).grown hgr (by simp; omega) (fun kk hkk => (Hown2.out.lt kk hkk).1)
          have hstep : ∀ z x, Kept (NodeRep d) w.heap.size w2 u5.ownBlock z x → Kept (NodeRep d) w.heap.size w3 v'.ownBlock z x := fun z x hk => (hk.below hal).step hgr.size (fun b hb1 hb2 => hgr.block b hb1 (fun e => hb2 e.symm)) (by simpa using hloc)
          have hreps : Reps (Kept (NodeRep d) w.heap.size w3 v'.ownBlock) (vs ++ [nodeV n (.slice pk n.list.length ck)]) (ns ++ [n]) := Reps.snoc (hstep _ _ HK0.out) (HK1.out.mono fun z y hk => hstep _ _ hk)
          have hG3 := grown_then HG02.out hB3
          have hrd3 : Reader w3 r tv all j2 stop B := H.out.moved hG3 ((hB3.block r hrw).trans HRD2.out.obj) HRD2.out.le
          rw [← cellsNode] at hown3
          have hm : (w3.cell? ⟨r, 1, none⟩) = some (.int .i64 j2) := hrd3.cells.2.1
          have hm0 : (wr.cell? ⟨r, 1, none⟩) = some (.int .i64 j) := Hrd.out.cells.2.1
          have A1 := Lib.hid hown3; have A2 := Lib.hid hreps; have A3 := Lib.hid hG3; have A4 := Lib.hid hrd3; have A5 := Lib.hid hm; have A6 := Lib.hid hm0
          have A7 := Lib.hid hj2
          have A8 := Lib.hid HRD2.out.le
          clear hown3 hreps hG3 hrd3 hm hm0 hgr hstep hloc hal hB3
          go_wp2
          go_roundw
          case rel => exact ⟨j2, F, vs ++ [nodeV n (.slice pk n.list.length ck)], ns ++ [n], by have := A7.out; omega, A4, by have := A7.out; omega, by omega, HAH, Lib.hid ⟨A2.out, HSS.out⟩, Lib.hid (by rw [List.length_append]; exact A1.out), by have := A7.out; simp; omega, A3⟩
          case measure => rw [A5.out, A6.out]; have := A7.out; have := A8.out; simp [intOf]; omega

theorem node_of (f : Nat) (hrest : RestC f) : NodeC (f + 1) := by
  intro r tv all i stop B d w h hd hf
  cases ht : all[i]? with
  | none => exact node_end f r tv all i stop B d w h (by have := List.getElem?_eq_none_iff.1 ht; have := h.le; omega)
  | some t =>
    by_cases h1 : t.kind = 1
    · exact node_close f r tv all i stop B d w h t ht (.inl h1)
    · by_cases h0 : t.kind = 0
      · by_cases h40 : d = 40
        · exact node_close f r tv all i stop B d w h t ht (.inr ⟨h0, h40⟩)
        · have hlt := (List.getElem?_eq_some_iff.1 ht).1
          exact node_open f r tv all i stop B d w h t ht h0 (by omega) (by omega) hrest
      · exact node_leaf f r tv all i stop B d w h t ht h1 h0

theorem node_rest (f : Nat) : ∀ g, g ≤ f → NodeC g ∧ RestC g := by
  induction f with
  | zero =>
    intro g hg
    obtain rfl : g = 0 := by omega
    refine ⟨fun r tv all i stop B d w h hd hf => by omega, fun r tv all i stop B d w h _ hd hf => by omega⟩
  | succ f ih =>
    intro g hg
    by_cases e : g ≤ f
    · exact ih g e
    · obtain rfl : g = f + 1 := by omega
      have hn : NodeC (f + 1) := node_of f (ih f (Nat.le_refl f)).2
      exact ⟨hn, rest_of (f + 1) fun g hg => (ih g (by omega)).1⟩
theorem node_any (f : Nat) : NodeC f := (node_rest f f (Nat.le_refl f)).1
end Go.Proofs.YtnhndamfbeiljaaGreatDoor

namespace Go.Proofs.YtnhndamfbeiljaaGreatDoor
open Go Go.RowKit

theorem ent_cell {w : World} {g : Nat} {cs : Array Value} {T : TypeId} {fr : Nat × Nat} (h : w.heap[g]? = some (.cells cs T fr)) (j : Nat) (v : Value) (hv : cs[j]? = some v) : w.cell? ⟨g, j, none⟩ = some v := by
  simp only [World.cell?, h]; simpa using hv
theorem ent_free {w : World} {g : Nat} {cs : Array Value} {T : TypeId} (h : w.heap[g]? = some (.cells cs T (0, 0))) (o : Nat) : w.frozen? ⟨g, o, none⟩ = false := by
  simp only [World.frozen?, h]; simp
theorem ent_new (w : World) (cs : Array Value) (T : TypeId) : (w.alloc (.cells cs T)).heap[w.heap.size]? = some (.cells cs T (0, 0)) := heap_alloc_new w _
theorem ent_lt {w : World} {g : Nat} {o : Obj} (h : w.heap[g]? = some o) : g < w.heap.size := (Array.getElem?_eq_some_iff.1 h).1
theorem ent_alloc {w : World} {g : Nat} {o : Obj} (h : w.heap[g]? = some o) (o' : Obj) : (w.alloc o').heap[g]? = some o := (Below.heap_alloc w o' g (ent_lt h)).trans h
theorem ent_below {w w' : World} {g : Nat} {o : Obj} (h : w.heap[g]? = some o) (hb : Below w.heap.size w w') : w'.heap[g]? = some o := (hb.block g (ent_lt h)).trans h
theorem ent_set {w : World} {g : Nat} {cs : Array Value} {T : TypeId} (h : w.heap[g]? = some (.cells cs T (0, 0))) (j : Nat) (v : Value) : (w.setCell ⟨g, j, none⟩ v).heap[g]? = some (.cells (cs.setIfInBounds j v) T (0, 0)) := heap_setCell_same w g j _ _ _ h
theorem ent_other {w : World} {g : Nat} {o : Obj} (h : w.heap[g]? = some o) (b j : Nat) (v : Value) (hne : g ≠ b) : (w.setCell ⟨b, j, none⟩ v).heap[g]? = some o := (Below.heap_setCell w ⟨b, j, none⟩ v g hne).trans h

theorem New.later {α : Type} {rep : World → Value → α → Prop} {w w1 w2 w' : World} {v : Value} {x : α} (h : New rep w1 w2 v x) (h0 : w.heap.size ≤ w1.heap.size) (hs : w2.heap.size ≤ w'.heap.size)
    (hk : ∀ b, w1.heap.size ≤ b → b < w2.heap.size → w'.heap[b]? = w2.heap[b]?) : New rep w w' v x :=
  fun u hu => h u fun b hb1 hb2 => (hu b (by omega) (by omega)).trans (hk b hb1 hb2)

/-- The blocks from lo on stay as they were. -/
def Stay (lo : Nat) (w w' : World) : Prop := w.heap.size ≤ w'.heap.size ∧ ∀ b, lo ≤ b → b < w.heap.size → w'.heap[b]? = w.heap[b]?
theorem Stay.refl (lo : Nat) (w : World) : Stay lo w w := ⟨Nat.le_refl _, fun _ _ _ => rfl⟩
theorem Stay.below {lo : Nat} {w w' w'' : World} (h : Stay lo w w') (hb : Below w'.heap.size w' w'') : Stay lo w w'' :=
  ⟨Nat.le_trans h.1 hb.size, fun b h1 h2 => (hb.block b (Nat.lt_of_lt_of_le h2 h.1)).trans (h.2 b h1 h2)⟩
theorem Stay.alloc {lo : Nat} {w w' : World} (h : Stay lo w w') (o : Obj) : Stay lo w (w'.alloc o) := h.below ((Below.refl _ _).alloc (Nat.le_refl _) o)
theorem Stay.set {lo : Nat} {w w' : World} (h : Stay lo w w') (g j : Nat) (v : Value) (hg : g < lo) : Stay lo w (w'.setCell ⟨g, j, none⟩ v) :=
  ⟨by simpa using h.1, fun b h1 h2 => (Below.heap_setCell w' ⟨g, j, none⟩ v b (by simp; omega)).trans (h.2 b h1 h2)⟩
theorem Stay.drew {lo : Nat} {w w' : World} (h : Stay lo w w') : Stay lo w w'.drew := h
theorem New.stay {α : Type} {rep : World → Value → α → Prop} {w w1 w2 w' : World} {v : Value} {x : α} (h : New rep w1 w2 v x) (h0 : w.heap.size ≤ w1.heap.size) (hs : Stay w1.heap.size w2 w') : New rep w w' v x :=
  h.later h0 hs.1 hs.2
theorem New.drewn {α : Type} {rep : World → Value → α → Prop} {w w' : World} {v : Value} {x : α} (h : New rep w.drew w' v x) : New rep w w' v x := h

/-- A text as a value. -/
def StrAt (_ : World) (v : Value) (s : List UInt8) : Prop := v = .string ⟨s.toArray⟩

/-- A type's value (f: so deep, less one, at most). -/
def TypeAt : Nat → World → Value → Px.TypeE → Prop
  | 0, _, _, _ => False
  | f + 1, u, v, .mk p nm args => ∃ av, v = .agg #[.int .i64 p, .string ⟨nm.toArray⟩, av] ∧ RowAt 3 (TypeAt f u) u av args
def PatAt : Nat → World → Value → Px.Pat → Prop
  | 0, _, _, _ => False
  | f + 1, u, v, .mk k p nm i args => ∃ av, v = .agg #[.int .i64 k, .int .i64 p, .string ⟨nm.toArray⟩, .int .i64 i, av] ∧ RowAt 5 (PatAt f u) u av args
def AltOf (pa : Value → Px.Pat → Prop) (ex : Value → Px.Expr → Prop) (v : Value) (x : Px.Pat × Px.Expr) : Prop :=
  ∃ a0 a1 a2 a3 a4 b0 b1 b2 b3 b4 b5 b6 : Value, v = .agg #[a0, a1, a2, a3, a4, b0, b1, b2, b3, b4, b5, b6] ∧ pa (.agg #[a0, a1, a2, a3, a4]) x.1 ∧ ex (.agg #[b0, b1, b2, b3, b4, b5, b6]) x.2
def ExprAt : Nat → World → Value → Px.Expr → Prop
  | 0, _, _, _ => False
  | f + 1, u, v, .mk k p nm i ns xs al => ∃ nv xv av, v = .agg #[.int .i64 k, .int .i64 p, .string ⟨nm.toArray⟩, .int .i64 i, nv, xv, av] ∧
      RowAt 1 (StrAt u) u nv ns ∧ RowAt 7 (ExprAt f u) u xv xs ∧ RowAt 12 (AltOf (PatAt f u) (ExprAt f u)) u av al

theorem row_nil {α : Type} (sz : Nat) (rep : Value → α → Prop) (u : World) : RowAt sz rep u (.slice none 0 0) [] := .inl ⟨rfl, none, 0, rfl⟩

/-- The list of nodes from one on. -/
theorem kids_drop {w : World} {k g o c n : Nat} {l : List Px.Node} (h : KidsAt w k (.slice (some ⟨g, o, none⟩) n c) l) (j : Nat) (hj : j ≤ l.length) :
    KidsAt w k (.slice (some ⟨g, if c = j then o else o + j * 6, none⟩) (l.length - j) (c - j)) (l.drop j) := by
  cases k with
  | zero =>
    obtain ⟨rfl, p, c', _⟩ := h
    exact ⟨by simp, _, _, by simp at hj; subst hj; rfl⟩
  | succ k =>
    rcases h with ⟨rfl, p, c', _⟩ | ⟨g', o', c', he, h2, h3, h4⟩
    · exact .inl ⟨by simp, _, _, by simp at hj; subst hj; rfl⟩
    · injection he with e1 e2 e3
      injection e1 with e1
      injection e1 with e4 e5
      subst e3; subst e4; subst e5
      by_cases hjl : j = l.length
      · exact .inl ⟨by rw [hjl]; simp, _, _, by rw [hjl, Nat.sub_self]⟩
      · refine .inr ⟨g, o + j * 6, c - j, ?_, ?_, ?_, fun i m hm => ?_⟩
        · rw [if_neg (by omega), List.length_drop]
        · rw [List.length_drop]; omega
        · omega
        · rw [List.getElem?_drop] at hm
          obtain ⟨kv, a, b⟩ := h4 (j + i) m hm
          refine ⟨kv, ?_, b⟩
          have e : o + j * 6 + i * 6 = o + (j + i) * 6 := by rw [Nat.add_mul]; omega
          rw [e]; exact a
theorem hold_okI (k : Nat) (n : Px.Node) (lv : Value) (A B : Int) (a b : Nat) (w : World) (hA : A = (a : Int)) (hB : B = (b : Int)) (hk : KidsAt w k lv n.list) (ha : a ≤ 1000) (hb : b ≤ 1000)  (h : Px.hold n a b = .ok ()) :
    Calls Tryz.prog 124 #[nodeV n lv, .int .i64 A, .int .i64 B] w fun e w' => e = .returned (.tuple #[]) ∧ Below w.heap.size w w' := by
  subst hA; subst hB; exact hold_ok k n lv a b w hk ha hb  h
theorem hold_badI (k : Nat) (n : Px.Node) (lv : Value) (A B : Int) (a b : Nat) (w : World) (hA : A = (a : Int)) (hB : B = (b : Int)) (hk : KidsAt w k lv n.list) (ha : a ≤ 1000) (hb : b ≤ 1000) (p : Nat) (h : Px.hold n a b = .error p) :
    Calls Tryz.prog 124 #[nodeV n lv, .int .i64 A, .int .i64 B] w fun e w' => e = wrongAt p ∧ Below w.heap.size w w' := by
  subst hA; subst hB; exact hold_bad k n lv a b w hk ha hb p h
theorem nodes_okI (k : Nat) (n : Px.Node) (lv : Value) (A B : Int) (a b : Nat) (w : World) (hA : A = (a : Int)) (hB : B = (b : Int)) (hk : KidsAt w k lv n.list) (ha : a ≤ 1000) (hb : b ≤ 1000) (l : List Px.Node) (h : Px.nodes n a b = .ok l) :
    Calls Tryz.prog 87 #[nodeV n lv, .int .i64 A, .int .i64 B] w fun e w' => e = .returned lv ∧ Below w.heap.size w w' := by
  subst hA; subst hB; exact nodes_ok k n lv a b w hk ha hb l h
theorem nodes_badI (k : Nat) (n : Px.Node) (lv : Value) (A B : Int) (a b : Nat) (w : World) (hA : A = (a : Int)) (hB : B = (b : Int)) (hk : KidsAt w k lv n.list) (ha : a ≤ 1000) (hb : b ≤ 1000) (p : Nat) (h : Px.nodes n a b = .error p) :
    Calls Tryz.prog 87 #[nodeV n lv, .int .i64 A, .int .i64 B] w fun e w' => e = wrongAt p ∧ Below w.heap.size w w' := by
  subst hA; subst hB; exact nodes_bad k n lv a b w hk ha hb p h

theorem kids_drop' {w : World} {k g o c n : Nat} {l : List Px.Node} (h : KidsAt w k (.slice (some ⟨g, o, none⟩) n c) l) (j o' : Nat) (hj : j ≤ l.length) (hc : ¬ c = j) (ho : o' = o + j * 6) (hn : n = l.length) :
    KidsAt w k (.slice (some ⟨g, o', none⟩) (n - j) (c - j)) (l.drop j) := by
  have := kids_drop h j hj
  rw [if_neg hc, ← ho, ← hn] at this
  exact this
theorem undrew {w w' : World} (h : Below w.drew.heap.size w.drew w') : Below w.heap.size w w' := ⟨h.os, h.tape, h.output, h.size, h.block⟩
theorem kids_dropIf {w : World} {k g o c n : Nat} {l : List Px.Node} (h : KidsAt w k (.slice (some ⟨g, o, none⟩) n c) l) (j o' : Nat) (hj : j ≤ l.length) (ho : o' = o + j * 6) (hn : n = l.length) :
    KidsAt w k (.slice (if c = j then some ⟨g, o, none⟩ else some ⟨g, o', none⟩) (n - j) (c - j)) (l.drop j) := by
  have := kids_drop h j hj
  subst ho; subst hn
  by_cases hc : c = j
  · rw [if_pos hc] at this ⊢; exact this
  · rw [if_neg hc] at this ⊢; exact this
theorem toldN_ok {α : Type} {w : World} {rep : World → Value → α → Prop} {r : Px.R α} {x : α} {e : Ending} {w' : World} (h : ToldN w rep r e w') (hr : r = .ok x) : ∃ v, e = .returned v ∧ New rep w w' v x ∧ Below w.heap.size w w' := by
  subst hr
  obtain ⟨hb, v, he, hn⟩ := h
  exact ⟨v, he, hn, hb⟩
theorem toldN_bad {α : Type} {w : World} {rep : World → Value → α → Prop} {r : Px.R α} {p : Nat} {e : Ending} {w' : World} (h : ToldN w rep r e w') (hr : r = .error p) : e = wrongAt p ∧ Below w.heap.size w w' := by
  subst hr
  exact ⟨h.2, h.1⟩
theorem word_eq (k : Nat) (n : Px.Node) (lv : Value) (w : World) (s : List UInt8) (hk : KidsAt w k lv n.list) (hs : Px.word n = s) :
    Calls Tryz.prog 48 #[nodeV n lv] w fun e w' => e = .returned (.string ⟨s.toArray⟩) ∧ Below w.heap.size w w' := by
  subst hs; exact word_any k n lv w hk
end Go.Proofs.YtnhndamfbeiljaaGreatDoor

namespace Go.Proofs.YtnhndamfbeiljaaGreatDoor
open Go Go.RowKit

theorem strAt_shape (w : World) (v : Value) (x : List UInt8) (h : StrAt w v x) : ShapeStr v := ⟨_, h, by simp [Value.oneCell']⟩

theorem name_part (n : Px.Node) (lv : Value) (w : World) : Calls Tryz.prog 92 #[nodeV n lv] w (ToldN w StrAt (Px.name n)) := by
  refine (name_any n lv w).mono fun e w' ⟨h1, h2⟩ => ⟨h1, ?_⟩
  revert h2
  cases Px.name n with
  | error p => exact fun h => h
  | ok s => exact fun ⟨v, h, hv⟩ => ⟨v, h, fun _ _ => hv⟩

theorem names_each {w : World} {k : Nat} {lv : Value} {l : List Px.Node} (hk : KidsAt w k lv l) (hl : l.length ≤ 1000) :
    Calls Tryz.prog 125 #[lv, .func (.func 92) #[] #[]] w (ToldN w (fun u => RowAt 1 (StrAt u) u) (Px.each Px.name l)) :=
  eachStr_any 92 (fun _ _ => by kernel_rfl) Px.name StrAt strAt_shape k lv l w hk hl (fun m _ _ kv' w1 _ _ _ => name_part m kv' w1)

theorem names_any (k : Nat) (n : Px.Node) (lv : Value) (A : Int) (a : Nat) (w : World) (hA : A = (a : Int)) (ha : a ≤ 8) (hk : KidsAt w k lv n.list) :
    Calls Tryz.prog 89 #[nodeV n lv, .int .i64 A] w (ToldN w (fun u => RowAt 1 (StrAt u) u) (Px.names n a)) := by
  have HK := Lib.hid hk; clear hk
  generalize hout : Px.names n a = out
  have HOUT := Lib.hid hout; clear hout
  subst hA
  go_enter Tryz.func89, Tryz.ntmps89
  unfold nodeV
  go_wp2_with fail
  have hal : Below w.heap.size w (w.alloc (.cells #[.int .i64 n.tok.kind, .int .i64 n.tok.pos, .string ⟨n.tok.text.toArray⟩, .int .i64 n.tok.int, lv, .int .i64 n.takes] 105)) := (Below.refl _ _).alloc (Nat.le_refl _) _
  cases hp : Px.nodes n a 8 with
  | error p =>
    refine (nodes_badI k n lv a 8 a 8 _ rfl rfl (HK.out.below hal) (by omega) (by omega) p hp).mono ?_
    rintro e w1 ⟨rfl, hb⟩
    have ho : out = .error p := by rw [← HOUT.out, Px.names, hp]
    subst ho
    exact ⟨rfl, below_box hb, rfl⟩
  | ok l =>
    obtain ⟨hle, _, h8, _⟩ := nodes_is hp
    have hll : n.list.length ≤ 1000 := by rw [← hle]; omega
    have HP := Lib.hid hp; have HLE := Lib.hid hle
    clear hp hle
    refine (nodes_okI k n lv a 8 a 8 _ rfl rfl (HK.out.below hal) (by omega) (by omega) l HP.out).mono ?_
    rintro e w1 ⟨rfl, hb⟩
    have HB := Lib.hid (below_box hb)
    clear hb hal
    go_wp2_with fail
    refine (names_each (HK.out.below HB.out) hll).mono ?_
    intro e w2 ht
    cases hr : Px.each Px.name n.list with
    | error p =>
      obtain ⟨rfl, hb⟩ := toldN_bad ht hr
      have ho : out = .error p := by rw [← HOUT.out, Px.names, HP.out]; dsimp only; rw [HLE.out, hr]
      subst ho
      exact ⟨rfl, HB.out.trans (hb.mono HB.out.size), rfl⟩
    | ok xs =>
      obtain ⟨av, rfl, hnew, hb⟩ := toldN_ok ht hr
      have ho : out = .ok xs := by rw [← HOUT.out, Px.names, HP.out]; dsimp only; rw [HLE.out, hr]
      subst ho
      have Hnew := Lib.hid hnew
      have HB2 := Lib.hid (HB.out.trans (hb.mono HB.out.size))
      have hs := HB.out.size
      clear hnew ht hb hr
      go_wp2
      go_ret
      exact ⟨HB2.out, _, rfl, Hnew.out.stay hs (Stay.refl _ _)⟩
end Go.Proofs.YtnhndamfbeiljaaGreatDoor

namespace Go.Proofs.YtnhndamfbeiljaaGreatDoor
open Go Go.RowKit

/-- The slice of an owned list of tokens that is not empty, cell by cell. -/
theorem own_toksP {w : World} {base : Nat} {v : Value} {ts : List Lx.Tok} (h : w.ownsRow base 102 4 v ts.length (toksCells ts)) (hne : ts ≠ []) :
    ∃ g cap, v = .slice (some ⟨g, 0, none⟩) ts.length cap ∧ base ≤ g ∧ g < w.heap.size ∧ ts.length ≤ cap ∧ (cap : Int) ≤ 9223372036854775807 ∧
      ∀ i t, ts[i]? = some t → w.cell? ⟨g, i * 4, none⟩ = some (.int .i64 t.kind) ∧ w.cell? ⟨g, i * 4 + 1, none⟩ = some (.int .i64 t.pos) ∧ w.cell? ⟨g, i * 4 + 2, none⟩ = some (.string ⟨t.text.toArray⟩) ∧ w.cell? ⟨g, i * 4 + 3, none⟩ = some (.int .i64 t.int) := by
  obtain ⟨hlen, h0 | ⟨g, cap, cur, rfl, hb, hh, hn, hm, hsz, htk⟩⟩ := h
  · exact absurd (List.eq_nil_of_length_eq_zero h0.2) hne
  · refine ⟨g, cap, rfl, hb, ?_, hn, by unfold maxLen at hm; omega, ?_⟩
    · rcases Nat.lt_or_ge g w.heap.size with h' | h'
      · exact h'
      · rw [Array.getElem?_eq_none h'] at hh; exact absurd hh (by simp)
    · have key : ∀ k u, (toksCells ts)[k]? = some u → w.cell? ⟨g, k, none⟩ = some u := by
        intro k u hk
        have := World.ownsRow.cells (w := w) (base := base) (e := 102) (size := 4) (v := .slice (some ⟨g, 0, none⟩) ts.length cap) (n := ts.length) (xs := toksCells ts) ⟨hlen, .inr ⟨g, cap, cur, rfl, hb, hh, hn, hm, hsz, htk⟩⟩ (g := g) rfl k u hk
        have e : (⟨g, 0, none⟩ : Addr).add k = ⟨g, k, none⟩ := by unfold Addr.add; split <;> simp_all
        rwa [e] at this
      have part : ∀ (ts : List Lx.Tok) i t, ts[i]? = some t → ∀ j, j < 4 → (toksCells ts)[i * 4 + j]? = (tokCells t)[j]? := by
        intro ts
        induction ts with
        | nil => intro i t h; simp at h
        | cons a r ih =>
          intro i t h j hj
          have e : toksCells (a :: r) = tokCells a ++ toksCells r := by simp [toksCells]
          have hl : (tokCells a).length = 4 := rfl
          cases i with
          | zero =>
            simp at h; subst h
            rw [e, List.getElem?_append_left (by omega)]; simp
          | succ i =>
            simp at h
            rw [e, List.getElem?_append_right (by omega), hl]
            have := ih i t h j hj
            rw [← this]; congr 1; omega
      intro i t h
      refine ⟨?_, ?_, ?_, ?_⟩
      · exact key _ _ (by have := part ts i t h 0 (by omega); simpa [tokCells] using this)
      · exact key _ _ (by have := part ts i t h 1 (by omega); simpa [tokCells] using this)
      · exact key _ _ (by have := part ts i t h 2 (by omega); simpa [tokCells] using this)
      · exact key _ _ (by have := part ts i t h 3 (by omega); simpa [tokCells] using this)

theorem reader_new (w : World) (p : Option Addr) (c : Nat) (ts : List Lx.Tok) (stop B base : Nat) (hown : w.ownsRow base 102 4 (.slice p ts.length c) ts.length (toksCells ts)) (hB : w.heap[B]? = some (.map primsEs 12)) (hs : ts.length ≤ 4096) (hst : stop ≤ 4096) :
    Reader (w.alloc (.cells #[.slice p ts.length c, .int .i64 0, .int .i64 stop, .map (some B)] 100)) w.heap.size (.slice p ts.length c) ts 0 stop B := by
  refine ⟨heap_alloc_new w _, Nat.zero_le _, hs, hst, (Below.heap_alloc w _ B (Array.getElem?_eq_some_iff.1 hB).1).trans hB, p, c, rfl, fun k t hk => ?_⟩
  obtain ⟨g, cap, he, _, hg, _, _, hc⟩ := own_toksP hown (by intro e; rw [e] at hk; simp at hk)
  injection he with he1
  obtain ⟨c0, c1, c2, c3⟩ := hc k t hk
  have e : ∀ o, (w.alloc (.cells #[.slice p ts.length c, .int .i64 0, .int .i64 stop, .map (some B)] 100)).cell? ⟨g, o, none⟩ = w.cell? ⟨g, o, none⟩ := fun o => World.cell?_of_block (w := w) (a := ⟨g, o, none⟩) (Below.heap_alloc w _ g hg)
  exact ⟨g, he1, by omega, by simp; omega, by rw [e]; exact c0, by rw [e]; exact c1, by rw [e]; exact c2, by rw [e]; exact c3⟩
end Go.Proofs.YtnhndamfbeiljaaGreatDoor
