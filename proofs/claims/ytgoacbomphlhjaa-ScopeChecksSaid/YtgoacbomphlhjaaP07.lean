/-
  The document's answers, layer 2: types.
-/
import Derived.Test.YtgoacbomphlhjaaP00
import Derived.Test.YtgoacbomphlhjaaP06
import Derived.Deep.DeepCutAuto
set_option linter.unusedVariables false
set_option linter.unusedSimpArgs false
namespace Go.Proofs.Ytgoacbomphlhjaa
open Go.Lib (hid)
open List renaming getElem_toArray → jX, getElem_cons_succ → jY, getElem_cons_zero → jZ, setIfInBounds_toArray → JA, set_cons_zero → JB, set_cons_succ → JC
open Go Go.RowKit
theorem ent3 (w : World) (a b c : Array Value) (TA TB TC : TypeId) :
 (((w.alloc (.cells a TA)).alloc (.cells b TB)).alloc (.cells c TC)).heap[w.heap.size]? = some (.cells a TA (0, 0)) ∧ (((w.alloc (.cells a TA)).alloc (.cells b TB)).alloc (.cells c TC)).heap[w.heap.size + 1]? = some (.cells b TB (0, 0)) ∧
   (((w.alloc (.cells a TA)).alloc (.cells b TB)).alloc (.cells c TC)).heap[w.heap.size + 2]? = some (.cells c TC (0, 0)) ∧ Below w.heap.size w (((w.alloc (.cells a TA)).alloc (.cells b TB)).alloc (.cells c TC)) ∧ (((w.alloc (.cells a TA)).alloc (.cells b TB)).alloc (.cells c TC)).heap.size = w.heap.size + 3 := by
 refine ⟨jH (jH (jI w a TA) _) _, ?_, ?_, (((Below.refl _ w).alloc (Nat.le_refl _) _).alloc (by simp) _).alloc (by simp; omega) _, by simp⟩
 · have := jH (jI (w.alloc (.cells a TA)) b TB) (.cells c TC)
   rw [World.size_alloc] at this; exact this
 · have := jI ((w.alloc (.cells a TA)).alloc (.cells b TB)) c TC
   rw [World.size_alloc, World.size_alloc] at this; exact this
def ShTypeE (v : Value) : Prop := ∃ (p : Int) (s : ByteArray) (q : Option Addr) (n c : Nat), v = .agg #[.int .i64 p, .string s, .slice q n c]
set_option maxHeartbeats 4000000 in
set_option maxRecDepth 100000 in
theorem typ_leaf (f : Nat) (n : Px.Node) (lv : Value) (w : World) (hg : Px.NodeGood n) (hl : Px.jS n = false) : Calls Try.prog 42 #[nV n lv] w (RTold w (TypeAt (f + 1)) ShTypeE (Px.typeE (f + 1) n)) := by
 have HG := hid hg
 have hp : Px.typeE (f + 1) n = if (Px.isConB n || Px.isNameB n) = true then .ok (.mk n.pos n.text []) else .error n.pos := by rw [Px.typeE]; unfold Px.nodes; rw [hl]; rfl
 have htk : (!Px.jS n && n.tok.kind == 4) = Px.isConB n := by rw [hl]; rfl
 have HTOK := hid (fun w => by have := token_any n lv 4 w; rw [htk] at this; exact this)
 have HNAME := hid (fun w => name_any n lv w hg)
 have HP := hid hp
 clear hp htk hg
 unfold nV at *
 rw [hl] at *
 clear hl
 go_enter Try.func42, Try.ntmps42
 obtain ⟨en, er, et, hb, hsz⟩ := ent3 w #[.int .i64 n.tok.kind, .int .i64 n.tok.pos, .string ⟨n.tok.text.toArray⟩, .int .i64 n.tok.int, .bool false, lv] #[.int .i64 0, .string ⟨#[]⟩, .slice none 0 0] #[.int .i64 n.tok.pos, .string ⟨n.tok.text.toArray⟩, .slice none 0 0] 73 112 112
 have EN := hid en; have ER := hid er; have ET := hid et; have HB := hid hb
 clear en er et hb
 go_wp2_with fail
 have hsz2 := hsz
 refine (HTOK.out _).mono ?_
 rintro e w1 ⟨rfl, hb⟩
 replace hsz := Nat.le_trans (Nat.le_of_eq hsz.symm) hb.size
 replace EN := hid (jC EN.out hb)
 replace ER := hid (jC ER.out hb)
 replace ET := hid (jC ET.out hb)
 replace HB := hid (HB.out.trans (hb.mono HB.out.size))
 clear hb
 generalize hcb : Px.isConB n = b at *
 cases b with
 | true =>
   have erc0 := jA ER.out 0 _ rfl
   have erc1 := jA ER.out 1 _ rfl
   have erc2 := jA ER.out 2 _ rfl
   have erf := jD ER.out
   have etc0 := jA ET.out 0 _ rfl
   have etc1 := jA ET.out 1 _ rfl
   have etc2 := jA ET.out 2 _ rfl
   have etf := jD ET.out
   go_wp2_with fail
   replace EN := hid (jB (jB (jB (EN.out) (w.heap.size + 1) 0 (.int .i64 n.tok.pos) (by omega)) (w.heap.size + 1) 1 (.string ⟨n.tok.text.toArray⟩) (by omega)) (w.heap.size + 1) 2 (.slice none 0 0) (by omega))
   replace ER := hid (ent_set3 (ER.out) (.int .i64 n.tok.pos) (.string ⟨n.tok.text.toArray⟩) (.slice none 0 0))
   replace ET := hid (jB (jB (jB (ET.out) (w.heap.size + 1) 0 (.int .i64 n.tok.pos) (by omega)) (w.heap.size + 1) 1 (.string ⟨n.tok.text.toArray⟩) (by omega)) (w.heap.size + 1) 2 (.slice none 0 0) (by omega))
   replace HB := hid (Below.setCell (Below.setCell (Below.setCell (HB.out) (p := ⟨w.heap.size + 1, 0, none⟩) (by dsimp only; omega) (.int .i64 n.tok.pos)) (p := ⟨w.heap.size + 1, 1, none⟩) (by dsimp only; omega) (.string ⟨n.tok.text.toArray⟩)) (p := ⟨w.heap.size + 1, 2, none⟩) (by dsimp only; omega) (.slice none 0 0))
   have r0 := jA ER.out 0 _ rfl
   have r1 := jA ER.out 1 _ rfl
   have r2 := jA ER.out 2 _ rfl
   refine bodyPost_ret (v := .tuple #[.agg #[.int .i64 n.tok.pos, .string ⟨n.tok.text.toArray⟩, .slice none 0 0], .int .i64 (-1)]) (by simp [results, Try.results42, go_sem, r0, r1, r2]) rfl ?_
   exact jO (x := Px.TypeE.mk n.pos n.text []) (by rw [HP.out]; rfl) HB.out ⟨_, _, _, _, _, rfl⟩ (fun u hu => ⟨_, rfl, .inl ⟨rfl, none, 0, rfl⟩⟩)
 | false =>
   have enc0 := jA EN.out 0 _ rfl
   have enc1 := jA EN.out 1 _ rfl
   have enc2 := jA EN.out 2 _ rfl
   have enc3 := jA EN.out 3 _ rfl
   have enc4 := jA EN.out 4 _ rfl
   have enc5 := jA EN.out 5 _ rfl
   have enf := jD EN.out
   go_wp2_with fail
   clear enc0 enc1 enc2 enc3 enc4 enc5 enf
   refine (HNAME.out _).mono ?_
   intro e w2 ht
   have hnm : Px.name n = if Px.isNameB n = true then .ok n.text else .error n.pos := rfl
   by_cases hin : Px.isNameB n = true
   · rw [if_pos hin] at hnm
     obtain ⟨z, rfl, _, hnew, hb⟩ := rtold_ok ht hnm
     obtain rfl := hnew.now
     replace hsz := Nat.le_trans hsz hb.size
     replace EN := hid (jC EN.out hb)
     replace ER := hid (jC ER.out hb)
     replace ET := hid (jC ET.out hb)
     replace HB := hid (HB.out.trans (hb.mono HB.out.size))
     clear hb hnew ht hnm
     have HIN := hid hin; clear hin
     have erc0 := jA ER.out 0 _ rfl
     have erc1 := jA ER.out 1 _ rfl
     have erc2 := jA ER.out 2 _ rfl
     have erf := jD ER.out
     have etc0 := jA ET.out 0 _ rfl
     have etc1 := jA ET.out 1 _ rfl
     have etc2 := jA ET.out 2 _ rfl
     have etf := jD ET.out
     go_wp2_with fail
     replace EN := hid (jB (jB (jB (EN.out) (w.heap.size + 1) 0 (.int .i64 n.tok.pos) (by omega)) (w.heap.size + 1) 1 (.string ⟨n.tok.text.toArray⟩) (by omega)) (w.heap.size + 1) 2 (.slice none 0 0) (by omega))
     replace ER := hid (ent_set3 (ER.out) (.int .i64 n.tok.pos) (.string ⟨n.tok.text.toArray⟩) (.slice none 0 0))
     replace ET := hid (jB (jB (jB (ET.out) (w.heap.size + 1) 0 (.int .i64 n.tok.pos) (by omega)) (w.heap.size + 1) 1 (.string ⟨n.tok.text.toArray⟩) (by omega)) (w.heap.size + 1) 2 (.slice none 0 0) (by omega))
     replace HB := hid (Below.setCell (Below.setCell (Below.setCell (HB.out) (p := ⟨w.heap.size + 1, 0, none⟩) (by dsimp only; omega) (.int .i64 n.tok.pos)) (p := ⟨w.heap.size + 1, 1, none⟩) (by dsimp only; omega) (.string ⟨n.tok.text.toArray⟩)) (p := ⟨w.heap.size + 1, 2, none⟩) (by dsimp only; omega) (.slice none 0 0))
     have r0 := jA ER.out 0 _ rfl
     have r1 := jA ER.out 1 _ rfl
     have r2 := jA ER.out 2 _ rfl
     refine bodyPost_ret (v := .tuple #[.agg #[.int .i64 n.tok.pos, .string ⟨n.tok.text.toArray⟩, .slice none 0 0], .int .i64 (-1)]) (by simp [results, Try.results42, go_sem, r0, r1, r2]) rfl ?_
     exact jO (x := Px.TypeE.mk n.pos n.text []) (by rw [HP.out, HIN.out]; rfl) HB.out ⟨_, _, _, _, _, rfl⟩ (fun u hu => ⟨_, rfl, .inl ⟨rfl, none, 0, rfl⟩⟩)
   · rw [if_neg hin] at hnm
     obtain ⟨z, rfl, ⟨sz, rfl⟩, hb⟩ := jN ht hnm
     replace hsz := Nat.le_trans hsz hb.size
     replace EN := hid (jC EN.out hb)
     replace ER := hid (jC ER.out hb)
     replace ET := hid (jC ET.out hb)
     replace HB := hid (HB.out.trans (hb.mono HB.out.size))
     clear hb ht hnm
     have HIN := hid hin; clear hin
     have erc0 := jA ER.out 0 _ rfl
     have erc1 := jA ER.out 1 _ rfl
     have erc2 := jA ER.out 2 _ rfl
     have erf := jD ER.out
     have etc0 := jA ET.out 0 _ rfl
     have etc1 := jA ET.out 1 _ rfl
     have etc2 := jA ET.out 2 _ rfl
     have etf := jD ET.out
     go_wp2_with fail
     replace EN := hid (jB (jB (jB (EN.out) (w.heap.size + 1) 0 (.int .i64 n.tok.pos) (by omega)) (w.heap.size + 1) 1 (.string ⟨n.tok.text.toArray⟩) (by omega)) (w.heap.size + 1) 2 (.slice none 0 0) (by omega))
     replace ER := hid (ent_set3 (ER.out) (.int .i64 n.tok.pos) (.string ⟨n.tok.text.toArray⟩) (.slice none 0 0))
     replace ET := hid (jB (jB (jB (ET.out) (w.heap.size + 1) 0 (.int .i64 n.tok.pos) (by omega)) (w.heap.size + 1) 1 (.string ⟨n.tok.text.toArray⟩) (by omega)) (w.heap.size + 1) 2 (.slice none 0 0) (by omega))
     replace HB := hid (Below.setCell (Below.setCell (Below.setCell (HB.out) (p := ⟨w.heap.size + 1, 0, none⟩) (by dsimp only; omega) (.int .i64 n.tok.pos)) (p := ⟨w.heap.size + 1, 1, none⟩) (by dsimp only; omega) (.string ⟨n.tok.text.toArray⟩)) (p := ⟨w.heap.size + 1, 2, none⟩) (by dsimp only; omega) (.slice none 0 0))
     have r0 := jA ER.out 0 _ rfl
     have r1 := jA ER.out 1 _ rfl
     have r2 := jA ER.out 2 _ rfl
     refine bodyPost_ret (v := .tuple #[.agg #[.int .i64 n.tok.pos, .string ⟨n.tok.text.toArray⟩, .slice none 0 0], .int .i64 n.pos]) (by simp [results, Try.results42, go_sem, r0, r1, r2]) rfl ?_
     exact jL (by rw [HP.out, if_neg (by simpa using HIN.out)]) HB.out ⟨_, _, _, _, _, rfl⟩
theorem row_new {α : Type} {sz base E n : Nat} {rep : World → Value → α → Prop} {w : World} {v : Value} {vs : List Value} {xs : List α} (h : w.ownsRow base E sz v n (cellsOf vs)) (hn : n = xs.length)
 (hr : Reps (Kept rep base w v.ownBlock) vs xs) (hs : ∀ v ∈ vs, v.cells.size = sz) (u : World) (hu : ∀ b, base ≤ b → b < w.heap.size → u.heap[b]? = w.heap[b]?) : RowAt sz (rep u) u v xs := by
 subst hn
 rcases h.2 with ⟨rfl, hn⟩ | ⟨g, cap, cur, rfl, hb, hg, hc1, hc2, hc3, hc4⟩
 · exact .inl ⟨List.eq_nil_of_length_eq_zero hn, none, 0, rfl⟩
 · refine .inr ⟨g, 0, cap, rfl, hc1, by unfold maxLen at hc2; omega, fun i x hx => ?_⟩
   obtain ⟨y, hy, lo, hi, h0, h1, _, h3⟩ := hr.at hx
   refine ⟨y, h3 u fun b hb1 hb2 => hu b (by omega) (by omega), hs y (List.mem_of_getElem? hy), fun j z hz => ?_⟩
   have hcell := World.ownsRow.cells h (g := g) rfl (i * sz + j) z (cellsOf_at sz hs hy hz)
   have e : (⟨g, 0, none⟩ : Addr).add (i * sz + j) = ⟨g, 0 + i * sz + j, none⟩ := by unfold Addr.add; split <;> simp_all
   rw [e] at hcell
   have hlt : g < w.heap.size := (Array.getElem?_eq_some_iff.1 hg).1
   rw [World.cell?_of_block (w := w) (hu g hb hlt)]; exact hcell
theorem new_kept {α : Type} {rep : World → Value → α → Prop} {base : Nat} {w w' : World} {ob : Option Nat} {v : Value} {x : α} (h : New rep w w' v x) (hb : base ≤ w.heap.size) (hs : w.heap.size ≤ w'.heap.size) (ho : ∀ g, ob = some g → g < w.heap.size) : Kept rep base w' ob v x :=
 ⟨w.heap.size, w'.heap.size, hb, Nat.le_refl _, fun g hg => .inl (ho g hg), h⟩
theorem kept_set {α : Type} {rep : World → Value → α → Prop} {base : Nat} {w : World} {ob : Option Nat} {v z : Value} {x : α} {b j : Nat} (h : Kept rep base w ob v x) (hb : b < base) : Kept rep base (w.setCell ⟨b, j, none⟩ z) ob v x :=
 h.since (by simp) (fun k hk _ _ => Below.heap_setCell w ⟨b, j, none⟩ z k (by dsimp only; omega)) (.inl rfl)
theorem own_set {w : World} {base e size n b j : Nat} {v z : Value} {xs : List Value} (h : w.ownsRow base e size v n xs) (hb : b < base) : (w.setCell ⟨b, j, none⟩ z).ownsRow base e size v n xs :=
 own_same h fun k hk => Below.heap_setCell w ⟨b, j, none⟩ z k (by have := (h.lt k hk).1; dsimp only; omega)
theorem infoTypeE : (Try.prog.info? 112).map (fun i => (i.zero, i.size, i.bytes)) = some (some (.agg #[.int .i64 0, .string ⟨#[]⟩, .slice none 0 0]), 3, 48) := by kernel_rfl
theorem shTypeE_size {v : Value} (h : ShTypeE v) : v.cells.size = 3 := by
 obtain ⟨p, s, q, n, c, rfl⟩ := h; rfl
theorem three_at (w : World) (a0 a1 a2 : Value) (T : TypeId) (j : Nat) (u : Value) (h : ([a0, a1, a2] : List Value)[j]? = some u) :
 (w.alloc (.cells #[a0, a1, a2] T)).cell? ((⟨w.heap.size, 0, none⟩ : Addr).add j) = some u := by
 have e : (⟨w.heap.size, 0, none⟩ : Addr).add j = ⟨w.heap.size, j, none⟩ := by unfold Addr.add; split <;> simp_all
 rw [e, World.cell?_alloc_mark]
 simpa using h
theorem cells3 (vs : List Value) (a0 a1 a2 : Value) : cellsOf (vs ++ [.agg #[a0, a1, a2]]) = cellsOf vs ++ [a0, a1, a2] := by
 simp [cellsOf, Value.cells]
theorem set3_other (w : World) (g k : Nat) (a b c : Value) (h : k ≠ g) : (((w.setCell ⟨g, 0, none⟩ a).setCell ⟨g, 1, none⟩ b).setCell ⟨g, 2, none⟩ c).heap[k]? = w.heap[k]? :=
 (Below.heap_setCell _ ⟨g, 2, none⟩ c k h).trans ((Below.heap_setCell _ ⟨g, 1, none⟩ b k h).trans (Below.heap_setCell _ ⟨g, 0, none⟩ a k h))
theorem word_arrow {n m : Px.Node} (h : Px.NodeGood n) (hm : n.list[0]? = some m) : ((!Px.jS m && m.tok.kind == 5) && m.tok.text == [45, 62]) = decide (Px.word n = [45, 62]) := by
 have hgm : Px.NodeGood m := h.kid (List.mem_of_getElem? hm)
 unfold Px.word
 cases hl : n.list with
 | nil => rw [hl] at hm; cases hm
 | cons m' r =>
   rw [hl] at hm
   obtain rfl : m' = m := by simpa using hm
   dsimp only
   by_cases hlt : Px.jS m' = true
   · simp [hlt]
   · have hlm : Px.jS m' = false := by simpa using hlt
     simp only [hlm, Bool.not_false, Bool.true_and, Bool.false_eq_true, if_false]
     by_cases ht : m'.tok.text = [45, 62]
     · have hk := Px.good_kind hgm hlm _ ht (by unfold Px.Plain; simp)
       have hk5 : m'.tok.kind = 5 := hk
       have ht2 : m'.text = [45, 62] := ht
       rw [hk5, ht, ht2]; simp
     · have h1 : (m'.tok.text == [45, 62]) = false := by rw [beq_eq_false_iff_ne]; exact ht
       have ht2 : ¬ m'.text = [45, 62] := ht
       rw [h1]; simp [ht2]
set_option maxHeartbeats 8000000 in
set_option maxRecDepth 100000 in
theorem typ_list (f k : Nat) (n : Px.Node) (v : Value) (w : World) (hn : NdAt (k + 1) w v n) (hg : Px.NodeGood n) (hl : Px.jS n = true) (ih : ∀ m ∈ n.list, ∀ v w1, NdAt k w1 v m → Calls Try.prog 42 #[v] w1 (RTold w1 (TypeAt f) ShTypeE (Px.typeE f m))) : Calls Try.prog 42 #[v] w (RTold w (TypeAt (f + 1)) ShTypeE (Px.typeE (f + 1) n)) := by
 have HN0 := hid hn
 have HIH := hid ih
 obtain ⟨lv, rfl, hr⟩ := hn
 obtain ⟨q, c, rfl⟩ := hr.len
 have HR := hid hr
 have HG := hid hg
 have hp0 : Px.typeE (f + 1) n = (match Px.nodes n 2 9 with
  | .error p => .error p
  | .ok l =>
    match (if Px.word n = [45, 62] then (match Px.hold n 3 3 with | .error p => .error p | .ok _ => .ok [45, 62]) else Px.conName (l.headD n)) with
    | .error p => .error p
    | .ok nm =>
      match Px.each (Px.typeE f) l.tail with
      | .error p => .error p
      | .ok xs => .ok (.mk n.pos nm xs)) := by
  have hk : n.tok.kind = 0 := by unfold Px.jS at hl; simpa using hl
  rw [Px.typeE]
  have h1 : (Px.isConB n || Px.isNameB n) = false := by unfold Px.isConB Px.isNameB; rw [hk]; simp
  rw [h1]; rfl
 have hz3 : ∀ p, sizeP n 3 3 = p → (p = -1 ∧ Px.hold n 3 3 = .ok ()) ∨ (∃ q : Nat, p = q ∧ Px.hold n 3 3 = .error q) := by
  intro p hp
  unfold sizeP Px.nodes at hp
  rw [if_pos hl] at hp
  cases hh : Px.hold n 3 3 with
  | ok u => rw [hh] at hp; exact .inl ⟨hp.symm, rfl⟩
  | error q => rw [hh] at hp; exact .inr ⟨q, hp.symm, rfl⟩
 have HP := hid hp0; have HZ3 := hid hz3
 have HS2 := hid (fun w1 (hb : Below w.heap.size w w1) => size_any (k + 1) n _ 2 9 w1 (HN0.out.below hb) (by omega) (by omega))
 have HS3 := hid (fun w1 (hb : Below w.heap.size w w1) => size_any (k + 1) n _ 3 3 w1 (HN0.out.below hb) (by omega) (by omega))
 clear hr hg hp0 hz3 ih
 unfold nV at *
 rw [hl] at *
 clear hl
 obtain ⟨i0, hi, hq0, hq1, hq2⟩ := info_parts infoTypeE
 have I0 := hid hi; have I00 := hid hq0; have I01 := hid hq1; have I02 := hid hq2
 clear hi hq0 hq1 hq2
 go_enter Try.func42, Try.ntmps42
 obtain ⟨en, er, et, hb, hsz⟩ := ent3 w #[.int .i64 n.tok.kind, .int .i64 n.tok.pos, .string ⟨n.tok.text.toArray⟩, .int .i64 n.tok.int, .bool true, (.slice q n.list.length c)] #[.int .i64 0, .string ⟨#[]⟩, .slice none 0 0] #[.int .i64 n.tok.pos, .string ⟨n.tok.text.toArray⟩, .slice none 0 0] 73 112 112
 have EN := hid en; have ER := hid er; have ET := hid et; have HB := hid hb
 replace hsz := Nat.le_of_eq hsz.symm
 clear en er et hb
 go_wp2_with fail
 refine (HS2.out _ HB.out).mono ?_
 rintro e w1 ⟨rfl, hb⟩
 replace hsz := Nat.le_trans hsz hb.size
 replace EN := hid (jC EN.out hb)
 replace ER := hid (jC ER.out hb)
 replace ET := hid (jC ET.out hb)
 replace HB := hid (HB.out.trans (hb.mono HB.out.size))
 clear hb
 unfold sizeP
 cases hnd : Px.nodes n 2 9 with
 | error p =>
   dsimp only
   have hge : (p : Int) ≥ 0 := by omega
   have HND := hid hnd; clear hnd
   have erc0 := jA ER.out 0 _ rfl
   have erc1 := jA ER.out 1 _ rfl
   have erc2 := jA ER.out 2 _ rfl
   have erf := jD ER.out
   have etc0 := jA ET.out 0 _ rfl
   have etc1 := jA ET.out 1 _ rfl
   have etc2 := jA ET.out 2 _ rfl
   have etf := jD ET.out
   go_wp2_with fail
   replace EN := hid (jB (jB (jB (EN.out) (w.heap.size + 1) 0 (.int .i64 n.tok.pos) (by omega)) (w.heap.size + 1) 1 (.string ⟨n.tok.text.toArray⟩) (by omega)) (w.heap.size + 1) 2 (.slice none 0 0) (by omega))
   replace ER := hid (ent_set3 (ER.out) (.int .i64 n.tok.pos) (.string ⟨n.tok.text.toArray⟩) (.slice none 0 0))
   replace ET := hid (jB (jB (jB (ET.out) (w.heap.size + 1) 0 (.int .i64 n.tok.pos) (by omega)) (w.heap.size + 1) 1 (.string ⟨n.tok.text.toArray⟩) (by omega)) (w.heap.size + 1) 2 (.slice none 0 0) (by omega))
   replace HB := hid (Below.setCell (Below.setCell (Below.setCell (HB.out) (p := ⟨w.heap.size + 1, 0, none⟩) (by dsimp only; omega) (.int .i64 n.tok.pos)) (p := ⟨w.heap.size + 1, 1, none⟩) (by dsimp only; omega) (.string ⟨n.tok.text.toArray⟩)) (p := ⟨w.heap.size + 1, 2, none⟩) (by dsimp only; omega) (.slice none 0 0))
   have r0 := jA ER.out 0 _ rfl
   have r1 := jA ER.out 1 _ rfl
   have r2 := jA ER.out 2 _ rfl
   refine bodyPost_ret (v := .tuple #[.agg #[.int .i64 n.tok.pos, .string ⟨n.tok.text.toArray⟩, .slice none 0 0], .int .i64 p]) (by simp [results, Try.results42, go_sem, r0, r1, r2]) rfl ?_
   exact jL (by rw [HP.out, HND.out]) HB.out ⟨_, _, _, _, _, rfl⟩
 | ok l =>
   dsimp only
   have hni := jW hnd
   have hll := hni.1
   have hlen2 := hni.2.1
   have hlen9 := hni.2.2.1
   clear hni
   subst hll
   obtain ⟨m, hm⟩ : ∃ m, n.list[0]? = some m := ⟨_, List.getElem?_eq_getElem (by omega)⟩
   have hhd : n.list.headD n = m := by
    cases hl : n.list with
    | nil => rw [hl] at hm; cases hm
    | cons a r => rw [hl] at hm; simpa using hm
   have hgm := HG.out.kid (List.mem_of_getElem? hm)
   have hwa := word_arrow HG.out hm
   replace HP := HP.out
   rw [hnd] at HP
   dsimp only at HP
   rw [hhd] at HP
   have HPP := hid HP
   rcases HR.out with ⟨h0, _⟩ | ⟨g, of, c', hv, g1, g2, g3⟩
   · rw [h0] at hlen2; simp at hlen2
   injection hv with hq1 _ hq2
   subst hq1; subst hq2
   obtain ⟨u, hu, _, hcell⟩ := g3 0 m hm
   obtain ⟨k1, kv, hk1, rfl, hkr, m0, m1, m2, m3, m4, m5⟩ := jR hu hcell
   simp only [Nat.zero_mul, Nat.add_zero] at m0 m1 m2 m3 m4 m5
   have HGM := hid hgm; have HWA := hid hwa; have HG3 := hid g3; have M2 := hid m2; have HMM := hid hm
   have M0 := hid m0; have M1 := hid m1; have M3 := hid m3; have M4 := hid m4; have M5 := hid m5
   have hz0 : (0 : Int) < (n.list.length : Int) := by omega
   clear hu hcell hkr HP hhd hgm hwa hnd m0 m1 m2 m3 m4 m5 g3 hm hlen2
   go_upto_region 10 with fail
   go_cut [53] (fun s wx => s = .bool ((!Px.jS m && m.tok.kind == 5) && m.tok.text == [45, 62]) ∧ Below w1.heap.size w1 wx)
   case first =>
    have n0 := jE HB.out M0.out
    have n1 := jE HB.out M1.out
    have n2 := jE HB.out M2.out
    have n3 := jE HB.out M3.out
    have n4 := jE HB.out M4.out
    have n5 := jE HB.out M5.out
    have enc0 := jA EN.out 0 _ rfl
    have enc1 := jA EN.out 1 _ rfl
    have enc2 := jA EN.out 2 _ rfl
    have enc3 := jA EN.out 3 _ rfl
    have enc4 := jA EN.out 4 _ rfl
    have enc5 := jA EN.out 5 _ rfl
    have enf := jD EN.out
    go_wp2_with fail
    clear enc0 enc1 enc2 enc3 enc4 enc5 enf
    clear n0 n1 n2 n3 n4 n5
    refine (token_any m kv 5 _).mono ?_
    rintro e w2 ⟨rfl, hb⟩
    have hb1 := hid hb
    replace hsz := Nat.le_trans hsz hb.size
    replace EN := hid (jC EN.out hb)
    replace ER := hid (jC ER.out hb)
    replace ET := hid (jC ET.out hb)
    replace HB := hid (HB.out.trans (hb.mono HB.out.size))
    clear hb
    have enc0 := jA EN.out 0 _ rfl
    have enc1 := jA EN.out 1 _ rfl
    have enc2 := jA EN.out 2 _ rfl
    have enc3 := jA EN.out 3 _ rfl
    have enc4 := jA EN.out 4 _ rfl
    have enc5 := jA EN.out 5 _ rfl
    have enf := jD EN.out
    have n2 := jE HB.out M2.out
    generalize (!Px.jS m && m.tok.kind == 5) = b5 at *
    cases b5 with
    | false =>
      go_wp2_with fail
      go_meet
      exact ⟨rfl, hb1.out⟩
    | true =>
      generalize m.tok.text = mt at *
      go_wp2_with fail
      go_meet
      exact ⟨rfl, hb1.out⟩
   case rest =>
   obtain ⟨rfl, hb⟩ := hcut
   replace hsz := Nat.le_trans hsz hb.size
   replace EN := hid (jC EN.out hb)
   replace ER := hid (jC ER.out hb)
   replace ET := hid (jC ET.out hb)
   replace HB := hid (HB.out.trans (hb.mono HB.out.size))
   clear hb
   rw [HWA.out]
   by_cases harr : Px.word n = [45, 62]
   · rw [decide_eq_true harr]
     have HPC := HPP.out
     rw [if_pos harr] at HPC
     have HPD := hid HPC
     clear HPC harr
     have enc0 := jA EN.out 0 _ rfl
     have enc1 := jA EN.out 1 _ rfl
     have enc2 := jA EN.out 2 _ rfl
     have enc3 := jA EN.out 3 _ rfl
     have enc4 := jA EN.out 4 _ rfl
     have enc5 := jA EN.out 5 _ rfl
     have enf := jD EN.out
     have etc0 := jA ET.out 0 _ rfl
     have etc1 := jA ET.out 1 _ rfl
     have etc2 := jA ET.out 2 _ rfl
     have etf := jD ET.out
     go_upto_region 12 with fail
     clear enc0 enc1 enc2 enc3 enc4 enc5 enf etc0 etc1 etc2 etf
     replace EN := hid (jB (EN.out) (w.heap.size + 2) 1 (.string ⟨#[45, 62]⟩) (by omega))
     replace ER := hid (jB (ER.out) (w.heap.size + 2) 1 (.string ⟨#[45, 62]⟩) (by omega))
     replace ET := hid (jG #[.int .i64 n.tok.pos, .string ⟨#[45, 62]⟩, .slice none 0 0] (ET.out) 1 (.string ⟨#[45, 62]⟩) rfl)
     replace HB := hid (Below.setCell (HB.out) (p := ⟨w.heap.size + 2, 1, none⟩) (by dsimp only; omega) (.string ⟨#[45, 62]⟩))
     replace hsz : w.heap.size + 3 ≤ (wc.setCell ⟨w.heap.size + 2, 1, none⟩ (.string ⟨#[45, 62]⟩)).heap.size := by simpa using hsz
     generalize wc.setCell ⟨w.heap.size + 2, 1, none⟩ (.string ⟨#[45, 62]⟩) = wy at *
     have enc0 := jA EN.out 0 _ rfl
     have enc1 := jA EN.out 1 _ rfl
     have enc2 := jA EN.out 2 _ rfl
     have enc3 := jA EN.out 3 _ rfl
     have enc4 := jA EN.out 4 _ rfl
     have enc5 := jA EN.out 5 _ rfl
     have enf := jD EN.out
     go_wp2_with fail
     clear enc0 enc1 enc2 enc3 enc4 enc5 enf
     refine (HS3.out _ HB.out).mono ?_
     rintro e wz ⟨rfl, hb⟩
     replace hsz := Nat.le_trans hsz hb.size
     replace EN := hid (jC EN.out hb)
     replace ER := hid (jC ER.out hb)
     replace ET := hid (jC ET.out hb)
     replace HB := hid (HB.out.trans (hb.mono HB.out.size))
     clear hb
     rcases HZ3.out _ rfl with ⟨hz, hh⟩ | ⟨p, hz, hh⟩
     · rw [hz]
       have HPE := HPD.out
       rw [hh] at HPE
       dsimp only at HPE
       have HPF := hid HPE
       clear hz hh HPE
       go_wp2_with fail
       have hOWN : Hid (wz.ownsRow (w.heap.size + 3) 112 3 (.slice none 0 0) ([] : List Value).length (cellsOf [])) := hid (World.ownsRow_nil _ _ _ _)
       go_loopw [3, 11, 12, 13] (fun _ i _ _ wr => ∃ (j : Nat) (vs : List Value) (xs : List Px.TypeE) (av : Value), i = .int .i64 (j + 1 : Nat) ∧ j + 1 ≤ n.list.length ∧ Hid (Px.each (Px.typeE f) (n.list.tail.take j) = .ok xs) ∧ Hid (vs.length = j) ∧ Hid (Reps (Kept (TypeAt f) (w.heap.size + 3) wr av.ownBlock) vs xs ∧ ∀ u ∈ vs, ShTypeE u) ∧ Hid (wr.ownsRow (w.heap.size + 3) 112 3 av vs.length (cellsOf vs)) ∧ w.heap.size + 3 ≤ wr.heap.size ∧ Hid (wr.heap[w.heap.size]? = some (.cells #[.int .i64 n.tok.kind, .int .i64 n.tok.pos, .string ⟨n.tok.text.toArray⟩, .int .i64 n.tok.int, .bool true, .slice (some ⟨g, of, none⟩) n.list.length c] 73 (0, 0))) ∧ Hid (wr.heap[w.heap.size + 1]? = some (.cells #[.int .i64 0, .string ⟨#[]⟩, .slice none 0 0] 112 (0, 0))) ∧ Hid (wr.heap[w.heap.size + 2]? = some (.cells #[.int .i64 n.tok.pos, .string ⟨#[45, 62]⟩, av] 112 (0, 0))) ∧ Hid (Below w.heap.size w wr)) (fun _ i _ _ _ => n.list.length - (intOf i).toNat)
       case atStart => exact ⟨0, [], [], .slice none 0 0, rfl, by omega, hid (by simp [Px.each]), hid rfl, hid ⟨trivial, fun _ h => by cases h⟩, hOWN, hsz, EN, ER, ET, HB⟩
       case round =>
        clear EN ER ET HB hsz hOWN
        obtain ⟨j, vs, xs, av, rfl, hj, HE, HVL, HRV, HO, hsz, EN, ER, ET, HB⟩ := hrel
        have enc0 := jA EN.out 0 _ rfl
        have enc1 := jA EN.out 1 _ rfl
        have enc2 := jA EN.out 2 _ rfl
        have enc3 := jA EN.out 3 _ rfl
        have enc4 := jA EN.out 4 _ rfl
        have enc5 := jA EN.out 5 _ rfl
        have enf := jD EN.out
        by_cases hlt : j + 1 < n.list.length
        · obtain ⟨mj, hmj⟩ : ∃ mj, n.list[j + 1]? = some mj := ⟨_, List.getElem?_eq_getElem hlt⟩
          have htl : n.list.tail[j]? = some mj := by rw [List.getElem?_tail]; exact hmj
          have hstep := Px.each_take htl HE.out
          obtain ⟨u, hu, _, hcell⟩ := HG3.out (j + 1) mj hmj
          have HU := hid (hu.below HB.out)
          have hih := HIH.out mj (List.mem_of_getElem? hmj)
          obtain ⟨k2, kv2, hk2, rfl, hkr, m0, m1, m2, m3, m4, m5⟩ := jR hu hcell
          have n0 := jE HB.out m0
          have n1 := jE HB.out m1
          have n2 := jE HB.out m2
          have n3 := jE HB.out m3
          have n4 := jE HB.out m4
          have n5 := jE HB.out m5
          have HIHM := hid hih; have HST := hid hstep
          clear hu hcell hkr m0 m1 m2 m3 m4 m5 hih hstep htl hmj
          have hav := jF HO.out
          obtain ⟨pa, ca, rfl⟩ := hav
          go_wp2_with fail
          clear enc0 enc1 enc2 enc3 enc4 enc5 enf
          clear n0 n1 n2 n3 n4 n5
          refine (HIHM.out _ _ HU.out).mono ?_
          intro e w5 ht
          cases htm : Px.typeE f mj with
          | error p =>
            obtain ⟨z, rfl, ⟨zp, zs, zq, zn, zc, rfl⟩, hb⟩ := jN ht htm
            have hge : (p : Int) ≥ 0 := by omega
            have hbd := HST.out.2 p htm
            have HBD := hid hbd
            replace hsz := Nat.le_trans hsz hb.size
            replace EN := hid (jC EN.out hb)
            replace ER := hid (jC ER.out hb)
            replace ET := hid (jC ET.out hb)
            replace HB := hid (HB.out.trans (hb.mono HB.out.size))
            clear hb
            have HALL := hid hsz
            replace EN := hid (jH EN.out (.cells #[.int .i64 zp, .string zs, .slice zq zn zc] 112))
            replace ER := hid (jH ER.out (.cells #[.int .i64 zp, .string zs, .slice zq zn zc] 112))
            replace ET := hid (jH ET.out (.cells #[.int .i64 zp, .string zs, .slice zq zn zc] 112))
            replace HB := hid (HB.out.alloc HB.out.size (.cells #[.int .i64 zp, .string zs, .slice zq zn zc] 112))
            clear ht htm hbd
            have erc0 := jA ER.out 0 _ rfl
            have erc1 := jA ER.out 1 _ rfl
            have erc2 := jA ER.out 2 _ rfl
            have erf := jD ER.out
            have etc0 := jA ET.out 0 _ rfl
            have etc1 := jA ET.out 1 _ rfl
            have etc2 := jA ET.out 2 _ rfl
            have etf := jD ET.out
            go_wp2_with fail
            replace EN := hid (jB (jB (jB (EN.out) (w.heap.size + 1) 0 (.int .i64 n.tok.pos) (by omega)) (w.heap.size + 1) 1 (.string ⟨#[45, 62]⟩) (by omega)) (w.heap.size + 1) 2 (.slice pa vs.length ca) (by omega))
            replace ER := hid (ent_set3 (ER.out) (.int .i64 n.tok.pos) (.string ⟨#[45, 62]⟩) (.slice pa vs.length ca))
            replace ET := hid (jB (jB (jB (ET.out) (w.heap.size + 1) 0 (.int .i64 n.tok.pos) (by omega)) (w.heap.size + 1) 1 (.string ⟨#[45, 62]⟩) (by omega)) (w.heap.size + 1) 2 (.slice pa vs.length ca) (by omega))
            replace HB := hid (Below.setCell (Below.setCell (Below.setCell (HB.out) (p := ⟨w.heap.size + 1, 0, none⟩) (by dsimp only; omega) (.int .i64 n.tok.pos)) (p := ⟨w.heap.size + 1, 1, none⟩) (by dsimp only; omega) (.string ⟨#[45, 62]⟩)) (p := ⟨w.heap.size + 1, 2, none⟩) (by dsimp only; omega) (.slice pa vs.length ca))
            have r0 := jA ER.out 0 _ rfl
            have r1 := jA ER.out 1 _ rfl
            have r2 := jA ER.out 2 _ rfl
            refine bodyPost_ret (v := .tuple #[.agg #[.int .i64 n.tok.pos, .string ⟨#[45, 62]⟩, .slice pa vs.length ca], .int .i64 p]) (by simp [results, Try.results42, go_sem, r0, r1, r2]) rfl ?_
            exact jL (by rw [HPF.out, HBD.out]) HB.out ⟨_, _, _, _, _, rfl⟩
          | ok x =>
            obtain ⟨z, rfl, hsh, hnew, hb⟩ := rtold_ok ht htm
            have hgd := HST.out.1 x htm
            have HGD := hid hgd
            have hk1 := new_kept (base := w.heap.size + 3) (ob := (Value.slice pa vs.length ca).ownBlock) hnew hsz hb.size (fun g hg => (HO.out.lt g hg).2)
            have HK1 := hid hk1; have HO2 := hid (jJ HO.out hb); have HRV2 := hid (And.intro (HRV.out.1.mono fun z y h => h.below hb) HRV.out.2)
            have HSH := hid hsh
            obtain ⟨zp, zs, zq, zn, zc, rfl⟩ := hsh
            replace hsz := Nat.le_trans hsz hb.size
            replace EN := hid (jC EN.out hb)
            replace ER := hid (jC ER.out hb)
            replace ET := hid (jC ET.out hb)
            replace HB := hid (HB.out.trans (hb.mono HB.out.size))
            clear hb
            clear ht htm hgd hk1 hnew
            replace EN := hid (jH EN.out (.cells #[.int .i64 zp, .string zs, .slice zq zn zc] 112))
            replace ER := hid (jH ER.out (.cells #[.int .i64 zp, .string zs, .slice zq zn zc] 112))
            replace ET := hid (jH ET.out (.cells #[.int .i64 zp, .string zs, .slice zq zn zc] 112))
            replace HB := hid (HB.out.alloc HB.out.size (.cells #[.int .i64 zp, .string zs, .slice zq zn zc] 112))
            have hal : Below w5.heap.size w5 (w5.alloc (.cells #[.int .i64 zp, .string zs, .slice zq zn zc] 112)) := (Below.refl _ _).alloc (Nat.le_refl _) _
            replace HK1 := hid (HK1.out.below hal); replace HO2 := hid (jJ HO2.out hal); replace HRV2 := hid (And.intro (HRV2.out.1.mono fun z y h => h.below hal) HRV2.out.2)
            replace hsz := Nat.le_trans hsz hal.size
            have x0 : (w5.alloc (.cells #[.int .i64 zp, .string zs, .slice zq zn zc] 112)).cell? ⟨w5.heap.size, 0, none⟩ = some (.int .i64 zp) := by rw [World.cell?_alloc_mark]; rfl
            have x1 : (w5.alloc (.cells #[.int .i64 zp, .string zs, .slice zq zn zc] 112)).cell? ⟨w5.heap.size, 1, none⟩ = some (.string zs) := by rw [World.cell?_alloc_mark]; rfl
            have x2 : (w5.alloc (.cells #[.int .i64 zp, .string zs, .slice zq zn zc] 112)).cell? ⟨w5.heap.size, 2, none⟩ = some (.slice zq zn zc) := by rw [World.cell?_alloc_mark]; rfl
            clear hal
            have etc0 := jA ET.out 0 _ rfl
            have etc1 := jA ET.out 1 _ rfl
            have etc2 := jA ET.out 2 _ rfl
            have etf := jD ET.out
            go_upto_region 25 with fail
            clear etc0 etc1 etc2 etf
            generalize w5.alloc (.cells #[.int .i64 zp, .string zs, .slice zq zn zc] 112) = W5 at *
            have etc0 := jA ET.out 0 _ rfl
            have etc1 := jA ET.out 1 _ rfl
            have etc2 := jA ET.out 2 _ rfl
            have etf := jD ET.out
            go_wp2_with (at_builtin; refine wpList_append_loc _ rfl (.tmp 96) (.tmp 98) 45 rfl (w.heap.size + 3) 112 i0 (.agg #[.int .i64 0, .string ⟨#[]⟩, .slice none 0 0]) 3 48 Try.underlying45 I0.out I00.out I01.out I02.out rfl (by decide) _ vs.length _ rfl (HO2.out.alloc _) ⟨W5.heap.size, 0, none⟩ 1 1 [.int .i64 zp, .string zs, .slice zq zn zc] rfl (by decide) rfl ?c1 ?c2 ?c3 ?c4 ?c5 ?_)
            case c1 => exact fun j u h => three_at W5 _ _ _ _ j u h
            case c2 => intro u hu; simp only [List.mem_cons, List.not_mem_nil, or_false] at hu; rcases hu with rfl | rfl | rfl <;> rfl
            case c3 => have := HVL.out; unfold maxLen; omega
            case c4 => have := HVL.out; omega
            case c5 => simp; omega
            intro v6 w6 hown hgr hloc
            clear etc0 etc1 etc2 etf
            clear x0 x1 x2
            have hob : ∀ kk, (Value.slice pa vs.length ca).ownBlock = some kk → w.heap.size + 3 ≤ kk := fun kk hkk => (HO2.out.lt kk hkk).1
            replace EN := hid ((hgr.block (w.heap.size) (by have := jK EN.out; simp; omega) (fun e => by have := hob _ e.symm; omega)).trans (jH EN.out (.cells #[.int .i64 zp, .string zs, .slice zq zn zc] 112)))
            replace ER := hid ((hgr.block (w.heap.size + 1) (by have := jK ER.out; simp; omega) (fun e => by have := hob _ e.symm; omega)).trans (jH ER.out (.cells #[.int .i64 zp, .string zs, .slice zq zn zc] 112)))
            replace ET := hid ((hgr.block (w.heap.size + 2) (by have := jK ET.out; simp; omega) (fun e => by have := hob _ e.symm; omega)).trans (jH ET.out (.cells #[.int .i64 zp, .string zs, .slice zq zn zc] 112)))
            replace HB := hid ((HB.out.alloc HB.out.size (.cells #[.int .i64 zp, .string zs, .slice zq zn zc] 112)).grown hgr (by have := HB.out.size; simp; omega) (fun kk hkk => by have := hob kk hkk; omega))
            have hstep : ∀ z x, Kept (TypeAt f) (w.heap.size + 3) W5 (Value.slice pa vs.length ca).ownBlock z x → Kept (TypeAt f) (w.heap.size + 3) w6 v6.ownBlock z x := fun z x hk => (hk.below ((Below.refl _ _).alloc (Nat.le_refl _) (.cells #[.int .i64 zp, .string zs, .slice zq zn zc] 112))).step hgr.size (fun b hb1 hb2 => hgr.block b hb1 (fun e => hb2 e.symm)) (by rw [World.size_alloc]; exact hloc)
            have hreps : Reps (Kept (TypeAt f) (w.heap.size + 3) w6 v6.ownBlock) (vs ++ [.agg #[.int .i64 zp, .string zs, .slice zq zn zc]]) (xs ++ [x]) := Reps.snoc (hstep _ _ HK1.out) (HRV2.out.1.mono hstep)
            rw [← cells3] at hown
            have hs6 : w.heap.size + 3 ≤ w6.heap.size := by have := hgr.size; simp at this; omega
            obtain ⟨p6, c6, rfl⟩ := jF hown
            have HO6 := hid hown; have HR6 := hid hreps
            clear hown hgr hloc hob hstep hreps hsz
            have etc0 := jA ET.out 0 _ rfl
            have etc1 := jA ET.out 1 _ rfl
            have etc2 := jA ET.out 2 _ rfl
            have etf := jD ET.out
            go_wp2
            replace EN := hid (jB (EN.out) (w.heap.size + 2) 2 (.slice p6 (vs.length + 1) c6) (by omega))
            replace ER := hid (jB (ER.out) (w.heap.size + 2) 2 (.slice p6 (vs.length + 1) c6) (by omega))
            replace ET := hid (jG #[.int .i64 n.tok.pos, .string ⟨#[45, 62]⟩, .slice p6 (vs.length + 1) c6] (ET.out) 2 (.slice p6 (vs.length + 1) c6) rfl)
            replace HB := hid (Below.setCell (HB.out) (p := ⟨w.heap.size + 2, 2, none⟩) (by dsimp only; omega) (.slice p6 (vs.length + 1) c6))
            go_roundw
            case rel => exact ⟨j + 1, vs ++ [.agg #[.int .i64 zp, .string zs, .slice zq zn zc]], xs ++ [x], .slice p6 (vs.length + 1) c6, by go_num, by omega, HGD, hid (by have := HVL.out; simp [this]), hid ⟨HR6.out.mono fun z y h => kept_set h (by omega), fun u hu => (List.mem_append.1 hu).elim (fun h => HRV2.out.2 u h) (fun h => by rw [List.mem_singleton.1 h]; exact HSH.out)⟩, hid (by rw [List.length_append]; exact own_set HO6.out (by omega)), by simpa using hs6, EN, ER, ET, HB⟩
            case measure => simp [intOf]; omega
        · have hje : j = n.list.tail.length := by rw [List.length_tail]; omega
          have he := HE.out
          rw [hje, List.take_length] at he
          have HEE := hid he
          have HLX := hid (Reps.len HRV.out.1)
          obtain ⟨pa, ca, rfl⟩ := jF HO.out
          clear he hje
          clear enc0 enc1 enc2 enc3 enc4 enc5 enf
          have enc0 := jA EN.out 0 _ rfl
          have enc1 := jA EN.out 1 _ rfl
          have enc2 := jA EN.out 2 _ rfl
          have enc3 := jA EN.out 3 _ rfl
          have enc4 := jA EN.out 4 _ rfl
          have enc5 := jA EN.out 5 _ rfl
          have enf := jD EN.out
          have erc0 := jA ER.out 0 _ rfl
          have erc1 := jA ER.out 1 _ rfl
          have erc2 := jA ER.out 2 _ rfl
          have erf := jD ER.out
          have etc0 := jA ET.out 0 _ rfl
          have etc1 := jA ET.out 1 _ rfl
          have etc2 := jA ET.out 2 _ rfl
          have etf := jD ET.out
          go_wp2_with fail
          replace EN := hid (jB (jB (jB (EN.out) (w.heap.size + 1) 0 (.int .i64 n.tok.pos) (by omega)) (w.heap.size + 1) 1 (.string ⟨#[45, 62]⟩) (by omega)) (w.heap.size + 1) 2 (.slice pa vs.length ca) (by omega))
          replace ER := hid (ent_set3 (ER.out) (.int .i64 n.tok.pos) (.string ⟨#[45, 62]⟩) (.slice pa vs.length ca))
          replace ET := hid (jB (jB (jB (ET.out) (w.heap.size + 1) 0 (.int .i64 n.tok.pos) (by omega)) (w.heap.size + 1) 1 (.string ⟨#[45, 62]⟩) (by omega)) (w.heap.size + 1) 2 (.slice pa vs.length ca) (by omega))
          replace HB := hid (Below.setCell (Below.setCell (Below.setCell (HB.out) (p := ⟨w.heap.size + 1, 0, none⟩) (by dsimp only; omega) (.int .i64 n.tok.pos)) (p := ⟨w.heap.size + 1, 1, none⟩) (by dsimp only; omega) (.string ⟨#[45, 62]⟩)) (p := ⟨w.heap.size + 1, 2, none⟩) (by dsimp only; omega) (.slice pa vs.length ca))
          have r0 := jA ER.out 0 _ rfl
          have r1 := jA ER.out 1 _ rfl
          have r2 := jA ER.out 2 _ rfl
          refine bodyPost_ret (v := .tuple #[.agg #[.int .i64 n.tok.pos, .string ⟨#[45, 62]⟩, .slice pa vs.length ca], .int .i64 (-1)]) (by simp [results, Try.results42, go_sem, r0, r1, r2]) rfl ?_
          exact jO (x := Px.TypeE.mk n.pos ([45, 62]) xs) (by rw [HPF.out, HEE.out]) HB.out ⟨_, _, _, _, _, rfl⟩ (fun u hu => ⟨_, rfl, row_new HO.out HLX.out HRV.out.1 (fun v hv => shTypeE_size (HRV.out.2 v hv)) u (fun b h1 h2 => (hu b (by omega) (by simpa using h2)).trans (set3_other _ _ b _ _ _ (by omega)))⟩)
     · rw [hz]
       have hge : (p : Int) ≥ 0 := by omega
       have HHH := hid hh
       clear hz hh
       have erc0 := jA ER.out 0 _ rfl
       have erc1 := jA ER.out 1 _ rfl
       have erc2 := jA ER.out 2 _ rfl
       have erf := jD ER.out
       have etc0 := jA ET.out 0 _ rfl
       have etc1 := jA ET.out 1 _ rfl
       have etc2 := jA ET.out 2 _ rfl
       have etf := jD ET.out
       go_wp2_with fail
       replace EN := hid (jB (jB (jB (EN.out) (w.heap.size + 1) 0 (.int .i64 n.tok.pos) (by omega)) (w.heap.size + 1) 1 (.string ⟨#[45, 62]⟩) (by omega)) (w.heap.size + 1) 2 (.slice none 0 0) (by omega))
       replace ER := hid (ent_set3 (ER.out) (.int .i64 n.tok.pos) (.string ⟨#[45, 62]⟩) (.slice none 0 0))
       replace ET := hid (jB (jB (jB (ET.out) (w.heap.size + 1) 0 (.int .i64 n.tok.pos) (by omega)) (w.heap.size + 1) 1 (.string ⟨#[45, 62]⟩) (by omega)) (w.heap.size + 1) 2 (.slice none 0 0) (by omega))
       replace HB := hid (Below.setCell (Below.setCell (Below.setCell (HB.out) (p := ⟨w.heap.size + 1, 0, none⟩) (by dsimp only; omega) (.int .i64 n.tok.pos)) (p := ⟨w.heap.size + 1, 1, none⟩) (by dsimp only; omega) (.string ⟨#[45, 62]⟩)) (p := ⟨w.heap.size + 1, 2, none⟩) (by dsimp only; omega) (.slice none 0 0))
       have r0 := jA ER.out 0 _ rfl
       have r1 := jA ER.out 1 _ rfl
       have r2 := jA ER.out 2 _ rfl
       refine bodyPost_ret (v := .tuple #[.agg #[.int .i64 n.tok.pos, .string ⟨#[45, 62]⟩, .slice none 0 0], .int .i64 p]) (by simp [results, Try.results42, go_sem, r0, r1, r2]) rfl ?_
       exact jL (by rw [HPD.out, HHH.out]) HB.out ⟨_, _, _, _, _, rfl⟩
   · rw [decide_eq_false harr]
     have HPC := HPP.out
     rw [if_neg harr] at HPC
     have HPD := hid HPC
     clear HPC harr
     have n0 := jE HB.out M0.out
     have n1 := jE HB.out M1.out
     have n2 := jE HB.out M2.out
     have n3 := jE HB.out M3.out
     have n4 := jE HB.out M4.out
     have n5 := jE HB.out M5.out
     have enc0 := jA EN.out 0 _ rfl
     have enc1 := jA EN.out 1 _ rfl
     have enc2 := jA EN.out 2 _ rfl
     have enc3 := jA EN.out 3 _ rfl
     have enc4 := jA EN.out 4 _ rfl
     have enc5 := jA EN.out 5 _ rfl
     have enf := jD EN.out
     go_wp2_with fail
     clear enc0 enc1 enc2 enc3 enc4 enc5 enf
     clear n0 n1 n2 n3 n4 n5
     refine (con_any m kv _ HGM.out).mono ?_
     intro e w3 ht
     cases hcn : Px.conName m with
     | error p =>
       obtain ⟨z, rfl, ⟨zs, rfl⟩, hb⟩ := jN ht hcn
       have hge : (p : Int) ≥ 0 := by omega
       replace hsz := Nat.le_trans hsz hb.size
       replace EN := hid (jC EN.out hb)
       replace ER := hid (jC ER.out hb)
       replace ET := hid (jC ET.out hb)
       replace HB := hid (HB.out.trans (hb.mono HB.out.size))
       clear hb
       have HCN := hid hcn; clear ht hcn
       have erc0 := jA ER.out 0 _ rfl
       have erc1 := jA ER.out 1 _ rfl
       have erc2 := jA ER.out 2 _ rfl
       have erf := jD ER.out
       have etc0 := jA ET.out 0 _ rfl
       have etc1 := jA ET.out 1 _ rfl
       have etc2 := jA ET.out 2 _ rfl
       have etf := jD ET.out
       go_wp2_with fail
       replace EN := hid (jB (jB (jB (EN.out) (w.heap.size + 1) 0 (.int .i64 n.tok.pos) (by omega)) (w.heap.size + 1) 1 (.string ⟨n.tok.text.toArray⟩) (by omega)) (w.heap.size + 1) 2 (.slice none 0 0) (by omega))
       replace ER := hid (ent_set3 (ER.out) (.int .i64 n.tok.pos) (.string ⟨n.tok.text.toArray⟩) (.slice none 0 0))
       replace ET := hid (jB (jB (jB (ET.out) (w.heap.size + 1) 0 (.int .i64 n.tok.pos) (by omega)) (w.heap.size + 1) 1 (.string ⟨n.tok.text.toArray⟩) (by omega)) (w.heap.size + 1) 2 (.slice none 0 0) (by omega))
       replace HB := hid (Below.setCell (Below.setCell (Below.setCell (HB.out) (p := ⟨w.heap.size + 1, 0, none⟩) (by dsimp only; omega) (.int .i64 n.tok.pos)) (p := ⟨w.heap.size + 1, 1, none⟩) (by dsimp only; omega) (.string ⟨n.tok.text.toArray⟩)) (p := ⟨w.heap.size + 1, 2, none⟩) (by dsimp only; omega) (.slice none 0 0))
       have r0 := jA ER.out 0 _ rfl
       have r1 := jA ER.out 1 _ rfl
       have r2 := jA ER.out 2 _ rfl
       refine bodyPost_ret (v := .tuple #[.agg #[.int .i64 n.tok.pos, .string ⟨n.tok.text.toArray⟩, .slice none 0 0], .int .i64 p]) (by simp [results, Try.results42, go_sem, r0, r1, r2]) rfl ?_
       exact jL (by rw [HPD.out, HCN.out]) HB.out ⟨_, _, _, _, _, rfl⟩
     | ok nm =>
       obtain ⟨z, rfl, _, hnew, hb⟩ := rtold_ok ht hcn
       obtain rfl := hnew.now
       replace hsz := Nat.le_trans hsz hb.size
       replace EN := hid (jC EN.out hb)
       replace ER := hid (jC ER.out hb)
       replace ET := hid (jC ET.out hb)
       replace HB := hid (HB.out.trans (hb.mono HB.out.size))
       clear hb
       have HPE := HPD.out
       rw [hcn] at HPE
       dsimp only at HPE
       have HPF := hid HPE
       clear ht hcn hnew HPE
       have etc0 := jA ET.out 0 _ rfl
       have etc1 := jA ET.out 1 _ rfl
       have etc2 := jA ET.out 2 _ rfl
       have etf := jD ET.out
       go_upto_region 19 with fail
       replace EN := hid (jB (EN.out) (w.heap.size + 2) 1 (.string ⟨nm.toArray⟩) (by omega))
       replace ER := hid (jB (ER.out) (w.heap.size + 2) 1 (.string ⟨nm.toArray⟩) (by omega))
       replace ET := hid (jG #[.int .i64 n.tok.pos, .string ⟨nm.toArray⟩, .slice none 0 0] (ET.out) 1 (.string ⟨nm.toArray⟩) rfl)
       replace HB := hid (Below.setCell (HB.out) (p := ⟨w.heap.size + 2, 1, none⟩) (by dsimp only; omega) (.string ⟨nm.toArray⟩))
       clear etc0 etc1 etc2 etf
       replace hsz : w.heap.size + 3 ≤ (w3.setCell ⟨w.heap.size + 2, 1, none⟩ (.string ⟨nm.toArray⟩)).heap.size := by simpa using hsz
       generalize w3.setCell ⟨w.heap.size + 2, 1, none⟩ (.string ⟨nm.toArray⟩) = wz at *
       go_wp2_with fail
       have hOWN : Hid (wz.ownsRow (w.heap.size + 3) 112 3 (.slice none 0 0) ([] : List Value).length (cellsOf [])) := hid (World.ownsRow_nil _ _ _ _)
       go_loopw [3, 11, 12, 13] (fun _ i _ _ wr => ∃ (j : Nat) (vs : List Value) (xs : List Px.TypeE) (av : Value), i = .int .i64 (j + 1 : Nat) ∧ j + 1 ≤ n.list.length ∧ Hid (Px.each (Px.typeE f) (n.list.tail.take j) = .ok xs) ∧ Hid (vs.length = j) ∧ Hid (Reps (Kept (TypeAt f) (w.heap.size + 3) wr av.ownBlock) vs xs ∧ ∀ u ∈ vs, ShTypeE u) ∧ Hid (wr.ownsRow (w.heap.size + 3) 112 3 av vs.length (cellsOf vs)) ∧ w.heap.size + 3 ≤ wr.heap.size ∧ Hid (wr.heap[w.heap.size]? = some (.cells #[.int .i64 n.tok.kind, .int .i64 n.tok.pos, .string ⟨n.tok.text.toArray⟩, .int .i64 n.tok.int, .bool true, .slice (some ⟨g, of, none⟩) n.list.length c] 73 (0, 0))) ∧ Hid (wr.heap[w.heap.size + 1]? = some (.cells #[.int .i64 0, .string ⟨#[]⟩, .slice none 0 0] 112 (0, 0))) ∧ Hid (wr.heap[w.heap.size + 2]? = some (.cells #[.int .i64 n.tok.pos, .string ⟨nm.toArray⟩, av] 112 (0, 0))) ∧ Hid (Below w.heap.size w wr)) (fun _ i _ _ _ => n.list.length - (intOf i).toNat)
       case atStart => exact ⟨0, [], [], .slice none 0 0, rfl, by omega, hid (by simp [Px.each]), hid rfl, hid ⟨trivial, fun _ h => by cases h⟩, hOWN, hsz, EN, ER, ET, HB⟩
       case round =>
        clear EN ER ET HB hsz hOWN
        obtain ⟨j, vs, xs, av, rfl, hj, HE, HVL, HRV, HO, hsz, EN, ER, ET, HB⟩ := hrel
        have enc0 := jA EN.out 0 _ rfl
        have enc1 := jA EN.out 1 _ rfl
        have enc2 := jA EN.out 2 _ rfl
        have enc3 := jA EN.out 3 _ rfl
        have enc4 := jA EN.out 4 _ rfl
        have enc5 := jA EN.out 5 _ rfl
        have enf := jD EN.out
        by_cases hlt : j + 1 < n.list.length
        · obtain ⟨mj, hmj⟩ : ∃ mj, n.list[j + 1]? = some mj := ⟨_, List.getElem?_eq_getElem hlt⟩
          have htl : n.list.tail[j]? = some mj := by rw [List.getElem?_tail]; exact hmj
          have hstep := Px.each_take htl HE.out
          obtain ⟨u, hu, _, hcell⟩ := HG3.out (j + 1) mj hmj
          have HU := hid (hu.below HB.out)
          have hih := HIH.out mj (List.mem_of_getElem? hmj)
          obtain ⟨k2, kv2, hk2, rfl, hkr, m0, m1, m2, m3, m4, m5⟩ := jR hu hcell
          have n0 := jE HB.out m0
          have n1 := jE HB.out m1
          have n2 := jE HB.out m2
          have n3 := jE HB.out m3
          have n4 := jE HB.out m4
          have n5 := jE HB.out m5
          have HIHM := hid hih; have HST := hid hstep
          clear hu hcell hkr m0 m1 m2 m3 m4 m5 hih hstep htl hmj
          have hav := jF HO.out
          obtain ⟨pa, ca, rfl⟩ := hav
          go_wp2_with fail
          clear enc0 enc1 enc2 enc3 enc4 enc5 enf
          clear n0 n1 n2 n3 n4 n5
          refine (HIHM.out _ _ HU.out).mono ?_
          intro e w5 ht
          cases htm : Px.typeE f mj with
          | error p =>
            obtain ⟨z, rfl, ⟨zp, zs, zq, zn, zc, rfl⟩, hb⟩ := jN ht htm
            have hge : (p : Int) ≥ 0 := by omega
            have hbd := HST.out.2 p htm
            have HBD := hid hbd
            replace hsz := Nat.le_trans hsz hb.size
            replace EN := hid (jC EN.out hb)
            replace ER := hid (jC ER.out hb)
            replace ET := hid (jC ET.out hb)
            replace HB := hid (HB.out.trans (hb.mono HB.out.size))
            clear hb
            have HALL := hid hsz
            replace EN := hid (jH EN.out (.cells #[.int .i64 zp, .string zs, .slice zq zn zc] 112))
            replace ER := hid (jH ER.out (.cells #[.int .i64 zp, .string zs, .slice zq zn zc] 112))
            replace ET := hid (jH ET.out (.cells #[.int .i64 zp, .string zs, .slice zq zn zc] 112))
            replace HB := hid (HB.out.alloc HB.out.size (.cells #[.int .i64 zp, .string zs, .slice zq zn zc] 112))
            clear ht htm hbd
            have erc0 := jA ER.out 0 _ rfl
            have erc1 := jA ER.out 1 _ rfl
            have erc2 := jA ER.out 2 _ rfl
            have erf := jD ER.out
            have etc0 := jA ET.out 0 _ rfl
            have etc1 := jA ET.out 1 _ rfl
            have etc2 := jA ET.out 2 _ rfl
            have etf := jD ET.out
            go_wp2_with fail
            replace EN := hid (jB (jB (jB (EN.out) (w.heap.size + 1) 0 (.int .i64 n.tok.pos) (by omega)) (w.heap.size + 1) 1 (.string ⟨nm.toArray⟩) (by omega)) (w.heap.size + 1) 2 (.slice pa vs.length ca) (by omega))
            replace ER := hid (ent_set3 (ER.out) (.int .i64 n.tok.pos) (.string ⟨nm.toArray⟩) (.slice pa vs.length ca))
            replace ET := hid (jB (jB (jB (ET.out) (w.heap.size + 1) 0 (.int .i64 n.tok.pos) (by omega)) (w.heap.size + 1) 1 (.string ⟨nm.toArray⟩) (by omega)) (w.heap.size + 1) 2 (.slice pa vs.length ca) (by omega))
            replace HB := hid (Below.setCell (Below.setCell (Below.setCell (HB.out) (p := ⟨w.heap.size + 1, 0, none⟩) (by dsimp only; omega) (.int .i64 n.tok.pos)) (p := ⟨w.heap.size + 1, 1, none⟩) (by dsimp only; omega) (.string ⟨nm.toArray⟩)) (p := ⟨w.heap.size + 1, 2, none⟩) (by dsimp only; omega) (.slice pa vs.length ca))
            have r0 := jA ER.out 0 _ rfl
            have r1 := jA ER.out 1 _ rfl
            have r2 := jA ER.out 2 _ rfl
            refine bodyPost_ret (v := .tuple #[.agg #[.int .i64 n.tok.pos, .string ⟨nm.toArray⟩, .slice pa vs.length ca], .int .i64 p]) (by simp [results, Try.results42, go_sem, r0, r1, r2]) rfl ?_
            exact jL (by rw [HPF.out, HBD.out]) HB.out ⟨_, _, _, _, _, rfl⟩
          | ok x =>
            obtain ⟨z, rfl, hsh, hnew, hb⟩ := rtold_ok ht htm
            have hgd := HST.out.1 x htm
            have HGD := hid hgd
            have hk1 := new_kept (base := w.heap.size + 3) (ob := (Value.slice pa vs.length ca).ownBlock) hnew hsz hb.size (fun g hg => (HO.out.lt g hg).2)
            have HK1 := hid hk1; have HO2 := hid (jJ HO.out hb); have HRV2 := hid (And.intro (HRV.out.1.mono fun z y h => h.below hb) HRV.out.2)
            have HSH := hid hsh
            obtain ⟨zp, zs, zq, zn, zc, rfl⟩ := hsh
            replace hsz := Nat.le_trans hsz hb.size
            replace EN := hid (jC EN.out hb)
            replace ER := hid (jC ER.out hb)
            replace ET := hid (jC ET.out hb)
            replace HB := hid (HB.out.trans (hb.mono HB.out.size))
            clear hb
            clear ht htm hgd hk1 hnew
            replace EN := hid (jH EN.out (.cells #[.int .i64 zp, .string zs, .slice zq zn zc] 112))
            replace ER := hid (jH ER.out (.cells #[.int .i64 zp, .string zs, .slice zq zn zc] 112))
            replace ET := hid (jH ET.out (.cells #[.int .i64 zp, .string zs, .slice zq zn zc] 112))
            replace HB := hid (HB.out.alloc HB.out.size (.cells #[.int .i64 zp, .string zs, .slice zq zn zc] 112))
            have hal : Below w5.heap.size w5 (w5.alloc (.cells #[.int .i64 zp, .string zs, .slice zq zn zc] 112)) := (Below.refl _ _).alloc (Nat.le_refl _) _
            replace HK1 := hid (HK1.out.below hal); replace HO2 := hid (jJ HO2.out hal); replace HRV2 := hid (And.intro (HRV2.out.1.mono fun z y h => h.below hal) HRV2.out.2)
            replace hsz := Nat.le_trans hsz hal.size
            have x0 : (w5.alloc (.cells #[.int .i64 zp, .string zs, .slice zq zn zc] 112)).cell? ⟨w5.heap.size, 0, none⟩ = some (.int .i64 zp) := by rw [World.cell?_alloc_mark]; rfl
            have x1 : (w5.alloc (.cells #[.int .i64 zp, .string zs, .slice zq zn zc] 112)).cell? ⟨w5.heap.size, 1, none⟩ = some (.string zs) := by rw [World.cell?_alloc_mark]; rfl
            have x2 : (w5.alloc (.cells #[.int .i64 zp, .string zs, .slice zq zn zc] 112)).cell? ⟨w5.heap.size, 2, none⟩ = some (.slice zq zn zc) := by rw [World.cell?_alloc_mark]; rfl
            clear hal
            have etc0 := jA ET.out 0 _ rfl
            have etc1 := jA ET.out 1 _ rfl
            have etc2 := jA ET.out 2 _ rfl
            have etf := jD ET.out
            go_upto_region 25 with fail
            clear etc0 etc1 etc2 etf
            generalize w5.alloc (.cells #[.int .i64 zp, .string zs, .slice zq zn zc] 112) = W5 at *
            have etc0 := jA ET.out 0 _ rfl
            have etc1 := jA ET.out 1 _ rfl
            have etc2 := jA ET.out 2 _ rfl
            have etf := jD ET.out
            go_wp2_with (at_builtin; refine wpList_append_loc _ rfl (.tmp 96) (.tmp 98) 45 rfl (w.heap.size + 3) 112 i0 (.agg #[.int .i64 0, .string ⟨#[]⟩, .slice none 0 0]) 3 48 Try.underlying45 I0.out I00.out I01.out I02.out rfl (by decide) _ vs.length _ rfl (HO2.out.alloc _) ⟨W5.heap.size, 0, none⟩ 1 1 [.int .i64 zp, .string zs, .slice zq zn zc] rfl (by decide) rfl ?c1 ?c2 ?c3 ?c4 ?c5 ?_)
            case c1 => exact fun j u h => three_at W5 _ _ _ _ j u h
            case c2 => intro u hu; simp only [List.mem_cons, List.not_mem_nil, or_false] at hu; rcases hu with rfl | rfl | rfl <;> rfl
            case c3 => have := HVL.out; unfold maxLen; omega
            case c4 => have := HVL.out; omega
            case c5 => simp; omega
            intro v6 w6 hown hgr hloc
            clear etc0 etc1 etc2 etf
            clear x0 x1 x2
            have hob : ∀ kk, (Value.slice pa vs.length ca).ownBlock = some kk → w.heap.size + 3 ≤ kk := fun kk hkk => (HO2.out.lt kk hkk).1
            replace EN := hid ((hgr.block (w.heap.size) (by have := jK EN.out; simp; omega) (fun e => by have := hob _ e.symm; omega)).trans (jH EN.out (.cells #[.int .i64 zp, .string zs, .slice zq zn zc] 112)))
            replace ER := hid ((hgr.block (w.heap.size + 1) (by have := jK ER.out; simp; omega) (fun e => by have := hob _ e.symm; omega)).trans (jH ER.out (.cells #[.int .i64 zp, .string zs, .slice zq zn zc] 112)))
            replace ET := hid ((hgr.block (w.heap.size + 2) (by have := jK ET.out; simp; omega) (fun e => by have := hob _ e.symm; omega)).trans (jH ET.out (.cells #[.int .i64 zp, .string zs, .slice zq zn zc] 112)))
            replace HB := hid ((HB.out.alloc HB.out.size (.cells #[.int .i64 zp, .string zs, .slice zq zn zc] 112)).grown hgr (by have := HB.out.size; simp; omega) (fun kk hkk => by have := hob kk hkk; omega))
            have hstep : ∀ z x, Kept (TypeAt f) (w.heap.size + 3) W5 (Value.slice pa vs.length ca).ownBlock z x → Kept (TypeAt f) (w.heap.size + 3) w6 v6.ownBlock z x := fun z x hk => (hk.below ((Below.refl _ _).alloc (Nat.le_refl _) (.cells #[.int .i64 zp, .string zs, .slice zq zn zc] 112))).step hgr.size (fun b hb1 hb2 => hgr.block b hb1 (fun e => hb2 e.symm)) (by rw [World.size_alloc]; exact hloc)
            have hreps : Reps (Kept (TypeAt f) (w.heap.size + 3) w6 v6.ownBlock) (vs ++ [.agg #[.int .i64 zp, .string zs, .slice zq zn zc]]) (xs ++ [x]) := Reps.snoc (hstep _ _ HK1.out) (HRV2.out.1.mono hstep)
            rw [← cells3] at hown
            have hs6 : w.heap.size + 3 ≤ w6.heap.size := by have := hgr.size; simp at this; omega
            obtain ⟨p6, c6, rfl⟩ := jF hown
            have HO6 := hid hown; have HR6 := hid hreps
            clear hown hgr hloc hob hstep hreps hsz
            have etc0 := jA ET.out 0 _ rfl
            have etc1 := jA ET.out 1 _ rfl
            have etc2 := jA ET.out 2 _ rfl
            have etf := jD ET.out
            go_wp2
            replace EN := hid (jB (EN.out) (w.heap.size + 2) 2 (.slice p6 (vs.length + 1) c6) (by omega))
            replace ER := hid (jB (ER.out) (w.heap.size + 2) 2 (.slice p6 (vs.length + 1) c6) (by omega))
            replace ET := hid (jG #[.int .i64 n.tok.pos, .string ⟨nm.toArray⟩, .slice p6 (vs.length + 1) c6] (ET.out) 2 (.slice p6 (vs.length + 1) c6) rfl)
            replace HB := hid (Below.setCell (HB.out) (p := ⟨w.heap.size + 2, 2, none⟩) (by dsimp only; omega) (.slice p6 (vs.length + 1) c6))
            go_roundw
            case rel => exact ⟨j + 1, vs ++ [.agg #[.int .i64 zp, .string zs, .slice zq zn zc]], xs ++ [x], .slice p6 (vs.length + 1) c6, by go_num, by omega, HGD, hid (by have := HVL.out; simp [this]), hid ⟨HR6.out.mono fun z y h => kept_set h (by omega), fun u hu => (List.mem_append.1 hu).elim (fun h => HRV2.out.2 u h) (fun h => by rw [List.mem_singleton.1 h]; exact HSH.out)⟩, hid (by rw [List.length_append]; exact own_set HO6.out (by omega)), by simpa using hs6, EN, ER, ET, HB⟩
            case measure => simp [intOf]; omega
        · have hje : j = n.list.tail.length := by rw [List.length_tail]; omega
          have he := HE.out
          rw [hje, List.take_length] at he
          have HEE := hid he
          have HLX := hid (Reps.len HRV.out.1)
          obtain ⟨pa, ca, rfl⟩ := jF HO.out
          clear he hje
          clear enc0 enc1 enc2 enc3 enc4 enc5 enf
          have enc0 := jA EN.out 0 _ rfl
          have enc1 := jA EN.out 1 _ rfl
          have enc2 := jA EN.out 2 _ rfl
          have enc3 := jA EN.out 3 _ rfl
          have enc4 := jA EN.out 4 _ rfl
          have enc5 := jA EN.out 5 _ rfl
          have enf := jD EN.out
          have erc0 := jA ER.out 0 _ rfl
          have erc1 := jA ER.out 1 _ rfl
          have erc2 := jA ER.out 2 _ rfl
          have erf := jD ER.out
          have etc0 := jA ET.out 0 _ rfl
          have etc1 := jA ET.out 1 _ rfl
          have etc2 := jA ET.out 2 _ rfl
          have etf := jD ET.out
          go_wp2_with fail
          replace EN := hid (jB (jB (jB (EN.out) (w.heap.size + 1) 0 (.int .i64 n.tok.pos) (by omega)) (w.heap.size + 1) 1 (.string ⟨nm.toArray⟩) (by omega)) (w.heap.size + 1) 2 (.slice pa vs.length ca) (by omega))
          replace ER := hid (ent_set3 (ER.out) (.int .i64 n.tok.pos) (.string ⟨nm.toArray⟩) (.slice pa vs.length ca))
          replace ET := hid (jB (jB (jB (ET.out) (w.heap.size + 1) 0 (.int .i64 n.tok.pos) (by omega)) (w.heap.size + 1) 1 (.string ⟨nm.toArray⟩) (by omega)) (w.heap.size + 1) 2 (.slice pa vs.length ca) (by omega))
          replace HB := hid (Below.setCell (Below.setCell (Below.setCell (HB.out) (p := ⟨w.heap.size + 1, 0, none⟩) (by dsimp only; omega) (.int .i64 n.tok.pos)) (p := ⟨w.heap.size + 1, 1, none⟩) (by dsimp only; omega) (.string ⟨nm.toArray⟩)) (p := ⟨w.heap.size + 1, 2, none⟩) (by dsimp only; omega) (.slice pa vs.length ca))
          have r0 := jA ER.out 0 _ rfl
          have r1 := jA ER.out 1 _ rfl
          have r2 := jA ER.out 2 _ rfl
          refine bodyPost_ret (v := .tuple #[.agg #[.int .i64 n.tok.pos, .string ⟨nm.toArray⟩, .slice pa vs.length ca], .int .i64 (-1)]) (by simp [results, Try.results42, go_sem, r0, r1, r2]) rfl ?_
          exact jO (x := Px.TypeE.mk n.pos (nm) xs) (by rw [HPF.out, HEE.out]) HB.out ⟨_, _, _, _, _, rfl⟩ (fun u hu => ⟨_, rfl, row_new HO.out HLX.out HRV.out.1 (fun v hv => shTypeE_size (HRV.out.2 v hv)) u (fun b h1 h2 => (hu b (by omega) (by simpa using h2)).trans (set3_other _ _ b _ _ _ (by omega)))⟩)
/-- A type, as the document reads it. -/
theorem typ_any : ∀ (k f : Nat) (n : Px.Node) (v : Value) (w : World), k ≤ f → NdAt k w v n → Px.NodeGood n → Calls Try.prog 42 #[v] w (RTold w (TypeAt f) ShTypeE (Px.typeE f n)) := by
 intro k
 induction k with
 | zero => intro f n v w _ hn; exact hn.elim
 | succ k ih =>
   intro f n v w hf hn hg
   cases f with
   | zero => omega
   | succ f =>
     cases hl : Px.jS n with
     | true => exact typ_list f k n v w hn hg hl (fun m hm v w1 h => ih f m v w1 (by omega) h (hg.kid hm))
     | false =>
       obtain ⟨lv, rfl, _⟩ := hn
       exact typ_leaf f n lv w hg hl
end Go.Proofs.Ytgoacbomphlhjaa
