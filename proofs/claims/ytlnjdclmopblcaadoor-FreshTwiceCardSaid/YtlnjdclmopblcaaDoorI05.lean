import Derived.Test.YtlnjdclmopblcaaDoorI04
import Derived.Deep.DeepCutAuto
import Derived.BigRegion
set_option linter.unusedVariables false
set_option linter.unusedSimpArgs false
set_option maxHeartbeats 40000000
set_option maxRecDepth 100000
namespace Go.Proofs.YtlnjdclmopblcaaDoor
open Go Go.RowKit
open Go.Lib (hid)
theorem Yv (w : World) (a b c : Array Value) (TA TB TC : TypeId) :
 (((w.alloc (.cells a TA)).alloc (.cells b TB)).alloc (.cells c TC)).heap[w.heap.size]? = some (.cells a TA (0, 0)) /\ (((w.alloc (.cells a TA)).alloc (.cells b TB)).alloc (.cells c TC)).heap[w.heap.size + 1]? = some (.cells b TB (0, 0)) /\
   (((w.alloc (.cells a TA)).alloc (.cells b TB)).alloc (.cells c TC)).heap[w.heap.size + 2]? = some (.cells c TC (0, 0)) /\ Below w.heap.size w (((w.alloc (.cells a TA)).alloc (.cells b TB)).alloc (.cells c TC)) /\ (((w.alloc (.cells a TA)).alloc (.cells b TB)).alloc (.cells c TC)).heap.size = w.heap.size + 3 := by
 refine ⟨JA (JA (jb w a TA) _) _, ?_, ?_, (((jD _ w).alloc (jB _) _).alloc (by simp) _).alloc (by simp; omega) _, by simp⟩
 . have := JA (jb (w.alloc (.cells a TA)) b TB) (.cells c TC); rw [Jt] at this; exact this
 . have := jb ((w.alloc (.cells a TA)).alloc (.cells b TB)) c TC; rw [Jt, Jt] at this; exact this
def vC (v : Value) : Prop := ∃ (p : Int) (s : ByteArray) (q : Option Addr) (n c : Nat), v = .agg #[.int .i64 p, .string s, .slice q n c]
theorem Mc (f : Nat) (n : Px.Node) (lv : Value) (w : World) (hg : Px.jq n) (hl : Px.jR n = false) : Calls Tryd.prog 45 #[nV n lv] w (qN w (Q0 (f + 1)) vC (Px.Q9 (f + 1) n)) := by
 have HG := hid hg; have hp : Px.Q9 (f + 1) n = if (Px.qY n || Px.qR n) = true then .ok (.mk n.pos n.text []) else .error n.pos := by rw [Px.Q9]; unfold Px.nodes; rw [hl]; rfl
 have htk : (!Px.jR n && n.tok.kind == 4) = Px.qY n := by rw [hl]; rfl
 have Ol := hid (fun w => by have := yF n lv 4 w; rw [htk] at this; exact this); have xH := hid (fun w => YJ n lv w hg); have HP := hid hp; clear hp htk hg; unfold nV at *; rw [hl] at *; clear hl; go_enter Tryd.func45, Tryd.ntmps45; obtain ⟨en, er, et, hb, hsz⟩ := Yv w #[.int .i64 n.tok.kind, .int .i64 n.tok.pos, .string ⟨n.tok.text.toArray⟩, .int .i64 n.tok.int, .bool false, lv] #[.int .i64 0, .string ⟨#[]⟩, .slice none 0 0] #[.int .i64 n.tok.pos, .string ⟨n.tok.text.toArray⟩, .slice none 0 0] 73 111 111; have EN := hid en; have ER := hid er; have ET := hid et; have HB := hid hb
 clear en er et hb; go_wp2_with fail; refine (Ol.out _).mono ?_; rintro e w1 ⟨rfl, hb⟩; replace hsz := jS (JS hsz.symm) hb.size; replace EN := bE EN hb; replace ER := bE ER hb; replace ET := bE ET hb; replace HB := bT HB hb; clear hb; generalize hcb : Px.qY n = b at *; cases b with
 | true =>
   obtain ⟨J3, J4, qA, Qx⟩ := xF3 ER; obtain ⟨j3, jv, jw⟩ := xQ3 ET; go_wp2_with fail; replace ER := hid (Za (ER.out) (.int .i64 n.tok.pos) (.string ⟨n.tok.text.toArray⟩) (.slice none 0 0)); replace HB := xS HB ER; obtain ⟨r0, r1, r2⟩ := xQ3 ER; refine jG (v := .tuple #[.agg #[.int .i64 n.tok.pos, .string ⟨n.tok.text.toArray⟩, .slice none 0 0], .int .i64 (-1)]) (by simp [results, Tryd.results45, go_sem, r0, r1, r2]) rfl ?_; exact Jq (x := Px.zR.mk n.pos n.text []) (by rw [HP.out]; rfl) HB ⟨_, _, _, _, _, rfl⟩ (fun u hu => ⟨_, rfl, .inl ⟨rfl, none, 0, rfl⟩⟩)
 | false =>
   obtain ⟨Jd, enc1, enc2, enc3, enc4, JZ, QI⟩ := xF6 EN; go_wp2_with fail; clear Jd enc1 enc2 enc3 enc4 JZ QI; refine (xH.out _).mono ?_; intro e w2 ht; have hnm : Px.name n = if Px.qR n = true then .ok n.text else .error n.pos := rfl
   by_cases hin : Px.qR n = true
   . rw [if_pos hin] at hnm; obtain ⟨z, rfl, _, hnew, hb⟩ := Jm ht hnm; obtain rfl := hnew.now; replace ER := bE ER hb; replace ET := bE ET hb; replace HB := bT HB hb; clear hb hnew ht hnm; have R6 := hid hin; clear hin
     obtain ⟨J3, J4, qA, Qx⟩ := xF3 ER; obtain ⟨j3, jv, jw⟩ := xQ3 ET; go_wp2_with fail; replace ER := hid (Za (ER.out) (.int .i64 n.tok.pos) (.string ⟨n.tok.text.toArray⟩) (.slice none 0 0)); replace HB := xS HB ER; obtain ⟨r0, r1, r2⟩ := xQ3 ER; refine jG (v := .tuple #[.agg #[.int .i64 n.tok.pos, .string ⟨n.tok.text.toArray⟩, .slice none 0 0], .int .i64 (-1)]) (by simp [results, Tryd.results45, go_sem, r0, r1, r2]) rfl ?_; exact Jq (x := Px.zR.mk n.pos n.text []) (by rw [HP.out, R6.out]; rfl) HB ⟨_, _, _, _, _, rfl⟩ (fun u hu => ⟨_, rfl, .inl ⟨rfl, none, 0, rfl⟩⟩)
   . rw [if_neg hin] at hnm; obtain ⟨z, rfl, ⟨sz, rfl⟩, hb⟩ := Jb ht hnm; replace ER := bE ER hb; replace ET := bE ET hb; replace HB := bT HB hb; clear hb ht hnm; have R6 := hid hin; clear hin
     obtain ⟨J3, J4, qA, Qx⟩ := xF3 ER; obtain ⟨j3, jv, jw⟩ := xQ3 ET; go_wp2_with fail; replace ER := hid (Za (ER.out) (.int .i64 n.tok.pos) (.string ⟨n.tok.text.toArray⟩) (.slice none 0 0)); replace HB := xS HB ER; obtain ⟨r0, r1, r2⟩ := xQ3 ER; refine jG (v := .tuple #[.agg #[.int .i64 n.tok.pos, .string ⟨n.tok.text.toArray⟩, .slice none 0 0], .int .i64 n.pos]) (by simp [results, Tryd.results45, go_sem, r0, r1, r2]) rfl ?_; exact jr (by rw [HP.out, if_neg (by simpa using R6.out)]) HB ⟨_, _, _, _, _, rfl⟩
theorem uu {α : Type} {sz base E n : Nat} {Js : World -> Value -> α -> Prop} {w : World} {v : Value} {vs : List Value} {xs : List α} (h : w.ownsRow base E sz v n (cellsOf vs)) (hn : n = xs.length)
 (hr : qw (Kept Js base w v.ownBlock) vs xs) (hs : ∀ v ∈ vs, v.cells.size = sz) (u : World) (hu : ∀ b, base <= b -> b < w.heap.size -> u.heap[b]? = w.heap[b]?) : JO sz (Js u) u v xs := by
 subst hn
 rcases h.2 with ⟨rfl, hn⟩ | ⟨g, cap, cur, rfl, hb, hg, hc1, hc2, hc3, hc4⟩
 . exact .inl ⟨JP hn, none, 0, rfl⟩
 . refine .inr ⟨g, 0, cap, rfl, hc1, by unfold maxLen at hc2; omega, fun i x hx => ?_⟩; obtain ⟨y, hy, lo, hi, h0, h1, _, h3⟩ := hr.at hx; refine ⟨y, h3 u fun b hb1 hb2 => hu b (by omega) (by omega), hs y (jI hy), fun j z hz => ?_⟩; have hcell := Zn h (g := g) rfl (i * sz + j) z (ZG sz hs hy hz); have e : (⟨g, 0, none⟩ : Addr).add (i * sz + j) = ⟨g, 0 + i * sz + j, none⟩ := by unfold Addr.add; split <;> simp_all
   rw [e] at hcell; have hlt : g < w.heap.size := (JW.1 hg).1; rw [World.cell?_of_block (w := w) (hu g hb hlt)]; exact hcell
theorem VF {α : Type} {Js : World -> Value -> α -> Prop} {base : Nat} {w w' : World} {ob : Option Nat} {v : Value} {x : α} (h : New Js w w' v x) (hb : base <= w.heap.size) (hs : w.heap.size <= w'.heap.size) (ho : ∀ g, ob = some g -> g < w.heap.size) : Kept Js base w' ob v x :=
 ⟨w.heap.size, w'.heap.size, hb, jB _, fun g hg => .inl (ho g hg), h⟩
theorem uw {α : Type} {Js : World -> Value -> α -> Prop} {base : Nat} {w : World} {ob : Option Nat} {v z : Value} {x : α} {b j : Nat} (h : Kept Js base w ob v x) (hb : b < base) : Kept Js base (w.setCell ⟨b, j, none⟩ z) ob v x :=
 h.since (by simp) (fun k hk _ _ => jP w ⟨b, j, none⟩ z k (by dsimp only; omega)) (.inl rfl)
theorem Kb {w : World} {base e size n b j : Nat} {v z : Value} {xs : List Value} (h : w.ownsRow base e size v n xs) (hb : b < base) : (w.setCell ⟨b, j, none⟩ z).ownsRow base e size v n xs :=
 Wp h fun k hk => jP w ⟨b, j, none⟩ z k (by have := (h.lt k hk).1; dsimp only; omega)
theorem gT : (Tryd.prog.info? 111).map (fun i => (i.zero, i.size, i.bytes)) = some (some (.agg #[.int .i64 0, .string ⟨#[]⟩, .slice none 0 0]), 3, 48) := by kernel_rfl
theorem uy {v : Value} (h : vC v) : v.cells.size = 3 := by
 obtain ⟨p, s, q, n, c, rfl⟩ := h; rfl
theorem Hr (w : World) (a0 a1 a2 : Value) (T : TypeId) (j : Nat) (u : Value) (h : ([a0, a1, a2] : List Value)[j]? = some u) :
 (w.alloc (.cells #[a0, a1, a2] T)).cell? ((⟨w.heap.size, 0, none⟩ : Addr).add j) = some u := by
 have e : (⟨w.heap.size, 0, none⟩ : Addr).add j = ⟨w.heap.size, j, none⟩ := by unfold Addr.add; split <;> simp_all
 rw [e, jT]
 simpa using h
theorem cells3 (vs : List Value) (a0 a1 a2 : Value) : cellsOf (vs ++ [.agg #[a0, a1, a2]]) = cellsOf vs ++ [a0, a1, a2] := by
 simp [cellsOf, Value.cells]
theorem uO (w : World) (g k : Nat) (a b c : Value) (h : k ≠ g) : (((w.setCell ⟨g, 0, none⟩ a).setCell ⟨g, 1, none⟩ b).setCell ⟨g, 2, none⟩ c).heap[k]? = w.heap[k]? :=
 (jP _ ⟨g, 2, none⟩ c k h).trans ((jP _ ⟨g, 1, none⟩ b k h).trans (jP _ ⟨g, 0, none⟩ a k h))
theorem dm {n m : Px.Node} (h : Px.jq n) (hm : n.list[0]? = some m) : ((!Px.jR m && m.tok.kind == 5) && m.tok.text == [45, 62]) = decide (Px.word n = [45, 62]) := by
 have hgm : Px.jq m := h.kid (jI hm); unfold Px.word; cases hl : n.list with
 | nil => rw [hl] at hm; cases hm
 | cons m' r =>
   rw [hl] at hm; obtain rfl : m' = m := by simpa using hm
   dsimp only
   by_cases hlt : Px.jR m' = true
   . simp [hlt]
   . have hlm : Px.jR m' = false := by simpa using hlt
     simp only [hlm, Ve, qK, Bool.false_eq_true, if_false]; by_cases ht : m'.tok.text = [45, 62]
     . have hk := Px.Yt hgm hlm _ ht (by unfold Px.Plain; simp); have hk5 : m'.tok.kind = 5 := hk; have ht2 : m'.text = [45, 62] := ht; rw [hk5, ht, ht2]; simp
     . have h1 : (m'.tok.text == [45, 62]) = false := by rw [qF]; exact ht
       have ht2 : ¬ m'.text = [45, 62] := ht; rw [h1]; simp [ht2]
theorem Md (f k : Nat) (n : Px.Node) (v : Value) (w : World) (hn : Qw (k + 1) w v n) (hg : Px.jq n) (hl : Px.jR n = true) (ih : ∀ m ∈ n.list, ∀ v w1, Qw k w1 v m -> Calls Tryd.prog 45 #[v] w1 (qN w1 (Q0 f) vC (Px.Q9 f m))) : Calls Tryd.prog 45 #[v] w (qN w (Q0 (f + 1)) vC (Px.Q9 (f + 1) n)) := by
 have Vv := hid hn; have YZ := hid ih; obtain ⟨lv, rfl, hr⟩ := hn; obtain ⟨q, c, rfl⟩ := hr.len; have HR := hid hr; have HG := hid hg
 have hp0 : Px.Q9 (f + 1) n = (match Px.nodes n 2 9 with
  | .error p => .error p
  | .ok l =>
    match (if Px.word n = [45, 62] then (match Px.hold n 3 3 with | .error p => .error p | .ok _ => .ok [45, 62]) else Px.qD (l.headD n)) with
    | .error p => .error p
    | .ok nm =>
      match Px.each (Px.Q9 f) l.tail with
      | .error p => .error p
      | .ok xs => .ok (.mk n.pos nm xs)) := by
  have hk : n.tok.kind = 0 := by unfold Px.jR at hl; simpa using hl
  rw [Px.Q9]; have h1 : (Px.qY n || Px.qR n) = false := by unfold Px.qY Px.qR; rw [hk]; simp
  rw [h1]; rfl
 have hz3 : ∀ p, Zb n 3 3 = p -> (p = -1 /\ Px.hold n 3 3 = .ok ()) \/ (∃ q : Nat, p = q /\ Px.hold n 3 3 = .error q) := by
  intro p hp; unfold Zb Px.nodes at hp; rw [if_pos hl] at hp; cases hh : Px.hold n 3 3 with
  | ok u => rw [hh] at hp; exact .inl ⟨hp.symm, rfl⟩
  | error q => rw [hh] at hp; exact .inr ⟨q, hp.symm, rfl⟩
 have HP := hid hp0; have HZ3 := hid hz3
 have HS2 := hid (fun w1 (hb : Below w.heap.size w w1) => Qg (k + 1) n _ 2 9 w1 (Vv.out.below hb) (by omega) (by omega)); have dK := hid (fun w1 (hb : Below w.heap.size w w1) => Qg (k + 1) n _ 3 3 w1 (Vv.out.below hb) (by omega) (by omega)); clear hr hg hp0 hz3 ih; unfold nV at *; rw [hl] at *; clear hl; obtain ⟨i0, hi, hq0, hq1, hq2⟩ := QL gT; have I0 := hid hi; have PQ := hid hq0; have PR := hid hq1; have PS := hid hq2
 clear hi hq0 hq1 hq2; go_enter Tryd.func45, Tryd.ntmps45; obtain ⟨en, er, et, hb, hsz⟩ := Yv w #[.int .i64 n.tok.kind, .int .i64 n.tok.pos, .string ⟨n.tok.text.toArray⟩, .int .i64 n.tok.int, .bool true, (.slice q n.list.length c)] #[.int .i64 0, .string ⟨#[]⟩, .slice none 0 0] #[.int .i64 n.tok.pos, .string ⟨n.tok.text.toArray⟩, .slice none 0 0] 73 111 111; have EN := hid en; have ER := hid er; have ET := hid et; have HB := hid hb
 replace hsz := JS hsz.symm; clear en er et hb; go_wp2_with fail; refine (HS2.out _ HB.out).mono ?_; rintro e w1 ⟨rfl, hb⟩; replace hsz := bS hsz hb; replace EN := bE EN hb; replace ER := bE ER hb; replace ET := bE ET hb; replace HB := bT HB hb; clear hb; unfold Zb; cases hnd : Px.nodes n 2 9 with
 | error p =>
   dsimp only
   have hge : (p : Int) >= 0 := by omega
   have Fz := hid hnd; clear hnd
   obtain ⟨J3, J4, qA, Qx⟩ := xF3 ER; obtain ⟨j3, jv, jw⟩ := xQ3 ET; go_wp2_with fail; replace ER := hid (Za (ER.out) (.int .i64 n.tok.pos) (.string ⟨n.tok.text.toArray⟩) (.slice none 0 0)); replace HB := xS HB ER; obtain ⟨r0, r1, r2⟩ := xQ3 ER; refine jG (v := .tuple #[.agg #[.int .i64 n.tok.pos, .string ⟨n.tok.text.toArray⟩, .slice none 0 0], .int .i64 p]) (by simp [results, Tryd.results45, go_sem, r0, r1, r2]) rfl ?_; exact jr (by rw [HP.out, Fz.out]) HB ⟨_, _, _, _, _, rfl⟩
 | ok l =>
   dsimp only
   have hni := JJ hnd; have hll := hni.1; have Qb := hni.2.1; have yu := hni.2.2.1; clear hni; subst hll; obtain ⟨m, hm⟩ : ∃ m, n.list[0]? = some m := ⟨_, jA (by omega)⟩
   have hhd : n.list.headD n = m := by
    cases hl : n.list with
    | nil => rw [hl] at hm; cases hm
    | cons a r => rw [hl] at hm; simpa using hm
   have hgm := HG.out.kid (jI hm); have R7 := dm HG hm; replace HP := HP.out; rw [hnd] at HP
   dsimp only at HP
   rw [hhd] at HP; have vV := hid HP
   rcases HR.out with ⟨h0, _⟩ | ⟨g, of, c', hv, g1, g2, g3⟩
   . rw [h0] at Qb; simp at Qb
   injection hv with hq1 _ hq2
   subst hq1; subst hq2
   obtain ⟨u, hu, _, hcell⟩ := g3 0 m hm; obtain ⟨k1, kv, hk1, rfl, hkr, m0, m1, m2, m3, m4, m5⟩ := Jk hu hcell; simp only [KX, jZ] at m0 m1 m2 m3 m4 m5; have iG := hid hgm; have Om := hid R7; have R8 := hid g3; have M2 := hid m2
   have M0 := hid m0; have M1 := hid m1; have M3 := hid m3; have M4 := hid m4; have M5 := hid m5
   have hz0 : (0 : Int) < (n.list.length : Int) := by omega
   clear hu hcell hkr HP hhd hgm R7 hnd m0 m1 m2 m3 m4 m5 g3 hm Qb; go_upto_region 10 with fail
   go_cut [53] (fun s wx => s = .bool ((!Px.jR m && m.tok.kind == 5) && m.tok.text == [45, 62]) /\ Below w1.heap.size w1 wx)
   case first =>
    have n0 := jC HB M0; have n1 := jC HB M1; have n2 := jC HB M2; have n3 := jC HB M3; have n4 := jC HB M4; have n5 := jC HB M5; obtain ⟨Jd, enc1, enc2, enc3, enc4, JZ, QI⟩ := xF6 EN; go_wp2_with fail; clear Jd enc1 enc2 enc3 enc4 JZ QI; clear n0 n1 n2 n3 n4 n5; refine (yF m kv 5 _).mono ?_; rintro e w2 ⟨rfl, hb⟩; have hb1 := hid hb; replace EN := bE EN hb; replace HB := bT HB hb; clear hb; have JZ := xK EN 5 rfl; have n2 := jC HB M2; generalize (!Px.jR m && m.tok.kind == 5) = b5 at *; cases b5 with
    | false =>
      go_wp2_with fail
      go_meet
      exact ⟨rfl, hb1.out⟩
    | true =>
      generalize m.tok.text = mt at *; go_wp2_with fail
      go_meet
      exact ⟨rfl, hb1.out⟩
   case rest =>
   obtain ⟨rfl, hb⟩ := hcut; replace hsz := bS hsz hb; replace EN := bE EN hb; replace ER := bE ER hb; replace ET := bE ET hb; replace HB := bT HB hb; clear hb; rw [Om.out]; by_cases harr : Px.word n = [45, 62]
   . rw [JL harr]; have Sq := vV.out; rw [if_pos harr] at Sq; have iH := hid Sq; clear Sq harr; obtain ⟨Jd, enc1, enc2, enc3, enc4, JZ, QI⟩ := xF6 EN; obtain ⟨j3, jv, jw, QH⟩ := xF3 ET; go_upto_region 12 with fail
     clear Jd enc1 enc2 enc3 enc4 JZ QI j3 jv jw QH; replace EN := hid (jO (EN.out) (w.heap.size + 2) 1 (.string ⟨#[45, 62]⟩) (by omega)); replace ER := hid (jO (ER.out) (w.heap.size + 2) 1 (.string ⟨#[45, 62]⟩) (by omega)); replace ET := hid (JI #[.int .i64 n.tok.pos, .string ⟨#[45, 62]⟩, .slice none 0 0] (ET.out) 1 (.string ⟨#[45, 62]⟩) rfl); replace HB := hid (jN (HB.out) (p := ⟨w.heap.size + 2, 1, none⟩) (by dsimp only; omega) (.string ⟨#[45, 62]⟩)); replace hsz : w.heap.size + 3 <= (wc.setCell ⟨w.heap.size + 2, 1, none⟩ (.string ⟨#[45, 62]⟩)).heap.size := by simpa using hsz
     generalize wc.setCell ⟨w.heap.size + 2, 1, none⟩ (.string ⟨#[45, 62]⟩) = wy at *; obtain ⟨Jd, enc1, enc2, enc3, enc4, JZ, QI⟩ := xF6 EN; go_wp2_with fail; clear Jd enc1 enc2 enc3 enc4 JZ QI; refine (dK.out _ HB.out).mono ?_; rintro e wz ⟨rfl, hb⟩; replace hsz := bS hsz hb; replace EN := bE EN hb; replace ER := bE ER hb; replace ET := bE ET hb; replace HB := bT HB hb; clear hb
     rcases HZ3.out _ rfl with ⟨hz, hh⟩ | ⟨p, hz, hh⟩
     . rw [hz]; have vT := iH.out; rw [hh] at vT
       dsimp only at vT
       have PT := hid vT; clear hz hh vT; go_wp2_with fail; have xI : Hid (wz.ownsRow (w.heap.size + 3) 111 3 (.slice none 0 0) ([] : List Value).length (cellsOf [])) := hid (jo _ _ _ _)
       go_loopw [3, 11, 12, 13] (fun _ i _ _ wr => ∃ (j : Nat) (vs : List Value) (xs : List Px.zR) (av : Value), i = .int .i64 (j + 1 : Nat) /\ j + 1 <= n.list.length /\ Hid (Px.each (Px.Q9 f) (n.list.tail.take j) = .ok xs) /\ Hid (vs.length = j) /\ Hid (qw (Kept (Q0 f) (w.heap.size + 3) wr av.ownBlock) vs xs /\ ∀ u ∈ vs, vC u) /\ Hid (wr.ownsRow (w.heap.size + 3) 111 3 av vs.length (cellsOf vs)) /\ w.heap.size + 3 <= wr.heap.size /\ Hid (wr.heap[w.heap.size]? = some (.cells #[.int .i64 n.tok.kind, .int .i64 n.tok.pos, .string ⟨n.tok.text.toArray⟩, .int .i64 n.tok.int, .bool true, .slice (some ⟨g, of, none⟩) n.list.length c] 73 (0, 0))) /\ Hid (wr.heap[w.heap.size + 1]? = some (.cells #[.int .i64 0, .string ⟨#[]⟩, .slice none 0 0] 111 (0, 0))) /\ Hid (wr.heap[w.heap.size + 2]? = some (.cells #[.int .i64 n.tok.pos, .string ⟨#[45, 62]⟩, av] 111 (0, 0))) /\ Hid (Below w.heap.size w wr)) (fun _ i _ _ _ => n.list.length - (intOf i).toNat)
       case atStart => exact ⟨0, [], [], .slice none 0 0, rfl, by omega, hid (by simp [Px.each]), hid rfl, hid ⟨trivial, fun _ h => by cases h⟩, xI, hsz, EN, ER, ET, HB⟩
       case round =>
        clear EN ER ET HB hsz xI; obtain ⟨j, vs, xs, av, rfl, hj, HE, Gr, uz, HO, hsz, EN, ER, ET, HB⟩ := hrel; obtain ⟨Jd, enc1, enc2, enc3, enc4, JZ, QI⟩ := xF6 EN; by_cases hlt : j + 1 < n.list.length
        . obtain ⟨mj, Gs⟩ : ∃ mj, n.list[j + 1]? = some mj := ⟨_, jA hlt⟩
          have htl : n.list.tail[j]? = some mj := by rw [Xh]; exact Gs
          have hstep := Px.qU htl HE.out; obtain ⟨u, hu, _, hcell⟩ := R8.out (j + 1) mj Gs; have HU := hid (hu.below HB.out); have hih := YZ.out mj (jI Gs); obtain ⟨k2, Oo, hk2, rfl, hkr, m0, m1, m2, m3, m4, m5⟩ := Jk hu hcell; have n0 := jC HB m0; have n1 := jC HB m1; have n2 := jC HB m2; have n3 := jC HB m3; have n4 := jC HB m4; have n5 := jC HB m5; have dx := hid hih; have HST := hid hstep
          clear hu hcell hkr m0 m1 m2 m3 m4 m5 hih hstep htl Gs; have Oq := jH HO; obtain ⟨pa, ca, rfl⟩ := Oq; go_wp2_with fail; clear Jd enc1 enc2 enc3 enc4 JZ QI; clear n0 n1 n2 n3 n4 n5; refine (dx.out _ _ HU.out).mono ?_; intro e w5 ht; cases Uf : Px.Q9 f mj with
          | error p =>
            obtain ⟨z, rfl, ⟨zp, zs, zq, zn, zc, rfl⟩, hb⟩ := Jb ht Uf; have hge : (p : Int) >= 0 := by omega
            have hbd := HST.out.2 p Uf; have MR := hid hbd; replace hsz := bS hsz hb; replace ER := bE ER hb; replace ET := bE ET hb; replace HB := bT HB hb; clear hb; replace ER := hid (JA ER (.cells #[.int .i64 zp, .string zs, .slice zq zn zc] 111)); replace ET := aO ET ER; replace HB := aB HB ER; clear ht Uf hbd; obtain ⟨J3, J4, qA, Qx⟩ := xF3 ER; obtain ⟨j3, jv, jw⟩ := xQ3 ET; go_wp2_with fail; replace ER := hid (Za (ER.out) (.int .i64 n.tok.pos) (.string ⟨#[45, 62]⟩) (.slice pa vs.length ca)); replace HB := xS HB ER; obtain ⟨r0, r1, r2⟩ := xQ3 ER; refine jG (v := .tuple #[.agg #[.int .i64 n.tok.pos, .string ⟨#[45, 62]⟩, .slice pa vs.length ca], .int .i64 p]) (by simp [results, Tryd.results45, go_sem, r0, r1, r2]) rfl ?_; exact jr (by rw [PT.out, MR.out]) HB ⟨_, _, _, _, _, rfl⟩
          | ok x =>
            obtain ⟨z, rfl, hsh, hnew, hb⟩ := Jm ht Uf; have hgd := HST.out.1 x Uf; have rF := hid hgd; have hk1 := VF (base := w.heap.size + 3) (ob := (Value.slice pa vs.length ca).ownBlock) hnew hsz hb.size (fun g hg => (HO.out.lt g hg).2); have WT := hid hk1; have zV := hid (jc HO hb); have Zt := hid (And.intro (uz.out.1.mono fun z y h => h.below hb) uz.out.2)
            have rG := hid hsh; obtain ⟨zp, zs, zq, zn, zc, rfl⟩ := hsh; replace hsz := bS hsz hb; replace EN := bE EN hb; replace ER := bE ER hb; replace ET := bE ET hb; replace HB := bT HB hb; clear hb; clear ht Uf hgd hk1 hnew; replace EN := hid (JA EN (.cells #[.int .i64 zp, .string zs, .slice zq zn zc] 111)); replace ER := aO ER EN; replace ET := aO ET EN; replace HB := aB HB EN; have hal : Below w5.heap.size w5 (w5.alloc (.cells #[.int .i64 zp, .string zs, .slice zq zn zc] 111)) := (jD _ _).alloc (jB _) _; replace WT := hid (WT.out.below hal); replace zV := hid (jc zV hal); replace Zt := hid (And.intro (Zt.out.1.mono fun z y h => h.below hal) Zt.out.2)
            replace hsz := jS hsz hal.size; have x0 : (w5.alloc (.cells #[.int .i64 zp, .string zs, .slice zq zn zc] 111)).cell? ⟨w5.heap.size, 0, none⟩ = some (.int .i64 zp) := by rw [jT]; rfl
            have x1 : (w5.alloc (.cells #[.int .i64 zp, .string zs, .slice zq zn zc] 111)).cell? ⟨w5.heap.size, 1, none⟩ = some (.string zs) := by rw [jT]; rfl
            have x2 : (w5.alloc (.cells #[.int .i64 zp, .string zs, .slice zq zn zc] 111)).cell? ⟨w5.heap.size, 2, none⟩ = some (.slice zq zn zc) := by rw [jT]; rfl
            clear hal; obtain ⟨j3, jv, jw, QH⟩ := xF3 ET; go_upto_region 25 with fail
            clear j3 jv jw QH; generalize w5.alloc (.cells #[.int .i64 zp, .string zs, .slice zq zn zc] 111) = W5 at *; obtain ⟨j3, jv, jw, QH⟩ := xF3 ET; go_wp2_with (at_builtin; refine qi _ rfl (.tmp 96) (.tmp 98) 107 rfl (w.heap.size + 3) 111 i0 (.agg #[.int .i64 0, .string ⟨#[]⟩, .slice none 0 0]) 3 48 Tryd.underlying107 I0 PQ PR PS rfl (by decide) _ vs.length _ rfl (zV.out.alloc _) ⟨W5.heap.size, 0, none⟩ 1 1 [.int .i64 zp, .string zs, .slice zq zn zc] rfl (by decide) rfl ?c1 ?c2 ?c3 ?c4 ?c5 ?_)
            case c1 => exact fun j u h => Hr W5 _ _ _ _ j u h
            case c2 => intro u hu; simp only [jf, Ja, Qu] at hu; rcases hu with rfl | rfl | rfl <;> rfl
            case c3 => have := Gr.out; unfold maxLen; omega
            case c4 => have := Gr.out; omega
            case c5 => simp; omega
            intro v6 w6 hown hgr hloc; clear j3 jv jw QH; clear x0 x1 x2; have uo : ∀ kk, (Value.slice pa vs.length ca).ownBlock = some kk -> w.heap.size + 3 <= kk := fun kk hkk => (zV.out.lt kk hkk).1
            replace EN := hid ((hgr.block (w.heap.size) (by have := ji EN; simp; omega) (fun e => by have := uo _ e.symm; omega)).trans (JA EN (.cells #[.int .i64 zp, .string zs, .slice zq zn zc] 111))); replace ER := hid ((hgr.block (w.heap.size + 1) (by have := ji ER; simp; omega) (fun e => by have := uo _ e.symm; omega)).trans (JA ER (.cells #[.int .i64 zp, .string zs, .slice zq zn zc] 111))); replace ET := hid ((hgr.block (w.heap.size + 2) (by have := ji ET; simp; omega) (fun e => by have := uo _ e.symm; omega)).trans (JA ET (.cells #[.int .i64 zp, .string zs, .slice zq zn zc] 111))); replace HB := hid ((HB.out.alloc HB.out.size (.cells #[.int .i64 zp, .string zs, .slice zq zn zc] 111)).grown hgr (by have := HB.out.size; simp; omega) (fun kk hkk => by have := uo kk hkk; omega)); have hstep : ∀ z x, Kept (Q0 f) (w.heap.size + 3) W5 (Value.slice pa vs.length ca).ownBlock z x -> Kept (Q0 f) (w.heap.size + 3) w6 v6.ownBlock z x := fun z x hk => (hk.below ((jD _ _).alloc (jB _) (.cells #[.int .i64 zp, .string zs, .slice zq zn zc] 111))).step hgr.size (fun b hb1 hb2 => hgr.block b hb1 (fun e => hb2 e.symm)) (by rw [Jt]; exact hloc)
            have Ya : qw (Kept (Q0 f) (w.heap.size + 3) w6 v6.ownBlock) (vs ++ [.agg #[.int .i64 zp, .string zs, .slice zq zn zc]]) (xs ++ [x]) := qw.snoc (hstep _ _ WT.out) (Zt.out.1.mono hstep); rw [<- cells3] at hown; have hs6 : w.heap.size + 3 <= w6.heap.size := by have := hgr.size; simp at this; omega
            obtain ⟨p6, c6, rfl⟩ := jH hown; have uD := hid hown; have rH := hid Ya
            clear hown hgr hloc uo hstep Ya hsz; have jw := xK ET 2 rfl; have QH := jX ET; go_wp2; replace EN := hid (jO (EN.out) (w.heap.size + 2) 2 (.slice p6 (vs.length + 1) c6) (by omega)); replace ER := hid (jO (ER.out) (w.heap.size + 2) 2 (.slice p6 (vs.length + 1) c6) (by omega)); replace ET := hid (JI #[.int .i64 n.tok.pos, .string ⟨#[45, 62]⟩, .slice p6 (vs.length + 1) c6] (ET.out) 2 (.slice p6 (vs.length + 1) c6) rfl); replace HB := hid (jN (HB.out) (p := ⟨w.heap.size + 2, 2, none⟩) (by dsimp only; omega) (.slice p6 (vs.length + 1) c6))
            go_roundw
            case rel => exact ⟨j + 1, vs ++ [.agg #[.int .i64 zp, .string zs, .slice zq zn zc]], xs ++ [x], .slice p6 (vs.length + 1) c6, by go_num, by omega, rF, hid (by have := Gr.out; simp [this]), hid ⟨rH.out.mono fun z y h => uw h (by omega), fun u hu => (jW.1 hu).elim (fun h => Zt.out.2 u h) (fun h => by rw [j4.1 h]; exact rG.out)⟩, hid (by rw [jE]; exact Kb uD (by omega)), by simpa using hs6, EN, ER, ET, HB⟩
            case measure => simp [intOf]; omega
        . have Ey : j = n.list.tail.length := by rw [ZF]; omega
          have he := HE.out; rw [Ey, jY] at he; have uh := hid he; have rJ := hid (qw.len uz.out.1); obtain ⟨pa, ca, rfl⟩ := jH HO; clear he Ey; clear Jd enc1 enc2 enc3 enc4 JZ QI; have JZ := xK EN 5 rfl; obtain ⟨J3, J4, qA, Qx⟩ := xF3 ER; obtain ⟨j3, jv, jw⟩ := xQ3 ET; go_wp2_with fail; replace ER := hid (Za (ER.out) (.int .i64 n.tok.pos) (.string ⟨#[45, 62]⟩) (.slice pa vs.length ca)); replace HB := xS HB ER; obtain ⟨r0, r1, r2⟩ := xQ3 ER; refine jG (v := .tuple #[.agg #[.int .i64 n.tok.pos, .string ⟨#[45, 62]⟩, .slice pa vs.length ca], .int .i64 (-1)]) (by simp [results, Tryd.results45, go_sem, r0, r1, r2]) rfl ?_; exact Jq (x := Px.zR.mk n.pos ([45, 62]) xs) (by rw [PT.out, uh.out]) HB ⟨_, _, _, _, _, rfl⟩ (fun u hu => ⟨_, rfl, uu HO rJ uz.out.1 (fun v hv => uy (uz.out.2 v hv)) u (fun b h1 h2 => (hu b (by omega) (by simpa using h2)).trans (uO _ _ b _ _ _ (by omega)))⟩)
     . rw [hz]; have hge : (p : Int) >= 0 := by omega
       have Ot := hid hh; clear hz hh; obtain ⟨J3, J4, qA, Qx⟩ := xF3 ER; obtain ⟨j3, jv, jw⟩ := xQ3 ET; go_wp2_with fail; replace ER := hid (Za (ER.out) (.int .i64 n.tok.pos) (.string ⟨#[45, 62]⟩) (.slice none 0 0)); replace HB := xS HB ER; obtain ⟨r0, r1, r2⟩ := xQ3 ER; refine jG (v := .tuple #[.agg #[.int .i64 n.tok.pos, .string ⟨#[45, 62]⟩, .slice none 0 0], .int .i64 p]) (by simp [results, Tryd.results45, go_sem, r0, r1, r2]) rfl ?_; exact jr (by rw [iH.out, Ot.out]) HB ⟨_, _, _, _, _, rfl⟩
   . rw [jl harr]; have Sq := vV.out; rw [if_neg harr] at Sq; have iH := hid Sq; clear Sq harr; have n0 := jC HB M0; have n1 := jC HB M1; have n2 := jC HB M2; have n3 := jC HB M3; have n4 := jC HB M4; have n5 := jC HB M5; obtain ⟨Jd, enc1, enc2, enc3, enc4, JZ, QI⟩ := xF6 EN; go_wp2_with fail; clear Jd enc1 enc2 enc3 enc4 JZ QI; clear n0 n1 n2 n3 n4 n5; refine (KZ m kv _ iG).mono ?_; intro e w3 ht; cases hcn : Px.qD m with
     | error p =>
       obtain ⟨z, rfl, ⟨zs, rfl⟩, hb⟩ := Jb ht hcn; have hge : (p : Int) >= 0 := by omega
       replace ER := bE ER hb; replace ET := bE ET hb; replace HB := bT HB hb; clear hb; have Ou := hid hcn; clear ht hcn
       obtain ⟨J3, J4, qA, Qx⟩ := xF3 ER; obtain ⟨j3, jv, jw⟩ := xQ3 ET; go_wp2_with fail; replace ER := hid (Za (ER.out) (.int .i64 n.tok.pos) (.string ⟨n.tok.text.toArray⟩) (.slice none 0 0)); replace HB := xS HB ER; obtain ⟨r0, r1, r2⟩ := xQ3 ER; refine jG (v := .tuple #[.agg #[.int .i64 n.tok.pos, .string ⟨n.tok.text.toArray⟩, .slice none 0 0], .int .i64 p]) (by simp [results, Tryd.results45, go_sem, r0, r1, r2]) rfl ?_; exact jr (by rw [iH.out, Ou.out]) HB ⟨_, _, _, _, _, rfl⟩
     | ok nm =>
       obtain ⟨z, rfl, _, hnew, hb⟩ := Jm ht hcn; obtain rfl := hnew.now; replace hsz := bS hsz hb; replace EN := bE EN hb; replace ER := bE ER hb; replace ET := bE ET hb; replace HB := bT HB hb; clear hb; have vT := iH.out; rw [hcn] at vT
       dsimp only at vT
       have PT := hid vT; clear ht hcn hnew vT; obtain ⟨j3, jv, jw, QH⟩ := xF3 ET; go_upto_region 19 with fail
       replace EN := hid (jO (EN.out) (w.heap.size + 2) 1 (.string ⟨nm.toArray⟩) (by omega)); replace ER := hid (jO (ER.out) (w.heap.size + 2) 1 (.string ⟨nm.toArray⟩) (by omega)); replace ET := hid (JI #[.int .i64 n.tok.pos, .string ⟨nm.toArray⟩, .slice none 0 0] (ET.out) 1 (.string ⟨nm.toArray⟩) rfl); replace HB := hid (jN (HB.out) (p := ⟨w.heap.size + 2, 1, none⟩) (by dsimp only; omega) (.string ⟨nm.toArray⟩)); clear j3 jv jw QH; replace hsz : w.heap.size + 3 <= (w3.setCell ⟨w.heap.size + 2, 1, none⟩ (.string ⟨nm.toArray⟩)).heap.size := by simpa using hsz
       generalize w3.setCell ⟨w.heap.size + 2, 1, none⟩ (.string ⟨nm.toArray⟩) = wz at *; go_wp2_with fail; have xI : Hid (wz.ownsRow (w.heap.size + 3) 111 3 (.slice none 0 0) ([] : List Value).length (cellsOf [])) := hid (jo _ _ _ _)
       go_loopw [3, 11, 12, 13] (fun _ i _ _ wr => ∃ (j : Nat) (vs : List Value) (xs : List Px.zR) (av : Value), i = .int .i64 (j + 1 : Nat) /\ j + 1 <= n.list.length /\ Hid (Px.each (Px.Q9 f) (n.list.tail.take j) = .ok xs) /\ Hid (vs.length = j) /\ Hid (qw (Kept (Q0 f) (w.heap.size + 3) wr av.ownBlock) vs xs /\ ∀ u ∈ vs, vC u) /\ Hid (wr.ownsRow (w.heap.size + 3) 111 3 av vs.length (cellsOf vs)) /\ w.heap.size + 3 <= wr.heap.size /\ Hid (wr.heap[w.heap.size]? = some (.cells #[.int .i64 n.tok.kind, .int .i64 n.tok.pos, .string ⟨n.tok.text.toArray⟩, .int .i64 n.tok.int, .bool true, .slice (some ⟨g, of, none⟩) n.list.length c] 73 (0, 0))) /\ Hid (wr.heap[w.heap.size + 1]? = some (.cells #[.int .i64 0, .string ⟨#[]⟩, .slice none 0 0] 111 (0, 0))) /\ Hid (wr.heap[w.heap.size + 2]? = some (.cells #[.int .i64 n.tok.pos, .string ⟨nm.toArray⟩, av] 111 (0, 0))) /\ Hid (Below w.heap.size w wr)) (fun _ i _ _ _ => n.list.length - (intOf i).toNat)
       case atStart => exact ⟨0, [], [], .slice none 0 0, rfl, by omega, hid (by simp [Px.each]), hid rfl, hid ⟨trivial, fun _ h => by cases h⟩, xI, hsz, EN, ER, ET, HB⟩
       case round =>
        clear EN ER ET HB hsz xI; obtain ⟨j, vs, xs, av, rfl, hj, HE, Gr, uz, HO, hsz, EN, ER, ET, HB⟩ := hrel; obtain ⟨Jd, enc1, enc2, enc3, enc4, JZ, QI⟩ := xF6 EN; by_cases hlt : j + 1 < n.list.length
        . obtain ⟨mj, Gs⟩ : ∃ mj, n.list[j + 1]? = some mj := ⟨_, jA hlt⟩
          have htl : n.list.tail[j]? = some mj := by rw [Xh]; exact Gs
          have hstep := Px.qU htl HE.out; obtain ⟨u, hu, _, hcell⟩ := R8.out (j + 1) mj Gs; have HU := hid (hu.below HB.out); have hih := YZ.out mj (jI Gs); obtain ⟨k2, Oo, hk2, rfl, hkr, m0, m1, m2, m3, m4, m5⟩ := Jk hu hcell; have n0 := jC HB m0; have n1 := jC HB m1; have n2 := jC HB m2; have n3 := jC HB m3; have n4 := jC HB m4; have n5 := jC HB m5; have dx := hid hih; have HST := hid hstep
          clear hu hcell hkr m0 m1 m2 m3 m4 m5 hih hstep htl Gs; have Oq := jH HO; obtain ⟨pa, ca, rfl⟩ := Oq; go_wp2_with fail; clear Jd enc1 enc2 enc3 enc4 JZ QI; clear n0 n1 n2 n3 n4 n5; refine (dx.out _ _ HU.out).mono ?_; intro e w5 ht; cases Uf : Px.Q9 f mj with
          | error p =>
            obtain ⟨z, rfl, ⟨zp, zs, zq, zn, zc, rfl⟩, hb⟩ := Jb ht Uf; have hge : (p : Int) >= 0 := by omega
            have hbd := HST.out.2 p Uf; have MR := hid hbd; replace hsz := bS hsz hb; replace ER := bE ER hb; replace ET := bE ET hb; replace HB := bT HB hb; clear hb; replace ER := hid (JA ER (.cells #[.int .i64 zp, .string zs, .slice zq zn zc] 111)); replace ET := aO ET ER; replace HB := aB HB ER; clear ht Uf hbd; obtain ⟨J3, J4, qA, Qx⟩ := xF3 ER; obtain ⟨j3, jv, jw⟩ := xQ3 ET; go_wp2_with fail; replace ER := hid (Za (ER.out) (.int .i64 n.tok.pos) (.string ⟨nm.toArray⟩) (.slice pa vs.length ca)); replace HB := xS HB ER; obtain ⟨r0, r1, r2⟩ := xQ3 ER; refine jG (v := .tuple #[.agg #[.int .i64 n.tok.pos, .string ⟨nm.toArray⟩, .slice pa vs.length ca], .int .i64 p]) (by simp [results, Tryd.results45, go_sem, r0, r1, r2]) rfl ?_; exact jr (by rw [PT.out, MR.out]) HB ⟨_, _, _, _, _, rfl⟩
          | ok x =>
            obtain ⟨z, rfl, hsh, hnew, hb⟩ := Jm ht Uf; have hgd := HST.out.1 x Uf; have rF := hid hgd; have hk1 := VF (base := w.heap.size + 3) (ob := (Value.slice pa vs.length ca).ownBlock) hnew hsz hb.size (fun g hg => (HO.out.lt g hg).2); have WT := hid hk1; have zV := hid (jc HO hb); have Zt := hid (And.intro (uz.out.1.mono fun z y h => h.below hb) uz.out.2)
            have rG := hid hsh; obtain ⟨zp, zs, zq, zn, zc, rfl⟩ := hsh; replace hsz := bS hsz hb; replace EN := bE EN hb; replace ER := bE ER hb; replace ET := bE ET hb; replace HB := bT HB hb; clear hb; clear ht Uf hgd hk1 hnew; replace EN := hid (JA EN (.cells #[.int .i64 zp, .string zs, .slice zq zn zc] 111)); replace ER := aO ER EN; replace ET := aO ET EN; replace HB := aB HB EN; have hal : Below w5.heap.size w5 (w5.alloc (.cells #[.int .i64 zp, .string zs, .slice zq zn zc] 111)) := (jD _ _).alloc (jB _) _; replace WT := hid (WT.out.below hal); replace zV := hid (jc zV hal); replace Zt := hid (And.intro (Zt.out.1.mono fun z y h => h.below hal) Zt.out.2)
            replace hsz := jS hsz hal.size; have x0 : (w5.alloc (.cells #[.int .i64 zp, .string zs, .slice zq zn zc] 111)).cell? ⟨w5.heap.size, 0, none⟩ = some (.int .i64 zp) := by rw [jT]; rfl
            have x1 : (w5.alloc (.cells #[.int .i64 zp, .string zs, .slice zq zn zc] 111)).cell? ⟨w5.heap.size, 1, none⟩ = some (.string zs) := by rw [jT]; rfl
            have x2 : (w5.alloc (.cells #[.int .i64 zp, .string zs, .slice zq zn zc] 111)).cell? ⟨w5.heap.size, 2, none⟩ = some (.slice zq zn zc) := by rw [jT]; rfl
            clear hal; obtain ⟨j3, jv, jw, QH⟩ := xF3 ET; go_upto_region 25 with fail
            clear j3 jv jw QH; generalize w5.alloc (.cells #[.int .i64 zp, .string zs, .slice zq zn zc] 111) = W5 at *; obtain ⟨j3, jv, jw, QH⟩ := xF3 ET; go_wp2_with (at_builtin; refine qi _ rfl (.tmp 96) (.tmp 98) 107 rfl (w.heap.size + 3) 111 i0 (.agg #[.int .i64 0, .string ⟨#[]⟩, .slice none 0 0]) 3 48 Tryd.underlying107 I0 PQ PR PS rfl (by decide) _ vs.length _ rfl (zV.out.alloc _) ⟨W5.heap.size, 0, none⟩ 1 1 [.int .i64 zp, .string zs, .slice zq zn zc] rfl (by decide) rfl ?c1 ?c2 ?c3 ?c4 ?c5 ?_)
            case c1 => exact fun j u h => Hr W5 _ _ _ _ j u h
            case c2 => intro u hu; simp only [jf, Ja, Qu] at hu; rcases hu with rfl | rfl | rfl <;> rfl
            case c3 => have := Gr.out; unfold maxLen; omega
            case c4 => have := Gr.out; omega
            case c5 => simp; omega
            intro v6 w6 hown hgr hloc; clear j3 jv jw QH; clear x0 x1 x2; have uo : ∀ kk, (Value.slice pa vs.length ca).ownBlock = some kk -> w.heap.size + 3 <= kk := fun kk hkk => (zV.out.lt kk hkk).1
            replace EN := hid ((hgr.block (w.heap.size) (by have := ji EN; simp; omega) (fun e => by have := uo _ e.symm; omega)).trans (JA EN (.cells #[.int .i64 zp, .string zs, .slice zq zn zc] 111))); replace ER := hid ((hgr.block (w.heap.size + 1) (by have := ji ER; simp; omega) (fun e => by have := uo _ e.symm; omega)).trans (JA ER (.cells #[.int .i64 zp, .string zs, .slice zq zn zc] 111))); replace ET := hid ((hgr.block (w.heap.size + 2) (by have := ji ET; simp; omega) (fun e => by have := uo _ e.symm; omega)).trans (JA ET (.cells #[.int .i64 zp, .string zs, .slice zq zn zc] 111))); replace HB := hid ((HB.out.alloc HB.out.size (.cells #[.int .i64 zp, .string zs, .slice zq zn zc] 111)).grown hgr (by have := HB.out.size; simp; omega) (fun kk hkk => by have := uo kk hkk; omega)); have hstep : ∀ z x, Kept (Q0 f) (w.heap.size + 3) W5 (Value.slice pa vs.length ca).ownBlock z x -> Kept (Q0 f) (w.heap.size + 3) w6 v6.ownBlock z x := fun z x hk => (hk.below ((jD _ _).alloc (jB _) (.cells #[.int .i64 zp, .string zs, .slice zq zn zc] 111))).step hgr.size (fun b hb1 hb2 => hgr.block b hb1 (fun e => hb2 e.symm)) (by rw [Jt]; exact hloc)
            have Ya : qw (Kept (Q0 f) (w.heap.size + 3) w6 v6.ownBlock) (vs ++ [.agg #[.int .i64 zp, .string zs, .slice zq zn zc]]) (xs ++ [x]) := qw.snoc (hstep _ _ WT.out) (Zt.out.1.mono hstep); rw [<- cells3] at hown; have hs6 : w.heap.size + 3 <= w6.heap.size := by have := hgr.size; simp at this; omega
            obtain ⟨p6, c6, rfl⟩ := jH hown; have uD := hid hown; have rH := hid Ya
            clear hown hgr hloc uo hstep Ya hsz; have jw := xK ET 2 rfl; have QH := jX ET; go_wp2; replace EN := hid (jO (EN.out) (w.heap.size + 2) 2 (.slice p6 (vs.length + 1) c6) (by omega)); replace ER := hid (jO (ER.out) (w.heap.size + 2) 2 (.slice p6 (vs.length + 1) c6) (by omega)); replace ET := hid (JI #[.int .i64 n.tok.pos, .string ⟨nm.toArray⟩, .slice p6 (vs.length + 1) c6] (ET.out) 2 (.slice p6 (vs.length + 1) c6) rfl); replace HB := hid (jN (HB.out) (p := ⟨w.heap.size + 2, 2, none⟩) (by dsimp only; omega) (.slice p6 (vs.length + 1) c6))
            go_roundw
            case rel => exact ⟨j + 1, vs ++ [.agg #[.int .i64 zp, .string zs, .slice zq zn zc]], xs ++ [x], .slice p6 (vs.length + 1) c6, by go_num, by omega, rF, hid (by have := Gr.out; simp [this]), hid ⟨rH.out.mono fun z y h => uw h (by omega), fun u hu => (jW.1 hu).elim (fun h => Zt.out.2 u h) (fun h => by rw [j4.1 h]; exact rG.out)⟩, hid (by rw [jE]; exact Kb uD (by omega)), by simpa using hs6, EN, ER, ET, HB⟩
            case measure => simp [intOf]; omega
        . have Ey : j = n.list.tail.length := by rw [ZF]; omega
          have he := HE.out; rw [Ey, jY] at he; have uh := hid he; have rJ := hid (qw.len uz.out.1); obtain ⟨pa, ca, rfl⟩ := jH HO; clear he Ey; clear Jd enc1 enc2 enc3 enc4 JZ QI; have JZ := xK EN 5 rfl; obtain ⟨J3, J4, qA, Qx⟩ := xF3 ER; obtain ⟨j3, jv, jw⟩ := xQ3 ET; go_wp2_with fail; replace ER := hid (Za (ER.out) (.int .i64 n.tok.pos) (.string ⟨nm.toArray⟩) (.slice pa vs.length ca)); replace HB := xS HB ER; obtain ⟨r0, r1, r2⟩ := xQ3 ER; refine jG (v := .tuple #[.agg #[.int .i64 n.tok.pos, .string ⟨nm.toArray⟩, .slice pa vs.length ca], .int .i64 (-1)]) (by simp [results, Tryd.results45, go_sem, r0, r1, r2]) rfl ?_; exact Jq (x := Px.zR.mk n.pos (nm) xs) (by rw [PT.out, uh.out]) HB ⟨_, _, _, _, _, rfl⟩ (fun u hu => ⟨_, rfl, uu HO rJ uz.out.1 (fun v hv => uy (uz.out.2 v hv)) u (fun b h1 h2 => (hu b (by omega) (by simpa using h2)).trans (uO _ _ b _ _ _ (by omega)))⟩)
theorem rM : ∀ (k f : Nat) (n : Px.Node) (v : Value) (w : World), k <= f -> Qw k w v n -> Px.jq n -> Calls Tryd.prog 45 #[v] w (qN w (Q0 f) vC (Px.Q9 f n)) := by
 intro k
 induction k with
 | zero => intro f n v w _ hn; exact hn.elim
 | succ k ih =>
   intro f n v w hf hn hg; cases f with
   | zero => omega
   | succ f =>
     cases hl : Px.jR n with
     | true => exact Md f k n v w hn hg hl (fun m hm v w1 h => ih f m v w1 (by omega) h (hg.kid hm))
     | false =>
       obtain ⟨lv, rfl, _⟩ := hn; exact Mc f n lv w hg hl
def yS (v : Value) : Prop := ∃ (k p : Int) (s : ByteArray) (i : Int) (q : Option Addr) (n c : Nat), v = .agg #[.int .i64 k, .int .i64 p, .string s, .int .i64 i, .slice q n c]
theorem xJ {v : Value} (h : yS v) : v.cells.size = 5 := by
 obtain ⟨k, p, s, i, q, n, c, rfl⟩ := h; rfl
theorem Ez : (Tryd.prog.info? 85).map (fun i => (i.zero, i.size, i.bytes)) = some (some (.agg #[.int .i64 0, .int .i64 0, .string ⟨#[]⟩, .int .i64 0, .slice none 0 0]), 5, 64) := by kernel_rfl
theorem rO (w : World) (a0 a1 a2 a3 a4 : Value) (T : TypeId) (j : Nat) (u : Value) (h : ([a0, a1, a2, a3, a4] : List Value)[j]? = some u) :
 (w.alloc (.cells #[a0, a1, a2, a3, a4] T)).cell? ((⟨w.heap.size, 0, none⟩ : Addr).add j) = some u := by
 have e : (⟨w.heap.size, 0, none⟩ : Addr).add j = ⟨w.heap.size, j, none⟩ := by unfold Addr.add; split <;> simp_all
 rw [e, jT]
 simpa using h
theorem cells5 (vs : List Value) (a0 a1 a2 a3 a4 : Value) : cellsOf (vs ++ [.agg #[a0, a1, a2, a3, a4]]) = cellsOf vs ++ [a0, a1, a2, a3, a4] := by
 simp [cellsOf, Value.cells]
theorem xL (w : World) (g k : Nat) (a b c d e : Value) (h : k ≠ g) : (((((w.setCell ⟨g, 0, none⟩ a).setCell ⟨g, 1, none⟩ b).setCell ⟨g, 2, none⟩ c).setCell ⟨g, 3, none⟩ d).setCell ⟨g, 4, none⟩ e).heap[k]? = w.heap[k]? :=
 (jP _ ⟨g, 4, none⟩ e k h).trans ((jP _ ⟨g, 3, none⟩ d k h).trans (uO w g k a b c h))
theorem Me (f k : Nat) (n : Px.Node) (v : Value) (w : World) (hn : Qw (k + 1) w v n) (hg : Px.jq n) (hl : Px.jR n = true) (ih : ∀ m ∈ n.list, ∀ v w1, Qw k w1 v m -> Calls Tryd.prog 76 #[v] w1 (qN w1 (qj f) yS (Px.pat f m))) : Calls Tryd.prog 76 #[v] w (qN w (qj (f + 1)) yS (Px.pat (f + 1) n)) := by
 have Vv := hid hn; have YZ := hid ih; obtain ⟨lv, rfl, hr⟩ := hn; obtain ⟨q, c, rfl⟩ := hr.len; have HR := hid hr; have HG := hid hg
 have hp0 : Px.pat (f + 1) n = (match Px.nodes n 2 9 with
  | .error p => .error p
  | .ok l =>
    match Px.qD (l.headD n) with
    | .error p => .error p
    | .ok nm =>
      match Px.each (Px.pat f) l.tail with
      | .error p => .error p
      | .ok xs => .ok (.mk 3 n.pos nm 0 xs)) := by
  rw [Px.pat, if_pos hl]; rfl
 have HP := hid hp0; have HS2 := hid (fun w1 (hb : Below w.heap.size w w1) => Qg (k + 1) n _ 2 9 w1 (Vv.out.below hb) (by omega) (by omega)); clear hr hg hp0 ih; unfold nV at *; rw [hl] at *; clear hl; obtain ⟨i0, hi, hq0, hq1, hq2⟩ := QL Ez; have I0 := hid hi; have PQ := hid hq0; have PR := hid hq1; have PS := hid hq2
 clear hi hq0 hq1 hq2; go_enter Tryd.func76, Tryd.ntmps76; obtain ⟨en, er, et, hb, hsz⟩ := Yv w #[.int .i64 n.tok.kind, .int .i64 n.tok.pos, .string ⟨n.tok.text.toArray⟩, .int .i64 n.tok.int, .bool true, (.slice q n.list.length c)] #[.int .i64 0, .int .i64 0, .string ⟨#[]⟩, .int .i64 0, .slice none 0 0] #[.int .i64 0, .int .i64 n.tok.pos, .string ⟨#[]⟩, .int .i64 0, .slice none 0 0] 73 85 85; have EN := hid en; have ER := hid er; have ET := hid et; have HB := hid hb
 replace hsz := JS hsz.symm; clear en er et hb; go_wp2_with fail; refine (HS2.out _ HB.out).mono ?_; rintro e w1 ⟨rfl, hb⟩; replace hsz := bS hsz hb; replace EN := bE EN hb; replace ER := bE ER hb; replace ET := bE ET hb; replace HB := bT HB hb; clear hb; unfold Zb; cases hnd : Px.nodes n 2 9 with
 | error p =>
   dsimp only
   have hge : (p : Int) >= 0 := by omega
   have Fz := hid hnd; clear hnd
   obtain ⟨J3, J4, qA, qJ, qW, Qx⟩ := xF5 ER; obtain ⟨j3, jv, jw, JH, JX⟩ := xQ5 ET; go_wp2_with fail; replace ER := hid (ZH (ER.out) (.int .i64 0) (.int .i64 n.tok.pos) (.string ⟨#[]⟩) (.int .i64 0) (.slice none 0 0)); replace HB := xS HB ER; obtain ⟨r0, r1, r2, r3, r4⟩ := xQ5 ER; refine jG (v := .tuple #[.agg #[.int .i64 0, .int .i64 n.tok.pos, .string ⟨#[]⟩, .int .i64 0, .slice none 0 0], .int .i64 p]) (by simp [results, Tryd.results76, go_sem, r0, r1, r2, r3, r4]) rfl ?_; exact jr (by rw [HP.out, Fz.out]) HB ⟨_, _, _, _, _, _, _, rfl⟩
 | ok l =>
   dsimp only
   have hni := JJ hnd; have hll := hni.1; have Qb := hni.2.1; have yu := hni.2.2.1; clear hni; subst hll; obtain ⟨m, hm⟩ : ∃ m, n.list[0]? = some m := ⟨_, jA (by omega)⟩
   have hhd : n.list.headD n = m := by
    cases hl : n.list with
    | nil => rw [hl] at hm; cases hm
    | cons a r => rw [hl] at hm; simpa using hm
   have hgm := HG.out.kid (jI hm); replace HP := HP.out; rw [hnd] at HP
   dsimp only at HP
   rw [hhd] at HP; have vV := hid HP
   rcases HR.out with ⟨h0, _⟩ | ⟨g, of, c', hv, g1, g2, g3⟩
   . rw [h0] at Qb; simp at Qb
   injection hv with hq1 _ hq2
   subst hq1; subst hq2
   obtain ⟨u, hu, _, hcell⟩ := g3 0 m hm; obtain ⟨k1, kv, hk1, rfl, hkr, m0, m1, m2, m3, m4, m5⟩ := Jk hu hcell; simp only [KX, jZ] at m0 m1 m2 m3 m4 m5; have iG := hid hgm; have R8 := hid g3; have M2 := hid m2
   have M0 := hid m0; have M1 := hid m1; have M3 := hid m3; have M4 := hid m4; have M5 := hid m5
   have hz0 : (0 : Int) < (n.list.length : Int) := by omega
   clear hu hcell hkr HP hhd hgm hnd m0 m1 m2 m3 m4 m5 g3 hm Qb; obtain ⟨Jd, enc1, enc2, enc3, enc4, JZ, QI⟩ := xF6 EN; obtain ⟨j3, jv, jw, JH, JX, QH⟩ := xF5 ET; go_upto_region 18 with fail
   clear Jd enc1 enc2 enc3 enc4 JZ QI j3 jv jw JH JX QH; replace EN := hid (jO (EN.out) (w.heap.size + 2) 0 (.int .i64 3) (by omega)); replace ER := hid (jO (ER.out) (w.heap.size + 2) 0 (.int .i64 3) (by omega)); replace ET := hid (JI #[.int .i64 3, .int .i64 n.tok.pos, .string ⟨#[]⟩, .int .i64 0, .slice none 0 0] (ET.out) 0 (.int .i64 3) rfl); replace HB := hid (jN (HB.out) (p := ⟨w.heap.size + 2, 0, none⟩) (by dsimp only; omega) (.int .i64 3)); replace hsz : w.heap.size + 3 <= (w1.setCell ⟨w.heap.size + 2, 0, none⟩ (.int .i64 3)).heap.size := by simpa using hsz
   generalize w1.setCell ⟨w.heap.size + 2, 0, none⟩ (.int .i64 3) = wy at *; have n0 := jC HB M0; have n1 := jC HB M1; have n2 := jC HB M2; have n3 := jC HB M3; have n4 := jC HB M4; have n5 := jC HB M5; obtain ⟨Jd, enc1, enc2, enc3, enc4, JZ, QI⟩ := xF6 EN; go_wp2_with fail; clear Jd enc1 enc2 enc3 enc4 JZ QI; clear n0 n1 n2 n3 n4 n5; refine (KZ m kv _ iG).mono ?_; intro e w3 ht; cases hcn : Px.qD m with
   | error p =>
     obtain ⟨z, rfl, ⟨zs, rfl⟩, hb⟩ := Jb ht hcn; have hge : (p : Int) >= 0 := by omega
     replace hsz := bS hsz hb; replace ER := bE ER hb; replace ET := bE ET hb; replace HB := bT HB hb; clear hb; have Ou := hid hcn; clear ht hcn
     obtain ⟨j3, jv, jw, JH, JX, QH⟩ := xF5 ET; go_upto_region 19 with fail
     clear j3 jv jw JH JX QH; replace ER := hid (jO (ER.out) (w.heap.size + 2) 2 (.string zs) (by omega)); replace ET := hid (JI #[.int .i64 3, .int .i64 n.tok.pos, .string zs, .int .i64 0, .slice none 0 0] (ET.out) 2 (.string zs) rfl); replace HB := hid (jN (HB.out) (p := ⟨w.heap.size + 2, 2, none⟩) (by dsimp only; omega) (.string zs)); replace hsz : w.heap.size + 3 <= (w3.setCell ⟨w.heap.size + 2, 2, none⟩ (.string zs)).heap.size := by simpa using hsz
     generalize w3.setCell ⟨w.heap.size + 2, 2, none⟩ (.string zs) = wz at *; obtain ⟨J3, J4, qA, qJ, qW, Qx⟩ := xF5 ER; obtain ⟨j3, jv, jw, JH, JX⟩ := xQ5 ET; go_wp2_with fail; replace ER := hid (ZH (ER.out) (.int .i64 3) (.int .i64 n.tok.pos) (.string zs) (.int .i64 0) (.slice none 0 0)); replace HB := xS HB ER; obtain ⟨r0, r1, r2, r3, r4⟩ := xQ5 ER; refine jG (v := .tuple #[.agg #[.int .i64 3, .int .i64 n.tok.pos, .string zs, .int .i64 0, .slice none 0 0], .int .i64 p]) (by simp [results, Tryd.results76, go_sem, r0, r1, r2, r3, r4]) rfl ?_; exact jr (by rw [vV.out, Ou.out]) HB ⟨_, _, _, _, _, _, _, rfl⟩
   | ok nm =>
     obtain ⟨z, rfl, _, hnew, hb⟩ := Jm ht hcn; obtain rfl := hnew.now; replace hsz := bS hsz hb; replace EN := bE EN hb; replace ER := bE ER hb; replace ET := bE ET hb; replace HB := bT HB hb; clear hb; have vT := vV.out; rw [hcn] at vT
     dsimp only at vT
     have PT := hid vT; clear ht hcn hnew vT; obtain ⟨j3, jv, jw, JH, JX, QH⟩ := xF5 ET; go_upto_region 19 with fail
     clear j3 jv jw JH JX QH; replace EN := hid (jO (EN.out) (w.heap.size + 2) 2 (.string ⟨nm.toArray⟩) (by omega)); replace ER := hid (jO (ER.out) (w.heap.size + 2) 2 (.string ⟨nm.toArray⟩) (by omega)); replace ET := hid (JI #[.int .i64 3, .int .i64 n.tok.pos, .string ⟨nm.toArray⟩, .int .i64 0, .slice none 0 0] (ET.out) 2 (.string ⟨nm.toArray⟩) rfl); replace HB := hid (jN (HB.out) (p := ⟨w.heap.size + 2, 2, none⟩) (by dsimp only; omega) (.string ⟨nm.toArray⟩)); replace hsz : w.heap.size + 3 <= (w3.setCell ⟨w.heap.size + 2, 2, none⟩ (.string ⟨nm.toArray⟩)).heap.size := by simpa using hsz
     generalize w3.setCell ⟨w.heap.size + 2, 2, none⟩ (.string ⟨nm.toArray⟩) = wz at *; go_wp2_with fail; have xI : Hid (wz.ownsRow (w.heap.size + 3) 85 5 (.slice none 0 0) ([] : List Value).length (cellsOf [])) := hid (jo _ _ _ _)
     go_loopw [3, 8, 9, 10] (fun _ i _ _ wr => ∃ (j : Nat) (vs : List Value) (xs : List Px.QJ) (av : Value), i = .int .i64 (j + 1 : Nat) /\ j + 1 <= n.list.length /\ Hid (Px.each (Px.pat f) (n.list.tail.take j) = .ok xs) /\ Hid (vs.length = j) /\ Hid (qw (Kept (qj f) (w.heap.size + 3) wr av.ownBlock) vs xs /\ ∀ u ∈ vs, yS u) /\ Hid (wr.ownsRow (w.heap.size + 3) 85 5 av vs.length (cellsOf vs)) /\ w.heap.size + 3 <= wr.heap.size /\ Hid (wr.heap[w.heap.size]? = some (.cells #[.int .i64 n.tok.kind, .int .i64 n.tok.pos, .string ⟨n.tok.text.toArray⟩, .int .i64 n.tok.int, .bool true, .slice (some ⟨g, of, none⟩) n.list.length c] 73 (0, 0))) /\ Hid (wr.heap[w.heap.size + 1]? = some (.cells #[.int .i64 0, .int .i64 0, .string ⟨#[]⟩, .int .i64 0, .slice none 0 0] 85 (0, 0))) /\ Hid (wr.heap[w.heap.size + 2]? = some (.cells #[.int .i64 3, .int .i64 n.tok.pos, .string ⟨nm.toArray⟩, .int .i64 0, av] 85 (0, 0))) /\ Hid (Below w.heap.size w wr)) (fun _ i _ _ _ => n.list.length - (intOf i).toNat)
     case atStart => exact ⟨0, [], [], .slice none 0 0, rfl, by omega, hid (by simp [Px.each]), hid rfl, hid ⟨trivial, fun _ h => by cases h⟩, xI, hsz, EN, ER, ET, HB⟩
     case round =>
      clear EN ER ET HB hsz xI; obtain ⟨j, vs, xs, av, rfl, hj, HE, Gr, uz, HO, hsz, EN, ER, ET, HB⟩ := hrel; obtain ⟨Jd, enc1, enc2, enc3, enc4, JZ, QI⟩ := xF6 EN; by_cases hlt : j + 1 < n.list.length
      . obtain ⟨mj, Gs⟩ : ∃ mj, n.list[j + 1]? = some mj := ⟨_, jA hlt⟩
        have htl : n.list.tail[j]? = some mj := by rw [Xh]; exact Gs
        have hstep := Px.qU htl HE.out; obtain ⟨u, hu, _, hcell⟩ := R8.out (j + 1) mj Gs; have HU := hid (hu.below HB.out); have hih := YZ.out mj (jI Gs); obtain ⟨k2, Oo, hk2, rfl, hkr, m0, m1, m2, m3, m4, m5⟩ := Jk hu hcell; have n0 := jC HB m0; have n1 := jC HB m1; have n2 := jC HB m2; have n3 := jC HB m3; have n4 := jC HB m4; have n5 := jC HB m5; have dx := hid hih; have HST := hid hstep
        clear hu hcell hkr m0 m1 m2 m3 m4 m5 hih hstep htl Gs; obtain ⟨pa, ca, rfl⟩ := jH HO; go_wp2_with fail; clear Jd enc1 enc2 enc3 enc4 JZ QI; clear n0 n1 n2 n3 n4 n5; refine (dx.out _ _ HU.out).mono ?_; intro e w5 ht; cases Uf : Px.pat f mj with
        | error p =>
          obtain ⟨z, rfl, ⟨zk, zp, zs, zi, zq, zn, zc, rfl⟩, hb⟩ := Jb ht Uf; have hge : (p : Int) >= 0 := by omega
          have hbd := HST.out.2 p Uf; have MR := hid hbd; replace ER := bE ER hb; replace ET := bE ET hb; replace HB := bT HB hb; clear hb; replace ER := hid (JA ER (.cells #[.int .i64 zk, .int .i64 zp, .string zs, .int .i64 zi, .slice zq zn zc] 85)); replace ET := aO ET ER; replace HB := aB HB ER; clear ht Uf hbd; obtain ⟨J3, J4, qA, qJ, qW, Qx⟩ := xF5 ER; obtain ⟨j3, jv, jw, JH, JX⟩ := xQ5 ET; go_wp2_with fail; replace ER := hid (ZH (ER.out) (.int .i64 3) (.int .i64 n.tok.pos) (.string ⟨nm.toArray⟩) (.int .i64 0) (.slice pa vs.length ca)); replace HB := xS HB ER; obtain ⟨r0, r1, r2, r3, r4⟩ := xQ5 ER; refine jG (v := .tuple #[.agg #[.int .i64 3, .int .i64 n.tok.pos, .string ⟨nm.toArray⟩, .int .i64 0, .slice pa vs.length ca], .int .i64 p]) (by simp [results, Tryd.results76, go_sem, r0, r1, r2, r3, r4]) rfl ?_; exact jr (by rw [PT.out, MR.out]) HB ⟨_, _, _, _, _, _, _, rfl⟩
        | ok x =>
          obtain ⟨z, rfl, hsh, hnew, hb⟩ := Jm ht Uf; have hgd := HST.out.1 x Uf; have rF := hid hgd; have hk1 := VF (base := w.heap.size + 3) (ob := (Value.slice pa vs.length ca).ownBlock) hnew hsz hb.size (fun g hg => (HO.out.lt g hg).2); have WT := hid hk1; have zV := hid (jc HO hb); have Zt := hid (And.intro (uz.out.1.mono fun z y h => h.below hb) uz.out.2)
          have rG := hid hsh; obtain ⟨zk, zp, zs, zi, zq, zn, zc, rfl⟩ := hsh; replace hsz := bS hsz hb; replace EN := bE EN hb; replace ER := bE ER hb; replace ET := bE ET hb; replace HB := bT HB hb; clear hb; clear ht Uf hgd hk1 hnew; replace EN := hid (JA EN (.cells #[.int .i64 zk, .int .i64 zp, .string zs, .int .i64 zi, .slice zq zn zc] 85)); replace ER := aO ER EN; replace ET := aO ET EN; replace HB := aB HB EN; have hal : Below w5.heap.size w5 (w5.alloc (.cells #[.int .i64 zk, .int .i64 zp, .string zs, .int .i64 zi, .slice zq zn zc] 85)) := (jD _ _).alloc (jB _) _; replace WT := hid (WT.out.below hal); replace zV := hid (jc zV hal); replace Zt := hid (And.intro (Zt.out.1.mono fun z y h => h.below hal) Zt.out.2)
          replace hsz := jS hsz hal.size; have x0 : (w5.alloc (.cells #[.int .i64 zk, .int .i64 zp, .string zs, .int .i64 zi, .slice zq zn zc] 85)).cell? ⟨w5.heap.size, 0, none⟩ = some (.int .i64 zk) := by rw [jT]; rfl
          have x1 : (w5.alloc (.cells #[.int .i64 zk, .int .i64 zp, .string zs, .int .i64 zi, .slice zq zn zc] 85)).cell? ⟨w5.heap.size, 1, none⟩ = some (.int .i64 zp) := by rw [jT]; rfl
          have x2 : (w5.alloc (.cells #[.int .i64 zk, .int .i64 zp, .string zs, .int .i64 zi, .slice zq zn zc] 85)).cell? ⟨w5.heap.size, 2, none⟩ = some (.string zs) := by rw [jT]; rfl
          have x3 : (w5.alloc (.cells #[.int .i64 zk, .int .i64 zp, .string zs, .int .i64 zi, .slice zq zn zc] 85)).cell? ⟨w5.heap.size, 3, none⟩ = some (.int .i64 zi) := by rw [jT]; rfl
          have x4 : (w5.alloc (.cells #[.int .i64 zk, .int .i64 zp, .string zs, .int .i64 zi, .slice zq zn zc] 85)).cell? ⟨w5.heap.size, 4, none⟩ = some (.slice zq zn zc) := by rw [jT]; rfl
          clear hal; obtain ⟨j3, jv, jw, JH, JX, QH⟩ := xF5 ET; go_upto_region 27 with fail
          clear j3 jv jw JH JX QH; generalize w5.alloc (.cells #[.int .i64 zk, .int .i64 zp, .string zs, .int .i64 zi, .slice zq zn zc] 85) = W5 at *; obtain ⟨j3, jv, jw, JH, JX, QH⟩ := xF5 ET; go_wp2_with (at_builtin; refine qi _ rfl (.tmp 97) (.tmp 99) 83 rfl (w.heap.size + 3) 85 i0 (.agg #[.int .i64 0, .int .i64 0, .string ⟨#[]⟩, .int .i64 0, .slice none 0 0]) 5 64 Tryd.underlying83 I0 PQ PR PS rfl (by decide) _ vs.length _ rfl (zV.out.alloc _) ⟨W5.heap.size, 0, none⟩ 1 1 [.int .i64 zk, .int .i64 zp, .string zs, .int .i64 zi, .slice zq zn zc] rfl (by decide) rfl ?c1 ?c2 ?c3 ?c4 ?c5 ?_)
          case c1 => exact fun j u h => rO W5 _ _ _ _ _ _ j u h
          case c2 => intro u hu; simp only [jf, Ja, Qu] at hu; rcases hu with rfl | rfl | rfl | rfl | rfl <;> rfl
          case c3 => have := Gr.out; unfold maxLen; omega
          case c4 => have := Gr.out; omega
          case c5 => simp; omega
          intro v6 w6 hown hgr hloc; clear j3 jv jw JH JX QH; clear x0 x1 x2 x3 x4; have uo : ∀ kk, (Value.slice pa vs.length ca).ownBlock = some kk -> w.heap.size + 3 <= kk := fun kk hkk => (zV.out.lt kk hkk).1
          replace EN := hid ((hgr.block (w.heap.size) (by have := ji EN; simp; omega) (fun e => by have := uo _ e.symm; omega)).trans (JA EN (.cells #[.int .i64 zk, .int .i64 zp, .string zs, .int .i64 zi, .slice zq zn zc] 85))); replace ER := hid ((hgr.block (w.heap.size + 1) (by have := ji ER; simp; omega) (fun e => by have := uo _ e.symm; omega)).trans (JA ER (.cells #[.int .i64 zk, .int .i64 zp, .string zs, .int .i64 zi, .slice zq zn zc] 85))); replace ET := hid ((hgr.block (w.heap.size + 2) (by have := ji ET; simp; omega) (fun e => by have := uo _ e.symm; omega)).trans (JA ET (.cells #[.int .i64 zk, .int .i64 zp, .string zs, .int .i64 zi, .slice zq zn zc] 85))); replace HB := hid ((HB.out.alloc HB.out.size (.cells #[.int .i64 zk, .int .i64 zp, .string zs, .int .i64 zi, .slice zq zn zc] 85)).grown hgr (by have := HB.out.size; simp; omega) (fun kk hkk => by have := uo kk hkk; omega)); have hstep : ∀ z x, Kept (qj f) (w.heap.size + 3) W5 (Value.slice pa vs.length ca).ownBlock z x -> Kept (qj f) (w.heap.size + 3) w6 v6.ownBlock z x := fun z x hk => (hk.below ((jD _ _).alloc (jB _) (.cells #[.int .i64 zk, .int .i64 zp, .string zs, .int .i64 zi, .slice zq zn zc] 85))).step hgr.size (fun b hb1 hb2 => hgr.block b hb1 (fun e => hb2 e.symm)) (by rw [Jt]; exact hloc)
          have Ya : qw (Kept (qj f) (w.heap.size + 3) w6 v6.ownBlock) (vs ++ [.agg #[.int .i64 zk, .int .i64 zp, .string zs, .int .i64 zi, .slice zq zn zc]]) (xs ++ [x]) := qw.snoc (hstep _ _ WT.out) (Zt.out.1.mono hstep); rw [<- cells5] at hown; have hs6 : w.heap.size + 3 <= w6.heap.size := by have := hgr.size; simp at this; omega
          obtain ⟨p6, c6, rfl⟩ := jH hown; have uD := hid hown; have rH := hid Ya
          clear hown hgr hloc uo hstep Ya hsz; have JX := xK ET 4 rfl; have QH := jX ET; go_wp2; replace EN := hid (jO (EN.out) (w.heap.size + 2) 4 (.slice p6 (vs.length + 1) c6) (by omega)); replace ER := hid (jO (ER.out) (w.heap.size + 2) 4 (.slice p6 (vs.length + 1) c6) (by omega)); replace ET := hid (JI #[.int .i64 3, .int .i64 n.tok.pos, .string ⟨nm.toArray⟩, .int .i64 0, .slice p6 (vs.length + 1) c6] (ET.out) 4 (.slice p6 (vs.length + 1) c6) rfl); replace HB := hid (jN (HB.out) (p := ⟨w.heap.size + 2, 4, none⟩) (by dsimp only; omega) (.slice p6 (vs.length + 1) c6))
          go_roundw
          case rel => exact ⟨j + 1, vs ++ [.agg #[.int .i64 zk, .int .i64 zp, .string zs, .int .i64 zi, .slice zq zn zc]], xs ++ [x], .slice p6 (vs.length + 1) c6, by go_num, by omega, rF, hid (by have := Gr.out; simp [this]), hid ⟨rH.out.mono fun z y h => uw h (by omega), fun u hu => (jW.1 hu).elim (fun h => Zt.out.2 u h) (fun h => by rw [j4.1 h]; exact rG.out)⟩, hid (by rw [jE]; exact Kb uD (by omega)), by simpa using hs6, EN, ER, ET, HB⟩
          case measure => simp [intOf]; omega
      . have Ey : j = n.list.tail.length := by rw [ZF]; omega
        have he := HE.out; rw [Ey, jY] at he; have uh := hid he; have rJ := hid (qw.len uz.out.1); obtain ⟨pa, ca, rfl⟩ := jH HO; clear he Ey; clear Jd enc1 enc2 enc3 enc4 JZ QI; have JZ := xK EN 5 rfl; obtain ⟨J3, J4, qA, qJ, qW, Qx⟩ := xF5 ER; obtain ⟨j3, jv, jw, JH, JX⟩ := xQ5 ET; go_wp2_with fail; replace ER := hid (ZH (ER.out) (.int .i64 3) (.int .i64 n.tok.pos) (.string ⟨nm.toArray⟩) (.int .i64 0) (.slice pa vs.length ca)); replace HB := xS HB ER; obtain ⟨r0, r1, r2, r3, r4⟩ := xQ5 ER; refine jG (v := .tuple #[.agg #[.int .i64 3, .int .i64 n.tok.pos, .string ⟨nm.toArray⟩, .int .i64 0, .slice pa vs.length ca], .int .i64 (-1)]) (by simp [results, Tryd.results76, go_sem, r0, r1, r2, r3, r4]) rfl ?_; exact Jq (x := Px.QJ.mk 3 n.pos nm 0 xs) (by rw [PT.out, uh.out]) HB ⟨_, _, _, _, _, _, _, rfl⟩ (fun u hu => ⟨_, rfl, uu HO rJ uz.out.1 (fun v hv => xJ (uz.out.2 v hv)) u (fun b h1 h2 => (hu b (by omega) (by simpa using h2)).trans (xL _ _ b _ _ _ _ _ (by omega)))⟩)
theorem yl (n : Px.Node) (lv : Value) (K : Int) (b : Bool) (w : World) (h : (!Px.jR n && n.tok.kind == K) = b) : Calls Tryd.prog 41 #[nV n lv, .int .i64 K] w fun e w' => e = .returned (.bool b) /\ Below w.heap.size w w' := by
 rw [<- h]; exact yF n lv K w
theorem Zc (f : Nat) (n : Px.Node) (hg : Px.jq n) (hl : Px.jR n = false) :
 (n.tok.kind = 5 -> n.tok.text = [95] -> Px.pat (f + 1) n = .ok (.mk 0 n.pos [] 0 [])) /\ (n.tok.kind = 2 -> Px.pat (f + 1) n = .ok (.mk 2 n.pos [] n.tok.int [])) /\ (n.tok.kind = 4 -> Px.pat (f + 1) n = .ok (.mk 3 n.pos n.text 0 [])) /\
   (¬ (n.tok.kind = 5 /\ n.tok.text = [95]) -> n.tok.kind ≠ 2 -> n.tok.kind ≠ 4 -> Px.pat (f + 1) n = match Px.name n with | .ok s => .ok (.mk 1 n.pos s 0 []) | .error p => .error p) := by
 have h0 : Px.pat (f + 1) n = if Px.yB n then .ok (.mk 2 n.pos [] n.tok.int []) else if Px.qY n then .ok (.mk 3 n.pos n.text 0 []) else if Px.qR n then .ok (.mk 1 n.pos n.text 0 []) else if n.text = [95] then .ok (.mk 0 n.pos [] 0 []) else .error n.pos := by
  rw [Px.pat, hl]; rfl
 have hi : Px.yB n = (n.tok.kind == 2) := rfl; have hc : Px.qY n = (n.tok.kind == 4) := rfl; refine ⟨fun h5 ht => ?_, fun h2 => ?_, fun h4 => ?_, fun h5 h2 h4 => ?_⟩
 . have hnm : Px.qR n = false := by unfold Px.qR; rw [h5]; simp
   rw [h0, hi, hc, h5, hnm]; have : n.text = [95] := ht; simp [this]
 . rw [h0, hi, h2]; simp
 . rw [h0, hi, hc, h4]; simp
 . have e2 : (n.tok.kind == 2) = false := qF.2 h2; have e4 : (n.tok.kind == 4) = false := qF.2 h4; rw [h0, hi, hc, e2, e4]; unfold Px.name; by_cases hn : Px.qR n = true
   . simp [hn]
   . have ht : ¬ n.text = [95] := by
      intro ht; have hk := Px.Yt hg hl [95] ht (by unfold Px.Plain; simp); exact h5 ⟨hk, ht⟩
     simp [hn, ht]
end Go.Proofs.YtlnjdclmopblcaaDoor
