/-
  Several texts in one: PCon, PAlt.
-/
import Derived.Test.YtnhndamfbeiljaaGreatDoorKPTypeE
import Derived.Test.YtnhndamfbeiljaaGreatDoorGEach
import Derived.Test.YtnhndamfbeiljaaGreatDoorKPPat
import Derived.Test.YtnhndamfbeiljaaGreatDoorKPExpr
import Derived.Test.YtnhndamfbeiljaaGreatDoorGRead
namespace Go.Proofs.YtnhndamfbeiljaaGreatDoor
open Go Go.RowKit
set_option linter.unusedVariables false
set_option linter.unusedSimpArgs false

theorem NodeAt.other {w : World} {g o : Nat} {n : Px.Node} {lv : Value} (h : NodeAt w g o n lv) (b j : Nat) (v : Value) (hne : g ≠ b) : NodeAt (w.setCell ⟨b, j, none⟩ v) g o n lv := by
  have e : ∀ i, (w.setCell ⟨b, j, none⟩ v).cell? ⟨g, i, none⟩ = w.cell? ⟨g, i, none⟩ := fun i => World.cell?_of_block (w := w) (a := ⟨g, i, none⟩) (Below.heap_setCell w ⟨b, j, none⟩ v g hne)
  exact ⟨by rw [e]; exact h.c0, by rw [e]; exact h.c1, by rw [e]; exact h.c2, by rw [e]; exact h.c3, by rw [e]; exact h.c4, by rw [e]; exact h.c5, h.small⟩

def ConAt (f : Nat) (u : World) (v : Value) (x : Px.Con) : Prop := ∃ av, v = .agg #[.int .i64 x.pos, .string ⟨x.name.toArray⟩, av] ∧ RowAt 3 (TypeAt f u) u av x.fields
theorem conAt_shape (f : Nat) (w : World) (v : Value) (x : Px.Con) (h : ConAt f w v x) : ShapeCon v := by
  obtain ⟨av, rfl, hr⟩ := h
  obtain ⟨q, c, rfl⟩ := hr.len
  exact ⟨_, _, _, rfl, by simp [Value.oneCell']⟩

set_option maxHeartbeats 2000000 in
theorem con_bad (k : Nat) (n : Px.Node) (lv : Value) (w : World) (hk : KidsAt w k lv n.list) (p : Nat) (hp : Px.nodes n 1 9 = .error p) :
    Calls Tryz.prog 91 #[nodeV n lv] w (fun e w' => e = wrongAt p ∧ Below w.heap.size w w') := by
  have HK := Lib.hid hk
  clear hk
  go_enter Tryz.func91, Tryz.ntmps91
  unfold nodeV
  go_wp2_with fail
  have EN := Lib.hid (ent_alloc (ent_new w #[.int .i64 n.tok.kind, .int .i64 n.tok.pos, .string ⟨n.tok.text.toArray⟩, .int .i64 n.tok.int, lv, .int .i64 n.takes] 105) (.cells #[.int .i64 0, .string ⟨#[]⟩, .slice none 0 0] 40))
  have ER0 := ent_new (w.alloc (.cells #[.int .i64 n.tok.kind, .int .i64 n.tok.pos, .string ⟨n.tok.text.toArray⟩, .int .i64 n.tok.int, lv, .int .i64 n.takes] 105)) #[.int .i64 0, .string ⟨#[]⟩, .slice none 0 0] 40
  rw [World.size_alloc] at ER0
  have ER := Lib.hid ER0
  have HB := Lib.hid (((Below.refl w.heap.size w).alloc (Nat.le_refl _) (.cells #[.int .i64 n.tok.kind, .int .i64 n.tok.pos, .string ⟨n.tok.text.toArray⟩, .int .i64 n.tok.int, lv, .int .i64 n.takes] 105)).alloc (by simp) (.cells #[.int .i64 0, .string ⟨#[]⟩, .slice none 0 0] 40))
  clear ER0
  refine (nodes_badI k n lv 1 9 1 9 _ rfl rfl (HK.out.below HB.out) (by omega) (by omega) p hp).mono ?_
  rintro e w1 ⟨rfl, hb⟩
  replace HB := Lib.hid (HB.out.trans (hb.mono HB.out.size))
  clear hb
  exact ⟨rfl, rfl, HB.out⟩

set_option maxHeartbeats 4000000 in
set_option maxRecDepth 100000 in
theorem con_ok (k : Nat) (n : Px.Node) (lv : Value) (w : World) (hk : KidsAt w k lv n.list) (l : List Px.Node) (hp : Px.nodes n 1 9 = .ok l) (m0 : Px.Node) (hm0 : n.list[0]? = some m0) (f : Nat) (hkf : k ≤ f) (out : Px.R Px.Con) (hout : Px.con f n = out) :
    Calls Tryz.prog 91 #[nodeV n lv] w (ToldN w (ConAt f) out) := by
  obtain ⟨hle, h2, h9, _⟩ := nodes_is hp
  have hle0 := hle
  rw [hle] at h2 h9
  obtain ⟨j, g, o, c, rfl, rfl, h3, h4, h5⟩ := hk.some (by intro e; rw [e] at h2; simp at h2)
  obtain ⟨kv0, hat0, hkm0⟩ := h5 0 m0 hm0
  rw [Nat.zero_mul, Nat.add_zero] at hat0
  have HAT0 := Lib.hid hat0; have HKM0 := Lib.hid hkm0; have HM0 := Lib.hid hm0
  clear hat0 hkm0 hm0
  have hne : ¬ n.list = [] := by intro e; rw [e] at h2; simp at h2
  have hbi1 : ¬ ((n.list.length : Int) < 1) := by omega
  have hbj0 : (0 : Int) < (n.list.length : Int) := by omega
  have HK := Lib.hid hk; have HP := Lib.hid hp
  clear h5 hk hp hle
  have HOUT := Lib.hid hout; clear hout
  have hgw : g < w.heap.size := World.block_lt_of_cell? w _ HAT0.out.c0
  have hgne : g ≠ w.heap.size + 1 := by omega
  have HLE := Lib.hid hle0
  have HH0 := Lib.hid (show l.headD n = m0 by rw [hle0, List.headD_eq_head?_getD, List.head?_eq_getElem?, HM0.out]; rfl)
  clear hle0
  go_enter Tryz.func91, Tryz.ntmps91
  unfold nodeV
  go_wp2_with fail
  have EN := Lib.hid (ent_alloc (ent_new w #[.int .i64 n.tok.kind, .int .i64 n.tok.pos, .string ⟨n.tok.text.toArray⟩, .int .i64 n.tok.int, (.slice (some ⟨g, o, none⟩) n.list.length c), .int .i64 n.takes] 105) (.cells #[.int .i64 0, .string ⟨#[]⟩, .slice none 0 0] 40))
  have ER0 := ent_new (w.alloc (.cells #[.int .i64 n.tok.kind, .int .i64 n.tok.pos, .string ⟨n.tok.text.toArray⟩, .int .i64 n.tok.int, (.slice (some ⟨g, o, none⟩) n.list.length c), .int .i64 n.takes] 105)) #[.int .i64 0, .string ⟨#[]⟩, .slice none 0 0] 40
  rw [World.size_alloc] at ER0
  have ER := Lib.hid ER0
  have HB := Lib.hid (((Below.refl w.heap.size w).alloc (Nat.le_refl _) (.cells #[.int .i64 n.tok.kind, .int .i64 n.tok.pos, .string ⟨n.tok.text.toArray⟩, .int .i64 n.tok.int, (.slice (some ⟨g, o, none⟩) n.list.length c), .int .i64 n.takes] 105)).alloc (by simp) (.cells #[.int .i64 0, .string ⟨#[]⟩, .slice none 0 0] 40))
  clear ER0
  refine (nodes_okI (j + 1) n (.slice (some ⟨g, o, none⟩) n.list.length c) 1 9 1 9 _ rfl rfl (HK.out.below HB.out) (by omega) (by omega) l HP.out).mono ?_
  rintro e w1 ⟨rfl, hb⟩
  replace EN := Lib.hid (ent_below EN.out hb)
  replace ER := Lib.hid (ent_below ER.out hb)
  replace HB := Lib.hid (HB.out.trans (hb.mono HB.out.size))
  clear hb
  go_wp2_with fail
  refine wp_region_held_drew (S := (fun w' => w'.heap[w.heap.size]? = some (.cells #[.int .i64 n.tok.kind, .int .i64 n.tok.pos, .string ⟨n.tok.text.toArray⟩, .int .i64 n.tok.int, (.slice (some ⟨g, o, none⟩) n.list.length c), .int .i64 n.takes] 105 (0, 0)) ∧ NodeAt w' g (o) m0 kv0)) (by kernel_rfl) (⟨EN.out, HAT0.out.below (HB.out.drew)⟩) (fun hHeld => ?_)
  refine wpAnyH_take (i := 0) (v := .agg #[.int .i64 n.tok.kind, .int .i64 n.tok.pos, .string ⟨n.tok.text.toArray⟩, .int .i64 n.tok.int, (.slice (some ⟨g, o, none⟩) n.list.length c), .int .i64 n.takes]) rfl (by kernel_rfl) (by kernel_rfl) (by kernel_rfl) (fun _ _ _ h => h) (Or.inl ⟨by rfl, fun w' hSw => by have h1 := hSw.1; have q0 := ent_cell h1 0 _ rfl; have q1 := ent_cell h1 1 _ rfl; have q2 := ent_cell h1 2 _ rfl; have q3 := ent_cell h1 3 _ rfl; have q4 := ent_cell h1 4 _ rfl; have q5 := ent_cell h1 5 _ rfl; go_simp⟩) hHeld ?_
  refine wpAnyH_take (i := 2) (v := (.slice (some ⟨g, o, none⟩) n.list.length c)) rfl (by kernel_rfl) (by kernel_rfl) (by kernel_rfl) (fun _ _ _ h => h) (Or.inl ⟨by rfl, fun w' hSw => by go_simp⟩) hHeld ?_
  refine wpAnyH_take (i := 3) (v := .pointer (some ⟨g, o, none⟩)) rfl (by kernel_rfl) (by kernel_rfl) (by kernel_rfl) (fun _ _ _ h => h) (Or.inl ⟨by rfl, fun w' hSw => by go_simp⟩) hHeld ?_
  refine wpAnyH_take (i := 4) (v := .agg #[.int .i64 m0.tok.kind, .int .i64 m0.tok.pos, .string ⟨m0.tok.text.toArray⟩, .int .i64 m0.tok.int, kv0, .int .i64 m0.takes]) rfl (by kernel_rfl) (by kernel_rfl) (by kernel_rfl) (fun _ _ _ h => h) (Or.inl ⟨by rfl, fun w' hSw => by obtain ⟨m0, m1, m2, m3, m4, m5⟩ := hSw.2; go_simp⟩) hHeld ?_
  refine wpAnyH_take (i := 6) (v := (.slice (some ⟨g, o, none⟩) n.list.length c)) rfl (by kernel_rfl) (by kernel_rfl) (by kernel_rfl) (fun _ _ _ h => h) (Or.inl ⟨by rfl, fun w' hSw => by go_simp⟩) hHeld ?_
  refine wpAnyH_take (i := 7) (v := .slice (if c = 1 then some ⟨g, o, none⟩ else some ⟨g, o + 6, none⟩) (n.list.length - 1) (c - 1)) rfl (by kernel_rfl) (by kernel_rfl) (by kernel_rfl) (fun _ _ _ h => h) (Or.inl ⟨by rfl, fun w' hSw => by go_simp⟩) hHeld ?_
  simp only [Act.put, List.setIfInBounds_toArray, List.set_cons_zero, List.set_cons_succ]
  refine wpAnyH_ready (rs := [1]) (by kernel_rfl) (by simp) ?_
  refine AllReadyH.cons rfl (fun K hK => ?_) AllReadyH.nil
  go_simp
  refine (pos_any n (.slice (some ⟨g, o, none⟩) n.list.length c) _).mono ?_
  rintro e w2 ⟨rfl, hb⟩
  have hbd := hb; replace hb := undrew hb
  replace ER := Lib.hid (ent_below ER.out hb)
  replace HB := Lib.hid (HB.out.trans (hb.mono HB.out.size))
  refine hK.out _ _ (⟨ent_below hHeld.1 hbd, (hHeld.2).below hbd⟩) (fun hHeld => ?_)
  clear hK K
  clear hb hbd
  refine wpAnyH_ready (rs := [5]) (by kernel_rfl) (by simp) ?_
  refine AllReadyH.cons rfl (fun K hK => ?_) AllReadyH.nil
  go_simp
  cases hh : Px.conName m0 with
  | error p =>
    refine (conName_bad m0 kv0 _ p hh).mono ?_
    rintro e w3 ⟨rfl, hb⟩
    have ho : out = .error p := by rw [← HOUT.out, Px.con, HP.out]; dsimp only; rw [HH0.out, hh]
    subst ho
    exact ⟨rfl, HB.out.trans (hb.mono HB.out.size), rfl⟩
  | ok nm =>
    refine (conName_ok m0 kv0 _ nm hh).mono ?_
    rintro e w3 ⟨rfl, hb⟩
    have HNM := Lib.hid hh; clear hh
    replace ER := Lib.hid (ent_below ER.out hb)
    replace HB := Lib.hid (HB.out.trans (hb.mono HB.out.size))
    refine hK.out _ _ (⟨ent_below hHeld.1 hb, (hHeld.2).below hb⟩) (fun hHeld => ?_)
    clear hK K
    clear hb
    refine wpAnyH_ready (rs := [8]) (by kernel_rfl) (by simp) ?_
    refine AllReadyH.cons rfl (fun K hK => ?_) AllReadyH.nil
    go_simp
    refine (eachTypeE_any 127 (fun _ _ => by kernel_rfl) (Px.typeE f) (TypeAt f) (typeAt_shape f) (j + 1) _ (n.list.drop 1) _ (kids_dropIf (HK.out.below HB.out) 1 (o + 6) (by omega) (by omega) rfl) (by rw [List.length_drop]; omega) (fun m _ j' kv' w1 hj _ hk' => typeE_any f m kv' j' w1 hk' (by omega))).mono ?_
    intro e w4 ht
    cases hr : Px.each (Px.typeE f) (n.list.drop 1) with
    | error p =>
      obtain ⟨rfl, hb⟩ := toldN_bad ht hr
      have ho : out = .error p := by rw [← HOUT.out, Px.con, HP.out]; dsimp only; rw [HH0.out, HNM.out]; dsimp only; rw [HLE.out, ← List.drop_one, hr]
      subst ho
      exact ⟨rfl, HB.out.trans (hb.mono HB.out.size), rfl⟩
    | ok xs =>
      obtain ⟨av, rfl, hnew, hb⟩ := toldN_ok ht hr
      obtain ⟨pv, cv, rfl⟩ := hnew.now.len
      have ho : out = .ok ⟨n.pos, nm, xs⟩ := by rw [← HOUT.out, Px.con, HP.out]; dsimp only; rw [HH0.out, HNM.out]; dsimp only; rw [HLE.out, ← List.drop_one, hr]
      subst ho
      have hws := ent_lt ER.out
      have Hnew := Lib.hid hnew
      replace ER := Lib.hid (ent_below ER.out hb)
      replace HB := Lib.hid (HB.out.trans (hb.mono HB.out.size))
      refine hK.out _ _ (⟨ent_below hHeld.1 hb, (hHeld.2).below hb⟩) (fun hHeld => ?_)
      clear hK K
      clear hb hr ht hnew
      refine wpAnyH_ready (rs := [9]) (by kernel_rfl) (by simp) ?_
      refine AllReadyH.cons rfl (fun K hK => ?_) AllReadyH.nil
      go_simp
      refine hK.out _ _ (hHeld) (fun hHeld => ?_)
      clear hK K
      have rf := ent_free ER.out
      have r0 := ent_cell ER.out 0 _ rfl
      have r1 := ent_cell ER.out 1 _ rfl
      have r2 := ent_cell ER.out 2 _ rfl
      refine wpAnyH_ready (rs := [10]) (by kernel_rfl) (by simp) ?_
      refine AllReadyH.cons rfl (fun K hK => ?_) AllReadyH.nil
      go_simp
      refine hK.out _ _ (⟨ent_other (ent_other (ent_other hHeld.1 _ 0 _ (by omega)) _ 1 _ (by omega)) _ 2 _ (by omega), (hHeld.2.other _ 0 _ hgne).other _ 1 _ hgne |>.other _ 2 _ hgne⟩) (fun hHeld => ?_)
      clear hK K
      refine wpAnyH_done (by kernel_rfl) ?_ _
      go_wp2_with fail
      all_goals
        refine bodyPost_ret (v := .agg #[.int .i64 n.pos, .string ⟨nm.toArray⟩, .slice pv xs.length cv]) (by simp [results, Tryz.results91, go_sem, Px.Node.text, r0, r1, r2]) rfl ?_
        refine ⟨?_, _, rfl, fun u hu => ⟨_, rfl, ?_⟩⟩
        · repeat (first | with_reducible exact HB.out | with_reducible refine Below.drew ?_ | with_reducible refine Below.setCell ?_ (by dsimp only; omega) _)
        · refine New.stay (w := w) Hnew.out (by omega) ?_ u hu
          repeat (first | with_reducible exact Stay.refl _ _ | with_reducible refine Stay.set ?_ _ _ _ (by omega))

theorem con_any (f k : Nat) (n : Px.Node) (lv : Value) (w : World) (hk : KidsAt w k lv n.list) (hkf : k ≤ f) : Calls Tryz.prog 91 #[nodeV n lv] w (ToldN w (ConAt f) (Px.con f n)) := by
  cases hnd : Px.nodes n 1 9 with
  | error p =>
    have : Px.con f n = .error p := by rw [Px.con, hnd]
    rw [this]
    exact (con_bad k n lv w hk p hnd).mono fun e w' ⟨h1, h2⟩ => ⟨h2, h1⟩
  | ok l =>
    obtain ⟨hle, h2, _, _⟩ := nodes_is hnd
    exact con_ok k n lv w hk l hnd (n.list[0]'(by rw [← hle]; omega)) (List.getElem?_eq_getElem _) f hkf _ rfl
end Go.Proofs.YtnhndamfbeiljaaGreatDoor

namespace Go.Proofs.YtnhndamfbeiljaaGreatDoor
open Go Go.RowKit
set_option linter.unusedVariables false
set_option linter.unusedSimpArgs false

theorem patAt_form (f : Nat) (w : World) (v : Value) (x : Px.Pat) (h : PatAt f w v x) : ∃ (k p i : Int) (s : ByteArray) (q1 : Option Addr) (n1 c1 : Nat),
    v = .agg #[.int .i64 k, .int .i64 p, .string s, .int .i64 i, .slice q1 n1 c1] := by
  cases f with
  | zero => exact h.elim
  | succ f =>
    obtain ⟨k, p, nm, i, args⟩ := x
    obtain ⟨av, rfl, h1⟩ := h
    obtain ⟨q1, c1, rfl⟩ := h1.len
    exact ⟨_, _, _, _, _, _, _, rfl⟩
def AltAt (f : Nat) (u : World) : Value → Px.Pat × Px.Expr → Prop := AltOf (PatAt f u) (ExprAt f u)
theorem altAt_shape (f : Nat) (w : World) (v : Value) (x : Px.Pat × Px.Expr) (h : AltAt f w v x) : ShapeAlt v := by
  obtain ⟨a0, a1, a2, a3, a4, b0, b1, b2, b3, b4, b5, b6, rfl, h1, h2⟩ := h
  obtain ⟨k, p, i, s, q1, n1, c1, e1⟩ := patAt_form f w _ _ h1
  obtain ⟨k', p', i', s', q1', n1', c1', q2, n2, c2, q3, n3, c3, e2⟩ := exprAt_form f w _ _ h2
  simp only [Value.agg.injEq, Array.mk.injEq, List.cons.injEq, and_true] at e1 e2
  obtain ⟨rfl, rfl, rfl, rfl, rfl⟩ := e1
  obtain ⟨rfl, rfl, rfl, rfl, rfl, rfl, rfl⟩ := e2
  exact ⟨_, _, _, _, _, _, _, _, _, _, _, _, rfl, by simp [Value.oneCell']⟩

/-- What a call of expr comes to, for nodes that are so deep at most. -/
def ExprC (f k : Nat) : Prop := ∀ (n : Px.Node) (lv : Value) (j : Nat) (w : World), KidsAt w j lv n.list → j < k → Calls Tryz.prog 81 #[nodeV n lv] w (ToldN w (ExprAt f) (Px.expr f n))

set_option maxHeartbeats 2000000 in
theorem alt_bad (k : Nat) (n : Px.Node) (lv : Value) (w : World) (hk : KidsAt w k lv n.list) (p : Nat) (hp : Px.nodes n 2 2 = .error p) :
    Calls Tryz.prog 156 #[nodeV n lv] w (fun e w' => e = wrongAt p ∧ Below w.heap.size w w') := by
  have HK := Lib.hid hk
  clear hk
  go_enter Tryz.func156, Tryz.ntmps156
  unfold nodeV
  go_wp2_with fail
  have EN := Lib.hid (ent_alloc (ent_new w #[.int .i64 n.tok.kind, .int .i64 n.tok.pos, .string ⟨n.tok.text.toArray⟩, .int .i64 n.tok.int, lv, .int .i64 n.takes] 105) (.cells #[.int .i64 0, .int .i64 0, .string ⟨#[]⟩, .int .i64 0, .slice none 0 0, .int .i64 0, .int .i64 0, .string ⟨#[]⟩, .int .i64 0, .slice none 0 0, .slice none 0 0, .slice none 0 0] 86))
  have ER0 := ent_new (w.alloc (.cells #[.int .i64 n.tok.kind, .int .i64 n.tok.pos, .string ⟨n.tok.text.toArray⟩, .int .i64 n.tok.int, lv, .int .i64 n.takes] 105)) #[.int .i64 0, .int .i64 0, .string ⟨#[]⟩, .int .i64 0, .slice none 0 0, .int .i64 0, .int .i64 0, .string ⟨#[]⟩, .int .i64 0, .slice none 0 0, .slice none 0 0, .slice none 0 0] 86
  rw [World.size_alloc] at ER0
  have ER := Lib.hid ER0
  have HB := Lib.hid (((Below.refl w.heap.size w).alloc (Nat.le_refl _) (.cells #[.int .i64 n.tok.kind, .int .i64 n.tok.pos, .string ⟨n.tok.text.toArray⟩, .int .i64 n.tok.int, lv, .int .i64 n.takes] 105)).alloc (by simp) (.cells #[.int .i64 0, .int .i64 0, .string ⟨#[]⟩, .int .i64 0, .slice none 0 0, .int .i64 0, .int .i64 0, .string ⟨#[]⟩, .int .i64 0, .slice none 0 0, .slice none 0 0, .slice none 0 0] 86))
  clear ER0
  refine (nodes_badI k n lv 2 2 2 2 _ rfl rfl (HK.out.below HB.out) (by omega) (by omega) p hp).mono ?_
  rintro e w1 ⟨rfl, hb⟩
  replace HB := Lib.hid (HB.out.trans (hb.mono HB.out.size))
  clear hb
  exact ⟨rfl, rfl, HB.out⟩

set_option maxHeartbeats 4000000 in
set_option maxRecDepth 100000 in
theorem alt_ok (k : Nat) (n : Px.Node) (lv : Value) (w : World) (hk : KidsAt w k lv n.list) (l : List Px.Node) (hp : Px.nodes n 2 2 = .ok l) (m0 : Px.Node) (hm0 : n.list[0]? = some m0) (m1 : Px.Node) (hm1 : n.list[1]? = some m1) (f : Nat) (hkf : k ≤ f) (hex : ExprC f k) (out : Px.R (Px.Pat × Px.Expr)) (hout : Px.alt f (Px.expr f) n = out) :
    Calls Tryz.prog 156 #[nodeV n lv] w (ToldN w (AltAt f) out) := by
  obtain ⟨hle, h2, h9, _⟩ := nodes_is hp
  have hle0 := hle
  rw [hle] at h2 h9
  obtain ⟨j, g, o, c, rfl, rfl, h3, h4, h5⟩ := hk.some (by intro e; rw [e] at h2; simp at h2)
  obtain ⟨kv0, hat0, hkm0⟩ := h5 0 m0 hm0
  rw [Nat.zero_mul, Nat.add_zero] at hat0
  have HAT0 := Lib.hid hat0; have HKM0 := Lib.hid hkm0; have HM0 := Lib.hid hm0
  clear hat0 hkm0 hm0
  obtain ⟨kv1, hat1, hkm1⟩ := h5 1 m1 hm1
  simp only [Nat.reduceMul] at hat1
  have HAT1 := Lib.hid hat1; have HKM1 := Lib.hid hkm1; have HM1 := Lib.hid hm1
  clear hat1 hkm1 hm1
  have hne : ¬ n.list = [] := by intro e; rw [e] at h2; simp at h2
  have hbi1 : ¬ ((n.list.length : Int) < 1) := by omega
  have hbi2 : ¬ ((n.list.length : Int) < 2) := by omega
  have hbj0 : (0 : Int) < (n.list.length : Int) := by omega
  have hbj1 : (1 : Int) < (n.list.length : Int) := by omega
  have HK := Lib.hid hk; have HP := Lib.hid hp
  clear h5 hk hp hle
  have HOUT := Lib.hid hout; clear hout
  have hgw : g < w.heap.size := World.block_lt_of_cell? w _ HAT0.out.c0
  have hgne : g ≠ w.heap.size + 1 := by omega
  have HLE := Lib.hid hle0
  have HH0 := Lib.hid (show l.headD n = m0 by rw [hle0, List.headD_eq_head?_getD, List.head?_eq_getElem?, HM0.out]; rfl)
  have HH1 := Lib.hid (show l.getD 1 n = m1 by rw [hle0, List.getD_eq_getElem?_getD, HM1.out]; rfl)
  have HEX := Lib.hid hex; clear hle0 hex
  go_enter Tryz.func156, Tryz.ntmps156
  unfold nodeV
  go_wp2_with fail
  have EN := Lib.hid (ent_alloc (ent_new w #[.int .i64 n.tok.kind, .int .i64 n.tok.pos, .string ⟨n.tok.text.toArray⟩, .int .i64 n.tok.int, (.slice (some ⟨g, o, none⟩) n.list.length c), .int .i64 n.takes] 105) (.cells #[.int .i64 0, .int .i64 0, .string ⟨#[]⟩, .int .i64 0, .slice none 0 0, .int .i64 0, .int .i64 0, .string ⟨#[]⟩, .int .i64 0, .slice none 0 0, .slice none 0 0, .slice none 0 0] 86))
  have ER0 := ent_new (w.alloc (.cells #[.int .i64 n.tok.kind, .int .i64 n.tok.pos, .string ⟨n.tok.text.toArray⟩, .int .i64 n.tok.int, (.slice (some ⟨g, o, none⟩) n.list.length c), .int .i64 n.takes] 105)) #[.int .i64 0, .int .i64 0, .string ⟨#[]⟩, .int .i64 0, .slice none 0 0, .int .i64 0, .int .i64 0, .string ⟨#[]⟩, .int .i64 0, .slice none 0 0, .slice none 0 0, .slice none 0 0] 86
  rw [World.size_alloc] at ER0
  have ER := Lib.hid ER0
  have HB := Lib.hid (((Below.refl w.heap.size w).alloc (Nat.le_refl _) (.cells #[.int .i64 n.tok.kind, .int .i64 n.tok.pos, .string ⟨n.tok.text.toArray⟩, .int .i64 n.tok.int, (.slice (some ⟨g, o, none⟩) n.list.length c), .int .i64 n.takes] 105)).alloc (by simp) (.cells #[.int .i64 0, .int .i64 0, .string ⟨#[]⟩, .int .i64 0, .slice none 0 0, .int .i64 0, .int .i64 0, .string ⟨#[]⟩, .int .i64 0, .slice none 0 0, .slice none 0 0, .slice none 0 0] 86))
  clear ER0
  refine (nodes_okI (j + 1) n (.slice (some ⟨g, o, none⟩) n.list.length c) 2 2 2 2 _ rfl rfl (HK.out.below HB.out) (by omega) (by omega) l HP.out).mono ?_
  rintro e w1 ⟨rfl, hb⟩
  replace EN := Lib.hid (ent_below EN.out hb)
  replace ER := Lib.hid (ent_below ER.out hb)
  replace HB := Lib.hid (HB.out.trans (hb.mono HB.out.size))
  clear hb
  go_wp2_with fail
  refine wp_region_held_drew (S := (fun w' => w'.heap[w.heap.size]? = some (.cells #[.int .i64 n.tok.kind, .int .i64 n.tok.pos, .string ⟨n.tok.text.toArray⟩, .int .i64 n.tok.int, (.slice (some ⟨g, o, none⟩) n.list.length c), .int .i64 n.takes] 105 (0, 0)) ∧ NodeAt w' g (o) m0 kv0 ∧ NodeAt w' g (o + 6) m1 kv1)) (by kernel_rfl) (⟨EN.out, HAT0.out.below (HB.out.drew), HAT1.out.below (HB.out.drew)⟩) (fun hHeld => ?_)
  refine wpAnyH_take (i := 0) (v := (.slice (some ⟨g, o, none⟩) n.list.length c)) rfl (by kernel_rfl) (by kernel_rfl) (by kernel_rfl) (fun _ _ _ h => h) (Or.inl ⟨by rfl, fun w' hSw => by go_simp⟩) hHeld ?_
  refine wpAnyH_take (i := 1) (v := .pointer (some ⟨g, o, none⟩)) rfl (by kernel_rfl) (by kernel_rfl) (by kernel_rfl) (fun _ _ _ h => h) (Or.inl ⟨by rfl, fun w' hSw => by go_simp⟩) hHeld ?_
  refine wpAnyH_take (i := 2) (v := .agg #[.int .i64 m0.tok.kind, .int .i64 m0.tok.pos, .string ⟨m0.tok.text.toArray⟩, .int .i64 m0.tok.int, kv0, .int .i64 m0.takes]) rfl (by kernel_rfl) (by kernel_rfl) (by kernel_rfl) (fun _ _ _ h => h) (Or.inl ⟨by rfl, fun w' hSw => by obtain ⟨m0, m1, m2, m3, m4, m5⟩ := hSw.2.1; go_simp⟩) hHeld ?_
  refine wpAnyH_take (i := 4) (v := (.slice (some ⟨g, o, none⟩) n.list.length c)) rfl (by kernel_rfl) (by kernel_rfl) (by kernel_rfl) (fun _ _ _ h => h) (Or.inl ⟨by rfl, fun w' hSw => by go_simp⟩) hHeld ?_
  refine wpAnyH_take (i := 5) (v := .pointer (some ⟨g, o + 6, none⟩)) rfl (by kernel_rfl) (by kernel_rfl) (by kernel_rfl) (fun _ _ _ h => h) (Or.inl ⟨by rfl, fun w' hSw => by go_simp⟩) hHeld ?_
  refine wpAnyH_take (i := 6) (v := .agg #[.int .i64 m1.tok.kind, .int .i64 m1.tok.pos, .string ⟨m1.tok.text.toArray⟩, .int .i64 m1.tok.int, kv1, .int .i64 m1.takes]) rfl (by kernel_rfl) (by kernel_rfl) (by kernel_rfl) (fun _ _ _ h => h) (Or.inl ⟨by rfl, fun w' hSw => by obtain ⟨m0, m1, m2, m3, m4, m5⟩ := hSw.2.2; go_simp⟩) hHeld ?_
  simp only [Act.put, List.setIfInBounds_toArray, List.set_cons_zero, List.set_cons_succ]
  refine wpAnyH_ready (rs := [3]) (by kernel_rfl) (by simp) ?_
  refine AllReadyH.cons rfl (fun K hK => ?_) AllReadyH.nil
  go_simp
  refine (pat_any f m0 kv0 j _ (HKM0.out.below HB.out.drew) (by omega)).mono ?_
  intro e w3 ht
  cases hh : Px.pat f m0 with
  | error p =>
    obtain ⟨rfl, hb⟩ := toldN_bad ht hh
    have ho : out = .error p := by rw [← HOUT.out, Px.alt, HP.out]; dsimp only; rw [HH0.out, hh]
    subst ho
    exact ⟨rfl, HB.out.trans ((undrew hb).mono HB.out.size), rfl⟩
  | ok px =>
    obtain ⟨pv, rfl, hnew, hb⟩ := toldN_ok ht hh
    obtain ⟨pk, pp, pi, ps, pq, pn, pc, rfl⟩ := patAt_form f _ _ _ hnew.now
    have HPX := Lib.hid hh; clear hh
    have Hp1 := Lib.hid hnew; clear hnew ht
    have hs1 := HB.out.size; have hw1 := ent_lt ER.out
    have hbd := hb; replace hb := undrew hb
    replace ER := Lib.hid (ent_below ER.out hb)
    replace HB := Lib.hid (HB.out.trans (hb.mono HB.out.size))
    refine hK.out _ _ (⟨ent_below hHeld.1 hbd, (hHeld.2.1).below hbd, (hHeld.2.2).below hbd⟩) (fun hHeld => ?_)
    clear hK K
    clear hb hbd
    refine wpAnyH_ready (rs := [7]) (by kernel_rfl) (by simp) ?_
    refine AllReadyH.cons rfl (fun K hK => ?_) AllReadyH.nil
    go_simp
    refine (HEX.out m1 kv1 j _ (HKM1.out.below HB.out) (by omega)).mono ?_
    intro e w4 ht
    cases hr : Px.expr f m1 with
    | error p =>
      obtain ⟨rfl, hb⟩ := toldN_bad ht hr
      have ho : out = .error p := by rw [← HOUT.out, Px.alt, HP.out]; dsimp only; rw [HH0.out, HPX.out]; dsimp only; rw [HH1.out, hr]
      subst ho
      exact ⟨rfl, HB.out.trans (hb.mono HB.out.size), rfl⟩
    | ok x =>
      obtain ⟨av, rfl, hnew, hb⟩ := toldN_ok ht hr
      obtain ⟨xk, xp, xi, xs, q1, n1, c1, q2, n2, c2, q3, n3, c3, rfl⟩ := exprAt_form f _ _ _ hnew.now
      have ho : out = .ok (px, x) := by rw [← HOUT.out, Px.alt, HP.out]; dsimp only; rw [HH0.out, HPX.out]; dsimp only; rw [HH1.out, hr]
      subst ho
      have hws := ent_lt ER.out
      have Hnew := Lib.hid hnew
      have Hst := Lib.hid ((Stay.refl w1.heap.size w3).below hb)
      replace ER := Lib.hid (ent_below ER.out hb)
      replace HB := Lib.hid (HB.out.trans (hb.mono HB.out.size))
      refine hK.out _ _ (⟨ent_below hHeld.1 hb, (hHeld.2.1).below hb, (hHeld.2.2).below hb⟩) (fun hHeld => ?_)
      clear hK K
      clear hb hr ht hnew
      refine wpAnyH_ready (rs := [8]) (by kernel_rfl) (by simp) ?_
      refine AllReadyH.cons rfl (fun K hK => ?_) AllReadyH.nil
      go_simp
      refine hK.out _ _ (hHeld) (fun hHeld => ?_)
      clear hK K
      have rf := ent_free ER.out
      have r0 := ent_cell ER.out 0 _ rfl
      have r1 := ent_cell ER.out 1 _ rfl
      have r2 := ent_cell ER.out 2 _ rfl
      have r3 := ent_cell ER.out 3 _ rfl
      have r4 := ent_cell ER.out 4 _ rfl
      have r5 := ent_cell ER.out 5 _ rfl
      have r6 := ent_cell ER.out 6 _ rfl
      have r7 := ent_cell ER.out 7 _ rfl
      have r8 := ent_cell ER.out 8 _ rfl
      have r9 := ent_cell ER.out 9 _ rfl
      have r10 := ent_cell ER.out 10 _ rfl
      have r11 := ent_cell ER.out 11 _ rfl
      refine wpAnyH_ready (rs := [9]) (by kernel_rfl) (by simp) ?_
      refine AllReadyH.cons rfl (fun K hK => ?_) AllReadyH.nil
      go_simp
      refine hK.out _ _ (⟨ent_other (ent_other (ent_other (ent_other (ent_other (ent_other (ent_other (ent_other (ent_other (ent_other (ent_other (ent_other (hHeld.1) (w.heap.size + 1) 0 _ (by omega)) (w.heap.size + 1) 1 _ (by omega)) (w.heap.size + 1) 2 _ (by omega)) (w.heap.size + 1) 3 _ (by omega)) (w.heap.size + 1) 4 _ (by omega)) (w.heap.size + 1) 5 _ (by omega)) (w.heap.size + 1) 6 _ (by omega)) (w.heap.size + 1) 7 _ (by omega)) (w.heap.size + 1) 8 _ (by omega)) (w.heap.size + 1) 9 _ (by omega)) (w.heap.size + 1) 10 _ (by omega)) (w.heap.size + 1) 11 _ (by omega), (NodeAt.other (NodeAt.other (NodeAt.other (NodeAt.other (NodeAt.other (NodeAt.other (NodeAt.other (NodeAt.other (NodeAt.other (NodeAt.other (NodeAt.other (NodeAt.other (hHeld.2.1) (w.heap.size + 1) 0 _ hgne) (w.heap.size + 1) 1 _ hgne) (w.heap.size + 1) 2 _ hgne) (w.heap.size + 1) 3 _ hgne) (w.heap.size + 1) 4 _ hgne) (w.heap.size + 1) 5 _ hgne) (w.heap.size + 1) 6 _ hgne) (w.heap.size + 1) 7 _ hgne) (w.heap.size + 1) 8 _ hgne) (w.heap.size + 1) 9 _ hgne) (w.heap.size + 1) 10 _ hgne) (w.heap.size + 1) 11 _ hgne), (NodeAt.other (NodeAt.other (NodeAt.other (NodeAt.other (NodeAt.other (NodeAt.other (NodeAt.other (NodeAt.other (NodeAt.other (NodeAt.other (NodeAt.other (NodeAt.other (hHeld.2.2) (w.heap.size + 1) 0 _ hgne) (w.heap.size + 1) 1 _ hgne) (w.heap.size + 1) 2 _ hgne) (w.heap.size + 1) 3 _ hgne) (w.heap.size + 1) 4 _ hgne) (w.heap.size + 1) 5 _ hgne) (w.heap.size + 1) 6 _ hgne) (w.heap.size + 1) 7 _ hgne) (w.heap.size + 1) 8 _ hgne) (w.heap.size + 1) 9 _ hgne) (w.heap.size + 1) 10 _ hgne) (w.heap.size + 1) 11 _ hgne)⟩) (fun hHeld => ?_)
      clear hK K
      refine wpAnyH_done (by kernel_rfl) ?_ _
      go_wp2_with fail
      refine bodyPost_ret (v := .agg #[.int .i64 pk, .int .i64 pp, .string ps, .int .i64 pi, .slice pq pn pc, .int .i64 xk, .int .i64 xp, .string xs, .int .i64 xi, .slice q1 n1 c1, .slice q2 n2 c2, .slice q3 n3 c3]) (by simp [results, Tryz.results156, go_sem, Px.Node.text, r0, r1, r2, r3, r4, r5, r6, r7, r8, r9, r10, r11]) rfl ?_
      refine ⟨?_, _, rfl, fun u hu => ⟨_, _, _, _, _, _, _, _, _, _, _, _, rfl, ?_, ?_⟩⟩
      · repeat (first | with_reducible exact HB.out | with_reducible refine Below.drew ?_ | with_reducible refine Below.setCell ?_ (by dsimp only; omega) _)
      · refine New.stay (w := w) (w1 := w1) (w2 := w3) Hp1.out hs1 ?_ u hu
        repeat (first | with_reducible exact Hst.out | with_reducible refine Stay.set ?_ _ _ _ (by omega))
      · refine New.stay (w := w) Hnew.out (by omega) ?_ u hu
        repeat (first | with_reducible exact Stay.refl _ _ | with_reducible refine Stay.set ?_ _ _ _ (by omega))

theorem alt_any (f k : Nat) (n : Px.Node) (lv : Value) (w : World) (hk : KidsAt w k lv n.list) (hkf : k ≤ f) (hex : ExprC f k) : Calls Tryz.prog 156 #[nodeV n lv] w (ToldN w (AltAt f) (Px.alt f (Px.expr f) n)) := by
  cases hnd : Px.nodes n 2 2 with
  | error p =>
    have : Px.alt f (Px.expr f) n = .error p := by rw [Px.alt, hnd]
    rw [this]
    exact (alt_bad k n lv w hk p hnd).mono fun e w' ⟨h1, h2⟩ => ⟨h2, h1⟩
  | ok l =>
    obtain ⟨hle, h2, _, _⟩ := nodes_is hnd
    exact alt_ok k n lv w hk l hnd (n.list[0]'(by rw [← hle]; omega)) (List.getElem?_eq_getElem _) (n.list[1]'(by rw [← hle]; omega)) (List.getElem?_eq_getElem _) f hkf hex _ rfl

theorem conName_part (n : Px.Node) (lv : Value) (w : World) : Calls Tryz.prog 88 #[nodeV n lv] w (ToldN w StrAt (Px.conName n)) := by
  refine (conName_any n lv w).mono fun e w' ⟨h1, h2⟩ => ⟨h1, ?_⟩
  revert h2
  cases Px.conName n with
  | error p => exact fun h => h
  | ok s => exact fun ⟨v, h, hv⟩ => ⟨v, h, fun _ _ => hv⟩
theorem row_one {α : Type} {sz : Nat} {rep : Value → α → Prop} {u : World} {g : Nat} {cs : Array Value} {T : TypeId} {fr : Nat × Nat} {x : α} (hu : u.heap[g]? = some (.cells cs T fr)) (hs : cs.size = sz) (hr : rep (.agg cs) x) :
    RowAt sz rep u (.slice (some ⟨g, 0, none⟩) 1 1) [x] := by
  refine .inr ⟨g, 0, 1, rfl, by simp, by omega, fun i y hy => ?_⟩
  cases i with
  | zero =>
    simp only [List.getElem?_cons_zero, Option.some.injEq] at hy
    subst hy
    exact ⟨_, hr, hs, fun j z hz => ent_cell hu _ _ (by rw [show 0 + 0 * sz + j = j by omega]; exact hz)⟩
  | succ i => simp at hy
end Go.Proofs.YtnhndamfbeiljaaGreatDoor
