/-
  Several texts in one: PList, POnly, PExprOf.
-/
import Derived.Test.YtnhndamfbeiljaaGreatDoorKPLet
import Derived.Test.YtnhndamfbeiljaaGreatDoorGFn
import Derived.Test.YtnhndamfbeiljaaGreatDoorGRead
import Derived.Recover
import Derived.BigRegion
import Derived.Deep.DeepCutAuto
import Derived.Test.YtnhndamfbeiljaaGreatDoorKPLetA
namespace Go.Proofs.YtnhndamfbeiljaaGreatDoor
open Go Go.RowKit
set_option linter.unusedVariables false
set_option linter.unusedSimpArgs false

set_option maxHeartbeats 2000000 in
set_option maxRecDepth 100000 in
theorem list_fn (k : Nat) (n : Px.Node) (lv : Value) (w : World) (hk : KidsAt w k lv n.list) (f : Nat) (r : Px.R Px.Expr) (wd : List UInt8) (hwd : Px.word n = wd) (h1 : (wd == [102, 110]) = true) (hcall : ∀ u, KidsAt u k lv n.list → Calls Tryz.prog 143 #[nodeV n lv] u (ToldN u (ExprAt f) r)) :
    Calls Tryz.prog 112 #[nodeV n lv] w (ToldN w (ExprAt f) r) := by
  have HK := Lib.hid hk; have HC := Lib.hid hcall; have HWD := Lib.hid hwd
  clear hk hcall hwd
  go_enter Tryz.func112, Tryz.ntmps112
  unfold nodeV
  go_wp2_with fail
  have EN := Lib.hid (ent_alloc (ent_new w #[.int .i64 n.tok.kind, .int .i64 n.tok.pos, .string ⟨n.tok.text.toArray⟩, .int .i64 n.tok.int, lv, .int .i64 n.takes] 105) (.cells #[.int .i64 0, .int .i64 0, .string ⟨#[]⟩, .int .i64 0, .slice none 0 0, .slice none 0 0, .slice none 0 0] 47))
  have ER0 := ent_new (w.alloc (.cells #[.int .i64 n.tok.kind, .int .i64 n.tok.pos, .string ⟨n.tok.text.toArray⟩, .int .i64 n.tok.int, lv, .int .i64 n.takes] 105)) #[.int .i64 0, .int .i64 0, .string ⟨#[]⟩, .int .i64 0, .slice none 0 0, .slice none 0 0, .slice none 0 0] 47
  rw [World.size_alloc] at ER0
  have ER := Lib.hid ER0
  have HB := Lib.hid (((Below.refl w.heap.size w).alloc (Nat.le_refl _) (.cells #[.int .i64 n.tok.kind, .int .i64 n.tok.pos, .string ⟨n.tok.text.toArray⟩, .int .i64 n.tok.int, lv, .int .i64 n.takes] 105)).alloc (by simp) (.cells #[.int .i64 0, .int .i64 0, .string ⟨#[]⟩, .int .i64 0, .slice none 0 0, .slice none 0 0, .slice none 0 0] 47))
  clear ER0
  refine (word_eq k n lv _ wd (HK.out.below HB.out) HWD.out).mono ?_
  rintro e w1 ⟨rfl, hb⟩
  replace EN := Lib.hid (ent_below EN.out hb)
  replace ER := Lib.hid (ent_below ER.out hb)
  replace HB := Lib.hid (HB.out.trans (hb.mono HB.out.size))
  clear hb
  have cf := ent_free EN.out
  have c0 := ent_cell EN.out 0 _ rfl
  have c1 := ent_cell EN.out 1 _ rfl
  have c2 := ent_cell EN.out 2 _ rfl
  have c3 := ent_cell EN.out 3 _ rfl
  have c4 := ent_cell EN.out 4 _ rfl
  have c5 := ent_cell EN.out 5 _ rfl
  go_wp2_with fail
  refine (HC.out _ (HK.out.below HB.out)).mono ?_
  intro e w2 ht
  cases r with
  | error p =>
    obtain ⟨rfl, hb⟩ := toldN_bad ht rfl
    exact ⟨rfl, HB.out.trans (hb.mono HB.out.size), rfl⟩
  | ok x =>
    obtain ⟨v, rfl, hnew, hb⟩ := toldN_ok ht rfl
    obtain ⟨xk, xp, xi, xs, q1, n1, c1, q2, n2, c2, q3, n3, c3, rfl⟩ := exprAt_form f _ _ _ hnew.now
    have hlo := HB.out.size; have hws := ent_lt ER.out
    have Hnew := Lib.hid hnew; clear hnew ht
    replace ER := Lib.hid (ent_below ER.out hb)
    replace HB := Lib.hid (HB.out.trans (hb.mono HB.out.size))
    clear hb
    have rf := ent_free ER.out
    have r0 := ent_cell ER.out 0 _ rfl
    have r1 := ent_cell ER.out 1 _ rfl
    have r2 := ent_cell ER.out 2 _ rfl
    have r3 := ent_cell ER.out 3 _ rfl
    have r4 := ent_cell ER.out 4 _ rfl
    have r5 := ent_cell ER.out 5 _ rfl
    have r6 := ent_cell ER.out 6 _ rfl
    go_wp2_with fail
    refine bodyPost_ret (v := .agg #[.int .i64 xk, .int .i64 xp, .string xs, .int .i64 xi, .slice q1 n1 c1, .slice q2 n2 c2, .slice q3 n3 c3]) (by simp [results, Tryz.results112, go_sem, Px.Node.text, r0, r1, r2, r3, r4, r5, r6]) rfl ?_
    refine ⟨?_, _, rfl, ?_⟩
    · repeat (first | with_reducible exact HB.out | with_reducible refine Below.drew ?_ | with_reducible refine Below.setCell ?_ (by dsimp only; omega) _)
    · refine New.stay (w := w) Hnew.out hlo ?_
      repeat (first | with_reducible exact Stay.refl _ _ | with_reducible refine Stay.set ?_ _ _ _ (by omega))

set_option maxHeartbeats 2000000 in
set_option maxRecDepth 100000 in
theorem list_let (k : Nat) (n : Px.Node) (lv : Value) (w : World) (hk : KidsAt w k lv n.list) (f : Nat) (r : Px.R Px.Expr) (wd : List UInt8) (hwd : Px.word n = wd) (h1 : (wd == [102, 110]) = false) (h2 : (wd == [108, 101, 116]) = true) (hcall : ∀ u, KidsAt u k lv n.list → Calls Tryz.prog 144 #[nodeV n lv] u (ToldN u (ExprAt f) r)) :
    Calls Tryz.prog 112 #[nodeV n lv] w (ToldN w (ExprAt f) r) := by
  have HK := Lib.hid hk; have HC := Lib.hid hcall; have HWD := Lib.hid hwd
  clear hk hcall hwd
  go_enter Tryz.func112, Tryz.ntmps112
  unfold nodeV
  go_wp2_with fail
  have EN := Lib.hid (ent_alloc (ent_new w #[.int .i64 n.tok.kind, .int .i64 n.tok.pos, .string ⟨n.tok.text.toArray⟩, .int .i64 n.tok.int, lv, .int .i64 n.takes] 105) (.cells #[.int .i64 0, .int .i64 0, .string ⟨#[]⟩, .int .i64 0, .slice none 0 0, .slice none 0 0, .slice none 0 0] 47))
  have ER0 := ent_new (w.alloc (.cells #[.int .i64 n.tok.kind, .int .i64 n.tok.pos, .string ⟨n.tok.text.toArray⟩, .int .i64 n.tok.int, lv, .int .i64 n.takes] 105)) #[.int .i64 0, .int .i64 0, .string ⟨#[]⟩, .int .i64 0, .slice none 0 0, .slice none 0 0, .slice none 0 0] 47
  rw [World.size_alloc] at ER0
  have ER := Lib.hid ER0
  have HB := Lib.hid (((Below.refl w.heap.size w).alloc (Nat.le_refl _) (.cells #[.int .i64 n.tok.kind, .int .i64 n.tok.pos, .string ⟨n.tok.text.toArray⟩, .int .i64 n.tok.int, lv, .int .i64 n.takes] 105)).alloc (by simp) (.cells #[.int .i64 0, .int .i64 0, .string ⟨#[]⟩, .int .i64 0, .slice none 0 0, .slice none 0 0, .slice none 0 0] 47))
  clear ER0
  refine (word_eq k n lv _ wd (HK.out.below HB.out) HWD.out).mono ?_
  rintro e w1 ⟨rfl, hb⟩
  replace EN := Lib.hid (ent_below EN.out hb)
  replace ER := Lib.hid (ent_below ER.out hb)
  replace HB := Lib.hid (HB.out.trans (hb.mono HB.out.size))
  clear hb
  have cf := ent_free EN.out
  have c0 := ent_cell EN.out 0 _ rfl
  have c1 := ent_cell EN.out 1 _ rfl
  have c2 := ent_cell EN.out 2 _ rfl
  have c3 := ent_cell EN.out 3 _ rfl
  have c4 := ent_cell EN.out 4 _ rfl
  have c5 := ent_cell EN.out 5 _ rfl
  go_wp2_with fail
  refine (HC.out _ (HK.out.below HB.out)).mono ?_
  intro e w2 ht
  cases r with
  | error p =>
    obtain ⟨rfl, hb⟩ := toldN_bad ht rfl
    exact ⟨rfl, HB.out.trans (hb.mono HB.out.size), rfl⟩
  | ok x =>
    obtain ⟨v, rfl, hnew, hb⟩ := toldN_ok ht rfl
    obtain ⟨xk, xp, xi, xs, q1, n1, c1, q2, n2, c2, q3, n3, c3, rfl⟩ := exprAt_form f _ _ _ hnew.now
    have hlo := HB.out.size; have hws := ent_lt ER.out
    have Hnew := Lib.hid hnew; clear hnew ht
    replace ER := Lib.hid (ent_below ER.out hb)
    replace HB := Lib.hid (HB.out.trans (hb.mono HB.out.size))
    clear hb
    have rf := ent_free ER.out
    have r0 := ent_cell ER.out 0 _ rfl
    have r1 := ent_cell ER.out 1 _ rfl
    have r2 := ent_cell ER.out 2 _ rfl
    have r3 := ent_cell ER.out 3 _ rfl
    have r4 := ent_cell ER.out 4 _ rfl
    have r5 := ent_cell ER.out 5 _ rfl
    have r6 := ent_cell ER.out 6 _ rfl
    go_wp2_with fail
    refine bodyPost_ret (v := .agg #[.int .i64 xk, .int .i64 xp, .string xs, .int .i64 xi, .slice q1 n1 c1, .slice q2 n2 c2, .slice q3 n3 c3]) (by simp [results, Tryz.results112, go_sem, Px.Node.text, r0, r1, r2, r3, r4, r5, r6]) rfl ?_
    refine ⟨?_, _, rfl, ?_⟩
    · repeat (first | with_reducible exact HB.out | with_reducible refine Below.drew ?_ | with_reducible refine Below.setCell ?_ (by dsimp only; omega) _)
    · refine New.stay (w := w) Hnew.out hlo ?_
      repeat (first | with_reducible exact Stay.refl _ _ | with_reducible refine Stay.set ?_ _ _ _ (by omega))

set_option maxHeartbeats 2000000 in
set_option maxRecDepth 100000 in
theorem list_case (k : Nat) (n : Px.Node) (lv : Value) (w : World) (hk : KidsAt w k lv n.list) (f : Nat) (r : Px.R Px.Expr) (wd : List UInt8) (hwd : Px.word n = wd) (h1 : (wd == [102, 110]) = false) (h2 : (wd == [108, 101, 116]) = false) (h3 : (wd == [99, 97, 115, 101]) = true) (hcall : ∀ u, KidsAt u k lv n.list → Calls Tryz.prog 145 #[nodeV n lv] u (ToldN u (ExprAt f) r)) :
    Calls Tryz.prog 112 #[nodeV n lv] w (ToldN w (ExprAt f) r) := by
  have HK := Lib.hid hk; have HC := Lib.hid hcall; have HWD := Lib.hid hwd
  clear hk hcall hwd
  go_enter Tryz.func112, Tryz.ntmps112
  unfold nodeV
  go_wp2_with fail
  have EN := Lib.hid (ent_alloc (ent_new w #[.int .i64 n.tok.kind, .int .i64 n.tok.pos, .string ⟨n.tok.text.toArray⟩, .int .i64 n.tok.int, lv, .int .i64 n.takes] 105) (.cells #[.int .i64 0, .int .i64 0, .string ⟨#[]⟩, .int .i64 0, .slice none 0 0, .slice none 0 0, .slice none 0 0] 47))
  have ER0 := ent_new (w.alloc (.cells #[.int .i64 n.tok.kind, .int .i64 n.tok.pos, .string ⟨n.tok.text.toArray⟩, .int .i64 n.tok.int, lv, .int .i64 n.takes] 105)) #[.int .i64 0, .int .i64 0, .string ⟨#[]⟩, .int .i64 0, .slice none 0 0, .slice none 0 0, .slice none 0 0] 47
  rw [World.size_alloc] at ER0
  have ER := Lib.hid ER0
  have HB := Lib.hid (((Below.refl w.heap.size w).alloc (Nat.le_refl _) (.cells #[.int .i64 n.tok.kind, .int .i64 n.tok.pos, .string ⟨n.tok.text.toArray⟩, .int .i64 n.tok.int, lv, .int .i64 n.takes] 105)).alloc (by simp) (.cells #[.int .i64 0, .int .i64 0, .string ⟨#[]⟩, .int .i64 0, .slice none 0 0, .slice none 0 0, .slice none 0 0] 47))
  clear ER0
  refine (word_eq k n lv _ wd (HK.out.below HB.out) HWD.out).mono ?_
  rintro e w1 ⟨rfl, hb⟩
  replace EN := Lib.hid (ent_below EN.out hb)
  replace ER := Lib.hid (ent_below ER.out hb)
  replace HB := Lib.hid (HB.out.trans (hb.mono HB.out.size))
  clear hb
  have cf := ent_free EN.out
  have c0 := ent_cell EN.out 0 _ rfl
  have c1 := ent_cell EN.out 1 _ rfl
  have c2 := ent_cell EN.out 2 _ rfl
  have c3 := ent_cell EN.out 3 _ rfl
  have c4 := ent_cell EN.out 4 _ rfl
  have c5 := ent_cell EN.out 5 _ rfl
  go_wp2_with fail
  refine (HC.out _ (HK.out.below HB.out)).mono ?_
  intro e w2 ht
  cases r with
  | error p =>
    obtain ⟨rfl, hb⟩ := toldN_bad ht rfl
    exact ⟨rfl, HB.out.trans (hb.mono HB.out.size), rfl⟩
  | ok x =>
    obtain ⟨v, rfl, hnew, hb⟩ := toldN_ok ht rfl
    obtain ⟨xk, xp, xi, xs, q1, n1, c1, q2, n2, c2, q3, n3, c3, rfl⟩ := exprAt_form f _ _ _ hnew.now
    have hlo := HB.out.size; have hws := ent_lt ER.out
    have Hnew := Lib.hid hnew; clear hnew ht
    replace ER := Lib.hid (ent_below ER.out hb)
    replace HB := Lib.hid (HB.out.trans (hb.mono HB.out.size))
    clear hb
    have rf := ent_free ER.out
    have r0 := ent_cell ER.out 0 _ rfl
    have r1 := ent_cell ER.out 1 _ rfl
    have r2 := ent_cell ER.out 2 _ rfl
    have r3 := ent_cell ER.out 3 _ rfl
    have r4 := ent_cell ER.out 4 _ rfl
    have r5 := ent_cell ER.out 5 _ rfl
    have r6 := ent_cell ER.out 6 _ rfl
    go_wp2_with fail
    refine bodyPost_ret (v := .agg #[.int .i64 xk, .int .i64 xp, .string xs, .int .i64 xi, .slice q1 n1 c1, .slice q2 n2 c2, .slice q3 n3 c3]) (by simp [results, Tryz.results112, go_sem, Px.Node.text, r0, r1, r2, r3, r4, r5, r6]) rfl ?_
    refine ⟨?_, _, rfl, ?_⟩
    · repeat (first | with_reducible exact HB.out | with_reducible refine Below.drew ?_ | with_reducible refine Below.setCell ?_ (by dsimp only; omega) _)
    · refine New.stay (w := w) Hnew.out hlo ?_
      repeat (first | with_reducible exact Stay.refl _ _ | with_reducible refine Stay.set ?_ _ _ _ (by omega))

set_option maxHeartbeats 2000000 in
set_option maxRecDepth 100000 in
theorem list_bad (k : Nat) (n : Px.Node) (lv : Value) (w : World) (hk : KidsAt w k lv n.list) (wd : List UInt8) (hwd : Px.word n = wd) (h1 : (wd == [102, 110]) = false) (h2 : (wd == [108, 101, 116]) = false) (h3 : (wd == [99, 97, 115, 101]) = false) (p : Nat) (hp : Px.nodes n 2 9 = .error p) :
    Calls Tryz.prog 112 #[nodeV n lv] w (fun e w' => e = wrongAt p ∧ Below w.heap.size w w') := by
  have HK := Lib.hid hk; have HWD := Lib.hid hwd
  clear hk hwd
  go_enter Tryz.func112, Tryz.ntmps112
  unfold nodeV
  go_wp2_with fail
  have EN := Lib.hid (ent_alloc (ent_new w #[.int .i64 n.tok.kind, .int .i64 n.tok.pos, .string ⟨n.tok.text.toArray⟩, .int .i64 n.tok.int, lv, .int .i64 n.takes] 105) (.cells #[.int .i64 0, .int .i64 0, .string ⟨#[]⟩, .int .i64 0, .slice none 0 0, .slice none 0 0, .slice none 0 0] 47))
  have ER0 := ent_new (w.alloc (.cells #[.int .i64 n.tok.kind, .int .i64 n.tok.pos, .string ⟨n.tok.text.toArray⟩, .int .i64 n.tok.int, lv, .int .i64 n.takes] 105)) #[.int .i64 0, .int .i64 0, .string ⟨#[]⟩, .int .i64 0, .slice none 0 0, .slice none 0 0, .slice none 0 0] 47
  rw [World.size_alloc] at ER0
  have ER := Lib.hid ER0
  have HB := Lib.hid (((Below.refl w.heap.size w).alloc (Nat.le_refl _) (.cells #[.int .i64 n.tok.kind, .int .i64 n.tok.pos, .string ⟨n.tok.text.toArray⟩, .int .i64 n.tok.int, lv, .int .i64 n.takes] 105)).alloc (by simp) (.cells #[.int .i64 0, .int .i64 0, .string ⟨#[]⟩, .int .i64 0, .slice none 0 0, .slice none 0 0, .slice none 0 0] 47))
  clear ER0
  refine (word_eq k n lv _ wd (HK.out.below HB.out) HWD.out).mono ?_
  rintro e w1 ⟨rfl, hb⟩
  replace EN := Lib.hid (ent_below EN.out hb)
  replace ER := Lib.hid (ent_below ER.out hb)
  replace HB := Lib.hid (HB.out.trans (hb.mono HB.out.size))
  clear hb
  have cf := ent_free EN.out
  have c0 := ent_cell EN.out 0 _ rfl
  have c1 := ent_cell EN.out 1 _ rfl
  have c2 := ent_cell EN.out 2 _ rfl
  have c3 := ent_cell EN.out 3 _ rfl
  have c4 := ent_cell EN.out 4 _ rfl
  have c5 := ent_cell EN.out 5 _ rfl
  go_wp2_with fail
  refine (nodes_badI k n lv 2 9 2 9 _ rfl rfl (HK.out.below HB.out) (by omega) (by omega) p hp).mono ?_
  rintro e w1 ⟨rfl, hb⟩
  replace HB := Lib.hid (HB.out.trans (hb.mono HB.out.size))
  clear hb
  exact ⟨rfl, rfl, HB.out⟩

set_option maxHeartbeats 4000000 in
set_option maxRecDepth 100000 in
theorem plain_hold_bad (k : Nat) (n : Px.Node) (lv : Value) (w : World) (hk : KidsAt w k lv n.list) (l : List Px.Node) (hp : Px.nodes n 2 9 = .ok l) (m0 : Px.Node) (hm0 : n.list[0]? = some m0) (f : Nat) (hex : ExprC f k) (wd : List UInt8) (hwd : Px.word n = wd) (h1 : (wd == [102, 110]) = false) (h2 : (wd == [108, 101, 116]) = false) (h3 : (wd == [99, 97, 115, 101]) = false) (ht0 : 0 < m0.takes) (hts : m0.takes ≤ 2) (p : Nat) (hh : Px.hold n (1 + m0.takes) (1 + m0.takes) = .error p) :
    Calls Tryz.prog 112 #[nodeV n lv] w (fun e w' => e = wrongAt p ∧ Below w.heap.size w w') := by
  obtain ⟨hle, h2, h9, _⟩ := nodes_is hp
  have hle0 := hle
  rw [hle] at h2 h9
  obtain ⟨j, g, o, c, rfl, rfl, h3, h4, h5⟩ := hk.some (by intro e; rw [e] at h2; simp at h2)
  obtain ⟨kv0, hat0, hkm0⟩ := h5 0 m0 hm0
  rw [Nat.zero_mul, Nat.add_zero] at hat0
  have HAT0 := Lib.hid hat0; have HKM0 := Lib.hid hkm0; have HM0 := Lib.hid hm0
  clear hat0 hkm0 hm0
  have hc1 : ¬ c = 1 := by omega
  have hne : ¬ n.list = [] := by intro e; rw [e] at h2; simp at h2
  have hbi1 : ¬ ((n.list.length : Int) < 1) := by omega
  have hbi2 : ¬ ((n.list.length : Int) < 2) := by omega
  have hbj0 : (0 : Int) < (n.list.length : Int) := by omega
  have hbj1 : (1 : Int) < (n.list.length : Int) := by omega
  have HK := Lib.hid hk; have HP := Lib.hid hp
  clear h5 hk hp hle
  have HEX := Lib.hid hex; have HWD := Lib.hid hwd; clear hex hwd
  have hgw : g < w.heap.size := World.block_lt_of_cell? w _ HAT0.out.c0
  have hgne : g ≠ w.heap.size + 1 := by omega
  have HLE := Lib.hid hle0
  have HH0 := Lib.hid (show l.headD n = m0 by rw [hle0, List.headD_eq_head?_getD, List.head?_eq_getElem?, HM0.out]; rfl)
  clear hle0
  go_enter Tryz.func112, Tryz.ntmps112
  unfold nodeV
  go_wp2_with fail
  have EN := Lib.hid (ent_alloc (ent_new w #[.int .i64 n.tok.kind, .int .i64 n.tok.pos, .string ⟨n.tok.text.toArray⟩, .int .i64 n.tok.int, (.slice (some ⟨g, o, none⟩) n.list.length c), .int .i64 n.takes] 105) (.cells #[.int .i64 0, .int .i64 0, .string ⟨#[]⟩, .int .i64 0, .slice none 0 0, .slice none 0 0, .slice none 0 0] 47))
  have ER0 := ent_new (w.alloc (.cells #[.int .i64 n.tok.kind, .int .i64 n.tok.pos, .string ⟨n.tok.text.toArray⟩, .int .i64 n.tok.int, (.slice (some ⟨g, o, none⟩) n.list.length c), .int .i64 n.takes] 105)) #[.int .i64 0, .int .i64 0, .string ⟨#[]⟩, .int .i64 0, .slice none 0 0, .slice none 0 0, .slice none 0 0] 47
  rw [World.size_alloc] at ER0
  have ER := Lib.hid ER0
  have HB := Lib.hid (((Below.refl w.heap.size w).alloc (Nat.le_refl _) (.cells #[.int .i64 n.tok.kind, .int .i64 n.tok.pos, .string ⟨n.tok.text.toArray⟩, .int .i64 n.tok.int, (.slice (some ⟨g, o, none⟩) n.list.length c), .int .i64 n.takes] 105)).alloc (by simp) (.cells #[.int .i64 0, .int .i64 0, .string ⟨#[]⟩, .int .i64 0, .slice none 0 0, .slice none 0 0, .slice none 0 0] 47))
  clear ER0
  refine (word_eq (j + 1) n (.slice (some ⟨g, o, none⟩) n.list.length c) _ wd (HK.out.below HB.out) HWD.out).mono ?_
  rintro e w1 ⟨rfl, hb⟩
  replace EN := Lib.hid (ent_below EN.out hb)
  replace ER := Lib.hid (ent_below ER.out hb)
  replace HB := Lib.hid (HB.out.trans (hb.mono HB.out.size))
  clear hb
  have cf := ent_free EN.out
  have c0 := ent_cell EN.out 0 _ rfl
  have c1 := ent_cell EN.out 1 _ rfl
  have c2 := ent_cell EN.out 2 _ rfl
  have c3 := ent_cell EN.out 3 _ rfl
  have c4 := ent_cell EN.out 4 _ rfl
  have c5 := ent_cell EN.out 5 _ rfl
  go_wp2_with fail
  refine (nodes_okI (j + 1) n (.slice (some ⟨g, o, none⟩) n.list.length c) 2 9 2 9 _ rfl rfl (HK.out.below HB.out) (by omega) (by omega) l HP.out).mono ?_
  rintro e w1 ⟨rfl, hb⟩
  replace EN := Lib.hid (ent_below EN.out hb)
  replace ER := Lib.hid (ent_below ER.out hb)
  replace HB := Lib.hid (HB.out.trans (hb.mono HB.out.size))
  clear hb
  clear cf c0 c1 c2 c3 c4 c5
  have cf := ent_free EN.out
  have c0 := ent_cell EN.out 0 _ rfl
  have c1 := ent_cell EN.out 1 _ rfl
  have c2 := ent_cell EN.out 2 _ rfl
  have c3 := ent_cell EN.out 3 _ rfl
  have c4 := ent_cell EN.out 4 _ rfl
  have c5 := ent_cell EN.out 5 _ rfl
  go_wp2_with fail
  refine (pos_any n (.slice (some ⟨g, o, none⟩) n.list.length c) _).mono ?_
  rintro e w1 ⟨rfl, hb⟩
  replace EN := Lib.hid (ent_below EN.out hb)
  replace ER := Lib.hid (ent_below ER.out hb)
  replace HB := Lib.hid (HB.out.trans (hb.mono HB.out.size))
  clear hb
  clear cf c0 c1 c2 c3 c4 c5
  have hw2 : w.heap.size + 1 < w1.heap.size := ent_lt ER.out
  obtain ⟨kq, kc, rfl⟩ := HKM0.out.len
  go_upto_region 10 with fail
  have EX := Lib.hid (ent_new w1 #[.int .i64 6, .int .i64 n.pos, .string ⟨#[]⟩, .int .i64 0, .slice none 0 0, .slice none 0 0, .slice none 0 0] 47)
  replace EN := Lib.hid (ent_alloc EN.out (.cells #[.int .i64 6, .int .i64 n.pos, .string ⟨#[]⟩, .int .i64 0, .slice none 0 0, .slice none 0 0, .slice none 0 0] 47)); replace ER := Lib.hid (ent_alloc ER.out (.cells #[.int .i64 6, .int .i64 n.pos, .string ⟨#[]⟩, .int .i64 0, .slice none 0 0, .slice none 0 0, .slice none 0 0] 47)); replace HB := Lib.hid (HB.out.alloc HB.out.size (.cells #[.int .i64 6, .int .i64 n.pos, .string ⟨#[]⟩, .int .i64 0, .slice none 0 0, .slice none 0 0, .slice none 0 0] 47))
  have hWs : (w1.alloc (.cells #[.int .i64 6, .int .i64 n.pos, .string ⟨#[]⟩, .int .i64 0, .slice none 0 0, .slice none 0 0, .slice none 0 0] 47)).heap.size = w1.heap.size + 1 := by simp
  generalize w1.alloc (.cells #[.int .i64 6, .int .i64 n.pos, .string ⟨#[]⟩, .int .i64 0, .slice none 0 0, .slice none 0 0, .slice none 0 0] 47) = W at *
  generalize w1.heap.size = gx at *
  obtain ⟨m0_, m1_, m2_, m3_, m4_, m5_⟩ := HAT0.out.below HB.out
  have HWs := Lib.hid hWs; clear hWs
  go_upto_region 11 with fail
  have EM := Lib.hid (ent_new W #[.int .i64 m0.tok.kind, .int .i64 m0.tok.pos, .string ⟨m0.tok.text.toArray⟩, .int .i64 m0.tok.int, (.slice kq m0.list.length kc), .int .i64 m0.takes] 105)
  have hgm : gx < W.heap.size := ent_lt EX.out
  replace EN := Lib.hid (ent_alloc EN.out (.cells #[.int .i64 m0.tok.kind, .int .i64 m0.tok.pos, .string ⟨m0.tok.text.toArray⟩, .int .i64 m0.tok.int, (.slice kq m0.list.length kc), .int .i64 m0.takes] 105)); replace ER := Lib.hid (ent_alloc ER.out (.cells #[.int .i64 m0.tok.kind, .int .i64 m0.tok.pos, .string ⟨m0.tok.text.toArray⟩, .int .i64 m0.tok.int, (.slice kq m0.list.length kc), .int .i64 m0.takes] 105)); replace EX := Lib.hid (ent_alloc EX.out (.cells #[.int .i64 m0.tok.kind, .int .i64 m0.tok.pos, .string ⟨m0.tok.text.toArray⟩, .int .i64 m0.tok.int, (.slice kq m0.list.length kc), .int .i64 m0.takes] 105)); replace HB := Lib.hid (HB.out.alloc HB.out.size (.cells #[.int .i64 m0.tok.kind, .int .i64 m0.tok.pos, .string ⟨m0.tok.text.toArray⟩, .int .i64 m0.tok.int, (.slice kq m0.list.length kc), .int .i64 m0.takes] 105))
  clear m0_ m1_ m2_ m3_ m4_ m5_
  generalize W.alloc (.cells #[.int .i64 m0.tok.kind, .int .i64 m0.tok.pos, .string ⟨m0.tok.text.toArray⟩, .int .i64 m0.tok.int, (.slice kq m0.list.length kc), .int .i64 m0.takes] 105) = V at *
  generalize W.heap.size = gm at *
  clear HWs
  have htk : (0 : Int) < (m0.takes : Int) := by omega
  have qf := ent_free EM.out
  have q0 := ent_cell EM.out 0 _ rfl
  have q1 := ent_cell EM.out 1 _ rfl
  have q2 := ent_cell EM.out 2 _ rfl
  have q3 := ent_cell EM.out 3 _ rfl
  have q4 := ent_cell EM.out 4 _ rfl
  have q5 := ent_cell EM.out 5 _ rfl
  have cf := ent_free EN.out
  have c0 := ent_cell EN.out 0 _ rfl
  have c1 := ent_cell EN.out 1 _ rfl
  have c2 := ent_cell EN.out 2 _ rfl
  have c3 := ent_cell EN.out 3 _ rfl
  have c4 := ent_cell EN.out 4 _ rfl
  have c5 := ent_cell EN.out 5 _ rfl
  go_wp2_with fail
  refine (hold_badI (j + 1) n (.slice (some ⟨g, o, none⟩) n.list.length c) (1 + (m0.takes : Int)) (1 + (m0.takes : Int)) (1 + m0.takes) (1 + m0.takes) _ (by simp) (by simp) (HK.out.below HB.out) (by omega) (by omega) p hh).mono ?_
  rintro e w1 ⟨rfl, hb⟩
  replace HB := Lib.hid (HB.out.trans (hb.mono HB.out.size))
  clear hb
  exact ⟨rfl, rfl, HB.out⟩

set_option maxHeartbeats 4000000 in
set_option maxRecDepth 100000 in
theorem plain_prim (k : Nat) (n : Px.Node) (lv : Value) (w : World) (hk : KidsAt w k lv n.list) (l : List Px.Node) (hp : Px.nodes n 2 9 = .ok l) (m0 : Px.Node) (hm0 : n.list[0]? = some m0) (f : Nat) (hex : ExprC f k) (wd : List UInt8) (hwd : Px.word n = wd) (h1 : (wd == [102, 110]) = false) (h2 : (wd == [108, 101, 116]) = false) (h3 : (wd == [99, 97, 115, 101]) = false) (out : Px.R Px.Expr) (hout : Px.plainExpr (Px.expr f) n = out) (ht0 : 0 < m0.takes) (hts : m0.takes ≤ 2) (hh : Px.hold n (1 + m0.takes) (1 + m0.takes) = .ok ()) :
    Calls Tryz.prog 112 #[nodeV n lv] w (ToldN w (ExprAt (f + 1)) out) := by
  obtain ⟨hle, h2, h9, _⟩ := nodes_is hp
  have hle0 := hle
  rw [hle] at h2 h9
  obtain ⟨j, g, o, c, rfl, rfl, h3, h4, h5⟩ := hk.some (by intro e; rw [e] at h2; simp at h2)
  obtain ⟨kv0, hat0, hkm0⟩ := h5 0 m0 hm0
  rw [Nat.zero_mul, Nat.add_zero] at hat0
  have HAT0 := Lib.hid hat0; have HKM0 := Lib.hid hkm0; have HM0 := Lib.hid hm0
  clear hat0 hkm0 hm0
  have hc1 : ¬ c = 1 := by omega
  have hne : ¬ n.list = [] := by intro e; rw [e] at h2; simp at h2
  have hbi1 : ¬ ((n.list.length : Int) < 1) := by omega
  have hbi2 : ¬ ((n.list.length : Int) < 2) := by omega
  have hbj0 : (0 : Int) < (n.list.length : Int) := by omega
  have hbj1 : (1 : Int) < (n.list.length : Int) := by omega
  have HK := Lib.hid hk; have HP := Lib.hid hp
  clear h5 hk hp hle
  have HEX := Lib.hid hex; have HWD := Lib.hid hwd; clear hex hwd
  have HOUT := Lib.hid hout; clear hout
  have hgw : g < w.heap.size := World.block_lt_of_cell? w _ HAT0.out.c0
  have hgne : g ≠ w.heap.size + 1 := by omega
  have HLE := Lib.hid hle0
  have HH0 := Lib.hid (show l.headD n = m0 by rw [hle0, List.headD_eq_head?_getD, List.head?_eq_getElem?, HM0.out]; rfl)
  clear hle0
  go_enter Tryz.func112, Tryz.ntmps112
  unfold nodeV
  go_wp2_with fail
  have EN := Lib.hid (ent_alloc (ent_new w #[.int .i64 n.tok.kind, .int .i64 n.tok.pos, .string ⟨n.tok.text.toArray⟩, .int .i64 n.tok.int, (.slice (some ⟨g, o, none⟩) n.list.length c), .int .i64 n.takes] 105) (.cells #[.int .i64 0, .int .i64 0, .string ⟨#[]⟩, .int .i64 0, .slice none 0 0, .slice none 0 0, .slice none 0 0] 47))
  have ER0 := ent_new (w.alloc (.cells #[.int .i64 n.tok.kind, .int .i64 n.tok.pos, .string ⟨n.tok.text.toArray⟩, .int .i64 n.tok.int, (.slice (some ⟨g, o, none⟩) n.list.length c), .int .i64 n.takes] 105)) #[.int .i64 0, .int .i64 0, .string ⟨#[]⟩, .int .i64 0, .slice none 0 0, .slice none 0 0, .slice none 0 0] 47
  rw [World.size_alloc] at ER0
  have ER := Lib.hid ER0
  have HB := Lib.hid (((Below.refl w.heap.size w).alloc (Nat.le_refl _) (.cells #[.int .i64 n.tok.kind, .int .i64 n.tok.pos, .string ⟨n.tok.text.toArray⟩, .int .i64 n.tok.int, (.slice (some ⟨g, o, none⟩) n.list.length c), .int .i64 n.takes] 105)).alloc (by simp) (.cells #[.int .i64 0, .int .i64 0, .string ⟨#[]⟩, .int .i64 0, .slice none 0 0, .slice none 0 0, .slice none 0 0] 47))
  clear ER0
  refine (word_eq (j + 1) n (.slice (some ⟨g, o, none⟩) n.list.length c) _ wd (HK.out.below HB.out) HWD.out).mono ?_
  rintro e w1 ⟨rfl, hb⟩
  replace EN := Lib.hid (ent_below EN.out hb)
  replace ER := Lib.hid (ent_below ER.out hb)
  replace HB := Lib.hid (HB.out.trans (hb.mono HB.out.size))
  clear hb
  have cf := ent_free EN.out
  have c0 := ent_cell EN.out 0 _ rfl
  have c1 := ent_cell EN.out 1 _ rfl
  have c2 := ent_cell EN.out 2 _ rfl
  have c3 := ent_cell EN.out 3 _ rfl
  have c4 := ent_cell EN.out 4 _ rfl
  have c5 := ent_cell EN.out 5 _ rfl
  go_wp2_with fail
  refine (nodes_okI (j + 1) n (.slice (some ⟨g, o, none⟩) n.list.length c) 2 9 2 9 _ rfl rfl (HK.out.below HB.out) (by omega) (by omega) l HP.out).mono ?_
  rintro e w1 ⟨rfl, hb⟩
  replace EN := Lib.hid (ent_below EN.out hb)
  replace ER := Lib.hid (ent_below ER.out hb)
  replace HB := Lib.hid (HB.out.trans (hb.mono HB.out.size))
  clear hb
  clear cf c0 c1 c2 c3 c4 c5
  have cf := ent_free EN.out
  have c0 := ent_cell EN.out 0 _ rfl
  have c1 := ent_cell EN.out 1 _ rfl
  have c2 := ent_cell EN.out 2 _ rfl
  have c3 := ent_cell EN.out 3 _ rfl
  have c4 := ent_cell EN.out 4 _ rfl
  have c5 := ent_cell EN.out 5 _ rfl
  go_wp2_with fail
  refine (pos_any n (.slice (some ⟨g, o, none⟩) n.list.length c) _).mono ?_
  rintro e w1 ⟨rfl, hb⟩
  replace EN := Lib.hid (ent_below EN.out hb)
  replace ER := Lib.hid (ent_below ER.out hb)
  replace HB := Lib.hid (HB.out.trans (hb.mono HB.out.size))
  clear hb
  clear cf c0 c1 c2 c3 c4 c5
  have hw2 : w.heap.size + 1 < w1.heap.size := ent_lt ER.out
  obtain ⟨kq, kc, rfl⟩ := HKM0.out.len
  go_upto_region 10 with fail
  have EX := Lib.hid (ent_new w1 #[.int .i64 6, .int .i64 n.pos, .string ⟨#[]⟩, .int .i64 0, .slice none 0 0, .slice none 0 0, .slice none 0 0] 47)
  replace EN := Lib.hid (ent_alloc EN.out (.cells #[.int .i64 6, .int .i64 n.pos, .string ⟨#[]⟩, .int .i64 0, .slice none 0 0, .slice none 0 0, .slice none 0 0] 47)); replace ER := Lib.hid (ent_alloc ER.out (.cells #[.int .i64 6, .int .i64 n.pos, .string ⟨#[]⟩, .int .i64 0, .slice none 0 0, .slice none 0 0, .slice none 0 0] 47)); replace HB := Lib.hid (HB.out.alloc HB.out.size (.cells #[.int .i64 6, .int .i64 n.pos, .string ⟨#[]⟩, .int .i64 0, .slice none 0 0, .slice none 0 0, .slice none 0 0] 47))
  have hWs : (w1.alloc (.cells #[.int .i64 6, .int .i64 n.pos, .string ⟨#[]⟩, .int .i64 0, .slice none 0 0, .slice none 0 0, .slice none 0 0] 47)).heap.size = w1.heap.size + 1 := by simp
  generalize w1.alloc (.cells #[.int .i64 6, .int .i64 n.pos, .string ⟨#[]⟩, .int .i64 0, .slice none 0 0, .slice none 0 0, .slice none 0 0] 47) = W at *
  generalize w1.heap.size = gx at *
  obtain ⟨m0_, m1_, m2_, m3_, m4_, m5_⟩ := HAT0.out.below HB.out
  have HWs := Lib.hid hWs; clear hWs
  go_upto_region 11 with fail
  have EM := Lib.hid (ent_new W #[.int .i64 m0.tok.kind, .int .i64 m0.tok.pos, .string ⟨m0.tok.text.toArray⟩, .int .i64 m0.tok.int, (.slice kq m0.list.length kc), .int .i64 m0.takes] 105)
  have hgm : gx < W.heap.size := ent_lt EX.out
  replace EN := Lib.hid (ent_alloc EN.out (.cells #[.int .i64 m0.tok.kind, .int .i64 m0.tok.pos, .string ⟨m0.tok.text.toArray⟩, .int .i64 m0.tok.int, (.slice kq m0.list.length kc), .int .i64 m0.takes] 105)); replace ER := Lib.hid (ent_alloc ER.out (.cells #[.int .i64 m0.tok.kind, .int .i64 m0.tok.pos, .string ⟨m0.tok.text.toArray⟩, .int .i64 m0.tok.int, (.slice kq m0.list.length kc), .int .i64 m0.takes] 105)); replace EX := Lib.hid (ent_alloc EX.out (.cells #[.int .i64 m0.tok.kind, .int .i64 m0.tok.pos, .string ⟨m0.tok.text.toArray⟩, .int .i64 m0.tok.int, (.slice kq m0.list.length kc), .int .i64 m0.takes] 105)); replace HB := Lib.hid (HB.out.alloc HB.out.size (.cells #[.int .i64 m0.tok.kind, .int .i64 m0.tok.pos, .string ⟨m0.tok.text.toArray⟩, .int .i64 m0.tok.int, (.slice kq m0.list.length kc), .int .i64 m0.takes] 105))
  clear m0_ m1_ m2_ m3_ m4_ m5_
  generalize W.alloc (.cells #[.int .i64 m0.tok.kind, .int .i64 m0.tok.pos, .string ⟨m0.tok.text.toArray⟩, .int .i64 m0.tok.int, (.slice kq m0.list.length kc), .int .i64 m0.takes] 105) = V at *
  generalize W.heap.size = gm at *
  clear HWs
  have htk : (0 : Int) < (m0.takes : Int) := by omega
  have qf := ent_free EM.out
  have q0 := ent_cell EM.out 0 _ rfl
  have q1 := ent_cell EM.out 1 _ rfl
  have q2 := ent_cell EM.out 2 _ rfl
  have q3 := ent_cell EM.out 3 _ rfl
  have q4 := ent_cell EM.out 4 _ rfl
  have q5 := ent_cell EM.out 5 _ rfl
  have cf := ent_free EN.out
  have c0 := ent_cell EN.out 0 _ rfl
  have c1 := ent_cell EN.out 1 _ rfl
  have c2 := ent_cell EN.out 2 _ rfl
  have c3 := ent_cell EN.out 3 _ rfl
  have c4 := ent_cell EN.out 4 _ rfl
  have c5 := ent_cell EN.out 5 _ rfl
  go_wp2_with fail
  refine (hold_okI (j + 1) n (.slice (some ⟨g, o, none⟩) n.list.length c) (1 + (m0.takes : Int)) (1 + (m0.takes : Int)) (1 + m0.takes) (1 + m0.takes) _ (by simp) (by simp) (HK.out.below HB.out) (by omega) (by omega) hh).mono ?_
  rintro e w1 ⟨rfl, hb⟩
  replace EN := Lib.hid (ent_below EN.out hb)
  replace ER := Lib.hid (ent_below ER.out hb)
  replace EX := Lib.hid (ent_below EX.out hb)
  replace EM := Lib.hid (ent_below EM.out hb)
  replace HB := Lib.hid (HB.out.trans (hb.mono HB.out.size))
  clear hb
  clear qf q0 q1 q2 q3 q4 q5
  clear cf c0 c1 c2 c3 c4 c5
  have qf := ent_free EM.out
  have q0 := ent_cell EM.out 0 _ rfl
  have q1 := ent_cell EM.out 1 _ rfl
  have q2 := ent_cell EM.out 2 _ rfl
  have q3 := ent_cell EM.out 3 _ rfl
  have q4 := ent_cell EM.out 4 _ rfl
  have q5 := ent_cell EM.out 5 _ rfl
  have xf := ent_free EX.out
  have x0 := ent_cell EX.out 0 _ rfl
  have x1 := ent_cell EX.out 1 _ rfl
  have x2 := ent_cell EX.out 2 _ rfl
  have x3 := ent_cell EX.out 3 _ rfl
  have x4 := ent_cell EX.out 4 _ rfl
  have x5 := ent_cell EX.out 5 _ rfl
  have x6 := ent_cell EX.out 6 _ rfl
  have xs1 := Lib.hid (ent_set (ent_set EX.out 0 (.int .i64 7)) 2 (.string ⟨m0.tok.text.toArray⟩)); have ers := Lib.hid (ent_other (ent_other ER.out gx 0 (.int .i64 7) (by omega)) gx 2 (.string ⟨m0.tok.text.toArray⟩) (by omega)); have hbs := Lib.hid ((HB.out.setCell (p := ⟨gx, 0, none⟩) (by dsimp only; omega) (.int .i64 7)).setCell (p := ⟨gx, 2, none⟩) (by dsimp only; omega) (.string ⟨m0.tok.text.toArray⟩))
  have HHO := Lib.hid hh; clear hh
  go_wp2_with fail
  go_region
  go_wp2_with fail
  replace EX := xs1; replace ER := ers; replace HB := hbs
  refine (eachExpr_any 81 (fun _ _ => by kernel_rfl) (Px.expr f) (ExprAt f) (exprAt_shape f) (j + 1) _ (n.list.drop 1) _ (kids_drop' (HK.out.below HB.out.drew) 1 (o + 6) (by omega) hc1 (by omega) rfl) (by rw [List.length_drop]; omega) (fun m _ j' kv' w1 hj _ hk' => HEX.out m kv' j' w1 hk' (by omega))).mono ?_
  intro e w2 ht
  cases hr : Px.each (Px.expr f) (n.list.drop 1) with
  | error p =>
    obtain ⟨rfl, hb⟩ := toldN_bad ht hr
    have ho : out = .error p := by rw [← HOUT.out]; rw [Px.plainExpr, HP.out]; dsimp only; rw [HH0.out, if_pos ht0, HHO.out]; dsimp only; rw [HLE.out, ← List.drop_one, hr]
    subst ho
    exact ⟨rfl, HB.out.trans ((undrew hb).mono HB.out.size), rfl⟩
  | ok xs =>
    obtain ⟨av, rfl, hnew, hb⟩ := toldN_ok ht hr
    obtain ⟨pv, cv, rfl⟩ := hnew.now.len
    replace hb := undrew hb
    have ho : out = .ok (.mk 7 n.pos m0.text 0 [] xs []) := by rw [← HOUT.out]; rw [Px.plainExpr, HP.out]; dsimp only; rw [HH0.out, if_pos ht0, HHO.out]; dsimp only; rw [HLE.out, ← List.drop_one, hr]
    subst ho
    have hlo := HB.out.size; have hws := ent_lt ER.out; have hxs := ent_lt EX.out
    have Hnew := Lib.hid (New.drewn hnew); clear hnew ht hr
    replace EX := Lib.hid (ent_below EX.out hb)
    replace ER := Lib.hid (ent_below ER.out hb)
    replace HB := Lib.hid (HB.out.trans (hb.mono HB.out.size))
    clear hb
    have xf := ent_free EX.out
    have x0 := ent_cell EX.out 0 _ rfl
    have x1 := ent_cell EX.out 1 _ rfl
    have x2 := ent_cell EX.out 2 _ rfl
    have x3 := ent_cell EX.out 3 _ rfl
    have x4 := ent_cell EX.out 4 _ rfl
    have x5 := ent_cell EX.out 5 _ rfl
    have x6 := ent_cell EX.out 6 _ rfl
    have rf := ent_free ER.out
    have r0 := ent_cell ER.out 0 _ rfl
    have r1 := ent_cell ER.out 1 _ rfl
    have r2 := ent_cell ER.out 2 _ rfl
    have r3 := ent_cell ER.out 3 _ rfl
    have r4 := ent_cell ER.out 4 _ rfl
    have r5 := ent_cell ER.out 5 _ rfl
    have r6 := ent_cell ER.out 6 _ rfl
    go_wp2_with fail
    refine bodyPost_ret (v := .agg #[.int .i64 7, .int .i64 n.pos, .string ⟨m0.tok.text.toArray⟩, .int .i64 0, .slice none 0 0, .slice pv xs.length cv, .slice none 0 0]) (by simp [results, Tryz.results112, go_sem, Px.Node.text, r0, r1, r2, r3, r4, r5, r6]) rfl ?_
    refine ⟨?_, _, rfl, fun u hu => ⟨_, _, _, rfl, row_nil _ _ _, ?_, row_nil _ _ _⟩⟩
    · repeat (first | with_reducible exact HB.out | with_reducible refine Below.drew ?_ | with_reducible refine Below.setCell ?_ (by dsimp only; omega) _)
    · refine New.stay (w := w) Hnew.out hlo ?_ u hu
      repeat (first | with_reducible exact Stay.refl _ _ | with_reducible refine Stay.set ?_ _ _ _ (by first | exact hxs | omega))

set_option maxHeartbeats 4000000 in
set_option maxRecDepth 100000 in
theorem plain_con (k : Nat) (n : Px.Node) (lv : Value) (w : World) (hk : KidsAt w k lv n.list) (l : List Px.Node) (hp : Px.nodes n 2 9 = .ok l) (m0 : Px.Node) (hm0 : n.list[0]? = some m0) (f : Nat) (hex : ExprC f k) (wd : List UInt8) (hwd : Px.word n = wd) (h1 : (wd == [102, 110]) = false) (h2 : (wd == [108, 101, 116]) = false) (h3 : (wd == [99, 97, 115, 101]) = false) (out : Px.R Px.Expr) (hout : Px.plainExpr (Px.expr f) n = out) (ht0 : m0.takes = 0) (hc0 : Px.isConB m0 = true) :
    Calls Tryz.prog 112 #[nodeV n lv] w (ToldN w (ExprAt (f + 1)) out) := by
  obtain ⟨hle, h2, h9, _⟩ := nodes_is hp
  have hle0 := hle
  rw [hle] at h2 h9
  obtain ⟨j, g, o, c, rfl, rfl, h3, h4, h5⟩ := hk.some (by intro e; rw [e] at h2; simp at h2)
  obtain ⟨kv0, hat0, hkm0⟩ := h5 0 m0 hm0
  rw [Nat.zero_mul, Nat.add_zero] at hat0
  have HAT0 := Lib.hid hat0; have HKM0 := Lib.hid hkm0; have HM0 := Lib.hid hm0
  clear hat0 hkm0 hm0
  have hc1 : ¬ c = 1 := by omega
  have hne : ¬ n.list = [] := by intro e; rw [e] at h2; simp at h2
  have hbi1 : ¬ ((n.list.length : Int) < 1) := by omega
  have hbi2 : ¬ ((n.list.length : Int) < 2) := by omega
  have hbj0 : (0 : Int) < (n.list.length : Int) := by omega
  have hbj1 : (1 : Int) < (n.list.length : Int) := by omega
  have HK := Lib.hid hk; have HP := Lib.hid hp
  clear h5 hk hp hle
  have HEX := Lib.hid hex; have HWD := Lib.hid hwd; clear hex hwd
  have HOUT := Lib.hid hout; clear hout
  have hgw : g < w.heap.size := World.block_lt_of_cell? w _ HAT0.out.c0
  have hgne : g ≠ w.heap.size + 1 := by omega
  have HLE := Lib.hid hle0
  have HH0 := Lib.hid (show l.headD n = m0 by rw [hle0, List.headD_eq_head?_getD, List.head?_eq_getElem?, HM0.out]; rfl)
  clear hle0
  have htk : decide ((0 : Int) < (m0.takes : Int)) = false := by simp; omega
  have htk2 : decide (0 < m0.takes) = false := by simp; omega
  have HT0 := Lib.hid ht0; clear ht0
  go_enter Tryz.func112, Tryz.ntmps112
  unfold nodeV
  go_wp2_with fail
  have EN := Lib.hid (ent_alloc (ent_new w #[.int .i64 n.tok.kind, .int .i64 n.tok.pos, .string ⟨n.tok.text.toArray⟩, .int .i64 n.tok.int, (.slice (some ⟨g, o, none⟩) n.list.length c), .int .i64 n.takes] 105) (.cells #[.int .i64 0, .int .i64 0, .string ⟨#[]⟩, .int .i64 0, .slice none 0 0, .slice none 0 0, .slice none 0 0] 47))
  have ER0 := ent_new (w.alloc (.cells #[.int .i64 n.tok.kind, .int .i64 n.tok.pos, .string ⟨n.tok.text.toArray⟩, .int .i64 n.tok.int, (.slice (some ⟨g, o, none⟩) n.list.length c), .int .i64 n.takes] 105)) #[.int .i64 0, .int .i64 0, .string ⟨#[]⟩, .int .i64 0, .slice none 0 0, .slice none 0 0, .slice none 0 0] 47
  rw [World.size_alloc] at ER0
  have ER := Lib.hid ER0
  have HB := Lib.hid (((Below.refl w.heap.size w).alloc (Nat.le_refl _) (.cells #[.int .i64 n.tok.kind, .int .i64 n.tok.pos, .string ⟨n.tok.text.toArray⟩, .int .i64 n.tok.int, (.slice (some ⟨g, o, none⟩) n.list.length c), .int .i64 n.takes] 105)).alloc (by simp) (.cells #[.int .i64 0, .int .i64 0, .string ⟨#[]⟩, .int .i64 0, .slice none 0 0, .slice none 0 0, .slice none 0 0] 47))
  clear ER0
  refine (word_eq (j + 1) n (.slice (some ⟨g, o, none⟩) n.list.length c) _ wd (HK.out.below HB.out) HWD.out).mono ?_
  rintro e w1 ⟨rfl, hb⟩
  replace EN := Lib.hid (ent_below EN.out hb)
  replace ER := Lib.hid (ent_below ER.out hb)
  replace HB := Lib.hid (HB.out.trans (hb.mono HB.out.size))
  clear hb
  have cf := ent_free EN.out
  have c0 := ent_cell EN.out 0 _ rfl
  have c1 := ent_cell EN.out 1 _ rfl
  have c2 := ent_cell EN.out 2 _ rfl
  have c3 := ent_cell EN.out 3 _ rfl
  have c4 := ent_cell EN.out 4 _ rfl
  have c5 := ent_cell EN.out 5 _ rfl
  go_wp2_with fail
  refine (nodes_okI (j + 1) n (.slice (some ⟨g, o, none⟩) n.list.length c) 2 9 2 9 _ rfl rfl (HK.out.below HB.out) (by omega) (by omega) l HP.out).mono ?_
  rintro e w1 ⟨rfl, hb⟩
  replace EN := Lib.hid (ent_below EN.out hb)
  replace ER := Lib.hid (ent_below ER.out hb)
  replace HB := Lib.hid (HB.out.trans (hb.mono HB.out.size))
  clear hb
  clear cf c0 c1 c2 c3 c4 c5
  have cf := ent_free EN.out
  have c0 := ent_cell EN.out 0 _ rfl
  have c1 := ent_cell EN.out 1 _ rfl
  have c2 := ent_cell EN.out 2 _ rfl
  have c3 := ent_cell EN.out 3 _ rfl
  have c4 := ent_cell EN.out 4 _ rfl
  have c5 := ent_cell EN.out 5 _ rfl
  go_wp2_with fail
  refine (pos_any n (.slice (some ⟨g, o, none⟩) n.list.length c) _).mono ?_
  rintro e w1 ⟨rfl, hb⟩
  replace EN := Lib.hid (ent_below EN.out hb)
  replace ER := Lib.hid (ent_below ER.out hb)
  replace HB := Lib.hid (HB.out.trans (hb.mono HB.out.size))
  clear hb
  clear cf c0 c1 c2 c3 c4 c5
  have hw2 : w.heap.size + 1 < w1.heap.size := ent_lt ER.out
  obtain ⟨kq, kc, rfl⟩ := HKM0.out.len
  go_upto_region 10 with fail
  have EX := Lib.hid (ent_new w1 #[.int .i64 6, .int .i64 n.pos, .string ⟨#[]⟩, .int .i64 0, .slice none 0 0, .slice none 0 0, .slice none 0 0] 47)
  replace EN := Lib.hid (ent_alloc EN.out (.cells #[.int .i64 6, .int .i64 n.pos, .string ⟨#[]⟩, .int .i64 0, .slice none 0 0, .slice none 0 0, .slice none 0 0] 47)); replace ER := Lib.hid (ent_alloc ER.out (.cells #[.int .i64 6, .int .i64 n.pos, .string ⟨#[]⟩, .int .i64 0, .slice none 0 0, .slice none 0 0, .slice none 0 0] 47)); replace HB := Lib.hid (HB.out.alloc HB.out.size (.cells #[.int .i64 6, .int .i64 n.pos, .string ⟨#[]⟩, .int .i64 0, .slice none 0 0, .slice none 0 0, .slice none 0 0] 47))
  have hWs : (w1.alloc (.cells #[.int .i64 6, .int .i64 n.pos, .string ⟨#[]⟩, .int .i64 0, .slice none 0 0, .slice none 0 0, .slice none 0 0] 47)).heap.size = w1.heap.size + 1 := by simp
  generalize w1.alloc (.cells #[.int .i64 6, .int .i64 n.pos, .string ⟨#[]⟩, .int .i64 0, .slice none 0 0, .slice none 0 0, .slice none 0 0] 47) = W at *
  generalize w1.heap.size = gx at *
  obtain ⟨m0_, m1_, m2_, m3_, m4_, m5_⟩ := HAT0.out.below HB.out
  have HWs := Lib.hid hWs; clear hWs
  go_upto_region 11 with fail
  have EM := Lib.hid (ent_new W #[.int .i64 m0.tok.kind, .int .i64 m0.tok.pos, .string ⟨m0.tok.text.toArray⟩, .int .i64 m0.tok.int, (.slice kq m0.list.length kc), .int .i64 m0.takes] 105)
  have hgm : gx < W.heap.size := ent_lt EX.out
  replace EN := Lib.hid (ent_alloc EN.out (.cells #[.int .i64 m0.tok.kind, .int .i64 m0.tok.pos, .string ⟨m0.tok.text.toArray⟩, .int .i64 m0.tok.int, (.slice kq m0.list.length kc), .int .i64 m0.takes] 105)); replace ER := Lib.hid (ent_alloc ER.out (.cells #[.int .i64 m0.tok.kind, .int .i64 m0.tok.pos, .string ⟨m0.tok.text.toArray⟩, .int .i64 m0.tok.int, (.slice kq m0.list.length kc), .int .i64 m0.takes] 105)); replace EX := Lib.hid (ent_alloc EX.out (.cells #[.int .i64 m0.tok.kind, .int .i64 m0.tok.pos, .string ⟨m0.tok.text.toArray⟩, .int .i64 m0.tok.int, (.slice kq m0.list.length kc), .int .i64 m0.takes] 105)); replace HB := Lib.hid (HB.out.alloc HB.out.size (.cells #[.int .i64 m0.tok.kind, .int .i64 m0.tok.pos, .string ⟨m0.tok.text.toArray⟩, .int .i64 m0.tok.int, (.slice kq m0.list.length kc), .int .i64 m0.takes] 105))
  clear m0_ m1_ m2_ m3_ m4_ m5_
  generalize W.alloc (.cells #[.int .i64 m0.tok.kind, .int .i64 m0.tok.pos, .string ⟨m0.tok.text.toArray⟩, .int .i64 m0.tok.int, (.slice kq m0.list.length kc), .int .i64 m0.takes] 105) = V at *
  generalize W.heap.size = gm at *
  clear HWs
  have qf := ent_free EM.out
  have q0 := ent_cell EM.out 0 _ rfl
  have q1 := ent_cell EM.out 1 _ rfl
  have q2 := ent_cell EM.out 2 _ rfl
  have q3 := ent_cell EM.out 3 _ rfl
  have q4 := ent_cell EM.out 4 _ rfl
  have q5 := ent_cell EM.out 5 _ rfl
  go_wp2_with fail
  refine (isCon_eq m0 _ _ true hc0).mono ?_
  rintro e w1 ⟨rfl, hb⟩
  replace EN := Lib.hid (ent_below EN.out hb)
  replace ER := Lib.hid (ent_below ER.out hb)
  replace EX := Lib.hid (ent_below EX.out hb)
  replace EM := Lib.hid (ent_below EM.out hb)
  replace HB := Lib.hid (HB.out.trans (hb.mono HB.out.size))
  clear hb
  clear qf q0 q1 q2 q3 q4 q5
  have qf := ent_free EM.out
  have q0 := ent_cell EM.out 0 _ rfl
  have q1 := ent_cell EM.out 1 _ rfl
  have q2 := ent_cell EM.out 2 _ rfl
  have q3 := ent_cell EM.out 3 _ rfl
  have q4 := ent_cell EM.out 4 _ rfl
  have q5 := ent_cell EM.out 5 _ rfl
  have xf := ent_free EX.out
  have x0 := ent_cell EX.out 0 _ rfl
  have x1 := ent_cell EX.out 1 _ rfl
  have x2 := ent_cell EX.out 2 _ rfl
  have x3 := ent_cell EX.out 3 _ rfl
  have x4 := ent_cell EX.out 4 _ rfl
  have x5 := ent_cell EX.out 5 _ rfl
  have x6 := ent_cell EX.out 6 _ rfl
  have xs1 := Lib.hid (ent_set (ent_set EX.out 0 (.int .i64 2)) 2 (.string ⟨m0.tok.text.toArray⟩)); have ers := Lib.hid (ent_other (ent_other ER.out gx 0 (.int .i64 2) (by omega)) gx 2 (.string ⟨m0.tok.text.toArray⟩) (by omega)); have hbs := Lib.hid ((HB.out.setCell (p := ⟨gx, 0, none⟩) (by dsimp only; omega) (.int .i64 2)).setCell (p := ⟨gx, 2, none⟩) (by dsimp only; omega) (.string ⟨m0.tok.text.toArray⟩))
  go_wp2_with fail
  go_region
  go_wp2_with fail
  replace EX := xs1; replace ER := ers; replace HB := hbs
  refine (eachExpr_any 81 (fun _ _ => by kernel_rfl) (Px.expr f) (ExprAt f) (exprAt_shape f) (j + 1) _ (n.list.drop 1) _ (kids_drop' (HK.out.below HB.out.drew) 1 (o + 6) (by omega) hc1 (by omega) rfl) (by rw [List.length_drop]; omega) (fun m _ j' kv' w1 hj _ hk' => HEX.out m kv' j' w1 hk' (by omega))).mono ?_
  intro e w2 ht
  cases hr : Px.each (Px.expr f) (n.list.drop 1) with
  | error p =>
    obtain ⟨rfl, hb⟩ := toldN_bad ht hr
    have ho : out = .error p := by rw [← HOUT.out]; rw [Px.plainExpr, HP.out]; dsimp only; rw [HH0.out, if_neg (by rw [HT0.out]; omega), if_pos hc0, HLE.out, ← List.drop_one, hr]
    subst ho
    exact ⟨rfl, HB.out.trans ((undrew hb).mono HB.out.size), rfl⟩
  | ok xs =>
    obtain ⟨av, rfl, hnew, hb⟩ := toldN_ok ht hr
    obtain ⟨pv, cv, rfl⟩ := hnew.now.len
    replace hb := undrew hb
    have ho : out = .ok (.mk 2 n.pos m0.text 0 [] xs []) := by rw [← HOUT.out]; rw [Px.plainExpr, HP.out]; dsimp only; rw [HH0.out, if_neg (by rw [HT0.out]; omega), if_pos hc0, HLE.out, ← List.drop_one, hr]
    subst ho
    have hlo := HB.out.size; have hws := ent_lt ER.out; have hxs := ent_lt EX.out
    have Hnew := Lib.hid (New.drewn hnew); clear hnew ht hr
    replace EX := Lib.hid (ent_below EX.out hb)
    replace ER := Lib.hid (ent_below ER.out hb)
    replace HB := Lib.hid (HB.out.trans (hb.mono HB.out.size))
    clear hb
    have xf := ent_free EX.out
    have x0 := ent_cell EX.out 0 _ rfl
    have x1 := ent_cell EX.out 1 _ rfl
    have x2 := ent_cell EX.out 2 _ rfl
    have x3 := ent_cell EX.out 3 _ rfl
    have x4 := ent_cell EX.out 4 _ rfl
    have x5 := ent_cell EX.out 5 _ rfl
    have x6 := ent_cell EX.out 6 _ rfl
    have rf := ent_free ER.out
    have r0 := ent_cell ER.out 0 _ rfl
    have r1 := ent_cell ER.out 1 _ rfl
    have r2 := ent_cell ER.out 2 _ rfl
    have r3 := ent_cell ER.out 3 _ rfl
    have r4 := ent_cell ER.out 4 _ rfl
    have r5 := ent_cell ER.out 5 _ rfl
    have r6 := ent_cell ER.out 6 _ rfl
    go_wp2_with fail
    refine bodyPost_ret (v := .agg #[.int .i64 2, .int .i64 n.pos, .string ⟨m0.tok.text.toArray⟩, .int .i64 0, .slice none 0 0, .slice pv xs.length cv, .slice none 0 0]) (by simp [results, Tryz.results112, go_sem, Px.Node.text, r0, r1, r2, r3, r4, r5, r6]) rfl ?_
    refine ⟨?_, _, rfl, fun u hu => ⟨_, _, _, rfl, row_nil _ _ _, ?_, row_nil _ _ _⟩⟩
    · repeat (first | with_reducible exact HB.out | with_reducible refine Below.drew ?_ | with_reducible refine Below.setCell ?_ (by dsimp only; omega) _)
    · refine New.stay (w := w) Hnew.out hlo ?_ u hu
      repeat (first | with_reducible exact Stay.refl _ _ | with_reducible refine Stay.set ?_ _ _ _ (by first | exact hxs | omega))

set_option maxHeartbeats 4000000 in
set_option maxRecDepth 100000 in
theorem plain_app (k : Nat) (n : Px.Node) (lv : Value) (w : World) (hk : KidsAt w k lv n.list) (l : List Px.Node) (hp : Px.nodes n 2 9 = .ok l) (m0 : Px.Node) (hm0 : n.list[0]? = some m0) (f : Nat) (hex : ExprC f k) (wd : List UInt8) (hwd : Px.word n = wd) (h1 : (wd == [102, 110]) = false) (h2 : (wd == [108, 101, 116]) = false) (h3 : (wd == [99, 97, 115, 101]) = false) (out : Px.R Px.Expr) (hout : Px.plainExpr (Px.expr f) n = out) (ht0 : m0.takes = 0) (hc0 : Px.isConB m0 = false) :
    Calls Tryz.prog 112 #[nodeV n lv] w (ToldN w (ExprAt (f + 1)) out) := by
  obtain ⟨hle, h2, h9, _⟩ := nodes_is hp
  have hle0 := hle
  rw [hle] at h2 h9
  obtain ⟨j, g, o, c, rfl, rfl, h3, h4, h5⟩ := hk.some (by intro e; rw [e] at h2; simp at h2)
  obtain ⟨kv0, hat0, hkm0⟩ := h5 0 m0 hm0
  rw [Nat.zero_mul, Nat.add_zero] at hat0
  have HAT0 := Lib.hid hat0; have HKM0 := Lib.hid hkm0; have HM0 := Lib.hid hm0
  clear hat0 hkm0 hm0
  have hc1 : ¬ c = 1 := by omega
  have hne : ¬ n.list = [] := by intro e; rw [e] at h2; simp at h2
  have hbi1 : ¬ ((n.list.length : Int) < 1) := by omega
  have hbi2 : ¬ ((n.list.length : Int) < 2) := by omega
  have hbj0 : (0 : Int) < (n.list.length : Int) := by omega
  have hbj1 : (1 : Int) < (n.list.length : Int) := by omega
  have HK := Lib.hid hk; have HP := Lib.hid hp
  clear h5 hk hp hle
  have HEX := Lib.hid hex; have HWD := Lib.hid hwd; clear hex hwd
  have HOUT := Lib.hid hout; clear hout
  have hgw : g < w.heap.size := World.block_lt_of_cell? w _ HAT0.out.c0
  have hgne : g ≠ w.heap.size + 1 := by omega
  have HLE := Lib.hid hle0
  have HH0 := Lib.hid (show l.headD n = m0 by rw [hle0, List.headD_eq_head?_getD, List.head?_eq_getElem?, HM0.out]; rfl)
  clear hle0
  have htk : decide ((0 : Int) < (m0.takes : Int)) = false := by simp; omega
  have htk2 : decide (0 < m0.takes) = false := by simp; omega
  have HT0 := Lib.hid ht0; clear ht0
  go_enter Tryz.func112, Tryz.ntmps112
  unfold nodeV
  go_wp2_with fail
  have EN := Lib.hid (ent_alloc (ent_new w #[.int .i64 n.tok.kind, .int .i64 n.tok.pos, .string ⟨n.tok.text.toArray⟩, .int .i64 n.tok.int, (.slice (some ⟨g, o, none⟩) n.list.length c), .int .i64 n.takes] 105) (.cells #[.int .i64 0, .int .i64 0, .string ⟨#[]⟩, .int .i64 0, .slice none 0 0, .slice none 0 0, .slice none 0 0] 47))
  have ER0 := ent_new (w.alloc (.cells #[.int .i64 n.tok.kind, .int .i64 n.tok.pos, .string ⟨n.tok.text.toArray⟩, .int .i64 n.tok.int, (.slice (some ⟨g, o, none⟩) n.list.length c), .int .i64 n.takes] 105)) #[.int .i64 0, .int .i64 0, .string ⟨#[]⟩, .int .i64 0, .slice none 0 0, .slice none 0 0, .slice none 0 0] 47
  rw [World.size_alloc] at ER0
  have ER := Lib.hid ER0
  have HB := Lib.hid (((Below.refl w.heap.size w).alloc (Nat.le_refl _) (.cells #[.int .i64 n.tok.kind, .int .i64 n.tok.pos, .string ⟨n.tok.text.toArray⟩, .int .i64 n.tok.int, (.slice (some ⟨g, o, none⟩) n.list.length c), .int .i64 n.takes] 105)).alloc (by simp) (.cells #[.int .i64 0, .int .i64 0, .string ⟨#[]⟩, .int .i64 0, .slice none 0 0, .slice none 0 0, .slice none 0 0] 47))
  clear ER0
  refine (word_eq (j + 1) n (.slice (some ⟨g, o, none⟩) n.list.length c) _ wd (HK.out.below HB.out) HWD.out).mono ?_
  rintro e w1 ⟨rfl, hb⟩
  replace EN := Lib.hid (ent_below EN.out hb)
  replace ER := Lib.hid (ent_below ER.out hb)
  replace HB := Lib.hid (HB.out.trans (hb.mono HB.out.size))
  clear hb
  have cf := ent_free EN.out
  have c0 := ent_cell EN.out 0 _ rfl
  have c1 := ent_cell EN.out 1 _ rfl
  have c2 := ent_cell EN.out 2 _ rfl
  have c3 := ent_cell EN.out 3 _ rfl
  have c4 := ent_cell EN.out 4 _ rfl
  have c5 := ent_cell EN.out 5 _ rfl
  go_wp2_with fail
  refine (nodes_okI (j + 1) n (.slice (some ⟨g, o, none⟩) n.list.length c) 2 9 2 9 _ rfl rfl (HK.out.below HB.out) (by omega) (by omega) l HP.out).mono ?_
  rintro e w1 ⟨rfl, hb⟩
  replace EN := Lib.hid (ent_below EN.out hb)
  replace ER := Lib.hid (ent_below ER.out hb)
  replace HB := Lib.hid (HB.out.trans (hb.mono HB.out.size))
  clear hb
  clear cf c0 c1 c2 c3 c4 c5
  have cf := ent_free EN.out
  have c0 := ent_cell EN.out 0 _ rfl
  have c1 := ent_cell EN.out 1 _ rfl
  have c2 := ent_cell EN.out 2 _ rfl
  have c3 := ent_cell EN.out 3 _ rfl
  have c4 := ent_cell EN.out 4 _ rfl
  have c5 := ent_cell EN.out 5 _ rfl
  go_wp2_with fail
  refine (pos_any n (.slice (some ⟨g, o, none⟩) n.list.length c) _).mono ?_
  rintro e w1 ⟨rfl, hb⟩
  replace EN := Lib.hid (ent_below EN.out hb)
  replace ER := Lib.hid (ent_below ER.out hb)
  replace HB := Lib.hid (HB.out.trans (hb.mono HB.out.size))
  clear hb
  clear cf c0 c1 c2 c3 c4 c5
  have hw2 : w.heap.size + 1 < w1.heap.size := ent_lt ER.out
  obtain ⟨kq, kc, rfl⟩ := HKM0.out.len
  go_upto_region 10 with fail
  have EX := Lib.hid (ent_new w1 #[.int .i64 6, .int .i64 n.pos, .string ⟨#[]⟩, .int .i64 0, .slice none 0 0, .slice none 0 0, .slice none 0 0] 47)
  replace EN := Lib.hid (ent_alloc EN.out (.cells #[.int .i64 6, .int .i64 n.pos, .string ⟨#[]⟩, .int .i64 0, .slice none 0 0, .slice none 0 0, .slice none 0 0] 47)); replace ER := Lib.hid (ent_alloc ER.out (.cells #[.int .i64 6, .int .i64 n.pos, .string ⟨#[]⟩, .int .i64 0, .slice none 0 0, .slice none 0 0, .slice none 0 0] 47)); replace HB := Lib.hid (HB.out.alloc HB.out.size (.cells #[.int .i64 6, .int .i64 n.pos, .string ⟨#[]⟩, .int .i64 0, .slice none 0 0, .slice none 0 0, .slice none 0 0] 47))
  have hWs : (w1.alloc (.cells #[.int .i64 6, .int .i64 n.pos, .string ⟨#[]⟩, .int .i64 0, .slice none 0 0, .slice none 0 0, .slice none 0 0] 47)).heap.size = w1.heap.size + 1 := by simp
  generalize w1.alloc (.cells #[.int .i64 6, .int .i64 n.pos, .string ⟨#[]⟩, .int .i64 0, .slice none 0 0, .slice none 0 0, .slice none 0 0] 47) = W at *
  generalize w1.heap.size = gx at *
  obtain ⟨m0_, m1_, m2_, m3_, m4_, m5_⟩ := HAT0.out.below HB.out
  have HWs := Lib.hid hWs; clear hWs
  go_upto_region 11 with fail
  have EM := Lib.hid (ent_new W #[.int .i64 m0.tok.kind, .int .i64 m0.tok.pos, .string ⟨m0.tok.text.toArray⟩, .int .i64 m0.tok.int, (.slice kq m0.list.length kc), .int .i64 m0.takes] 105)
  have hgm : gx < W.heap.size := ent_lt EX.out
  replace EN := Lib.hid (ent_alloc EN.out (.cells #[.int .i64 m0.tok.kind, .int .i64 m0.tok.pos, .string ⟨m0.tok.text.toArray⟩, .int .i64 m0.tok.int, (.slice kq m0.list.length kc), .int .i64 m0.takes] 105)); replace ER := Lib.hid (ent_alloc ER.out (.cells #[.int .i64 m0.tok.kind, .int .i64 m0.tok.pos, .string ⟨m0.tok.text.toArray⟩, .int .i64 m0.tok.int, (.slice kq m0.list.length kc), .int .i64 m0.takes] 105)); replace EX := Lib.hid (ent_alloc EX.out (.cells #[.int .i64 m0.tok.kind, .int .i64 m0.tok.pos, .string ⟨m0.tok.text.toArray⟩, .int .i64 m0.tok.int, (.slice kq m0.list.length kc), .int .i64 m0.takes] 105)); replace HB := Lib.hid (HB.out.alloc HB.out.size (.cells #[.int .i64 m0.tok.kind, .int .i64 m0.tok.pos, .string ⟨m0.tok.text.toArray⟩, .int .i64 m0.tok.int, (.slice kq m0.list.length kc), .int .i64 m0.takes] 105))
  clear m0_ m1_ m2_ m3_ m4_ m5_
  generalize W.alloc (.cells #[.int .i64 m0.tok.kind, .int .i64 m0.tok.pos, .string ⟨m0.tok.text.toArray⟩, .int .i64 m0.tok.int, (.slice kq m0.list.length kc), .int .i64 m0.takes] 105) = V at *
  generalize W.heap.size = gm at *
  clear HWs
  have qf := ent_free EM.out
  have q0 := ent_cell EM.out 0 _ rfl
  have q1 := ent_cell EM.out 1 _ rfl
  have q2 := ent_cell EM.out 2 _ rfl
  have q3 := ent_cell EM.out 3 _ rfl
  have q4 := ent_cell EM.out 4 _ rfl
  have q5 := ent_cell EM.out 5 _ rfl
  go_wp2_with fail
  refine (isCon_eq m0 _ _ false hc0).mono ?_
  rintro e w1 ⟨rfl, hb⟩
  replace EN := Lib.hid (ent_below EN.out hb)
  replace ER := Lib.hid (ent_below ER.out hb)
  replace EX := Lib.hid (ent_below EX.out hb)
  replace EM := Lib.hid (ent_below EM.out hb)
  replace HB := Lib.hid (HB.out.trans (hb.mono HB.out.size))
  clear hb
  clear qf q0 q1 q2 q3 q4 q5
  go_wp2_with fail
  refine (eachExpr_any 81 (fun _ _ => by kernel_rfl) (Px.expr f) (ExprAt f) (exprAt_shape f) (j + 1) _ (n.list) _ (HK.out.below HB.out) (by omega) (fun m _ j' kv' w1 hj _ hk' => HEX.out m kv' j' w1 hk' (by omega))).mono ?_
  intro e w2 ht
  cases hr : Px.each (Px.expr f) (n.list) with
  | error p =>
    obtain ⟨rfl, hb⟩ := toldN_bad ht hr
    have ho : out = .error p := by rw [← HOUT.out]; rw [Px.plainExpr, HP.out]; dsimp only; rw [HH0.out, if_neg (by rw [HT0.out]; omega), if_neg (by simp [hc0]), HLE.out, hr]
    subst ho
    exact ⟨rfl, HB.out.trans (hb.mono HB.out.size), rfl⟩
  | ok xs =>
    obtain ⟨av, rfl, hnew, hb⟩ := toldN_ok ht hr
    obtain ⟨pv, cv, rfl⟩ := hnew.now.len
    have ho : out = .ok (.mk 6 n.pos [] 0 [] xs []) := by rw [← HOUT.out]; rw [Px.plainExpr, HP.out]; dsimp only; rw [HH0.out, if_neg (by rw [HT0.out]; omega), if_neg (by simp [hc0]), HLE.out, hr]
    subst ho
    have hlo := HB.out.size; have hws := ent_lt ER.out; have hxs := ent_lt EX.out
    have Hnew := Lib.hid hnew; clear hnew ht hr
    replace EX := Lib.hid (ent_below EX.out hb)
    replace ER := Lib.hid (ent_below ER.out hb)
    replace HB := Lib.hid (HB.out.trans (hb.mono HB.out.size))
    clear hb
    have xf := ent_free EX.out
    have x0 := ent_cell EX.out 0 _ rfl
    have x1 := ent_cell EX.out 1 _ rfl
    have x2 := ent_cell EX.out 2 _ rfl
    have x3 := ent_cell EX.out 3 _ rfl
    have x4 := ent_cell EX.out 4 _ rfl
    have x5 := ent_cell EX.out 5 _ rfl
    have x6 := ent_cell EX.out 6 _ rfl
    have rf := ent_free ER.out
    have r0 := ent_cell ER.out 0 _ rfl
    have r1 := ent_cell ER.out 1 _ rfl
    have r2 := ent_cell ER.out 2 _ rfl
    have r3 := ent_cell ER.out 3 _ rfl
    have r4 := ent_cell ER.out 4 _ rfl
    have r5 := ent_cell ER.out 5 _ rfl
    have r6 := ent_cell ER.out 6 _ rfl
    go_wp2_with fail
    refine bodyPost_ret (v := .agg #[.int .i64 6, .int .i64 n.pos, .string ⟨#[]⟩, .int .i64 0, .slice none 0 0, .slice pv xs.length cv, .slice none 0 0]) (by simp [results, Tryz.results112, go_sem, Px.Node.text, r0, r1, r2, r3, r4, r5, r6]) rfl ?_
    refine ⟨?_, _, rfl, fun u hu => ⟨_, _, _, rfl, row_nil _ _ _, ?_, row_nil _ _ _⟩⟩
    · repeat (first | with_reducible exact HB.out | with_reducible refine Below.drew ?_ | with_reducible refine Below.setCell ?_ (by dsimp only; omega) _)
    · refine New.stay (w := w) Hnew.out hlo ?_ u hu
      repeat (first | with_reducible exact Stay.refl _ _ | with_reducible refine Stay.set ?_ _ _ _ (by first | exact hxs | omega))

theorem plain_any (f k : Nat) (n : Px.Node) (lv : Value) (w : World) (hk : KidsAt w k lv n.list) (hex : ExprC f k) (wd : List UInt8) (hwd : Px.word n = wd) (h1 : (wd == [102, 110]) = false) (h2 : (wd == [108, 101, 116]) = false) (h3 : (wd == [99, 97, 115, 101]) = false) :
    Calls Tryz.prog 112 #[nodeV n lv] w (ToldN w (ExprAt (f + 1)) (Px.plainExpr (Px.expr f) n)) := by
  cases hnd : Px.nodes n 2 9 with
  | error p =>
    have : Px.plainExpr (Px.expr f) n = .error p := by rw [Px.plainExpr, hnd]
    rw [this]
    exact (list_bad k n lv w hk wd hwd h1 h2 h3 p hnd).mono fun e w' ⟨h1, h2⟩ => ⟨h2, h1⟩
  | ok l =>
    obtain ⟨hle, h2', _, _⟩ := nodes_is hnd
    obtain ⟨m, hm⟩ : ∃ m, n.list[0]? = some m := ⟨n.list[0]'(by rw [← hle]; omega), List.getElem?_eq_getElem _⟩
    have hhd : l.headD n = m := by rw [hle, List.headD_eq_head?_getD, List.head?_eq_getElem?, hm]; rfl
    obtain ⟨j, g, o, c, _, _, _, _, h5⟩ := hk.some (by intro e; rw [hle, e] at h2'; simp at h2')
    obtain ⟨kv, hat, _⟩ := h5 0 m hm
    have hs := hat.small
    by_cases ht : 0 < m.takes
    · cases hh : Px.hold n (1 + m.takes) (1 + m.takes) with
      | error p =>
        have : Px.plainExpr (Px.expr f) n = .error p := by rw [Px.plainExpr, hnd]; dsimp only; rw [hhd, if_pos ht, hh]
        rw [this]
        exact (plain_hold_bad k n lv w hk l hnd m hm f hex wd hwd h1 h2 h3 ht hs p hh).mono fun e w' ⟨h1, h2⟩ => ⟨h2, h1⟩
      | ok u => exact plain_prim k n lv w hk l hnd m hm f hex wd hwd h1 h2 h3 _ rfl ht hs hh
    · cases hc : Px.isConB m with
      | true => exact plain_con k n lv w hk l hnd m hm f hex wd hwd h1 h2 h3 _ rfl (by omega) hc
      | false => exact plain_app k n lv w hk l hnd m hm f hex wd hwd h1 h2 h3 _ rfl (by omega) hc

theorem list_any (f k : Nat) (n : Px.Node) (lv : Value) (w : World) (hk : KidsAt w k lv n.list) (hkf : k ≤ f) (hex : ExprC f k) :
    Calls Tryz.prog 112 #[nodeV n lv] w (ToldN w (ExprAt (f + 1)) (Px.listExpr f (Px.expr f) n)) := by
  by_cases h1 : Px.word n = [102, 110]
  · rw [Px.listExpr, if_pos h1]
    exact list_fn k n lv w hk (f + 1) _ _ h1 (by decide) (fun u hu => fn_any f k n lv u hu hex)
  · by_cases h2 : Px.word n = [108, 101, 116]
    · rw [Px.listExpr, if_neg h1, if_pos h2]
      exact list_let k n lv w hk (f + 1) _ _ h2 (by decide) (by decide) (fun u hu => let_any f k n lv u hu hex)
    · by_cases h3 : Px.word n = [99, 97, 115, 101]
      · rw [Px.listExpr, if_neg h1, if_neg h2, if_pos h3]
        exact list_case k n lv w hk (f + 1) _ _ h3 (by decide) (by decide) (by decide) (fun u hu => case_any f k n lv u hu hkf hex)
      · rw [Px.listExpr, if_neg h1, if_neg h2, if_neg h3]
        exact plain_any f k n lv w hk hex _ rfl (by simpa using h1) (by simpa using h2) (by simpa using h3)

theorem expr_all (f : Nat) : ExprC f f := by
  induction f with
  | zero => intro n lv j w _ h; omega
  | succ f ih =>
    intro n lv j w hk hjf
    cases hl : Px.isListB n with
    | true =>
      rw [Px.expr, if_pos hl]
      exact expr_list (f + 1) j n lv w hl hk _ (fun u hu => list_any f j n lv u hu (by omega) (fun a b i w h hi => ih a b i w h (by omega)))
    | false =>
      cases hi : Px.isIntB n with
      | true =>
        have : Px.expr (f + 1) n = .ok (.mk 0 n.pos [] n.tok.int [] [] []) := by rw [Px.expr, if_neg (by simp [hl]), if_pos hi]
        rw [this]
        exact (expr_int n lv w hl hi).mono fun e w' ⟨h1, h2⟩ => ⟨h2, _, h1, fun u _ => ⟨_, _, _, rfl, row_nil _ _ _, row_nil _ _ _, row_nil _ _ _⟩⟩
      | false =>
        cases hc : Px.isConB n with
        | true =>
          have : Px.expr (f + 1) n = .ok (.mk 2 n.pos n.text 0 [] [] []) := by rw [Px.expr, if_neg (by simp [hl]), if_neg (by simp [hi]), if_pos hc]
          rw [this]
          exact (expr_con n lv w hl hi hc).mono fun e w' ⟨h1, h2⟩ => ⟨h2, _, h1, fun u _ => ⟨_, _, _, rfl, row_nil _ _ _, row_nil _ _ _, row_nil _ _ _⟩⟩
        | false =>
          cases hn : Px.isNameB n with
          | true =>
            have : Px.expr (f + 1) n = .ok (.mk 1 n.pos n.text 0 [] [] []) := by rw [Px.expr, if_neg (by simp [hl]), if_neg (by simp [hi]), if_neg (by simp [hc]), if_pos hn]
            rw [this]
            exact (expr_name n lv w hl hi hc hn).mono fun e w' ⟨h1, h2⟩ => ⟨h2, _, h1, fun u _ => ⟨_, _, _, rfl, row_nil _ _ _, row_nil _ _ _, row_nil _ _ _⟩⟩
          | false =>
            have : Px.expr (f + 1) n = .error n.pos := by rw [Px.expr, if_neg (by simp [hl]), if_neg (by simp [hi]), if_neg (by simp [hc]), if_neg (by simp [hn])]
            rw [this]
            exact (expr_not n lv w hl hi hc hn).mono fun e w' ⟨h1, h2⟩ => ⟨h2, h1⟩
/-- What a call of expr comes to. -/
theorem expr_any (f : Nat) (n : Px.Node) (lv : Value) (k : Nat) (w : World) (hk : KidsAt w k lv n.list) (hkf : k < f) : Calls Tryz.prog 81 #[nodeV n lv] w (ToldN w (ExprAt f) (Px.expr f n)) := expr_all f n lv k w hk hkf
end Go.Proofs.YtnhndamfbeiljaaGreatDoor

namespace Go.Proofs.YtnhndamfbeiljaaGreatDoor
open Go Go.RowKit

/-- What reading leaves: the reader's own block may have turned. -/
def PartPost {α : Type} (rep : World → Value → α → Prop) (r : Nat) (w : World) (res : Px.R α) (e : Ending) (w' : World) : Prop :=
  w.grownBy w' (some r) ∧ match res with
    | .error p => e = wrongAt p
    | .ok x => ∃ v, e = .returned v ∧ New rep w w' v x

set_option maxHeartbeats 2000000 in
set_option maxRecDepth 100000 in
theorem onlyExpr_any (r : Nat) (tv : Value) (all : List Lx.Tok) (stop B : Nat) (w : World) (h : Reader w r tv all 0 stop B) :
    Calls Tryz.prog 41 #[.pointer (some ⟨r, 0, none⟩)] w (PartPost (ExprAt 50) r w (Px.onlyExpr stop all)) := by
  have hrw := h.lt
  have hshort := h.short
  have H := Lib.hid h
  generalize hout : Px.onlyExpr stop all = out
  have HOUT := Lib.hid hout
  clear h hout
  have hfd : ∀ (a b c e : Value) (u : World), (Instr.field 102 (.agg #[a, b, c, e]) 1).run Tryz.prog u = .ok b u := fun a b c e u => by kernel_rfl
  go_enter Tryz.func41, Tryz.ntmps41
  go_wp2_with fail
  have hal : Below w.heap.size w (w.alloc (.cells #[.int .i64 0, .int .i64 0, .string ⟨#[]⟩, .int .i64 0, .slice none 0 0, .slice none 0 0, .slice none 0 0] 47)) := (Below.refl _ _).alloc (Nat.le_refl _) _
  have ER := Lib.hid (ent_new w #[.int .i64 0, .int .i64 0, .string ⟨#[]⟩, .int .i64 0, .slice none 0 0, .slice none 0 0, .slice none 0 0] 47)
  have hn := node_any (2 * all.length + 2) r tv all 0 stop B 0 _ (H.out.below hal) (by omega) (by omega)
  refine hn.mono ?_
  clear hn
  rintro e w1 ⟨hg, hres⟩
  rw [List.drop_zero] at hres
  have hgw : w.grownBy w1 (some r) := grown_trans (grown_below hal (Nat.le_refl _) _) hg
  cases hnd : Px.node stop (2 * all.length + 2) 0 all with
  | error p =>
    rw [hnd] at hres
    obtain rfl : e = wrongAt p := hres
    have ho : out = .error p := by rw [← HOUT.out, Px.onlyExpr, hnd]
    subst ho
    exact ⟨rfl, hgw, rfl⟩
  | ok res =>
    obtain ⟨n, ts⟩ := res
    rw [hnd] at hres
    obtain ⟨v, j, rfl, hnew, rfl, hj, hrd⟩ := hres
    obtain ⟨lv, rfl, hk, _⟩ := hnew.now
    obtain ⟨pk, ck, rfl⟩ := hk.len
    have hw1 : w.heap.size + 1 ≤ w1.heap.size := by have := hg.size; simpa using this
    replace ER := Lib.hid ((hg.block _ (by simp) (fun e => by simp at e; omega)).trans ER.out)
    have HG := Lib.hid hgw; have HK := Lib.hid hk; have HRD := Lib.hid hrd; have HND := Lib.hid hnd
    clear hg hgw hnew hk hrd hnd hal
    unfold nodeV
    go_wp2_with fail
    have hb : Below w1.heap.size w1 (w1.alloc (.cells #[.int .i64 n.tok.kind, .int .i64 n.tok.pos, .string ⟨n.tok.text.toArray⟩, .int .i64 n.tok.int, .slice pk n.list.length ck, .int .i64 n.takes] 105)) := (Below.refl _ _).alloc (Nat.le_refl _) _
    have EN := Lib.hid (ent_new w1 #[.int .i64 n.tok.kind, .int .i64 n.tok.pos, .string ⟨n.tok.text.toArray⟩, .int .i64 n.tok.int, .slice pk n.list.length ck, .int .i64 n.takes] 105)
    replace ER := Lib.hid (ent_below ER.out hb); replace HG := Lib.hid (grown_then HG.out (hb.mono (by omega))); replace HK := Lib.hid (HK.out.below hb); replace HRD := Lib.hid (HRD.out.below hb)
    clear hb
    by_cases hjl : j < all.length
    · have hd : decide (j < all.length) = true := by simpa using hjl
      obtain ⟨t, ht⟩ : ∃ t, all[j]? = some t := ⟨_, List.getElem?_eq_getElem hjl⟩
      have HT := Lib.hid ht
      have ho : out = .error t.pos := by
        obtain ⟨h1, h2⟩ := List.getElem?_eq_some_iff.1 ht
        rw [← HOUT.out, Px.onlyExpr, HND.out]; dsimp only; rw [List.drop_eq_getElem_cons h1, h2]
      subst ho
      clear ht
      refine (more_any r tv all j stop B _ HRD.out).mono ?_
      rw [hd]
      rintro e w2 ⟨rfl, hb⟩
      have hws := HG.out.size
      replace HG := Lib.hid (grown_then HG.out (hb.mono hws)); replace HRD := Lib.hid (HRD.out.below hb)
      clear hb
      go_wp2_with fail
      refine (ahead_some r tv all j stop B _ HRD.out t HT.out).mono ?_
      unfold tokV
      rintro e w3 ⟨rfl, hb⟩
      have hws2 := HG.out.size
      replace HG := Lib.hid (grown_then HG.out (hb.mono hws2))
      clear hb
      go_wp2
      exact ⟨rfl, HG.out, rfl⟩
    · have hd : decide (j < all.length) = false := by simpa using hjl
      have hdr : all.drop j = [] := List.drop_eq_nil_of_le (by omega)
      have ho : out = Px.expr 50 n := by rw [← HOUT.out, Px.onlyExpr, HND.out]; dsimp only; rw [hdr]
      have HO := Lib.hid ho
      clear ho hdr
      refine (more_any r tv all j stop B _ HRD.out).mono ?_
      rw [hd]
      rintro e w2 ⟨rfl, hb⟩
      have hws := HG.out.size
      replace EN := Lib.hid (ent_below EN.out hb); replace ER := Lib.hid (ent_below ER.out hb)
      replace HG := Lib.hid (grown_then HG.out (hb.mono hws)); replace HK := Lib.hid (HK.out.below hb)
      clear hb
      have cf := ent_free EN.out
      have c0 := ent_cell EN.out 0 _ rfl; have c1 := ent_cell EN.out 1 _ rfl; have c2 := ent_cell EN.out 2 _ rfl; have c3 := ent_cell EN.out 3 _ rfl; have c4 := ent_cell EN.out 4 _ rfl; have c5 := ent_cell EN.out 5 _ rfl
      go_wp2_with fail
      refine (expr_any 50 n (.slice pk n.list.length ck) (40 - 0) _ HK.out (by omega)).mono ?_
      intro e w3 ht
      have hws2 := HG.out.size
      have hes := ent_lt ER.out
      clear cf c0 c1 c2 c3 c4 c5
      cases hx : Px.expr 50 n with
      | error p =>
        obtain ⟨rfl, hb⟩ := toldN_bad ht hx
        have ho : out = .error p := by rw [HO.out, hx]
        subst ho
        exact ⟨rfl, grown_then HG.out (hb.mono hws2), rfl⟩
      | ok x =>
        obtain ⟨av, rfl, hnew, hb⟩ := toldN_ok ht hx
        obtain ⟨xk, xp, xi, xs, q1, n1, c1, q2, n2, c2, q3, n3, c3, rfl⟩ := exprAt_form 50 _ _ _ hnew.now
        have ho : out = .ok x := by rw [HO.out, hx]
        subst ho
        have Hnew := Lib.hid hnew
        replace ER := Lib.hid (ent_below ER.out hb)
        replace HG := Lib.hid (grown_then HG.out (hb.mono hws2))
        clear hb hnew ht hx
        have rf := ent_free ER.out
        have r0 := ent_cell ER.out 0 _ rfl; have r1 := ent_cell ER.out 1 _ rfl; have r2 := ent_cell ER.out 2 _ rfl; have r3 := ent_cell ER.out 3 _ rfl; have r4 := ent_cell ER.out 4 _ rfl; have r5 := ent_cell ER.out 5 _ rfl; have r6 := ent_cell ER.out 6 _ rfl
        go_wp2_with fail
        refine bodyPost_ret (v := .agg #[.int .i64 xk, .int .i64 xp, .string xs, .int .i64 xi, .slice q1 n1 c1, .slice q2 n2 c2, .slice q3 n3 c3]) (by simp [results, Tryz.results41, go_sem, r0, r1, r2, r3, r4, r5, r6]) rfl ⟨?_, _, rfl, ?_⟩
        · refine grown_then HG.out ?_
          repeat (first | with_reducible exact Below.refl _ _ | with_reducible refine Below.setCell ?_ (by dsimp only; omega) _)
        · refine New.stay (w := w) Hnew.out (by omega) ?_
          repeat (first | with_reducible exact Stay.refl _ _ | with_reducible refine Stay.set ?_ _ _ _ (by omega))
end Go.Proofs.YtnhndamfbeiljaaGreatDoor

namespace Go.Proofs.YtnhndamfbeiljaaGreatDoor
open Go Go.RowKit

def ofRExpr {α : Type} (r : Px.R α) : Px.Outcome α := match r with
  | .error p => .parse p
  | .ok x => .done x
theorem parsed_okExpr {α : Type} (read : Nat → List Lx.Tok → Px.R α) (l : List UInt8) (ts : List Lx.Tok) (h : ¬ 4096 < l.length) (ht : Lx.toks (l.length + 1) 0 l = (ts, none)) : Px.parsed read l = ofRExpr (read l.length ts) := by
  unfold Px.parsed ofRExpr; rw [if_neg h, ht]; dsimp only; cases read l.length ts <;> rfl
theorem sliceAt_below {w w' : World} {v : Value} {l : List UInt8} (h : SliceAt w v l) (hb : Below w.heap.size w w') : SliceAt w' v l := by
  rcases h with h | ⟨b, off, cap, h1, h2, h3, h4⟩
  · exact .inl h
  · exact .inr ⟨b, off, cap, h1, h2, h3, h4.below hb⟩
/-- What is handed out of a text: the part, the place, the error. -/
def ParsedPost {α : Type} (rep : World → Value → α → Prop) (zero : Value) (w : World) (out : Px.Outcome α) (e : Ending) (w' : World) : Prop :=
  Below w.heap.size w w' ∧ match out with
    | .lex p => e = .returned (.tuple #[zero, .int .i64 p, .int .i64 2])
    | .parse p => e = .returned (.tuple #[zero, .int .i64 p, .int .i64 3])
    | .done x => ∃ v, e = .returned (.tuple #[v, .int .i64 (-1), .int .i64 0]) ∧ New rep w w' v x

set_option maxHeartbeats 1000000 in
theorem toldExpr (b1 b2 p : Nat) (w : World) (x1 x2 : Int) (h1 : w.heap[b1]? = some (.cells #[.int .i64 x1] 3 (0, 0))) (h2 : w.heap[b2]? = some (.cells #[.int .i64 x2] 28 (0, 0))) (hne : b1 ≠ b2) :
    CallsD Tryz.prog 79 #[.pointer (some ⟨b1, 0, none⟩), .pointer (some ⟨b2, 0, none⟩)] (.panicking [{ v := wrongV p, recovered := false }]) w fun e u' w' =>
      e = .returned (.tuple #[]) ∧ u' = .panicking [{ v := wrongV p, recovered := true }] ∧ w' = (w.setCell ⟨b1, 0, none⟩ (.int .i64 p)).setCell ⟨b2, 0, none⟩ (.int .i64 3) := by
  have c1 : w.cell? ⟨b1, 0, none⟩ = some (.int .i64 x1) := ent_cell h1 0 _ rfl
  have c2 : w.cell? ⟨b2, 0, none⟩ = some (.int .i64 x2) := ent_cell h2 0 _ rfl
  have f1 := ent_free h1 0; have f2 := ent_free h2 0
  have hta : ∀ u : World, (Instr.typeAssert (.iface 95 (.agg #[.int .i64 p])) 20 95 false).run Tryz.prog u = .ok (.agg #[.int .i64 p]) u := fun u => by kernel_rfl
  have hfd : ∀ u : World, (Instr.field 95 (.agg #[.int .i64 p]) 0).run Tryz.prog u = .ok (.int .i64 p) u := fun u => by kernel_rfl
  refine callsD_of_wpS Tryz.func79 rfl fun c₀ cs hu => ?_
  unfold wrongV at hu
  apply wpS_seq
  apply wpS_region
  simp [wpOpsS, go_sem, recoverD, hu, Tryz.ntmps79, Exit.thenS]
  apply wpS_seq
  apply wpS_region
  simp [wpOpsS, go_sem, Exit.thenS]
  refine wpS_cond (t := true) (by simp [Act.eval, Array.replicate]) ?_
  simp only [if_true]
  apply wpS_region
  simp [wpOpsS, go_sem, hta, hfd, c1, c2, f1, f2, bodyPostS, results, Tryz.results79]
  rfl

theorem idleExpr (a1 a2 : Value) (w : World) :
    CallsD Tryz.prog 79 #[a1, a2] .returning w fun e u' w' => e = .returned (.tuple #[]) ∧ u' = .returning ∧ w' = w := by
  refine callsD_of_wpS Tryz.func79 rfl fun c₀ cs hu => ?_
  apply wpS_seq
  apply wpS_region
  simp [wpOpsS, go_sem, recoverD, hu, Tryz.ntmps79, Exit.thenS]
  apply wpS_seq
  apply wpS_region
  simp [wpOpsS, go_sem, Exit.thenS]
  refine wpS_cond (t := false) (by simp [Act.eval, Array.replicate]) ?_
  simp only [Bool.false_eq_true, if_false]
  refine wpS_of_wp (wp_skip ?_)
  cases c₀
  simp_all [bodyPostS, results, Tryz.results79]

set_option maxHeartbeats 2000000 in
set_option maxRecDepth 100000 in
theorem parsedExpr (v : Value) (l : List UInt8) (w : World) (h : SliceAt w v l) :
    Calls Tryz.prog 40 #[v, .func (.func 41) #[] #[]] w (ParsedPost (ExprAt 50) (.agg #[.int .i64 0, .int .i64 0, .string ⟨#[]⟩, .int .i64 0, .slice none 0 0, .slice none 0 0, .slice none 0 0]) w (Px.exprOf l)) := by
  have hmf : ∀ (fn : Fn) (first cap : Array Value) (w : World), (Instr.makeFunc fn first cap).run Tryz.prog w = .ok (.func fn first cap) w := fun _ _ _ _ => rfl
  generalize hout : Px.exprOf l = out
  have HOUT := Lib.hid hout
  clear hout
  have hw0 : ∀ u, Below w.heap.size w u → SliceAt u v l := fun u hu => sliceAt_below h hu
  have HSL := Lib.hid hw0
  obtain ⟨vp, vc, rfl⟩ : ∃ p c, v = .slice p l.length c := by
    rcases h with ⟨p, c, rfl, rfl⟩ | ⟨b, o, c, rfl, _⟩
    · exact ⟨p, c, rfl⟩
    · exact ⟨_, c, rfl⟩
  clear h hw0
  go_enter_defers Tryz.func40, Tryz.ntmps40
  go_wp2_with fail
  have EP := Lib.hid (ent_alloc (ent_alloc (ent_new w #[.int .i64 0, .int .i64 0, .string ⟨#[]⟩, .int .i64 0, .slice none 0 0, .slice none 0 0, .slice none 0 0] 47) (.cells #[.int .i64 0] 3)) (.cells #[.int .i64 0] 28))
  have EQ0 := ent_alloc (ent_new (w.alloc (.cells #[.int .i64 0, .int .i64 0, .string ⟨#[]⟩, .int .i64 0, .slice none 0 0, .slice none 0 0, .slice none 0 0] 47)) #[.int .i64 0] 3) (.cells #[.int .i64 0] 28)
  have EE0 := ent_new ((w.alloc (.cells #[.int .i64 0, .int .i64 0, .string ⟨#[]⟩, .int .i64 0, .slice none 0 0, .slice none 0 0, .slice none 0 0] 47)).alloc (.cells #[.int .i64 0] 3)) #[.int .i64 0] 28
  simp only [World.size_alloc] at EQ0 EE0
  have EQ := Lib.hid EQ0; have EE := Lib.hid EE0
  have HB := Lib.hid ((((Below.refl w.heap.size w).alloc (Nat.le_refl _) (.cells #[.int .i64 0, .int .i64 0, .string ⟨#[]⟩, .int .i64 0, .slice none 0 0, .slice none 0 0, .slice none 0 0] 47)).alloc (by simp) (.cells #[.int .i64 0] 3)).alloc (by simp; omega) (.cells #[.int .i64 0] 28))
  clear EQ0 EE0
  refine (tokens_any _ l _ (HSL.out _ HB.out)).mono ?_
  rintro e w1 ⟨tv, ts, tp, tc, rfl, hB, hown, hcase⟩
  have hsz : w.heap.size + 3 ≤ w1.heap.size := by have := hB.size; simp only [World.size_alloc] at this; omega
  replace EP := Lib.hid (ent_below EP.out hB); replace EQ := Lib.hid (ent_below EQ.out hB); replace EE := Lib.hid (ent_below EE.out hB)
  replace HB := Lib.hid (HB.out.trans (hB.mono HB.out.size))
  have HOWN := Lib.hid hown; have HCASE := Lib.hid hcase
  clear hB hown hcase
  have q0 := ent_cell EQ.out 0 _ rfl; have e0 := ent_cell EE.out 0 _ rfl; have qf := ent_free EQ.out; have ef := ent_free EE.out
  obtain ⟨tpp, tpc, rfl⟩ := own_slice HOWN.out
  have mk : ∀ tcv : Int, Hid ((((w1.setCell ⟨w.heap.size + 1, 0, none⟩ (.int .i64 tp)).setCell ⟨w.heap.size + 1 + 1, 0, none⟩ (.int .i64 tcv))).heap[w.heap.size]? = some (.cells #[.int .i64 0, .int .i64 0, .string ⟨#[]⟩, .int .i64 0, .slice none 0 0, .slice none 0 0, .slice none 0 0] 47 (0, 0))) ∧
      Hid ((((w1.setCell ⟨w.heap.size + 1, 0, none⟩ (.int .i64 tp)).setCell ⟨w.heap.size + 1 + 1, 0, none⟩ (.int .i64 tcv))).heap[w.heap.size + 1]? = some (.cells #[.int .i64 tp] 3 (0, 0))) ∧
      Hid ((((w1.setCell ⟨w.heap.size + 1, 0, none⟩ (.int .i64 tp)).setCell ⟨w.heap.size + 1 + 1, 0, none⟩ (.int .i64 tcv))).heap[w.heap.size + 1 + 1]? = some (.cells #[.int .i64 tcv] 28 (0, 0))) ∧
      Hid (Below w.heap.size w ((w1.setCell ⟨w.heap.size + 1, 0, none⟩ (.int .i64 tp)).setCell ⟨w.heap.size + 1 + 1, 0, none⟩ (.int .i64 tcv))) := fun tcv =>
    ⟨Lib.hid (ent_other (ent_other EP.out _ 0 _ (by omega)) _ 0 _ (by omega)), Lib.hid (ent_other (ent_set EQ.out 0 (.int .i64 tp)) _ 0 _ (by omega)), Lib.hid (ent_set (ent_other EE.out _ 0 _ (by omega)) 0 (.int .i64 tcv)), Lib.hid ((HB.out.setCell (by dsimp only; omega) _).setCell (by dsimp only; omega) _)⟩
  have MK := Lib.hid mk
  clear mk
  by_cases hc : tc = 0
  · subst hc
    have hlx : l.length ≤ 4096 ∧ Lx.toks (l.length + 1) 0 l = (ts, none) ∧ tp = -1 := by
      rcases HCASE.out with ⟨_, _, _, h⟩ | ⟨_, q, _, _, _, h⟩ | ⟨h1, h2, h3, _⟩
      · omega
      · omega
      · exact ⟨h1, h2, h3⟩
    obtain ⟨hl4, htk, rfl⟩ := hlx
    have HTK := Lib.hid htk
    clear htk
    go_wp2_with fail
    clear q0 e0 qf ef
    obtain ⟨EP2, EQ2, EE2, HB2⟩ := MK.out 0
    have hown2 : ((w1.setCell ⟨w.heap.size + 1, 0, none⟩ (.int .i64 (-1))).setCell ⟨w.heap.size + 1 + 1, 0, none⟩ (.int .i64 0)).ownsRow (w.heap.size + 3) 102 4 (.slice tpp ts.length tpc) ts.length (toksCells ts) :=
      own_stays (by simpa using HOWN.out) fun b hb => by
        have := (HOWN.out.lt b hb).1
        simp only [World.size_alloc] at this
        rw [Below.heap_setCell _ _ _ _ (by dsimp only; omega), Below.heap_setCell _ _ _ _ (by dsimp only; omega)]
    have HO2 := Lib.hid hown2
    have hWs : w.heap.size + 3 ≤ ((w1.setCell ⟨w.heap.size + 1, 0, none⟩ (.int .i64 (-1))).setCell ⟨w.heap.size + 1 + 1, 0, none⟩ (.int .i64 0)).heap.size := by simpa using hsz
    clear hown2 MK
    generalize ((w1.setCell ⟨w.heap.size + 1, 0, none⟩ (.int .i64 (-1))).setCell ⟨w.heap.size + 1 + 1, 0, none⟩ (.int .i64 0)) = W at *
    refine (prims_any _).mono ?_
    rintro e w2 ⟨rfl, rfl⟩
    have EB := Lib.hid (heap_alloc_new W (.map primsEs 12))
    replace EP2 := Lib.hid (ent_alloc EP2.out (.map primsEs 12)); replace EQ2 := Lib.hid (ent_alloc EQ2.out (.map primsEs 12)); replace EE2 := Lib.hid (ent_alloc EE2.out (.map primsEs 12))
    replace HB2 := Lib.hid (HB2.out.alloc HB2.out.size (.map primsEs 12)); replace HO2 := Lib.hid (HO2.out.alloc (.map primsEs 12))
    have hV : (W.alloc (.map primsEs 12)).heap.size = W.heap.size + 1 := by simp
    obtain ⟨B, hB⟩ : ∃ B, B = W.heap.size := ⟨_, rfl⟩
    have HV := Lib.hid hV; have HBB := Lib.hid hB
    clear hV
    rw [← hB] at EB ⊢
    clear hB
    generalize W.alloc (.map primsEs 12) = V at *
    go_wp2_with fail
    have hts : ts.length ≤ 4096 := by have := Lx.toks_len (l.length + 1) 0 l; rw [HTK.out] at this; simp only at this; omega
    have hrd := reader_new V tpp tpc ts l.length B _ HO2.out EB.out hts hl4
    have hVs : w.heap.size + 3 < V.heap.size + 1 := by have := HV.out; omega
    have hr := onlyExpr_any V.heap.size (.slice tpp ts.length tpc) ts l.length B _ hrd
    refine hr.mono ?_
    rintro e w3 ⟨hg, hres⟩
    have hnr : ∀ b, b < V.heap.size → w3.heap[b]? = V.heap[b]? := fun b hb => (hg.block b (by simp; omega) (fun e => by simp at e; omega)).trans (Below.heap_alloc V _ b hb)
    have hgs : V.heap.size + 1 ≤ w3.heap.size := by have := hg.size; simpa using this
    replace EP2 := Lib.hid ((hnr _ (by omega)).trans EP2.out); replace EQ2 := Lib.hid ((hnr _ (by omega)).trans EQ2.out); replace EE2 := Lib.hid ((hnr _ (by omega)).trans EE2.out)
    have HB3 : Hid (Below w.heap.size w w3) := Lib.hid ⟨hg.os.trans HB2.out.os, hg.tape.trans HB2.out.tape, hg.output.trans HB2.out.output, by have := HB2.out.size; omega, fun b hb => (hnr b (by omega)).trans (HB2.out.block b hb)⟩
    have hlo : V.heap.size + 1 ≤ (V.alloc (.cells #[.slice tpp ts.length tpc, .int .i64 0, .int .i64 l.length, .map (some B)] 100)).heap.size := by simp
    clear hr hrd hnr hg
    have hpx : out = ofRExpr (Px.onlyExpr l.length ts) := by
      rw [← HOUT.out]; exact parsed_okExpr Px.onlyExpr l ts (by omega) HTK.out
    cases hpr : Px.onlyExpr l.length ts with
    | error p =>
      rw [hpr] at hres hpx
      obtain rfl : e = wrongAt p := hres
      obtain rfl : out = .parse p := hpx
      have ne1 : w.heap.size + 1 ≠ w.heap.size + 1 + 1 := by omega
      refine leaves_cons (f := 79) (args := #[.pointer (some ⟨w.heap.size + 1, 0, none⟩), .pointer (some ⟨w.heap.size + 1 + 1, 0, none⟩)]) (by simp) (by simp [go_sem]) ?_
      refine (toldExpr (w.heap.size + 1) (w.heap.size + 1 + 1) p w3 _ _ EQ2.out EE2.out ne1).mono ?_
      rintro e u' w'' ⟨rfl, rfl, rfl⟩
      have EP3 := ent_other (ent_other EP2.out (w.heap.size + 1) 0 (.int .i64 p) (by omega)) (w.heap.size + 1 + 1) 0 (.int .i64 3) (by omega)
      have EQ3 := ent_other (ent_set EQ2.out 0 (.int .i64 p)) (w.heap.size + 1 + 1) 0 (.int .i64 3) (by omega)
      have EE3 := ent_set (ent_other EE2.out (w.heap.size + 1) 0 (.int .i64 p) (by omega)) 0 (.int .i64 3)
      have hbf := (HB3.out.setCell (p := ⟨w.heap.size + 1, 0, none⟩) (by dsimp only; omega) (.int .i64 p)).setCell (p := ⟨w.heap.size + 1 + 1, 0, none⟩) (by dsimp only; omega) (.int .i64 3)
      generalize (w3.setCell ⟨w.heap.size + 1, 0, none⟩ (.int .i64 p)).setCell ⟨w.heap.size + 1 + 1, 0, none⟩ (.int .i64 3) = U at *
      have q0 : U.cell? ⟨w.heap.size + 1, 0, none⟩ = some (.int .i64 p) := ent_cell EQ3 0 _ rfl; have e0 : U.cell? ⟨w.heap.size + 1 + 1, 0, none⟩ = some (.int .i64 3) := ent_cell EE3 0 _ rfl
      have p0 := ent_cell EP3 0 _ rfl
      have p1 := ent_cell EP3 1 _ rfl
      have p2 := ent_cell EP3 2 _ rfl
      have p3 := ent_cell EP3 3 _ rfl
      have p4 := ent_cell EP3 4 _ rfl
      have p5 := ent_cell EP3 5 _ rfl
      have p6 := ent_cell EP3 6 _ rfl
      refine ⟨.tuple #[.agg #[.int .i64 0, .int .i64 0, .string ⟨#[]⟩, .int .i64 0, .slice none 0 0, .slice none 0 0, .slice none 0 0], .int .i64 p, .int .i64 3], by simp [results, Tryz.results40, go_sem, p0, p1, p2, p3, p4, p5, p6, q0, e0], hbf, rfl⟩
    | ok x =>
      rw [hpr] at hres hpx
      obtain ⟨v, rfl, hnew⟩ := hres
      obtain rfl : out = .done x := hpx
      obtain ⟨xk, xp, xi, xs, q1, n1, c1, q2, n2, c2, q3, n3, c3, rfl⟩ := exprAt_form 50 _ _ _ hnew.now
      have Hnew := Lib.hid hnew; have HPR := Lib.hid hpr
      clear hnew hpr
      have pf := ent_free EP2.out; have qf := ent_free EQ2.out; have ef := ent_free EE2.out
      have q0 : w3.cell? ⟨w.heap.size + 1, 0, none⟩ = some (.int .i64 (-1)) := ent_cell EQ2.out 0 _ rfl; have e0 : w3.cell? ⟨w.heap.size + 1 + 1, 0, none⟩ = some (.int .i64 0) := ent_cell EE2.out 0 _ rfl
      have p0 := ent_cell EP2.out 0 _ rfl
      have p1 := ent_cell EP2.out 1 _ rfl
      have p2 := ent_cell EP2.out 2 _ rfl
      have p3 := ent_cell EP2.out 3 _ rfl
      have p4 := ent_cell EP2.out 4 _ rfl
      have p5 := ent_cell EP2.out 5 _ rfl
      have p6 := ent_cell EP2.out 6 _ rfl
      go_wp2_with fail
      refine leaves_cons (f := 79) (args := #[.pointer (some ⟨w.heap.size + 1, 0, none⟩), .pointer (some ⟨w.heap.size + 1 + 1, 0, none⟩)]) (by simp) (by simp [go_sem]) ?_
      refine (idleExpr _ _ _).mono ?_
      rintro e u' w'' ⟨rfl, rfl, rfl⟩
      refine ⟨.tuple #[.agg #[.int .i64 xk, .int .i64 xp, .string xs, .int .i64 xi, .slice q1 n1 c1, .slice q2 n2 c2, .slice q3 n3 c3], .int .i64 (-1), .int .i64 0], by simp [results, Tryz.results40, go_sem, p0, p1, p2, p3, p4, p5, p6, q0, e0], ?_, _, rfl, ?_⟩
      · repeat (first | with_reducible exact HB3.out | with_reducible refine Below.setCell ?_ (by dsimp only; omega) _)
      · refine New.stay (w := w) Hnew.out (by omega) ?_
        repeat (first | with_reducible exact Stay.refl _ _ | with_reducible refine Stay.set ?_ _ _ _ (by omega))
  · have hc2 : tc = 2 := by rcases HCASE.out with ⟨_, _, _, h⟩ | ⟨_, q, _, _, _, h⟩ | ⟨_, _, _, h⟩ <;> omega
    subst hc2
    have hpc : ∃ tq : Nat, tp = tq ∧ out = .lex tq := by
      rcases HCASE.out with ⟨h1, h2, h3, h4⟩ | ⟨h1, q, h2, h3, h4, h5⟩ | ⟨_, _, _, h⟩
      · rw [← HOUT.out]; unfold Px.exprOf Px.parsed; rw [if_pos h1]; exact ⟨4096, h3, rfl⟩
      · rw [← HOUT.out]; unfold Px.exprOf Px.parsed; rw [if_neg (by omega)]
        refine ⟨q, h4, ?_⟩
        cases hx : Lx.toks (l.length + 1) 0 l with
        | mk a b => rw [hx] at h2; simp only at h2; subst h2; rfl
      · omega
    obtain ⟨tq, rfl, rfl⟩ := hpc
    go_upto_region 3 with fail
    obtain ⟨EP2, EQ2, EE2, HB2⟩ := MK.out 2
    generalize ((w1.setCell ⟨w.heap.size + 1, 0, none⟩ (.int .i64 tq)).setCell ⟨w.heap.size + 1 + 1, 0, none⟩ (.int .i64 2)) = W at *
    clear q0 e0 qf ef
    have pf := ent_free EP2.out; have qf := ent_free EQ2.out; have ef := ent_free EE2.out
    have q0 : W.cell? ⟨w.heap.size + 1, 0, none⟩ = some (.int .i64 tq) := ent_cell EQ2.out 0 _ rfl; have e0 : W.cell? ⟨w.heap.size + 1 + 1, 0, none⟩ = some (.int .i64 2) := ent_cell EE2.out 0 _ rfl
    have p0 := ent_cell EP2.out 0 _ rfl
    have p1 := ent_cell EP2.out 1 _ rfl
    have p2 := ent_cell EP2.out 2 _ rfl
    have p3 := ent_cell EP2.out 3 _ rfl
    have p4 := ent_cell EP2.out 4 _ rfl
    have p5 := ent_cell EP2.out 5 _ rfl
    have p6 := ent_cell EP2.out 6 _ rfl
    go_region
    all_goals
      go_wp2_with fail
      refine ⟨.tuple #[.agg #[.int .i64 0, .int .i64 0, .string ⟨#[]⟩, .int .i64 0, .slice none 0 0, .slice none 0 0, .slice none 0 0], .int .i64 tq, .int .i64 2], by simp [results, Tryz.results40, go_sem, p0, p1, p2, p3, p4, p5, p6, q0, e0], ?_, rfl⟩
      repeat (first | with_reducible exact HB2.out | with_reducible refine Below.drew ?_ | with_reducible refine Below.setCell ?_ (by dsimp only; omega) _)
set_option maxHeartbeats 1000000 in
theorem Expr_any (v : Value) (l : List UInt8) (w : World) (h : SliceAt w v l) :
    Calls Tryz.prog 21 #[v] w (ParsedPost (ExprAt 50) (.agg #[.int .i64 0, .int .i64 0, .string ⟨#[]⟩, .int .i64 0, .slice none 0 0, .slice none 0 0, .slice none 0 0]) w (Px.exprOf l)) := by
  have hal : Below w.heap.size w (w.alloc (.cells #[.int .i64 0, .int .i64 0, .string ⟨#[]⟩, .int .i64 0, .slice none 0 0, .slice none 0 0, .slice none 0 0] 47)) := (Below.refl _ _).alloc (Nat.le_refl _) _
  have hp := parsedExpr v l _ (sliceAt_below h hal)
  have ER := Lib.hid (ent_new w #[.int .i64 0, .int .i64 0, .string ⟨#[]⟩, .int .i64 0, .slice none 0 0, .slice none 0 0, .slice none 0 0] 47)
  generalize hout : Px.exprOf l = out at *
  clear hout h
  have HP := Lib.hid hp
  clear hp
  go_enter Tryz.func21, Tryz.ntmps21
  go_wp2_with fail
  refine HP.out.mono ?_
  rintro e w1 ⟨hb, hres⟩
  have hs1 := hb.size
  simp only [World.size_alloc] at hs1
  replace ER := Lib.hid (ent_below ER.out hb)
  have HB := Lib.hid (hal.trans (hb.mono hal.size))
  clear hb hal HP
  have rf := ent_free ER.out
  have r0 := ent_cell ER.out 0 _ rfl
  have r1 := ent_cell ER.out 1 _ rfl
  have r2 := ent_cell ER.out 2 _ rfl
  have r3 := ent_cell ER.out 3 _ rfl
  have r4 := ent_cell ER.out 4 _ rfl
  have r5 := ent_cell ER.out 5 _ rfl
  have r6 := ent_cell ER.out 6 _ rfl
  cases out with
  | lex p =>
    obtain rfl : e = _ := hres
    go_wp2_with fail
    refine bodyPost_ret (v := .tuple #[.agg #[.int .i64 0, .int .i64 0, .string ⟨#[]⟩, .int .i64 0, .slice none 0 0, .slice none 0 0, .slice none 0 0], .int .i64 p, .int .i64 2]) (by simp [results, Tryz.results21, go_sem, r0, r1, r2, r3, r4, r5, r6]) rfl ⟨?_, rfl⟩
    repeat (first | with_reducible exact HB.out | with_reducible refine Below.setCell ?_ (by dsimp only; omega) _)
  | parse p =>
    obtain rfl : e = _ := hres
    go_wp2_with fail
    refine bodyPost_ret (v := .tuple #[.agg #[.int .i64 0, .int .i64 0, .string ⟨#[]⟩, .int .i64 0, .slice none 0 0, .slice none 0 0, .slice none 0 0], .int .i64 p, .int .i64 3]) (by simp [results, Tryz.results21, go_sem, r0, r1, r2, r3, r4, r5, r6]) rfl ⟨?_, rfl⟩
    repeat (first | with_reducible exact HB.out | with_reducible refine Below.setCell ?_ (by dsimp only; omega) _)
  | done x =>
    obtain ⟨av, rfl, hnew⟩ := hres
    obtain ⟨xk, xp, xi, xs, q1, n1, c1, q2, n2, c2, q3, n3, c3, rfl⟩ := exprAt_form 50 _ _ _ hnew.now
    have Hnew := Lib.hid hnew
    clear hnew
    go_wp2_with fail
    refine bodyPost_ret (v := .tuple #[.agg #[.int .i64 xk, .int .i64 xp, .string xs, .int .i64 xi, .slice q1 n1 c1, .slice q2 n2 c2, .slice q3 n3 c3], .int .i64 (-1), .int .i64 0]) (by simp [results, Tryz.results21, go_sem, r0, r1, r2, r3, r4, r5, r6]) rfl ⟨?_, _, rfl, ?_⟩
    · repeat (first | with_reducible exact HB.out | with_reducible refine Below.setCell ?_ (by dsimp only; omega) _)
    · refine New.stay (w := w) Hnew.out (by simp) ?_
      repeat (first | with_reducible exact Stay.refl _ _ | with_reducible refine Stay.set ?_ _ _ _ (by simp))
end Go.Proofs.YtnhndamfbeiljaaGreatDoor
