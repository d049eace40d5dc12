/-
  parse.expr: what it makes of a token; and of a list, once listExpr is known.
-/
import Derived.Test.YtnhndamfbeiljaaGreatDoorGRead
import Derived.Test.YtnhndamfbeiljaaGreatDoorGEach
import Derived.BigRegion
import Derived.Deep.DeepCutAuto
namespace Go.Proofs.YtnhndamfbeiljaaGreatDoor
open Go Go.RowKit
set_option linter.unusedVariables false
set_option linter.unusedSimpArgs false

theorem exprAt_form (f : Nat) (w : World) (v : Value) (x : Px.Expr) (h : ExprAt f w v x) : ∃ (k p i : Int) (s : ByteArray) (q1 : Option Addr) (n1 c1 : Nat) (q2 : Option Addr) (n2 c2 : Nat) (q3 : Option Addr) (n3 c3 : Nat),
    v = .agg #[.int .i64 k, .int .i64 p, .string s, .int .i64 i, .slice q1 n1 c1, .slice q2 n2 c2, .slice q3 n3 c3] := by
  cases f with
  | zero => exact h.elim
  | succ f =>
    obtain ⟨k, p, nm, i, ns, args, al⟩ := x
    obtain ⟨nv, xv, av, rfl, h1, h2, h3⟩ := h
    obtain ⟨q1, c1, rfl⟩ := h1.len
    obtain ⟨q2, c2, rfl⟩ := h2.len
    obtain ⟨q3, c3, rfl⟩ := h3.len
    exact ⟨_, _, _, _, _, _, _, _, _, _, _, _, _, rfl⟩
theorem exprAt_shape (f : Nat) (w : World) (v : Value) (x : Px.Expr) (h : ExprAt f w v x) : ShapeExpr v := by
  cases f with
  | zero => exact h.elim
  | succ f =>
    obtain ⟨k, p, nm, i, ns, args, al⟩ := x
    obtain ⟨nv, xv, av, rfl, h1, h2, h3⟩ := h
    obtain ⟨q1, c1, rfl⟩ := h1.len
    obtain ⟨q2, c2, rfl⟩ := h2.len
    obtain ⟨q3, c3, rfl⟩ := h3.len
    exact ⟨_, _, _, _, _, _, _, rfl, by simp [Value.oneCell']⟩

set_option maxHeartbeats 2000000 in
set_option maxRecDepth 100000 in
theorem expr_int (n : Px.Node) (lv : Value) (w : World) (hl : Px.isListB n = false) (hi : Px.isIntB n = true) :
    Calls Tryz.prog 81 #[nodeV n lv] w (fun e w' => e = .returned (.agg #[.int .i64 0, .int .i64 n.pos, .string ⟨#[]⟩, .int .i64 n.tok.int, .slice none 0 0, .slice none 0 0, .slice none 0 0]) ∧ Below w.heap.size w w') := by
  go_enter Tryz.func81, Tryz.ntmps81
  unfold nodeV
  go_wp2_with fail
  have EN := Lib.hid (ent_alloc (ent_new w #[.int .i64 n.tok.kind, .int .i64 n.tok.pos, .string ⟨n.tok.text.toArray⟩, .int .i64 n.tok.int, lv, .int .i64 n.takes] 105) (.cells #[.int .i64 0, .int .i64 0, .string ⟨#[]⟩, .int .i64 0, .slice none 0 0, .slice none 0 0, .slice none 0 0] 47))
  have ER0 := ent_new (w.alloc (.cells #[.int .i64 n.tok.kind, .int .i64 n.tok.pos, .string ⟨n.tok.text.toArray⟩, .int .i64 n.tok.int, lv, .int .i64 n.takes] 105)) #[.int .i64 0, .int .i64 0, .string ⟨#[]⟩, .int .i64 0, .slice none 0 0, .slice none 0 0, .slice none 0 0] 47
  rw [World.size_alloc] at ER0
  have ER := Lib.hid ER0
  have HB := Lib.hid (((Below.refl w.heap.size w).alloc (Nat.le_refl _) (.cells #[.int .i64 n.tok.kind, .int .i64 n.tok.pos, .string ⟨n.tok.text.toArray⟩, .int .i64 n.tok.int, lv, .int .i64 n.takes] 105)).alloc (by simp) (.cells #[.int .i64 0, .int .i64 0, .string ⟨#[]⟩, .int .i64 0, .slice none 0 0, .slice none 0 0, .slice none 0 0] 47))
  clear ER0
  refine (pos_any n lv _).mono ?_
  rintro e w1 ⟨rfl, hb⟩
  replace EN := Lib.hid (ent_below EN.out hb)
  replace ER := Lib.hid (ent_below ER.out hb)
  replace HB := Lib.hid (HB.out.trans (hb.mono HB.out.size))
  clear hb
  have hw1 : w.heap.size + 1 < w1.heap.size := ent_lt ER.out
  go_upto_region 3 with fail
  have EX := Lib.hid (ent_new w1 #[.int .i64 0, .int .i64 n.pos, .string ⟨#[]⟩, .int .i64 0, .slice none 0 0, .slice none 0 0, .slice none 0 0] 47)
  replace EN := Lib.hid (ent_alloc EN.out (.cells #[.int .i64 0, .int .i64 n.pos, .string ⟨#[]⟩, .int .i64 0, .slice none 0 0, .slice none 0 0, .slice none 0 0] 47))
  replace ER := Lib.hid (ent_alloc ER.out (.cells #[.int .i64 0, .int .i64 n.pos, .string ⟨#[]⟩, .int .i64 0, .slice none 0 0, .slice none 0 0, .slice none 0 0] 47))
  replace HB := Lib.hid (HB.out.alloc HB.out.size (.cells #[.int .i64 0, .int .i64 n.pos, .string ⟨#[]⟩, .int .i64 0, .slice none 0 0, .slice none 0 0, .slice none 0 0] 47))
  generalize w1.alloc (.cells #[.int .i64 0, .int .i64 n.pos, .string ⟨#[]⟩, .int .i64 0, .slice none 0 0, .slice none 0 0, .slice none 0 0] 47) = W at *
  generalize w1.heap.size = gx at *
  have cf := ent_free EN.out
  have c0 := ent_cell EN.out 0 _ rfl
  have c1 := ent_cell EN.out 1 _ rfl
  have c2 := ent_cell EN.out 2 _ rfl
  have c3 := ent_cell EN.out 3 _ rfl
  have c4 := ent_cell EN.out 4 _ rfl
  have c5 := ent_cell EN.out 5 _ rfl
  go_wp2_with fail
  refine (isList_eq n lv _ false hl).mono ?_
  rintro e w1 ⟨rfl, hb⟩
  replace EN := Lib.hid (ent_below EN.out hb)
  replace ER := Lib.hid (ent_below ER.out hb)
  replace EX := Lib.hid (ent_below EX.out hb)
  replace HB := Lib.hid (HB.out.trans (hb.mono HB.out.size))
  clear hb
  clear cf c0 c1 c2 c3 c4 c5
  have cf := ent_free EN.out
  have c0 := ent_cell EN.out 0 _ rfl
  have c1 := ent_cell EN.out 1 _ rfl
  have c2 := ent_cell EN.out 2 _ rfl
  have c3 := ent_cell EN.out 3 _ rfl
  have c4 := ent_cell EN.out 4 _ rfl
  have c5 := ent_cell EN.out 5 _ rfl
  go_wp2_with fail
  refine (isInt_eq n lv _ true hi).mono ?_
  rintro e w1 ⟨rfl, hb⟩
  replace EN := Lib.hid (ent_below EN.out hb)
  replace ER := Lib.hid (ent_below ER.out hb)
  replace EX := Lib.hid (ent_below EX.out hb)
  replace HB := Lib.hid (HB.out.trans (hb.mono HB.out.size))
  clear hb
  clear cf c0 c1 c2 c3 c4 c5
  have cf := ent_free EN.out
  have c0 := ent_cell EN.out 0 _ rfl
  have c1 := ent_cell EN.out 1 _ rfl
  have c2 := ent_cell EN.out 2 _ rfl
  have c3 := ent_cell EN.out 3 _ rfl
  have c4 := ent_cell EN.out 4 _ rfl
  have c5 := ent_cell EN.out 5 _ rfl
  have xf := ent_free EX.out
  have x0 := ent_cell EX.out 0 _ rfl
  have x1 := ent_cell EX.out 1 _ rfl
  have x2 := ent_cell EX.out 2 _ rfl
  have x3 := ent_cell EX.out 3 _ rfl
  have x4 := ent_cell EX.out 4 _ rfl
  have x5 := ent_cell EX.out 5 _ rfl
  have x6 := ent_cell EX.out 6 _ rfl
  have rf := ent_free ER.out
  have r0 := ent_cell ER.out 0 _ rfl
  have r1 := ent_cell ER.out 1 _ rfl
  have r2 := ent_cell ER.out 2 _ rfl
  have r3 := ent_cell ER.out 3 _ rfl
  have r4 := ent_cell ER.out 4 _ rfl
  have r5 := ent_cell ER.out 5 _ rfl
  have r6 := ent_cell ER.out 6 _ rfl
  go_wp2_with fail
  go_region
  go_wp2_with fail
  refine bodyPost_ret (v := .agg #[.int .i64 0, .int .i64 n.pos, .string ⟨#[]⟩, .int .i64 n.tok.int, .slice none 0 0, .slice none 0 0, .slice none 0 0]) (by simp [results, Tryz.results81, go_sem, Px.Node.text, r0, r1, r2, r3, r4, r5, r6]) rfl ?_
  refine ⟨rfl, ?_⟩
  repeat (first | with_reducible exact HB.out | with_reducible refine Below.drew ?_ | with_reducible refine Below.setCell ?_ (by dsimp only; omega) _)

set_option maxHeartbeats 2000000 in
set_option maxRecDepth 100000 in
theorem expr_con (n : Px.Node) (lv : Value) (w : World) (hl : Px.isListB n = false) (hi : Px.isIntB n = false) (hc : Px.isConB n = true) :
    Calls Tryz.prog 81 #[nodeV n lv] w (fun e w' => e = .returned (.agg #[.int .i64 2, .int .i64 n.pos, .string ⟨n.text.toArray⟩, .int .i64 0, .slice none 0 0, .slice none 0 0, .slice none 0 0]) ∧ Below w.heap.size w w') := by
  go_enter Tryz.func81, Tryz.ntmps81
  unfold nodeV
  go_wp2_with fail
  have EN := Lib.hid (ent_alloc (ent_new w #[.int .i64 n.tok.kind, .int .i64 n.tok.pos, .string ⟨n.tok.text.toArray⟩, .int .i64 n.tok.int, lv, .int .i64 n.takes] 105) (.cells #[.int .i64 0, .int .i64 0, .string ⟨#[]⟩, .int .i64 0, .slice none 0 0, .slice none 0 0, .slice none 0 0] 47))
  have ER0 := ent_new (w.alloc (.cells #[.int .i64 n.tok.kind, .int .i64 n.tok.pos, .string ⟨n.tok.text.toArray⟩, .int .i64 n.tok.int, lv, .int .i64 n.takes] 105)) #[.int .i64 0, .int .i64 0, .string ⟨#[]⟩, .int .i64 0, .slice none 0 0, .slice none 0 0, .slice none 0 0] 47
  rw [World.size_alloc] at ER0
  have ER := Lib.hid ER0
  have HB := Lib.hid (((Below.refl w.heap.size w).alloc (Nat.le_refl _) (.cells #[.int .i64 n.tok.kind, .int .i64 n.tok.pos, .string ⟨n.tok.text.toArray⟩, .int .i64 n.tok.int, lv, .int .i64 n.takes] 105)).alloc (by simp) (.cells #[.int .i64 0, .int .i64 0, .string ⟨#[]⟩, .int .i64 0, .slice none 0 0, .slice none 0 0, .slice none 0 0] 47))
  clear ER0
  refine (pos_any n lv _).mono ?_
  rintro e w1 ⟨rfl, hb⟩
  replace EN := Lib.hid (ent_below EN.out hb)
  replace ER := Lib.hid (ent_below ER.out hb)
  replace HB := Lib.hid (HB.out.trans (hb.mono HB.out.size))
  clear hb
  have hw1 : w.heap.size + 1 < w1.heap.size := ent_lt ER.out
  go_upto_region 3 with fail
  have EX := Lib.hid (ent_new w1 #[.int .i64 0, .int .i64 n.pos, .string ⟨#[]⟩, .int .i64 0, .slice none 0 0, .slice none 0 0, .slice none 0 0] 47)
  replace EN := Lib.hid (ent_alloc EN.out (.cells #[.int .i64 0, .int .i64 n.pos, .string ⟨#[]⟩, .int .i64 0, .slice none 0 0, .slice none 0 0, .slice none 0 0] 47))
  replace ER := Lib.hid (ent_alloc ER.out (.cells #[.int .i64 0, .int .i64 n.pos, .string ⟨#[]⟩, .int .i64 0, .slice none 0 0, .slice none 0 0, .slice none 0 0] 47))
  replace HB := Lib.hid (HB.out.alloc HB.out.size (.cells #[.int .i64 0, .int .i64 n.pos, .string ⟨#[]⟩, .int .i64 0, .slice none 0 0, .slice none 0 0, .slice none 0 0] 47))
  generalize w1.alloc (.cells #[.int .i64 0, .int .i64 n.pos, .string ⟨#[]⟩, .int .i64 0, .slice none 0 0, .slice none 0 0, .slice none 0 0] 47) = W at *
  generalize w1.heap.size = gx at *
  have cf := ent_free EN.out
  have c0 := ent_cell EN.out 0 _ rfl
  have c1 := ent_cell EN.out 1 _ rfl
  have c2 := ent_cell EN.out 2 _ rfl
  have c3 := ent_cell EN.out 3 _ rfl
  have c4 := ent_cell EN.out 4 _ rfl
  have c5 := ent_cell EN.out 5 _ rfl
  go_wp2_with fail
  refine (isList_eq n lv _ false hl).mono ?_
  rintro e w1 ⟨rfl, hb⟩
  replace EN := Lib.hid (ent_below EN.out hb)
  replace ER := Lib.hid (ent_below ER.out hb)
  replace EX := Lib.hid (ent_below EX.out hb)
  replace HB := Lib.hid (HB.out.trans (hb.mono HB.out.size))
  clear hb
  clear cf c0 c1 c2 c3 c4 c5
  have cf := ent_free EN.out
  have c0 := ent_cell EN.out 0 _ rfl
  have c1 := ent_cell EN.out 1 _ rfl
  have c2 := ent_cell EN.out 2 _ rfl
  have c3 := ent_cell EN.out 3 _ rfl
  have c4 := ent_cell EN.out 4 _ rfl
  have c5 := ent_cell EN.out 5 _ rfl
  go_wp2_with fail
  refine (isInt_eq n lv _ false hi).mono ?_
  rintro e w1 ⟨rfl, hb⟩
  replace EN := Lib.hid (ent_below EN.out hb)
  replace ER := Lib.hid (ent_below ER.out hb)
  replace EX := Lib.hid (ent_below EX.out hb)
  replace HB := Lib.hid (HB.out.trans (hb.mono HB.out.size))
  clear hb
  clear cf c0 c1 c2 c3 c4 c5
  have cf := ent_free EN.out
  have c0 := ent_cell EN.out 0 _ rfl
  have c1 := ent_cell EN.out 1 _ rfl
  have c2 := ent_cell EN.out 2 _ rfl
  have c3 := ent_cell EN.out 3 _ rfl
  have c4 := ent_cell EN.out 4 _ rfl
  have c5 := ent_cell EN.out 5 _ rfl
  go_wp2_with fail
  refine (isCon_eq n lv _ true hc).mono ?_
  rintro e w1 ⟨rfl, hb⟩
  replace EN := Lib.hid (ent_below EN.out hb)
  replace ER := Lib.hid (ent_below ER.out hb)
  replace EX := Lib.hid (ent_below EX.out hb)
  replace HB := Lib.hid (HB.out.trans (hb.mono HB.out.size))
  clear hb
  clear cf c0 c1 c2 c3 c4 c5
  have cf := ent_free EN.out
  have c0 := ent_cell EN.out 0 _ rfl
  have c1 := ent_cell EN.out 1 _ rfl
  have c2 := ent_cell EN.out 2 _ rfl
  have c3 := ent_cell EN.out 3 _ rfl
  have c4 := ent_cell EN.out 4 _ rfl
  have c5 := ent_cell EN.out 5 _ rfl
  have xf := ent_free EX.out
  have x0 := ent_cell EX.out 0 _ rfl
  have x1 := ent_cell EX.out 1 _ rfl
  have x2 := ent_cell EX.out 2 _ rfl
  have x3 := ent_cell EX.out 3 _ rfl
  have x4 := ent_cell EX.out 4 _ rfl
  have x5 := ent_cell EX.out 5 _ rfl
  have x6 := ent_cell EX.out 6 _ rfl
  have rf := ent_free ER.out
  have r0 := ent_cell ER.out 0 _ rfl
  have r1 := ent_cell ER.out 1 _ rfl
  have r2 := ent_cell ER.out 2 _ rfl
  have r3 := ent_cell ER.out 3 _ rfl
  have r4 := ent_cell ER.out 4 _ rfl
  have r5 := ent_cell ER.out 5 _ rfl
  have r6 := ent_cell ER.out 6 _ rfl
  go_wp2_with fail
  go_region
  go_wp2_with fail
  refine bodyPost_ret (v := .agg #[.int .i64 2, .int .i64 n.pos, .string ⟨n.text.toArray⟩, .int .i64 0, .slice none 0 0, .slice none 0 0, .slice none 0 0]) (by simp [results, Tryz.results81, go_sem, Px.Node.text, r0, r1, r2, r3, r4, r5, r6]) rfl ?_
  refine ⟨rfl, ?_⟩
  repeat (first | with_reducible exact HB.out | with_reducible refine Below.drew ?_ | with_reducible refine Below.setCell ?_ (by dsimp only; omega) _)

set_option maxHeartbeats 2000000 in
set_option maxRecDepth 100000 in
theorem expr_name (n : Px.Node) (lv : Value) (w : World) (hl : Px.isListB n = false) (hi : Px.isIntB n = false) (hc : Px.isConB n = false) (hn : Px.isNameB n = true) :
    Calls Tryz.prog 81 #[nodeV n lv] w (fun e w' => e = .returned (.agg #[.int .i64 1, .int .i64 n.pos, .string ⟨n.text.toArray⟩, .int .i64 0, .slice none 0 0, .slice none 0 0, .slice none 0 0]) ∧ Below w.heap.size w w') := by
  go_enter Tryz.func81, Tryz.ntmps81
  unfold nodeV
  go_wp2_with fail
  have EN := Lib.hid (ent_alloc (ent_new w #[.int .i64 n.tok.kind, .int .i64 n.tok.pos, .string ⟨n.tok.text.toArray⟩, .int .i64 n.tok.int, lv, .int .i64 n.takes] 105) (.cells #[.int .i64 0, .int .i64 0, .string ⟨#[]⟩, .int .i64 0, .slice none 0 0, .slice none 0 0, .slice none 0 0] 47))
  have ER0 := ent_new (w.alloc (.cells #[.int .i64 n.tok.kind, .int .i64 n.tok.pos, .string ⟨n.tok.text.toArray⟩, .int .i64 n.tok.int, lv, .int .i64 n.takes] 105)) #[.int .i64 0, .int .i64 0, .string ⟨#[]⟩, .int .i64 0, .slice none 0 0, .slice none 0 0, .slice none 0 0] 47
  rw [World.size_alloc] at ER0
  have ER := Lib.hid ER0
  have HB := Lib.hid (((Below.refl w.heap.size w).alloc (Nat.le_refl _) (.cells #[.int .i64 n.tok.kind, .int .i64 n.tok.pos, .string ⟨n.tok.text.toArray⟩, .int .i64 n.tok.int, lv, .int .i64 n.takes] 105)).alloc (by simp) (.cells #[.int .i64 0, .int .i64 0, .string ⟨#[]⟩, .int .i64 0, .slice none 0 0, .slice none 0 0, .slice none 0 0] 47))
  clear ER0
  refine (pos_any n lv _).mono ?_
  rintro e w1 ⟨rfl, hb⟩
  replace EN := Lib.hid (ent_below EN.out hb)
  replace ER := Lib.hid (ent_below ER.out hb)
  replace HB := Lib.hid (HB.out.trans (hb.mono HB.out.size))
  clear hb
  have hw1 : w.heap.size + 1 < w1.heap.size := ent_lt ER.out
  go_upto_region 3 with fail
  have EX := Lib.hid (ent_new w1 #[.int .i64 0, .int .i64 n.pos, .string ⟨#[]⟩, .int .i64 0, .slice none 0 0, .slice none 0 0, .slice none 0 0] 47)
  replace EN := Lib.hid (ent_alloc EN.out (.cells #[.int .i64 0, .int .i64 n.pos, .string ⟨#[]⟩, .int .i64 0, .slice none 0 0, .slice none 0 0, .slice none 0 0] 47))
  replace ER := Lib.hid (ent_alloc ER.out (.cells #[.int .i64 0, .int .i64 n.pos, .string ⟨#[]⟩, .int .i64 0, .slice none 0 0, .slice none 0 0, .slice none 0 0] 47))
  replace HB := Lib.hid (HB.out.alloc HB.out.size (.cells #[.int .i64 0, .int .i64 n.pos, .string ⟨#[]⟩, .int .i64 0, .slice none 0 0, .slice none 0 0, .slice none 0 0] 47))
  generalize w1.alloc (.cells #[.int .i64 0, .int .i64 n.pos, .string ⟨#[]⟩, .int .i64 0, .slice none 0 0, .slice none 0 0, .slice none 0 0] 47) = W at *
  generalize w1.heap.size = gx at *
  have cf := ent_free EN.out
  have c0 := ent_cell EN.out 0 _ rfl
  have c1 := ent_cell EN.out 1 _ rfl
  have c2 := ent_cell EN.out 2 _ rfl
  have c3 := ent_cell EN.out 3 _ rfl
  have c4 := ent_cell EN.out 4 _ rfl
  have c5 := ent_cell EN.out 5 _ rfl
  go_wp2_with fail
  refine (isList_eq n lv _ false hl).mono ?_
  rintro e w1 ⟨rfl, hb⟩
  replace EN := Lib.hid (ent_below EN.out hb)
  replace ER := Lib.hid (ent_below ER.out hb)
  replace EX := Lib.hid (ent_below EX.out hb)
  replace HB := Lib.hid (HB.out.trans (hb.mono HB.out.size))
  clear hb
  clear cf c0 c1 c2 c3 c4 c5
  have cf := ent_free EN.out
  have c0 := ent_cell EN.out 0 _ rfl
  have c1 := ent_cell EN.out 1 _ rfl
  have c2 := ent_cell EN.out 2 _ rfl
  have c3 := ent_cell EN.out 3 _ rfl
  have c4 := ent_cell EN.out 4 _ rfl
  have c5 := ent_cell EN.out 5 _ rfl
  go_wp2_with fail
  refine (isInt_eq n lv _ false hi).mono ?_
  rintro e w1 ⟨rfl, hb⟩
  replace EN := Lib.hid (ent_below EN.out hb)
  replace ER := Lib.hid (ent_below ER.out hb)
  replace EX := Lib.hid (ent_below EX.out hb)
  replace HB := Lib.hid (HB.out.trans (hb.mono HB.out.size))
  clear hb
  clear cf c0 c1 c2 c3 c4 c5
  have cf := ent_free EN.out
  have c0 := ent_cell EN.out 0 _ rfl
  have c1 := ent_cell EN.out 1 _ rfl
  have c2 := ent_cell EN.out 2 _ rfl
  have c3 := ent_cell EN.out 3 _ rfl
  have c4 := ent_cell EN.out 4 _ rfl
  have c5 := ent_cell EN.out 5 _ rfl
  go_wp2_with fail
  refine (isCon_eq n lv _ false hc).mono ?_
  rintro e w1 ⟨rfl, hb⟩
  replace EN := Lib.hid (ent_below EN.out hb)
  replace ER := Lib.hid (ent_below ER.out hb)
  replace EX := Lib.hid (ent_below EX.out hb)
  replace HB := Lib.hid (HB.out.trans (hb.mono HB.out.size))
  clear hb
  clear cf c0 c1 c2 c3 c4 c5
  have cf := ent_free EN.out
  have c0 := ent_cell EN.out 0 _ rfl
  have c1 := ent_cell EN.out 1 _ rfl
  have c2 := ent_cell EN.out 2 _ rfl
  have c3 := ent_cell EN.out 3 _ rfl
  have c4 := ent_cell EN.out 4 _ rfl
  have c5 := ent_cell EN.out 5 _ rfl
  go_wp2_with fail
  refine (isName_eq n lv _ true hn).mono ?_
  rintro e w1 ⟨rfl, hb⟩
  replace EN := Lib.hid (ent_below EN.out hb)
  replace ER := Lib.hid (ent_below ER.out hb)
  replace EX := Lib.hid (ent_below EX.out hb)
  replace HB := Lib.hid (HB.out.trans (hb.mono HB.out.size))
  clear hb
  clear cf c0 c1 c2 c3 c4 c5
  have cf := ent_free EN.out
  have c0 := ent_cell EN.out 0 _ rfl
  have c1 := ent_cell EN.out 1 _ rfl
  have c2 := ent_cell EN.out 2 _ rfl
  have c3 := ent_cell EN.out 3 _ rfl
  have c4 := ent_cell EN.out 4 _ rfl
  have c5 := ent_cell EN.out 5 _ rfl
  have xf := ent_free EX.out
  have x0 := ent_cell EX.out 0 _ rfl
  have x1 := ent_cell EX.out 1 _ rfl
  have x2 := ent_cell EX.out 2 _ rfl
  have x3 := ent_cell EX.out 3 _ rfl
  have x4 := ent_cell EX.out 4 _ rfl
  have x5 := ent_cell EX.out 5 _ rfl
  have x6 := ent_cell EX.out 6 _ rfl
  have rf := ent_free ER.out
  have r0 := ent_cell ER.out 0 _ rfl
  have r1 := ent_cell ER.out 1 _ rfl
  have r2 := ent_cell ER.out 2 _ rfl
  have r3 := ent_cell ER.out 3 _ rfl
  have r4 := ent_cell ER.out 4 _ rfl
  have r5 := ent_cell ER.out 5 _ rfl
  have r6 := ent_cell ER.out 6 _ rfl
  go_wp2_with fail
  go_region
  go_wp2_with fail
  refine bodyPost_ret (v := .agg #[.int .i64 1, .int .i64 n.pos, .string ⟨n.text.toArray⟩, .int .i64 0, .slice none 0 0, .slice none 0 0, .slice none 0 0]) (by simp [results, Tryz.results81, go_sem, Px.Node.text, r0, r1, r2, r3, r4, r5, r6]) rfl ?_
  refine ⟨rfl, ?_⟩
  repeat (first | with_reducible exact HB.out | with_reducible refine Below.drew ?_ | with_reducible refine Below.setCell ?_ (by dsimp only; omega) _)

set_option maxHeartbeats 2000000 in
set_option maxRecDepth 100000 in
theorem expr_not (n : Px.Node) (lv : Value) (w : World) (hl : Px.isListB n = false) (hi : Px.isIntB n = false) (hc : Px.isConB n = false) (hn : Px.isNameB n = false) :
    Calls Tryz.prog 81 #[nodeV n lv] w (fun e w' => e = wrongAt n.pos ∧ Below w.heap.size w w') := by
  go_enter Tryz.func81, Tryz.ntmps81
  unfold nodeV
  go_wp2_with fail
  have EN := Lib.hid (ent_alloc (ent_new w #[.int .i64 n.tok.kind, .int .i64 n.tok.pos, .string ⟨n.tok.text.toArray⟩, .int .i64 n.tok.int, lv, .int .i64 n.takes] 105) (.cells #[.int .i64 0, .int .i64 0, .string ⟨#[]⟩, .int .i64 0, .slice none 0 0, .slice none 0 0, .slice none 0 0] 47))
  have ER0 := ent_new (w.alloc (.cells #[.int .i64 n.tok.kind, .int .i64 n.tok.pos, .string ⟨n.tok.text.toArray⟩, .int .i64 n.tok.int, lv, .int .i64 n.takes] 105)) #[.int .i64 0, .int .i64 0, .string ⟨#[]⟩, .int .i64 0, .slice none 0 0, .slice none 0 0, .slice none 0 0] 47
  rw [World.size_alloc] at ER0
  have ER := Lib.hid ER0
  have HB := Lib.hid (((Below.refl w.heap.size w).alloc (Nat.le_refl _) (.cells #[.int .i64 n.tok.kind, .int .i64 n.tok.pos, .string ⟨n.tok.text.toArray⟩, .int .i64 n.tok.int, lv, .int .i64 n.takes] 105)).alloc (by simp) (.cells #[.int .i64 0, .int .i64 0, .string ⟨#[]⟩, .int .i64 0, .slice none 0 0, .slice none 0 0, .slice none 0 0] 47))
  clear ER0
  refine (pos_any n lv _).mono ?_
  rintro e w1 ⟨rfl, hb⟩
  replace EN := Lib.hid (ent_below EN.out hb)
  replace ER := Lib.hid (ent_below ER.out hb)
  replace HB := Lib.hid (HB.out.trans (hb.mono HB.out.size))
  clear hb
  have hw1 : w.heap.size + 1 < w1.heap.size := ent_lt ER.out
  go_upto_region 3 with fail
  have EX := Lib.hid (ent_new w1 #[.int .i64 0, .int .i64 n.pos, .string ⟨#[]⟩, .int .i64 0, .slice none 0 0, .slice none 0 0, .slice none 0 0] 47)
  replace EN := Lib.hid (ent_alloc EN.out (.cells #[.int .i64 0, .int .i64 n.pos, .string ⟨#[]⟩, .int .i64 0, .slice none 0 0, .slice none 0 0, .slice none 0 0] 47))
  replace ER := Lib.hid (ent_alloc ER.out (.cells #[.int .i64 0, .int .i64 n.pos, .string ⟨#[]⟩, .int .i64 0, .slice none 0 0, .slice none 0 0, .slice none 0 0] 47))
  replace HB := Lib.hid (HB.out.alloc HB.out.size (.cells #[.int .i64 0, .int .i64 n.pos, .string ⟨#[]⟩, .int .i64 0, .slice none 0 0, .slice none 0 0, .slice none 0 0] 47))
  generalize w1.alloc (.cells #[.int .i64 0, .int .i64 n.pos, .string ⟨#[]⟩, .int .i64 0, .slice none 0 0, .slice none 0 0, .slice none 0 0] 47) = W at *
  generalize w1.heap.size = gx at *
  have cf := ent_free EN.out
  have c0 := ent_cell EN.out 0 _ rfl
  have c1 := ent_cell EN.out 1 _ rfl
  have c2 := ent_cell EN.out 2 _ rfl
  have c3 := ent_cell EN.out 3 _ rfl
  have c4 := ent_cell EN.out 4 _ rfl
  have c5 := ent_cell EN.out 5 _ rfl
  go_wp2_with fail
  refine (isList_eq n lv _ false hl).mono ?_
  rintro e w1 ⟨rfl, hb⟩
  replace EN := Lib.hid (ent_below EN.out hb)
  replace ER := Lib.hid (ent_below ER.out hb)
  replace EX := Lib.hid (ent_below EX.out hb)
  replace HB := Lib.hid (HB.out.trans (hb.mono HB.out.size))
  clear hb
  clear cf c0 c1 c2 c3 c4 c5
  have cf := ent_free EN.out
  have c0 := ent_cell EN.out 0 _ rfl
  have c1 := ent_cell EN.out 1 _ rfl
  have c2 := ent_cell EN.out 2 _ rfl
  have c3 := ent_cell EN.out 3 _ rfl
  have c4 := ent_cell EN.out 4 _ rfl
  have c5 := ent_cell EN.out 5 _ rfl
  go_wp2_with fail
  refine (isInt_eq n lv _ false hi).mono ?_
  rintro e w1 ⟨rfl, hb⟩
  replace EN := Lib.hid (ent_below EN.out hb)
  replace ER := Lib.hid (ent_below ER.out hb)
  replace EX := Lib.hid (ent_below EX.out hb)
  replace HB := Lib.hid (HB.out.trans (hb.mono HB.out.size))
  clear hb
  clear cf c0 c1 c2 c3 c4 c5
  have cf := ent_free EN.out
  have c0 := ent_cell EN.out 0 _ rfl
  have c1 := ent_cell EN.out 1 _ rfl
  have c2 := ent_cell EN.out 2 _ rfl
  have c3 := ent_cell EN.out 3 _ rfl
  have c4 := ent_cell EN.out 4 _ rfl
  have c5 := ent_cell EN.out 5 _ rfl
  go_wp2_with fail
  refine (isCon_eq n lv _ false hc).mono ?_
  rintro e w1 ⟨rfl, hb⟩
  replace EN := Lib.hid (ent_below EN.out hb)
  replace ER := Lib.hid (ent_below ER.out hb)
  replace EX := Lib.hid (ent_below EX.out hb)
  replace HB := Lib.hid (HB.out.trans (hb.mono HB.out.size))
  clear hb
  clear cf c0 c1 c2 c3 c4 c5
  have cf := ent_free EN.out
  have c0 := ent_cell EN.out 0 _ rfl
  have c1 := ent_cell EN.out 1 _ rfl
  have c2 := ent_cell EN.out 2 _ rfl
  have c3 := ent_cell EN.out 3 _ rfl
  have c4 := ent_cell EN.out 4 _ rfl
  have c5 := ent_cell EN.out 5 _ rfl
  go_wp2_with fail
  refine (isName_eq n lv _ false hn).mono ?_
  rintro e w1 ⟨rfl, hb⟩
  replace EN := Lib.hid (ent_below EN.out hb)
  replace ER := Lib.hid (ent_below ER.out hb)
  replace EX := Lib.hid (ent_below EX.out hb)
  replace HB := Lib.hid (HB.out.trans (hb.mono HB.out.size))
  clear hb
  clear cf c0 c1 c2 c3 c4 c5
  have cf := ent_free EN.out
  have c0 := ent_cell EN.out 0 _ rfl
  have c1 := ent_cell EN.out 1 _ rfl
  have c2 := ent_cell EN.out 2 _ rfl
  have c3 := ent_cell EN.out 3 _ rfl
  have c4 := ent_cell EN.out 4 _ rfl
  have c5 := ent_cell EN.out 5 _ rfl
  go_wp2_with fail
  refine (pos_any n lv _).mono ?_
  rintro e w1 ⟨rfl, hb⟩
  replace HB := Lib.hid (HB.out.trans (hb.mono HB.out.size))
  clear hb
  go_wp2
  exact ⟨rfl, rfl, HB.out⟩

set_option maxHeartbeats 2000000 in
set_option maxRecDepth 100000 in
theorem expr_list (f k : Nat) (n : Px.Node) (lv : Value) (w : World) (hl : Px.isListB n = true) (hk : KidsAt w k lv n.list) (r : Px.R Px.Expr) (hcall : (∀ u, KidsAt u k lv n.list → Calls Tryz.prog 112 #[nodeV n lv] u (ToldN u (ExprAt f) r))) :
    Calls Tryz.prog 81 #[nodeV n lv] w (ToldN w (ExprAt f) r) := by
  have HK := Lib.hid hk; have HC := Lib.hid hcall; clear hk hcall
  go_enter Tryz.func81, Tryz.ntmps81
  unfold nodeV
  go_wp2_with fail
  have EN := Lib.hid (ent_alloc (ent_new w #[.int .i64 n.tok.kind, .int .i64 n.tok.pos, .string ⟨n.tok.text.toArray⟩, .int .i64 n.tok.int, lv, .int .i64 n.takes] 105) (.cells #[.int .i64 0, .int .i64 0, .string ⟨#[]⟩, .int .i64 0, .slice none 0 0, .slice none 0 0, .slice none 0 0] 47))
  have ER0 := ent_new (w.alloc (.cells #[.int .i64 n.tok.kind, .int .i64 n.tok.pos, .string ⟨n.tok.text.toArray⟩, .int .i64 n.tok.int, lv, .int .i64 n.takes] 105)) #[.int .i64 0, .int .i64 0, .string ⟨#[]⟩, .int .i64 0, .slice none 0 0, .slice none 0 0, .slice none 0 0] 47
  rw [World.size_alloc] at ER0
  have ER := Lib.hid ER0
  have HB := Lib.hid (((Below.refl w.heap.size w).alloc (Nat.le_refl _) (.cells #[.int .i64 n.tok.kind, .int .i64 n.tok.pos, .string ⟨n.tok.text.toArray⟩, .int .i64 n.tok.int, lv, .int .i64 n.takes] 105)).alloc (by simp) (.cells #[.int .i64 0, .int .i64 0, .string ⟨#[]⟩, .int .i64 0, .slice none 0 0, .slice none 0 0, .slice none 0 0] 47))
  clear ER0
  refine (pos_any n lv _).mono ?_
  rintro e w1 ⟨rfl, hb⟩
  replace EN := Lib.hid (ent_below EN.out hb)
  replace ER := Lib.hid (ent_below ER.out hb)
  replace HB := Lib.hid (HB.out.trans (hb.mono HB.out.size))
  clear hb
  have hw1 : w.heap.size + 1 < w1.heap.size := ent_lt ER.out
  go_upto_region 3 with fail
  have EX := Lib.hid (ent_new w1 #[.int .i64 0, .int .i64 n.pos, .string ⟨#[]⟩, .int .i64 0, .slice none 0 0, .slice none 0 0, .slice none 0 0] 47)
  replace EN := Lib.hid (ent_alloc EN.out (.cells #[.int .i64 0, .int .i64 n.pos, .string ⟨#[]⟩, .int .i64 0, .slice none 0 0, .slice none 0 0, .slice none 0 0] 47))
  replace ER := Lib.hid (ent_alloc ER.out (.cells #[.int .i64 0, .int .i64 n.pos, .string ⟨#[]⟩, .int .i64 0, .slice none 0 0, .slice none 0 0, .slice none 0 0] 47))
  replace HB := Lib.hid (HB.out.alloc HB.out.size (.cells #[.int .i64 0, .int .i64 n.pos, .string ⟨#[]⟩, .int .i64 0, .slice none 0 0, .slice none 0 0, .slice none 0 0] 47))
  generalize w1.alloc (.cells #[.int .i64 0, .int .i64 n.pos, .string ⟨#[]⟩, .int .i64 0, .slice none 0 0, .slice none 0 0, .slice none 0 0] 47) = W at *
  generalize w1.heap.size = gx at *
  have cf := ent_free EN.out
  have c0 := ent_cell EN.out 0 _ rfl
  have c1 := ent_cell EN.out 1 _ rfl
  have c2 := ent_cell EN.out 2 _ rfl
  have c3 := ent_cell EN.out 3 _ rfl
  have c4 := ent_cell EN.out 4 _ rfl
  have c5 := ent_cell EN.out 5 _ rfl
  go_wp2_with fail
  refine (isList_eq n lv _ true hl).mono ?_
  rintro e w1 ⟨rfl, hb⟩
  replace EN := Lib.hid (ent_below EN.out hb)
  replace ER := Lib.hid (ent_below ER.out hb)
  replace EX := Lib.hid (ent_below EX.out hb)
  replace HB := Lib.hid (HB.out.trans (hb.mono HB.out.size))
  clear hb
  clear cf c0 c1 c2 c3 c4 c5
  have cf := ent_free EN.out
  have c0 := ent_cell EN.out 0 _ rfl
  have c1 := ent_cell EN.out 1 _ rfl
  have c2 := ent_cell EN.out 2 _ rfl
  have c3 := ent_cell EN.out 3 _ rfl
  have c4 := ent_cell EN.out 4 _ rfl
  have c5 := ent_cell EN.out 5 _ rfl
  go_wp2_with fail
  refine (HC.out _ (HK.out.below HB.out)).mono ?_
  intro e w2 ht
  cases r with
  | error p =>
    obtain ⟨rfl, hb⟩ := toldN_bad ht rfl
    exact ⟨rfl, HB.out.trans (hb.mono HB.out.size), rfl⟩
  | ok x =>
    obtain ⟨v, rfl, hnew, hb⟩ := toldN_ok ht rfl
    obtain ⟨xk, xp, xi, xs, q1, n1, c1, q2, n2, c2, q3, n3, c3, rfl⟩ := exprAt_form f _ _ _ hnew.now
    have hgs := ent_lt EX.out
    have hws := ent_lt ER.out
    have Hnew := Lib.hid hnew; clear hnew ht
    replace ER := Lib.hid (ent_below ER.out hb)
    replace HB := Lib.hid (HB.out.trans (hb.mono HB.out.size))
    clear hb
    have rf := ent_free ER.out
    have r0 := ent_cell ER.out 0 _ rfl
    have r1 := ent_cell ER.out 1 _ rfl
    have r2 := ent_cell ER.out 2 _ rfl
    have r3 := ent_cell ER.out 3 _ rfl
    have r4 := ent_cell ER.out 4 _ rfl
    have r5 := ent_cell ER.out 5 _ rfl
    have r6 := ent_cell ER.out 6 _ rfl
    go_wp2_with fail
    refine bodyPost_ret (v := .agg #[.int .i64 xk, .int .i64 xp, .string xs, .int .i64 xi, .slice q1 n1 c1, .slice q2 n2 c2, .slice q3 n3 c3]) (by simp [results, Tryz.results81, go_sem, Px.Node.text, r0, r1, r2, r3, r4, r5, r6]) rfl ?_
    refine ⟨?_, _, rfl, ?_⟩
    · repeat (first | with_reducible exact HB.out | with_reducible refine Below.drew ?_ | with_reducible refine Below.setCell ?_ (by dsimp only; omega) _)
    · refine New.stay (w := w) Hnew.out (by omega) ?_
      repeat (first | with_reducible exact Stay.refl _ _ | with_reducible refine Stay.set ?_ _ _ _ (by omega))

end Go.Proofs.YtnhndamfbeiljaaGreatDoor
