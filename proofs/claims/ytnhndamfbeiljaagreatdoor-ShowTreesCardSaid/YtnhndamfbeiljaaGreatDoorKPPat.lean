/-
  parse.pat: its contract.
-/
import Derived.Test.YtnhndamfbeiljaaGreatDoorGRead
import Derived.Test.YtnhndamfbeiljaaGreatDoorGEach
import Derived.BigRegion
import Derived.Deep.DeepCutAuto
namespace Go.Proofs.YtnhndamfbeiljaaGreatDoor
open Go Go.RowKit
set_option linter.unusedVariables false
set_option linter.unusedSimpArgs false

theorem patAt_shape (f : Nat) (w : World) (v : Value) (x : Px.Pat) (h : PatAt f w v x) : ShapePat v := by
  cases f with
  | zero => exact h.elim
  | succ f =>
    obtain ⟨k, p, nm, i, args⟩ := x
    obtain ⟨av, rfl, hr⟩ := h
    obtain ⟨q, c, rfl⟩ := hr.len
    exact ⟨_, _, _, _, _, rfl, by simp [Value.oneCell']⟩

set_option maxHeartbeats 2000000 in
set_option maxRecDepth 100000 in
theorem pat_int (n : Px.Node) (lv : Value) (w : World) (hl : Px.isListB n = false) (hi : Px.isIntB n = true) :
    Calls Tryz.prog 164 #[nodeV n lv] w (fun e w' => e = .returned (.agg #[.int .i64 2, .int .i64 n.pos, .string ⟨#[]⟩, .int .i64 n.tok.int, .slice none 0 0]) ∧ Below w.heap.size w w') := by
  go_enter Tryz.func164, Tryz.ntmps164
  unfold nodeV
  go_wp2_with fail
  have EN := Lib.hid (ent_alloc (ent_new w #[.int .i64 n.tok.kind, .int .i64 n.tok.pos, .string ⟨n.tok.text.toArray⟩, .int .i64 n.tok.int, lv, .int .i64 n.takes] 105) (.cells #[.int .i64 0, .int .i64 0, .string ⟨#[]⟩, .int .i64 0, .slice none 0 0] 84))
  have ER0 := ent_new (w.alloc (.cells #[.int .i64 n.tok.kind, .int .i64 n.tok.pos, .string ⟨n.tok.text.toArray⟩, .int .i64 n.tok.int, lv, .int .i64 n.takes] 105)) #[.int .i64 0, .int .i64 0, .string ⟨#[]⟩, .int .i64 0, .slice none 0 0] 84
  rw [World.size_alloc] at ER0
  have ER := Lib.hid ER0
  have HB := Lib.hid (((Below.refl w.heap.size w).alloc (Nat.le_refl _) (.cells #[.int .i64 n.tok.kind, .int .i64 n.tok.pos, .string ⟨n.tok.text.toArray⟩, .int .i64 n.tok.int, lv, .int .i64 n.takes] 105)).alloc (by simp) (.cells #[.int .i64 0, .int .i64 0, .string ⟨#[]⟩, .int .i64 0, .slice none 0 0] 84))
  clear ER0
  refine (pos_any n lv _).mono ?_
  rintro e w1 ⟨rfl, hb⟩
  replace EN := Lib.hid (ent_below EN.out hb)
  replace ER := Lib.hid (ent_below ER.out hb)
  replace HB := Lib.hid (HB.out.trans (hb.mono HB.out.size))
  clear hb
  have hw1 : w.heap.size + 1 < w1.heap.size := ent_lt ER.out
  go_upto_region 3 with fail
  have EX := Lib.hid (ent_new w1 #[.int .i64 0, .int .i64 n.pos, .string ⟨#[]⟩, .int .i64 0, .slice none 0 0] 84)
  replace EN := Lib.hid (ent_alloc EN.out (.cells #[.int .i64 0, .int .i64 n.pos, .string ⟨#[]⟩, .int .i64 0, .slice none 0 0] 84))
  replace ER := Lib.hid (ent_alloc ER.out (.cells #[.int .i64 0, .int .i64 n.pos, .string ⟨#[]⟩, .int .i64 0, .slice none 0 0] 84))
  replace HB := Lib.hid (HB.out.alloc HB.out.size (.cells #[.int .i64 0, .int .i64 n.pos, .string ⟨#[]⟩, .int .i64 0, .slice none 0 0] 84))
  generalize w1.alloc (.cells #[.int .i64 0, .int .i64 n.pos, .string ⟨#[]⟩, .int .i64 0, .slice none 0 0] 84) = W at *
  generalize w1.heap.size = gx at *
  have cf := ent_free EN.out
  have c0 := ent_cell EN.out 0 _ rfl
  have c1 := ent_cell EN.out 1 _ rfl
  have c2 := ent_cell EN.out 2 _ rfl
  have c3 := ent_cell EN.out 3 _ rfl
  have c4 := ent_cell EN.out 4 _ rfl
  have c5 := ent_cell EN.out 5 _ rfl
  go_wp2_with fail
  refine (isList_eq n lv _ false hl).mono ?_
  rintro e w1 ⟨rfl, hb⟩
  replace EN := Lib.hid (ent_below EN.out hb)
  replace ER := Lib.hid (ent_below ER.out hb)
  replace EX := Lib.hid (ent_below EX.out hb)
  replace HB := Lib.hid (HB.out.trans (hb.mono HB.out.size))
  clear hb
  clear cf c0 c1 c2 c3 c4 c5
  have cf := ent_free EN.out
  have c0 := ent_cell EN.out 0 _ rfl
  have c1 := ent_cell EN.out 1 _ rfl
  have c2 := ent_cell EN.out 2 _ rfl
  have c3 := ent_cell EN.out 3 _ rfl
  have c4 := ent_cell EN.out 4 _ rfl
  have c5 := ent_cell EN.out 5 _ rfl
  go_wp2_with fail
  refine (isInt_eq n lv _ true hi).mono ?_
  rintro e w1 ⟨rfl, hb⟩
  replace EN := Lib.hid (ent_below EN.out hb)
  replace ER := Lib.hid (ent_below ER.out hb)
  replace EX := Lib.hid (ent_below EX.out hb)
  replace HB := Lib.hid (HB.out.trans (hb.mono HB.out.size))
  clear hb
  clear cf c0 c1 c2 c3 c4 c5
  have cf := ent_free EN.out
  have c0 := ent_cell EN.out 0 _ rfl
  have c1 := ent_cell EN.out 1 _ rfl
  have c2 := ent_cell EN.out 2 _ rfl
  have c3 := ent_cell EN.out 3 _ rfl
  have c4 := ent_cell EN.out 4 _ rfl
  have c5 := ent_cell EN.out 5 _ rfl
  have xf := ent_free EX.out
  have x0 := ent_cell EX.out 0 _ rfl
  have x1 := ent_cell EX.out 1 _ rfl
  have x2 := ent_cell EX.out 2 _ rfl
  have x3 := ent_cell EX.out 3 _ rfl
  have x4 := ent_cell EX.out 4 _ rfl
  have rf := ent_free ER.out
  have r0 := ent_cell ER.out 0 _ rfl
  have r1 := ent_cell ER.out 1 _ rfl
  have r2 := ent_cell ER.out 2 _ rfl
  have r3 := ent_cell ER.out 3 _ rfl
  have r4 := ent_cell ER.out 4 _ rfl
  go_wp2_with fail
  go_region
  go_wp2_with fail
  refine bodyPost_ret (v := .agg #[.int .i64 2, .int .i64 n.pos, .string ⟨#[]⟩, .int .i64 n.tok.int, .slice none 0 0]) (by simp [results, Tryz.results164, go_sem, Px.Node.text, r0, r1, r2, r3, r4]) rfl ?_
  refine ⟨rfl, ?_⟩
  repeat (first | with_reducible exact HB.out | with_reducible refine Below.drew ?_ | with_reducible refine Below.setCell ?_ (by dsimp only; omega) _)

set_option maxHeartbeats 2000000 in
set_option maxRecDepth 100000 in
theorem pat_con (n : Px.Node) (lv : Value) (w : World) (hl : Px.isListB n = false) (hi : Px.isIntB n = false) (hc : Px.isConB n = true) :
    Calls Tryz.prog 164 #[nodeV n lv] w (fun e w' => e = .returned (.agg #[.int .i64 3, .int .i64 n.pos, .string ⟨n.text.toArray⟩, .int .i64 0, .slice none 0 0]) ∧ Below w.heap.size w w') := by
  go_enter Tryz.func164, Tryz.ntmps164
  unfold nodeV
  go_wp2_with fail
  have EN := Lib.hid (ent_alloc (ent_new w #[.int .i64 n.tok.kind, .int .i64 n.tok.pos, .string ⟨n.tok.text.toArray⟩, .int .i64 n.tok.int, lv, .int .i64 n.takes] 105) (.cells #[.int .i64 0, .int .i64 0, .string ⟨#[]⟩, .int .i64 0, .slice none 0 0] 84))
  have ER0 := ent_new (w.alloc (.cells #[.int .i64 n.tok.kind, .int .i64 n.tok.pos, .string ⟨n.tok.text.toArray⟩, .int .i64 n.tok.int, lv, .int .i64 n.takes] 105)) #[.int .i64 0, .int .i64 0, .string ⟨#[]⟩, .int .i64 0, .slice none 0 0] 84
  rw [World.size_alloc] at ER0
  have ER := Lib.hid ER0
  have HB := Lib.hid (((Below.refl w.heap.size w).alloc (Nat.le_refl _) (.cells #[.int .i64 n.tok.kind, .int .i64 n.tok.pos, .string ⟨n.tok.text.toArray⟩, .int .i64 n.tok.int, lv, .int .i64 n.takes] 105)).alloc (by simp) (.cells #[.int .i64 0, .int .i64 0, .string ⟨#[]⟩, .int .i64 0, .slice none 0 0] 84))
  clear ER0
  refine (pos_any n lv _).mono ?_
  rintro e w1 ⟨rfl, hb⟩
  replace EN := Lib.hid (ent_below EN.out hb)
  replace ER := Lib.hid (ent_below ER.out hb)
  replace HB := Lib.hid (HB.out.trans (hb.mono HB.out.size))
  clear hb
  have hw1 : w.heap.size + 1 < w1.heap.size := ent_lt ER.out
  go_upto_region 3 with fail
  have EX := Lib.hid (ent_new w1 #[.int .i64 0, .int .i64 n.pos, .string ⟨#[]⟩, .int .i64 0, .slice none 0 0] 84)
  replace EN := Lib.hid (ent_alloc EN.out (.cells #[.int .i64 0, .int .i64 n.pos, .string ⟨#[]⟩, .int .i64 0, .slice none 0 0] 84))
  replace ER := Lib.hid (ent_alloc ER.out (.cells #[.int .i64 0, .int .i64 n.pos, .string ⟨#[]⟩, .int .i64 0, .slice none 0 0] 84))
  replace HB := Lib.hid (HB.out.alloc HB.out.size (.cells #[.int .i64 0, .int .i64 n.pos, .string ⟨#[]⟩, .int .i64 0, .slice none 0 0] 84))
  generalize w1.alloc (.cells #[.int .i64 0, .int .i64 n.pos, .string ⟨#[]⟩, .int .i64 0, .slice none 0 0] 84) = W at *
  generalize w1.heap.size = gx at *
  have cf := ent_free EN.out
  have c0 := ent_cell EN.out 0 _ rfl
  have c1 := ent_cell EN.out 1 _ rfl
  have c2 := ent_cell EN.out 2 _ rfl
  have c3 := ent_cell EN.out 3 _ rfl
  have c4 := ent_cell EN.out 4 _ rfl
  have c5 := ent_cell EN.out 5 _ rfl
  go_wp2_with fail
  refine (isList_eq n lv _ false hl).mono ?_
  rintro e w1 ⟨rfl, hb⟩
  replace EN := Lib.hid (ent_below EN.out hb)
  replace ER := Lib.hid (ent_below ER.out hb)
  replace EX := Lib.hid (ent_below EX.out hb)
  replace HB := Lib.hid (HB.out.trans (hb.mono HB.out.size))
  clear hb
  clear cf c0 c1 c2 c3 c4 c5
  have cf := ent_free EN.out
  have c0 := ent_cell EN.out 0 _ rfl
  have c1 := ent_cell EN.out 1 _ rfl
  have c2 := ent_cell EN.out 2 _ rfl
  have c3 := ent_cell EN.out 3 _ rfl
  have c4 := ent_cell EN.out 4 _ rfl
  have c5 := ent_cell EN.out 5 _ rfl
  go_wp2_with fail
  refine (isInt_eq n lv _ false hi).mono ?_
  rintro e w1 ⟨rfl, hb⟩
  replace EN := Lib.hid (ent_below EN.out hb)
  replace ER := Lib.hid (ent_below ER.out hb)
  replace EX := Lib.hid (ent_below EX.out hb)
  replace HB := Lib.hid (HB.out.trans (hb.mono HB.out.size))
  clear hb
  clear cf c0 c1 c2 c3 c4 c5
  have cf := ent_free EN.out
  have c0 := ent_cell EN.out 0 _ rfl
  have c1 := ent_cell EN.out 1 _ rfl
  have c2 := ent_cell EN.out 2 _ rfl
  have c3 := ent_cell EN.out 3 _ rfl
  have c4 := ent_cell EN.out 4 _ rfl
  have c5 := ent_cell EN.out 5 _ rfl
  go_wp2_with fail
  refine (isCon_eq n lv _ true hc).mono ?_
  rintro e w1 ⟨rfl, hb⟩
  replace EN := Lib.hid (ent_below EN.out hb)
  replace ER := Lib.hid (ent_below ER.out hb)
  replace EX := Lib.hid (ent_below EX.out hb)
  replace HB := Lib.hid (HB.out.trans (hb.mono HB.out.size))
  clear hb
  clear cf c0 c1 c2 c3 c4 c5
  have cf := ent_free EN.out
  have c0 := ent_cell EN.out 0 _ rfl
  have c1 := ent_cell EN.out 1 _ rfl
  have c2 := ent_cell EN.out 2 _ rfl
  have c3 := ent_cell EN.out 3 _ rfl
  have c4 := ent_cell EN.out 4 _ rfl
  have c5 := ent_cell EN.out 5 _ rfl
  have xf := ent_free EX.out
  have x0 := ent_cell EX.out 0 _ rfl
  have x1 := ent_cell EX.out 1 _ rfl
  have x2 := ent_cell EX.out 2 _ rfl
  have x3 := ent_cell EX.out 3 _ rfl
  have x4 := ent_cell EX.out 4 _ rfl
  have rf := ent_free ER.out
  have r0 := ent_cell ER.out 0 _ rfl
  have r1 := ent_cell ER.out 1 _ rfl
  have r2 := ent_cell ER.out 2 _ rfl
  have r3 := ent_cell ER.out 3 _ rfl
  have r4 := ent_cell ER.out 4 _ rfl
  go_wp2_with fail
  go_region
  go_wp2_with fail
  refine bodyPost_ret (v := .agg #[.int .i64 3, .int .i64 n.pos, .string ⟨n.text.toArray⟩, .int .i64 0, .slice none 0 0]) (by simp [results, Tryz.results164, go_sem, Px.Node.text, r0, r1, r2, r3, r4]) rfl ?_
  refine ⟨rfl, ?_⟩
  repeat (first | with_reducible exact HB.out | with_reducible refine Below.drew ?_ | with_reducible refine Below.setCell ?_ (by dsimp only; omega) _)

set_option maxHeartbeats 2000000 in
set_option maxRecDepth 100000 in
theorem pat_name (n : Px.Node) (lv : Value) (w : World) (hl : Px.isListB n = false) (hi : Px.isIntB n = false) (hc : Px.isConB n = false) (hn : Px.isNameB n = true) :
    Calls Tryz.prog 164 #[nodeV n lv] w (fun e w' => e = .returned (.agg #[.int .i64 1, .int .i64 n.pos, .string ⟨n.text.toArray⟩, .int .i64 0, .slice none 0 0]) ∧ Below w.heap.size w w') := by
  go_enter Tryz.func164, Tryz.ntmps164
  unfold nodeV
  go_wp2_with fail
  have EN := Lib.hid (ent_alloc (ent_new w #[.int .i64 n.tok.kind, .int .i64 n.tok.pos, .string ⟨n.tok.text.toArray⟩, .int .i64 n.tok.int, lv, .int .i64 n.takes] 105) (.cells #[.int .i64 0, .int .i64 0, .string ⟨#[]⟩, .int .i64 0, .slice none 0 0] 84))
  have ER0 := ent_new (w.alloc (.cells #[.int .i64 n.tok.kind, .int .i64 n.tok.pos, .string ⟨n.tok.text.toArray⟩, .int .i64 n.tok.int, lv, .int .i64 n.takes] 105)) #[.int .i64 0, .int .i64 0, .string ⟨#[]⟩, .int .i64 0, .slice none 0 0] 84
  rw [World.size_alloc] at ER0
  have ER := Lib.hid ER0
  have HB := Lib.hid (((Below.refl w.heap.size w).alloc (Nat.le_refl _) (.cells #[.int .i64 n.tok.kind, .int .i64 n.tok.pos, .string ⟨n.tok.text.toArray⟩, .int .i64 n.tok.int, lv, .int .i64 n.takes] 105)).alloc (by simp) (.cells #[.int .i64 0, .int .i64 0, .string ⟨#[]⟩, .int .i64 0, .slice none 0 0] 84))
  clear ER0
  refine (pos_any n lv _).mono ?_
  rintro e w1 ⟨rfl, hb⟩
  replace EN := Lib.hid (ent_below EN.out hb)
  replace ER := Lib.hid (ent_below ER.out hb)
  replace HB := Lib.hid (HB.out.trans (hb.mono HB.out.size))
  clear hb
  have hw1 : w.heap.size + 1 < w1.heap.size := ent_lt ER.out
  go_upto_region 3 with fail
  have EX := Lib.hid (ent_new w1 #[.int .i64 0, .int .i64 n.pos, .string ⟨#[]⟩, .int .i64 0, .slice none 0 0] 84)
  replace EN := Lib.hid (ent_alloc EN.out (.cells #[.int .i64 0, .int .i64 n.pos, .string ⟨#[]⟩, .int .i64 0, .slice none 0 0] 84))
  replace ER := Lib.hid (ent_alloc ER.out (.cells #[.int .i64 0, .int .i64 n.pos, .string ⟨#[]⟩, .int .i64 0, .slice none 0 0] 84))
  replace HB := Lib.hid (HB.out.alloc HB.out.size (.cells #[.int .i64 0, .int .i64 n.pos, .string ⟨#[]⟩, .int .i64 0, .slice none 0 0] 84))
  generalize w1.alloc (.cells #[.int .i64 0, .int .i64 n.pos, .string ⟨#[]⟩, .int .i64 0, .slice none 0 0] 84) = W at *
  generalize w1.heap.size = gx at *
  have cf := ent_free EN.out
  have c0 := ent_cell EN.out 0 _ rfl
  have c1 := ent_cell EN.out 1 _ rfl
  have c2 := ent_cell EN.out 2 _ rfl
  have c3 := ent_cell EN.out 3 _ rfl
  have c4 := ent_cell EN.out 4 _ rfl
  have c5 := ent_cell EN.out 5 _ rfl
  go_wp2_with fail
  refine (isList_eq n lv _ false hl).mono ?_
  rintro e w1 ⟨rfl, hb⟩
  replace EN := Lib.hid (ent_below EN.out hb)
  replace ER := Lib.hid (ent_below ER.out hb)
  replace EX := Lib.hid (ent_below EX.out hb)
  replace HB := Lib.hid (HB.out.trans (hb.mono HB.out.size))
  clear hb
  clear cf c0 c1 c2 c3 c4 c5
  have cf := ent_free EN.out
  have c0 := ent_cell EN.out 0 _ rfl
  have c1 := ent_cell EN.out 1 _ rfl
  have c2 := ent_cell EN.out 2 _ rfl
  have c3 := ent_cell EN.out 3 _ rfl
  have c4 := ent_cell EN.out 4 _ rfl
  have c5 := ent_cell EN.out 5 _ rfl
  go_wp2_with fail
  refine (isInt_eq n lv _ false hi).mono ?_
  rintro e w1 ⟨rfl, hb⟩
  replace EN := Lib.hid (ent_below EN.out hb)
  replace ER := Lib.hid (ent_below ER.out hb)
  replace EX := Lib.hid (ent_below EX.out hb)
  replace HB := Lib.hid (HB.out.trans (hb.mono HB.out.size))
  clear hb
  clear cf c0 c1 c2 c3 c4 c5
  have cf := ent_free EN.out
  have c0 := ent_cell EN.out 0 _ rfl
  have c1 := ent_cell EN.out 1 _ rfl
  have c2 := ent_cell EN.out 2 _ rfl
  have c3 := ent_cell EN.out 3 _ rfl
  have c4 := ent_cell EN.out 4 _ rfl
  have c5 := ent_cell EN.out 5 _ rfl
  go_wp2_with fail
  refine (isCon_eq n lv _ false hc).mono ?_
  rintro e w1 ⟨rfl, hb⟩
  replace EN := Lib.hid (ent_below EN.out hb)
  replace ER := Lib.hid (ent_below ER.out hb)
  replace EX := Lib.hid (ent_below EX.out hb)
  replace HB := Lib.hid (HB.out.trans (hb.mono HB.out.size))
  clear hb
  clear cf c0 c1 c2 c3 c4 c5
  have cf := ent_free EN.out
  have c0 := ent_cell EN.out 0 _ rfl
  have c1 := ent_cell EN.out 1 _ rfl
  have c2 := ent_cell EN.out 2 _ rfl
  have c3 := ent_cell EN.out 3 _ rfl
  have c4 := ent_cell EN.out 4 _ rfl
  have c5 := ent_cell EN.out 5 _ rfl
  go_wp2_with fail
  refine (isName_eq n lv _ true hn).mono ?_
  rintro e w1 ⟨rfl, hb⟩
  replace EN := Lib.hid (ent_below EN.out hb)
  replace ER := Lib.hid (ent_below ER.out hb)
  replace EX := Lib.hid (ent_below EX.out hb)
  replace HB := Lib.hid (HB.out.trans (hb.mono HB.out.size))
  clear hb
  clear cf c0 c1 c2 c3 c4 c5
  have cf := ent_free EN.out
  have c0 := ent_cell EN.out 0 _ rfl
  have c1 := ent_cell EN.out 1 _ rfl
  have c2 := ent_cell EN.out 2 _ rfl
  have c3 := ent_cell EN.out 3 _ rfl
  have c4 := ent_cell EN.out 4 _ rfl
  have c5 := ent_cell EN.out 5 _ rfl
  have xf := ent_free EX.out
  have x0 := ent_cell EX.out 0 _ rfl
  have x1 := ent_cell EX.out 1 _ rfl
  have x2 := ent_cell EX.out 2 _ rfl
  have x3 := ent_cell EX.out 3 _ rfl
  have x4 := ent_cell EX.out 4 _ rfl
  have rf := ent_free ER.out
  have r0 := ent_cell ER.out 0 _ rfl
  have r1 := ent_cell ER.out 1 _ rfl
  have r2 := ent_cell ER.out 2 _ rfl
  have r3 := ent_cell ER.out 3 _ rfl
  have r4 := ent_cell ER.out 4 _ rfl
  go_wp2_with fail
  go_region
  go_wp2_with fail
  refine bodyPost_ret (v := .agg #[.int .i64 1, .int .i64 n.pos, .string ⟨n.text.toArray⟩, .int .i64 0, .slice none 0 0]) (by simp [results, Tryz.results164, go_sem, Px.Node.text, r0, r1, r2, r3, r4]) rfl ?_
  refine ⟨rfl, ?_⟩
  repeat (first | with_reducible exact HB.out | with_reducible refine Below.drew ?_ | with_reducible refine Below.setCell ?_ (by dsimp only; omega) _)

set_option maxHeartbeats 2000000 in
set_option maxRecDepth 100000 in
theorem pat_wild (n : Px.Node) (lv : Value) (w : World) (hl : Px.isListB n = false) (hi : Px.isIntB n = false) (hc : Px.isConB n = false) (hn : Px.isNameB n = false) (hu : (n.tok.text == [95]) = true) :
    Calls Tryz.prog 164 #[nodeV n lv] w (fun e w' => e = .returned (.agg #[.int .i64 0, .int .i64 n.pos, .string ⟨#[]⟩, .int .i64 0, .slice none 0 0]) ∧ Below w.heap.size w w') := by
  go_enter Tryz.func164, Tryz.ntmps164
  unfold nodeV
  go_wp2_with fail
  have EN := Lib.hid (ent_alloc (ent_new w #[.int .i64 n.tok.kind, .int .i64 n.tok.pos, .string ⟨n.tok.text.toArray⟩, .int .i64 n.tok.int, lv, .int .i64 n.takes] 105) (.cells #[.int .i64 0, .int .i64 0, .string ⟨#[]⟩, .int .i64 0, .slice none 0 0] 84))
  have ER0 := ent_new (w.alloc (.cells #[.int .i64 n.tok.kind, .int .i64 n.tok.pos, .string ⟨n.tok.text.toArray⟩, .int .i64 n.tok.int, lv, .int .i64 n.takes] 105)) #[.int .i64 0, .int .i64 0, .string ⟨#[]⟩, .int .i64 0, .slice none 0 0] 84
  rw [World.size_alloc] at ER0
  have ER := Lib.hid ER0
  have HB := Lib.hid (((Below.refl w.heap.size w).alloc (Nat.le_refl _) (.cells #[.int .i64 n.tok.kind, .int .i64 n.tok.pos, .string ⟨n.tok.text.toArray⟩, .int .i64 n.tok.int, lv, .int .i64 n.takes] 105)).alloc (by simp) (.cells #[.int .i64 0, .int .i64 0, .string ⟨#[]⟩, .int .i64 0, .slice none 0 0] 84))
  clear ER0
  refine (pos_any n lv _).mono ?_
  rintro e w1 ⟨rfl, hb⟩
  replace EN := Lib.hid (ent_below EN.out hb)
  replace ER := Lib.hid (ent_below ER.out hb)
  replace HB := Lib.hid (HB.out.trans (hb.mono HB.out.size))
  clear hb
  have hw1 : w.heap.size + 1 < w1.heap.size := ent_lt ER.out
  go_upto_region 3 with fail
  have EX := Lib.hid (ent_new w1 #[.int .i64 0, .int .i64 n.pos, .string ⟨#[]⟩, .int .i64 0, .slice none 0 0] 84)
  replace EN := Lib.hid (ent_alloc EN.out (.cells #[.int .i64 0, .int .i64 n.pos, .string ⟨#[]⟩, .int .i64 0, .slice none 0 0] 84))
  replace ER := Lib.hid (ent_alloc ER.out (.cells #[.int .i64 0, .int .i64 n.pos, .string ⟨#[]⟩, .int .i64 0, .slice none 0 0] 84))
  replace HB := Lib.hid (HB.out.alloc HB.out.size (.cells #[.int .i64 0, .int .i64 n.pos, .string ⟨#[]⟩, .int .i64 0, .slice none 0 0] 84))
  generalize w1.alloc (.cells #[.int .i64 0, .int .i64 n.pos, .string ⟨#[]⟩, .int .i64 0, .slice none 0 0] 84) = W at *
  generalize w1.heap.size = gx at *
  have cf := ent_free EN.out
  have c0 := ent_cell EN.out 0 _ rfl
  have c1 := ent_cell EN.out 1 _ rfl
  have c2 := ent_cell EN.out 2 _ rfl
  have c3 := ent_cell EN.out 3 _ rfl
  have c4 := ent_cell EN.out 4 _ rfl
  have c5 := ent_cell EN.out 5 _ rfl
  go_wp2_with fail
  refine (isList_eq n lv _ false hl).mono ?_
  rintro e w1 ⟨rfl, hb⟩
  replace EN := Lib.hid (ent_below EN.out hb)
  replace ER := Lib.hid (ent_below ER.out hb)
  replace EX := Lib.hid (ent_below EX.out hb)
  replace HB := Lib.hid (HB.out.trans (hb.mono HB.out.size))
  clear hb
  clear cf c0 c1 c2 c3 c4 c5
  have cf := ent_free EN.out
  have c0 := ent_cell EN.out 0 _ rfl
  have c1 := ent_cell EN.out 1 _ rfl
  have c2 := ent_cell EN.out 2 _ rfl
  have c3 := ent_cell EN.out 3 _ rfl
  have c4 := ent_cell EN.out 4 _ rfl
  have c5 := ent_cell EN.out 5 _ rfl
  go_wp2_with fail
  refine (isInt_eq n lv _ false hi).mono ?_
  rintro e w1 ⟨rfl, hb⟩
  replace EN := Lib.hid (ent_below EN.out hb)
  replace ER := Lib.hid (ent_below ER.out hb)
  replace EX := Lib.hid (ent_below EX.out hb)
  replace HB := Lib.hid (HB.out.trans (hb.mono HB.out.size))
  clear hb
  clear cf c0 c1 c2 c3 c4 c5
  have cf := ent_free EN.out
  have c0 := ent_cell EN.out 0 _ rfl
  have c1 := ent_cell EN.out 1 _ rfl
  have c2 := ent_cell EN.out 2 _ rfl
  have c3 := ent_cell EN.out 3 _ rfl
  have c4 := ent_cell EN.out 4 _ rfl
  have c5 := ent_cell EN.out 5 _ rfl
  go_wp2_with fail
  refine (isCon_eq n lv _ false hc).mono ?_
  rintro e w1 ⟨rfl, hb⟩
  replace EN := Lib.hid (ent_below EN.out hb)
  replace ER := Lib.hid (ent_below ER.out hb)
  replace EX := Lib.hid (ent_below EX.out hb)
  replace HB := Lib.hid (HB.out.trans (hb.mono HB.out.size))
  clear hb
  clear cf c0 c1 c2 c3 c4 c5
  have cf := ent_free EN.out
  have c0 := ent_cell EN.out 0 _ rfl
  have c1 := ent_cell EN.out 1 _ rfl
  have c2 := ent_cell EN.out 2 _ rfl
  have c3 := ent_cell EN.out 3 _ rfl
  have c4 := ent_cell EN.out 4 _ rfl
  have c5 := ent_cell EN.out 5 _ rfl
  go_wp2_with fail
  refine (isName_eq n lv _ false hn).mono ?_
  rintro e w1 ⟨rfl, hb⟩
  replace EN := Lib.hid (ent_below EN.out hb)
  replace ER := Lib.hid (ent_below ER.out hb)
  replace EX := Lib.hid (ent_below EX.out hb)
  replace HB := Lib.hid (HB.out.trans (hb.mono HB.out.size))
  clear hb
  clear cf c0 c1 c2 c3 c4 c5
  have cf := ent_free EN.out
  have c0 := ent_cell EN.out 0 _ rfl
  have c1 := ent_cell EN.out 1 _ rfl
  have c2 := ent_cell EN.out 2 _ rfl
  have c3 := ent_cell EN.out 3 _ rfl
  have c4 := ent_cell EN.out 4 _ rfl
  have c5 := ent_cell EN.out 5 _ rfl
  have xf := ent_free EX.out
  have x0 := ent_cell EX.out 0 _ rfl
  have x1 := ent_cell EX.out 1 _ rfl
  have x2 := ent_cell EX.out 2 _ rfl
  have x3 := ent_cell EX.out 3 _ rfl
  have x4 := ent_cell EX.out 4 _ rfl
  have rf := ent_free ER.out
  have r0 := ent_cell ER.out 0 _ rfl
  have r1 := ent_cell ER.out 1 _ rfl
  have r2 := ent_cell ER.out 2 _ rfl
  have r3 := ent_cell ER.out 3 _ rfl
  have r4 := ent_cell ER.out 4 _ rfl
  go_wp2_with fail
  go_wp2_with fail
  refine bodyPost_ret (v := .agg #[.int .i64 0, .int .i64 n.pos, .string ⟨#[]⟩, .int .i64 0, .slice none 0 0]) (by simp [results, Tryz.results164, go_sem, Px.Node.text, r0, r1, r2, r3, r4]) rfl ?_
  refine ⟨rfl, ?_⟩
  repeat (first | with_reducible exact HB.out | with_reducible refine Below.drew ?_ | with_reducible refine Below.setCell ?_ (by dsimp only; omega) _)

set_option maxHeartbeats 2000000 in
set_option maxRecDepth 100000 in
theorem pat_not (n : Px.Node) (lv : Value) (w : World) (hl : Px.isListB n = false) (hi : Px.isIntB n = false) (hc : Px.isConB n = false) (hn : Px.isNameB n = false) (hu : (n.tok.text == [95]) = false) :
    Calls Tryz.prog 164 #[nodeV n lv] w (fun e w' => e = wrongAt n.pos ∧ Below w.heap.size w w') := by
  go_enter Tryz.func164, Tryz.ntmps164
  unfold nodeV
  go_wp2_with fail
  have EN := Lib.hid (ent_alloc (ent_new w #[.int .i64 n.tok.kind, .int .i64 n.tok.pos, .string ⟨n.tok.text.toArray⟩, .int .i64 n.tok.int, lv, .int .i64 n.takes] 105) (.cells #[.int .i64 0, .int .i64 0, .string ⟨#[]⟩, .int .i64 0, .slice none 0 0] 84))
  have ER0 := ent_new (w.alloc (.cells #[.int .i64 n.tok.kind, .int .i64 n.tok.pos, .string ⟨n.tok.text.toArray⟩, .int .i64 n.tok.int, lv, .int .i64 n.takes] 105)) #[.int .i64 0, .int .i64 0, .string ⟨#[]⟩, .int .i64 0, .slice none 0 0] 84
  rw [World.size_alloc] at ER0
  have ER := Lib.hid ER0
  have HB := Lib.hid (((Below.refl w.heap.size w).alloc (Nat.le_refl _) (.cells #[.int .i64 n.tok.kind, .int .i64 n.tok.pos, .string ⟨n.tok.text.toArray⟩, .int .i64 n.tok.int, lv, .int .i64 n.takes] 105)).alloc (by simp) (.cells #[.int .i64 0, .int .i64 0, .string ⟨#[]⟩, .int .i64 0, .slice none 0 0] 84))
  clear ER0
  refine (pos_any n lv _).mono ?_
  rintro e w1 ⟨rfl, hb⟩
  replace EN := Lib.hid (ent_below EN.out hb)
  replace ER := Lib.hid (ent_below ER.out hb)
  replace HB := Lib.hid (HB.out.trans (hb.mono HB.out.size))
  clear hb
  have hw1 : w.heap.size + 1 < w1.heap.size := ent_lt ER.out
  go_upto_region 3 with fail
  have EX := Lib.hid (ent_new w1 #[.int .i64 0, .int .i64 n.pos, .string ⟨#[]⟩, .int .i64 0, .slice none 0 0] 84)
  replace EN := Lib.hid (ent_alloc EN.out (.cells #[.int .i64 0, .int .i64 n.pos, .string ⟨#[]⟩, .int .i64 0, .slice none 0 0] 84))
  replace ER := Lib.hid (ent_alloc ER.out (.cells #[.int .i64 0, .int .i64 n.pos, .string ⟨#[]⟩, .int .i64 0, .slice none 0 0] 84))
  replace HB := Lib.hid (HB.out.alloc HB.out.size (.cells #[.int .i64 0, .int .i64 n.pos, .string ⟨#[]⟩, .int .i64 0, .slice none 0 0] 84))
  generalize w1.alloc (.cells #[.int .i64 0, .int .i64 n.pos, .string ⟨#[]⟩, .int .i64 0, .slice none 0 0] 84) = W at *
  generalize w1.heap.size = gx at *
  have cf := ent_free EN.out
  have c0 := ent_cell EN.out 0 _ rfl
  have c1 := ent_cell EN.out 1 _ rfl
  have c2 := ent_cell EN.out 2 _ rfl
  have c3 := ent_cell EN.out 3 _ rfl
  have c4 := ent_cell EN.out 4 _ rfl
  have c5 := ent_cell EN.out 5 _ rfl
  go_wp2_with fail
  refine (isList_eq n lv _ false hl).mono ?_
  rintro e w1 ⟨rfl, hb⟩
  replace EN := Lib.hid (ent_below EN.out hb)
  replace ER := Lib.hid (ent_below ER.out hb)
  replace EX := Lib.hid (ent_below EX.out hb)
  replace HB := Lib.hid (HB.out.trans (hb.mono HB.out.size))
  clear hb
  clear cf c0 c1 c2 c3 c4 c5
  have cf := ent_free EN.out
  have c0 := ent_cell EN.out 0 _ rfl
  have c1 := ent_cell EN.out 1 _ rfl
  have c2 := ent_cell EN.out 2 _ rfl
  have c3 := ent_cell EN.out 3 _ rfl
  have c4 := ent_cell EN.out 4 _ rfl
  have c5 := ent_cell EN.out 5 _ rfl
  go_wp2_with fail
  refine (isInt_eq n lv _ false hi).mono ?_
  rintro e w1 ⟨rfl, hb⟩
  replace EN := Lib.hid (ent_below EN.out hb)
  replace ER := Lib.hid (ent_below ER.out hb)
  replace EX := Lib.hid (ent_below EX.out hb)
  replace HB := Lib.hid (HB.out.trans (hb.mono HB.out.size))
  clear hb
  clear cf c0 c1 c2 c3 c4 c5
  have cf := ent_free EN.out
  have c0 := ent_cell EN.out 0 _ rfl
  have c1 := ent_cell EN.out 1 _ rfl
  have c2 := ent_cell EN.out 2 _ rfl
  have c3 := ent_cell EN.out 3 _ rfl
  have c4 := ent_cell EN.out 4 _ rfl
  have c5 := ent_cell EN.out 5 _ rfl
  go_wp2_with fail
  refine (isCon_eq n lv _ false hc).mono ?_
  rintro e w1 ⟨rfl, hb⟩
  replace EN := Lib.hid (ent_below EN.out hb)
  replace ER := Lib.hid (ent_below ER.out hb)
  replace EX := Lib.hid (ent_below EX.out hb)
  replace HB := Lib.hid (HB.out.trans (hb.mono HB.out.size))
  clear hb
  clear cf c0 c1 c2 c3 c4 c5
  have cf := ent_free EN.out
  have c0 := ent_cell EN.out 0 _ rfl
  have c1 := ent_cell EN.out 1 _ rfl
  have c2 := ent_cell EN.out 2 _ rfl
  have c3 := ent_cell EN.out 3 _ rfl
  have c4 := ent_cell EN.out 4 _ rfl
  have c5 := ent_cell EN.out 5 _ rfl
  go_wp2_with fail
  refine (isName_eq n lv _ false hn).mono ?_
  rintro e w1 ⟨rfl, hb⟩
  replace EN := Lib.hid (ent_below EN.out hb)
  replace ER := Lib.hid (ent_below ER.out hb)
  replace EX := Lib.hid (ent_below EX.out hb)
  replace HB := Lib.hid (HB.out.trans (hb.mono HB.out.size))
  clear hb
  clear cf c0 c1 c2 c3 c4 c5
  have cf := ent_free EN.out
  have c0 := ent_cell EN.out 0 _ rfl
  have c1 := ent_cell EN.out 1 _ rfl
  have c2 := ent_cell EN.out 2 _ rfl
  have c3 := ent_cell EN.out 3 _ rfl
  have c4 := ent_cell EN.out 4 _ rfl
  have c5 := ent_cell EN.out 5 _ rfl
  go_wp2_with fail
  refine (pos_any n lv _).mono ?_
  rintro e w1 ⟨rfl, hb⟩
  replace HB := Lib.hid (HB.out.trans (hb.mono HB.out.size))
  clear hb
  go_wp2
  exact ⟨rfl, rfl, HB.out⟩

set_option maxHeartbeats 2000000 in
set_option maxRecDepth 100000 in
theorem pat_nodes_bad (k : Nat) (n : Px.Node) (lv : Value) (w : World) (hl : Px.isListB n = true) (hk : KidsAt w k lv n.list) (p : Nat) (hp : Px.nodes n 2 9 = .error p) :
    Calls Tryz.prog 164 #[nodeV n lv] w (fun e w' => e = wrongAt p ∧ Below w.heap.size w w') := by
  have HK := Lib.hid hk
  clear hk
  go_enter Tryz.func164, Tryz.ntmps164
  unfold nodeV
  go_wp2_with fail
  have EN := Lib.hid (ent_alloc (ent_new w #[.int .i64 n.tok.kind, .int .i64 n.tok.pos, .string ⟨n.tok.text.toArray⟩, .int .i64 n.tok.int, lv, .int .i64 n.takes] 105) (.cells #[.int .i64 0, .int .i64 0, .string ⟨#[]⟩, .int .i64 0, .slice none 0 0] 84))
  have ER0 := ent_new (w.alloc (.cells #[.int .i64 n.tok.kind, .int .i64 n.tok.pos, .string ⟨n.tok.text.toArray⟩, .int .i64 n.tok.int, lv, .int .i64 n.takes] 105)) #[.int .i64 0, .int .i64 0, .string ⟨#[]⟩, .int .i64 0, .slice none 0 0] 84
  rw [World.size_alloc] at ER0
  have ER := Lib.hid ER0
  have HB := Lib.hid (((Below.refl w.heap.size w).alloc (Nat.le_refl _) (.cells #[.int .i64 n.tok.kind, .int .i64 n.tok.pos, .string ⟨n.tok.text.toArray⟩, .int .i64 n.tok.int, lv, .int .i64 n.takes] 105)).alloc (by simp) (.cells #[.int .i64 0, .int .i64 0, .string ⟨#[]⟩, .int .i64 0, .slice none 0 0] 84))
  clear ER0
  refine (pos_any n lv _).mono ?_
  rintro e w1 ⟨rfl, hb⟩
  replace EN := Lib.hid (ent_below EN.out hb)
  replace ER := Lib.hid (ent_below ER.out hb)
  replace HB := Lib.hid (HB.out.trans (hb.mono HB.out.size))
  clear hb
  have hw1 : w.heap.size + 1 < w1.heap.size := ent_lt ER.out
  go_upto_region 3 with fail
  have EX := Lib.hid (ent_new w1 #[.int .i64 0, .int .i64 n.pos, .string ⟨#[]⟩, .int .i64 0, .slice none 0 0] 84)
  replace EN := Lib.hid (ent_alloc EN.out (.cells #[.int .i64 0, .int .i64 n.pos, .string ⟨#[]⟩, .int .i64 0, .slice none 0 0] 84))
  replace ER := Lib.hid (ent_alloc ER.out (.cells #[.int .i64 0, .int .i64 n.pos, .string ⟨#[]⟩, .int .i64 0, .slice none 0 0] 84))
  replace HB := Lib.hid (HB.out.alloc HB.out.size (.cells #[.int .i64 0, .int .i64 n.pos, .string ⟨#[]⟩, .int .i64 0, .slice none 0 0] 84))
  generalize w1.alloc (.cells #[.int .i64 0, .int .i64 n.pos, .string ⟨#[]⟩, .int .i64 0, .slice none 0 0] 84) = W at *
  generalize w1.heap.size = gx at *
  have cf := ent_free EN.out
  have c0 := ent_cell EN.out 0 _ rfl
  have c1 := ent_cell EN.out 1 _ rfl
  have c2 := ent_cell EN.out 2 _ rfl
  have c3 := ent_cell EN.out 3 _ rfl
  have c4 := ent_cell EN.out 4 _ rfl
  have c5 := ent_cell EN.out 5 _ rfl
  go_wp2_with fail
  refine (isList_eq n lv _ true hl).mono ?_
  rintro e w1 ⟨rfl, hb⟩
  replace EN := Lib.hid (ent_below EN.out hb)
  replace ER := Lib.hid (ent_below ER.out hb)
  replace EX := Lib.hid (ent_below EX.out hb)
  replace HB := Lib.hid (HB.out.trans (hb.mono HB.out.size))
  clear hb
  clear cf c0 c1 c2 c3 c4 c5
  have cf := ent_free EN.out
  have c0 := ent_cell EN.out 0 _ rfl
  have c1 := ent_cell EN.out 1 _ rfl
  have c2 := ent_cell EN.out 2 _ rfl
  have c3 := ent_cell EN.out 3 _ rfl
  have c4 := ent_cell EN.out 4 _ rfl
  have c5 := ent_cell EN.out 5 _ rfl
  go_wp2_with fail
  refine (nodes_badI k n lv 2 9 2 9 _ rfl rfl (HK.out.below HB.out) (by omega) (by omega) p hp).mono ?_
  rintro e w1 ⟨rfl, hb⟩
  replace HB := Lib.hid (HB.out.trans (hb.mono HB.out.size))
  clear hb
  exact ⟨rfl, rfl, HB.out⟩

set_option maxHeartbeats 2000000 in
set_option maxRecDepth 100000 in
theorem pat_name_bad (k : Nat) (n : Px.Node) (lv : Value) (w : World) (hl : Px.isListB n = true) (hk : KidsAt w k lv n.list) (l : List Px.Node) (hp : Px.nodes n 2 9 = .ok l) (m : Px.Node) (hm : n.list[0]? = some m) (p : Nat) (hh : Px.conName m = .error p) :
    Calls Tryz.prog 164 #[nodeV n lv] w (fun e w' => e = wrongAt p ∧ Below w.heap.size w w') := by
  obtain ⟨hle, h2, h9, _⟩ := nodes_is hp
  rw [hle] at h2 h9
  obtain ⟨j, g, o, c, rfl, rfl, h3, h4, h5⟩ := hk.some (by intro e; rw [e] at h2; simp at h2)
  have hc1 : ¬ c = 1 := by omega
  obtain ⟨kv, hat, hkm⟩ := h5 0 m hm
  rw [Nat.zero_mul, Nat.add_zero] at hat
  have HAT := Lib.hid hat; have HK := Lib.hid hk; have HP := Lib.hid hp
  have HM := Lib.hid hm
  clear h5 hat hkm hk hp hle hm
  go_enter Tryz.func164, Tryz.ntmps164
  unfold nodeV
  go_wp2_with fail
  have EN := Lib.hid (ent_alloc (ent_new w #[.int .i64 n.tok.kind, .int .i64 n.tok.pos, .string ⟨n.tok.text.toArray⟩, .int .i64 n.tok.int, (.slice (some ⟨g, o, none⟩) n.list.length c), .int .i64 n.takes] 105) (.cells #[.int .i64 0, .int .i64 0, .string ⟨#[]⟩, .int .i64 0, .slice none 0 0] 84))
  have ER0 := ent_new (w.alloc (.cells #[.int .i64 n.tok.kind, .int .i64 n.tok.pos, .string ⟨n.tok.text.toArray⟩, .int .i64 n.tok.int, (.slice (some ⟨g, o, none⟩) n.list.length c), .int .i64 n.takes] 105)) #[.int .i64 0, .int .i64 0, .string ⟨#[]⟩, .int .i64 0, .slice none 0 0] 84
  rw [World.size_alloc] at ER0
  have ER := Lib.hid ER0
  have HB := Lib.hid (((Below.refl w.heap.size w).alloc (Nat.le_refl _) (.cells #[.int .i64 n.tok.kind, .int .i64 n.tok.pos, .string ⟨n.tok.text.toArray⟩, .int .i64 n.tok.int, (.slice (some ⟨g, o, none⟩) n.list.length c), .int .i64 n.takes] 105)).alloc (by simp) (.cells #[.int .i64 0, .int .i64 0, .string ⟨#[]⟩, .int .i64 0, .slice none 0 0] 84))
  clear ER0
  refine (pos_any n (.slice (some ⟨g, o, none⟩) n.list.length c) _).mono ?_
  rintro e w1 ⟨rfl, hb⟩
  replace EN := Lib.hid (ent_below EN.out hb)
  replace ER := Lib.hid (ent_below ER.out hb)
  replace HB := Lib.hid (HB.out.trans (hb.mono HB.out.size))
  clear hb
  have hw1 : w.heap.size + 1 < w1.heap.size := ent_lt ER.out
  go_upto_region 3 with fail
  have EX := Lib.hid (ent_new w1 #[.int .i64 0, .int .i64 n.pos, .string ⟨#[]⟩, .int .i64 0, .slice none 0 0] 84)
  replace EN := Lib.hid (ent_alloc EN.out (.cells #[.int .i64 0, .int .i64 n.pos, .string ⟨#[]⟩, .int .i64 0, .slice none 0 0] 84))
  replace ER := Lib.hid (ent_alloc ER.out (.cells #[.int .i64 0, .int .i64 n.pos, .string ⟨#[]⟩, .int .i64 0, .slice none 0 0] 84))
  replace HB := Lib.hid (HB.out.alloc HB.out.size (.cells #[.int .i64 0, .int .i64 n.pos, .string ⟨#[]⟩, .int .i64 0, .slice none 0 0] 84))
  generalize w1.alloc (.cells #[.int .i64 0, .int .i64 n.pos, .string ⟨#[]⟩, .int .i64 0, .slice none 0 0] 84) = W at *
  generalize w1.heap.size = gx at *
  have cf := ent_free EN.out
  have c0 := ent_cell EN.out 0 _ rfl
  have c1 := ent_cell EN.out 1 _ rfl
  have c2 := ent_cell EN.out 2 _ rfl
  have c3 := ent_cell EN.out 3 _ rfl
  have c4 := ent_cell EN.out 4 _ rfl
  have c5 := ent_cell EN.out 5 _ rfl
  go_wp2_with fail
  refine (isList_eq n (.slice (some ⟨g, o, none⟩) n.list.length c) _ true hl).mono ?_
  rintro e w1 ⟨rfl, hb⟩
  replace EN := Lib.hid (ent_below EN.out hb)
  replace ER := Lib.hid (ent_below ER.out hb)
  replace EX := Lib.hid (ent_below EX.out hb)
  replace HB := Lib.hid (HB.out.trans (hb.mono HB.out.size))
  clear hb
  clear cf c0 c1 c2 c3 c4 c5
  have cf := ent_free EN.out
  have c0 := ent_cell EN.out 0 _ rfl
  have c1 := ent_cell EN.out 1 _ rfl
  have c2 := ent_cell EN.out 2 _ rfl
  have c3 := ent_cell EN.out 3 _ rfl
  have c4 := ent_cell EN.out 4 _ rfl
  have c5 := ent_cell EN.out 5 _ rfl
  go_wp2_with fail
  refine (nodes_okI (j + 1) n (.slice (some ⟨g, o, none⟩) n.list.length c) 2 9 2 9 _ rfl rfl (HK.out.below HB.out) (by omega) (by omega) l HP.out).mono ?_
  rintro e w1 ⟨rfl, hb⟩
  replace EN := Lib.hid (ent_below EN.out hb)
  replace ER := Lib.hid (ent_below ER.out hb)
  replace EX := Lib.hid (ent_below EX.out hb)
  replace HB := Lib.hid (HB.out.trans (hb.mono HB.out.size))
  clear hb
  clear cf c0 c1 c2 c3 c4 c5
  obtain ⟨m0, m1, m2, m3, m4, m5⟩ := HAT.out.below HB.out
  go_wp2_with fail
  refine (conName_bad m kv _ p hh).mono ?_
  rintro e w1 ⟨rfl, hb⟩
  replace HB := Lib.hid (HB.out.trans (hb.mono HB.out.size))
  clear hb
  exact ⟨rfl, rfl, HB.out⟩

set_option maxHeartbeats 2000000 in
set_option maxRecDepth 100000 in
theorem pat_list (k : Nat) (f : Nat) (ih : ∀ (n : Px.Node) (lv : Value) (k : Nat) (w : World), KidsAt w k lv n.list → k < f → Calls Tryz.prog 164 #[nodeV n lv] w (ToldN w (PatAt f) (Px.pat f n))) (hkf : k ≤ f)  (n : Px.Node) (lv : Value) (w : World) (hl : Px.isListB n = true) (hk : KidsAt w k lv n.list) (l : List Px.Node) (hp : Px.nodes n 2 9 = .ok l) (m : Px.Node) (hm : n.list[0]? = some m) (nm : List UInt8) (hh : Px.conName m = .ok nm) (out : Px.R Px.Pat) (hout : (match Px.each (Px.pat f) n.list.tail with | .error p => .error p | .ok xs => .ok (.mk 3 n.pos nm 0 xs)) = out) :
    Calls Tryz.prog 164 #[nodeV n lv] w (ToldN w (PatAt (f + 1)) out) := by
  obtain ⟨hle, h2, h9, _⟩ := nodes_is hp
  rw [hle] at h2 h9
  obtain ⟨j, g, o, c, rfl, rfl, h3, h4, h5⟩ := hk.some (by intro e; rw [e] at h2; simp at h2)
  have hc1 : ¬ c = 1 := by omega
  obtain ⟨kv, hat, hkm⟩ := h5 0 m hm
  rw [Nat.zero_mul, Nat.add_zero] at hat
  have HAT := Lib.hid hat; have HK := Lib.hid hk; have HP := Lib.hid hp
  have HM := Lib.hid hm
  clear h5 hat hkm hk hp hle hm
  have HIH := Lib.hid ih; have HOUT := Lib.hid hout; clear ih hout
  go_enter Tryz.func164, Tryz.ntmps164
  unfold nodeV
  go_wp2_with fail
  have EN := Lib.hid (ent_alloc (ent_new w #[.int .i64 n.tok.kind, .int .i64 n.tok.pos, .string ⟨n.tok.text.toArray⟩, .int .i64 n.tok.int, (.slice (some ⟨g, o, none⟩) n.list.length c), .int .i64 n.takes] 105) (.cells #[.int .i64 0, .int .i64 0, .string ⟨#[]⟩, .int .i64 0, .slice none 0 0] 84))
  have ER0 := ent_new (w.alloc (.cells #[.int .i64 n.tok.kind, .int .i64 n.tok.pos, .string ⟨n.tok.text.toArray⟩, .int .i64 n.tok.int, (.slice (some ⟨g, o, none⟩) n.list.length c), .int .i64 n.takes] 105)) #[.int .i64 0, .int .i64 0, .string ⟨#[]⟩, .int .i64 0, .slice none 0 0] 84
  rw [World.size_alloc] at ER0
  have ER := Lib.hid ER0
  have HB := Lib.hid (((Below.refl w.heap.size w).alloc (Nat.le_refl _) (.cells #[.int .i64 n.tok.kind, .int .i64 n.tok.pos, .string ⟨n.tok.text.toArray⟩, .int .i64 n.tok.int, (.slice (some ⟨g, o, none⟩) n.list.length c), .int .i64 n.takes] 105)).alloc (by simp) (.cells #[.int .i64 0, .int .i64 0, .string ⟨#[]⟩, .int .i64 0, .slice none 0 0] 84))
  clear ER0
  refine (pos_any n (.slice (some ⟨g, o, none⟩) n.list.length c) _).mono ?_
  rintro e w1 ⟨rfl, hb⟩
  replace EN := Lib.hid (ent_below EN.out hb)
  replace ER := Lib.hid (ent_below ER.out hb)
  replace HB := Lib.hid (HB.out.trans (hb.mono HB.out.size))
  clear hb
  have hw1 : w.heap.size + 1 < w1.heap.size := ent_lt ER.out
  go_upto_region 3 with fail
  have EX := Lib.hid (ent_new w1 #[.int .i64 0, .int .i64 n.pos, .string ⟨#[]⟩, .int .i64 0, .slice none 0 0] 84)
  replace EN := Lib.hid (ent_alloc EN.out (.cells #[.int .i64 0, .int .i64 n.pos, .string ⟨#[]⟩, .int .i64 0, .slice none 0 0] 84))
  replace ER := Lib.hid (ent_alloc ER.out (.cells #[.int .i64 0, .int .i64 n.pos, .string ⟨#[]⟩, .int .i64 0, .slice none 0 0] 84))
  replace HB := Lib.hid (HB.out.alloc HB.out.size (.cells #[.int .i64 0, .int .i64 n.pos, .string ⟨#[]⟩, .int .i64 0, .slice none 0 0] 84))
  generalize w1.alloc (.cells #[.int .i64 0, .int .i64 n.pos, .string ⟨#[]⟩, .int .i64 0, .slice none 0 0] 84) = W at *
  generalize w1.heap.size = gx at *
  have cf := ent_free EN.out
  have c0 := ent_cell EN.out 0 _ rfl
  have c1 := ent_cell EN.out 1 _ rfl
  have c2 := ent_cell EN.out 2 _ rfl
  have c3 := ent_cell EN.out 3 _ rfl
  have c4 := ent_cell EN.out 4 _ rfl
  have c5 := ent_cell EN.out 5 _ rfl
  go_wp2_with fail
  refine (isList_eq n (.slice (some ⟨g, o, none⟩) n.list.length c) _ true hl).mono ?_
  rintro e w1 ⟨rfl, hb⟩
  replace EN := Lib.hid (ent_below EN.out hb)
  replace ER := Lib.hid (ent_below ER.out hb)
  replace EX := Lib.hid (ent_below EX.out hb)
  replace HB := Lib.hid (HB.out.trans (hb.mono HB.out.size))
  clear hb
  clear cf c0 c1 c2 c3 c4 c5
  have cf := ent_free EN.out
  have c0 := ent_cell EN.out 0 _ rfl
  have c1 := ent_cell EN.out 1 _ rfl
  have c2 := ent_cell EN.out 2 _ rfl
  have c3 := ent_cell EN.out 3 _ rfl
  have c4 := ent_cell EN.out 4 _ rfl
  have c5 := ent_cell EN.out 5 _ rfl
  go_wp2_with fail
  refine (nodes_okI (j + 1) n (.slice (some ⟨g, o, none⟩) n.list.length c) 2 9 2 9 _ rfl rfl (HK.out.below HB.out) (by omega) (by omega) l HP.out).mono ?_
  rintro e w1 ⟨rfl, hb⟩
  replace EN := Lib.hid (ent_below EN.out hb)
  replace ER := Lib.hid (ent_below ER.out hb)
  replace EX := Lib.hid (ent_below EX.out hb)
  replace HB := Lib.hid (HB.out.trans (hb.mono HB.out.size))
  clear hb
  clear cf c0 c1 c2 c3 c4 c5
  obtain ⟨m0, m1, m2, m3, m4, m5⟩ := HAT.out.below HB.out
  go_wp2_with fail
  refine (conName_ok m kv _ nm hh).mono ?_
  rintro e w1 ⟨rfl, hb⟩
  replace ER := Lib.hid (ent_below ER.out hb)
  replace EX := Lib.hid (ent_below EX.out hb)
  replace HB := Lib.hid (HB.out.trans (hb.mono HB.out.size))
  clear hb
  have xf := ent_free EX.out
  have x0 := ent_cell EX.out 0 _ rfl
  have x1 := ent_cell EX.out 1 _ rfl
  have x2 := ent_cell EX.out 2 _ rfl
  have x3 := ent_cell EX.out 3 _ rfl
  have x4 := ent_cell EX.out 4 _ rfl
  have xs1 := Lib.hid (ent_set (ent_set EX.out 0 (.int .i64 3)) 2 (.string ⟨nm.toArray⟩)); have ers := Lib.hid (ent_other (ent_other ER.out gx 0 (.int .i64 3) (by omega)) gx 2 (.string ⟨nm.toArray⟩) (by omega)); have hbs := Lib.hid ((HB.out.setCell (p := ⟨gx, 0, none⟩) (by simp; omega) (.int .i64 3)).setCell (p := ⟨gx, 2, none⟩) (by simp; omega) (.string ⟨nm.toArray⟩))
  have hcall := fun u (hu : KidsAt u (j + 1) (.slice (some ⟨g, o, none⟩) n.list.length c) n.list) => eachPat_any 164 (fun _ _ => by kernel_rfl) (Px.pat f) (PatAt f) (patAt_shape f) (j + 1) _ (n.list.drop 1) u (kids_drop' hu 1 (o + 6) (by omega) hc1 (by omega) rfl) (by rw [List.length_drop]; omega) (fun m _ j' kv' w1 hj _ hk' => HIH.out m kv' j' w1 hk' (by omega))
  have HC := Lib.hid hcall; clear hcall
  go_wp2_with fail
  replace EX := xs1; replace ER := ers; replace HB := hbs
  refine (HC.out _ (HK.out.below HB.out)).mono ?_
  clear HC
  intro e w2 ht
  cases hr : Px.each (Px.pat f) (n.list.drop 1) with
  | error p =>
    obtain ⟨rfl, hb⟩ := toldN_bad ht hr
    have ho : out = .error p := by rw [← HOUT.out, ← List.drop_one, hr]
    subst ho
    exact ⟨rfl, HB.out.trans (hb.mono HB.out.size), rfl⟩
  | ok xs =>
    obtain ⟨av, rfl, hnew, hb⟩ := toldN_ok ht hr
    obtain ⟨pv, cv, rfl⟩ := hnew.now.len
    have ho : out = .ok (.mk 3 n.pos nm 0 xs) := by rw [← HOUT.out, ← List.drop_one, hr]
    subst ho
    have hgs := ent_lt EX.out
    have hws := HB.out.size
    have Hnew := Lib.hid hnew; clear hnew ht
    replace EX := Lib.hid (ent_below EX.out hb)
    replace ER := Lib.hid (ent_below ER.out hb)
    replace HB := Lib.hid (HB.out.trans (hb.mono HB.out.size))
    clear hb hr
    have yf := ent_free EX.out
    have y0 := ent_cell EX.out 0 _ rfl
    have y1 := ent_cell EX.out 1 _ rfl
    have y2 := ent_cell EX.out 2 _ rfl
    have y3 := ent_cell EX.out 3 _ rfl
    have y4 := ent_cell EX.out 4 _ rfl
    have rf := ent_free ER.out
    have r0 := ent_cell ER.out 0 _ rfl
    have r1 := ent_cell ER.out 1 _ rfl
    have r2 := ent_cell ER.out 2 _ rfl
    have r3 := ent_cell ER.out 3 _ rfl
    have r4 := ent_cell ER.out 4 _ rfl
    go_wp2_with fail
    refine bodyPost_ret (v := .agg #[.int .i64 3, .int .i64 n.pos, .string ⟨nm.toArray⟩, .int .i64 0, .slice pv xs.length cv]) (by simp [results, Tryz.results164, go_sem, Px.Node.text, r0, r1, r2, r3, r4]) rfl ?_
    refine ⟨?_, _, rfl, fun u hu => ⟨_, rfl, ?_⟩⟩
    · repeat (first | with_reducible exact HB.out | with_reducible refine Below.drew ?_ | with_reducible refine Below.setCell ?_ (by dsimp only; omega) _)
    · refine New.stay (w := w) Hnew.out (by omega) ?_ u hu
      repeat (first | with_reducible exact Stay.refl _ _ | with_reducible refine Stay.set ?_ _ _ _ (by first | exact hgs | omega))


theorem pat_any (f : Nat) : ∀ (n : Px.Node) (lv : Value) (k : Nat) (w : World), KidsAt w k lv n.list → k < f →
    Calls Tryz.prog 164 #[nodeV n lv] w (ToldN w (PatAt f) (Px.pat f n)) := by
  induction f with
  | zero => intro n lv k w _ h; omega
  | succ f ih =>
    intro n lv k w hk hkf
    cases hl : Px.isListB n with
    | true =>
      cases hnd : Px.nodes n 2 9 with
      | error p =>
        have : Px.pat (f + 1) n = .error p := by rw [Px.pat, if_pos hl, hnd]
        rw [this]
        exact (pat_nodes_bad k n lv w hl hk p hnd).mono fun e w' ⟨h1, h2⟩ => ⟨h2, h1⟩
      | ok l =>
        obtain ⟨hle, h2, _, _⟩ := nodes_is hnd
        obtain ⟨m, hm⟩ : ∃ m, n.list[0]? = some m := ⟨n.list[0]'(by rw [← hle]; omega), List.getElem?_eq_getElem _⟩
        have hhd : l.headD n = m := by rw [hle, List.headD_eq_head?_getD, List.head?_eq_getElem?, hm]; rfl
        have hp : Px.pat (f + 1) n = match Px.conName m with
            | .error p => .error p
            | .ok nm =>
              match Px.each (Px.pat f) l.tail with
              | .error p => .error p
              | .ok xs => .ok (.mk 3 n.pos nm 0 xs) := by rw [Px.pat, if_pos hl, hnd, ← hhd]; rfl
        cases hh : Px.conName m with
        | error p =>
          have : Px.pat (f + 1) n = .error p := by rw [hp, hh]
          rw [this]
          exact (pat_name_bad k n lv w hl hk l hnd m hm p hh).mono fun e w' ⟨h1, h2⟩ => ⟨h2, h1⟩
        | ok nm =>
          rw [hp, hh]
          exact pat_list k f ih (by omega) n lv w hl hk l hnd m hm nm hh _ (by rw [← hle])
    | false =>
      cases hi : Px.isIntB n with
      | true =>
        have : Px.pat (f + 1) n = .ok (.mk 2 n.pos [] n.tok.int []) := by rw [Px.pat, if_neg (by simp [hl]), if_pos hi]
        rw [this]
        exact (pat_int n lv w hl hi).mono fun e w' ⟨h1, h2⟩ => ⟨h2, _, h1, fun u _ => ⟨_, rfl, row_nil _ _ _⟩⟩
      | false =>
        cases hc : Px.isConB n with
        | true =>
          have : Px.pat (f + 1) n = .ok (.mk 3 n.pos n.text 0 []) := by rw [Px.pat, if_neg (by simp [hl]), if_neg (by simp [hi]), if_pos hc]
          rw [this]
          exact (pat_con n lv w hl hi hc).mono fun e w' ⟨h1, h2⟩ => ⟨h2, _, h1, fun u _ => ⟨_, rfl, row_nil _ _ _⟩⟩
        | false =>
          cases hn : Px.isNameB n with
          | true =>
            have : Px.pat (f + 1) n = .ok (.mk 1 n.pos n.text 0 []) := by rw [Px.pat, if_neg (by simp [hl]), if_neg (by simp [hi]), if_neg (by simp [hc]), if_pos hn]
            rw [this]
            exact (pat_name n lv w hl hi hc hn).mono fun e w' ⟨h1, h2⟩ => ⟨h2, _, h1, fun u _ => ⟨_, rfl, row_nil _ _ _⟩⟩
          | false =>
            by_cases hu : n.text = [95]
            · have : Px.pat (f + 1) n = .ok (.mk 0 n.pos [] 0 []) := by rw [Px.pat, if_neg (by simp [hl]), if_neg (by simp [hi]), if_neg (by simp [hc]), if_neg (by simp [hn]), if_pos hu]
              rw [this]
              exact (pat_wild n lv w hl hi hc hn (by simpa [Px.Node.text] using hu)).mono fun e w' ⟨h1, h2⟩ => ⟨h2, _, h1, fun u _ => ⟨_, rfl, row_nil _ _ _⟩⟩
            · have : Px.pat (f + 1) n = .error n.pos := by rw [Px.pat, if_neg (by simp [hl]), if_neg (by simp [hi]), if_neg (by simp [hc]), if_neg (by simp [hn]), if_neg hu]
              rw [this]
              exact (pat_not n lv w hl hi hc hn (by simpa [Px.Node.text] using hu)).mono fun e w' ⟨h1, h2⟩ => ⟨h2, h1⟩
end Go.Proofs.YtnhndamfbeiljaaGreatDoor
