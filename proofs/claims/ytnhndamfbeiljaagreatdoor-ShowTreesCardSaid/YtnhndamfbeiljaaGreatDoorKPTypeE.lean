/-
  parse.typeE: its contract.
-/
import Derived.Test.YtnhndamfbeiljaaGreatDoorGRead
import Derived.Test.YtnhndamfbeiljaaGreatDoorGEach
import Derived.Deep.DeepCutAuto
namespace Go.Proofs.YtnhndamfbeiljaaGreatDoor
open Go Go.RowKit
set_option linter.unusedVariables false
set_option linter.unusedSimpArgs false

theorem typeAt_shape (f : Nat) (w : World) (v : Value) (x : Px.TypeE) (h : TypeAt f w v x) : ShapeTypeE v := by
  cases f with
  | zero => exact h.elim
  | succ f =>
    obtain ⟨p, nm, args⟩ := x
    obtain ⟨av, rfl, hr⟩ := h
    obtain ⟨q, c, rfl⟩ := hr.len
    exact ⟨_, _, _, rfl, by simp [Value.oneCell']⟩

set_option maxHeartbeats 2000000 in
set_option maxRecDepth 100000 in
theorem typeE_con (n : Px.Node) (lv : Value) (w : World) (hc : Px.isConB n = true) :
    Calls Tryz.prog 127 #[nodeV n lv] w (fun e w' => e = .returned (.agg #[.int .i64 n.pos, .string ⟨n.text.toArray⟩, .slice none 0 0]) ∧ Below w.heap.size w w') := by
  go_enter Tryz.func127, Tryz.ntmps127
  unfold nodeV
  go_upto_region 1 with fail
  have EN0 := ent_alloc (ent_new w #[.int .i64 n.tok.kind, .int .i64 n.tok.pos, .string ⟨n.tok.text.toArray⟩, .int .i64 n.tok.int, lv, .int .i64 n.takes] 105) (.cells #[.int .i64 0, .string ⟨#[]⟩, .slice none 0 0] 42)
  have ER0 := ent_new (w.alloc (.cells #[.int .i64 n.tok.kind, .int .i64 n.tok.pos, .string ⟨n.tok.text.toArray⟩, .int .i64 n.tok.int, lv, .int .i64 n.takes] 105)) #[.int .i64 0, .string ⟨#[]⟩, .slice none 0 0] 42
  rw [World.size_alloc] at ER0
  have HB0 : Below w.heap.size w ((w.alloc (.cells #[.int .i64 n.tok.kind, .int .i64 n.tok.pos, .string ⟨n.tok.text.toArray⟩, .int .i64 n.tok.int, lv, .int .i64 n.takes] 105)).alloc (.cells #[.int .i64 0, .string ⟨#[]⟩, .slice none 0 0] 42)) := ((Below.refl _ _).alloc (Nat.le_refl _) _).alloc (by simp) _
  have hs0 : w.heap.size + 1 < ((w.alloc (.cells #[.int .i64 n.tok.kind, .int .i64 n.tok.pos, .string ⟨n.tok.text.toArray⟩, .int .i64 n.tok.int, lv, .int .i64 n.takes] 105)).alloc (.cells #[.int .i64 0, .string ⟨#[]⟩, .slice none 0 0] 42)).heap.size := by simp
  generalize ((w.alloc (.cells #[.int .i64 n.tok.kind, .int .i64 n.tok.pos, .string ⟨n.tok.text.toArray⟩, .int .i64 n.tok.int, lv, .int .i64 n.takes] 105)).alloc (.cells #[.int .i64 0, .string ⟨#[]⟩, .slice none 0 0] 42)) = W at *
  go_cut [3] (fun s3 wx => ∃ gx : Nat, s3 = .pointer (some ⟨gx, 0, none⟩) ∧ w.heap.size + 1 < gx ∧ wx.heap[gx]? = some (.cells #[.int .i64 n.pos, .string ⟨n.tok.text.toArray⟩, .slice none 0 0] 42 (0, 0)) ∧ Below W.heap.size W wx)
  case first =>
    refine wp_region_held_drew (S := (fun w' => w'.heap[w.heap.size]? = some (.cells #[.int .i64 n.tok.kind, .int .i64 n.tok.pos, .string ⟨n.tok.text.toArray⟩, .int .i64 n.tok.int, lv, .int .i64 n.takes] 105 (0, 0)))) (by kernel_rfl) (EN0) (fun hHeld => ?_)
    refine wpAnyH_take (i := 0) (v := .agg #[.int .i64 n.tok.kind, .int .i64 n.tok.pos, .string ⟨n.tok.text.toArray⟩, .int .i64 n.tok.int, lv, .int .i64 n.takes]) rfl (by kernel_rfl) (by kernel_rfl) (by kernel_rfl) (fun _ _ _ h => h) (Or.inl ⟨by rfl, fun w' hSw => by have h1 : w'.heap[w.heap.size]? = some (.cells #[.int .i64 n.tok.kind, .int .i64 n.tok.pos, .string ⟨n.tok.text.toArray⟩, .int .i64 n.tok.int, lv, .int .i64 n.takes] 105 (0, 0)) := hSw; have q0 := ent_cell h1 0 _ rfl; have q1 := ent_cell h1 1 _ rfl; have q2 := ent_cell h1 2 _ rfl; have q3 := ent_cell h1 3 _ rfl; have q4 := ent_cell h1 4 _ rfl; have q5 := ent_cell h1 5 _ rfl; go_simp⟩) hHeld ?_
    refine wpAnyH_take (i := 2) (v := .pointer (some ⟨w.heap.size, 0, none⟩)) rfl (by kernel_rfl) (by kernel_rfl) (by kernel_rfl) (fun _ _ _ h => h) (Or.inl ⟨by rfl, fun w' hSw => by go_simp⟩) hHeld ?_
    refine wpAnyH_take (i := 3) (v := .pointer (some ⟨w.heap.size, 2, none⟩)) rfl (by kernel_rfl) (by kernel_rfl) (by kernel_rfl) (fun _ _ _ h => h) (Or.inl ⟨by rfl, fun w' hSw => by go_simp⟩) hHeld ?_
    refine wpAnyH_take (i := 4) (v := .string ⟨n.tok.text.toArray⟩) rfl (by kernel_rfl) (by kernel_rfl) (by kernel_rfl) (fun _ _ _ h => h) (Or.inl ⟨by rfl, fun w' hSw => by have h1 : w'.heap[w.heap.size]? = some (.cells #[.int .i64 n.tok.kind, .int .i64 n.tok.pos, .string ⟨n.tok.text.toArray⟩, .int .i64 n.tok.int, lv, .int .i64 n.takes] 105 (0, 0)) := hSw; have q0 := ent_cell h1 0 _ rfl; have q1 := ent_cell h1 1 _ rfl; have q2 := ent_cell h1 2 _ rfl; have q3 := ent_cell h1 3 _ rfl; have q4 := ent_cell h1 4 _ rfl; have q5 := ent_cell h1 5 _ rfl; go_simp⟩) hHeld ?_
    simp only [Act.put, List.setIfInBounds_toArray, List.set_cons_zero, List.set_cons_succ]
    refine wpAnyH_ready (rs := [1, 6]) (by kernel_rfl) (by simp) ?_
    refine AllReadyH.cons rfl (fun K hK => ?_) (AllReadyH.cons rfl (fun K hK => ?_) AllReadyH.nil)
    · go_simp
      refine (pos_any n lv _).mono ?_
      rintro e w1 ⟨rfl, hb⟩
      have hb' : Below W.heap.size W w1 := ⟨hb.os, hb.tape, hb.output, hb.size, hb.block⟩
      have EN1 := ent_below EN0 hb'
      have hs1 := hb'.size
      clear hb
      refine hK.out _ _ (EN1) (fun hHeld => ?_)
      clear hK K
      refine wpAnyH_take (i := 5) (v := .agg #[.int .i64 n.pos, .string ⟨n.tok.text.toArray⟩, .slice none 0 0]) rfl (by kernel_rfl) (by kernel_rfl) (by kernel_rfl) (fun _ _ _ h => h) (Or.inl ⟨by rfl, fun w' hSw => by go_simp⟩) hHeld ?_
      simp only [Act.put, List.setIfInBounds_toArray, List.set_cons_zero, List.set_cons_succ]
      refine wpAnyH_ready (rs := [6]) (by kernel_rfl) (by simp) ?_
      refine AllReadyH.cons rfl (fun K hK => ?_) AllReadyH.nil
      go_simp
      refine hK.out _ _ (ent_alloc EN1 _) (fun hHeld => ?_)
      clear hK K
      refine wpAnyH_ready (rs := [7]) (by kernel_rfl) (by simp) ?_
      refine AllReadyH.cons rfl (fun K hK => ?_) AllReadyH.nil
      go_simp
      refine hK.out _ _ (ent_alloc EN1 _) (fun hHeld => ?_)
      clear hK K
      refine wpAnyH_done (by kernel_rfl) ?_ _
      go_wp2_with fail
      go_meet
      exact ⟨w1.heap.size, rfl, by omega, ent_new w1 #[.int .i64 n.pos, .string ⟨n.tok.text.toArray⟩, .slice none 0 0] 42, hb'.alloc hs1 _⟩
    · go_simp
      have EN1 : (W.drew.alloc (.cells #[.int .i64 0, .string ⟨#[]⟩, .slice none 0 0] 42)).heap[w.heap.size]? = some (.cells #[.int .i64 n.tok.kind, .int .i64 n.tok.pos, .string ⟨n.tok.text.toArray⟩, .int .i64 n.tok.int, lv, .int .i64 n.takes] 105 (0, 0)) := ent_alloc (w := W.drew) EN0 (.cells #[.int .i64 0, .string ⟨#[]⟩, .slice none 0 0] 42)
      have EX0 : (W.drew.alloc (.cells #[.int .i64 0, .string ⟨#[]⟩, .slice none 0 0] 42)).heap[W.heap.size]? = some (.cells #[.int .i64 0, .string ⟨#[]⟩, .slice none 0 0] 42 (0, 0)) := ent_new W.drew #[.int .i64 0, .string ⟨#[]⟩, .slice none 0 0] 42
      refine hK.out _ _ (EN1) (fun hHeld => ?_)
      clear hK K
      refine wpAnyH_ready (rs := [1]) (by kernel_rfl) (by simp) ?_
      refine AllReadyH.cons rfl (fun K hK => ?_) AllReadyH.nil
      go_simp
      refine (pos_any n lv _).mono ?_
      rintro e w1 ⟨rfl, hb⟩
      have EX := ent_below EX0 hb
      have EN2 := ent_below EN1 hb
      have hb' : Below W.heap.size W w1 := ((Below.refl W.heap.size W).drew.alloc (Nat.le_refl _) _).trans (hb.mono (by simp))
      refine hK.out _ _ (EN2) (fun hHeld => ?_)
      clear hK K
      refine wpAnyH_take (i := 5) (v := .agg #[.int .i64 n.pos, .string ⟨n.tok.text.toArray⟩, .slice none 0 0]) rfl (by kernel_rfl) (by kernel_rfl) (by kernel_rfl) (fun _ _ _ h => h) (Or.inl ⟨by rfl, fun w' hSw => by go_simp⟩) hHeld ?_
      simp only [Act.put, List.setIfInBounds_toArray, List.set_cons_zero, List.set_cons_succ]
      have x0 := ent_cell EX 0 _ rfl
      have x1 := ent_cell EX 1 _ rfl
      have x2 := ent_cell EX 2 _ rfl
      have xf := ent_free EX
      refine wpAnyH_ready (rs := [7]) (by kernel_rfl) (by simp) ?_
      refine AllReadyH.cons rfl (fun K hK => ?_) AllReadyH.nil
      go_simp
      refine hK.out _ _ (ent_other (ent_other (ent_other EN2 W.heap.size 0 _ (by omega)) W.heap.size 1 _ (by omega)) W.heap.size 2 _ (by omega)) (fun hHeld => ?_)
      clear hK K
      refine wpAnyH_done (by kernel_rfl) ?_ _
      go_wp2_with fail
      go_meet
      have EX2 := ent_set (ent_set (ent_set EX 0 (.int .i64 n.pos)) 1 (.string ⟨n.tok.text.toArray⟩)) 2 (.slice none 0 0)
      exact ⟨W.heap.size, rfl, by omega, EX2, ((hb'.setCell (Nat.le_refl _) _).setCell (Nat.le_refl _) _).setCell (Nat.le_refl _) _⟩
  case rest =>
    obtain ⟨gx, rfl, hgx, EX, hB⟩ := hcut
    have EN := Lib.hid ((hB.block _ (by omega)).trans EN0)
    have ER := Lib.hid ((hB.block _ (by omega)).trans ER0)
    replace EX := Lib.hid EX
    have HB := Lib.hid (HB0.trans (hB.mono HB0.size))
    clear EN0 ER0 HB0 hB
    have cf := ent_free EN.out
    have c0 := ent_cell EN.out 0 _ rfl
    have c1 := ent_cell EN.out 1 _ rfl
    have c2 := ent_cell EN.out 2 _ rfl
    have c3 := ent_cell EN.out 3 _ rfl
    have c4 := ent_cell EN.out 4 _ rfl
    have c5 := ent_cell EN.out 5 _ rfl
    go_wp2_with fail
    refine (isCon_eq n lv _ true hc).mono ?_
    rintro e w1 ⟨rfl, hb⟩
    replace EN := Lib.hid (ent_below EN.out hb)
    replace ER := Lib.hid (ent_below ER.out hb)
    replace EX := Lib.hid (ent_below EX.out hb)
    replace HB := Lib.hid (HB.out.trans (hb.mono HB.out.size))
    clear hb
    clear cf c0 c1 c2 c3 c4 c5
    have xf := ent_free EX.out
    have x0 := ent_cell EX.out 0 _ rfl
    have x1 := ent_cell EX.out 1 _ rfl
    have x2 := ent_cell EX.out 2 _ rfl
    have rf := ent_free ER.out
    have r0 := ent_cell ER.out 0 _ rfl
    have r1 := ent_cell ER.out 1 _ rfl
    have r2 := ent_cell ER.out 2 _ rfl
    go_wp2_with fail
    refine bodyPost_ret (v := .agg #[.int .i64 n.pos, .string ⟨(n.text).toArray⟩, .slice none 0 0]) (by simp [results, Tryz.results127, go_sem, Px.Node.text, r0, r1, r2]) rfl ?_
    exact ⟨rfl, ((HB.out.setCell (by simp) _).setCell (by simp) _).setCell (by simp) _⟩

set_option maxHeartbeats 2000000 in
set_option maxRecDepth 100000 in
theorem typeE_name (n : Px.Node) (lv : Value) (w : World) (hc : Px.isConB n = false) (hn : Px.isNameB n = true) :
    Calls Tryz.prog 127 #[nodeV n lv] w (fun e w' => e = .returned (.agg #[.int .i64 n.pos, .string ⟨n.text.toArray⟩, .slice none 0 0]) ∧ Below w.heap.size w w') := by
  go_enter Tryz.func127, Tryz.ntmps127
  unfold nodeV
  go_upto_region 1 with fail
  have EN0 := ent_alloc (ent_new w #[.int .i64 n.tok.kind, .int .i64 n.tok.pos, .string ⟨n.tok.text.toArray⟩, .int .i64 n.tok.int, lv, .int .i64 n.takes] 105) (.cells #[.int .i64 0, .string ⟨#[]⟩, .slice none 0 0] 42)
  have ER0 := ent_new (w.alloc (.cells #[.int .i64 n.tok.kind, .int .i64 n.tok.pos, .string ⟨n.tok.text.toArray⟩, .int .i64 n.tok.int, lv, .int .i64 n.takes] 105)) #[.int .i64 0, .string ⟨#[]⟩, .slice none 0 0] 42
  rw [World.size_alloc] at ER0
  have HB0 : Below w.heap.size w ((w.alloc (.cells #[.int .i64 n.tok.kind, .int .i64 n.tok.pos, .string ⟨n.tok.text.toArray⟩, .int .i64 n.tok.int, lv, .int .i64 n.takes] 105)).alloc (.cells #[.int .i64 0, .string ⟨#[]⟩, .slice none 0 0] 42)) := ((Below.refl _ _).alloc (Nat.le_refl _) _).alloc (by simp) _
  have hs0 : w.heap.size + 1 < ((w.alloc (.cells #[.int .i64 n.tok.kind, .int .i64 n.tok.pos, .string ⟨n.tok.text.toArray⟩, .int .i64 n.tok.int, lv, .int .i64 n.takes] 105)).alloc (.cells #[.int .i64 0, .string ⟨#[]⟩, .slice none 0 0] 42)).heap.size := by simp
  generalize ((w.alloc (.cells #[.int .i64 n.tok.kind, .int .i64 n.tok.pos, .string ⟨n.tok.text.toArray⟩, .int .i64 n.tok.int, lv, .int .i64 n.takes] 105)).alloc (.cells #[.int .i64 0, .string ⟨#[]⟩, .slice none 0 0] 42)) = W at *
  go_cut [3] (fun s3 wx => ∃ gx : Nat, s3 = .pointer (some ⟨gx, 0, none⟩) ∧ w.heap.size + 1 < gx ∧ wx.heap[gx]? = some (.cells #[.int .i64 n.pos, .string ⟨n.tok.text.toArray⟩, .slice none 0 0] 42 (0, 0)) ∧ Below W.heap.size W wx)
  case first =>
    refine wp_region_held_drew (S := (fun w' => w'.heap[w.heap.size]? = some (.cells #[.int .i64 n.tok.kind, .int .i64 n.tok.pos, .string ⟨n.tok.text.toArray⟩, .int .i64 n.tok.int, lv, .int .i64 n.takes] 105 (0, 0)))) (by kernel_rfl) (EN0) (fun hHeld => ?_)
    refine wpAnyH_take (i := 0) (v := .agg #[.int .i64 n.tok.kind, .int .i64 n.tok.pos, .string ⟨n.tok.text.toArray⟩, .int .i64 n.tok.int, lv, .int .i64 n.takes]) rfl (by kernel_rfl) (by kernel_rfl) (by kernel_rfl) (fun _ _ _ h => h) (Or.inl ⟨by rfl, fun w' hSw => by have h1 : w'.heap[w.heap.size]? = some (.cells #[.int .i64 n.tok.kind, .int .i64 n.tok.pos, .string ⟨n.tok.text.toArray⟩, .int .i64 n.tok.int, lv, .int .i64 n.takes] 105 (0, 0)) := hSw; have q0 := ent_cell h1 0 _ rfl; have q1 := ent_cell h1 1 _ rfl; have q2 := ent_cell h1 2 _ rfl; have q3 := ent_cell h1 3 _ rfl; have q4 := ent_cell h1 4 _ rfl; have q5 := ent_cell h1 5 _ rfl; go_simp⟩) hHeld ?_
    refine wpAnyH_take (i := 2) (v := .pointer (some ⟨w.heap.size, 0, none⟩)) rfl (by kernel_rfl) (by kernel_rfl) (by kernel_rfl) (fun _ _ _ h => h) (Or.inl ⟨by rfl, fun w' hSw => by go_simp⟩) hHeld ?_
    refine wpAnyH_take (i := 3) (v := .pointer (some ⟨w.heap.size, 2, none⟩)) rfl (by kernel_rfl) (by kernel_rfl) (by kernel_rfl) (fun _ _ _ h => h) (Or.inl ⟨by rfl, fun w' hSw => by go_simp⟩) hHeld ?_
    refine wpAnyH_take (i := 4) (v := .string ⟨n.tok.text.toArray⟩) rfl (by kernel_rfl) (by kernel_rfl) (by kernel_rfl) (fun _ _ _ h => h) (Or.inl ⟨by rfl, fun w' hSw => by have h1 : w'.heap[w.heap.size]? = some (.cells #[.int .i64 n.tok.kind, .int .i64 n.tok.pos, .string ⟨n.tok.text.toArray⟩, .int .i64 n.tok.int, lv, .int .i64 n.takes] 105 (0, 0)) := hSw; have q0 := ent_cell h1 0 _ rfl; have q1 := ent_cell h1 1 _ rfl; have q2 := ent_cell h1 2 _ rfl; have q3 := ent_cell h1 3 _ rfl; have q4 := ent_cell h1 4 _ rfl; have q5 := ent_cell h1 5 _ rfl; go_simp⟩) hHeld ?_
    simp only [Act.put, List.setIfInBounds_toArray, List.set_cons_zero, List.set_cons_succ]
    refine wpAnyH_ready (rs := [1, 6]) (by kernel_rfl) (by simp) ?_
    refine AllReadyH.cons rfl (fun K hK => ?_) (AllReadyH.cons rfl (fun K hK => ?_) AllReadyH.nil)
    · go_simp
      refine (pos_any n lv _).mono ?_
      rintro e w1 ⟨rfl, hb⟩
      have hb' : Below W.heap.size W w1 := ⟨hb.os, hb.tape, hb.output, hb.size, hb.block⟩
      have EN1 := ent_below EN0 hb'
      have hs1 := hb'.size
      clear hb
      refine hK.out _ _ (EN1) (fun hHeld => ?_)
      clear hK K
      refine wpAnyH_take (i := 5) (v := .agg #[.int .i64 n.pos, .string ⟨n.tok.text.toArray⟩, .slice none 0 0]) rfl (by kernel_rfl) (by kernel_rfl) (by kernel_rfl) (fun _ _ _ h => h) (Or.inl ⟨by rfl, fun w' hSw => by go_simp⟩) hHeld ?_
      simp only [Act.put, List.setIfInBounds_toArray, List.set_cons_zero, List.set_cons_succ]
      refine wpAnyH_ready (rs := [6]) (by kernel_rfl) (by simp) ?_
      refine AllReadyH.cons rfl (fun K hK => ?_) AllReadyH.nil
      go_simp
      refine hK.out _ _ (ent_alloc EN1 _) (fun hHeld => ?_)
      clear hK K
      refine wpAnyH_ready (rs := [7]) (by kernel_rfl) (by simp) ?_
      refine AllReadyH.cons rfl (fun K hK => ?_) AllReadyH.nil
      go_simp
      refine hK.out _ _ (ent_alloc EN1 _) (fun hHeld => ?_)
      clear hK K
      refine wpAnyH_done (by kernel_rfl) ?_ _
      go_wp2_with fail
      go_meet
      exact ⟨w1.heap.size, rfl, by omega, ent_new w1 #[.int .i64 n.pos, .string ⟨n.tok.text.toArray⟩, .slice none 0 0] 42, hb'.alloc hs1 _⟩
    · go_simp
      have EN1 : (W.drew.alloc (.cells #[.int .i64 0, .string ⟨#[]⟩, .slice none 0 0] 42)).heap[w.heap.size]? = some (.cells #[.int .i64 n.tok.kind, .int .i64 n.tok.pos, .string ⟨n.tok.text.toArray⟩, .int .i64 n.tok.int, lv, .int .i64 n.takes] 105 (0, 0)) := ent_alloc (w := W.drew) EN0 (.cells #[.int .i64 0, .string ⟨#[]⟩, .slice none 0 0] 42)
      have EX0 : (W.drew.alloc (.cells #[.int .i64 0, .string ⟨#[]⟩, .slice none 0 0] 42)).heap[W.heap.size]? = some (.cells #[.int .i64 0, .string ⟨#[]⟩, .slice none 0 0] 42 (0, 0)) := ent_new W.drew #[.int .i64 0, .string ⟨#[]⟩, .slice none 0 0] 42
      refine hK.out _ _ (EN1) (fun hHeld => ?_)
      clear hK K
      refine wpAnyH_ready (rs := [1]) (by kernel_rfl) (by simp) ?_
      refine AllReadyH.cons rfl (fun K hK => ?_) AllReadyH.nil
      go_simp
      refine (pos_any n lv _).mono ?_
      rintro e w1 ⟨rfl, hb⟩
      have EX := ent_below EX0 hb
      have EN2 := ent_below EN1 hb
      have hb' : Below W.heap.size W w1 := ((Below.refl W.heap.size W).drew.alloc (Nat.le_refl _) _).trans (hb.mono (by simp))
      refine hK.out _ _ (EN2) (fun hHeld => ?_)
      clear hK K
      refine wpAnyH_take (i := 5) (v := .agg #[.int .i64 n.pos, .string ⟨n.tok.text.toArray⟩, .slice none 0 0]) rfl (by kernel_rfl) (by kernel_rfl) (by kernel_rfl) (fun _ _ _ h => h) (Or.inl ⟨by rfl, fun w' hSw => by go_simp⟩) hHeld ?_
      simp only [Act.put, List.setIfInBounds_toArray, List.set_cons_zero, List.set_cons_succ]
      have x0 := ent_cell EX 0 _ rfl
      have x1 := ent_cell EX 1 _ rfl
      have x2 := ent_cell EX 2 _ rfl
      have xf := ent_free EX
      refine wpAnyH_ready (rs := [7]) (by kernel_rfl) (by simp) ?_
      refine AllReadyH.cons rfl (fun K hK => ?_) AllReadyH.nil
      go_simp
      refine hK.out _ _ (ent_other (ent_other (ent_other EN2 W.heap.size 0 _ (by omega)) W.heap.size 1 _ (by omega)) W.heap.size 2 _ (by omega)) (fun hHeld => ?_)
      clear hK K
      refine wpAnyH_done (by kernel_rfl) ?_ _
      go_wp2_with fail
      go_meet
      have EX2 := ent_set (ent_set (ent_set EX 0 (.int .i64 n.pos)) 1 (.string ⟨n.tok.text.toArray⟩)) 2 (.slice none 0 0)
      exact ⟨W.heap.size, rfl, by omega, EX2, ((hb'.setCell (Nat.le_refl _) _).setCell (Nat.le_refl _) _).setCell (Nat.le_refl _) _⟩
  case rest =>
    obtain ⟨gx, rfl, hgx, EX, hB⟩ := hcut
    have EN := Lib.hid ((hB.block _ (by omega)).trans EN0)
    have ER := Lib.hid ((hB.block _ (by omega)).trans ER0)
    replace EX := Lib.hid EX
    have HB := Lib.hid (HB0.trans (hB.mono HB0.size))
    clear EN0 ER0 HB0 hB
    have cf := ent_free EN.out
    have c0 := ent_cell EN.out 0 _ rfl
    have c1 := ent_cell EN.out 1 _ rfl
    have c2 := ent_cell EN.out 2 _ rfl
    have c3 := ent_cell EN.out 3 _ rfl
    have c4 := ent_cell EN.out 4 _ rfl
    have c5 := ent_cell EN.out 5 _ rfl
    go_wp2_with fail
    refine (isCon_eq n lv _ false hc).mono ?_
    rintro e w1 ⟨rfl, hb⟩
    replace EN := Lib.hid (ent_below EN.out hb)
    replace ER := Lib.hid (ent_below ER.out hb)
    replace EX := Lib.hid (ent_below EX.out hb)
    replace HB := Lib.hid (HB.out.trans (hb.mono HB.out.size))
    clear hb
    clear cf c0 c1 c2 c3 c4 c5
    have cf := ent_free EN.out
    have c0 := ent_cell EN.out 0 _ rfl
    have c1 := ent_cell EN.out 1 _ rfl
    have c2 := ent_cell EN.out 2 _ rfl
    have c3 := ent_cell EN.out 3 _ rfl
    have c4 := ent_cell EN.out 4 _ rfl
    have c5 := ent_cell EN.out 5 _ rfl
    go_wp2_with fail
    refine (isName_eq n lv _ true hn).mono ?_
    rintro e w1 ⟨rfl, hb⟩
    replace EN := Lib.hid (ent_below EN.out hb)
    replace ER := Lib.hid (ent_below ER.out hb)
    replace EX := Lib.hid (ent_below EX.out hb)
    replace HB := Lib.hid (HB.out.trans (hb.mono HB.out.size))
    clear hb
    clear cf c0 c1 c2 c3 c4 c5
    have xf := ent_free EX.out
    have x0 := ent_cell EX.out 0 _ rfl
    have x1 := ent_cell EX.out 1 _ rfl
    have x2 := ent_cell EX.out 2 _ rfl
    have rf := ent_free ER.out
    have r0 := ent_cell ER.out 0 _ rfl
    have r1 := ent_cell ER.out 1 _ rfl
    have r2 := ent_cell ER.out 2 _ rfl
    go_wp2_with fail
    refine bodyPost_ret (v := .agg #[.int .i64 n.pos, .string ⟨(n.text).toArray⟩, .slice none 0 0]) (by simp [results, Tryz.results127, go_sem, Px.Node.text, r0, r1, r2]) rfl ?_
    exact ⟨rfl, ((HB.out.setCell (by simp) _).setCell (by simp) _).setCell (by simp) _⟩

set_option maxHeartbeats 2000000 in
set_option maxRecDepth 100000 in
theorem typeE_not (n : Px.Node) (lv : Value) (w : World) (hc : Px.isConB n = false) (hn : Px.isNameB n = false) (hl : Px.isListB n = false) :
    Calls Tryz.prog 127 #[nodeV n lv] w (fun e w' => e = wrongAt n.pos ∧ Below w.heap.size w w') := by
  go_enter Tryz.func127, Tryz.ntmps127
  unfold nodeV
  go_upto_region 1 with fail
  have EN0 := ent_alloc (ent_new w #[.int .i64 n.tok.kind, .int .i64 n.tok.pos, .string ⟨n.tok.text.toArray⟩, .int .i64 n.tok.int, lv, .int .i64 n.takes] 105) (.cells #[.int .i64 0, .string ⟨#[]⟩, .slice none 0 0] 42)
  have ER0 := ent_new (w.alloc (.cells #[.int .i64 n.tok.kind, .int .i64 n.tok.pos, .string ⟨n.tok.text.toArray⟩, .int .i64 n.tok.int, lv, .int .i64 n.takes] 105)) #[.int .i64 0, .string ⟨#[]⟩, .slice none 0 0] 42
  rw [World.size_alloc] at ER0
  have HB0 : Below w.heap.size w ((w.alloc (.cells #[.int .i64 n.tok.kind, .int .i64 n.tok.pos, .string ⟨n.tok.text.toArray⟩, .int .i64 n.tok.int, lv, .int .i64 n.takes] 105)).alloc (.cells #[.int .i64 0, .string ⟨#[]⟩, .slice none 0 0] 42)) := ((Below.refl _ _).alloc (Nat.le_refl _) _).alloc (by simp) _
  have hs0 : w.heap.size + 1 < ((w.alloc (.cells #[.int .i64 n.tok.kind, .int .i64 n.tok.pos, .string ⟨n.tok.text.toArray⟩, .int .i64 n.tok.int, lv, .int .i64 n.takes] 105)).alloc (.cells #[.int .i64 0, .string ⟨#[]⟩, .slice none 0 0] 42)).heap.size := by simp
  generalize ((w.alloc (.cells #[.int .i64 n.tok.kind, .int .i64 n.tok.pos, .string ⟨n.tok.text.toArray⟩, .int .i64 n.tok.int, lv, .int .i64 n.takes] 105)).alloc (.cells #[.int .i64 0, .string ⟨#[]⟩, .slice none 0 0] 42)) = W at *
  go_cut [3] (fun s3 wx => ∃ gx : Nat, s3 = .pointer (some ⟨gx, 0, none⟩) ∧ w.heap.size + 1 < gx ∧ wx.heap[gx]? = some (.cells #[.int .i64 n.pos, .string ⟨n.tok.text.toArray⟩, .slice none 0 0] 42 (0, 0)) ∧ Below W.heap.size W wx)
  case first =>
    refine wp_region_held_drew (S := (fun w' => w'.heap[w.heap.size]? = some (.cells #[.int .i64 n.tok.kind, .int .i64 n.tok.pos, .string ⟨n.tok.text.toArray⟩, .int .i64 n.tok.int, lv, .int .i64 n.takes] 105 (0, 0)))) (by kernel_rfl) (EN0) (fun hHeld => ?_)
    refine wpAnyH_take (i := 0) (v := .agg #[.int .i64 n.tok.kind, .int .i64 n.tok.pos, .string ⟨n.tok.text.toArray⟩, .int .i64 n.tok.int, lv, .int .i64 n.takes]) rfl (by kernel_rfl) (by kernel_rfl) (by kernel_rfl) (fun _ _ _ h => h) (Or.inl ⟨by rfl, fun w' hSw => by have h1 : w'.heap[w.heap.size]? = some (.cells #[.int .i64 n.tok.kind, .int .i64 n.tok.pos, .string ⟨n.tok.text.toArray⟩, .int .i64 n.tok.int, lv, .int .i64 n.takes] 105 (0, 0)) := hSw; have q0 := ent_cell h1 0 _ rfl; have q1 := ent_cell h1 1 _ rfl; have q2 := ent_cell h1 2 _ rfl; have q3 := ent_cell h1 3 _ rfl; have q4 := ent_cell h1 4 _ rfl; have q5 := ent_cell h1 5 _ rfl; go_simp⟩) hHeld ?_
    refine wpAnyH_take (i := 2) (v := .pointer (some ⟨w.heap.size, 0, none⟩)) rfl (by kernel_rfl) (by kernel_rfl) (by kernel_rfl) (fun _ _ _ h => h) (Or.inl ⟨by rfl, fun w' hSw => by go_simp⟩) hHeld ?_
    refine wpAnyH_take (i := 3) (v := .pointer (some ⟨w.heap.size, 2, none⟩)) rfl (by kernel_rfl) (by kernel_rfl) (by kernel_rfl) (fun _ _ _ h => h) (Or.inl ⟨by rfl, fun w' hSw => by go_simp⟩) hHeld ?_
    refine wpAnyH_take (i := 4) (v := .string ⟨n.tok.text.toArray⟩) rfl (by kernel_rfl) (by kernel_rfl) (by kernel_rfl) (fun _ _ _ h => h) (Or.inl ⟨by rfl, fun w' hSw => by have h1 : w'.heap[w.heap.size]? = some (.cells #[.int .i64 n.tok.kind, .int .i64 n.tok.pos, .string ⟨n.tok.text.toArray⟩, .int .i64 n.tok.int, lv, .int .i64 n.takes] 105 (0, 0)) := hSw; have q0 := ent_cell h1 0 _ rfl; have q1 := ent_cell h1 1 _ rfl; have q2 := ent_cell h1 2 _ rfl; have q3 := ent_cell h1 3 _ rfl; have q4 := ent_cell h1 4 _ rfl; have q5 := ent_cell h1 5 _ rfl; go_simp⟩) hHeld ?_
    simp only [Act.put, List.setIfInBounds_toArray, List.set_cons_zero, List.set_cons_succ]
    refine wpAnyH_ready (rs := [1, 6]) (by kernel_rfl) (by simp) ?_
    refine AllReadyH.cons rfl (fun K hK => ?_) (AllReadyH.cons rfl (fun K hK => ?_) AllReadyH.nil)
    · go_simp
      refine (pos_any n lv _).mono ?_
      rintro e w1 ⟨rfl, hb⟩
      have hb' : Below W.heap.size W w1 := ⟨hb.os, hb.tape, hb.output, hb.size, hb.block⟩
      have EN1 := ent_below EN0 hb'
      have hs1 := hb'.size
      clear hb
      refine hK.out _ _ (EN1) (fun hHeld => ?_)
      clear hK K
      refine wpAnyH_take (i := 5) (v := .agg #[.int .i64 n.pos, .string ⟨n.tok.text.toArray⟩, .slice none 0 0]) rfl (by kernel_rfl) (by kernel_rfl) (by kernel_rfl) (fun _ _ _ h => h) (Or.inl ⟨by rfl, fun w' hSw => by go_simp⟩) hHeld ?_
      simp only [Act.put, List.setIfInBounds_toArray, List.set_cons_zero, List.set_cons_succ]
      refine wpAnyH_ready (rs := [6]) (by kernel_rfl) (by simp) ?_
      refine AllReadyH.cons rfl (fun K hK => ?_) AllReadyH.nil
      go_simp
      refine hK.out _ _ (ent_alloc EN1 _) (fun hHeld => ?_)
      clear hK K
      refine wpAnyH_ready (rs := [7]) (by kernel_rfl) (by simp) ?_
      refine AllReadyH.cons rfl (fun K hK => ?_) AllReadyH.nil
      go_simp
      refine hK.out _ _ (ent_alloc EN1 _) (fun hHeld => ?_)
      clear hK K
      refine wpAnyH_done (by kernel_rfl) ?_ _
      go_wp2_with fail
      go_meet
      exact ⟨w1.heap.size, rfl, by omega, ent_new w1 #[.int .i64 n.pos, .string ⟨n.tok.text.toArray⟩, .slice none 0 0] 42, hb'.alloc hs1 _⟩
    · go_simp
      have EN1 : (W.drew.alloc (.cells #[.int .i64 0, .string ⟨#[]⟩, .slice none 0 0] 42)).heap[w.heap.size]? = some (.cells #[.int .i64 n.tok.kind, .int .i64 n.tok.pos, .string ⟨n.tok.text.toArray⟩, .int .i64 n.tok.int, lv, .int .i64 n.takes] 105 (0, 0)) := ent_alloc (w := W.drew) EN0 (.cells #[.int .i64 0, .string ⟨#[]⟩, .slice none 0 0] 42)
      have EX0 : (W.drew.alloc (.cells #[.int .i64 0, .string ⟨#[]⟩, .slice none 0 0] 42)).heap[W.heap.size]? = some (.cells #[.int .i64 0, .string ⟨#[]⟩, .slice none 0 0] 42 (0, 0)) := ent_new W.drew #[.int .i64 0, .string ⟨#[]⟩, .slice none 0 0] 42
      refine hK.out _ _ (EN1) (fun hHeld => ?_)
      clear hK K
      refine wpAnyH_ready (rs := [1]) (by kernel_rfl) (by simp) ?_
      refine AllReadyH.cons rfl (fun K hK => ?_) AllReadyH.nil
      go_simp
      refine (pos_any n lv _).mono ?_
      rintro e w1 ⟨rfl, hb⟩
      have EX := ent_below EX0 hb
      have EN2 := ent_below EN1 hb
      have hb' : Below W.heap.size W w1 := ((Below.refl W.heap.size W).drew.alloc (Nat.le_refl _) _).trans (hb.mono (by simp))
      refine hK.out _ _ (EN2) (fun hHeld => ?_)
      clear hK K
      refine wpAnyH_take (i := 5) (v := .agg #[.int .i64 n.pos, .string ⟨n.tok.text.toArray⟩, .slice none 0 0]) rfl (by kernel_rfl) (by kernel_rfl) (by kernel_rfl) (fun _ _ _ h => h) (Or.inl ⟨by rfl, fun w' hSw => by go_simp⟩) hHeld ?_
      simp only [Act.put, List.setIfInBounds_toArray, List.set_cons_zero, List.set_cons_succ]
      have x0 := ent_cell EX 0 _ rfl
      have x1 := ent_cell EX 1 _ rfl
      have x2 := ent_cell EX 2 _ rfl
      have xf := ent_free EX
      refine wpAnyH_ready (rs := [7]) (by kernel_rfl) (by simp) ?_
      refine AllReadyH.cons rfl (fun K hK => ?_) AllReadyH.nil
      go_simp
      refine hK.out _ _ (ent_other (ent_other (ent_other EN2 W.heap.size 0 _ (by omega)) W.heap.size 1 _ (by omega)) W.heap.size 2 _ (by omega)) (fun hHeld => ?_)
      clear hK K
      refine wpAnyH_done (by kernel_rfl) ?_ _
      go_wp2_with fail
      go_meet
      have EX2 := ent_set (ent_set (ent_set EX 0 (.int .i64 n.pos)) 1 (.string ⟨n.tok.text.toArray⟩)) 2 (.slice none 0 0)
      exact ⟨W.heap.size, rfl, by omega, EX2, ((hb'.setCell (Nat.le_refl _) _).setCell (Nat.le_refl _) _).setCell (Nat.le_refl _) _⟩
  case rest =>
    obtain ⟨gx, rfl, hgx, EX, hB⟩ := hcut
    have EN := Lib.hid ((hB.block _ (by omega)).trans EN0)
    have ER := Lib.hid ((hB.block _ (by omega)).trans ER0)
    replace EX := Lib.hid EX
    have HB := Lib.hid (HB0.trans (hB.mono HB0.size))
    clear EN0 ER0 HB0 hB
    have cf := ent_free EN.out
    have c0 := ent_cell EN.out 0 _ rfl
    have c1 := ent_cell EN.out 1 _ rfl
    have c2 := ent_cell EN.out 2 _ rfl
    have c3 := ent_cell EN.out 3 _ rfl
    have c4 := ent_cell EN.out 4 _ rfl
    have c5 := ent_cell EN.out 5 _ rfl
    go_wp2_with fail
    refine (isCon_eq n lv _ false hc).mono ?_
    rintro e w1 ⟨rfl, hb⟩
    replace EN := Lib.hid (ent_below EN.out hb)
    replace ER := Lib.hid (ent_below ER.out hb)
    replace EX := Lib.hid (ent_below EX.out hb)
    replace HB := Lib.hid (HB.out.trans (hb.mono HB.out.size))
    clear hb
    clear cf c0 c1 c2 c3 c4 c5
    have cf := ent_free EN.out
    have c0 := ent_cell EN.out 0 _ rfl
    have c1 := ent_cell EN.out 1 _ rfl
    have c2 := ent_cell EN.out 2 _ rfl
    have c3 := ent_cell EN.out 3 _ rfl
    have c4 := ent_cell EN.out 4 _ rfl
    have c5 := ent_cell EN.out 5 _ rfl
    go_wp2_with fail
    refine (isName_eq n lv _ false hn).mono ?_
    rintro e w1 ⟨rfl, hb⟩
    replace EN := Lib.hid (ent_below EN.out hb)
    replace ER := Lib.hid (ent_below ER.out hb)
    replace EX := Lib.hid (ent_below EX.out hb)
    replace HB := Lib.hid (HB.out.trans (hb.mono HB.out.size))
    clear hb
    clear cf c0 c1 c2 c3 c4 c5
    have cf := ent_free EN.out
    have c0 := ent_cell EN.out 0 _ rfl
    have c1 := ent_cell EN.out 1 _ rfl
    have c2 := ent_cell EN.out 2 _ rfl
    have c3 := ent_cell EN.out 3 _ rfl
    have c4 := ent_cell EN.out 4 _ rfl
    have c5 := ent_cell EN.out 5 _ rfl
    go_wp2_with fail
    refine (isList_eq n lv _ false hl).mono ?_
    rintro e w1 ⟨rfl, hb⟩
    replace EN := Lib.hid (ent_below EN.out hb)
    replace ER := Lib.hid (ent_below ER.out hb)
    replace EX := Lib.hid (ent_below EX.out hb)
    replace HB := Lib.hid (HB.out.trans (hb.mono HB.out.size))
    clear hb
    clear cf c0 c1 c2 c3 c4 c5
    have cf := ent_free EN.out
    have c0 := ent_cell EN.out 0 _ rfl
    have c1 := ent_cell EN.out 1 _ rfl
    have c2 := ent_cell EN.out 2 _ rfl
    have c3 := ent_cell EN.out 3 _ rfl
    have c4 := ent_cell EN.out 4 _ rfl
    have c5 := ent_cell EN.out 5 _ rfl
    go_wp2_with fail
    refine (pos_any n lv _).mono ?_
    rintro e w1 ⟨rfl, hb⟩
    replace HB := Lib.hid (HB.out.trans (hb.mono HB.out.size))
    clear hb
    go_wp2
    exact ⟨rfl, rfl, HB.out⟩

set_option maxHeartbeats 2000000 in
set_option maxRecDepth 100000 in
theorem typeE_bad (k : Nat) (n : Px.Node) (lv : Value) (w : World) (hc : Px.isConB n = false) (hn : Px.isNameB n = false) (hl : Px.isListB n = true) (hk : KidsAt w k lv n.list) (p : Nat) (hp : Px.nodes n 2 9 = .error p) :
    Calls Tryz.prog 127 #[nodeV n lv] w (fun e w' => e = wrongAt p ∧ Below w.heap.size w w') := by
  have HK := Lib.hid hk
  clear hk
  go_enter Tryz.func127, Tryz.ntmps127
  unfold nodeV
  go_upto_region 1 with fail
  have EN0 := ent_alloc (ent_new w #[.int .i64 n.tok.kind, .int .i64 n.tok.pos, .string ⟨n.tok.text.toArray⟩, .int .i64 n.tok.int, lv, .int .i64 n.takes] 105) (.cells #[.int .i64 0, .string ⟨#[]⟩, .slice none 0 0] 42)
  have ER0 := ent_new (w.alloc (.cells #[.int .i64 n.tok.kind, .int .i64 n.tok.pos, .string ⟨n.tok.text.toArray⟩, .int .i64 n.tok.int, lv, .int .i64 n.takes] 105)) #[.int .i64 0, .string ⟨#[]⟩, .slice none 0 0] 42
  rw [World.size_alloc] at ER0
  have HB0 : Below w.heap.size w ((w.alloc (.cells #[.int .i64 n.tok.kind, .int .i64 n.tok.pos, .string ⟨n.tok.text.toArray⟩, .int .i64 n.tok.int, lv, .int .i64 n.takes] 105)).alloc (.cells #[.int .i64 0, .string ⟨#[]⟩, .slice none 0 0] 42)) := ((Below.refl _ _).alloc (Nat.le_refl _) _).alloc (by simp) _
  have hs0 : w.heap.size + 1 < ((w.alloc (.cells #[.int .i64 n.tok.kind, .int .i64 n.tok.pos, .string ⟨n.tok.text.toArray⟩, .int .i64 n.tok.int, lv, .int .i64 n.takes] 105)).alloc (.cells #[.int .i64 0, .string ⟨#[]⟩, .slice none 0 0] 42)).heap.size := by simp
  generalize ((w.alloc (.cells #[.int .i64 n.tok.kind, .int .i64 n.tok.pos, .string ⟨n.tok.text.toArray⟩, .int .i64 n.tok.int, lv, .int .i64 n.takes] 105)).alloc (.cells #[.int .i64 0, .string ⟨#[]⟩, .slice none 0 0] 42)) = W at *
  go_cut [3] (fun s3 wx => ∃ gx : Nat, s3 = .pointer (some ⟨gx, 0, none⟩) ∧ w.heap.size + 1 < gx ∧ wx.heap[gx]? = some (.cells #[.int .i64 n.pos, .string ⟨n.tok.text.toArray⟩, .slice none 0 0] 42 (0, 0)) ∧ Below W.heap.size W wx)
  case first =>
    refine wp_region_held_drew (S := (fun w' => w'.heap[w.heap.size]? = some (.cells #[.int .i64 n.tok.kind, .int .i64 n.tok.pos, .string ⟨n.tok.text.toArray⟩, .int .i64 n.tok.int, lv, .int .i64 n.takes] 105 (0, 0)))) (by kernel_rfl) (EN0) (fun hHeld => ?_)
    refine wpAnyH_take (i := 0) (v := .agg #[.int .i64 n.tok.kind, .int .i64 n.tok.pos, .string ⟨n.tok.text.toArray⟩, .int .i64 n.tok.int, lv, .int .i64 n.takes]) rfl (by kernel_rfl) (by kernel_rfl) (by kernel_rfl) (fun _ _ _ h => h) (Or.inl ⟨by rfl, fun w' hSw => by have h1 : w'.heap[w.heap.size]? = some (.cells #[.int .i64 n.tok.kind, .int .i64 n.tok.pos, .string ⟨n.tok.text.toArray⟩, .int .i64 n.tok.int, lv, .int .i64 n.takes] 105 (0, 0)) := hSw; have q0 := ent_cell h1 0 _ rfl; have q1 := ent_cell h1 1 _ rfl; have q2 := ent_cell h1 2 _ rfl; have q3 := ent_cell h1 3 _ rfl; have q4 := ent_cell h1 4 _ rfl; have q5 := ent_cell h1 5 _ rfl; go_simp⟩) hHeld ?_
    refine wpAnyH_take (i := 2) (v := .pointer (some ⟨w.heap.size, 0, none⟩)) rfl (by kernel_rfl) (by kernel_rfl) (by kernel_rfl) (fun _ _ _ h => h) (Or.inl ⟨by rfl, fun w' hSw => by go_simp⟩) hHeld ?_
    refine wpAnyH_take (i := 3) (v := .pointer (some ⟨w.heap.size, 2, none⟩)) rfl (by kernel_rfl) (by kernel_rfl) (by kernel_rfl) (fun _ _ _ h => h) (Or.inl ⟨by rfl, fun w' hSw => by go_simp⟩) hHeld ?_
    refine wpAnyH_take (i := 4) (v := .string ⟨n.tok.text.toArray⟩) rfl (by kernel_rfl) (by kernel_rfl) (by kernel_rfl) (fun _ _ _ h => h) (Or.inl ⟨by rfl, fun w' hSw => by have h1 : w'.heap[w.heap.size]? = some (.cells #[.int .i64 n.tok.kind, .int .i64 n.tok.pos, .string ⟨n.tok.text.toArray⟩, .int .i64 n.tok.int, lv, .int .i64 n.takes] 105 (0, 0)) := hSw; have q0 := ent_cell h1 0 _ rfl; have q1 := ent_cell h1 1 _ rfl; have q2 := ent_cell h1 2 _ rfl; have q3 := ent_cell h1 3 _ rfl; have q4 := ent_cell h1 4 _ rfl; have q5 := ent_cell h1 5 _ rfl; go_simp⟩) hHeld ?_
    simp only [Act.put, List.setIfInBounds_toArray, List.set_cons_zero, List.set_cons_succ]
    refine wpAnyH_ready (rs := [1, 6]) (by kernel_rfl) (by simp) ?_
    refine AllReadyH.cons rfl (fun K hK => ?_) (AllReadyH.cons rfl (fun K hK => ?_) AllReadyH.nil)
    · go_simp
      refine (pos_any n lv _).mono ?_
      rintro e w1 ⟨rfl, hb⟩
      have hb' : Below W.heap.size W w1 := ⟨hb.os, hb.tape, hb.output, hb.size, hb.block⟩
      have EN1 := ent_below EN0 hb'
      have hs1 := hb'.size
      clear hb
      refine hK.out _ _ (EN1) (fun hHeld => ?_)
      clear hK K
      refine wpAnyH_take (i := 5) (v := .agg #[.int .i64 n.pos, .string ⟨n.tok.text.toArray⟩, .slice none 0 0]) rfl (by kernel_rfl) (by kernel_rfl) (by kernel_rfl) (fun _ _ _ h => h) (Or.inl ⟨by rfl, fun w' hSw => by go_simp⟩) hHeld ?_
      simp only [Act.put, List.setIfInBounds_toArray, List.set_cons_zero, List.set_cons_succ]
      refine wpAnyH_ready (rs := [6]) (by kernel_rfl) (by simp) ?_
      refine AllReadyH.cons rfl (fun K hK => ?_) AllReadyH.nil
      go_simp
      refine hK.out _ _ (ent_alloc EN1 _) (fun hHeld => ?_)
      clear hK K
      refine wpAnyH_ready (rs := [7]) (by kernel_rfl) (by simp) ?_
      refine AllReadyH.cons rfl (fun K hK => ?_) AllReadyH.nil
      go_simp
      refine hK.out _ _ (ent_alloc EN1 _) (fun hHeld => ?_)
      clear hK K
      refine wpAnyH_done (by kernel_rfl) ?_ _
      go_wp2_with fail
      go_meet
      exact ⟨w1.heap.size, rfl, by omega, ent_new w1 #[.int .i64 n.pos, .string ⟨n.tok.text.toArray⟩, .slice none 0 0] 42, hb'.alloc hs1 _⟩
    · go_simp
      have EN1 : (W.drew.alloc (.cells #[.int .i64 0, .string ⟨#[]⟩, .slice none 0 0] 42)).heap[w.heap.size]? = some (.cells #[.int .i64 n.tok.kind, .int .i64 n.tok.pos, .string ⟨n.tok.text.toArray⟩, .int .i64 n.tok.int, lv, .int .i64 n.takes] 105 (0, 0)) := ent_alloc (w := W.drew) EN0 (.cells #[.int .i64 0, .string ⟨#[]⟩, .slice none 0 0] 42)
      have EX0 : (W.drew.alloc (.cells #[.int .i64 0, .string ⟨#[]⟩, .slice none 0 0] 42)).heap[W.heap.size]? = some (.cells #[.int .i64 0, .string ⟨#[]⟩, .slice none 0 0] 42 (0, 0)) := ent_new W.drew #[.int .i64 0, .string ⟨#[]⟩, .slice none 0 0] 42
      refine hK.out _ _ (EN1) (fun hHeld => ?_)
      clear hK K
      refine wpAnyH_ready (rs := [1]) (by kernel_rfl) (by simp) ?_
      refine AllReadyH.cons rfl (fun K hK => ?_) AllReadyH.nil
      go_simp
      refine (pos_any n lv _).mono ?_
      rintro e w1 ⟨rfl, hb⟩
      have EX := ent_below EX0 hb
      have EN2 := ent_below EN1 hb
      have hb' : Below W.heap.size W w1 := ((Below.refl W.heap.size W).drew.alloc (Nat.le_refl _) _).trans (hb.mono (by simp))
      refine hK.out _ _ (EN2) (fun hHeld => ?_)
      clear hK K
      refine wpAnyH_take (i := 5) (v := .agg #[.int .i64 n.pos, .string ⟨n.tok.text.toArray⟩, .slice none 0 0]) rfl (by kernel_rfl) (by kernel_rfl) (by kernel_rfl) (fun _ _ _ h => h) (Or.inl ⟨by rfl, fun w' hSw => by go_simp⟩) hHeld ?_
      simp only [Act.put, List.setIfInBounds_toArray, List.set_cons_zero, List.set_cons_succ]
      have x0 := ent_cell EX 0 _ rfl
      have x1 := ent_cell EX 1 _ rfl
      have x2 := ent_cell EX 2 _ rfl
      have xf := ent_free EX
      refine wpAnyH_ready (rs := [7]) (by kernel_rfl) (by simp) ?_
      refine AllReadyH.cons rfl (fun K hK => ?_) AllReadyH.nil
      go_simp
      refine hK.out _ _ (ent_other (ent_other (ent_other EN2 W.heap.size 0 _ (by omega)) W.heap.size 1 _ (by omega)) W.heap.size 2 _ (by omega)) (fun hHeld => ?_)
      clear hK K
      refine wpAnyH_done (by kernel_rfl) ?_ _
      go_wp2_with fail
      go_meet
      have EX2 := ent_set (ent_set (ent_set EX 0 (.int .i64 n.pos)) 1 (.string ⟨n.tok.text.toArray⟩)) 2 (.slice none 0 0)
      exact ⟨W.heap.size, rfl, by omega, EX2, ((hb'.setCell (Nat.le_refl _) _).setCell (Nat.le_refl _) _).setCell (Nat.le_refl _) _⟩
  case rest =>
    obtain ⟨gx, rfl, hgx, EX, hB⟩ := hcut
    have EN := Lib.hid ((hB.block _ (by omega)).trans EN0)
    have ER := Lib.hid ((hB.block _ (by omega)).trans ER0)
    replace EX := Lib.hid EX
    have HB := Lib.hid (HB0.trans (hB.mono HB0.size))
    clear EN0 ER0 HB0 hB
    have cf := ent_free EN.out
    have c0 := ent_cell EN.out 0 _ rfl
    have c1 := ent_cell EN.out 1 _ rfl
    have c2 := ent_cell EN.out 2 _ rfl
    have c3 := ent_cell EN.out 3 _ rfl
    have c4 := ent_cell EN.out 4 _ rfl
    have c5 := ent_cell EN.out 5 _ rfl
    go_wp2_with fail
    refine (isCon_eq n lv _ false hc).mono ?_
    rintro e w1 ⟨rfl, hb⟩
    replace EN := Lib.hid (ent_below EN.out hb)
    replace ER := Lib.hid (ent_below ER.out hb)
    replace EX := Lib.hid (ent_below EX.out hb)
    replace HB := Lib.hid (HB.out.trans (hb.mono HB.out.size))
    clear hb
    clear cf c0 c1 c2 c3 c4 c5
    have cf := ent_free EN.out
    have c0 := ent_cell EN.out 0 _ rfl
    have c1 := ent_cell EN.out 1 _ rfl
    have c2 := ent_cell EN.out 2 _ rfl
    have c3 := ent_cell EN.out 3 _ rfl
    have c4 := ent_cell EN.out 4 _ rfl
    have c5 := ent_cell EN.out 5 _ rfl
    go_wp2_with fail
    refine (isName_eq n lv _ false hn).mono ?_
    rintro e w1 ⟨rfl, hb⟩
    replace EN := Lib.hid (ent_below EN.out hb)
    replace ER := Lib.hid (ent_below ER.out hb)
    replace EX := Lib.hid (ent_below EX.out hb)
    replace HB := Lib.hid (HB.out.trans (hb.mono HB.out.size))
    clear hb
    clear cf c0 c1 c2 c3 c4 c5
    have cf := ent_free EN.out
    have c0 := ent_cell EN.out 0 _ rfl
    have c1 := ent_cell EN.out 1 _ rfl
    have c2 := ent_cell EN.out 2 _ rfl
    have c3 := ent_cell EN.out 3 _ rfl
    have c4 := ent_cell EN.out 4 _ rfl
    have c5 := ent_cell EN.out 5 _ rfl
    go_wp2_with fail
    refine (isList_eq n lv _ true hl).mono ?_
    rintro e w1 ⟨rfl, hb⟩
    replace EN := Lib.hid (ent_below EN.out hb)
    replace ER := Lib.hid (ent_below ER.out hb)
    replace EX := Lib.hid (ent_below EX.out hb)
    replace HB := Lib.hid (HB.out.trans (hb.mono HB.out.size))
    clear hb
    clear cf c0 c1 c2 c3 c4 c5
    have cf := ent_free EN.out
    have c0 := ent_cell EN.out 0 _ rfl
    have c1 := ent_cell EN.out 1 _ rfl
    have c2 := ent_cell EN.out 2 _ rfl
    have c3 := ent_cell EN.out 3 _ rfl
    have c4 := ent_cell EN.out 4 _ rfl
    have c5 := ent_cell EN.out 5 _ rfl
    go_wp2_with fail
    refine (nodes_badI k n lv 2 9 2 9 _ rfl rfl (HK.out.below HB.out) (by omega) (by omega) p hp).mono ?_
    rintro e w1 ⟨rfl, hb⟩
    replace HB := Lib.hid (HB.out.trans (hb.mono HB.out.size))
    clear hb
    exact ⟨rfl, rfl, HB.out⟩

set_option maxHeartbeats 2000000 in
set_option maxRecDepth 100000 in
theorem typeE_hold_bad (k : Nat) (n : Px.Node) (lv : Value) (w : World) (hc : Px.isConB n = false) (hn : Px.isNameB n = false) (hl : Px.isListB n = true) (hk : KidsAt w k lv n.list) (l : List Px.Node) (hp : Px.nodes n 2 9 = .ok l) (wd : List UInt8) (hwd : Px.word n = wd) (hwb : (wd == [45, 62]) = true) (p : Nat) (hh : Px.hold n 3 3 = .error p) :
    Calls Tryz.prog 127 #[nodeV n lv] w (fun e w' => e = wrongAt p ∧ Below w.heap.size w w') := by
  obtain ⟨hle, h2, h9, _⟩ := nodes_is hp
  rw [hle] at h2 h9
  obtain ⟨j, g, o, c, rfl, rfl, h3, h4, h5⟩ := hk.some (by intro e; rw [e] at h2; simp at h2)
  have hc1 : ¬ c = 1 := by omega
  obtain ⟨m, hm⟩ : ∃ m, n.list[0]? = some m := ⟨n.list[0], List.getElem?_eq_getElem (by omega)⟩
  obtain ⟨kv, hat, hkm⟩ := h5 0 m hm
  rw [Nat.zero_mul, Nat.add_zero] at hat
  have HAT := Lib.hid hat; have HK := Lib.hid hk; have HP := Lib.hid hp
  have HM := Lib.hid hm
  clear h5 hat hkm hk hp hle hm
  have HWD := Lib.hid hwd; clear hwd
  go_enter Tryz.func127, Tryz.ntmps127
  unfold nodeV
  go_upto_region 1 with fail
  have EN0 := ent_alloc (ent_new w #[.int .i64 n.tok.kind, .int .i64 n.tok.pos, .string ⟨n.tok.text.toArray⟩, .int .i64 n.tok.int, (.slice (some ⟨g, o, none⟩) n.list.length c), .int .i64 n.takes] 105) (.cells #[.int .i64 0, .string ⟨#[]⟩, .slice none 0 0] 42)
  have ER0 := ent_new (w.alloc (.cells #[.int .i64 n.tok.kind, .int .i64 n.tok.pos, .string ⟨n.tok.text.toArray⟩, .int .i64 n.tok.int, (.slice (some ⟨g, o, none⟩) n.list.length c), .int .i64 n.takes] 105)) #[.int .i64 0, .string ⟨#[]⟩, .slice none 0 0] 42
  rw [World.size_alloc] at ER0
  have HB0 : Below w.heap.size w ((w.alloc (.cells #[.int .i64 n.tok.kind, .int .i64 n.tok.pos, .string ⟨n.tok.text.toArray⟩, .int .i64 n.tok.int, (.slice (some ⟨g, o, none⟩) n.list.length c), .int .i64 n.takes] 105)).alloc (.cells #[.int .i64 0, .string ⟨#[]⟩, .slice none 0 0] 42)) := ((Below.refl _ _).alloc (Nat.le_refl _) _).alloc (by simp) _
  have hs0 : w.heap.size + 1 < ((w.alloc (.cells #[.int .i64 n.tok.kind, .int .i64 n.tok.pos, .string ⟨n.tok.text.toArray⟩, .int .i64 n.tok.int, (.slice (some ⟨g, o, none⟩) n.list.length c), .int .i64 n.takes] 105)).alloc (.cells #[.int .i64 0, .string ⟨#[]⟩, .slice none 0 0] 42)).heap.size := by simp
  generalize ((w.alloc (.cells #[.int .i64 n.tok.kind, .int .i64 n.tok.pos, .string ⟨n.tok.text.toArray⟩, .int .i64 n.tok.int, (.slice (some ⟨g, o, none⟩) n.list.length c), .int .i64 n.takes] 105)).alloc (.cells #[.int .i64 0, .string ⟨#[]⟩, .slice none 0 0] 42)) = W at *
  go_cut [3] (fun s3 wx => ∃ gx : Nat, s3 = .pointer (some ⟨gx, 0, none⟩) ∧ w.heap.size + 1 < gx ∧ wx.heap[gx]? = some (.cells #[.int .i64 n.pos, .string ⟨n.tok.text.toArray⟩, .slice none 0 0] 42 (0, 0)) ∧ Below W.heap.size W wx)
  case first =>
    refine wp_region_held_drew (S := (fun w' => w'.heap[w.heap.size]? = some (.cells #[.int .i64 n.tok.kind, .int .i64 n.tok.pos, .string ⟨n.tok.text.toArray⟩, .int .i64 n.tok.int, (.slice (some ⟨g, o, none⟩) n.list.length c), .int .i64 n.takes] 105 (0, 0)))) (by kernel_rfl) (EN0) (fun hHeld => ?_)
    refine wpAnyH_take (i := 0) (v := .agg #[.int .i64 n.tok.kind, .int .i64 n.tok.pos, .string ⟨n.tok.text.toArray⟩, .int .i64 n.tok.int, (.slice (some ⟨g, o, none⟩) n.list.length c), .int .i64 n.takes]) rfl (by kernel_rfl) (by kernel_rfl) (by kernel_rfl) (fun _ _ _ h => h) (Or.inl ⟨by rfl, fun w' hSw => by have h1 : w'.heap[w.heap.size]? = some (.cells #[.int .i64 n.tok.kind, .int .i64 n.tok.pos, .string ⟨n.tok.text.toArray⟩, .int .i64 n.tok.int, (.slice (some ⟨g, o, none⟩) n.list.length c), .int .i64 n.takes] 105 (0, 0)) := hSw; have q0 := ent_cell h1 0 _ rfl; have q1 := ent_cell h1 1 _ rfl; have q2 := ent_cell h1 2 _ rfl; have q3 := ent_cell h1 3 _ rfl; have q4 := ent_cell h1 4 _ rfl; have q5 := ent_cell h1 5 _ rfl; go_simp⟩) hHeld ?_
    refine wpAnyH_take (i := 2) (v := .pointer (some ⟨w.heap.size, 0, none⟩)) rfl (by kernel_rfl) (by kernel_rfl) (by kernel_rfl) (fun _ _ _ h => h) (Or.inl ⟨by rfl, fun w' hSw => by go_simp⟩) hHeld ?_
    refine wpAnyH_take (i := 3) (v := .pointer (some ⟨w.heap.size, 2, none⟩)) rfl (by kernel_rfl) (by kernel_rfl) (by kernel_rfl) (fun _ _ _ h => h) (Or.inl ⟨by rfl, fun w' hSw => by go_simp⟩) hHeld ?_
    refine wpAnyH_take (i := 4) (v := .string ⟨n.tok.text.toArray⟩) rfl (by kernel_rfl) (by kernel_rfl) (by kernel_rfl) (fun _ _ _ h => h) (Or.inl ⟨by rfl, fun w' hSw => by have h1 : w'.heap[w.heap.size]? = some (.cells #[.int .i64 n.tok.kind, .int .i64 n.tok.pos, .string ⟨n.tok.text.toArray⟩, .int .i64 n.tok.int, (.slice (some ⟨g, o, none⟩) n.list.length c), .int .i64 n.takes] 105 (0, 0)) := hSw; have q0 := ent_cell h1 0 _ rfl; have q1 := ent_cell h1 1 _ rfl; have q2 := ent_cell h1 2 _ rfl; have q3 := ent_cell h1 3 _ rfl; have q4 := ent_cell h1 4 _ rfl; have q5 := ent_cell h1 5 _ rfl; go_simp⟩) hHeld ?_
    simp only [Act.put, List.setIfInBounds_toArray, List.set_cons_zero, List.set_cons_succ]
    refine wpAnyH_ready (rs := [1, 6]) (by kernel_rfl) (by simp) ?_
    refine AllReadyH.cons rfl (fun K hK => ?_) (AllReadyH.cons rfl (fun K hK => ?_) AllReadyH.nil)
    · go_simp
      refine (pos_any n (.slice (some ⟨g, o, none⟩) n.list.length c) _).mono ?_
      rintro e w1 ⟨rfl, hb⟩
      have hb' : Below W.heap.size W w1 := ⟨hb.os, hb.tape, hb.output, hb.size, hb.block⟩
      have EN1 := ent_below EN0 hb'
      have hs1 := hb'.size
      clear hb
      refine hK.out _ _ (EN1) (fun hHeld => ?_)
      clear hK K
      refine wpAnyH_take (i := 5) (v := .agg #[.int .i64 n.pos, .string ⟨n.tok.text.toArray⟩, .slice none 0 0]) rfl (by kernel_rfl) (by kernel_rfl) (by kernel_rfl) (fun _ _ _ h => h) (Or.inl ⟨by rfl, fun w' hSw => by go_simp⟩) hHeld ?_
      simp only [Act.put, List.setIfInBounds_toArray, List.set_cons_zero, List.set_cons_succ]
      refine wpAnyH_ready (rs := [6]) (by kernel_rfl) (by simp) ?_
      refine AllReadyH.cons rfl (fun K hK => ?_) AllReadyH.nil
      go_simp
      refine hK.out _ _ (ent_alloc EN1 _) (fun hHeld => ?_)
      clear hK K
      refine wpAnyH_ready (rs := [7]) (by kernel_rfl) (by simp) ?_
      refine AllReadyH.cons rfl (fun K hK => ?_) AllReadyH.nil
      go_simp
      refine hK.out _ _ (ent_alloc EN1 _) (fun hHeld => ?_)
      clear hK K
      refine wpAnyH_done (by kernel_rfl) ?_ _
      go_wp2_with fail
      go_meet
      exact ⟨w1.heap.size, rfl, by omega, ent_new w1 #[.int .i64 n.pos, .string ⟨n.tok.text.toArray⟩, .slice none 0 0] 42, hb'.alloc hs1 _⟩
    · go_simp
      have EN1 : (W.drew.alloc (.cells #[.int .i64 0, .string ⟨#[]⟩, .slice none 0 0] 42)).heap[w.heap.size]? = some (.cells #[.int .i64 n.tok.kind, .int .i64 n.tok.pos, .string ⟨n.tok.text.toArray⟩, .int .i64 n.tok.int, (.slice (some ⟨g, o, none⟩) n.list.length c), .int .i64 n.takes] 105 (0, 0)) := ent_alloc (w := W.drew) EN0 (.cells #[.int .i64 0, .string ⟨#[]⟩, .slice none 0 0] 42)
      have EX0 : (W.drew.alloc (.cells #[.int .i64 0, .string ⟨#[]⟩, .slice none 0 0] 42)).heap[W.heap.size]? = some (.cells #[.int .i64 0, .string ⟨#[]⟩, .slice none 0 0] 42 (0, 0)) := ent_new W.drew #[.int .i64 0, .string ⟨#[]⟩, .slice none 0 0] 42
      refine hK.out _ _ (EN1) (fun hHeld => ?_)
      clear hK K
      refine wpAnyH_ready (rs := [1]) (by kernel_rfl) (by simp) ?_
      refine AllReadyH.cons rfl (fun K hK => ?_) AllReadyH.nil
      go_simp
      refine (pos_any n (.slice (some ⟨g, o, none⟩) n.list.length c) _).mono ?_
      rintro e w1 ⟨rfl, hb⟩
      have EX := ent_below EX0 hb
      have EN2 := ent_below EN1 hb
      have hb' : Below W.heap.size W w1 := ((Below.refl W.heap.size W).drew.alloc (Nat.le_refl _) _).trans (hb.mono (by simp))
      refine hK.out _ _ (EN2) (fun hHeld => ?_)
      clear hK K
      refine wpAnyH_take (i := 5) (v := .agg #[.int .i64 n.pos, .string ⟨n.tok.text.toArray⟩, .slice none 0 0]) rfl (by kernel_rfl) (by kernel_rfl) (by kernel_rfl) (fun _ _ _ h => h) (Or.inl ⟨by rfl, fun w' hSw => by go_simp⟩) hHeld ?_
      simp only [Act.put, List.setIfInBounds_toArray, List.set_cons_zero, List.set_cons_succ]
      have x0 := ent_cell EX 0 _ rfl
      have x1 := ent_cell EX 1 _ rfl
      have x2 := ent_cell EX 2 _ rfl
      have xf := ent_free EX
      refine wpAnyH_ready (rs := [7]) (by kernel_rfl) (by simp) ?_
      refine AllReadyH.cons rfl (fun K hK => ?_) AllReadyH.nil
      go_simp
      refine hK.out _ _ (ent_other (ent_other (ent_other EN2 W.heap.size 0 _ (by omega)) W.heap.size 1 _ (by omega)) W.heap.size 2 _ (by omega)) (fun hHeld => ?_)
      clear hK K
      refine wpAnyH_done (by kernel_rfl) ?_ _
      go_wp2_with fail
      go_meet
      have EX2 := ent_set (ent_set (ent_set EX 0 (.int .i64 n.pos)) 1 (.string ⟨n.tok.text.toArray⟩)) 2 (.slice none 0 0)
      exact ⟨W.heap.size, rfl, by omega, EX2, ((hb'.setCell (Nat.le_refl _) _).setCell (Nat.le_refl _) _).setCell (Nat.le_refl _) _⟩
  case rest =>
    obtain ⟨gx, rfl, hgx, EX, hB⟩ := hcut
    have EN := Lib.hid ((hB.block _ (by omega)).trans EN0)
    have ER := Lib.hid ((hB.block _ (by omega)).trans ER0)
    replace EX := Lib.hid EX
    have HB := Lib.hid (HB0.trans (hB.mono HB0.size))
    clear EN0 ER0 HB0 hB
    have cf := ent_free EN.out
    have c0 := ent_cell EN.out 0 _ rfl
    have c1 := ent_cell EN.out 1 _ rfl
    have c2 := ent_cell EN.out 2 _ rfl
    have c3 := ent_cell EN.out 3 _ rfl
    have c4 := ent_cell EN.out 4 _ rfl
    have c5 := ent_cell EN.out 5 _ rfl
    go_wp2_with fail
    refine (isCon_eq n (.slice (some ⟨g, o, none⟩) n.list.length c) _ false hc).mono ?_
    rintro e w1 ⟨rfl, hb⟩
    replace EN := Lib.hid (ent_below EN.out hb)
    replace ER := Lib.hid (ent_below ER.out hb)
    replace EX := Lib.hid (ent_below EX.out hb)
    replace HB := Lib.hid (HB.out.trans (hb.mono HB.out.size))
    clear hb
    clear cf c0 c1 c2 c3 c4 c5
    have cf := ent_free EN.out
    have c0 := ent_cell EN.out 0 _ rfl
    have c1 := ent_cell EN.out 1 _ rfl
    have c2 := ent_cell EN.out 2 _ rfl
    have c3 := ent_cell EN.out 3 _ rfl
    have c4 := ent_cell EN.out 4 _ rfl
    have c5 := ent_cell EN.out 5 _ rfl
    go_wp2_with fail
    refine (isName_eq n (.slice (some ⟨g, o, none⟩) n.list.length c) _ false hn).mono ?_
    rintro e w1 ⟨rfl, hb⟩
    replace EN := Lib.hid (ent_below EN.out hb)
    replace ER := Lib.hid (ent_below ER.out hb)
    replace EX := Lib.hid (ent_below EX.out hb)
    replace HB := Lib.hid (HB.out.trans (hb.mono HB.out.size))
    clear hb
    clear cf c0 c1 c2 c3 c4 c5
    have cf := ent_free EN.out
    have c0 := ent_cell EN.out 0 _ rfl
    have c1 := ent_cell EN.out 1 _ rfl
    have c2 := ent_cell EN.out 2 _ rfl
    have c3 := ent_cell EN.out 3 _ rfl
    have c4 := ent_cell EN.out 4 _ rfl
    have c5 := ent_cell EN.out 5 _ rfl
    go_wp2_with fail
    refine (isList_eq n (.slice (some ⟨g, o, none⟩) n.list.length c) _ true hl).mono ?_
    rintro e w1 ⟨rfl, hb⟩
    replace EN := Lib.hid (ent_below EN.out hb)
    replace ER := Lib.hid (ent_below ER.out hb)
    replace EX := Lib.hid (ent_below EX.out hb)
    replace HB := Lib.hid (HB.out.trans (hb.mono HB.out.size))
    clear hb
    clear cf c0 c1 c2 c3 c4 c5
    have cf := ent_free EN.out
    have c0 := ent_cell EN.out 0 _ rfl
    have c1 := ent_cell EN.out 1 _ rfl
    have c2 := ent_cell EN.out 2 _ rfl
    have c3 := ent_cell EN.out 3 _ rfl
    have c4 := ent_cell EN.out 4 _ rfl
    have c5 := ent_cell EN.out 5 _ rfl
    go_wp2_with fail
    refine (nodes_okI (j + 1) n (.slice (some ⟨g, o, none⟩) n.list.length c) 2 9 2 9 _ rfl rfl (HK.out.below HB.out) (by omega) (by omega) l HP.out).mono ?_
    rintro e w1 ⟨rfl, hb⟩
    replace EN := Lib.hid (ent_below EN.out hb)
    replace ER := Lib.hid (ent_below ER.out hb)
    replace EX := Lib.hid (ent_below EX.out hb)
    replace HB := Lib.hid (HB.out.trans (hb.mono HB.out.size))
    clear hb
    clear cf c0 c1 c2 c3 c4 c5
    have cf := ent_free EN.out
    have c0 := ent_cell EN.out 0 _ rfl
    have c1 := ent_cell EN.out 1 _ rfl
    have c2 := ent_cell EN.out 2 _ rfl
    have c3 := ent_cell EN.out 3 _ rfl
    have c4 := ent_cell EN.out 4 _ rfl
    have c5 := ent_cell EN.out 5 _ rfl
    go_wp2_with fail
    refine (word_eq (j + 1) n (.slice (some ⟨g, o, none⟩) n.list.length c) _ wd (HK.out.below HB.out) HWD.out).mono ?_
    rintro e w1 ⟨rfl, hb⟩
    replace EN := Lib.hid (ent_below EN.out hb)
    replace ER := Lib.hid (ent_below ER.out hb)
    replace EX := Lib.hid (ent_below EX.out hb)
    replace HB := Lib.hid (HB.out.trans (hb.mono HB.out.size))
    clear hb
    clear cf c0 c1 c2 c3 c4 c5
    have cf := ent_free EN.out
    have c0 := ent_cell EN.out 0 _ rfl
    have c1 := ent_cell EN.out 1 _ rfl
    have c2 := ent_cell EN.out 2 _ rfl
    have c3 := ent_cell EN.out 3 _ rfl
    have c4 := ent_cell EN.out 4 _ rfl
    have c5 := ent_cell EN.out 5 _ rfl
    have xf := ent_free EX.out
    have x0 := ent_cell EX.out 0 _ rfl
    have x1 := ent_cell EX.out 1 _ rfl
    have x2 := ent_cell EX.out 2 _ rfl
    have xs1 := Lib.hid (ent_set EX.out 1 (.string ⟨wd.toArray⟩)); have ens := Lib.hid (ent_other EN.out gx 1 (.string ⟨wd.toArray⟩) (by omega)); have ers := Lib.hid (ent_other ER.out gx 1 (.string ⟨wd.toArray⟩) (by omega)); have hbs := Lib.hid (HB.out.setCell (p := ⟨gx, 1, none⟩) (by simp; omega) (.string ⟨wd.toArray⟩))
    go_wp2_with fail
    replace EX := xs1; replace EN := ens; replace ER := ers; replace HB := hbs
    refine (hold_badI (j + 1) n (.slice (some ⟨g, o, none⟩) n.list.length c) 3 3 3 3 _ rfl rfl (HK.out.below HB.out) (by omega) (by omega) p hh).mono ?_
    rintro e w1 ⟨rfl, hb⟩
    replace HB := Lib.hid (HB.out.trans (hb.mono HB.out.size))
    clear hb
    exact ⟨rfl, rfl, HB.out⟩

set_option maxHeartbeats 2000000 in
set_option maxRecDepth 100000 in
theorem typeE_hold_ok (k : Nat) (f : Nat) (ih : ∀ (n : Px.Node) (lv : Value) (k : Nat) (w : World), KidsAt w k lv n.list → k < f → Calls Tryz.prog 127 #[nodeV n lv] w (ToldN w (TypeAt f) (Px.typeE f n))) (hkf : k ≤ f) (n : Px.Node) (lv : Value) (w : World) (hc : Px.isConB n = false) (hn : Px.isNameB n = false) (hl : Px.isListB n = true) (hk : KidsAt w k lv n.list) (l : List Px.Node) (hp : Px.nodes n 2 9 = .ok l) (wd : List UInt8) (hwd : Px.word n = wd) (hwb : (wd == [45, 62]) = true) (hh : Px.hold n 3 3 = .ok ()) (out : Px.R Px.TypeE) (hout : (match Px.each (Px.typeE f) n.list.tail with | .error p => .error p | .ok xs => .ok (.mk n.pos wd xs)) = out) :
    Calls Tryz.prog 127 #[nodeV n lv] w (ToldN w (TypeAt (f + 1)) out) := by
  obtain ⟨hle, h2, h9, _⟩ := nodes_is hp
  rw [hle] at h2 h9
  obtain ⟨j, g, o, c, rfl, rfl, h3, h4, h5⟩ := hk.some (by intro e; rw [e] at h2; simp at h2)
  have hc1 : ¬ c = 1 := by omega
  obtain ⟨m, hm⟩ : ∃ m, n.list[0]? = some m := ⟨n.list[0], List.getElem?_eq_getElem (by omega)⟩
  obtain ⟨kv, hat, hkm⟩ := h5 0 m hm
  rw [Nat.zero_mul, Nat.add_zero] at hat
  have HAT := Lib.hid hat; have HK := Lib.hid hk; have HP := Lib.hid hp
  have HM := Lib.hid hm
  clear h5 hat hkm hk hp hle hm
  have HWD := Lib.hid hwd; clear hwd
  have HIH := Lib.hid ih; have HOUT := Lib.hid hout; clear ih hout
  go_enter Tryz.func127, Tryz.ntmps127
  unfold nodeV
  go_upto_region 1 with fail
  have EN0 := ent_alloc (ent_new w #[.int .i64 n.tok.kind, .int .i64 n.tok.pos, .string ⟨n.tok.text.toArray⟩, .int .i64 n.tok.int, (.slice (some ⟨g, o, none⟩) n.list.length c), .int .i64 n.takes] 105) (.cells #[.int .i64 0, .string ⟨#[]⟩, .slice none 0 0] 42)
  have ER0 := ent_new (w.alloc (.cells #[.int .i64 n.tok.kind, .int .i64 n.tok.pos, .string ⟨n.tok.text.toArray⟩, .int .i64 n.tok.int, (.slice (some ⟨g, o, none⟩) n.list.length c), .int .i64 n.takes] 105)) #[.int .i64 0, .string ⟨#[]⟩, .slice none 0 0] 42
  rw [World.size_alloc] at ER0
  have HB0 : Below w.heap.size w ((w.alloc (.cells #[.int .i64 n.tok.kind, .int .i64 n.tok.pos, .string ⟨n.tok.text.toArray⟩, .int .i64 n.tok.int, (.slice (some ⟨g, o, none⟩) n.list.length c), .int .i64 n.takes] 105)).alloc (.cells #[.int .i64 0, .string ⟨#[]⟩, .slice none 0 0] 42)) := ((Below.refl _ _).alloc (Nat.le_refl _) _).alloc (by simp) _
  have hs0 : w.heap.size + 1 < ((w.alloc (.cells #[.int .i64 n.tok.kind, .int .i64 n.tok.pos, .string ⟨n.tok.text.toArray⟩, .int .i64 n.tok.int, (.slice (some ⟨g, o, none⟩) n.list.length c), .int .i64 n.takes] 105)).alloc (.cells #[.int .i64 0, .string ⟨#[]⟩, .slice none 0 0] 42)).heap.size := by simp
  generalize ((w.alloc (.cells #[.int .i64 n.tok.kind, .int .i64 n.tok.pos, .string ⟨n.tok.text.toArray⟩, .int .i64 n.tok.int, (.slice (some ⟨g, o, none⟩) n.list.length c), .int .i64 n.takes] 105)).alloc (.cells #[.int .i64 0, .string ⟨#[]⟩, .slice none 0 0] 42)) = W at *
  go_cut [3] (fun s3 wx => ∃ gx : Nat, s3 = .pointer (some ⟨gx, 0, none⟩) ∧ w.heap.size + 1 < gx ∧ wx.heap[gx]? = some (.cells #[.int .i64 n.pos, .string ⟨n.tok.text.toArray⟩, .slice none 0 0] 42 (0, 0)) ∧ Below W.heap.size W wx)
  case first =>
    refine wp_region_held_drew (S := (fun w' => w'.heap[w.heap.size]? = some (.cells #[.int .i64 n.tok.kind, .int .i64 n.tok.pos, .string ⟨n.tok.text.toArray⟩, .int .i64 n.tok.int, (.slice (some ⟨g, o, none⟩) n.list.length c), .int .i64 n.takes] 105 (0, 0)))) (by kernel_rfl) (EN0) (fun hHeld => ?_)
    refine wpAnyH_take (i := 0) (v := .agg #[.int .i64 n.tok.kind, .int .i64 n.tok.pos, .string ⟨n.tok.text.toArray⟩, .int .i64 n.tok.int, (.slice (some ⟨g, o, none⟩) n.list.length c), .int .i64 n.takes]) rfl (by kernel_rfl) (by kernel_rfl) (by kernel_rfl) (fun _ _ _ h => h) (Or.inl ⟨by rfl, fun w' hSw => by have h1 : w'.heap[w.heap.size]? = some (.cells #[.int .i64 n.tok.kind, .int .i64 n.tok.pos, .string ⟨n.tok.text.toArray⟩, .int .i64 n.tok.int, (.slice (some ⟨g, o, none⟩) n.list.length c), .int .i64 n.takes] 105 (0, 0)) := hSw; have q0 := ent_cell h1 0 _ rfl; have q1 := ent_cell h1 1 _ rfl; have q2 := ent_cell h1 2 _ rfl; have q3 := ent_cell h1 3 _ rfl; have q4 := ent_cell h1 4 _ rfl; have q5 := ent_cell h1 5 _ rfl; go_simp⟩) hHeld ?_
    refine wpAnyH_take (i := 2) (v := .pointer (some ⟨w.heap.size, 0, none⟩)) rfl (by kernel_rfl) (by kernel_rfl) (by kernel_rfl) (fun _ _ _ h => h) (Or.inl ⟨by rfl, fun w' hSw => by go_simp⟩) hHeld ?_
    refine wpAnyH_take (i := 3) (v := .pointer (some ⟨w.heap.size, 2, none⟩)) rfl (by kernel_rfl) (by kernel_rfl) (by kernel_rfl) (fun _ _ _ h => h) (Or.inl ⟨by rfl, fun w' hSw => by go_simp⟩) hHeld ?_
    refine wpAnyH_take (i := 4) (v := .string ⟨n.tok.text.toArray⟩) rfl (by kernel_rfl) (by kernel_rfl) (by kernel_rfl) (fun _ _ _ h => h) (Or.inl ⟨by rfl, fun w' hSw => by have h1 : w'.heap[w.heap.size]? = some (.cells #[.int .i64 n.tok.kind, .int .i64 n.tok.pos, .string ⟨n.tok.text.toArray⟩, .int .i64 n.tok.int, (.slice (some ⟨g, o, none⟩) n.list.length c), .int .i64 n.takes] 105 (0, 0)) := hSw; have q0 := ent_cell h1 0 _ rfl; have q1 := ent_cell h1 1 _ rfl; have q2 := ent_cell h1 2 _ rfl; have q3 := ent_cell h1 3 _ rfl; have q4 := ent_cell h1 4 _ rfl; have q5 := ent_cell h1 5 _ rfl; go_simp⟩) hHeld ?_
    simp only [Act.put, List.setIfInBounds_toArray, List.set_cons_zero, List.set_cons_succ]
    refine wpAnyH_ready (rs := [1, 6]) (by kernel_rfl) (by simp) ?_
    refine AllReadyH.cons rfl (fun K hK => ?_) (AllReadyH.cons rfl (fun K hK => ?_) AllReadyH.nil)
    · go_simp
      refine (pos_any n (.slice (some ⟨g, o, none⟩) n.list.length c) _).mono ?_
      rintro e w1 ⟨rfl, hb⟩
      have hb' : Below W.heap.size W w1 := ⟨hb.os, hb.tape, hb.output, hb.size, hb.block⟩
      have EN1 := ent_below EN0 hb'
      have hs1 := hb'.size
      clear hb
      refine hK.out _ _ (EN1) (fun hHeld => ?_)
      clear hK K
      refine wpAnyH_take (i := 5) (v := .agg #[.int .i64 n.pos, .string ⟨n.tok.text.toArray⟩, .slice none 0 0]) rfl (by kernel_rfl) (by kernel_rfl) (by kernel_rfl) (fun _ _ _ h => h) (Or.inl ⟨by rfl, fun w' hSw => by go_simp⟩) hHeld ?_
      simp only [Act.put, List.setIfInBounds_toArray, List.set_cons_zero, List.set_cons_succ]
      refine wpAnyH_ready (rs := [6]) (by kernel_rfl) (by simp) ?_
      refine AllReadyH.cons rfl (fun K hK => ?_) AllReadyH.nil
      go_simp
      refine hK.out _ _ (ent_alloc EN1 _) (fun hHeld => ?_)
      clear hK K
      refine wpAnyH_ready (rs := [7]) (by kernel_rfl) (by simp) ?_
      refine AllReadyH.cons rfl (fun K hK => ?_) AllReadyH.nil
      go_simp
      refine hK.out _ _ (ent_alloc EN1 _) (fun hHeld => ?_)
      clear hK K
      refine wpAnyH_done (by kernel_rfl) ?_ _
      go_wp2_with fail
      go_meet
      exact ⟨w1.heap.size, rfl, by omega, ent_new w1 #[.int .i64 n.pos, .string ⟨n.tok.text.toArray⟩, .slice none 0 0] 42, hb'.alloc hs1 _⟩
    · go_simp
      have EN1 : (W.drew.alloc (.cells #[.int .i64 0, .string ⟨#[]⟩, .slice none 0 0] 42)).heap[w.heap.size]? = some (.cells #[.int .i64 n.tok.kind, .int .i64 n.tok.pos, .string ⟨n.tok.text.toArray⟩, .int .i64 n.tok.int, (.slice (some ⟨g, o, none⟩) n.list.length c), .int .i64 n.takes] 105 (0, 0)) := ent_alloc (w := W.drew) EN0 (.cells #[.int .i64 0, .string ⟨#[]⟩, .slice none 0 0] 42)
      have EX0 : (W.drew.alloc (.cells #[.int .i64 0, .string ⟨#[]⟩, .slice none 0 0] 42)).heap[W.heap.size]? = some (.cells #[.int .i64 0, .string ⟨#[]⟩, .slice none 0 0] 42 (0, 0)) := ent_new W.drew #[.int .i64 0, .string ⟨#[]⟩, .slice none 0 0] 42
      refine hK.out _ _ (EN1) (fun hHeld => ?_)
      clear hK K
      refine wpAnyH_ready (rs := [1]) (by kernel_rfl) (by simp) ?_
      refine AllReadyH.cons rfl (fun K hK => ?_) AllReadyH.nil
      go_simp
      refine (pos_any n (.slice (some ⟨g, o, none⟩) n.list.length c) _).mono ?_
      rintro e w1 ⟨rfl, hb⟩
      have EX := ent_below EX0 hb
      have EN2 := ent_below EN1 hb
      have hb' : Below W.heap.size W w1 := ((Below.refl W.heap.size W).drew.alloc (Nat.le_refl _) _).trans (hb.mono (by simp))
      refine hK.out _ _ (EN2) (fun hHeld => ?_)
      clear hK K
      refine wpAnyH_take (i := 5) (v := .agg #[.int .i64 n.pos, .string ⟨n.tok.text.toArray⟩, .slice none 0 0]) rfl (by kernel_rfl) (by kernel_rfl) (by kernel_rfl) (fun _ _ _ h => h) (Or.inl ⟨by rfl, fun w' hSw => by go_simp⟩) hHeld ?_
      simp only [Act.put, List.setIfInBounds_toArray, List.set_cons_zero, List.set_cons_succ]
      have x0 := ent_cell EX 0 _ rfl
      have x1 := ent_cell EX 1 _ rfl
      have x2 := ent_cell EX 2 _ rfl
      have xf := ent_free EX
      refine wpAnyH_ready (rs := [7]) (by kernel_rfl) (by simp) ?_
      refine AllReadyH.cons rfl (fun K hK => ?_) AllReadyH.nil
      go_simp
      refine hK.out _ _ (ent_other (ent_other (ent_other EN2 W.heap.size 0 _ (by omega)) W.heap.size 1 _ (by omega)) W.heap.size 2 _ (by omega)) (fun hHeld => ?_)
      clear hK K
      refine wpAnyH_done (by kernel_rfl) ?_ _
      go_wp2_with fail
      go_meet
      have EX2 := ent_set (ent_set (ent_set EX 0 (.int .i64 n.pos)) 1 (.string ⟨n.tok.text.toArray⟩)) 2 (.slice none 0 0)
      exact ⟨W.heap.size, rfl, by omega, EX2, ((hb'.setCell (Nat.le_refl _) _).setCell (Nat.le_refl _) _).setCell (Nat.le_refl _) _⟩
  case rest =>
    obtain ⟨gx, rfl, hgx, EX, hB⟩ := hcut
    have EN := Lib.hid ((hB.block _ (by omega)).trans EN0)
    have ER := Lib.hid ((hB.block _ (by omega)).trans ER0)
    replace EX := Lib.hid EX
    have HB := Lib.hid (HB0.trans (hB.mono HB0.size))
    clear EN0 ER0 HB0 hB
    have cf := ent_free EN.out
    have c0 := ent_cell EN.out 0 _ rfl
    have c1 := ent_cell EN.out 1 _ rfl
    have c2 := ent_cell EN.out 2 _ rfl
    have c3 := ent_cell EN.out 3 _ rfl
    have c4 := ent_cell EN.out 4 _ rfl
    have c5 := ent_cell EN.out 5 _ rfl
    go_wp2_with fail
    refine (isCon_eq n (.slice (some ⟨g, o, none⟩) n.list.length c) _ false hc).mono ?_
    rintro e w1 ⟨rfl, hb⟩
    replace EN := Lib.hid (ent_below EN.out hb)
    replace ER := Lib.hid (ent_below ER.out hb)
    replace EX := Lib.hid (ent_below EX.out hb)
    replace HB := Lib.hid (HB.out.trans (hb.mono HB.out.size))
    clear hb
    clear cf c0 c1 c2 c3 c4 c5
    have cf := ent_free EN.out
    have c0 := ent_cell EN.out 0 _ rfl
    have c1 := ent_cell EN.out 1 _ rfl
    have c2 := ent_cell EN.out 2 _ rfl
    have c3 := ent_cell EN.out 3 _ rfl
    have c4 := ent_cell EN.out 4 _ rfl
    have c5 := ent_cell EN.out 5 _ rfl
    go_wp2_with fail
    refine (isName_eq n (.slice (some ⟨g, o, none⟩) n.list.length c) _ false hn).mono ?_
    rintro e w1 ⟨rfl, hb⟩
    replace EN := Lib.hid (ent_below EN.out hb)
    replace ER := Lib.hid (ent_below ER.out hb)
    replace EX := Lib.hid (ent_below EX.out hb)
    replace HB := Lib.hid (HB.out.trans (hb.mono HB.out.size))
    clear hb
    clear cf c0 c1 c2 c3 c4 c5
    have cf := ent_free EN.out
    have c0 := ent_cell EN.out 0 _ rfl
    have c1 := ent_cell EN.out 1 _ rfl
    have c2 := ent_cell EN.out 2 _ rfl
    have c3 := ent_cell EN.out 3 _ rfl
    have c4 := ent_cell EN.out 4 _ rfl
    have c5 := ent_cell EN.out 5 _ rfl
    go_wp2_with fail
    refine (isList_eq n (.slice (some ⟨g, o, none⟩) n.list.length c) _ true hl).mono ?_
    rintro e w1 ⟨rfl, hb⟩
    replace EN := Lib.hid (ent_below EN.out hb)
    replace ER := Lib.hid (ent_below ER.out hb)
    replace EX := Lib.hid (ent_below EX.out hb)
    replace HB := Lib.hid (HB.out.trans (hb.mono HB.out.size))
    clear hb
    clear cf c0 c1 c2 c3 c4 c5
    have cf := ent_free EN.out
    have c0 := ent_cell EN.out 0 _ rfl
    have c1 := ent_cell EN.out 1 _ rfl
    have c2 := ent_cell EN.out 2 _ rfl
    have c3 := ent_cell EN.out 3 _ rfl
    have c4 := ent_cell EN.out 4 _ rfl
    have c5 := ent_cell EN.out 5 _ rfl
    go_wp2_with fail
    refine (nodes_okI (j + 1) n (.slice (some ⟨g, o, none⟩) n.list.length c) 2 9 2 9 _ rfl rfl (HK.out.below HB.out) (by omega) (by omega) l HP.out).mono ?_
    rintro e w1 ⟨rfl, hb⟩
    replace EN := Lib.hid (ent_below EN.out hb)
    replace ER := Lib.hid (ent_below ER.out hb)
    replace EX := Lib.hid (ent_below EX.out hb)
    replace HB := Lib.hid (HB.out.trans (hb.mono HB.out.size))
    clear hb
    clear cf c0 c1 c2 c3 c4 c5
    have cf := ent_free EN.out
    have c0 := ent_cell EN.out 0 _ rfl
    have c1 := ent_cell EN.out 1 _ rfl
    have c2 := ent_cell EN.out 2 _ rfl
    have c3 := ent_cell EN.out 3 _ rfl
    have c4 := ent_cell EN.out 4 _ rfl
    have c5 := ent_cell EN.out 5 _ rfl
    go_wp2_with fail
    refine (word_eq (j + 1) n (.slice (some ⟨g, o, none⟩) n.list.length c) _ wd (HK.out.below HB.out) HWD.out).mono ?_
    rintro e w1 ⟨rfl, hb⟩
    replace EN := Lib.hid (ent_below EN.out hb)
    replace ER := Lib.hid (ent_below ER.out hb)
    replace EX := Lib.hid (ent_below EX.out hb)
    replace HB := Lib.hid (HB.out.trans (hb.mono HB.out.size))
    clear hb
    clear cf c0 c1 c2 c3 c4 c5
    have cf := ent_free EN.out
    have c0 := ent_cell EN.out 0 _ rfl
    have c1 := ent_cell EN.out 1 _ rfl
    have c2 := ent_cell EN.out 2 _ rfl
    have c3 := ent_cell EN.out 3 _ rfl
    have c4 := ent_cell EN.out 4 _ rfl
    have c5 := ent_cell EN.out 5 _ rfl
    have xf := ent_free EX.out
    have x0 := ent_cell EX.out 0 _ rfl
    have x1 := ent_cell EX.out 1 _ rfl
    have x2 := ent_cell EX.out 2 _ rfl
    have xs1 := Lib.hid (ent_set EX.out 1 (.string ⟨wd.toArray⟩)); have ens := Lib.hid (ent_other EN.out gx 1 (.string ⟨wd.toArray⟩) (by omega)); have ers := Lib.hid (ent_other ER.out gx 1 (.string ⟨wd.toArray⟩) (by omega)); have hbs := Lib.hid (HB.out.setCell (p := ⟨gx, 1, none⟩) (by simp; omega) (.string ⟨wd.toArray⟩))
    go_wp2_with fail
    replace EX := xs1; replace EN := ens; replace ER := ers; replace HB := hbs
    refine (hold_okI (j + 1) n (.slice (some ⟨g, o, none⟩) n.list.length c) 3 3 3 3 _ rfl rfl (HK.out.below HB.out) (by omega) (by omega) hh).mono ?_
    rintro e w1 ⟨rfl, hb⟩
    replace EN := Lib.hid (ent_below EN.out hb)
    replace ER := Lib.hid (ent_below ER.out hb)
    replace EX := Lib.hid (ent_below EX.out hb)
    replace HB := Lib.hid (HB.out.trans (hb.mono HB.out.size))
    clear hb
    have hcall := fun u (hu : KidsAt u (j + 1) (.slice (some ⟨g, o, none⟩) n.list.length c) n.list) => eachTypeE_any 127 (fun _ _ => by kernel_rfl) (Px.typeE f) (TypeAt f) (typeAt_shape f) (j + 1) _ (n.list.drop 1) u (kids_drop' hu 1 (o + 6) (by omega) hc1 (by omega) rfl) (by rw [List.length_drop]; omega) (fun m _ j' kv' w1 hj _ hk' => HIH.out m kv' j' w1 hk' (by omega))
    have HC := Lib.hid hcall; clear hcall
    go_wp2_with fail
    refine (HC.out _ (HK.out.below HB.out)).mono ?_
    clear HC
    intro e w2 ht
    cases hr : Px.each (Px.typeE f) (n.list.drop 1) with
    | error p =>
      obtain ⟨rfl, hb⟩ := toldN_bad ht hr
      have ho : out = .error p := by rw [← HOUT.out, ← List.drop_one, hr]
      subst ho
      exact ⟨rfl, HB.out.trans (hb.mono HB.out.size), rfl⟩
    | ok xs =>
      obtain ⟨av, rfl, hnew, hb⟩ := toldN_ok ht hr
      obtain ⟨pv, cv, rfl⟩ := hnew.now.len
      have ho : out = .ok (.mk n.pos wd xs) := by rw [← HOUT.out, ← List.drop_one, hr]
      subst ho
      have hgs := ent_lt EX.out
      have hws := HB.out.size
      have Hnew := Lib.hid hnew; clear hnew ht
      replace EX := Lib.hid (ent_below EX.out hb)
      replace ER := Lib.hid (ent_below ER.out hb)
      replace HB := Lib.hid (HB.out.trans (hb.mono HB.out.size))
      clear hb hr
      have xf := ent_free EX.out
      have x0 := ent_cell EX.out 0 _ rfl
      have x1 := ent_cell EX.out 1 _ rfl
      have x2 := ent_cell EX.out 2 _ rfl
      have rf := ent_free ER.out
      have r0 := ent_cell ER.out 0 _ rfl
      have r1 := ent_cell ER.out 1 _ rfl
      have r2 := ent_cell ER.out 2 _ rfl
      go_wp2_with fail
      refine bodyPost_ret (v := .agg #[.int .i64 n.pos, .string ⟨(wd).toArray⟩, .slice pv xs.length cv]) (by simp [results, Tryz.results127, go_sem, Px.Node.text, r0, r1, r2]) rfl ?_
      refine ⟨(((HB.out.setCell (by simp; omega) _).setCell (by simp) _).setCell (by simp) _).setCell (by simp) _, _, rfl, fun u hu => ⟨_, rfl, ?_⟩⟩
      exact New.stay (w := w) Hnew.out (by omega) ((((Stay.refl _ _).set gx 2 _ hgs).set _ 0 _ (by omega)).set _ 1 _ (by omega) |>.set _ 2 _ (by omega)) u hu

set_option maxHeartbeats 2000000 in
set_option maxRecDepth 100000 in
theorem typeE_name_bad (k : Nat) (n : Px.Node) (lv : Value) (w : World) (hc : Px.isConB n = false) (hn : Px.isNameB n = false) (hl : Px.isListB n = true) (hk : KidsAt w k lv n.list) (l : List Px.Node) (hp : Px.nodes n 2 9 = .ok l) (wd : List UInt8) (hwd : Px.word n = wd) (hwb : (wd == [45, 62]) = false) (m : Px.Node) (hm : n.list[0]? = some m) (p : Nat) (hh : Px.conName m = .error p) :
    Calls Tryz.prog 127 #[nodeV n lv] w (fun e w' => e = wrongAt p ∧ Below w.heap.size w w') := by
  obtain ⟨hle, h2, h9, _⟩ := nodes_is hp
  rw [hle] at h2 h9
  obtain ⟨j, g, o, c, rfl, rfl, h3, h4, h5⟩ := hk.some (by intro e; rw [e] at h2; simp at h2)
  have hc1 : ¬ c = 1 := by omega
  obtain ⟨kv, hat, hkm⟩ := h5 0 m hm
  rw [Nat.zero_mul, Nat.add_zero] at hat
  have HAT := Lib.hid hat; have HK := Lib.hid hk; have HP := Lib.hid hp
  have HM := Lib.hid hm
  clear h5 hat hkm hk hp hle hm
  have HWD := Lib.hid hwd; clear hwd
  go_enter Tryz.func127, Tryz.ntmps127
  unfold nodeV
  go_upto_region 1 with fail
  have EN0 := ent_alloc (ent_new w #[.int .i64 n.tok.kind, .int .i64 n.tok.pos, .string ⟨n.tok.text.toArray⟩, .int .i64 n.tok.int, (.slice (some ⟨g, o, none⟩) n.list.length c), .int .i64 n.takes] 105) (.cells #[.int .i64 0, .string ⟨#[]⟩, .slice none 0 0] 42)
  have ER0 := ent_new (w.alloc (.cells #[.int .i64 n.tok.kind, .int .i64 n.tok.pos, .string ⟨n.tok.text.toArray⟩, .int .i64 n.tok.int, (.slice (some ⟨g, o, none⟩) n.list.length c), .int .i64 n.takes] 105)) #[.int .i64 0, .string ⟨#[]⟩, .slice none 0 0] 42
  rw [World.size_alloc] at ER0
  have HB0 : Below w.heap.size w ((w.alloc (.cells #[.int .i64 n.tok.kind, .int .i64 n.tok.pos, .string ⟨n.tok.text.toArray⟩, .int .i64 n.tok.int, (.slice (some ⟨g, o, none⟩) n.list.length c), .int .i64 n.takes] 105)).alloc (.cells #[.int .i64 0, .string ⟨#[]⟩, .slice none 0 0] 42)) := ((Below.refl _ _).alloc (Nat.le_refl _) _).alloc (by simp) _
  have hs0 : w.heap.size + 1 < ((w.alloc (.cells #[.int .i64 n.tok.kind, .int .i64 n.tok.pos, .string ⟨n.tok.text.toArray⟩, .int .i64 n.tok.int, (.slice (some ⟨g, o, none⟩) n.list.length c), .int .i64 n.takes] 105)).alloc (.cells #[.int .i64 0, .string ⟨#[]⟩, .slice none 0 0] 42)).heap.size := by simp
  generalize ((w.alloc (.cells #[.int .i64 n.tok.kind, .int .i64 n.tok.pos, .string ⟨n.tok.text.toArray⟩, .int .i64 n.tok.int, (.slice (some ⟨g, o, none⟩) n.list.length c), .int .i64 n.takes] 105)).alloc (.cells #[.int .i64 0, .string ⟨#[]⟩, .slice none 0 0] 42)) = W at *
  go_cut [3] (fun s3 wx => ∃ gx : Nat, s3 = .pointer (some ⟨gx, 0, none⟩) ∧ w.heap.size + 1 < gx ∧ wx.heap[gx]? = some (.cells #[.int .i64 n.pos, .string ⟨n.tok.text.toArray⟩, .slice none 0 0] 42 (0, 0)) ∧ Below W.heap.size W wx)
  case first =>
    refine wp_region_held_drew (S := (fun w' => w'.heap[w.heap.size]? = some (.cells #[.int .i64 n.tok.kind, .int .i64 n.tok.pos, .string ⟨n.tok.text.toArray⟩, .int .i64 n.tok.int, (.slice (some ⟨g, o, none⟩) n.list.length c), .int .i64 n.takes] 105 (0, 0)))) (by kernel_rfl) (EN0) (fun hHeld => ?_)
    refine wpAnyH_take (i := 0) (v := .agg #[.int .i64 n.tok.kind, .int .i64 n.tok.pos, .string ⟨n.tok.text.toArray⟩, .int .i64 n.tok.int, (.slice (some ⟨g, o, none⟩) n.list.length c), .int .i64 n.takes]) rfl (by kernel_rfl) (by kernel_rfl) (by kernel_rfl) (fun _ _ _ h => h) (Or.inl ⟨by rfl, fun w' hSw => by have h1 : w'.heap[w.heap.size]? = some (.cells #[.int .i64 n.tok.kind, .int .i64 n.tok.pos, .string ⟨n.tok.text.toArray⟩, .int .i64 n.tok.int, (.slice (some ⟨g, o, none⟩) n.list.length c), .int .i64 n.takes] 105 (0, 0)) := hSw; have q0 := ent_cell h1 0 _ rfl; have q1 := ent_cell h1 1 _ rfl; have q2 := ent_cell h1 2 _ rfl; have q3 := ent_cell h1 3 _ rfl; have q4 := ent_cell h1 4 _ rfl; have q5 := ent_cell h1 5 _ rfl; go_simp⟩) hHeld ?_
    refine wpAnyH_take (i := 2) (v := .pointer (some ⟨w.heap.size, 0, none⟩)) rfl (by kernel_rfl) (by kernel_rfl) (by kernel_rfl) (fun _ _ _ h => h) (Or.inl ⟨by rfl, fun w' hSw => by go_simp⟩) hHeld ?_
    refine wpAnyH_take (i := 3) (v := .pointer (some ⟨w.heap.size, 2, none⟩)) rfl (by kernel_rfl) (by kernel_rfl) (by kernel_rfl) (fun _ _ _ h => h) (Or.inl ⟨by rfl, fun w' hSw => by go_simp⟩) hHeld ?_
    refine wpAnyH_take (i := 4) (v := .string ⟨n.tok.text.toArray⟩) rfl (by kernel_rfl) (by kernel_rfl) (by kernel_rfl) (fun _ _ _ h => h) (Or.inl ⟨by rfl, fun w' hSw => by have h1 : w'.heap[w.heap.size]? = some (.cells #[.int .i64 n.tok.kind, .int .i64 n.tok.pos, .string ⟨n.tok.text.toArray⟩, .int .i64 n.tok.int, (.slice (some ⟨g, o, none⟩) n.list.length c), .int .i64 n.takes] 105 (0, 0)) := hSw; have q0 := ent_cell h1 0 _ rfl; have q1 := ent_cell h1 1 _ rfl; have q2 := ent_cell h1 2 _ rfl; have q3 := ent_cell h1 3 _ rfl; have q4 := ent_cell h1 4 _ rfl; have q5 := ent_cell h1 5 _ rfl; go_simp⟩) hHeld ?_
    simp only [Act.put, List.setIfInBounds_toArray, List.set_cons_zero, List.set_cons_succ]
    refine wpAnyH_ready (rs := [1, 6]) (by kernel_rfl) (by simp) ?_
    refine AllReadyH.cons rfl (fun K hK => ?_) (AllReadyH.cons rfl (fun K hK => ?_) AllReadyH.nil)
    · go_simp
      refine (pos_any n (.slice (some ⟨g, o, none⟩) n.list.length c) _).mono ?_
      rintro e w1 ⟨rfl, hb⟩
      have hb' : Below W.heap.size W w1 := ⟨hb.os, hb.tape, hb.output, hb.size, hb.block⟩
      have EN1 := ent_below EN0 hb'
      have hs1 := hb'.size
      clear hb
      refine hK.out _ _ (EN1) (fun hHeld => ?_)
      clear hK K
      refine wpAnyH_take (i := 5) (v := .agg #[.int .i64 n.pos, .string ⟨n.tok.text.toArray⟩, .slice none 0 0]) rfl (by kernel_rfl) (by kernel_rfl) (by kernel_rfl) (fun _ _ _ h => h) (Or.inl ⟨by rfl, fun w' hSw => by go_simp⟩) hHeld ?_
      simp only [Act.put, List.setIfInBounds_toArray, List.set_cons_zero, List.set_cons_succ]
      refine wpAnyH_ready (rs := [6]) (by kernel_rfl) (by simp) ?_
      refine AllReadyH.cons rfl (fun K hK => ?_) AllReadyH.nil
      go_simp
      refine hK.out _ _ (ent_alloc EN1 _) (fun hHeld => ?_)
      clear hK K
      refine wpAnyH_ready (rs := [7]) (by kernel_rfl) (by simp) ?_
      refine AllReadyH.cons rfl (fun K hK => ?_) AllReadyH.nil
      go_simp
      refine hK.out _ _ (ent_alloc EN1 _) (fun hHeld => ?_)
      clear hK K
      refine wpAnyH_done (by kernel_rfl) ?_ _
      go_wp2_with fail
      go_meet
      exact ⟨w1.heap.size, rfl, by omega, ent_new w1 #[.int .i64 n.pos, .string ⟨n.tok.text.toArray⟩, .slice none 0 0] 42, hb'.alloc hs1 _⟩
    · go_simp
      have EN1 : (W.drew.alloc (.cells #[.int .i64 0, .string ⟨#[]⟩, .slice none 0 0] 42)).heap[w.heap.size]? = some (.cells #[.int .i64 n.tok.kind, .int .i64 n.tok.pos, .string ⟨n.tok.text.toArray⟩, .int .i64 n.tok.int, (.slice (some ⟨g, o, none⟩) n.list.length c), .int .i64 n.takes] 105 (0, 0)) := ent_alloc (w := W.drew) EN0 (.cells #[.int .i64 0, .string ⟨#[]⟩, .slice none 0 0] 42)
      have EX0 : (W.drew.alloc (.cells #[.int .i64 0, .string ⟨#[]⟩, .slice none 0 0] 42)).heap[W.heap.size]? = some (.cells #[.int .i64 0, .string ⟨#[]⟩, .slice none 0 0] 42 (0, 0)) := ent_new W.drew #[.int .i64 0, .string ⟨#[]⟩, .slice none 0 0] 42
      refine hK.out _ _ (EN1) (fun hHeld => ?_)
      clear hK K
      refine wpAnyH_ready (rs := [1]) (by kernel_rfl) (by simp) ?_
      refine AllReadyH.cons rfl (fun K hK => ?_) AllReadyH.nil
      go_simp
      refine (pos_any n (.slice (some ⟨g, o, none⟩) n.list.length c) _).mono ?_
      rintro e w1 ⟨rfl, hb⟩
      have EX := ent_below EX0 hb
      have EN2 := ent_below EN1 hb
      have hb' : Below W.heap.size W w1 := ((Below.refl W.heap.size W).drew.alloc (Nat.le_refl _) _).trans (hb.mono (by simp))
      refine hK.out _ _ (EN2) (fun hHeld => ?_)
      clear hK K
      refine wpAnyH_take (i := 5) (v := .agg #[.int .i64 n.pos, .string ⟨n.tok.text.toArray⟩, .slice none 0 0]) rfl (by kernel_rfl) (by kernel_rfl) (by kernel_rfl) (fun _ _ _ h => h) (Or.inl ⟨by rfl, fun w' hSw => by go_simp⟩) hHeld ?_
      simp only [Act.put, List.setIfInBounds_toArray, List.set_cons_zero, List.set_cons_succ]
      have x0 := ent_cell EX 0 _ rfl
      have x1 := ent_cell EX 1 _ rfl
      have x2 := ent_cell EX 2 _ rfl
      have xf := ent_free EX
      refine wpAnyH_ready (rs := [7]) (by kernel_rfl) (by simp) ?_
      refine AllReadyH.cons rfl (fun K hK => ?_) AllReadyH.nil
      go_simp
      refine hK.out _ _ (ent_other (ent_other (ent_other EN2 W.heap.size 0 _ (by omega)) W.heap.size 1 _ (by omega)) W.heap.size 2 _ (by omega)) (fun hHeld => ?_)
      clear hK K
      refine wpAnyH_done (by kernel_rfl) ?_ _
      go_wp2_with fail
      go_meet
      have EX2 := ent_set (ent_set (ent_set EX 0 (.int .i64 n.pos)) 1 (.string ⟨n.tok.text.toArray⟩)) 2 (.slice none 0 0)
      exact ⟨W.heap.size, rfl, by omega, EX2, ((hb'.setCell (Nat.le_refl _) _).setCell (Nat.le_refl _) _).setCell (Nat.le_refl _) _⟩
  case rest =>
    obtain ⟨gx, rfl, hgx, EX, hB⟩ := hcut
    have EN := Lib.hid ((hB.block _ (by omega)).trans EN0)
    have ER := Lib.hid ((hB.block _ (by omega)).trans ER0)
    replace EX := Lib.hid EX
    have HB := Lib.hid (HB0.trans (hB.mono HB0.size))
    clear EN0 ER0 HB0 hB
    have cf := ent_free EN.out
    have c0 := ent_cell EN.out 0 _ rfl
    have c1 := ent_cell EN.out 1 _ rfl
    have c2 := ent_cell EN.out 2 _ rfl
    have c3 := ent_cell EN.out 3 _ rfl
    have c4 := ent_cell EN.out 4 _ rfl
    have c5 := ent_cell EN.out 5 _ rfl
    go_wp2_with fail
    refine (isCon_eq n (.slice (some ⟨g, o, none⟩) n.list.length c) _ false hc).mono ?_
    rintro e w1 ⟨rfl, hb⟩
    replace EN := Lib.hid (ent_below EN.out hb)
    replace ER := Lib.hid (ent_below ER.out hb)
    replace EX := Lib.hid (ent_below EX.out hb)
    replace HB := Lib.hid (HB.out.trans (hb.mono HB.out.size))
    clear hb
    clear cf c0 c1 c2 c3 c4 c5
    have cf := ent_free EN.out
    have c0 := ent_cell EN.out 0 _ rfl
    have c1 := ent_cell EN.out 1 _ rfl
    have c2 := ent_cell EN.out 2 _ rfl
    have c3 := ent_cell EN.out 3 _ rfl
    have c4 := ent_cell EN.out 4 _ rfl
    have c5 := ent_cell EN.out 5 _ rfl
    go_wp2_with fail
    refine (isName_eq n (.slice (some ⟨g, o, none⟩) n.list.length c) _ false hn).mono ?_
    rintro e w1 ⟨rfl, hb⟩
    replace EN := Lib.hid (ent_below EN.out hb)
    replace ER := Lib.hid (ent_below ER.out hb)
    replace EX := Lib.hid (ent_below EX.out hb)
    replace HB := Lib.hid (HB.out.trans (hb.mono HB.out.size))
    clear hb
    clear cf c0 c1 c2 c3 c4 c5
    have cf := ent_free EN.out
    have c0 := ent_cell EN.out 0 _ rfl
    have c1 := ent_cell EN.out 1 _ rfl
    have c2 := ent_cell EN.out 2 _ rfl
    have c3 := ent_cell EN.out 3 _ rfl
    have c4 := ent_cell EN.out 4 _ rfl
    have c5 := ent_cell EN.out 5 _ rfl
    go_wp2_with fail
    refine (isList_eq n (.slice (some ⟨g, o, none⟩) n.list.length c) _ true hl).mono ?_
    rintro e w1 ⟨rfl, hb⟩
    replace EN := Lib.hid (ent_below EN.out hb)
    replace ER := Lib.hid (ent_below ER.out hb)
    replace EX := Lib.hid (ent_below EX.out hb)
    replace HB := Lib.hid (HB.out.trans (hb.mono HB.out.size))
    clear hb
    clear cf c0 c1 c2 c3 c4 c5
    have cf := ent_free EN.out
    have c0 := ent_cell EN.out 0 _ rfl
    have c1 := ent_cell EN.out 1 _ rfl
    have c2 := ent_cell EN.out 2 _ rfl
    have c3 := ent_cell EN.out 3 _ rfl
    have c4 := ent_cell EN.out 4 _ rfl
    have c5 := ent_cell EN.out 5 _ rfl
    go_wp2_with fail
    refine (nodes_okI (j + 1) n (.slice (some ⟨g, o, none⟩) n.list.length c) 2 9 2 9 _ rfl rfl (HK.out.below HB.out) (by omega) (by omega) l HP.out).mono ?_
    rintro e w1 ⟨rfl, hb⟩
    replace EN := Lib.hid (ent_below EN.out hb)
    replace ER := Lib.hid (ent_below ER.out hb)
    replace EX := Lib.hid (ent_below EX.out hb)
    replace HB := Lib.hid (HB.out.trans (hb.mono HB.out.size))
    clear hb
    clear cf c0 c1 c2 c3 c4 c5
    have cf := ent_free EN.out
    have c0 := ent_cell EN.out 0 _ rfl
    have c1 := ent_cell EN.out 1 _ rfl
    have c2 := ent_cell EN.out 2 _ rfl
    have c3 := ent_cell EN.out 3 _ rfl
    have c4 := ent_cell EN.out 4 _ rfl
    have c5 := ent_cell EN.out 5 _ rfl
    go_wp2_with fail
    refine (word_eq (j + 1) n (.slice (some ⟨g, o, none⟩) n.list.length c) _ wd (HK.out.below HB.out) HWD.out).mono ?_
    rintro e w1 ⟨rfl, hb⟩
    replace EN := Lib.hid (ent_below EN.out hb)
    replace ER := Lib.hid (ent_below ER.out hb)
    replace EX := Lib.hid (ent_below EX.out hb)
    replace HB := Lib.hid (HB.out.trans (hb.mono HB.out.size))
    clear hb
    clear cf c0 c1 c2 c3 c4 c5
    have cf := ent_free EN.out
    have c0 := ent_cell EN.out 0 _ rfl
    have c1 := ent_cell EN.out 1 _ rfl
    have c2 := ent_cell EN.out 2 _ rfl
    have c3 := ent_cell EN.out 3 _ rfl
    have c4 := ent_cell EN.out 4 _ rfl
    have c5 := ent_cell EN.out 5 _ rfl
    have xf := ent_free EX.out
    have x0 := ent_cell EX.out 0 _ rfl
    have x1 := ent_cell EX.out 1 _ rfl
    have x2 := ent_cell EX.out 2 _ rfl
    have xs1 := Lib.hid (ent_set EX.out 1 (.string ⟨wd.toArray⟩)); have ens := Lib.hid (ent_other EN.out gx 1 (.string ⟨wd.toArray⟩) (by omega)); have ers := Lib.hid (ent_other ER.out gx 1 (.string ⟨wd.toArray⟩) (by omega)); have hbs := Lib.hid (HB.out.setCell (p := ⟨gx, 1, none⟩) (by simp; omega) (.string ⟨wd.toArray⟩))
    obtain ⟨m0, m1, m2, m3, m4, m5⟩ := HAT.out.below hbs.out
    go_wp2_with fail
    replace EX := xs1; replace EN := ens; replace ER := ers; replace HB := hbs
    refine (conName_bad m kv _ p hh).mono ?_
    rintro e w1 ⟨rfl, hb⟩
    replace HB := Lib.hid (HB.out.trans (hb.mono HB.out.size))
    clear hb
    exact ⟨rfl, rfl, HB.out⟩

set_option maxHeartbeats 2000000 in
set_option maxRecDepth 100000 in
theorem typeE_name_ok (k : Nat) (f : Nat) (ih : ∀ (n : Px.Node) (lv : Value) (k : Nat) (w : World), KidsAt w k lv n.list → k < f → Calls Tryz.prog 127 #[nodeV n lv] w (ToldN w (TypeAt f) (Px.typeE f n))) (hkf : k ≤ f) (n : Px.Node) (lv : Value) (w : World) (hc : Px.isConB n = false) (hn : Px.isNameB n = false) (hl : Px.isListB n = true) (hk : KidsAt w k lv n.list) (l : List Px.Node) (hp : Px.nodes n 2 9 = .ok l) (wd : List UInt8) (hwd : Px.word n = wd) (hwb : (wd == [45, 62]) = false) (m : Px.Node) (hm : n.list[0]? = some m) (nm : List UInt8) (hh : Px.conName m = .ok nm) (out : Px.R Px.TypeE) (hout : (match Px.each (Px.typeE f) n.list.tail with | .error p => .error p | .ok xs => .ok (.mk n.pos nm xs)) = out) :
    Calls Tryz.prog 127 #[nodeV n lv] w (ToldN w (TypeAt (f + 1)) out) := by
  obtain ⟨hle, h2, h9, _⟩ := nodes_is hp
  rw [hle] at h2 h9
  obtain ⟨j, g, o, c, rfl, rfl, h3, h4, h5⟩ := hk.some (by intro e; rw [e] at h2; simp at h2)
  have hc1 : ¬ c = 1 := by omega
  obtain ⟨kv, hat, hkm⟩ := h5 0 m hm
  rw [Nat.zero_mul, Nat.add_zero] at hat
  have HAT := Lib.hid hat; have HK := Lib.hid hk; have HP := Lib.hid hp
  have HM := Lib.hid hm
  clear h5 hat hkm hk hp hle hm
  have HWD := Lib.hid hwd; clear hwd
  have HIH := Lib.hid ih; have HOUT := Lib.hid hout; clear ih hout
  go_enter Tryz.func127, Tryz.ntmps127
  unfold nodeV
  go_upto_region 1 with fail
  have EN0 := ent_alloc (ent_new w #[.int .i64 n.tok.kind, .int .i64 n.tok.pos, .string ⟨n.tok.text.toArray⟩, .int .i64 n.tok.int, (.slice (some ⟨g, o, none⟩) n.list.length c), .int .i64 n.takes] 105) (.cells #[.int .i64 0, .string ⟨#[]⟩, .slice none 0 0] 42)
  have ER0 := ent_new (w.alloc (.cells #[.int .i64 n.tok.kind, .int .i64 n.tok.pos, .string ⟨n.tok.text.toArray⟩, .int .i64 n.tok.int, (.slice (some ⟨g, o, none⟩) n.list.length c), .int .i64 n.takes] 105)) #[.int .i64 0, .string ⟨#[]⟩, .slice none 0 0] 42
  rw [World.size_alloc] at ER0
  have HB0 : Below w.heap.size w ((w.alloc (.cells #[.int .i64 n.tok.kind, .int .i64 n.tok.pos, .string ⟨n.tok.text.toArray⟩, .int .i64 n.tok.int, (.slice (some ⟨g, o, none⟩) n.list.length c), .int .i64 n.takes] 105)).alloc (.cells #[.int .i64 0, .string ⟨#[]⟩, .slice none 0 0] 42)) := ((Below.refl _ _).alloc (Nat.le_refl _) _).alloc (by simp) _
  have hs0 : w.heap.size + 1 < ((w.alloc (.cells #[.int .i64 n.tok.kind, .int .i64 n.tok.pos, .string ⟨n.tok.text.toArray⟩, .int .i64 n.tok.int, (.slice (some ⟨g, o, none⟩) n.list.length c), .int .i64 n.takes] 105)).alloc (.cells #[.int .i64 0, .string ⟨#[]⟩, .slice none 0 0] 42)).heap.size := by simp
  generalize ((w.alloc (.cells #[.int .i64 n.tok.kind, .int .i64 n.tok.pos, .string ⟨n.tok.text.toArray⟩, .int .i64 n.tok.int, (.slice (some ⟨g, o, none⟩) n.list.length c), .int .i64 n.takes] 105)).alloc (.cells #[.int .i64 0, .string ⟨#[]⟩, .slice none 0 0] 42)) = W at *
  go_cut [3] (fun s3 wx => ∃ gx : Nat, s3 = .pointer (some ⟨gx, 0, none⟩) ∧ w.heap.size + 1 < gx ∧ wx.heap[gx]? = some (.cells #[.int .i64 n.pos, .string ⟨n.tok.text.toArray⟩, .slice none 0 0] 42 (0, 0)) ∧ Below W.heap.size W wx)
  case first =>
    refine wp_region_held_drew (S := (fun w' => w'.heap[w.heap.size]? = some (.cells #[.int .i64 n.tok.kind, .int .i64 n.tok.pos, .string ⟨n.tok.text.toArray⟩, .int .i64 n.tok.int, (.slice (some ⟨g, o, none⟩) n.list.length c), .int .i64 n.takes] 105 (0, 0)))) (by kernel_rfl) (EN0) (fun hHeld => ?_)
    refine wpAnyH_take (i := 0) (v := .agg #[.int .i64 n.tok.kind, .int .i64 n.tok.pos, .string ⟨n.tok.text.toArray⟩, .int .i64 n.tok.int, (.slice (some ⟨g, o, none⟩) n.list.length c), .int .i64 n.takes]) rfl (by kernel_rfl) (by kernel_rfl) (by kernel_rfl) (fun _ _ _ h => h) (Or.inl ⟨by rfl, fun w' hSw => by have h1 : w'.heap[w.heap.size]? = some (.cells #[.int .i64 n.tok.kind, .int .i64 n.tok.pos, .string ⟨n.tok.text.toArray⟩, .int .i64 n.tok.int, (.slice (some ⟨g, o, none⟩) n.list.length c), .int .i64 n.takes] 105 (0, 0)) := hSw; have q0 := ent_cell h1 0 _ rfl; have q1 := ent_cell h1 1 _ rfl; have q2 := ent_cell h1 2 _ rfl; have q3 := ent_cell h1 3 _ rfl; have q4 := ent_cell h1 4 _ rfl; have q5 := ent_cell h1 5 _ rfl; go_simp⟩) hHeld ?_
    refine wpAnyH_take (i := 2) (v := .pointer (some ⟨w.heap.size, 0, none⟩)) rfl (by kernel_rfl) (by kernel_rfl) (by kernel_rfl) (fun _ _ _ h => h) (Or.inl ⟨by rfl, fun w' hSw => by go_simp⟩) hHeld ?_
    refine wpAnyH_take (i := 3) (v := .pointer (some ⟨w.heap.size, 2, none⟩)) rfl (by kernel_rfl) (by kernel_rfl) (by kernel_rfl) (fun _ _ _ h => h) (Or.inl ⟨by rfl, fun w' hSw => by go_simp⟩) hHeld ?_
    refine wpAnyH_take (i := 4) (v := .string ⟨n.tok.text.toArray⟩) rfl (by kernel_rfl) (by kernel_rfl) (by kernel_rfl) (fun _ _ _ h => h) (Or.inl ⟨by rfl, fun w' hSw => by have h1 : w'.heap[w.heap.size]? = some (.cells #[.int .i64 n.tok.kind, .int .i64 n.tok.pos, .string ⟨n.tok.text.toArray⟩, .int .i64 n.tok.int, (.slice (some ⟨g, o, none⟩) n.list.length c), .int .i64 n.takes] 105 (0, 0)) := hSw; have q0 := ent_cell h1 0 _ rfl; have q1 := ent_cell h1 1 _ rfl; have q2 := ent_cell h1 2 _ rfl; have q3 := ent_cell h1 3 _ rfl; have q4 := ent_cell h1 4 _ rfl; have q5 := ent_cell h1 5 _ rfl; go_simp⟩) hHeld ?_
    simp only [Act.put, List.setIfInBounds_toArray, List.set_cons_zero, List.set_cons_succ]
    refine wpAnyH_ready (rs := [1, 6]) (by kernel_rfl) (by simp) ?_
    refine AllReadyH.cons rfl (fun K hK => ?_) (AllReadyH.cons rfl (fun K hK => ?_) AllReadyH.nil)
    · go_simp
      refine (pos_any n (.slice (some ⟨g, o, none⟩) n.list.length c) _).mono ?_
      rintro e w1 ⟨rfl, hb⟩
      have hb' : Below W.heap.size W w1 := ⟨hb.os, hb.tape, hb.output, hb.size, hb.block⟩
      have EN1 := ent_below EN0 hb'
      have hs1 := hb'.size
      clear hb
      refine hK.out _ _ (EN1) (fun hHeld => ?_)
      clear hK K
      refine wpAnyH_take (i := 5) (v := .agg #[.int .i64 n.pos, .string ⟨n.tok.text.toArray⟩, .slice none 0 0]) rfl (by kernel_rfl) (by kernel_rfl) (by kernel_rfl) (fun _ _ _ h => h) (Or.inl ⟨by rfl, fun w' hSw => by go_simp⟩) hHeld ?_
      simp only [Act.put, List.setIfInBounds_toArray, List.set_cons_zero, List.set_cons_succ]
      refine wpAnyH_ready (rs := [6]) (by kernel_rfl) (by simp) ?_
      refine AllReadyH.cons rfl (fun K hK => ?_) AllReadyH.nil
      go_simp
      refine hK.out _ _ (ent_alloc EN1 _) (fun hHeld => ?_)
      clear hK K
      refine wpAnyH_ready (rs := [7]) (by kernel_rfl) (by simp) ?_
      refine AllReadyH.cons rfl (fun K hK => ?_) AllReadyH.nil
      go_simp
      refine hK.out _ _ (ent_alloc EN1 _) (fun hHeld => ?_)
      clear hK K
      refine wpAnyH_done (by kernel_rfl) ?_ _
      go_wp2_with fail
      go_meet
      exact ⟨w1.heap.size, rfl, by omega, ent_new w1 #[.int .i64 n.pos, .string ⟨n.tok.text.toArray⟩, .slice none 0 0] 42, hb'.alloc hs1 _⟩
    · go_simp
      have EN1 : (W.drew.alloc (.cells #[.int .i64 0, .string ⟨#[]⟩, .slice none 0 0] 42)).heap[w.heap.size]? = some (.cells #[.int .i64 n.tok.kind, .int .i64 n.tok.pos, .string ⟨n.tok.text.toArray⟩, .int .i64 n.tok.int, (.slice (some ⟨g, o, none⟩) n.list.length c), .int .i64 n.takes] 105 (0, 0)) := ent_alloc (w := W.drew) EN0 (.cells #[.int .i64 0, .string ⟨#[]⟩, .slice none 0 0] 42)
      have EX0 : (W.drew.alloc (.cells #[.int .i64 0, .string ⟨#[]⟩, .slice none 0 0] 42)).heap[W.heap.size]? = some (.cells #[.int .i64 0, .string ⟨#[]⟩, .slice none 0 0] 42 (0, 0)) := ent_new W.drew #[.int .i64 0, .string ⟨#[]⟩, .slice none 0 0] 42
      refine hK.out _ _ (EN1) (fun hHeld => ?_)
      clear hK K
      refine wpAnyH_ready (rs := [1]) (by kernel_rfl) (by simp) ?_
      refine AllReadyH.cons rfl (fun K hK => ?_) AllReadyH.nil
      go_simp
      refine (pos_any n (.slice (some ⟨g, o, none⟩) n.list.length c) _).mono ?_
      rintro e w1 ⟨rfl, hb⟩
      have EX := ent_below EX0 hb
      have EN2 := ent_below EN1 hb
      have hb' : Below W.heap.size W w1 := ((Below.refl W.heap.size W).drew.alloc (Nat.le_refl _) _).trans (hb.mono (by simp))
      refine hK.out _ _ (EN2) (fun hHeld => ?_)
      clear hK K
      refine wpAnyH_take (i := 5) (v := .agg #[.int .i64 n.pos, .string ⟨n.tok.text.toArray⟩, .slice none 0 0]) rfl (by kernel_rfl) (by kernel_rfl) (by kernel_rfl) (fun _ _ _ h => h) (Or.inl ⟨by rfl, fun w' hSw => by go_simp⟩) hHeld ?_
      simp only [Act.put, List.setIfInBounds_toArray, List.set_cons_zero, List.set_cons_succ]
      have x0 := ent_cell EX 0 _ rfl
      have x1 := ent_cell EX 1 _ rfl
      have x2 := ent_cell EX 2 _ rfl
      have xf := ent_free EX
      refine wpAnyH_ready (rs := [7]) (by kernel_rfl) (by simp) ?_
      refine AllReadyH.cons rfl (fun K hK => ?_) AllReadyH.nil
      go_simp
      refine hK.out _ _ (ent_other (ent_other (ent_other EN2 W.heap.size 0 _ (by omega)) W.heap.size 1 _ (by omega)) W.heap.size 2 _ (by omega)) (fun hHeld => ?_)
      clear hK K
      refine wpAnyH_done (by kernel_rfl) ?_ _
      go_wp2_with fail
      go_meet
      have EX2 := ent_set (ent_set (ent_set EX 0 (.int .i64 n.pos)) 1 (.string ⟨n.tok.text.toArray⟩)) 2 (.slice none 0 0)
      exact ⟨W.heap.size, rfl, by omega, EX2, ((hb'.setCell (Nat.le_refl _) _).setCell (Nat.le_refl _) _).setCell (Nat.le_refl _) _⟩
  case rest =>
    obtain ⟨gx, rfl, hgx, EX, hB⟩ := hcut
    have EN := Lib.hid ((hB.block _ (by omega)).trans EN0)
    have ER := Lib.hid ((hB.block _ (by omega)).trans ER0)
    replace EX := Lib.hid EX
    have HB := Lib.hid (HB0.trans (hB.mono HB0.size))
    clear EN0 ER0 HB0 hB
    have cf := ent_free EN.out
    have c0 := ent_cell EN.out 0 _ rfl
    have c1 := ent_cell EN.out 1 _ rfl
    have c2 := ent_cell EN.out 2 _ rfl
    have c3 := ent_cell EN.out 3 _ rfl
    have c4 := ent_cell EN.out 4 _ rfl
    have c5 := ent_cell EN.out 5 _ rfl
    go_wp2_with fail
    refine (isCon_eq n (.slice (some ⟨g, o, none⟩) n.list.length c) _ false hc).mono ?_
    rintro e w1 ⟨rfl, hb⟩
    replace EN := Lib.hid (ent_below EN.out hb)
    replace ER := Lib.hid (ent_below ER.out hb)
    replace EX := Lib.hid (ent_below EX.out hb)
    replace HB := Lib.hid (HB.out.trans (hb.mono HB.out.size))
    clear hb
    clear cf c0 c1 c2 c3 c4 c5
    have cf := ent_free EN.out
    have c0 := ent_cell EN.out 0 _ rfl
    have c1 := ent_cell EN.out 1 _ rfl
    have c2 := ent_cell EN.out 2 _ rfl
    have c3 := ent_cell EN.out 3 _ rfl
    have c4 := ent_cell EN.out 4 _ rfl
    have c5 := ent_cell EN.out 5 _ rfl
    go_wp2_with fail
    refine (isName_eq n (.slice (some ⟨g, o, none⟩) n.list.length c) _ false hn).mono ?_
    rintro e w1 ⟨rfl, hb⟩
    replace EN := Lib.hid (ent_below EN.out hb)
    replace ER := Lib.hid (ent_below ER.out hb)
    replace EX := Lib.hid (ent_below EX.out hb)
    replace HB := Lib.hid (HB.out.trans (hb.mono HB.out.size))
    clear hb
    clear cf c0 c1 c2 c3 c4 c5
    have cf := ent_free EN.out
    have c0 := ent_cell EN.out 0 _ rfl
    have c1 := ent_cell EN.out 1 _ rfl
    have c2 := ent_cell EN.out 2 _ rfl
    have c3 := ent_cell EN.out 3 _ rfl
    have c4 := ent_cell EN.out 4 _ rfl
    have c5 := ent_cell EN.out 5 _ rfl
    go_wp2_with fail
    refine (isList_eq n (.slice (some ⟨g, o, none⟩) n.list.length c) _ true hl).mono ?_
    rintro e w1 ⟨rfl, hb⟩
    replace EN := Lib.hid (ent_below EN.out hb)
    replace ER := Lib.hid (ent_below ER.out hb)
    replace EX := Lib.hid (ent_below EX.out hb)
    replace HB := Lib.hid (HB.out.trans (hb.mono HB.out.size))
    clear hb
    clear cf c0 c1 c2 c3 c4 c5
    have cf := ent_free EN.out
    have c0 := ent_cell EN.out 0 _ rfl
    have c1 := ent_cell EN.out 1 _ rfl
    have c2 := ent_cell EN.out 2 _ rfl
    have c3 := ent_cell EN.out 3 _ rfl
    have c4 := ent_cell EN.out 4 _ rfl
    have c5 := ent_cell EN.out 5 _ rfl
    go_wp2_with fail
    refine (nodes_okI (j + 1) n (.slice (some ⟨g, o, none⟩) n.list.length c) 2 9 2 9 _ rfl rfl (HK.out.below HB.out) (by omega) (by omega) l HP.out).mono ?_
    rintro e w1 ⟨rfl, hb⟩
    replace EN := Lib.hid (ent_below EN.out hb)
    replace ER := Lib.hid (ent_below ER.out hb)
    replace EX := Lib.hid (ent_below EX.out hb)
    replace HB := Lib.hid (HB.out.trans (hb.mono HB.out.size))
    clear hb
    clear cf c0 c1 c2 c3 c4 c5
    have cf := ent_free EN.out
    have c0 := ent_cell EN.out 0 _ rfl
    have c1 := ent_cell EN.out 1 _ rfl
    have c2 := ent_cell EN.out 2 _ rfl
    have c3 := ent_cell EN.out 3 _ rfl
    have c4 := ent_cell EN.out 4 _ rfl
    have c5 := ent_cell EN.out 5 _ rfl
    go_wp2_with fail
    refine (word_eq (j + 1) n (.slice (some ⟨g, o, none⟩) n.list.length c) _ wd (HK.out.below HB.out) HWD.out).mono ?_
    rintro e w1 ⟨rfl, hb⟩
    replace EN := Lib.hid (ent_below EN.out hb)
    replace ER := Lib.hid (ent_below ER.out hb)
    replace EX := Lib.hid (ent_below EX.out hb)
    replace HB := Lib.hid (HB.out.trans (hb.mono HB.out.size))
    clear hb
    clear cf c0 c1 c2 c3 c4 c5
    have cf := ent_free EN.out
    have c0 := ent_cell EN.out 0 _ rfl
    have c1 := ent_cell EN.out 1 _ rfl
    have c2 := ent_cell EN.out 2 _ rfl
    have c3 := ent_cell EN.out 3 _ rfl
    have c4 := ent_cell EN.out 4 _ rfl
    have c5 := ent_cell EN.out 5 _ rfl
    have xf := ent_free EX.out
    have x0 := ent_cell EX.out 0 _ rfl
    have x1 := ent_cell EX.out 1 _ rfl
    have x2 := ent_cell EX.out 2 _ rfl
    have xs1 := Lib.hid (ent_set EX.out 1 (.string ⟨wd.toArray⟩)); have ens := Lib.hid (ent_other EN.out gx 1 (.string ⟨wd.toArray⟩) (by omega)); have ers := Lib.hid (ent_other ER.out gx 1 (.string ⟨wd.toArray⟩) (by omega)); have hbs := Lib.hid (HB.out.setCell (p := ⟨gx, 1, none⟩) (by simp; omega) (.string ⟨wd.toArray⟩))
    obtain ⟨m0, m1, m2, m3, m4, m5⟩ := HAT.out.below hbs.out
    go_wp2_with fail
    replace EX := xs1; replace EN := ens; replace ER := ers; replace HB := hbs
    refine (conName_ok m kv _ nm hh).mono ?_
    rintro e w1 ⟨rfl, hb⟩
    replace EN := Lib.hid (ent_below EN.out hb)
    replace ER := Lib.hid (ent_below ER.out hb)
    replace EX := Lib.hid (ent_below EX.out hb)
    replace HB := Lib.hid (HB.out.trans (hb.mono HB.out.size))
    clear hb
    have yf := ent_free EX.out
    have y0 := ent_cell EX.out 0 _ rfl
    have y1 := ent_cell EX.out 1 _ rfl
    have y2 := ent_cell EX.out 2 _ rfl
    have xs1 := Lib.hid (ent_set EX.out 1 (.string ⟨nm.toArray⟩)); have ens := Lib.hid (ent_other EN.out gx 1 (.string ⟨nm.toArray⟩) (by omega)); have ers := Lib.hid (ent_other ER.out gx 1 (.string ⟨nm.toArray⟩) (by omega)); have hbs := Lib.hid (HB.out.setCell (p := ⟨gx, 1, none⟩) (by simp; omega) (.string ⟨nm.toArray⟩))
    have hcall := fun u (hu : KidsAt u (j + 1) (.slice (some ⟨g, o, none⟩) n.list.length c) n.list) => eachTypeE_any 127 (fun _ _ => by kernel_rfl) (Px.typeE f) (TypeAt f) (typeAt_shape f) (j + 1) _ (n.list.drop 1) u (kids_drop' hu 1 (o + 6) (by omega) hc1 (by omega) rfl) (by rw [List.length_drop]; omega) (fun m _ j' kv' w1 hj _ hk' => HIH.out m kv' j' w1 hk' (by omega))
    have HC := Lib.hid hcall; clear hcall
    go_wp2_with fail
    replace EX := xs1; replace EN := ens; replace ER := ers; replace HB := hbs
    refine (HC.out _ (HK.out.below HB.out)).mono ?_
    clear HC
    intro e w2 ht
    cases hr : Px.each (Px.typeE f) (n.list.drop 1) with
    | error p =>
      obtain ⟨rfl, hb⟩ := toldN_bad ht hr
      have ho : out = .error p := by rw [← HOUT.out, ← List.drop_one, hr]
      subst ho
      exact ⟨rfl, HB.out.trans (hb.mono HB.out.size), rfl⟩
    | ok xs =>
      obtain ⟨av, rfl, hnew, hb⟩ := toldN_ok ht hr
      obtain ⟨pv, cv, rfl⟩ := hnew.now.len
      have ho : out = .ok (.mk n.pos nm xs) := by rw [← HOUT.out, ← List.drop_one, hr]
      subst ho
      have hgs := ent_lt EX.out
      have hws := HB.out.size
      have Hnew := Lib.hid hnew; clear hnew ht
      replace EX := Lib.hid (ent_below EX.out hb)
      replace ER := Lib.hid (ent_below ER.out hb)
      replace HB := Lib.hid (HB.out.trans (hb.mono HB.out.size))
      clear hb hr
      have xf := ent_free EX.out
      have x0 := ent_cell EX.out 0 _ rfl
      have x1 := ent_cell EX.out 1 _ rfl
      have x2 := ent_cell EX.out 2 _ rfl
      have rf := ent_free ER.out
      have r0 := ent_cell ER.out 0 _ rfl
      have r1 := ent_cell ER.out 1 _ rfl
      have r2 := ent_cell ER.out 2 _ rfl
      go_wp2_with fail
      refine bodyPost_ret (v := .agg #[.int .i64 n.pos, .string ⟨(nm).toArray⟩, .slice pv xs.length cv]) (by simp [results, Tryz.results127, go_sem, Px.Node.text, r0, r1, r2]) rfl ?_
      refine ⟨(((HB.out.setCell (by simp; omega) _).setCell (by simp) _).setCell (by simp) _).setCell (by simp) _, _, rfl, fun u hu => ⟨_, rfl, ?_⟩⟩
      exact New.stay (w := w) Hnew.out (by omega) ((((Stay.refl _ _).set gx 2 _ hgs).set _ 0 _ (by omega)).set _ 1 _ (by omega) |>.set _ 2 _ (by omega)) u hu


theorem typeE_any (f : Nat) : ∀ (n : Px.Node) (lv : Value) (k : Nat) (w : World), KidsAt w k lv n.list → k < f →
    Calls Tryz.prog 127 #[nodeV n lv] w (ToldN w (TypeAt f) (Px.typeE f n)) := by
  induction f with
  | zero => intro n lv k w _ h; omega
  | succ f ih =>
    intro n lv k w hk hkf
    cases hc : Px.isConB n with
    | true =>
      have hp : Px.typeE (f + 1) n = .ok (.mk n.pos n.text []) := by rw [Px.typeE, hc]; simp
      rw [hp]
      exact (typeE_con n lv w hc).mono fun e w' ⟨h1, h2⟩ => ⟨h2, _, h1, fun u _ => ⟨_, rfl, row_nil _ _ _⟩⟩
    | false =>
      cases hn : Px.isNameB n with
      | true =>
        have hp : Px.typeE (f + 1) n = .ok (.mk n.pos n.text []) := by rw [Px.typeE, hc, hn]; simp
        rw [hp]
        exact (typeE_name n lv w hc hn).mono fun e w' ⟨h1, h2⟩ => ⟨h2, _, h1, fun u _ => ⟨_, rfl, row_nil _ _ _⟩⟩
      | false =>
        have hp : Px.typeE (f + 1) n = match Px.nodes n 2 9 with
            | .error p => .error p
            | .ok l =>
              match (if Px.word n = [45, 62] then (match Px.hold n 3 3 with | .error p => .error p | .ok _ => .ok [45, 62]) else Px.conName (l.headD n)) with
              | .error p => .error p
              | .ok nm =>
                match Px.each (Px.typeE f) l.tail with
                | .error p => .error p
                | .ok xs => .ok (.mk n.pos nm xs) := by
          rw [Px.typeE, if_neg (by simp [hc, hn])]; rfl
        cases hl : Px.isListB n with
        | false =>
          have : Px.typeE (f + 1) n = .error n.pos := by rw [hp, Px.nodes, hl]; simp
          rw [this]
          exact (typeE_not n lv w hc hn hl).mono fun e w' ⟨h1, h2⟩ => ⟨h2, h1⟩
        | true =>
          cases hnd : Px.nodes n 2 9 with
          | error p =>
            have : Px.typeE (f + 1) n = .error p := by rw [hp, hnd]
            rw [this]
            exact (typeE_bad k n lv w hc hn hl hk p hnd).mono fun e w' ⟨h1, h2⟩ => ⟨h2, h1⟩
          | ok l =>
            obtain ⟨hle, h2, _, _⟩ := nodes_is hnd
            rw [hnd] at hp
            dsimp only at hp
            by_cases hw : Px.word n = [45, 62]
            · rw [if_pos hw] at hp
              cases hh : Px.hold n 3 3 with
              | error p =>
                have : Px.typeE (f + 1) n = .error p := by rw [hp, hh]
                rw [this]
                exact (typeE_hold_bad k n lv w hc hn hl hk l hnd [45, 62] hw (by decide) p hh).mono fun e w' ⟨h1, h2⟩ => ⟨h2, h1⟩
              | ok u =>
                rw [hp, hh]
                exact typeE_hold_ok k f ih (by omega) n lv w hc hn hl hk l hnd [45, 62] hw (by decide) hh _ (by rw [← hle])
            · rw [if_neg hw] at hp
              obtain ⟨m, hm⟩ : ∃ m, n.list[0]? = some m := ⟨n.list[0]'(by rw [← hle]; omega), List.getElem?_eq_getElem _⟩
              have hhd : l.headD n = m := by rw [hle, List.headD_eq_head?_getD, List.head?_eq_getElem?, hm]; rfl
              rw [hhd] at hp
              cases hh : Px.conName m with
              | error p =>
                have : Px.typeE (f + 1) n = .error p := by rw [hp, hh]
                rw [this]
                exact (typeE_name_bad k n lv w hc hn hl hk l hnd _ rfl (by simpa using hw) m hm p hh).mono fun e w' ⟨h1, h2⟩ => ⟨h2, h1⟩
              | ok nm =>
                rw [hp, hh]
                exact typeE_name_ok k f ih (by omega) n lv w hc hn hl hk l hnd _ rfl (by simpa using hw) m hm nm hh _ (by rw [← hle])
end Go.Proofs.YtnhndamfbeiljaaGreatDoor
