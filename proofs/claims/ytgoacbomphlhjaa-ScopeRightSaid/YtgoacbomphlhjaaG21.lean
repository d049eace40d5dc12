/-
  Several texts in one: SField, SDef.
-/
import Derived.Test.YtgoacbomphlhjaaG20
namespace Go.Proofs.Ytgoacbomphlhjaa
open Go Go.RowKit
set_option linter.unusedVariables false
set_option linter.unusedSimpArgs false
def fieldOk (m : Nm → Option Int) (vars : List Nm) (nm : Nm) (k : Nat) : Bool := vars.contains nm || (match m nm with | some c => decide (c = (k : Int)) | none => false)
def fieldS (m : Nm → Option Int) (vars : List Nm) : Nat → Int → Px.TypeE → Int
 | 0, a, _ => a
 | f + 1, a, .mk p nm xs => xs.foldl (fieldS m vars f) (asked a (fieldOk m vars nm xs.length) p)
theorem fieldOk_eq (m : Nm → Option Int) (vars : List Nm) (nm : Nm) (k : Nat) : fieldOk m vars nm k = (vars.contains nm || ((m nm).isSome && decide ((m nm).getD 0 = (k : Int)))) := by
 unfold fieldOk
 cases m nm <;> rfl
theorem typeAt_sh {f : Nat} {u : World} {v : Value} {t : Px.TypeE} (h : TypeAt f u v t) : ∃ (p : Int) (s : ByteArray) (q : Option Addr) (n c : Nat), v = .agg #[.int .i64 p, .string s, .slice q n c] := by
 cases f with
 | zero => exact h.elim
 | succ f =>
   cases t with | mk p nm xs =>
   obtain ⟨av, rfl, h1⟩ := h
   obtain ⟨q, c, rfl⟩ := h1.len
   exact ⟨_, _, _, _, _, rfl⟩
theorem lookI_run {w : World} {mb n : Nat} {m : Nm → Option Int} (s : Nm) (h : MapI w mb n m) (hs : s.length ≤ 400000) :
 (Instr.lookup 64 (.map (some mb)) (.string ⟨s.toArray⟩) true).run Try.prog w = Result.ok (.tuple #[.int .i64 ((m s).getD 0), .bool (m s).isSome]) w := by
 obtain ⟨D, o1, t1, n1⟩ := h
 obtain ⟨v, ps, hrun, hv⟩ := o1.look_ok lawStr Try.underlying64 (zeroInt w) (zd := encN 0) (zp := []) (plainElem_int Try.underlying3 (by decide)) (keyLit s (by unfold maxLen; omega))
 obtain ⟨a, rfl, hy⟩ := RInt_inv hv
 rw [(n1 s).1] at hrun
 simp only [Prod.mk.injEq] at hy
 have hh := (n1 s).1
 have ha : a = (m s).getD 0 := by
  cases hm : m s with
  | none =>
    rw [hm] at hh
    rw [Maps.atKey_of_not_has hh] at hy
    have := hy.1
    simp only [encN, DataW.lit.injEq, Lit.int.injEq, true_and] at this
    rw [← this]; rfl
  | some b =>
    rw [(n1 s).2 b _ hm] at hy
    have := hy.1
    simp only [encN, DataW.lit.injEq, Lit.int.injEq, true_and] at this
    rw [← this]; rfl
 rw [← ha]; exact hrun
/-- What stands while a type is gone through. -/
structure Fst (W0 w0 : World) (cb tb kb bb pb nt np : Nat) (m : Nm → Option Int) (vars : List Nm) (a : Int) (w : World) : Prop where
 bel : Below W0.heap.size W0 w
 keeps : KB (Only cb) w0 w
 ck : CkAt w cb a tb kb bb
 map : MapI w tb nt m
 par : NamesC w pb np (cnt vars)
theorem Fst.self {W0 w0 : World} {cb tb kb bb pb nt np : Nat} {m : Nm → Option Int} {vars : List Nm} {a : Int} {w : World} (h : Fst W0 w0 cb tb kb bb pb nt np m vars a w) : Fst W0 w cb tb kb bb pb nt np m vars a w := ⟨h.bel, KB.refl _ _, h.ck, h.map, h.par⟩
theorem Fst.then {W0 w0 : World} {cb tb kb bb pb nt np : Nat} {m : Nm → Option Int} {vars : List Nm} {a a' : Int} {w w' : World} (h : Fst W0 w0 cb tb kb bb pb nt np m vars a w) (k : Fst W0 w cb tb kb bb pb nt np m vars a' w') : Fst W0 w0 cb tb kb bb pb nt np m vars a' w' := ⟨k.bel, h.keeps.trans k.keeps, k.ck, k.map, k.par⟩
theorem Fst.below {W0 w0 : World} {cb tb kb bb pb nt np : Nat} {m : Nm → Option Int} {vars : List Nm} {a : Int} {w w' : World} (h : Fst W0 w0 cb tb kb bb pb nt np m vars a w) (hb : Below w.heap.size w w') : Fst W0 w0 cb tb kb bb pb nt np m vars a w' :=
 ⟨h.bel.trans (hb.mono h.bel.size), h.keeps.trans (KB.of_below hb), ent_below h.ck hb, h.map.below hb, h.par.below hb⟩
theorem Fst.asks {W0 w0 : World} {cb tb kb bb pb nt np : Nat} {m : Nm → Option Int} {vars : List Nm} {a a' : Int} {w w' : World} (h : Fst W0 w0 cb tb kb bb pb nt np m vars a w) (hc0 : W0.heap.size ≤ cb) (k : KB (Only cb) w w') (hc : CkAt w' cb a' tb kb bb) : Fst W0 w0 cb tb kb bb pb nt np m vars a' w' :=
 ⟨k.below h.bel (Nat.le_refl _) (fun g hg e => by have : g = cb := e; omega), h.keeps.trans k, hc, h.map.kb k (ck_nem h.ck h.map), h.par.kb k (fun e => ck_ne h.ck h.par (Eq.symm e))⟩
def FieldC (cb tb kb bb pb nt np : Nat) (m : Nm → Option Int) (vars : List Nm) (W0 : World) (f : Nat) : Prop :=
 ∀ (x : Px.TypeE) (v : Value) (a : Int) (w : World), TypeAt f W0 v x → Sx.tyw f x ≤ 400000 → Fst W0 w cb tb kb bb pb nt np m vars a w →
  Calls Try.prog 68 #[.pointer (some ⟨cb, 0, none⟩), v, .map (some pb)] w fun e w' => e = .returned (.tuple #[]) ∧ Fst W0 w cb tb kb bb pb nt np m vars (fieldS m vars f a x) w'
set_option maxHeartbeats 4000000 in
set_option maxRecDepth 100000 in
theorem field_step (cb tb kb bb pb nt np : Nat) (m : Nm → Option Int) (vars : List Nm) (W0 : World) (hc0 : W0.heap.size ≤ cb) (hvl : vars.length ≤ 400000) (f : Nat) (ih : FieldC cb tb kb bb pb nt np m vars W0 f) : FieldC cb tb kb bb pb nt np m vars W0 (f + 1) := by
 intro x v a w hx hw h
 cases x with | mk p nm xs =>
 obtain ⟨av, rfl, hr⟩ := hx
 obtain ⟨q, cp, rfl⟩ := hr.len
 have HR := Lib.hid hr
 have HI := Lib.hid ih
 have H0 := Lib.hid h
 have hpw : Sx.tyw (f + 1) (.mk p nm xs) = 1 + nm.length + (xs.map (Sx.tyw f)).sum := by rw [Sx.tyw]
 have HW : Hid ((xs.map (Sx.tyw f)).sum ≤ 400000) := Lib.hid (by omega)
 have hnm : nm.length ≤ 400000 := by omega
 have hcb := ent_lt h.ck
 clear hr ih h hpw hw
 go_enter Try.func68, Try.ntmps68
 have EX := Lib.hid (ent_new w #[.int .i64 p, .string ⟨nm.toArray⟩, .slice q xs.length cp] 112)
 have HB := Lib.hid (show Below w.heap.size w (w.alloc (.cells #[.int .i64 p, .string ⟨nm.toArray⟩, .slice q xs.length cp] 112)) from (Below.refl _ _).alloc (Nat.le_refl _) _)
 go_upto_region 1 with fail
 generalize w.alloc (.cells #[.int .i64 p, .string ⟨nm.toArray⟩, .slice q xs.length cp] 112) = w1 at EX HB ⊢
 have H1 := Lib.hid (H0.out.below HB.out)
 have hs1 := HB.out.size
 go_cut [6, 7] (fun c t wx => c = .int .i64 ((m nm).getD 0) ∧ t = .bool (m nm).isSome ∧ wx = w1.drew)
 case first =>
  refine wp_region_held_drew (S := fun (u : World) => (∀ (g : Nat) (o : Obj), w1.heap[g]? = some o → u.heap[g]? = some o) ∧ MapI u tb nt m) (by kernel_rfl) (⟨fun g o h => h, H1.out.map.below ((Below.refl _ _).drew)⟩) (fun hHeld => ?_)
  refine wpAnyH_take (i := 0) (v := .pointer (some ⟨cb, 0, none⟩)) rfl (by kernel_rfl) (by kernel_rfl) (by kernel_rfl) (fun _ _ _ h => h) (Or.inl ⟨by rfl, fun w' hSw => by go_simp⟩) hHeld ?_
  refine wpAnyH_take (i := 1) (v := .pointer (some ⟨cb, 0, none⟩)) rfl (by kernel_rfl) (by kernel_rfl) (by kernel_rfl) (fun _ _ _ h => h) (Or.inl ⟨by rfl, fun w' hSw => by go_simp⟩) hHeld ?_
  refine wpAnyH_take (i := 2) (v := .pointer (some ⟨cb, 1, none⟩)) rfl (by kernel_rfl) (by kernel_rfl) (by kernel_rfl) (fun _ _ _ h => h) (Or.inl ⟨by rfl, fun w' hSw => by go_simp⟩) hHeld ?_
  refine wpAnyH_take (i := 3) (v := .map (some tb)) rfl (by kernel_rfl) (by kernel_rfl) (by kernel_rfl) (fun _ _ _ h => h) (Or.inl ⟨by rfl, fun w' hSw => by have h := ent_cell (hSw.1 _ _ H1.out.ck) 1 _ rfl; go_simp⟩) hHeld ?_
  refine wpAnyH_take (i := 4) (v := .pointer (some ⟨w.heap.size, 1, none⟩)) rfl (by kernel_rfl) (by kernel_rfl) (by kernel_rfl) (fun _ _ _ h => h) (Or.inl ⟨by rfl, fun w' hSw => by go_simp⟩) hHeld ?_
  refine wpAnyH_take (i := 5) (v := .string ⟨nm.toArray⟩) rfl (by kernel_rfl) (by kernel_rfl) (by kernel_rfl) (fun _ _ _ h => h) (Or.inl ⟨by rfl, fun w' hSw => by have h := ent_cell (hSw.1 _ _ EX.out) 1 _ rfl; go_simp⟩) hHeld ?_
  refine wpAnyH_take (i := 6) (v := .tuple #[.int .i64 ((m nm).getD 0), .bool (m nm).isSome]) rfl (by kernel_rfl) (by kernel_rfl) (by kernel_rfl) (fun _ _ _ h => h) (Or.inl ⟨by rfl, fun w' hSw => by have h := lookI_run nm hSw.2 hnm; go_simp⟩) hHeld ?_
  refine wpAnyH_take (i := 7) (v := .tuple #[.int .i64 ((m nm).getD 0), .bool (m nm).isSome]) rfl (by kernel_rfl) (by kernel_rfl) (by kernel_rfl) (fun _ _ _ h => h) (Or.inl ⟨by rfl, fun w' hSw => by go_simp⟩) hHeld ?_
  refine wpAnyH_take (i := 8) (v := .int .i64 ((m nm).getD 0)) rfl (by kernel_rfl) (by kernel_rfl) (by kernel_rfl) (fun _ _ _ h => h) (Or.inl ⟨by rfl, fun w' hSw => by go_simp⟩) hHeld ?_
  refine wpAnyH_take (i := 9) (v := .bool (m nm).isSome) rfl (by kernel_rfl) (by kernel_rfl) (by kernel_rfl) (fun _ _ _ h => h) (Or.inl ⟨by rfl, fun w' hSw => by go_simp⟩) hHeld ?_
  refine wpAnyH_take (i := 10) (v := .int .i64 ((m nm).getD 0)) rfl (by kernel_rfl) (by kernel_rfl) (by kernel_rfl) (fun _ _ _ h => h) (Or.inl ⟨by rfl, fun w' hSw => by go_simp⟩) hHeld ?_
  simp only [Act.put, List.getElem_toArray, List.getElem_cons_succ, List.getElem_cons_zero, List.setIfInBounds_toArray, List.set_cons_zero, List.set_cons_succ]
  refine wpAnyH_take (i := 11) (v := .bool (m nm).isSome) rfl (by kernel_rfl) (by kernel_rfl) (by kernel_rfl) (fun _ _ _ h => h) (Or.inl ⟨by rfl, fun w' hSw => by go_simp⟩) hHeld ?_
  simp only [Act.put, List.getElem_toArray, List.getElem_cons_succ, List.getElem_cons_zero, List.setIfInBounds_toArray, List.set_cons_zero, List.set_cons_succ]
  try simp only [Act.put, List.getElem_toArray, List.getElem_cons_succ, List.getElem_cons_zero, List.setIfInBounds_toArray, List.set_cons_zero, List.set_cons_succ]
  refine wpAnyH_done (by kernel_rfl) ?_ _
  go_wp2_with fail
  go_meet
  exact ⟨rfl, rfl, rfl⟩
 case rest =>
 obtain ⟨rfl, rfl, rfl⟩ := hcut
 have H2 := Lib.hid (H1.out.below ((Below.refl _ _).drew))
 have EX2 : Hid (w1.drew.heap[w.heap.size]? = some (.cells #[.int .i64 p, .string ⟨nm.toArray⟩, .slice q xs.length cp] 112 (0, 0))) := Lib.hid EX.out
 have hs2 : w.heap.size ≤ w1.drew.heap.size := hs1
 generalize w1.drew = w2 at H2 EX2 hs2 ⊢
 have HOK := Lib.hid (fieldOk_eq m vars nm xs.length)
 have hc0' := hc0
 clear hc0
 generalize (m nm).getD 0 = c0 at HOK ⊢
 generalize (m nm).isSome = t0 at HOK ⊢
 clear H1 EX HB hs1
 go_upto_region 2 with fail
 go_cut [37] (fun _ wx => Hid (Fst W0 w cb tb kb bb pb nt np m vars (asked a (fieldOk m vars nm xs.length) p) wx) ∧ Hid (wx.heap[w.heap.size]? = some (.cells #[.int .i64 p, .string ⟨nm.toArray⟩, .slice q xs.length cp] 112 (0, 0))))
 case first =>
  cases hr0 : vars.contains nm with
  | true =>
    have HRR := Lib.hid hr0; clear hr0
    refine wp_region_held_drew (S := fun (u : World) => ∀ (g : Nat) (o : Obj), w2.heap[g]? = some o → g ≠ cb → u.heap[g]? = some o) (by kernel_rfl) (fun g o h _ => h) (fun hHeld => ?_)
    refine wpAnyH_take (i := 0) (v := .pointer (some ⟨cb, 0, none⟩)) rfl (by kernel_rfl) (by kernel_rfl) (by kernel_rfl) (fun _ _ _ h => h) (Or.inl ⟨by rfl, fun w' hSw => by go_simp⟩) hHeld ?_
    refine wpAnyH_take (i := 1) (v := .map (some pb)) rfl (by kernel_rfl) (by kernel_rfl) (by kernel_rfl) (fun _ _ _ h => h) (Or.inl ⟨by rfl, fun w' hSw => by go_simp⟩) hHeld ?_
    refine wpAnyH_take (i := 2) (v := .pointer (some ⟨w.heap.size, 1, none⟩)) rfl (by kernel_rfl) (by kernel_rfl) (by kernel_rfl) (fun _ _ _ h => h) (Or.inl ⟨by rfl, fun w' hSw => by go_simp⟩) hHeld ?_
    refine wpAnyH_take (i := 3) (v := .string ⟨nm.toArray⟩) rfl (by kernel_rfl) (by kernel_rfl) (by kernel_rfl) (fun _ _ _ h => h) (Or.inl ⟨by rfl, fun w' hSw => by have h := ent_cell (hSw _ _ EX2.out (by omega)) 1 _ rfl; go_simp⟩) hHeld ?_
    refine wpAnyH_take (i := 15) (v := .pointer (some ⟨w.heap.size, 0, none⟩)) rfl (by kernel_rfl) (by kernel_rfl) (by kernel_rfl) (fun _ _ _ h => h) (Or.inl ⟨by rfl, fun w' hSw => by go_simp⟩) hHeld ?_
    refine wpAnyH_take (i := 16) (v := .int .i64 p) rfl (by kernel_rfl) (by kernel_rfl) (by kernel_rfl) (fun _ _ _ h => h) (Or.inl ⟨by rfl, fun w' hSw => by have h := ent_cell (hSw _ _ EX2.out (by omega)) 0 _ rfl; go_simp⟩) hHeld ?_
    simp only [Act.put, List.getElem_toArray, List.getElem_cons_succ, List.getElem_cons_zero, List.setIfInBounds_toArray, List.set_cons_zero, List.set_cons_succ]
    refine wpAnyH_ready (rs := [4]) (by kernel_rfl) (by simp) ?_
    refine AllReadyH.cons rfl (fun K hK => ?_) AllReadyH.nil
    go_simp
    refine (has_any w2.drew pb np (cnt vars) nm ((H2.out.below ((Below.refl _ _).drew)).par) hnm (fun s' => by have := cnt_small (l := vars) (by omega) s'; omega)).mono ?_
    rintro e w3 ⟨rfl, rfl⟩
    rw [cnt_pos, HRR.out]
    refine hK.out _ _ (fun g o h _ => h) (fun hHeld => ?_)
    clear hK K
    refine wpAnyH_take (i := 5) (v := .bool true) rfl (by kernel_rfl) (by kernel_rfl) (by kernel_rfl) (fun _ _ _ h => h) (Or.inl ⟨by rfl, fun w' hSw => by go_simp⟩) hHeld ?_
    simp only [Act.put, List.getElem_toArray, List.getElem_cons_succ, List.getElem_cons_zero, List.setIfInBounds_toArray, List.set_cons_zero, List.set_cons_succ]
    refine wpAnyH_take (i := 6) (v := undef) rfl (by kernel_rfl) (by kernel_rfl) (by kernel_rfl) (fun _ _ _ h => h) (Or.inr ⟨(by first | (go_simp; done) | (go_simp; simp; done) | (go_simp; intro h; cases h)), rfl⟩) hHeld ?_
    simp only [Act.put, List.getElem_toArray, List.getElem_cons_succ, List.getElem_cons_zero, List.setIfInBounds_toArray, List.set_cons_zero, List.set_cons_succ]
    refine wpAnyH_take (i := 7) (v := undef) rfl (by kernel_rfl) (by kernel_rfl) (by kernel_rfl) (fun _ _ _ h => h) (Or.inr ⟨(by first | (go_simp; done) | (go_simp; simp; done) | (go_simp; intro h; cases h)), rfl⟩) hHeld ?_
    simp only [Act.put, List.getElem_toArray, List.getElem_cons_succ, List.getElem_cons_zero, List.setIfInBounds_toArray, List.set_cons_zero, List.set_cons_succ]
    refine wpAnyH_take (i := 8) (v := undef) rfl (by kernel_rfl) (by kernel_rfl) (by kernel_rfl) (fun _ _ _ h => h) (Or.inr ⟨(by first | (go_simp; done) | (go_simp; simp; done) | (go_simp; intro h; cases h)), rfl⟩) hHeld ?_
    simp only [Act.put, List.getElem_toArray, List.getElem_cons_succ, List.getElem_cons_zero, List.setIfInBounds_toArray, List.set_cons_zero, List.set_cons_succ]
    refine wpAnyH_take (i := 9) (v := undef) rfl (by kernel_rfl) (by kernel_rfl) (by kernel_rfl) (fun _ _ _ h => h) (Or.inr ⟨(by first | (go_simp; done) | (go_simp; simp; done) | (go_simp; intro h; cases h)), rfl⟩) hHeld ?_
    simp only [Act.put, List.getElem_toArray, List.getElem_cons_succ, List.getElem_cons_zero, List.setIfInBounds_toArray, List.set_cons_zero, List.set_cons_succ]
    refine wpAnyH_take (i := 10) (v := undef) rfl (by kernel_rfl) (by kernel_rfl) (by kernel_rfl) (fun _ _ _ h => h) (Or.inr ⟨(by first | (go_simp; done) | (go_simp; simp; done) | (go_simp; intro h; cases h)), rfl⟩) hHeld ?_
    simp only [Act.put, List.getElem_toArray, List.getElem_cons_succ, List.getElem_cons_zero, List.setIfInBounds_toArray, List.set_cons_zero, List.set_cons_succ]
    refine wpAnyH_take (i := 11) (v := undef) rfl (by kernel_rfl) (by kernel_rfl) (by kernel_rfl) (fun _ _ _ h => h) (Or.inr ⟨(by first | (go_simp; done) | (go_simp; simp; done) | (go_simp; intro h; cases h)), rfl⟩) hHeld ?_
    simp only [Act.put, List.getElem_toArray, List.getElem_cons_succ, List.getElem_cons_zero, List.setIfInBounds_toArray, List.set_cons_zero, List.set_cons_succ]
    refine wpAnyH_take (i := 12) (v := undef) rfl (by kernel_rfl) (by kernel_rfl) (by kernel_rfl) (fun _ _ _ h => h) (Or.inr ⟨(by first | (go_simp; done) | (go_simp; simp; done) | (go_simp; intro h; cases h)), rfl⟩) hHeld ?_
    simp only [Act.put, List.getElem_toArray, List.getElem_cons_succ, List.getElem_cons_zero, List.setIfInBounds_toArray, List.set_cons_zero, List.set_cons_succ]
    refine wpAnyH_take (i := 13) (v := undef) rfl (by kernel_rfl) (by kernel_rfl) (by kernel_rfl) (fun _ _ _ h => h) (Or.inr ⟨(by first | (go_simp; done) | (go_simp; simp; done) | (go_simp; intro h; cases h)), rfl⟩) hHeld ?_
    simp only [Act.put, List.getElem_toArray, List.getElem_cons_succ, List.getElem_cons_zero, List.setIfInBounds_toArray, List.set_cons_zero, List.set_cons_succ]
    refine wpAnyH_take (i := 14) (v := .bool true) rfl (by kernel_rfl) (by kernel_rfl) (by kernel_rfl) (fun _ _ _ h => h) (Or.inl ⟨by rfl, fun w' hSw => by go_simp⟩) hHeld ?_
    simp only [Act.put, List.getElem_toArray, List.getElem_cons_succ, List.getElem_cons_zero, List.setIfInBounds_toArray, List.set_cons_zero, List.set_cons_succ]
    refine wpAnyH_ready (rs := [17]) (by kernel_rfl) (by simp) ?_
    refine AllReadyH.cons rfl (fun K hK => ?_) AllReadyH.nil
    go_simp
    refine (ask_any w2.drew cb tb kb bb a true (p : Int) (H2.out.below ((Below.refl _ _).drew)).ck).mono ?_
    rintro e w4 ⟨rfl, hk4, hc4⟩
    have HP4 := Lib.hid ((H2.out.below ((Below.refl _ _).drew)).asks hc0' hk4 hc4)
    have HQ4 := Lib.hid (hk4.at (show w2.drew.heap[w.heap.size]? = _ from EX2.out) (by show w.heap.size ≠ cb; omega))
    have hS4 : ∀ (g : Nat) (o : Obj), w2.heap[g]? = some o → g ≠ cb → w4.heap[g]? = some o := fun g o h h1 => hk4.at (show w2.drew.heap[g]? = some o from h) h1
    clear hk4 hc4
    refine hK.out _ _ hS4 (fun hHeld => ?_)
    clear hK K
    refine wpAnyH_done (by kernel_rfl) ?_ _
    go_wp2_with fail
    go_meet
    exact ⟨Lib.hid (by rw [HOK.out, HRR.out, Bool.true_or]; exact HP4.out), HQ4⟩
  | false =>
    have HRR := Lib.hid hr0; clear hr0
    cases t0 with
    | false =>
      refine wp_region_held_drew (S := fun (u : World) => ∀ (g : Nat) (o : Obj), w2.heap[g]? = some o → g ≠ cb → u.heap[g]? = some o) (by kernel_rfl) (fun g o h _ => h) (fun hHeld => ?_)
      refine wpAnyH_take (i := 0) (v := .pointer (some ⟨cb, 0, none⟩)) rfl (by kernel_rfl) (by kernel_rfl) (by kernel_rfl) (fun _ _ _ h => h) (Or.inl ⟨by rfl, fun w' hSw => by go_simp⟩) hHeld ?_
      refine wpAnyH_take (i := 1) (v := .map (some pb)) rfl (by kernel_rfl) (by kernel_rfl) (by kernel_rfl) (fun _ _ _ h => h) (Or.inl ⟨by rfl, fun w' hSw => by go_simp⟩) hHeld ?_
      refine wpAnyH_take (i := 2) (v := .pointer (some ⟨w.heap.size, 1, none⟩)) rfl (by kernel_rfl) (by kernel_rfl) (by kernel_rfl) (fun _ _ _ h => h) (Or.inl ⟨by rfl, fun w' hSw => by go_simp⟩) hHeld ?_
      refine wpAnyH_take (i := 3) (v := .string ⟨nm.toArray⟩) rfl (by kernel_rfl) (by kernel_rfl) (by kernel_rfl) (fun _ _ _ h => h) (Or.inl ⟨by rfl, fun w' hSw => by have h := ent_cell (hSw _ _ EX2.out (by omega)) 1 _ rfl; go_simp⟩) hHeld ?_
      refine wpAnyH_take (i := 15) (v := .pointer (some ⟨w.heap.size, 0, none⟩)) rfl (by kernel_rfl) (by kernel_rfl) (by kernel_rfl) (fun _ _ _ h => h) (Or.inl ⟨by rfl, fun w' hSw => by go_simp⟩) hHeld ?_
      refine wpAnyH_take (i := 16) (v := .int .i64 p) rfl (by kernel_rfl) (by kernel_rfl) (by kernel_rfl) (fun _ _ _ h => h) (Or.inl ⟨by rfl, fun w' hSw => by have h := ent_cell (hSw _ _ EX2.out (by omega)) 0 _ rfl; go_simp⟩) hHeld ?_
      simp only [Act.put, List.getElem_toArray, List.getElem_cons_succ, List.getElem_cons_zero, List.setIfInBounds_toArray, List.set_cons_zero, List.set_cons_succ]
      refine wpAnyH_ready (rs := [4]) (by kernel_rfl) (by simp) ?_
      refine AllReadyH.cons rfl (fun K hK => ?_) AllReadyH.nil
      go_simp
      refine (has_any w2.drew pb np (cnt vars) nm ((H2.out.below ((Below.refl _ _).drew)).par) hnm (fun s' => by have := cnt_small (l := vars) (by omega) s'; omega)).mono ?_
      rintro e w3 ⟨rfl, rfl⟩
      rw [cnt_pos, HRR.out]
      refine hK.out _ _ (fun g o h _ => h) (fun hHeld => ?_)
      clear hK K
      refine wpAnyH_take (i := 5) (v := .bool false) rfl (by kernel_rfl) (by kernel_rfl) (by kernel_rfl) (fun _ _ _ h => h) (Or.inl ⟨by rfl, fun w' hSw => by go_simp⟩) hHeld ?_
      simp only [Act.put, List.getElem_toArray, List.getElem_cons_succ, List.getElem_cons_zero, List.setIfInBounds_toArray, List.set_cons_zero, List.set_cons_succ]
      refine wpAnyH_take (i := 6) (v := .bool false) rfl (by kernel_rfl) (by kernel_rfl) (by kernel_rfl) (fun _ _ _ h => h) (Or.inl ⟨by go_simp, fun w' hSw => by go_simp⟩) hHeld ?_
      simp only [Act.put, List.getElem_toArray, List.getElem_cons_succ, List.getElem_cons_zero, List.setIfInBounds_toArray, List.set_cons_zero, List.set_cons_succ]
      refine wpAnyH_take (i := 7) (v := .bool false) rfl (by kernel_rfl) (by kernel_rfl) (by kernel_rfl) (fun _ _ _ h => h) (Or.inl ⟨by go_simp, fun w' hSw => by go_simp⟩) hHeld ?_
      simp only [Act.put, List.getElem_toArray, List.getElem_cons_succ, List.getElem_cons_zero, List.setIfInBounds_toArray, List.set_cons_zero, List.set_cons_succ]
      refine wpAnyH_take (i := 8) (v := undef) rfl (by kernel_rfl) (by kernel_rfl) (by kernel_rfl) (fun _ _ _ h => h) (Or.inr ⟨(by first | (go_simp; done) | (go_simp; simp; done) | (go_simp; intro h; cases h)), rfl⟩) hHeld ?_
      simp only [Act.put, List.getElem_toArray, List.getElem_cons_succ, List.getElem_cons_zero, List.setIfInBounds_toArray, List.set_cons_zero, List.set_cons_succ]
      refine wpAnyH_take (i := 9) (v := undef) rfl (by kernel_rfl) (by kernel_rfl) (by kernel_rfl) (fun _ _ _ h => h) (Or.inr ⟨(by first | (go_simp; done) | (go_simp; simp; done) | (go_simp; intro h; cases h)), rfl⟩) hHeld ?_
      simp only [Act.put, List.getElem_toArray, List.getElem_cons_succ, List.getElem_cons_zero, List.setIfInBounds_toArray, List.set_cons_zero, List.set_cons_succ]
      refine wpAnyH_take (i := 10) (v := undef) rfl (by kernel_rfl) (by kernel_rfl) (by kernel_rfl) (fun _ _ _ h => h) (Or.inr ⟨(by first | (go_simp; done) | (go_simp; simp; done) | (go_simp; intro h; cases h)), rfl⟩) hHeld ?_
      simp only [Act.put, List.getElem_toArray, List.getElem_cons_succ, List.getElem_cons_zero, List.setIfInBounds_toArray, List.set_cons_zero, List.set_cons_succ]
      refine wpAnyH_take (i := 11) (v := undef) rfl (by kernel_rfl) (by kernel_rfl) (by kernel_rfl) (fun _ _ _ h => h) (Or.inr ⟨(by first | (go_simp; done) | (go_simp; simp; done) | (go_simp; intro h; cases h)), rfl⟩) hHeld ?_
      simp only [Act.put, List.getElem_toArray, List.getElem_cons_succ, List.getElem_cons_zero, List.setIfInBounds_toArray, List.set_cons_zero, List.set_cons_succ]
      refine wpAnyH_take (i := 12) (v := undef) rfl (by kernel_rfl) (by kernel_rfl) (by kernel_rfl) (fun _ _ _ h => h) (Or.inr ⟨(by first | (go_simp; done) | (go_simp; simp; done) | (go_simp; intro h; cases h)), rfl⟩) hHeld ?_
      simp only [Act.put, List.getElem_toArray, List.getElem_cons_succ, List.getElem_cons_zero, List.setIfInBounds_toArray, List.set_cons_zero, List.set_cons_succ]
      refine wpAnyH_take (i := 13) (v := .bool false) rfl (by kernel_rfl) (by kernel_rfl) (by kernel_rfl) (fun _ _ _ h => h) (Or.inl ⟨by go_simp, fun w' hSw => by go_simp⟩) hHeld ?_
      simp only [Act.put, List.getElem_toArray, List.getElem_cons_succ, List.getElem_cons_zero, List.setIfInBounds_toArray, List.set_cons_zero, List.set_cons_succ]
      refine wpAnyH_take (i := 14) (v := .bool false) rfl (by kernel_rfl) (by kernel_rfl) (by kernel_rfl) (fun _ _ _ h => h) (Or.inl ⟨by rfl, fun w' hSw => by go_simp⟩) hHeld ?_
      simp only [Act.put, List.getElem_toArray, List.getElem_cons_succ, List.getElem_cons_zero, List.setIfInBounds_toArray, List.set_cons_zero, List.set_cons_succ]
      refine wpAnyH_ready (rs := [17]) (by kernel_rfl) (by simp) ?_
      refine AllReadyH.cons rfl (fun K hK => ?_) AllReadyH.nil
      go_simp
      refine (ask_any w2.drew cb tb kb bb a false (p : Int) (H2.out.below ((Below.refl _ _).drew)).ck).mono ?_
      rintro e w4 ⟨rfl, hk4, hc4⟩
      have HP4 := Lib.hid ((H2.out.below ((Below.refl _ _).drew)).asks hc0' hk4 hc4)
      have HQ4 := Lib.hid (hk4.at (show w2.drew.heap[w.heap.size]? = _ from EX2.out) (by show w.heap.size ≠ cb; omega))
      have hS4 : ∀ (g : Nat) (o : Obj), w2.heap[g]? = some o → g ≠ cb → w4.heap[g]? = some o := fun g o h h1 => hk4.at (show w2.drew.heap[g]? = some o from h) h1
      clear hk4 hc4
      refine hK.out _ _ hS4 (fun hHeld => ?_)
      clear hK K
      refine wpAnyH_done (by kernel_rfl) ?_ _
      go_wp2_with fail
      go_meet
      exact ⟨Lib.hid (by rw [HOK.out, HRR.out, Bool.false_and, Bool.false_or]; exact HP4.out), HQ4⟩
    | true =>
      by_cases hq : c0 = (xs.length : Int)
      · have hq1 : (c0 == (xs.length : Int)) = true := by simp [hq]
        have HQ := Lib.hid hq; clear hq
        refine wp_region_held_drew (S := fun (u : World) => ∀ (g : Nat) (o : Obj), w2.heap[g]? = some o → g ≠ cb → u.heap[g]? = some o) (by kernel_rfl) (fun g o h _ => h) (fun hHeld => ?_)
        refine wpAnyH_take (i := 0) (v := .pointer (some ⟨cb, 0, none⟩)) rfl (by kernel_rfl) (by kernel_rfl) (by kernel_rfl) (fun _ _ _ h => h) (Or.inl ⟨by rfl, fun w' hSw => by go_simp⟩) hHeld ?_
        refine wpAnyH_take (i := 1) (v := .map (some pb)) rfl (by kernel_rfl) (by kernel_rfl) (by kernel_rfl) (fun _ _ _ h => h) (Or.inl ⟨by rfl, fun w' hSw => by go_simp⟩) hHeld ?_
        refine wpAnyH_take (i := 2) (v := .pointer (some ⟨w.heap.size, 1, none⟩)) rfl (by kernel_rfl) (by kernel_rfl) (by kernel_rfl) (fun _ _ _ h => h) (Or.inl ⟨by rfl, fun w' hSw => by go_simp⟩) hHeld ?_
        refine wpAnyH_take (i := 3) (v := .string ⟨nm.toArray⟩) rfl (by kernel_rfl) (by kernel_rfl) (by kernel_rfl) (fun _ _ _ h => h) (Or.inl ⟨by rfl, fun w' hSw => by have h := ent_cell (hSw _ _ EX2.out (by omega)) 1 _ rfl; go_simp⟩) hHeld ?_
        refine wpAnyH_take (i := 15) (v := .pointer (some ⟨w.heap.size, 0, none⟩)) rfl (by kernel_rfl) (by kernel_rfl) (by kernel_rfl) (fun _ _ _ h => h) (Or.inl ⟨by rfl, fun w' hSw => by go_simp⟩) hHeld ?_
        refine wpAnyH_take (i := 16) (v := .int .i64 p) rfl (by kernel_rfl) (by kernel_rfl) (by kernel_rfl) (fun _ _ _ h => h) (Or.inl ⟨by rfl, fun w' hSw => by have h := ent_cell (hSw _ _ EX2.out (by omega)) 0 _ rfl; go_simp⟩) hHeld ?_
        simp only [Act.put, List.getElem_toArray, List.getElem_cons_succ, List.getElem_cons_zero, List.setIfInBounds_toArray, List.set_cons_zero, List.set_cons_succ]
        refine wpAnyH_ready (rs := [4]) (by kernel_rfl) (by simp) ?_
        refine AllReadyH.cons rfl (fun K hK => ?_) AllReadyH.nil
        go_simp
        refine (has_any w2.drew pb np (cnt vars) nm ((H2.out.below ((Below.refl _ _).drew)).par) hnm (fun s' => by have := cnt_small (l := vars) (by omega) s'; omega)).mono ?_
        rintro e w3 ⟨rfl, rfl⟩
        rw [cnt_pos, HRR.out]
        refine hK.out _ _ (fun g o h _ => h) (fun hHeld => ?_)
        clear hK K
        refine wpAnyH_take (i := 5) (v := .bool false) rfl (by kernel_rfl) (by kernel_rfl) (by kernel_rfl) (fun _ _ _ h => h) (Or.inl ⟨by rfl, fun w' hSw => by go_simp⟩) hHeld ?_
        simp only [Act.put, List.getElem_toArray, List.getElem_cons_succ, List.getElem_cons_zero, List.setIfInBounds_toArray, List.set_cons_zero, List.set_cons_succ]
        refine wpAnyH_take (i := 6) (v := .bool true) rfl (by kernel_rfl) (by kernel_rfl) (by kernel_rfl) (fun _ _ _ h => h) (Or.inl ⟨by go_simp, fun w' hSw => by go_simp⟩) hHeld ?_
        simp only [Act.put, List.getElem_toArray, List.getElem_cons_succ, List.getElem_cons_zero, List.setIfInBounds_toArray, List.set_cons_zero, List.set_cons_succ]
        refine wpAnyH_take (i := 7) (v := .bool true) rfl (by kernel_rfl) (by kernel_rfl) (by kernel_rfl) (fun _ _ _ h => h) (Or.inl ⟨by go_simp, fun w' hSw => by go_simp⟩) hHeld ?_
        simp only [Act.put, List.getElem_toArray, List.getElem_cons_succ, List.getElem_cons_zero, List.setIfInBounds_toArray, List.set_cons_zero, List.set_cons_succ]
        refine wpAnyH_take (i := 8) (v := .int .i64 c0) rfl (by kernel_rfl) (by kernel_rfl) (by kernel_rfl) (fun _ _ _ h => h) (Or.inl ⟨by go_simp, fun w' hSw => by go_simp⟩) hHeld ?_
        simp only [Act.put, List.getElem_toArray, List.getElem_cons_succ, List.getElem_cons_zero, List.setIfInBounds_toArray, List.set_cons_zero, List.set_cons_succ]
        refine wpAnyH_take (i := 9) (v := .pointer (some ⟨w.heap.size, 2, none⟩)) rfl (by kernel_rfl) (by kernel_rfl) (by kernel_rfl) (fun _ _ _ h => h) (Or.inl ⟨by go_simp, fun w' hSw => by go_simp⟩) hHeld ?_
        simp only [Act.put, List.getElem_toArray, List.getElem_cons_succ, List.getElem_cons_zero, List.setIfInBounds_toArray, List.set_cons_zero, List.set_cons_succ]
        refine wpAnyH_take (i := 10) (v := .slice q xs.length cp) rfl (by kernel_rfl) (by kernel_rfl) (by kernel_rfl) (fun _ _ _ h => h) (Or.inl ⟨by go_simp, fun w' hSw => by have h := ent_cell (hSw _ _ EX2.out (by omega)) 2 _ rfl; go_simp⟩) hHeld ?_
        simp only [Act.put, List.getElem_toArray, List.getElem_cons_succ, List.getElem_cons_zero, List.setIfInBounds_toArray, List.set_cons_zero, List.set_cons_succ]
        refine wpAnyH_take (i := 11) (v := .int .i64 (xs.length : Int)) rfl (by kernel_rfl) (by kernel_rfl) (by kernel_rfl) (fun _ _ _ h => h) (Or.inl ⟨by go_simp, fun w' hSw => by go_simp⟩) hHeld ?_
        simp only [Act.put, List.getElem_toArray, List.getElem_cons_succ, List.getElem_cons_zero, List.setIfInBounds_toArray, List.set_cons_zero, List.set_cons_succ]
        refine wpAnyH_take (i := 12) (v := .bool true) rfl (by kernel_rfl) (by kernel_rfl) (by kernel_rfl) (fun _ _ _ h => h) (Or.inl ⟨by go_simp, fun w' hSw => by go_simp⟩) hHeld ?_
        simp only [Act.put, List.getElem_toArray, List.getElem_cons_succ, List.getElem_cons_zero, List.setIfInBounds_toArray, List.set_cons_zero, List.set_cons_succ]
        refine wpAnyH_take (i := 13) (v := .bool true) rfl (by kernel_rfl) (by kernel_rfl) (by kernel_rfl) (fun _ _ _ h => h) (Or.inl ⟨by go_simp, fun w' hSw => by go_simp⟩) hHeld ?_
        simp only [Act.put, List.getElem_toArray, List.getElem_cons_succ, List.getElem_cons_zero, List.setIfInBounds_toArray, List.set_cons_zero, List.set_cons_succ]
        refine wpAnyH_take (i := 14) (v := .bool true) rfl (by kernel_rfl) (by kernel_rfl) (by kernel_rfl) (fun _ _ _ h => h) (Or.inl ⟨by rfl, fun w' hSw => by go_simp⟩) hHeld ?_
        simp only [Act.put, List.getElem_toArray, List.getElem_cons_succ, List.getElem_cons_zero, List.setIfInBounds_toArray, List.set_cons_zero, List.set_cons_succ]
        refine wpAnyH_ready (rs := [17]) (by kernel_rfl) (by simp) ?_
        refine AllReadyH.cons rfl (fun K hK => ?_) AllReadyH.nil
        go_simp
        refine (ask_any w2.drew cb tb kb bb a true (p : Int) (H2.out.below ((Below.refl _ _).drew)).ck).mono ?_
        rintro e w4 ⟨rfl, hk4, hc4⟩
        have HP4 := Lib.hid ((H2.out.below ((Below.refl _ _).drew)).asks hc0' hk4 hc4)
        have HQ4 := Lib.hid (hk4.at (show w2.drew.heap[w.heap.size]? = _ from EX2.out) (by show w.heap.size ≠ cb; omega))
        have hS4 : ∀ (g : Nat) (o : Obj), w2.heap[g]? = some o → g ≠ cb → w4.heap[g]? = some o := fun g o h h1 => hk4.at (show w2.drew.heap[g]? = some o from h) h1
        clear hk4 hc4
        refine hK.out _ _ hS4 (fun hHeld => ?_)
        clear hK K
        refine wpAnyH_done (by kernel_rfl) ?_ _
        go_wp2_with fail
        go_meet
        exact ⟨Lib.hid (by rw [HOK.out, HRR.out, decide_eq_true HQ.out, Bool.true_and, Bool.false_or]; exact HP4.out), HQ4⟩
      · have hq1 : (c0 == (xs.length : Int)) = false := beq_eq_false_iff_ne.2 hq
        have HQ := Lib.hid hq; clear hq
        refine wp_region_held_drew (S := fun (u : World) => ∀ (g : Nat) (o : Obj), w2.heap[g]? = some o → g ≠ cb → u.heap[g]? = some o) (by kernel_rfl) (fun g o h _ => h) (fun hHeld => ?_)
        refine wpAnyH_take (i := 0) (v := .pointer (some ⟨cb, 0, none⟩)) rfl (by kernel_rfl) (by kernel_rfl) (by kernel_rfl) (fun _ _ _ h => h) (Or.inl ⟨by rfl, fun w' hSw => by go_simp⟩) hHeld ?_
        refine wpAnyH_take (i := 1) (v := .map (some pb)) rfl (by kernel_rfl) (by kernel_rfl) (by kernel_rfl) (fun _ _ _ h => h) (Or.inl ⟨by rfl, fun w' hSw => by go_simp⟩) hHeld ?_
        refine wpAnyH_take (i := 2) (v := .pointer (some ⟨w.heap.size, 1, none⟩)) rfl (by kernel_rfl) (by kernel_rfl) (by kernel_rfl) (fun _ _ _ h => h) (Or.inl ⟨by rfl, fun w' hSw => by go_simp⟩) hHeld ?_
        refine wpAnyH_take (i := 3) (v := .string ⟨nm.toArray⟩) rfl (by kernel_rfl) (by kernel_rfl) (by kernel_rfl) (fun _ _ _ h => h) (Or.inl ⟨by rfl, fun w' hSw => by have h := ent_cell (hSw _ _ EX2.out (by omega)) 1 _ rfl; go_simp⟩) hHeld ?_
        refine wpAnyH_take (i := 15) (v := .pointer (some ⟨w.heap.size, 0, none⟩)) rfl (by kernel_rfl) (by kernel_rfl) (by kernel_rfl) (fun _ _ _ h => h) (Or.inl ⟨by rfl, fun w' hSw => by go_simp⟩) hHeld ?_
        refine wpAnyH_take (i := 16) (v := .int .i64 p) rfl (by kernel_rfl) (by kernel_rfl) (by kernel_rfl) (fun _ _ _ h => h) (Or.inl ⟨by rfl, fun w' hSw => by have h := ent_cell (hSw _ _ EX2.out (by omega)) 0 _ rfl; go_simp⟩) hHeld ?_
        simp only [Act.put, List.getElem_toArray, List.getElem_cons_succ, List.getElem_cons_zero, List.setIfInBounds_toArray, List.set_cons_zero, List.set_cons_succ]
        refine wpAnyH_ready (rs := [4]) (by kernel_rfl) (by simp) ?_
        refine AllReadyH.cons rfl (fun K hK => ?_) AllReadyH.nil
        go_simp
        refine (has_any w2.drew pb np (cnt vars) nm ((H2.out.below ((Below.refl _ _).drew)).par) hnm (fun s' => by have := cnt_small (l := vars) (by omega) s'; omega)).mono ?_
        rintro e w3 ⟨rfl, rfl⟩
        rw [cnt_pos, HRR.out]
        refine hK.out _ _ (fun g o h _ => h) (fun hHeld => ?_)
        clear hK K
        refine wpAnyH_take (i := 5) (v := .bool false) rfl (by kernel_rfl) (by kernel_rfl) (by kernel_rfl) (fun _ _ _ h => h) (Or.inl ⟨by rfl, fun w' hSw => by go_simp⟩) hHeld ?_
        simp only [Act.put, List.getElem_toArray, List.getElem_cons_succ, List.getElem_cons_zero, List.setIfInBounds_toArray, List.set_cons_zero, List.set_cons_succ]
        refine wpAnyH_take (i := 6) (v := .bool true) rfl (by kernel_rfl) (by kernel_rfl) (by kernel_rfl) (fun _ _ _ h => h) (Or.inl ⟨by go_simp, fun w' hSw => by go_simp⟩) hHeld ?_
        simp only [Act.put, List.getElem_toArray, List.getElem_cons_succ, List.getElem_cons_zero, List.setIfInBounds_toArray, List.set_cons_zero, List.set_cons_succ]
        refine wpAnyH_take (i := 7) (v := .bool true) rfl (by kernel_rfl) (by kernel_rfl) (by kernel_rfl) (fun _ _ _ h => h) (Or.inl ⟨by go_simp, fun w' hSw => by go_simp⟩) hHeld ?_
        simp only [Act.put, List.getElem_toArray, List.getElem_cons_succ, List.getElem_cons_zero, List.setIfInBounds_toArray, List.set_cons_zero, List.set_cons_succ]
        refine wpAnyH_take (i := 8) (v := .int .i64 c0) rfl (by kernel_rfl) (by kernel_rfl) (by kernel_rfl) (fun _ _ _ h => h) (Or.inl ⟨by go_simp, fun w' hSw => by go_simp⟩) hHeld ?_
        simp only [Act.put, List.getElem_toArray, List.getElem_cons_succ, List.getElem_cons_zero, List.setIfInBounds_toArray, List.set_cons_zero, List.set_cons_succ]
        refine wpAnyH_take (i := 9) (v := .pointer (some ⟨w.heap.size, 2, none⟩)) rfl (by kernel_rfl) (by kernel_rfl) (by kernel_rfl) (fun _ _ _ h => h) (Or.inl ⟨by go_simp, fun w' hSw => by go_simp⟩) hHeld ?_
        simp only [Act.put, List.getElem_toArray, List.getElem_cons_succ, List.getElem_cons_zero, List.setIfInBounds_toArray, List.set_cons_zero, List.set_cons_succ]
        refine wpAnyH_take (i := 10) (v := .slice q xs.length cp) rfl (by kernel_rfl) (by kernel_rfl) (by kernel_rfl) (fun _ _ _ h => h) (Or.inl ⟨by go_simp, fun w' hSw => by have h := ent_cell (hSw _ _ EX2.out (by omega)) 2 _ rfl; go_simp⟩) hHeld ?_
        simp only [Act.put, List.getElem_toArray, List.getElem_cons_succ, List.getElem_cons_zero, List.setIfInBounds_toArray, List.set_cons_zero, List.set_cons_succ]
        refine wpAnyH_take (i := 11) (v := .int .i64 (xs.length : Int)) rfl (by kernel_rfl) (by kernel_rfl) (by kernel_rfl) (fun _ _ _ h => h) (Or.inl ⟨by go_simp, fun w' hSw => by go_simp⟩) hHeld ?_
        simp only [Act.put, List.getElem_toArray, List.getElem_cons_succ, List.getElem_cons_zero, List.setIfInBounds_toArray, List.set_cons_zero, List.set_cons_succ]
        refine wpAnyH_take (i := 12) (v := .bool false) rfl (by kernel_rfl) (by kernel_rfl) (by kernel_rfl) (fun _ _ _ h => h) (Or.inl ⟨by go_simp, fun w' hSw => by go_simp⟩) hHeld ?_
        simp only [Act.put, List.getElem_toArray, List.getElem_cons_succ, List.getElem_cons_zero, List.setIfInBounds_toArray, List.set_cons_zero, List.set_cons_succ]
        refine wpAnyH_take (i := 13) (v := .bool false) rfl (by kernel_rfl) (by kernel_rfl) (by kernel_rfl) (fun _ _ _ h => h) (Or.inl ⟨by go_simp, fun w' hSw => by go_simp⟩) hHeld ?_
        simp only [Act.put, List.getElem_toArray, List.getElem_cons_succ, List.getElem_cons_zero, List.setIfInBounds_toArray, List.set_cons_zero, List.set_cons_succ]
        refine wpAnyH_take (i := 14) (v := .bool false) rfl (by kernel_rfl) (by kernel_rfl) (by kernel_rfl) (fun _ _ _ h => h) (Or.inl ⟨by rfl, fun w' hSw => by go_simp⟩) hHeld ?_
        simp only [Act.put, List.getElem_toArray, List.getElem_cons_succ, List.getElem_cons_zero, List.setIfInBounds_toArray, List.set_cons_zero, List.set_cons_succ]
        refine wpAnyH_ready (rs := [17]) (by kernel_rfl) (by simp) ?_
        refine AllReadyH.cons rfl (fun K hK => ?_) AllReadyH.nil
        go_simp
        refine (ask_any w2.drew cb tb kb bb a false (p : Int) (H2.out.below ((Below.refl _ _).drew)).ck).mono ?_
        rintro e w4 ⟨rfl, hk4, hc4⟩
        have HP4 := Lib.hid ((H2.out.below ((Below.refl _ _).drew)).asks hc0' hk4 hc4)
        have HQ4 := Lib.hid (hk4.at (show w2.drew.heap[w.heap.size]? = _ from EX2.out) (by show w.heap.size ≠ cb; omega))
        have hS4 : ∀ (g : Nat) (o : Obj), w2.heap[g]? = some o → g ≠ cb → w4.heap[g]? = some o := fun g o h h1 => hk4.at (show w2.drew.heap[g]? = some o from h) h1
        clear hk4 hc4
        refine hK.out _ _ hS4 (fun hHeld => ?_)
        clear hK K
        refine wpAnyH_done (by kernel_rfl) ?_ _
        go_wp2_with fail
        go_meet
        exact ⟨Lib.hid (by rw [HOK.out, HRR.out, decide_eq_false HQ.out, Bool.true_and, Bool.false_or]; exact HP4.out), HQ4⟩
 case rest =>
 obtain ⟨HP, EXC⟩ := hcut
 clear H2 EX2 HOK
 have hss := ent_lt EXC.out
 have e2 := ent_cell EXC.out 2 _ rfl
 go_wp2_with fail
 clear e2 hss
 go_loopw [9, 41] (fun _ j wr => ∃ k : Nat, j = .int .i64 k ∧ k ≤ xs.length ∧ Hid (Fst W0 w cb tb kb bb pb nt np m vars ((xs.take k).foldl (fieldS m vars f) (asked a (fieldOk m vars nm xs.length) p)) wr)) (fun _ j _ => xs.length - (intOf j).toNat)
 case atStart => exact ⟨0, rfl, Nat.zero_le _, Lib.hid (by simpa using HP.out)⟩
 case round =>
  clear HP EXC
  obtain ⟨j, rfl, hj, HP⟩ := hrel
  by_cases hlt : j < xs.length
  · obtain ⟨y, hy⟩ : ∃ y, xs[j]? = some y := ⟨_, List.getElem?_eq_getElem hlt⟩
    rcases HR.out with ⟨h0, _⟩ | ⟨g, of, c', hv, g1, g2, g3⟩
    · rw [h0] at hlt; simp at hlt
    injection hv with hq1 _ hq2
    subst hq1; subst hq2
    obtain ⟨u, hu, _, hcell⟩ := g3 j y hy
    obtain ⟨a0, a1, uq, un, uc, rfl⟩ := typeAt_sh hu
    have z0 := cell_up HP.out.bel (hcell 0 _ rfl); have z1 := cell_up HP.out.bel (hcell 1 _ rfl); have z2 := cell_up HP.out.bel (hcell 2 _ rfl)
    simp only [Nat.add_zero] at z0
    have hj1 : (j : Int) < (xs.length : Int) := by omega
    have hj2 : (xs.length : Int) ≤ (cp : Int) := by omega
    have hj3 := g2
    have HST := Lib.hid (Sx.sum_mem (Sx.tyw f) (List.mem_of_getElem? hy))
    have HTK := Lib.hid (take_fold (fieldS m vars f) xs j y hy (asked a (fieldOk m vars nm xs.length) p))
    have HPA := Lib.hid (HP.out.below ((Below.refl _ wr).alloc (Nat.le_refl _) (.cells #[.int .i64 a0, .string a1, .slice uq un uc] 112)))
    have HU := Lib.hid hu
    have EA := ent_new wr #[.int .i64 a0, .string a1, .slice uq un uc] 112
    have y0 := ent_cell EA 0 _ rfl; have y1 := ent_cell EA 1 _ rfl; have y2 := ent_cell EA 2 _ rfl
    clear g1 g2 g3 hcell hu hy EA
    go_wp2_with fail
    clear z0 z1 z2 y0 y1 y2
    refine (HI.out y _ _ _ HU.out (by have := HST.out; have := HW.out; omega) HPA.out.self).mono ?_
    rintro e w5 ⟨rfl, hp⟩
    have HP5 := Lib.hid (HPA.out.then hp)
    clear hp HPA
    go_wp2_with fail
    go_roundw
    case rel => exact ⟨j + 1, by go_num, by omega, Lib.hid (by rw [HTK.out]; exact HP5.out)⟩
    case measure => simp [intOf]; omega
  · obtain rfl : j = xs.length := by omega
    go_wp2_with fail
    refine bodyPost_end (v := .tuple #[]) (by simp [results, Try.results68, go_sem]) rfl ?_
    refine ⟨rfl, ?_⟩
    have hp := HP.out
    rw [List.take_length] at hp
    rw [fieldS]
    exact hp
theorem field_any (cb tb kb bb pb nt np : Nat) (m : Nm → Option Int) (vars : List Nm) (W0 : World) (hc0 : W0.heap.size ≤ cb) (hvl : vars.length ≤ 400000) : ∀ f, FieldC cb tb kb bb pb nt np m vars W0 f
 | 0 => fun x v a w hx => hx.elim
 | f + 1 => field_step cb tb kb bb pb nt np m vars W0 hc0 hvl f (field_any cb tb kb bb pb nt np m vars W0 hc0 hvl f)
end Go.Proofs.Ytgoacbomphlhjaa
namespace Go.Proofs.Ytgoacbomphlhjaa
open Go Go.RowKit
set_option linter.unusedVariables false
set_option linter.unusedSimpArgs false
/-- What stands while definitions are gone through. -/
structure Dst (W0 : World) (cb tb kb bb nk : Nat) (m : Nm → Option C3) (a : Int) (vars : List Nm) (n : Nat) (w : World) : Prop where
 bel : Below W0.heap.size W0 w
 ck : CkAt w cb a tb kb bb
 map : MapC w kb nk m
 nam : NamesC w bb n (cnt vars)
abbrev CB2 (cb bb : Nat) : Nat → Prop := fun b => b = cb ∨ b = bb
theorem Dst.ne {W0 : World} {cb tb kb bb nk n : Nat} {m : Nm → Option C3} {a : Int} {vars : List Nm} {w : World} (h : Dst W0 cb tb kb bb nk m a vars n w) : cb ≠ bb := ck_ne h.ck h.nam
theorem Dst.below {W0 : World} {cb tb kb bb nk n : Nat} {m : Nm → Option C3} {a : Int} {vars : List Nm} {w w' : World} (h : Dst W0 cb tb kb bb nk m a vars n w) (hb : Below w.heap.size w w') : Dst W0 cb tb kb bb nk m a vars n w' :=
 ⟨h.bel.trans (hb.mono h.bel.size), ent_below h.ck hb, h.map.below hb, h.nam.below hb⟩
theorem Dst.asks {W0 : World} {cb tb kb bb nk n : Nat} {m : Nm → Option C3} {a a' : Int} {vars : List Nm} {w w' : World} (h : Dst W0 cb tb kb bb nk m a vars n w) (hc0 : W0.heap.size ≤ cb) (k : KB (Only cb) w w') (hc : CkAt w' cb a' tb kb bb) : Dst W0 cb tb kb bb nk m a' vars n w' :=
 ⟨k.below h.bel (Nat.le_refl _) (fun g hg e => by have : g = cb := e; omega), hc, h.map.kb k (ck_nem h.ck h.map), h.nam.kb k (fun e => h.ne (Eq.symm e))⟩
theorem Dst.names {W0 : World} {cb tb kb bb nk n n' : Nat} {m : Nm → Option C3} {a : Int} {vars vars' : List Nm} {w w' : World} (h : Dst W0 cb tb kb bb nk m a vars n w) (hkm : kb ≠ bb) (hb0 : W0.heap.size ≤ bb) (k : w.grownBy w' (some bb)) (hn : NamesC w' bb n' (cnt vars')) : Dst W0 cb tb kb bb nk m a vars' n' w' := by
 have hk : KB (fun b => b = bb) w w' := KB.of_map k (fun _ => rfl)
 exact ⟨hk.below h.bel (Nat.le_refl _) (fun g hg e => by have : g = bb := e; omega), hk.at h.ck h.ne, h.map.kb hk hkm, hn⟩
theorem Dst.more {W0 : World} {cb tb kb bb nk n n' : Nat} {m : Nm → Option C3} {a : Int} {vars : List Nm} {w : World} (h : Dst W0 cb tb kb bb nk m a vars n w) (hn : n ≤ n') : Dst W0 cb tb kb bb nk m a vars n' w := ⟨h.bel, h.ck, h.map, h.nam.mono hn⟩
def defS (m : Nm → Option C3) (vars : List Nm) (f : Nat) (a : Int) (d : Px.Def) : Int := walkS (ckE m) (ckP m) f (asked a (addsB (fun _ => 0) d.params) d.pos) (vars ++ d.params) d.body
theorem defAt_sh {f : Nat} {u : World} {v : Value} {d : Px.Def} (h : DefAt f u v d) : ∃ (q0 : Option Addr) (c0 : Nat) (k p : Int) (sn : ByteArray) (i : Int) (q1 : Option Addr) (n1 c1 : Nat) (q2 : Option Addr) (n2 c2 : Nat) (q3 : Option Addr) (n3 c3 : Nat),
 v = .agg #[.int .i64 d.pos, .string ⟨d.name.toArray⟩, .slice q0 d.params.length c0, .int .i64 k, .int .i64 p, .string sn, .int .i64 i, .slice q1 n1 c1, .slice q2 n2 c2, .slice q3 n3 c3] ∧ RowAt 1 (StrAt u) u (.slice q0 d.params.length c0) d.params ∧ ExprAt f u (.agg #[.int .i64 k, .int .i64 p, .string sn, .int .i64 i, .slice q1 n1 c1, .slice q2 n2 c2, .slice q3 n3 c3]) d.body := by
 obtain ⟨nv, b0, b1, b2, b3, b4, b5, b6, rfl, h1, h2⟩ := h
 obtain ⟨q0, c0, rfl⟩ := h1.len
 obtain ⟨k, p, sn, i, q1, n1, c1, q2, n2, c2, q3, n3, c3, he⟩ := exprAt_sh h2
 injection he with he
 simp only [Array.mk.injEq, List.cons.injEq, and_true] at he
 obtain ⟨rfl, rfl, rfl, rfl, rfl, rfl, rfl⟩ := he
 exact ⟨_, _, _, _, _, _, _, _, _, _, _, _, _, _, _, rfl, h1, h2⟩
set_option maxHeartbeats 4000000 in
set_option maxRecDepth 100000 in
theorem def_ck_any (cb tb kb bb nk n : Nat) (m : Nm → Option C3) (W0 : World) (hc0 : W0.heap.size ≤ cb) (hb0 : W0.heap.size ≤ bb) (hkm : kb ≠ bb) (f : Nat) (d : Px.Def) (v : Value) (a : Int) (vars : List Nm) (w : World)
 (hd : DefAt f W0 v d) (hw : vars.length + nw d.params + Sx.ew f d.body ≤ 400000) (hn : n + 2 * nw d.params + 2 * Sx.ew f d.body ≤ 100000000) (h : Dst W0 cb tb kb bb nk m a vars n w) :
 Calls Try.prog 48 #[.pointer (some ⟨cb, 0, none⟩), v] w fun e w' => e = .returned (.tuple #[]) ∧ KB (CB2 cb bb) w w' ∧ Dst W0 cb tb kb bb nk m (defS m vars f a d) vars (n + 2 * nw d.params + 2 * Sx.ew f d.body) w' := by
 obtain ⟨q0, c0, k, p, sn, i, q1, n1, c1, q2, n2, c2, q3, n3, c3, rfl, hr, hx⟩ := defAt_sh hd
 have HR := Lib.hid hr; have HX := Lib.hid hx
 have hlen : d.params.length ≤ nw d.params := nw_len _
 have hcm := h.ne
 have hcb := ent_lt h.ck
 have hbb := h.nam.lt
 have H0 := Lib.hid h
 clear hd hr hx h
 go_enter Try.func48, Try.ntmps48
 have EX := Lib.hid (ent_new w #[.int .i64 d.pos, .string ⟨d.name.toArray⟩, .slice q0 d.params.length c0, .int .i64 k, .int .i64 p, .string sn, .int .i64 i, .slice q1 n1 c1, .slice q2 n2 c2, .slice q3 n3 c3] 58)
 have HB := Lib.hid (show Below w.heap.size w (w.alloc (.cells #[.int .i64 d.pos, .string ⟨d.name.toArray⟩, .slice q0 d.params.length c0, .int .i64 k, .int .i64 p, .string sn, .int .i64 i, .slice q1 n1 c1, .slice q2 n2 c2, .slice q3 n3 c3] 58)) from (Below.refl _ _).alloc (Nat.le_refl _) _)
 go_upto_region 1 with fail
 generalize w.alloc (.cells #[.int .i64 d.pos, .string ⟨d.name.toArray⟩, .slice q0 d.params.length c0, .int .i64 k, .int .i64 p, .string sn, .int .i64 i, .slice q1 n1 c1, .slice q2 n2 c2, .slice q3 n3 c3] 58) = w1 at EX HB ⊢
 have H1 := Lib.hid (H0.out.below HB.out)
 have hs1 := HB.out.size
 obtain ⟨rr, hrr⟩ : ∃ r, addsB (fun _ => 0) d.params = r := ⟨_, rfl⟩
 have HRR := Lib.hid hrr
 clear hrr
 refine wp_region_held_drew (S := fun (u : World) => ∀ (g : Nat) (o : Obj), w1.heap[g]? = some o → g ≠ cb → u.heap[g]? = some o) (by kernel_rfl) (fun g o h _ => h) (fun hHeld => ?_)
 refine wpAnyH_take (i := 0) (v := .pointer (some ⟨cb, 0, none⟩)) rfl (by kernel_rfl) (by kernel_rfl) (by kernel_rfl) (fun _ _ _ h => h) (Or.inl ⟨by rfl, fun w' hSw => by go_simp⟩) hHeld ?_
 refine wpAnyH_take (i := 1) (v := .pointer (some ⟨w.heap.size, 2, none⟩)) rfl (by kernel_rfl) (by kernel_rfl) (by kernel_rfl) (fun _ _ _ h => h) (Or.inl ⟨by rfl, fun w' hSw => by go_simp⟩) hHeld ?_
 refine wpAnyH_take (i := 2) (v := .slice q0 d.params.length c0) rfl (by kernel_rfl) (by kernel_rfl) (by kernel_rfl) (fun _ _ _ h => h) (Or.inl ⟨by rfl, fun w' hSw => by have h := ent_cell (hSw _ _ EX.out (by omega)) 2 _ rfl; go_simp⟩) hHeld ?_
 refine wpAnyH_take (i := 4) (v := .pointer (some ⟨w.heap.size, 0, none⟩)) rfl (by kernel_rfl) (by kernel_rfl) (by kernel_rfl) (fun _ _ _ h => h) (Or.inl ⟨by rfl, fun w' hSw => by go_simp⟩) hHeld ?_
 refine wpAnyH_take (i := 5) (v := .int .i64 d.pos) rfl (by kernel_rfl) (by kernel_rfl) (by kernel_rfl) (fun _ _ _ h => h) (Or.inl ⟨by rfl, fun w' hSw => by have h := ent_cell (hSw _ _ EX.out (by omega)) 0 _ rfl; go_simp⟩) hHeld ?_
 simp only [Act.put, List.getElem_toArray, List.getElem_cons_succ, List.getElem_cons_zero, List.setIfInBounds_toArray, List.set_cons_zero, List.set_cons_succ]
 refine wpAnyH_ready (rs := [3]) (by kernel_rfl) (by simp) ?_
 refine AllReadyH.cons rfl (fun K hK => ?_) AllReadyH.nil
 go_simp
 refine (comeOnce_any w1.drew _ d.params (rowS_below HR.out (H1.out.bel.drew)) (by omega)).mono ?_
 rintro e w2 ⟨rfl, hb2⟩
 rw [HRR.out]
 have H2 := Lib.hid ((H1.out.below ((Below.refl _ _).drew)).below hb2)
 have hS2 : ∀ (g : Nat) (o : Obj), w1.heap[g]? = some o → g ≠ cb → w2.heap[g]? = some o := fun g o h _ => ent_below (show w1.drew.heap[g]? = some o from h) hb2
 have K2 := Lib.hid ((KB.of_below (S := Only cb) ((Below.refl _ w1).drew)).trans (KB.of_below hb2))
 clear hb2
 refine hK.out _ _ hS2 (fun hHeld => ?_)
 clear hK K
 refine wpAnyH_ready (rs := [6]) (by kernel_rfl) (by simp) ?_
 refine AllReadyH.cons rfl (fun K hK => ?_) AllReadyH.nil
 go_simp
 refine (ask_any w2 cb tb kb bb a rr d.pos H2.out.ck).mono ?_
 rintro e w3 ⟨rfl, hk3, hc3⟩
 have H3 := Lib.hid (H2.out.asks hc0 hk3 hc3)
 have hS3 : ∀ (g : Nat) (o : Obj), w1.heap[g]? = some o → g ≠ cb → w3.heap[g]? = some o := fun g o h h1 => hk3.at (hS2 g o h h1) h1
 have K3 := Lib.hid (K2.out.trans hk3)
 have EX3 := Lib.hid (hS3 _ _ EX.out (by omega))
 clear hk3 hc3 K2
 refine hK.out _ _ hS3 (fun hHeld => ?_)
 clear hS2 hS3
 clear hK K
 refine wpAnyH_done (by kernel_rfl) ?_ _
 clear EX H1 H2
 go_upto_region 2 with fail
 refine wp_region_held_drew (S := fun (u : World) => ∀ (g : Nat) (o : Obj), w3.heap[g]? = some o → g ≠ bb → u.heap[g]? = some o) (by kernel_rfl) (fun g o h _ => h) (fun hHeld => ?_)
 refine wpAnyH_take (i := 0) (v := .pointer (some ⟨cb, 0, none⟩)) rfl (by kernel_rfl) (by kernel_rfl) (by kernel_rfl) (fun _ _ _ h => h) (Or.inl ⟨by rfl, fun w' hSw => by go_simp⟩) hHeld ?_
 refine wpAnyH_take (i := 1) (v := .pointer (some ⟨cb, 0, none⟩)) rfl (by kernel_rfl) (by kernel_rfl) (by kernel_rfl) (fun _ _ _ h => h) (Or.inl ⟨by rfl, fun w' hSw => by go_simp⟩) hHeld ?_
 refine wpAnyH_take (i := 2) (v := .pointer (some ⟨cb, 3, none⟩)) rfl (by kernel_rfl) (by kernel_rfl) (by kernel_rfl) (fun _ _ _ h => h) (Or.inl ⟨by rfl, fun w' hSw => by go_simp⟩) hHeld ?_
 refine wpAnyH_take (i := 3) (v := .map (some bb)) rfl (by kernel_rfl) (by kernel_rfl) (by kernel_rfl) (fun _ _ _ h => h) (Or.inl ⟨by rfl, fun w' hSw => by have h := ent_cell (hSw _ _ H3.out.ck hcm) 3 _ rfl; go_simp⟩) hHeld ?_
 refine wpAnyH_take (i := 4) (v := .pointer (some ⟨w.heap.size, 2, none⟩)) rfl (by kernel_rfl) (by kernel_rfl) (by kernel_rfl) (fun _ _ _ h => h) (Or.inl ⟨by rfl, fun w' hSw => by go_simp⟩) hHeld ?_
 refine wpAnyH_take (i := 5) (v := .slice q0 d.params.length c0) rfl (by kernel_rfl) (by kernel_rfl) (by kernel_rfl) (fun _ _ _ h => h) (Or.inl ⟨by rfl, fun w' hSw => by have h := ent_cell (hSw _ _ EX3.out (by omega)) 2 _ rfl; go_simp⟩) hHeld ?_
 simp only [Act.put, List.getElem_toArray, List.getElem_cons_succ, List.getElem_cons_zero, List.setIfInBounds_toArray, List.set_cons_zero, List.set_cons_succ]
 refine wpAnyH_ready (rs := [6]) (by kernel_rfl) (by simp) ?_
 refine AllReadyH.cons rfl (fun K hK => ?_) AllReadyH.nil
 go_simp
 refine (addAll_any w3.drew bb n (cnt vars) _ d.params ((H3.out.below ((Below.refl _ _).drew)).nam) (rowS_below HR.out (H3.out.bel.drew)) (by omega) (cnt_small (by omega)) (by omega)).mono ?_
 rintro e w5 ⟨rfl, hg5, hn5⟩
 have H5 := Lib.hid ((H3.out.below ((Below.refl _ _).drew)).names hkm hb0 hg5 (hn5.cong (cnt_add vars d.params)))
 have hS5 : ∀ (g : Nat) (o : Obj), w3.heap[g]? = some o → g ≠ bb → w5.heap[g]? = some o := fun g o h h1 => (hg5.block g (ent_lt h) (fun e => h1 (Option.some.inj e))).trans h
 have K5 := Lib.hid (show KB (CB2 cb bb) w3 w5 from (KB.of_below ((Below.refl _ w3).drew)).trans (KB.of_map hg5 fun _ => .inr rfl))
 have EX5 := Lib.hid (hS5 _ _ EX3.out (by omega))
 clear hg5 hn5
 refine hK.out _ _ hS5 (fun hHeld => ?_)
 clear hS5
 clear hK K
 refine wpAnyH_done (by kernel_rfl) ?_ _
 clear H3 EX3
 go_upto_region 3 with fail
 refine wp_region_held_drew (S := fun (u : World) => (∀ (g : Nat) (o : Obj), w5.heap[g]? = some o → ¬ CB2 cb bb g → u.heap[g]? = some o) ∧ u.cell? ⟨cb, 3, none⟩ = some (.map (some bb))) (by kernel_rfl) (⟨fun g o h _ => h, ent_cell ((H5.out.below ((Below.refl _ _).drew)).ck) 3 _ rfl⟩) (fun hHeld => ?_)
 refine wpAnyH_take (i := 0) (v := .pointer (some ⟨cb, 0, none⟩)) rfl (by kernel_rfl) (by kernel_rfl) (by kernel_rfl) (fun _ _ _ h => h) (Or.inl ⟨by rfl, fun w' hSw => by go_simp⟩) hHeld ?_
 refine wpAnyH_take (i := 1) (v := .pointer (some ⟨cb, 0, none⟩)) rfl (by kernel_rfl) (by kernel_rfl) (by kernel_rfl) (fun _ _ _ h => h) (Or.inl ⟨by rfl, fun w' hSw => by go_simp⟩) hHeld ?_
 refine wpAnyH_take (i := 2) (v := .pointer (some ⟨cb, 3, none⟩)) rfl (by kernel_rfl) (by kernel_rfl) (by kernel_rfl) (fun _ _ _ h => h) (Or.inl ⟨by rfl, fun w' hSw => by go_simp⟩) hHeld ?_
 refine wpAnyH_take (i := 3) (v := .map (some bb)) rfl (by kernel_rfl) (by kernel_rfl) (by kernel_rfl) (fun _ _ _ h => h) (Or.inl ⟨by rfl, fun w' hSw => by have h := hSw.2; go_simp⟩) hHeld ?_
 refine wpAnyH_take (i := 4) (v := .pointer (some ⟨cb, 0, none⟩)) rfl (by kernel_rfl) (by kernel_rfl) (by kernel_rfl) (fun _ _ _ h => h) (Or.inl ⟨by rfl, fun w' hSw => by go_simp⟩) hHeld ?_
 refine wpAnyH_take (i := 5) (v := .func (.func 70) #[.pointer (some ⟨cb, 0, none⟩)] #[]) rfl (by kernel_rfl) (by kernel_rfl) (by kernel_rfl) (fun _ _ _ h => h) (Or.inl ⟨by rfl, fun w' hSw => by go_simp⟩) hHeld ?_
 refine wpAnyH_take (i := 6) (v := .pointer (some ⟨cb, 0, none⟩)) rfl (by kernel_rfl) (by kernel_rfl) (by kernel_rfl) (fun _ _ _ h => h) (Or.inl ⟨by rfl, fun w' hSw => by go_simp⟩) hHeld ?_
 refine wpAnyH_take (i := 7) (v := .func (.func 71) #[.pointer (some ⟨cb, 0, none⟩)] #[]) rfl (by kernel_rfl) (by kernel_rfl) (by kernel_rfl) (fun _ _ _ h => h) (Or.inl ⟨by rfl, fun w' hSw => by go_simp⟩) hHeld ?_
 refine wpAnyH_take (i := 8) (v := .agg #[.map (some bb), .func (.func 70) #[.pointer (some ⟨cb, 0, none⟩)] #[], .func (.func 71) #[.pointer (some ⟨cb, 0, none⟩)] #[]]) rfl (by kernel_rfl) (by kernel_rfl) (by kernel_rfl) (fun _ _ _ h => h) (Or.inl ⟨by rfl, fun w' hSw => by go_simp⟩) hHeld ?_
 refine wpAnyH_take (i := 9) (v := .pointer (some ⟨w.heap.size, 3, none⟩)) rfl (by kernel_rfl) (by kernel_rfl) (by kernel_rfl) (fun _ _ _ h => h) (Or.inl ⟨by rfl, fun w' hSw => by go_simp⟩) hHeld ?_
 refine wpAnyH_take (i := 10) (v := .agg #[.int .i64 k, .int .i64 p, .string sn, .int .i64 i, .slice q1 n1 c1, .slice q2 n2 c2, .slice q3 n3 c3]) rfl (by kernel_rfl) (by kernel_rfl) (by kernel_rfl) (fun _ _ _ h => h) (Or.inl ⟨by rfl, fun w' hSw => by have x3 := ent_cell (hSw.1 _ _ EX5.out (fun e => by rcases e with e | e <;> omega)) 3 _ rfl; have x4 := ent_cell (hSw.1 _ _ EX5.out (fun e => by rcases e with e | e <;> omega)) 4 _ rfl; have x5 := ent_cell (hSw.1 _ _ EX5.out (fun e => by rcases e with e | e <;> omega)) 5 _ rfl; have x6 := ent_cell (hSw.1 _ _ EX5.out (fun e => by rcases e with e | e <;> omega)) 6 _ rfl; have x7 := ent_cell (hSw.1 _ _ EX5.out (fun e => by rcases e with e | e <;> omega)) 7 _ rfl; have x8 := ent_cell (hSw.1 _ _ EX5.out (fun e => by rcases e with e | e <;> omega)) 8 _ rfl; have x9 := ent_cell (hSw.1 _ _ EX5.out (fun e => by rcases e with e | e <;> omega)) 9 _ rfl; go_simp⟩) hHeld ?_
 simp only [Act.put, List.getElem_toArray, List.getElem_cons_succ, List.getElem_cons_zero, List.setIfInBounds_toArray, List.set_cons_zero, List.set_cons_succ]
 refine wpAnyH_ready (rs := [11]) (by kernel_rfl) (by simp) ?_
 refine AllReadyH.cons rfl (fun K hK => ?_) AllReadyH.nil
 go_simp
 have hws : Wst (CkInv cb tb kb bb nk m) (CkOwn cb) bb W0 (asked a rr d.pos) (vars ++ d.params) (n + d.params.length) (CkOwn cb (asked a rr d.pos) w5.drew) w5.drew w5.drew := ⟨H5.out.bel.drew, Nat.le_refl _, fun _ _ _ _ => rfl, fun _ h => .inl h, (H5.out.below ((Below.refl _ _).drew)).nam, (H5.out.below ((Below.refl _ _).drew)).ck, (H5.out.below ((Below.refl _ _).drew)).map⟩
 refine (walk_any (ck_told cb tb kb bb nk m W0 hc0 hb0 hcm hkm) f d.body _ _ (vars ++ d.params) (n + d.params.length) w5.drew HX.out (by rw [List.length_append]; omega) (by omega) hws).mono ?_
 rintro e w7 ⟨rfl, h7⟩
 have H7 := Lib.hid (show Dst W0 cb tb kb bb nk m (walkS (ckE m) (ckP m) f (asked a rr d.pos) (vars ++ d.params) d.body) (vars ++ d.params) (n + d.params.length + 2 * Sx.ew f d.body) w7 from ⟨h7.bel, h7.inv.1, h7.inv.2, h7.nam⟩)
 have hS7 : ∀ (g : Nat) (o : Obj), w5.heap[g]? = some o → ¬ CB2 cb bb g → w7.heap[g]? = some o := fun g o h h1 => (h7.stay g (ent_lt h) (fun e => h1 (.inr e)) (fun e => h1 (.inl e))).trans h
 have hb5 := H5.out.bel
 have K7 := Lib.hid (show KB (CB2 cb bb) w5 w7 from ⟨h7.bel.os.trans hb5.os.symm, h7.bel.tape.trans hb5.tape.symm, h7.bel.output.trans hb5.output.symm, h7.size, fun g h h1 => h7.stay g h (fun e => h1 (.inr e)) (fun e => h1 (.inl e))⟩)
 have EX7 := Lib.hid (hS7 _ _ EX5.out (fun e => by rcases e with e | e <;> omega))
 clear h7 hws hb5
 refine hK.out _ _ ⟨hS7, ent_cell H7.out.ck 3 _ rfl⟩ (fun hHeld => ?_)
 clear hS7
 clear hK K
 refine wpAnyH_done (by kernel_rfl) ?_ _
 clear H5 EX5
 go_upto_region 4 with fail
 refine wp_region_held_drew (S := fun (u : World) => ∀ (g : Nat) (o : Obj), w7.heap[g]? = some o → g ≠ bb → u.heap[g]? = some o) (by kernel_rfl) (fun g o h _ => h) (fun hHeld => ?_)
 refine wpAnyH_take (i := 0) (v := .pointer (some ⟨cb, 0, none⟩)) rfl (by kernel_rfl) (by kernel_rfl) (by kernel_rfl) (fun _ _ _ h => h) (Or.inl ⟨by rfl, fun w' hSw => by go_simp⟩) hHeld ?_
 refine wpAnyH_take (i := 1) (v := .pointer (some ⟨cb, 0, none⟩)) rfl (by kernel_rfl) (by kernel_rfl) (by kernel_rfl) (fun _ _ _ h => h) (Or.inl ⟨by rfl, fun w' hSw => by go_simp⟩) hHeld ?_
 refine wpAnyH_take (i := 2) (v := .pointer (some ⟨cb, 3, none⟩)) rfl (by kernel_rfl) (by kernel_rfl) (by kernel_rfl) (fun _ _ _ h => h) (Or.inl ⟨by rfl, fun w' hSw => by go_simp⟩) hHeld ?_
 refine wpAnyH_take (i := 3) (v := .map (some bb)) rfl (by kernel_rfl) (by kernel_rfl) (by kernel_rfl) (fun _ _ _ h => h) (Or.inl ⟨by rfl, fun w' hSw => by have h := ent_cell (hSw _ _ H7.out.ck hcm) 3 _ rfl; go_simp⟩) hHeld ?_
 refine wpAnyH_take (i := 4) (v := .pointer (some ⟨w.heap.size, 2, none⟩)) rfl (by kernel_rfl) (by kernel_rfl) (by kernel_rfl) (fun _ _ _ h => h) (Or.inl ⟨by rfl, fun w' hSw => by go_simp⟩) hHeld ?_
 refine wpAnyH_take (i := 5) (v := .slice q0 d.params.length c0) rfl (by kernel_rfl) (by kernel_rfl) (by kernel_rfl) (fun _ _ _ h => h) (Or.inl ⟨by rfl, fun w' hSw => by have h := ent_cell (hSw _ _ EX7.out (by omega)) 2 _ rfl; go_simp⟩) hHeld ?_
 simp only [Act.put, List.getElem_toArray, List.getElem_cons_succ, List.getElem_cons_zero, List.setIfInBounds_toArray, List.set_cons_zero, List.set_cons_succ]
 refine wpAnyH_ready (rs := [6]) (by kernel_rfl) (by simp) ?_
 refine AllReadyH.cons rfl (fun K hK => ?_) AllReadyH.nil
 go_simp
 refine (dropAll_any w7.drew bb (n + d.params.length + 2 * Sx.ew f d.body) (cnt (vars ++ d.params)) _ d.params ((H7.out.below ((Below.refl _ _).drew)).nam) (rowS_below HR.out (H7.out.bel.drew)) (by omega) (cnt_small (by rw [List.length_append]; omega)) (by omega)).mono ?_
 rintro e w9 ⟨rfl, hg9, hn9⟩
 have H9 := Lib.hid ((H7.out.below ((Below.refl _ _).drew)).names hkm hb0 hg9 (hn9.cong (cnt_drop vars d.params)))
 have hS9 : ∀ (g : Nat) (o : Obj), w7.heap[g]? = some o → g ≠ bb → w9.heap[g]? = some o := fun g o h h1 => (hg9.block g (ent_lt h) (fun e => h1 (Option.some.inj e))).trans h
 have K9 := Lib.hid (show KB (CB2 cb bb) w7 w9 from (KB.of_below ((Below.refl _ w7).drew)).trans (KB.of_map hg9 fun _ => .inr rfl))
 clear hg9 hn9
 refine hK.out _ _ hS9 (fun hHeld => ?_)
 clear hS9
 clear hK K
 refine wpAnyH_done (by kernel_rfl) ?_ _
 go_wp2_with fail
 refine bodyPost_end (v := .tuple #[]) (by simp [results, Try.results48, go_sem]) rfl ?_
 refine ⟨rfl, ?_, by rw [defS, HRR.out]; exact H9.out.more (by omega)⟩
 exact ((KB.of_below HB.out).trans (K3.out.weak fun _ _ e => .inl e)).trans ((K5.out.trans K7.out).trans K9.out)
end Go.Proofs.Ytgoacbomphlhjaa
