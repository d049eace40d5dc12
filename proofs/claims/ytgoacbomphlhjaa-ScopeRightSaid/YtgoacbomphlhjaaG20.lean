/-
  Several texts in one: SFree, SAsk, SCk, SPart, SCkW.
-/
import Derived.Test.YtgoacbomphlhjaaG19
import Derived.Deep.CutBlock
namespace Go.Proofs.Ytgoacbomphlhjaa
open Go Go.RowKit
set_option linter.unusedVariables false
set_option linter.unusedSimpArgs false
/-- Free's variables: from block B on: the list, the bound names, the found ones, and the variables of these. -/
def FreeInv (B : Nat) (n : Nat) (us : List Nm) (w : World) : Prop :=
 ∃ lv, w.heap[B]? = some (.cells #[lv] 41 (0, 0)) ∧ OwnS w (B + 5) lv (Sx.once [] us) ∧ NamesC w (B + 2) us.length (cnt us) ∧ w.heap[B + 3]? = some (.cells #[.map (some (B + 1))] 83 (0, 0)) ∧ w.heap[B + 4]? = some (.cells #[.map (some (B + 2))] 83 (0, 0)) ∧ us.length ≤ n
def FreeOwn (B : Nat) (_ : List Nm) (w : World) (b : Nat) : Prop := b = B ∨ b = B + 2 ∨ ∃ lv, w.cell? ⟨B, 0, none⟩ = some lv ∧ lv.ownBlock = some b
def freeStepE (_ : Nat) (us : List Nm) (vars : List Nm) : Px.Expr → List Nm
 | .mk k _ nm _ _ _ _ => us ++ if k = 1 ∧ vars.contains nm = false then [nm] else []
def freeStepP (_ : Nat) (us : List Nm) (_ : List Nm) (_ : Px.Pat) : List Nm := us
theorem cnt_pos (l : List Nm) (s : Nm) : decide (0 < cnt l s) = l.contains s := by
 unfold cnt
 rw [Bool.eq_iff_iff]
 simp only [decide_eq_true_eq, List.contains_iff_mem]
 rw [← List.count_pos_iff]; omega
theorem cnt_zero (l : List Nm) (s : Nm) : decide (cnt l s = 0) = !l.contains s := by
 rw [← cnt_pos]
 unfold cnt
 rw [← decide_not]
 congr 1
 rw [eq_iff_iff]; omega
theorem cnt_bump (l : List Nm) (s : Nm) (x : Nm) : bump (cnt l) s (cnt l s + 1) x = cnt (l ++ [s]) x := by
 unfold bump cnt
 rw [List.count_append]
 by_cases h : x = s
 · subst h; simp
 · rw [if_neg h, List.count_singleton]; simp [show (s == x) = false from beq_eq_false_iff_ne.2 (fun e => h e.symm)]
theorem NamesC.same {w w' : World} {mb n : Nat} {c : Nm → Int} (h : NamesC w mb n c) (e : w'.heap[mb]? = w.heap[mb]?) : NamesC w' mb n c := by
 obtain ⟨D, ⟨es, clock, h1, h2⟩, h3⟩ := h
 exact ⟨D, ⟨es, clock, e.trans h1, h2⟩, h3⟩
theorem freeKeep (B : Nat) : ∀ n n' s w w', n ≤ n' → FreeInv B n s w → w.heap.size ≤ w'.heap.size → (∀ b, b < w.heap.size → b ≠ B + 1 → w'.heap[b]? = w.heap[b]?) → FreeInv B n' s w' ∧ ∀ b, FreeOwn B s w' b → FreeOwn B s w b := by
 intro n n' s w w' hn ⟨lv, h1, h2, h3, h4, h5, h6⟩ hs hk
 have e1 := (hk B (ent_lt h1) (by omega)).trans h1
 refine ⟨⟨lv, e1, own_stays h2 fun b hb => hk b (h2.lt b hb).2 (by have := (h2.lt b hb).1; omega), h3.same (hk _ h3.lt (by omega)), (hk _ (ent_lt h4) (by omega)).trans h4, (hk _ (ent_lt h5) (by omega)).trans h5, by omega⟩, fun b hb => ?_⟩
 rcases hb with h | h | ⟨lv', h, h'⟩
 · exact .inl h
 · exact .inr (.inl h)
 · refine .inr (.inr ⟨lv', ?_, h'⟩)
   rw [ent_cell e1 0 _ rfl] at h
   rw [← h]; exact ent_cell h1 0 _ rfl
abbrev FWst (B : Nat) (W0 : World) (s : List Nm) (vars : List Nm) (n : Nat) (O : Nat → Prop) (w wr : World) : Prop := Wst (FreeInv B) (FreeOwn B) (B + 1) W0 s vars n O w wr
theorem free_new {B : Nat} {W0 w w' : World} {us us' vars : List Nm} {n : Nat} (H : FWst B W0 us vars n (FreeOwn B us w) w w) (hbel : Below W0.heap.size W0 w') (hsz : w.heap.size ≤ w'.heap.size)
 (hsame : ∀ b, b < w.heap.size → b ≠ B → b ≠ B + 2 → (∀ lv, w.cell? ⟨B, 0, none⟩ = some lv → lv.ownBlock ≠ some b) → w'.heap[b]? = w.heap[b]?) (lv' : Value) (hl : w'.heap[B]? = some (.cells #[lv'] 41 (0, 0))) (ho : OwnS w' (B + 5) lv' (Sx.once [] us'))
 (hown : ∀ b, lv'.ownBlock = some b → (∃ lv, w.cell? ⟨B, 0, none⟩ = some lv ∧ lv.ownBlock = some b) ∨ w.heap.size ≤ b) (hf : NamesC w' (B + 2) us'.length (cnt us')) (hu : us'.length ≤ n + 1) : FWst B W0 us' vars (n + 1) (FreeOwn B us w) w w' := by
 obtain ⟨lv, i1, i2, i3, i4, i5, i6⟩ := H.inv
 have hlv : ∀ b, b ≤ B + 4 → ∀ l, w.cell? ⟨B, 0, none⟩ = some l → l.ownBlock ≠ some b := by
  intro b hb l hc e
  rw [ent_cell i1 0 _ rfl] at hc
  have := (i2.lt b (by rw [← e, ← Option.some.inj hc]; rfl)).1
  omega
 refine ⟨hbel, hsz, fun b h1 h2 h3 => hsame b h1 (fun e => h3 (.inl e)) (fun e => h3 (.inr (.inl e))) (fun l hc e => h3 (.inr (.inr ⟨l, hc, e⟩))), fun b hb => ?_, (H.nam.same (hsame _ H.nam.lt (by omega) (by omega) (hlv _ (by omega)))).mono (by omega),
  ⟨lv', hl, ho, hf, (hsame _ (ent_lt i4) (by omega) (by omega) (hlv _ (by omega))).trans i4, (hsame _ (ent_lt i5) (by omega) (by omega) (hlv _ (by omega))).trans i5, hu⟩⟩
 rcases hb with h | h | ⟨l, h, h'⟩
 · exact .inl (.inl h)
 · exact .inl (.inr (.inl h))
 · rw [ent_cell hl 0 _ rfl] at h
   rcases hown b (by rw [← h', ← Option.some.inj h]; rfl) with h | h
   · exact .inl (.inr (.inr h))
   · exact .inr h
set_option maxHeartbeats 4000000 in
theorem free1_any (B : Nat) (W0 : World) (hB : W0.heap.size ≤ B) (f : Nat) (x : Px.Expr) (v : Value) (us vars : List Nm) (n : Nat) (w : World) (hx : ExprAt f W0 v x) (hw : vars.length + Sx.ew f x ≤ 400000) (hn : n ≤ 100000000) (h : FWst B W0 us vars n (FreeOwn B us w) w w) :
 Calls Try.prog 31 #[v, .pointer (some ⟨B + 3, 0, none⟩), .pointer (some ⟨B + 4, 0, none⟩), .pointer (some ⟨B, 0, none⟩)] w fun e w' => e = .returned (.tuple #[]) ∧ FWst B W0 (freeStepE f us vars x) vars (n + 1) (FreeOwn B us w) w w' := by
 cases f with
 | zero => exact hx.elim
 | succ f =>
 cases x with | mk k p nm i ns xs al =>
 obtain ⟨nv, xv, av, rfl, r1, r2, r3⟩ := hx
 obtain ⟨q1, c1, rfl⟩ := r1.len
 obtain ⟨q2, c2, rfl⟩ := r2.len
 obtain ⟨q3, c3, rfl⟩ := r3.len
 have hnm : nm.length ≤ 400000 := by rw [Sx.ew] at hw; omega
 have hvl : vars.length ≤ 400000 := by omega
 obtain ⟨lv, i1, i2, i3, i4, i5, i6⟩ := h.inv
 have H := Lib.hid h
 have hB5 := ent_lt i5
 have HL := Lib.hid i1; have HO := Lib.hid i2; have HF := Lib.hid i3; have HBD := Lib.hid i4; have HFD := Lib.hid i5
 have HUS := Lib.hid i6
 clear r1 r2 r3 i1 i2 i3 i4 i5 h hw
 go_enter Try.func31, Try.ntmps31
 have EX := Lib.hid (ent_new w #[.int .i64 k, .int .i64 p, .string ⟨nm.toArray⟩, .int .i64 i, .slice q1 ns.length c1, .slice q2 xs.length c2, .slice q3 al.length c3] 53)
 have HB := Lib.hid (show Below w.heap.size w (w.alloc (.cells #[.int .i64 k, .int .i64 p, .string ⟨nm.toArray⟩, .int .i64 i, .slice q1 ns.length c1, .slice q2 xs.length c2, .slice q3 al.length c3] 53)) from (Below.refl _ _).alloc (Nat.le_refl _) _)
 go_upto_region 1 with fail
 generalize w.alloc (.cells #[.int .i64 k, .int .i64 p, .string ⟨nm.toArray⟩, .int .i64 i, .slice q1 ns.length c1, .slice q2 xs.length c2, .slice q3 al.length c3] 53) = w1 at EX HB ⊢
 have e0 := ent_cell EX.out 0 _ rfl; have e2 := ent_cell EX.out 2 _ rfl
 have b0 := ent_cell (ent_below HBD.out HB.out) 0 _ rfl
 -- what holds if nothing is found
 have HSAME := Lib.hid (show ∀ w2, Below w.heap.size w w2 → FWst B W0 us vars (n + 1) (FreeOwn B us w) w w2 from fun w2 hb =>
  have hk := freeKeep B n (n + 1) us w w2 (by omega) H.out.inv hb.size (fun g hg _ => hb.block g hg)
  ⟨H.out.bel.trans (hb.mono H.out.bel.size), hb.size, fun g hg _ _ => hb.block g hg, fun g hg => .inl (hk.2 g hg), (H.out.nam.below hb).mono (by omega), hk.1⟩)
 by_cases hk : k = 1
 · have hkb : ((k : Int) == 1) = true := by simp [hk]
   have HHAS := Lib.hid (has_any w1 (B + 1) n (cnt vars) nm (H.out.nam.below HB.out) hnm (fun s => by have := cnt_small (l := vars) (by omega) s; omega))
   have HK := Lib.hid hk
   clear hk
   go_wp2_with fail
   refine HHAS.out.mono ?_
   rintro e w2 ⟨rfl, rfl⟩
   rw [cnt_pos]
   cases hv : vars.contains nm with
   | true =>
     have HV := Lib.hid hv; clear hv
     go_wp2_with fail
     refine bodyPost_end (v := .tuple #[]) (by simp [results, Try.results31, go_sem]) rfl ?_
     refine ⟨rfl, ?_⟩
     rw [freeStepE, if_neg (fun h => by rw [HV.out] at h; cases h.2), List.append_nil]
     exact HSAME.out _ HB.out
   | false =>
     have HV := Lib.hid hv; clear hv
     have f0 := ent_cell (ent_below HFD.out HB.out) 0 _ rfl
     have HADD := Lib.hid (add_any w2 (B + 2) us.length (cnt us) nm (HF.out.below HB.out) hnm (fun s => by have := List.count_le_length (a := s) (l := us); have := HUS.out; unfold cnt; omega) (by have := HUS.out; omega))
     go_wp2_with fail
     refine HADD.out.mono ?_
     rintro e w3 ⟨rfl, hg, hnm3⟩
     rw [cnt_zero]
     have hs1 := HB.out.size
     have hst : freeStepE (f + 1) us vars (.mk k p nm i ns xs al) = us ++ [nm] := by rw [freeStepE, if_pos ⟨HK.out, HV.out⟩]
     have HST := Lib.hid hst
     have HBEL := Lib.hid (show Below W0.heap.size W0 w3 from (H.out.bel.trans (HB.out.mono H.out.bel.size)).trans ⟨hg.os, hg.tape, hg.output, hg.size, fun b hb => hg.block b (by have := H.out.bel.size; omega) (fun e => by have := Option.some.inj e; omega)⟩)
     have HSM := Lib.hid (show ∀ b, b < w.heap.size → b ≠ B + 2 → w3.heap[b]? = w.heap[b]? from fun b h1 h2 => (hg.block b (by omega) (fun e => h2 (Option.some.inj e))).trans (HB.out.block b h1))
     have hs3 : w.heap.size ≤ w3.heap.size := Nat.le_trans hs1 hg.size
     have HF3 : Hid (NamesC w3 (B + 2) (us ++ [nm]).length (cnt (us ++ [nm]))) := Lib.hid (by rw [List.length_append]; exact hnm3.cong (cnt_bump us nm))
     have HL3 := Lib.hid ((HSM.out B (ent_lt HL.out) (by omega)).trans HL.out)
     have HO3 := Lib.hid (own_stays HO.out fun b hb => HSM.out b (HO.out.lt b hb).2 (by have := (HO.out.lt b hb).1; omega))
     have EX3 := Lib.hid ((hg.block _ (ent_lt EX.out) (fun e => by have := Option.some.inj e; omega)).trans EX.out)
     clear hnm3 hg hst e0 e2 b0 f0
     obtain ⟨lq, lc, rfl⟩ := own_slice HO.out
     cases hu : us.contains nm with
     | true =>
       have HU := Lib.hid hu; clear hu
       go_wp2_with fail
       refine bodyPost_end (v := .tuple #[]) (by simp [results, Try.results31, go_sem]) rfl ?_
       refine ⟨rfl, ?_⟩
       rw [HST.out]
       exact free_new H.out HBEL.out hs3 (fun b h1 _ h2 _ => HSM.out b h1 h2) _ HL3.out (by rw [Sx.once_snoc, Sx.once_contains, if_pos HU.out]; exact HO3.out) (fun b hb => .inl ⟨_, ent_cell HL.out 0 _ rfl, hb⟩) HF3.out (by have := HUS.out; rw [List.length_append]; simp; omega)
     | false =>
       have HU := Lib.hid hu; clear hu
       have l0 := ent_cell HL3.out 0 _ rfl; have x2 := ent_cell EX3.out 2 _ rfl
       have HE := Lib.hid (ent_new w3 #[.string ⟨nm.toArray⟩] 9)
       have HBA := Lib.hid (show Below w3.heap.size w3 (w3.alloc (.cells #[.string ⟨nm.toArray⟩] 9)) from (Below.refl _ _).alloc (Nat.le_refl _) _)
       have HO4 := Lib.hid (own_kept HO3.out HBA.out)
       have hol := Sx.once_len us []
       have HLN : Hid ((Sx.once [] us).length + [nm].length ≤ 1000000000) := Lib.hid (by have := HUS.out; simp at hol ⊢; omega)
       clear hol
       go_wp2_with (at_builtin; refine list_app_s rfl (.tmp 21) (.tmp 24) rfl (B + 5) _ _ rfl HO4.out _ rfl [nm] (row_cell HE.out rfl rfl) HLN.out (by have := HBA.out.size; omega) ?_)
       intro v5 w5 happ
       have HBEL5 := Lib.hid (happ.below HO4.out (HBEL.out.trans (HBA.out.mono HBEL.out.size)) (by have := HBA.out.size; have := HBEL.out.size; omega) (by omega))
       have HL5 := Lib.hid (happ.at HO4.out (ent_below HL3.out HBA.out) (by omega))
       have HF5 := Lib.hid ((HF3.out.below HBA.out).same (happ.2.1.block _ (by have := (HF3.out.below HBA.out).lt; omega) (fun e => by have := (HO4.out.lt _ e.symm).1; omega)))
       have HSM5 := Lib.hid (show ∀ b, b < w.heap.size → b ≠ B + 2 → (Value.slice lq (Sx.once [] us).length lc).ownBlock ≠ some b → w5.heap[b]? = w.heap[b]? from fun b h1 h2 h3 => (happ.2.1.block b (by have := HBA.out.size; omega) (fun e => h3 e.symm)).trans ((HBA.out.block b (by omega)).trans (HSM.out b h1 h2)))
       have HLOC := Lib.hid happ.2.2
       have hs5 : w.heap.size ≤ w5.heap.size := Nat.le_trans hs3 (Nat.le_trans HBA.out.size happ.2.1.size)
       have hsa : w.heap.size ≤ (w3.alloc (.cells #[.string ⟨nm.toArray⟩] 9)).heap.size := Nat.le_trans hs3 HBA.out.size
       have HSA := Lib.hid hsa
       have HO5 := Lib.hid happ.1
       obtain ⟨p5, c5, rfl⟩ := own_slice happ.1
       have l5 := ent_cell HL5.out 0 _ rfl; have l5f := ent_free HL5.out
       clear happ l0 x2 hsa
       go_wp2
       refine bodyPost_end (v := .tuple #[]) (by simp [results, Try.results31, go_sem]) rfl ?_
       refine ⟨rfl, ?_⟩
       rw [HST.out, show (Sx.once [] us).length + 1 = (Sx.once [] us ++ [nm]).length from by simp]
       refine free_new H.out (HBEL5.out.setCell (p := ⟨B, 0, none⟩) (by dsimp only; omega) _) (by simpa using hs5) (fun b h1 h2 h3 h4 => (Below.heap_setCell w5 ⟨B, 0, none⟩ _ b h2).trans (HSM5.out b h1 h3 (h4 _ (ent_cell HL.out 0 _ rfl)))) _ (ent_put #[.slice p5 (Sx.once [] us ++ [nm]).length c5] HL5.out 0 _ rfl) ?_ (fun b hb => ?_) ?_ (by have := HUS.out; rw [List.length_append]; simp; omega)
       · rw [Sx.once_snoc, Sx.once_contains, if_neg (by rw [HU.out]; decide)]
         exact own_stays HO5.out fun b hb => Below.heap_setCell w5 ⟨B, 0, none⟩ _ b (by dsimp only; have := (HO5.out.lt b hb).1; omega)
       · rcases HLOC.out with e | e
         · exact .inl ⟨_, ent_cell HL.out 0 (.slice lq (Sx.once [] us).length lc) rfl, e.symm.trans hb⟩
         · exact .inr (by have := e b hb; have := HSA.out; omega)
       · exact HF5.out.same (Below.heap_setCell w5 ⟨B, 0, none⟩ _ _ (by dsimp only; omega))
 · have hkb : ((k : Int) == 1) = false := beq_eq_false_iff_ne.2 (by omega)
   have HK := Lib.hid hk
   clear hk
   go_wp2_with fail
   refine bodyPost_end (v := .tuple #[]) (by simp [results, Try.results31, go_sem]) rfl ?_
   refine ⟨rfl, ?_⟩
   rw [freeStepE, if_neg (fun h => HK.out h.1), List.append_nil]
   exact HSAME.out _ HB.out
theorem free2_any (B : Nat) (W0 : World) (hB : W0.heap.size ≤ B) (f : Nat) (x : Px.Pat) (v : Value) (us vars : List Nm) (n : Nat) (w : World) (hx : PatAt f W0 v x) (h : FWst B W0 us vars n (FreeOwn B us w) w w) :
 Calls Try.prog 34 #[v] w fun e w' => e = .returned (.tuple #[]) ∧ FWst B W0 (freeStepP f us vars x) vars n (FreeOwn B us w) w w' := by
 obtain ⟨a0, a1, a2, a3, q, m, c, rfl⟩ := patAt_sh hx
 have H := Lib.hid h
 clear h hx
 go_enter Try.func34, Try.ntmps34
 have HB := Lib.hid (show Below w.heap.size w (w.alloc (.cells #[.int .i64 a0, .int .i64 a1, .string a2, .int .i64 a3, .slice q m c] 94)) from (Below.refl _ _).alloc (Nat.le_refl _) _)
 go_wp2_with fail
 refine bodyPost_end (v := .tuple #[]) (by simp [results, Try.results34, go_sem]) rfl ?_
 have hk := freeKeep B n n us w _ (Nat.le_refl _) H.out.inv HB.out.size (fun g hg _ => HB.out.block g hg)
 exact ⟨rfl, ⟨H.out.bel.trans (HB.out.mono H.out.bel.size), HB.out.size, fun g hg _ _ => HB.out.block g hg, fun g hg => .inl (hk.2 g hg), H.out.nam.below HB.out, hk.1⟩⟩
theorem free_told (B : Nat) (W0 : World) (hB : W0.heap.size ≤ B) : Told (FreeInv B) (FreeOwn B) (B + 1) W0 31 34 #[] #[.pointer (some ⟨B + 3, 0, none⟩), .pointer (some ⟨B + 4, 0, none⟩), .pointer (some ⟨B, 0, none⟩)] #[] #[] freeStepE freeStepP where
 keep := freeKeep B
 lt := fun n s w b hi ho => by
  obtain ⟨lv, i1, i2, i3, i4, i5, i6⟩ := hi
  have := ent_lt i5
  rcases ho with rfl | rfl | ⟨l, h, h'⟩
  · omega
  · omega
  · rw [ent_cell i1 0 _ rfl] at h
    exact (i2.lt b (by rw [← h', ← Option.some.inj h]; rfl)).2
 old := by omega
 callE := fun args w => by kernel_rfl
 callP := fun args w => by kernel_rfl
 expr := fun f x v s vars n w hx hw hn h => free1_any B W0 hB f x v s vars n w hx hw hn h
 pat := fun f x v s vars n w hx hw hn h => free2_any B W0 hB f x v s vars n w hx h
theorem foldl_flat {α β : Type} (g : List β → α → List β) (h : α → List β) : ∀ (l : List α) (s : List β), (∀ s a, a ∈ l → g s a = s ++ h a) → l.foldl g s = s ++ l.flatMap h
 | [], s, _ => by simp
 | a :: r, s, hg => by
   rw [List.foldl_cons, hg s a (by simp), foldl_flat g h r _ (fun s a ha => hg s a (by simp [ha])), List.flatMap_cons, List.append_assoc]
theorem walk_free : ∀ (f : Nat) (us vars : List Nm) (x : Px.Expr), walkS freeStepE freeStepP f us vars x = us ++ Sx.usesE f x vars
 | 0, us, vars, x => by simp [walkS, Sx.usesE]
 | f + 1, us, vars, .mk k p nm i ns xs al => by
   rw [walkS, Sx.usesE, freeStepE]
   rw [foldl_flat _ (fun y => Sx.usesE f y (vars ++ ns)) xs _ (fun s a _ => walk_free f s (vars ++ ns) a)]
   rw [foldl_flat _ (fun a : Px.Pat × Px.Expr => Sx.usesE f a.2 (vars ++ Sx.boundP f a.1)) al _ (fun s a _ => by rw [freeStepP]; exact walk_free f s (vars ++ Sx.boundP f a.1) a.2)]
   simp only [List.append_assoc]
set_option maxHeartbeats 4000000 in
theorem Free_any (f : Nat) (x : Px.Expr) (v : Value) (w : World) (hx : ExprAt f w v x) (hw : Sx.ew f x ≤ 400000) : Calls Try.prog 15 #[v] w (RNewS w (Sx.freeE f x)) := by
 have HX := Lib.hid hx; have HW := Lib.hid hw
 obtain ⟨k, p, sn, i, q1, n1, c1, q2, n2, c2, q3, n3, c3, rfl⟩ := exprAt_sh hx
 have hmm := @run_makeMap Try.prog
 clear hx hw
 go_enter Try.func15, Try.ntmps15
 go_upto_region 4 with fail
 obtain ⟨w1, hw1⟩ : ∃ u, u = w.alloc (.cells #[.int .i64 k, .int .i64 p, .string sn, .int .i64 i, .slice q1 n1 c1, .slice q2 n2 c2, .slice q3 n3 c3] 53) := ⟨_, rfl⟩
 rw [← hw1]
 have s1 : w1.heap.size = w.heap.size + 1 := by rw [hw1]; simp
 have x1 := ent_new w #[.int .i64 k, .int .i64 p, .string sn, .int .i64 i, .slice q1 n1 c1, .slice q2 n2 c2, .slice q3 n3 c3] 53
 have b1 : Below w.heap.size w w1 := by rw [hw1]; exact (Below.refl _ _).alloc (Nat.le_refl _) _
 rw [← hw1] at x1
 obtain ⟨w2, hw2⟩ : ∃ u, u = w1.alloc (.cells #[.slice none 0 0] 41) := ⟨_, rfl⟩
 rw [← hw2]
 have s2 : w2.heap.size = w.heap.size + 2 := by rw [hw2]; simp; omega
 have l2 := ent_new w1 #[.slice none 0 0] 41
 have b2 : Below w1.heap.size w1 w2 := by rw [hw2]; exact (Below.refl _ _).alloc (Nat.le_refl _) _
 rw [← hw2, s1] at l2
 obtain ⟨w3, hw3⟩ : ∃ u, u = w2.alloc (.map #[] 0) := ⟨_, rfl⟩
 rw [← hw3]
 have s3 : w3.heap.size = w.heap.size + 3 := by rw [hw3]; simp; omega
 have m3 := NamesC.made w2
 have b3 : Below w2.heap.size w2 w3 := by rw [hw3]; exact (Below.refl _ _).alloc (Nat.le_refl _) _
 rw [← hw3, s2] at m3
 obtain ⟨w4, hw4⟩ : ∃ u, u = w3.alloc (.map #[] 0) := ⟨_, rfl⟩
 rw [← hw4]
 have s4 : w4.heap.size = w.heap.size + 4 := by rw [hw4]; simp; omega
 have m4 := NamesC.made w3
 have b4 : Below w3.heap.size w3 w4 := by rw [hw4]; exact (Below.refl _ _).alloc (Nat.le_refl _) _
 rw [← hw4, s3] at m4
 obtain ⟨w5, hw5⟩ : ∃ u, u = w4.alloc (.cells #[.map (some (w.heap.size + 1 + 1))] 83) := ⟨_, rfl⟩
 rw [← hw5]
 have s5 : w5.heap.size = w.heap.size + 5 := by rw [hw5]; simp; omega
 have v5 := ent_new w4 #[.map (some (w.heap.size + 1 + 1))] 83
 have b5 : Below w4.heap.size w4 w5 := by rw [hw5]; exact (Below.refl _ _).alloc (Nat.le_refl _) _
 rw [← hw5, s4] at v5
 obtain ⟨w6, hw6⟩ : ∃ u, u = w5.alloc (.cells #[.map (some (w.heap.size + 1 + 1 + 1))] 83) := ⟨_, rfl⟩
 rw [← hw6]
 have s6 : w6.heap.size = w.heap.size + 6 := by rw [hw6]; simp; omega
 have v6 := ent_new w5 #[.map (some (w.heap.size + 1 + 1 + 1))] 83
 have b6 : Below w5.heap.size w5 w6 := by rw [hw6]; exact (Below.refl _ _).alloc (Nat.le_refl _) _
 rw [← hw6, s5] at v6
 have c46 : Below w4.heap.size w4 w6 := b5.trans (b6.mono (by omega))
 have c26 : Below w2.heap.size w2 w6 := (b3.trans (b4.mono (by omega))).trans (c46.mono (by omega))
 have EX := Lib.hid ((c26.block _ (by omega)).trans ((b2.block _ (by omega)).trans x1))
 have EL := Lib.hid ((c26.block _ (by omega)).trans l2)
 have EB := Lib.hid ((b6.block _ (by omega)).trans v5)
 have EF := Lib.hid v6
 have HN1 := Lib.hid (m3.below (b4.trans (c46.mono (by omega))))
 have HN2 := Lib.hid (m4.below c46)
 have HB := Lib.hid ((b1.trans (b2.mono (by omega))).trans (c26.mono (by omega)))
 have hsz := s6
 clear hw1 hw2 hw3 hw4 hw5 hw6 s1 s2 s3 s4 s5 s6 x1 l2 m3 m4 v5 v6 b1 b2 b3 b4 b5 b6 c46 c26
 have e0 := ent_cell EX.out 0 _ rfl; have e1 := ent_cell EX.out 1 _ rfl; have e2 := ent_cell EX.out 2 _ rfl; have e3 := ent_cell EX.out 3 _ rfl; have e4 := ent_cell EX.out 4 _ rfl; have e5 := ent_cell EX.out 5 _ rfl; have e6 := ent_cell EX.out 6 _ rfl
 have f0 := ent_cell EB.out 0 _ rfl
 have hws : FWst (w.heap.size + 1) w [] [] 0 (FreeOwn (w.heap.size + 1) [] w6) w6 w6 := ⟨HB.out, Nat.le_refl _, fun _ _ _ _ => rfl, fun _ h => .inl h, HN1.out.cong (fun s => by simp [cnt]),
  ⟨_, EL.out, World.ownsRow_nil _ _ _ _, HN2.out.cong (fun s => by simp [cnt]), EB.out, EF.out, Nat.le_refl _⟩⟩
 have HWS := Lib.hid hws
 clear hws
 go_wp2_with fail
 clear e0 e1 e2 e3 e4 e5 e6 f0
 refine (walk_any (free_told (w.heap.size + 1) w (by omega)) f x _ [] [] 0 w6 HX.out (by have := HW.out; simpa using this) (by have := HW.out; omega) HWS.out).mono ?_
 rintro e w7 ⟨rfl, k⟩
 obtain ⟨lv, i1, i2, _⟩ := k.inv
 rw [walk_free, List.nil_append] at i2
 have HO := Lib.hid i2
 have HB7 := Lib.hid k.bel
 have l0 := ent_cell i1 0 _ rfl
 obtain ⟨pl, cl, rfl⟩ := own_slice i2
 clear k i1 i2
 go_wp2_with fail
 go_ret
 exact ⟨_, rfl, HB7.out, newS_own HO.out rfl (by omega)⟩
end Go.Proofs.Ytgoacbomphlhjaa
namespace Go.Proofs.Ytgoacbomphlhjaa
open Go Go.RowKit
set_option linter.unusedVariables false
set_option linter.unusedSimpArgs false
/-- All blocks that were there are as they were, but those of S. -/
structure KB (S : Nat → Prop) (w w' : World) : Prop where
 os : w'.os = w.os
 tape : w'.tape = w.tape
 output : w'.output = w.output
 size : w.heap.size ≤ w'.heap.size
 block : ∀ b, b < w.heap.size → ¬ S b → w'.heap[b]? = w.heap[b]?
theorem KB.refl (S : Nat → Prop) (w : World) : KB S w w := ⟨rfl, rfl, rfl, Nat.le_refl _, fun _ _ _ => rfl⟩
theorem KB.trans {S : Nat → Prop} {a b c : World} (h : KB S a b) (k : KB S b c) : KB S a c :=
 ⟨k.os.trans h.os, k.tape.trans h.tape, k.output.trans h.output, Nat.le_trans h.size k.size, fun g hg hs => (k.block g (Nat.lt_of_lt_of_le hg h.size) hs).trans (h.block g hg hs)⟩
theorem KB.weak {S T : Nat → Prop} {a b : World} (h : KB S a b) (hs : ∀ g, g < a.heap.size → S g → T g) : KB T a b := ⟨h.os, h.tape, h.output, h.size, fun g hg ht => h.block g hg (fun e => ht (hs g hg e))⟩
theorem KB.of_below {S : Nat → Prop} {a b : World} (h : Below a.heap.size a b) : KB S a b := ⟨h.os, h.tape, h.output, h.size, fun g hg _ => h.block g hg⟩
theorem KB.of_map {S : Nat → Prop} {a b : World} {mb : Nat} (h : a.grownBy b (some mb)) (hm : mb < a.heap.size → S mb) : KB S a b := ⟨h.os, h.tape, h.output, h.size, fun g hg hs => h.block g hg (fun e => by have := Option.some.inj e; subst this; exact hs (hm hg))⟩
theorem KB.below {S : Nat → Prop} {a b : World} {lo : Nat} {w : World} (h : KB S a b) (hw : Below lo w a) (hl : lo ≤ w.heap.size) (hs : ∀ g, g < lo → ¬ S g) : Below lo w b :=
 hw.trans ⟨h.os, h.tape, h.output, h.size, fun g hg => h.block g (by have := hw.size; omega) (hs g hg)⟩
theorem KB.at {S : Nat → Prop} {a b : World} (h : KB S a b) {g : Nat} {o : Obj} (e : a.heap[g]? = some o) (hs : ¬ S g) : b.heap[g]? = some o := (h.block g (ent_lt e) hs).trans e
theorem NamesC.kb {S : Nat → Prop} {a b : World} {mb n : Nat} {c : Nm → Int} (h : NamesC a mb n c) (k : KB S a b) (hs : ¬ S mb) : NamesC b mb n c := h.same (k.block mb h.lt hs)
theorem MapG.same {α : Type} {R : RdU} {enc : α → DU} {w w' : World} {mb n : Nat} {m : Nm → Option α} (h : MapG R enc w mb n m) (e : w'.heap[mb]? = w.heap[mb]?) : MapG R enc w' mb n m := by
 obtain ⟨D, ⟨es, clock, h1, h2⟩, h3⟩ := h
 exact ⟨D, ⟨es, clock, e.trans h1, h2⟩, h3⟩
theorem MapG.kb {α : Type} {R : RdU} {enc : α → DU} {S : Nat → Prop} {a b : World} {mb n : Nat} {m : Nm → Option α} (h : MapG R enc a mb n m) (k : KB S a b) (hs : ¬ S mb) : MapG R enc b mb n m := h.same (k.block mb h.lt hs)
/-- The checker lies at block cb. -/
def CkAt (w : World) (cb : Nat) (at_ : Int) (tb kb bb : Nat) : Prop := w.heap[cb]? = some (.cells #[.int .i64 at_, .map (some tb), .map (some kb), .map (some bb)] 85 (0, 0))
def asked (at_ : Int) (right : Bool) (place : Int) : Int := if right = false ∧ at_ = -1 then place else at_
abbrev Only (cb : Nat) : Nat → Prop := fun b => b = cb
set_option maxHeartbeats 1000000 in
theorem ask_any (w : World) (cb tb kb bb : Nat) (a : Int) (right : Bool) (place : Int) (h : CkAt w cb a tb kb bb) :
 Calls Try.prog 46 #[.pointer (some ⟨cb, 0, none⟩), .bool right, .int .i64 place] w fun e w' => e = .returned (.tuple #[]) ∧ KB (Only cb) w w' ∧ CkAt w' cb (asked a right place) tb kb bb := by
 have EC := Lib.hid h
 have hfz := ent_free h 0
 have e0 := ent_cell h 0 _ rfl
 unfold CkAt at h
 clear h
 go_enter Try.func46, Try.ntmps46
 cases right with
 | true =>
   go_wp2_with fail
   refine bodyPost_end (v := .tuple #[]) (by simp [results, Try.results46, go_sem]) rfl ?_
   exact ⟨rfl, KB.refl _ _, by rw [asked, if_neg (by simp)]; exact EC.out⟩
 | false =>
   by_cases ha : a = -1
   · subst ha
     go_wp2_with fail
     refine bodyPost_end (v := .tuple #[]) (by simp [results, Try.results46, go_sem]) rfl ?_
     exact ⟨rfl, ⟨rfl, rfl, rfl, by simp, fun b _ hb => Below.heap_setCell w ⟨cb, 0, none⟩ _ b hb⟩, by rw [asked, if_pos ⟨rfl, rfl⟩]; exact ent_set EC.out 0 _⟩
   · have hb : (a == -1) = false := beq_eq_false_iff_ne.2 ha
     go_wp2_with fail
     refine bodyPost_end (v := .tuple #[]) (by simp [results, Try.results46, go_sem]) rfl ?_
     exact ⟨rfl, KB.refl _ _, by rw [asked, if_neg (by simp [ha])]; exact EC.out⟩
set_option maxHeartbeats 1000000 in
theorem comeOnce_any (w : World) (lv : Value) (l : List Nm) (hr : RowS w lv l) (hl : nw l ≤ 400000) :
 Calls Try.prog 69 #[lv] w fun e w' => e = .returned (.bool (addsB (fun _ => 0) l)) ∧ Below w.heap.size w w' := by
 have HR := Lib.hid hr
 clear hr
 have hmm := @run_makeMap Try.prog
 have HADD := Lib.hid (addAll_any (w.alloc (.map #[] 0)) w.heap.size 0 (fun _ => 0) lv l (NamesC.made w) (rowS_below HR.out ((Below.refl _ w).alloc (Nat.le_refl _) _)) hl (by intro s; omega) (by omega))
 go_enter Try.func69, Try.ntmps69
 go_wp2_with fail
 refine HADD.out.mono ?_
 rintro e w1 ⟨rfl, hg, _⟩
 have HB := Lib.hid (below_map ((Below.refl _ w).alloc (Nat.le_refl _) (.map #[] 0)) hg (Nat.le_refl _))
 clear hg
 go_wp2_with fail
 go_ret
 exact ⟨rfl, HB.out⟩
theorem enc_third {a b : C3} (h : encK a = encK b) : a.2.2 = b.2.2 := by
 simp only [encK, DataW.agg.injEq, List.cons.injEq, DataW.lit.injEq, Lit.int.injEq, true_and, and_true] at h
 exact h.2.2
/-- A constructor with so many fields is there. -/
def conIs (m : Nm → Option C3) (s : Nm) (fields : Int) : Bool := match m s with | some a => decide (a.2.2 = fields) | none => false
set_option maxHeartbeats 1000000 in
theorem ckcon_any (w : World) (cb tb kb bb n : Nat) (a : Int) (m : Nm → Option C3) (s : Nm) (fields place : Int) (h : CkAt w cb a tb kb bb) (hm : MapC w kb n m) (hs : s.length ≤ 400000) :
 Calls Try.prog 75 #[.pointer (some ⟨cb, 0, none⟩), .string ⟨s.toArray⟩, .int .i64 fields, .int .i64 place] w fun e w' => e = .returned (.tuple #[]) ∧ KB (Only cb) w w' ∧ CkAt w' cb (asked a (conIs m s fields) place) tb kb bb := by
 have EC := Lib.hid h
 obtain ⟨D, o1, t1, n1⟩ := hm
 have O1 := Lib.hid o1; have N1 := Lib.hid n1
 have HK := Lib.hid (keyLit s (by unfold maxLen; omega))
 have hz : (zeroValue 38).run Try.prog w = .ok (mkC (0, 0, 0)) w := by kernel_rfl
 have HZ := Lib.hid hz
 have e2 := ent_cell EC.out 2 _ rfl
 unfold CkAt at h
 clear h o1 n1 hz
 go_enter Try.func75, Try.ntmps75
 cases hms : m s with
 | none =>
   have hh := (N1.out s).1
   rw [hms] at hh
   go_wp2_with (first
    | (at_lookup; (refine wpList_lookup_own_ok _ rfl _ _ 35 rfl 9 38 lawStr Try.underlying35 RCon HZ.out (encK (0, 0, 0)) [] (RCon_mk _) kb n D rfl O1.out _ _ rfl HK.out ?_); intro v ps hv; obtain ⟨⟨k1, k2, k3⟩, rfl, hy⟩ := RCon_inv hv; rw [hh, mkC]; clear hv hy))
   refine (ask_any (w.alloc (.cells #[.int .i64 k1, .int .i64 k2, .int .i64 k3] 38)) cb tb kb bb a false place (ent_alloc EC.out _)).mono ?_
   rintro e w1 ⟨rfl, hk, hc⟩
   have HKB := Lib.hid ((KB.of_below (S := Only cb) ((Below.refl _ w).alloc (Nat.le_refl _) (.cells #[.int .i64 k1, .int .i64 k2, .int .i64 k3] 38))).trans hk)
   have HC := Lib.hid hc
   clear hk hc
   go_wp2_with fail
   refine bodyPost_end (v := .tuple #[]) (by simp [results, Try.results75, go_sem]) rfl ?_
   exact ⟨rfl, HKB.out, by rw [conIs, hms]; exact HC.out⟩
 | some b =>
   obtain ⟨b1, b2, b3⟩ := b
   have hh := (N1.out s).1
   rw [hms] at hh
   have HAT := Lib.hid ((N1.out s).2 (b1, b2, b3) (encK (0, 0, 0)) hms)
   have HMS := Lib.hid hms
   clear hms
   by_cases hf : b3 = fields
   · subst hf
     go_wp2_with (first
      | (at_lookup; (refine wpList_lookup_own_ok _ rfl _ _ 35 rfl 9 38 lawStr Try.underlying35 RCon HZ.out (encK (0, 0, 0)) [] (RCon_mk _) kb n D rfl O1.out _ _ rfl HK.out ?_); intro v ps hv; obtain ⟨⟨k1, k2, k3⟩, rfl, hy⟩ := RCon_inv hv; rw [hh, mkC]; simp only [Prod.mk.injEq] at hy; rw [HAT.out] at hy; have h3 : b3 = k3 := enc_third hy.1; subst h3; clear hv hy))
     refine (ask_any (w.alloc (.cells #[.int .i64 k1, .int .i64 k2, .int .i64 b3] 38)) cb tb kb bb a true place (ent_alloc EC.out _)).mono ?_
     rintro e w1 ⟨rfl, hk, hc⟩
     have HKB := Lib.hid ((KB.of_below (S := Only cb) ((Below.refl _ w).alloc (Nat.le_refl _) (.cells #[.int .i64 k1, .int .i64 k2, .int .i64 b3] 38))).trans hk)
     have HC := Lib.hid hc
     clear hk hc
     go_wp2_with fail
     refine bodyPost_end (v := .tuple #[]) (by simp [results, Try.results75, go_sem]) rfl ?_
     exact ⟨rfl, HKB.out, by rw [conIs, HMS.out]; simpa using HC.out⟩
   · have HF := Lib.hid hf
     have hfb : (b3 == fields) = false := beq_eq_false_iff_ne.2 hf
     clear hf
     go_wp2_with (first
      | (at_lookup; (refine wpList_lookup_own_ok _ rfl _ _ 35 rfl 9 38 lawStr Try.underlying35 RCon HZ.out (encK (0, 0, 0)) [] (RCon_mk _) kb n D rfl O1.out _ _ rfl HK.out ?_); intro v ps hv; obtain ⟨⟨k1, k2, k3⟩, rfl, hy⟩ := RCon_inv hv; rw [hh, mkC]; simp only [Prod.mk.injEq] at hy; rw [HAT.out] at hy; have h3 : b3 = k3 := enc_third hy.1; subst h3; clear hv hy))
     refine (ask_any (w.alloc (.cells #[.int .i64 k1, .int .i64 k2, .int .i64 b3] 38)) cb tb kb bb a false place (ent_alloc EC.out _)).mono ?_
     rintro e w1 ⟨rfl, hk, hc⟩
     have HKB := Lib.hid ((KB.of_below (S := Only cb) ((Below.refl _ w).alloc (Nat.le_refl _) (.cells #[.int .i64 k1, .int .i64 k2, .int .i64 b3] 38))).trans hk)
     have HC := Lib.hid hc
     clear hk hc
     go_wp2_with fail
     refine bodyPost_end (v := .tuple #[]) (by simp [results, Try.results75, go_sem]) rfl ?_
     exact ⟨rfl, HKB.out, by rw [conIs, HMS.out]; simpa [HF.out] using HC.out⟩
end Go.Proofs.Ytgoacbomphlhjaa
namespace Go.Proofs.Ytgoacbomphlhjaa
open Go Go.RowKit
set_option linter.unusedVariables false
set_option linter.unusedSimpArgs false
def exprAsk (m : Nm → Option C3) (vars : List Nm) (a : Int) : Px.Expr → Int
 | .mk k p nm _ ns xs _ => if k = 1 then asked a (vars.contains nm) p else if k = 2 then asked a (conIs m nm xs.length) p else if k = 3 ∨ k = 4 then asked a (addsB (fun _ => 0) ns) p else a
theorem CkAt.kb {S : Nat → Prop} {a b : World} {cb tb kb bb : Nat} {x : Int} (h : CkAt a cb x tb kb bb) (k : KB S a b) (hs : ¬ S cb) : CkAt b cb x tb kb bb := k.at h hs
set_option maxHeartbeats 4000000 in
set_option maxRecDepth 100000 in
theorem ckexpr_any (f : Nat) (x : Px.Expr) (v : Value) (w : World) (cb tb kb bb n n' : Nat) (a : Int) (m : Nm → Option C3) (vars : List Nm) (hx : ExprAt f w v x) (hw : Sx.ew f x ≤ 400000) (hv : vars.length ≤ 400000) (h : CkAt w cb a tb kb bb) (hm : MapC w kb n m) (hn : NamesC w bb n' (cnt vars)) :
 Calls Try.prog 70 #[.pointer (some ⟨cb, 0, none⟩), v] w fun e w' => e = .returned (.tuple #[]) ∧ KB (Only cb) w w' ∧ CkAt w' cb (exprAsk m vars a x) tb kb bb := by
 cases f with
 | zero => exact hx.elim
 | succ f =>
 cases x with | mk k p nm i ns xs al =>
 obtain ⟨nv, xv, av, rfl, r1, r2, r3⟩ := hx
 obtain ⟨q1, c1, rfl⟩ := r1.len
 obtain ⟨q2, c2, rfl⟩ := r2.len
 obtain ⟨q3, c3, rfl⟩ := r3.len
 have hnm : nm.length ≤ 400000 := by rw [Sx.ew] at hw; omega
 have hns : nw ns ≤ 400000 := by rw [Sx.ew] at hw; omega
 have HR := Lib.hid r1; have HC := Lib.hid h; have HM := Lib.hid hm; have HN := Lib.hid hn
 have hcb := ent_lt h
 clear r1 r2 r3 h hm hn hw
 go_enter Try.func70, Try.ntmps70
 have EX := Lib.hid (ent_new w #[.int .i64 k, .int .i64 p, .string ⟨nm.toArray⟩, .int .i64 i, .slice q1 ns.length c1, .slice q2 xs.length c2, .slice q3 al.length c3] 53)
 have HB := Lib.hid (show Below w.heap.size w (w.alloc (.cells #[.int .i64 k, .int .i64 p, .string ⟨nm.toArray⟩, .int .i64 i, .slice q1 ns.length c1, .slice q2 xs.length c2, .slice q3 al.length c3] 53)) from (Below.refl _ _).alloc (Nat.le_refl _) _)
 go_upto_region 1 with fail
 generalize w.alloc (.cells #[.int .i64 k, .int .i64 p, .string ⟨nm.toArray⟩, .int .i64 i, .slice q1 ns.length c1, .slice q2 xs.length c2, .slice q3 al.length c3] 53) = w1 at EX HB ⊢
 have hs1 := HB.out.size
 have HC1 := Lib.hid (show CkAt w1 cb a tb kb bb from ent_below HC.out HB.out)
 have HK1 := Lib.hid (KB.of_below (S := Only cb) HB.out)
 have e0 := ent_cell EX.out 0 _ rfl
 by_cases h1 : k = 1
 · subst h1
   go_upto_region 3 with fail
   obtain ⟨rr, hrr⟩ : ∃ r, vars.contains nm = r := ⟨_, rfl⟩
   have HRR := Lib.hid hrr
   clear hrr
   clear e0
   have hbc : bb ≠ cb := fun e => by obtain ⟨D, ⟨es, cl, hb, _⟩, _⟩ := HN.out; rw [e, show w.heap[cb]? = _ from HC.out] at hb; cases hb
   have hdk : KB (Only cb) w1 w1.drew := KB.of_below ((Below.refl _ _).drew)
   have hdc : CkAt w1.drew cb a tb kb bb := ent_drew HC1.out
   have hdr : KB (Only cb) w1 w1.drew ∧ w1.drew.cell? ⟨cb, 3, none⟩ = some (.map (some bb)) := ⟨hdk, ent_cell hdc 3 _ rfl⟩
   refine wp_region_held_drew (S := fun u => KB (Only cb) w1 u ∧ u.cell? ⟨cb, 3, none⟩ = some (.map (some bb))) (by kernel_rfl) (hdr) (fun hHeld => ?_)
   refine wpAnyH_take (i := 0) (v := .pointer (some ⟨cb, 0, none⟩)) rfl (by kernel_rfl) (by kernel_rfl) (by kernel_rfl) (fun _ _ _ h => h) (Or.inl ⟨by rfl, fun w' hSw => by go_simp⟩) hHeld ?_
   refine wpAnyH_take (i := 1) (v := .pointer (some ⟨cb, 0, none⟩)) rfl (by kernel_rfl) (by kernel_rfl) (by kernel_rfl) (fun _ _ _ h => h) (Or.inl ⟨by rfl, fun w' hSw => by go_simp⟩) hHeld ?_
   refine wpAnyH_take (i := 2) (v := .pointer (some ⟨cb, 0, none⟩)) rfl (by kernel_rfl) (by kernel_rfl) (by kernel_rfl) (fun _ _ _ h => h) (Or.inl ⟨by rfl, fun w' hSw => by go_simp⟩) hHeld ?_
   refine wpAnyH_take (i := 3) (v := .pointer (some ⟨cb, 3, none⟩)) rfl (by kernel_rfl) (by kernel_rfl) (by kernel_rfl) (fun _ _ _ h => h) (Or.inl ⟨by rfl, fun w' hSw => by go_simp⟩) hHeld ?_
   refine wpAnyH_take (i := 4) (v := .map (some bb)) rfl (by kernel_rfl) (by kernel_rfl) (by kernel_rfl) (fun _ _ _ h => h) (Or.inl ⟨by rfl, fun w' hSw => by have h := hSw.2; go_simp⟩) hHeld ?_
   refine wpAnyH_take (i := 5) (v := .pointer (some ⟨w.heap.size, 2, none⟩)) rfl (by kernel_rfl) (by kernel_rfl) (by kernel_rfl) (fun _ _ _ h => h) (Or.inl ⟨by rfl, fun w' hSw => by go_simp⟩) hHeld ?_
   refine wpAnyH_take (i := 6) (v := .string ⟨nm.toArray⟩) rfl (by kernel_rfl) (by kernel_rfl) (by kernel_rfl) (fun _ _ _ h => h) (Or.inl ⟨by rfl, fun w' hSw => by have h := ent_cell (hSw.1.at EX.out (by show w.heap.size ≠ cb; omega)) 2 _ rfl; go_simp⟩) hHeld ?_
   refine wpAnyH_take (i := 8) (v := .pointer (some ⟨w.heap.size, 1, none⟩)) rfl (by kernel_rfl) (by kernel_rfl) (by kernel_rfl) (fun _ _ _ h => h) (Or.inl ⟨by rfl, fun w' hSw => by go_simp⟩) hHeld ?_
   refine wpAnyH_take (i := 9) (v := .int .i64 p) rfl (by kernel_rfl) (by kernel_rfl) (by kernel_rfl) (fun _ _ _ h => h) (Or.inl ⟨by rfl, fun w' hSw => by have h := ent_cell (hSw.1.at EX.out (by show w.heap.size ≠ cb; omega)) 1 _ rfl; go_simp⟩) hHeld ?_
   simp only [Act.put, List.setIfInBounds_toArray, List.set_cons_zero, List.set_cons_succ]
   refine wpAnyH_ready (rs := [7]) (by kernel_rfl) (by simp) ?_
   refine AllReadyH.cons rfl (fun K hK => ?_) AllReadyH.nil
   go_simp
   refine (has_any w1.drew bb n' (cnt vars) nm ((HN.out.below HB.out).kb hdr.1 (by show bb ≠ cb; exact hbc)) hnm (fun s => by have := cnt_small (l := vars) (by omega) s; omega)).mono ?_
   rintro e w2 ⟨rfl, rfl⟩
   rw [cnt_pos, HRR.out]
   refine hK.out _ _ hdr (fun hHeld => ?_)
   clear hK K
   refine wpAnyH_ready (rs := [10]) (by kernel_rfl) (by simp) ?_
   refine AllReadyH.cons rfl (fun K hK => ?_) AllReadyH.nil
   go_simp
   refine (ask_any w1.drew cb tb kb bb a rr (p : Int) hdc).mono ?_
   rintro e w2 ⟨rfl, hk2, hc2⟩
   have HK2 := Lib.hid (hdr.1.trans hk2)
   have HC2 := Lib.hid hc2
   clear hk2 hc2
   refine hK.out _ _ ⟨HK2.out, ent_cell HC2.out 3 _ rfl⟩ (fun hHeld => ?_)
   clear hK K
   refine wpAnyH_done (by kernel_rfl) ?_ _
   go_wp2_with fail
   refine bodyPost_end (v := .tuple #[]) (by simp [results, Try.results70, go_sem]) rfl ?_
   exact ⟨rfl, HK1.out.trans HK2.out, by rw [exprAsk, if_pos rfl, HRR.out]; exact HC2.out⟩
 · have t1 : ((k : Int) == 1) = false := beq_eq_false_iff_ne.2 (by omega)
   by_cases h2 : k = 2
   · subst h2
     have e1 := ent_cell EX.out 1 _ rfl; have e2 := ent_cell EX.out 2 _ rfl; have e5 := ent_cell EX.out 5 _ rfl
     go_wp2_with fail
     refine (ckcon_any w1 cb tb kb bb n a m nm (xs.length : Int) (p : Int) HC1.out (HM.out.below HB.out) hnm).mono ?_
     rintro e w2 ⟨rfl, hk, hc⟩
     have HK2 := Lib.hid (HK1.out.trans hk)
     have HC2 := Lib.hid hc
     clear hk hc
     go_wp2_with fail
     refine bodyPost_end (v := .tuple #[]) (by simp [results, Try.results70, go_sem]) rfl ?_
     exact ⟨rfl, HK2.out, by rw [exprAsk, if_neg (by omega), if_pos rfl]; exact HC2.out⟩
   · have t2 : ((k : Int) == 2) = false := beq_eq_false_iff_ne.2 (by omega)
     by_cases h3 : k = 3 ∨ k = 4
     · have t34 : Hid (exprAsk m vars a (.mk k p nm i ns xs al) = asked a (addsB (fun _ => 0) ns) p) := Lib.hid (by rw [exprAsk, if_neg h1, if_neg h2, if_pos h3])
       clear h1 h2 t1 t2
       rcases h3 with h3 | h3
       · subst h3
         go_upto_region 8 with fail
         obtain ⟨rr, hrr⟩ : ∃ r, addsB (fun _ => 0) ns = r := ⟨_, rfl⟩
         have HRR := Lib.hid hrr
         clear hrr
         clear e0
         have hdk : KB (Only cb) w1 w1.drew := KB.of_below ((Below.refl _ _).drew)
         have hdc : CkAt w1.drew cb a tb kb bb := ent_drew HC1.out
         have hdr : KB (Only cb) w1 w1.drew ∧ w1.drew.cell? ⟨cb, 3, none⟩ = some (.map (some bb)) := ⟨hdk, ent_cell hdc 3 _ rfl⟩
         refine wp_region_held_drew (S := fun u => KB (Only cb) w1 u ∧ u.cell? ⟨cb, 3, none⟩ = some (.map (some bb))) (by kernel_rfl) (hdr) (fun hHeld => ?_)
         refine wpAnyH_take (i := 0) (v := .pointer (some ⟨cb, 0, none⟩)) rfl (by kernel_rfl) (by kernel_rfl) (by kernel_rfl) (fun _ _ _ h => h) (Or.inl ⟨by rfl, fun w' hSw => by go_simp⟩) hHeld ?_
         refine wpAnyH_take (i := 1) (v := .pointer (some ⟨w.heap.size, 4, none⟩)) rfl (by kernel_rfl) (by kernel_rfl) (by kernel_rfl) (fun _ _ _ h => h) (Or.inl ⟨by rfl, fun w' hSw => by go_simp⟩) hHeld ?_
         refine wpAnyH_take (i := 2) (v := .slice q1 ns.length c1) rfl (by kernel_rfl) (by kernel_rfl) (by kernel_rfl) (fun _ _ _ h => h) (Or.inl ⟨by rfl, fun w' hSw => by have h := ent_cell (hSw.1.at EX.out (by show w.heap.size ≠ cb; omega)) 4 _ rfl; go_simp⟩) hHeld ?_
         refine wpAnyH_take (i := 4) (v := .pointer (some ⟨w.heap.size, 1, none⟩)) rfl (by kernel_rfl) (by kernel_rfl) (by kernel_rfl) (fun _ _ _ h => h) (Or.inl ⟨by rfl, fun w' hSw => by go_simp⟩) hHeld ?_
         refine wpAnyH_take (i := 5) (v := .int .i64 p) rfl (by kernel_rfl) (by kernel_rfl) (by kernel_rfl) (fun _ _ _ h => h) (Or.inl ⟨by rfl, fun w' hSw => by have h := ent_cell (hSw.1.at EX.out (by show w.heap.size ≠ cb; omega)) 1 _ rfl; go_simp⟩) hHeld ?_
         simp only [Act.put, List.setIfInBounds_toArray, List.set_cons_zero, List.set_cons_succ]
         refine wpAnyH_ready (rs := [3]) (by kernel_rfl) (by simp) ?_
         refine AllReadyH.cons rfl (fun K hK => ?_) AllReadyH.nil
         go_simp
         refine (comeOnce_any w1.drew _ ns (rowS_below HR.out HB.out.drew) hns).mono ?_
         rintro e w2 ⟨rfl, hb2⟩
         rw [HRR.out]
         have HK2 := Lib.hid (hdr.1.trans (KB.of_below hb2))
         have HC2 := Lib.hid (show CkAt w2 cb a tb kb bb from ent_below hdc hb2)
         clear hb2
         refine hK.out _ _ ⟨HK2.out, ent_cell HC2.out 3 _ rfl⟩ (fun hHeld => ?_)
         clear hK K
         refine wpAnyH_ready (rs := [6]) (by kernel_rfl) (by simp) ?_
         refine AllReadyH.cons rfl (fun K hK => ?_) AllReadyH.nil
         go_simp
         refine (ask_any w2 cb tb kb bb a rr (p : Int) HC2.out).mono ?_
         rintro e w3 ⟨rfl, hk2, hc2⟩
         have HK3 := Lib.hid (HK2.out.trans hk2)
         have HC3 := Lib.hid hc2
         clear hk2 hc2
         refine hK.out _ _ ⟨HK3.out, ent_cell HC3.out 3 _ rfl⟩ (fun hHeld => ?_)
         clear hK K
         refine wpAnyH_done (by kernel_rfl) ?_ _
         go_wp2_with fail
         refine bodyPost_end (v := .tuple #[]) (by simp [results, Try.results70, go_sem]) rfl ?_
         exact ⟨rfl, HK1.out.trans HK3.out, by rw [t34.out, HRR.out]; exact HC3.out⟩
       · subst h3
         go_upto_region 8 with fail
         obtain ⟨rr, hrr⟩ : ∃ r, addsB (fun _ => 0) ns = r := ⟨_, rfl⟩
         have HRR := Lib.hid hrr
         clear hrr
         clear e0
         have hdk : KB (Only cb) w1 w1.drew := KB.of_below ((Below.refl _ _).drew)
         have hdc : CkAt w1.drew cb a tb kb bb := ent_drew HC1.out
         have hdr : KB (Only cb) w1 w1.drew ∧ w1.drew.cell? ⟨cb, 3, none⟩ = some (.map (some bb)) := ⟨hdk, ent_cell hdc 3 _ rfl⟩
         refine wp_region_held_drew (S := fun u => KB (Only cb) w1 u ∧ u.cell? ⟨cb, 3, none⟩ = some (.map (some bb))) (by kernel_rfl) (hdr) (fun hHeld => ?_)
         refine wpAnyH_take (i := 0) (v := .pointer (some ⟨cb, 0, none⟩)) rfl (by kernel_rfl) (by kernel_rfl) (by kernel_rfl) (fun _ _ _ h => h) (Or.inl ⟨by rfl, fun w' hSw => by go_simp⟩) hHeld ?_
         refine wpAnyH_take (i := 1) (v := .pointer (some ⟨w.heap.size, 4, none⟩)) rfl (by kernel_rfl) (by kernel_rfl) (by kernel_rfl) (fun _ _ _ h => h) (Or.inl ⟨by rfl, fun w' hSw => by go_simp⟩) hHeld ?_
         refine wpAnyH_take (i := 2) (v := .slice q1 ns.length c1) rfl (by kernel_rfl) (by kernel_rfl) (by kernel_rfl) (fun _ _ _ h => h) (Or.inl ⟨by rfl, fun w' hSw => by have h := ent_cell (hSw.1.at EX.out (by show w.heap.size ≠ cb; omega)) 4 _ rfl; go_simp⟩) hHeld ?_
         refine wpAnyH_take (i := 4) (v := .pointer (some ⟨w.heap.size, 1, none⟩)) rfl (by kernel_rfl) (by kernel_rfl) (by kernel_rfl) (fun _ _ _ h => h) (Or.inl ⟨by rfl, fun w' hSw => by go_simp⟩) hHeld ?_
         refine wpAnyH_take (i := 5) (v := .int .i64 p) rfl (by kernel_rfl) (by kernel_rfl) (by kernel_rfl) (fun _ _ _ h => h) (Or.inl ⟨by rfl, fun w' hSw => by have h := ent_cell (hSw.1.at EX.out (by show w.heap.size ≠ cb; omega)) 1 _ rfl; go_simp⟩) hHeld ?_
         simp only [Act.put, List.setIfInBounds_toArray, List.set_cons_zero, List.set_cons_succ]
         refine wpAnyH_ready (rs := [3]) (by kernel_rfl) (by simp) ?_
         refine AllReadyH.cons rfl (fun K hK => ?_) AllReadyH.nil
         go_simp
         refine (comeOnce_any w1.drew _ ns (rowS_below HR.out HB.out.drew) hns).mono ?_
         rintro e w2 ⟨rfl, hb2⟩
         rw [HRR.out]
         have HK2 := Lib.hid (hdr.1.trans (KB.of_below hb2))
         have HC2 := Lib.hid (show CkAt w2 cb a tb kb bb from ent_below hdc hb2)
         clear hb2
         refine hK.out _ _ ⟨HK2.out, ent_cell HC2.out 3 _ rfl⟩ (fun hHeld => ?_)
         clear hK K
         refine wpAnyH_ready (rs := [6]) (by kernel_rfl) (by simp) ?_
         refine AllReadyH.cons rfl (fun K hK => ?_) AllReadyH.nil
         go_simp
         refine (ask_any w2 cb tb kb bb a rr (p : Int) HC2.out).mono ?_
         rintro e w3 ⟨rfl, hk2, hc2⟩
         have HK3 := Lib.hid (HK2.out.trans hk2)
         have HC3 := Lib.hid hc2
         clear hk2 hc2
         refine hK.out _ _ ⟨HK3.out, ent_cell HC3.out 3 _ rfl⟩ (fun hHeld => ?_)
         clear hK K
         refine wpAnyH_done (by kernel_rfl) ?_ _
         go_wp2_with fail
         refine bodyPost_end (v := .tuple #[]) (by simp [results, Try.results70, go_sem]) rfl ?_
         exact ⟨rfl, HK1.out.trans HK3.out, by rw [t34.out, HRR.out]; exact HC3.out⟩
     · have t3 : ((k : Int) == 3) = false := beq_eq_false_iff_ne.2 (by omega)
       have t4 : ((k : Int) == 4) = false := beq_eq_false_iff_ne.2 (by omega)
       have h0 : exprAsk m vars a (.mk k p nm i ns xs al) = a := by rw [exprAsk, if_neg h1, if_neg h2, if_neg h3]
       have H0 := Lib.hid h0
       clear h0 h1 h2 h3
       go_wp2_with fail
       refine bodyPost_end (v := .tuple #[]) (by simp [results, Try.results70, go_sem]) rfl ?_
       exact ⟨rfl, HK1.out, by rw [H0.out]; exact HC1.out⟩
end Go.Proofs.Ytgoacbomphlhjaa
namespace Go.Proofs.Ytgoacbomphlhjaa
open Go Go.RowKit
set_option linter.unusedVariables false
set_option linter.unusedSimpArgs false
def partS (m : Nm → Option C3) : Nat → Int × List Nm → Px.Pat → Int × List Nm
 | 0, s, _ => s
 | f + 1, s, .mk k p nm _ xs => xs.foldl (partS m f) (if k = 1 then (asked s.1 (!s.2.contains nm) p, s.2 ++ [nm]) else if k = 3 then (asked s.1 (conIs m nm xs.length) p, s.2) else s)
/-- What stands while a pattern is gone through. -/
structure Pst (W0 w0 : World) (cb tb kb bb sb nk : Nat) (m : Nm → Option C3) (s : Int × List Nm) (n : Nat) (w : World) : Prop where
 bel : Below W0.heap.size W0 w
 keeps : KB (fun b => b = cb ∨ b = sb) w0 w
 ck : CkAt w cb s.1 tb kb bb
 map : MapC w kb nk m
 seen : NamesC w sb n (cnt s.2)
theorem Pst.self {W0 w0 : World} {cb tb kb bb sb nk : Nat} {m : Nm → Option C3} {s : Int × List Nm} {n : Nat} {w : World} (h : Pst W0 w0 cb tb kb bb sb nk m s n w) : Pst W0 w cb tb kb bb sb nk m s n w := ⟨h.bel, KB.refl _ _, h.ck, h.map, h.seen⟩
theorem Pst.then {W0 w0 : World} {cb tb kb bb sb nk : Nat} {m : Nm → Option C3} {s s' : Int × List Nm} {n n' : Nat} {w w' : World} (h : Pst W0 w0 cb tb kb bb sb nk m s n w) (k : Pst W0 w cb tb kb bb sb nk m s' n' w') : Pst W0 w0 cb tb kb bb sb nk m s' n' w' := ⟨k.bel, h.keeps.trans k.keeps, k.ck, k.map, k.seen⟩
theorem Pst.below {W0 w0 : World} {cb tb kb bb sb nk : Nat} {m : Nm → Option C3} {s : Int × List Nm} {n : Nat} {w w' : World} (h : Pst W0 w0 cb tb kb bb sb nk m s n w) (hb : Below w.heap.size w w') : Pst W0 w0 cb tb kb bb sb nk m s n w' :=
 ⟨h.bel.trans (hb.mono h.bel.size), h.keeps.trans (KB.of_below hb), ent_below h.ck hb, h.map.below hb, h.seen.below hb⟩
theorem Pst.asks {W0 w0 : World} {cb tb kb bb sb nk : Nat} {m : Nm → Option C3} {s : Int × List Nm} {n : Nat} {w w' : World} {a : Int} (h : Pst W0 w0 cb tb kb bb sb nk m s n w) (hc0 : W0.heap.size ≤ cb) (hne : cb ≠ sb) (hkc : kb ≠ cb) (k : KB (Only cb) w w') (hc : CkAt w' cb a tb kb bb) : Pst W0 w0 cb tb kb bb sb nk m (a, s.2) n w' :=
 ⟨k.below h.bel (Nat.le_refl _) (fun g hg e => by have : g = cb := e; omega), h.keeps.trans (k.weak fun _ _ e => .inl e), hc, h.map.kb k hkc, h.seen.kb k (fun e => hne (Eq.symm e))⟩
theorem Pst.adds {W0 w0 : World} {cb tb kb bb sb nk : Nat} {m : Nm → Option C3} {s : Int × List Nm} {n : Nat} {w w' : World} {nm : Nm} (h : Pst W0 w0 cb tb kb bb sb nk m s n w) (hs0 : W0.heap.size ≤ sb) (hne : cb ≠ sb) (hks : kb ≠ sb) (k : w.grownBy w' (some sb)) (hn : NamesC w' sb (n + 1) (bump (cnt s.2) nm (cnt s.2 nm + 1))) : Pst W0 w0 cb tb kb bb sb nk m (s.1, s.2 ++ [nm]) (n + 1) w' := by
 have hk : KB (fun b => b = sb) w w' := KB.of_map k (fun _ => rfl)
 exact ⟨hk.below h.bel (Nat.le_refl _) (fun g hg e => by have : g = sb := e; omega), h.keeps.trans (hk.weak fun _ _ e => .inr e), h.ck.kb hk hne, h.map.kb hk hks, hn.cong (cnt_bump s.2 nm)⟩
theorem Pst.more {W0 w0 : World} {cb tb kb bb sb nk : Nat} {m : Nm → Option C3} {s : Int × List Nm} {n n' : Nat} {w : World} (h : Pst W0 w0 cb tb kb bb sb nk m s n w) (hn : n ≤ n') : Pst W0 w0 cb tb kb bb sb nk m s n' w := { h with seen := h.seen.mono hn }
theorem Pst.at {W0 w0 : World} {cb tb kb bb sb nk : Nat} {m : Nm → Option C3} {s : Int × List Nm} {n : Nat} {w : World} (h : Pst W0 w0 cb tb kb bb sb nk m s n w) {g : Nat} {x : Obj} (e : w0.heap[g]? = some x) (h1 : g ≠ cb) (h2 : g ≠ sb) : w.heap[g]? = some x := h.keeps.at e (fun e => e.elim h1 h2)
def PartC (cb tb kb bb sb nk : Nat) (m : Nm → Option C3) (W0 : World) (f : Nat) : Prop :=
 ∀ (x : Px.Pat) (v : Value) (s : Int × List Nm) (n : Nat) (w : World), PatAt f W0 v x → s.2.length + Sx.pw f x ≤ 400000 → n + Sx.pw f x ≤ 100000000 → Pst W0 w cb tb kb bb sb nk m s n w →
  Calls Try.prog 76 #[.pointer (some ⟨cb, 0, none⟩), v, .map (some sb)] w fun e w' => e = .returned (.tuple #[]) ∧ Pst W0 w cb tb kb bb sb nk m (partS m f s x) (n + Sx.pw f x) w'
theorem partS_len (m : Nm → Option C3) : ∀ (f : Nat) (s : Int × List Nm) (x : Px.Pat), (partS m f s x).2.length ≤ s.2.length + Sx.pw f x
 | 0, s, _ => by simp [partS]
 | f + 1, s, .mk k p nm i xs => by
   rw [partS, Sx.pw]
   have hl : ∀ (l : List Px.Pat) (s : Int × List Nm), (l.foldl (partS m f) s).2.length ≤ s.2.length + (l.map (Sx.pw f)).sum := by
    intro l
    induction l with
    | nil => intro s; simp
    | cons a r ih => intro s; rw [List.foldl_cons, List.map_cons, List.sum_cons]; have h1 := ih (partS m f s a); have h2 := partS_len m f s a; omega
   refine Nat.le_trans (hl _ _) ?_
   split
   · simp only [List.length_append, List.length_singleton]; omega
   · split
     · simp only []; omega
     · omega
theorem fold_len (m : Nm → Option C3) (f : Nat) (l : List Px.Pat) (s : Int × List Nm) : (l.foldl (partS m f) s).2.length ≤ s.2.length + (l.map (Sx.pw f)).sum := by
 induction l generalizing s with
 | nil => simp
 | cons a r ih => rw [List.foldl_cons, List.map_cons, List.sum_cons]; have h1 := ih (partS m f s a); have h2 := partS_len m f s a; omega
set_option maxHeartbeats 4000000 in
set_option maxRecDepth 100000 in
theorem part_step (cb tb kb bb sb nk : Nat) (m : Nm → Option C3) (W0 : World) (hc0 : W0.heap.size ≤ cb) (hs0 : W0.heap.size ≤ sb) (hne : cb ≠ sb) (hkc : kb ≠ cb) (hks : kb ≠ sb) (f : Nat) (ih : PartC cb tb kb bb sb nk m W0 f) : PartC cb tb kb bb sb nk m W0 (f + 1) := by
 intro x v s n w hx hw hn h
 cases x with | mk k p nm i xs =>
 obtain ⟨av, rfl, hr⟩ := hx
 obtain ⟨q, cp, rfl⟩ := hr.len
 have HR := Lib.hid hr
 have HI := Lib.hid ih
 have H0 := Lib.hid h
 have hpw : Sx.pw (f + 1) (.mk k p nm i xs) = 1 + nm.length + (xs.map (Sx.pw f)).sum := by rw [Sx.pw]
 have HPW := Lib.hid hpw
 have HW : Hid (s.2.length + 1 + nm.length + (xs.map (Sx.pw f)).sum ≤ 400000 ∧ n + 1 + nm.length + (xs.map (Sx.pw f)).sum ≤ 100000000) := Lib.hid (by omega)
 have hnm : nm.length ≤ 400000 := by omega
 have hsl : s.2.length ≤ 400000 := by omega
 have hn9 : n ≤ 1000000000 := by omega
 have hcb := ent_lt h.ck
 have hsb := h.seen.lt
 clear hr ih h hpw hw hn
 go_enter Try.func76, Try.ntmps76
 have EX := Lib.hid (ent_new w #[.int .i64 k, .int .i64 p, .string ⟨nm.toArray⟩, .int .i64 i, .slice q xs.length cp] 94)
 have HB := Lib.hid (show Below w.heap.size w (w.alloc (.cells #[.int .i64 k, .int .i64 p, .string ⟨nm.toArray⟩, .int .i64 i, .slice q xs.length cp] 94)) from (Below.refl _ _).alloc (Nat.le_refl _) _)
 go_upto_region 1 with fail
 generalize w.alloc (.cells #[.int .i64 k, .int .i64 p, .string ⟨nm.toArray⟩, .int .i64 i, .slice q xs.length cp] 94) = w1 at EX HB ⊢
 have H1 := Lib.hid (H0.out.below HB.out)
 have hs1 := HB.out.size
 have e0 := ent_cell EX.out 0 _ rfl
 go_upto_block 0 with fail
 clear e0
 obtain ⟨s1, hs1'⟩ : ∃ s1, s1 = (if k = 1 then (asked s.1 (!s.2.contains nm) p, s.2 ++ [nm]) else if k = 3 then (asked s.1 (conIs m nm xs.length) p, s.2) else s) := ⟨_, rfl⟩
 have HS1 := Lib.hid hs1'
 clear hs1'
 go_cut [10] (fun _ wx => Hid (Pst W0 w cb tb kb bb sb nk m s1 (n + 1) wx) ∧ Hid (wx.heap[w.heap.size]? = some (.cells #[.int .i64 k, .int .i64 p, .string ⟨nm.toArray⟩, .int .i64 i, .slice q xs.length cp] 94 (0, 0))))
 case first =>
  by_cases h1 : k = 1
  · have HSA : Hid (s1 = (asked s.1 (!s.2.contains nm) p, s.2 ++ [nm])) := Lib.hid (by rw [HS1.out, if_pos h1])
    clear HS1
    subst h1
    go_upto_region 3 with fail
    obtain ⟨rr, hrr⟩ : ∃ r, (!s.2.contains nm) = r := ⟨_, rfl⟩
    have HRR := Lib.hid hrr
    clear hrr
    have HD := Lib.hid (H1.out.below (show Below w1.heap.size w1 w1.drew from (Below.refl _ _).drew))
    refine wp_region_held_drew (S := fun u => ∀ g o, w1.heap[g]? = some o → g ≠ cb → g ≠ sb → u.heap[g]? = some o) (by kernel_rfl) (fun g o h _ _ => h) (fun hHeld => ?_)
    refine wpAnyH_take (i := 0) (v := .pointer (some ⟨cb, 0, none⟩)) rfl (by kernel_rfl) (by kernel_rfl) (by kernel_rfl) (fun _ _ _ h => h) (Or.inl ⟨by rfl, fun w' hSw => by go_simp⟩) hHeld ?_
    refine wpAnyH_take (i := 1) (v := .map (some sb)) rfl (by kernel_rfl) (by kernel_rfl) (by kernel_rfl) (fun _ _ _ h => h) (Or.inl ⟨by rfl, fun w' hSw => by go_simp⟩) hHeld ?_
    refine wpAnyH_take (i := 2) (v := .pointer (some ⟨w.heap.size, 2, none⟩)) rfl (by kernel_rfl) (by kernel_rfl) (by kernel_rfl) (fun _ _ _ h => h) (Or.inl ⟨by rfl, fun w' hSw => by go_simp⟩) hHeld ?_
    refine wpAnyH_take (i := 3) (v := .string ⟨nm.toArray⟩) rfl (by kernel_rfl) (by kernel_rfl) (by kernel_rfl) (fun _ _ _ h => h) (Or.inl ⟨by rfl, fun w' hSw => by have h := ent_cell (hSw _ _ EX.out (by omega) (by omega)) 2 _ rfl; go_simp⟩) hHeld ?_
    refine wpAnyH_take (i := 5) (v := .pointer (some ⟨w.heap.size, 1, none⟩)) rfl (by kernel_rfl) (by kernel_rfl) (by kernel_rfl) (fun _ _ _ h => h) (Or.inl ⟨by rfl, fun w' hSw => by go_simp⟩) hHeld ?_
    refine wpAnyH_take (i := 6) (v := .int .i64 p) rfl (by kernel_rfl) (by kernel_rfl) (by kernel_rfl) (fun _ _ _ h => h) (Or.inl ⟨by rfl, fun w' hSw => by have h := ent_cell (hSw _ _ EX.out (by omega) (by omega)) 1 _ rfl; go_simp⟩) hHeld ?_
    simp only [Act.put, List.setIfInBounds_toArray, List.set_cons_zero, List.set_cons_succ]
    refine wpAnyH_ready (rs := [4]) (by kernel_rfl) (by simp) ?_
    refine AllReadyH.cons rfl (fun K hK => ?_) AllReadyH.nil
    go_simp
    refine (add_any w1.drew sb n (cnt s.2) nm HD.out.seen hnm (fun s' => by have := cnt_small (l := s.2) (by omega) s'; omega) hn9).mono ?_
    rintro e w2 ⟨rfl, hg, hn2⟩
    rw [cnt_zero, HRR.out]
    have HP2 := Lib.hid (HD.out.adds hs0 hne hks hg hn2)
    have HQ2 := Lib.hid ((KB.of_below (S := fun b => b = cb ∨ b = sb) (show Below w1.heap.size w1 w1.drew from (Below.refl _ _).drew)).trans (KB.of_map hg (fun _ => .inr rfl)))
    clear hg hn2
    refine hK.out _ _ (fun g o h h1 h2 => HQ2.out.at h (fun e => e.elim h1 h2)) (fun hHeld => ?_)
    clear hK K
    refine wpAnyH_ready (rs := [7]) (by kernel_rfl) (by simp) ?_
    refine AllReadyH.cons rfl (fun K hK => ?_) AllReadyH.nil
    go_simp
    refine (ask_any w2 cb tb kb bb s.1 rr (p : Int) HP2.out.ck).mono ?_
    rintro e w3 ⟨rfl, hk3, hc3⟩
    have HP3 := Lib.hid (HP2.out.asks hc0 hne hkc hk3 hc3)
    have HQ3 := Lib.hid (HQ2.out.trans (hk3.weak fun _ _ e => .inl e))
    clear hk3 hc3
    refine hK.out _ _ (fun g o h h1 h2 => HQ3.out.at h (fun e => e.elim h1 h2)) (fun hHeld => ?_)
    clear hK K
    refine wpAnyH_done (by kernel_rfl) ?_ _
    go_wp2_with fail
    go_meet
    exact ⟨Lib.hid (by rw [HSA.out, HRR.out]; exact HP3.out), Lib.hid (HQ3.out.at EX.out (fun e => by rcases e with e | e <;> omega))⟩
  · have t1 : ((k : Int) == 1) = false := beq_eq_false_iff_ne.2 (by omega)
    by_cases h3 : k = 3
    · have HSB : Hid (s1 = (asked s.1 (conIs m nm xs.length) p, s.2)) := Lib.hid (by rw [HS1.out, if_neg h1, if_pos h3])
      clear HS1
      subst h3
      have e1 := ent_cell EX.out 1 _ rfl; have e2 := ent_cell EX.out 2 _ rfl; have e4 := ent_cell EX.out 4 _ rfl
      go_wp2_with fail
      refine (ckcon_any w1 cb tb kb bb nk s.1 m nm (xs.length : Int) (p : Int) H1.out.ck H1.out.map hnm).mono ?_
      rintro e w2 ⟨rfl, hk, hc⟩
      have HP := Lib.hid (H1.out.asks hc0 hne hkc hk hc)
      have HX := Lib.hid (HP.out.keeps.block)
      have EX2 := Lib.hid (hk.at EX.out (by show w.heap.size ≠ cb; omega))
      clear hk hc HX
      go_wp2_with fail
      go_meet
      exact ⟨Lib.hid (by rw [HSB.out]; exact HP.out.more (by omega)), EX2⟩
    · have t3 : ((k : Int) == 3) = false := beq_eq_false_iff_ne.2 (by omega)
      have HS2 : Hid (s1 = s) := Lib.hid (by rw [HS1.out, if_neg h1, if_neg h3])
      clear h1 h3
      go_wp2_with fail
      go_meet
      exact ⟨Lib.hid (by rw [HS2.out]; exact H1.out.more (by omega)), EX⟩
 case rest =>
 obtain ⟨HP, EXC⟩ := hcut
 clear H1 EX
 have hcl := HP.out.keeps.size
 have hss := ent_lt EXC.out
 have hs1l : s1.2.length ≤ s.2.length + 1 := by
  rw [HS1.out]
  split
  · simp
  · split <;> simp
 have HSL := Lib.hid hs1l
 clear hs1l
 have e4 := ent_cell EXC.out 4 _ rfl
 go_wp2_with fail
 clear e4 hss
 go_loopw [7, 34] (fun _ j wr => ∃ k : Nat, j = .int .i64 k ∧ k ≤ xs.length ∧ Hid (Pst W0 w cb tb kb bb sb nk m ((xs.take k).foldl (partS m f) s1) (n + 1 + ((xs.take k).map (Sx.pw f)).sum) wr)) (fun _ j _ => xs.length - (intOf j).toNat)
 case atStart => exact ⟨0, rfl, Nat.zero_le _, Lib.hid (by simpa using HP.out)⟩
 case round =>
  clear HP EXC
  obtain ⟨j, rfl, hj, HP⟩ := hrel
  by_cases hlt : j < xs.length
  · obtain ⟨y, hy⟩ : ∃ y, xs[j]? = some y := ⟨_, List.getElem?_eq_getElem hlt⟩
    rcases HR.out with ⟨h0, _⟩ | ⟨g, of, c', hv, g1, g2, g3⟩
    · rw [h0] at hlt; simp at hlt
    injection hv with hq1 _ hq2
    subst hq1; subst hq2
    obtain ⟨u, hu, _, hcell⟩ := g3 j y hy
    obtain ⟨a0, a1, a2, a3, uq, un, uc, rfl⟩ := patAt_sh hu
    have z0 := cell_up HP.out.bel (hcell 0 _ rfl); have z1 := cell_up HP.out.bel (hcell 1 _ rfl); have z2 := cell_up HP.out.bel (hcell 2 _ rfl); have z3 := cell_up HP.out.bel (hcell 3 _ rfl); have z4 := cell_up HP.out.bel (hcell 4 _ rfl)
    simp only [Nat.add_zero] at z0
    have hj1 : (j : Int) < (xs.length : Int) := by omega
    have hj2 : (xs.length : Int) ≤ (cp : Int) := by omega
    have hj3 := g2
    have hst := Sx.sum_take (Sx.pw f) xs j y hy
    have HST := Lib.hid hst
    have hfl := fold_len m f (xs.take j) s1
    have HFL := Lib.hid hfl
    have HTK := Lib.hid (take_fold (partS m f) xs j y hy s1)
    have HSK : Hid (((xs.take (j + 1)).map (Sx.pw f)).sum = ((xs.take j).map (Sx.pw f)).sum + Sx.pw f y) := Lib.hid (by rw [List.take_add_one, hy]; simp)
    have HPA := Lib.hid (HP.out.below ((Below.refl _ wr).alloc (Nat.le_refl _) (.cells #[.int .i64 a0, .int .i64 a1, .string a2, .int .i64 a3, .slice uq un uc] 94)))
    have HU := Lib.hid hu
    have EA := ent_new wr #[.int .i64 a0, .int .i64 a1, .string a2, .int .i64 a3, .slice uq un uc] 94
    have y0 := ent_cell EA 0 _ rfl; have y1 := ent_cell EA 1 _ rfl; have y2 := ent_cell EA 2 _ rfl; have y3 := ent_cell EA 3 _ rfl; have y4 := ent_cell EA 4 _ rfl
    clear g1 g2 g3 hcell hu hy hst hfl EA
    go_wp2_with fail
    clear z0 z1 z2 z3 z4 y0 y1 y2 y3 y4
    refine (HI.out y _ ((xs.take j).foldl (partS m f) s1) _ _ HU.out (by have := HST.out; have := HFL.out; have := HSL.out; have := HW.out; omega) (by have := HST.out; have := HW.out; omega) HPA.out.self).mono ?_
    rintro e w5 ⟨rfl, hp⟩
    have HP5 := Lib.hid (HPA.out.then hp)
    clear hp HPA
    go_wp2_with fail
    go_roundw
    case rel => exact ⟨j + 1, by go_num, by omega, Lib.hid (by rw [HTK.out, HSK.out]; exact HP5.out.more (by omega))⟩
    case measure => simp [intOf]; omega
  · obtain rfl : j = xs.length := by omega
    go_wp2_with fail
    refine bodyPost_end (v := .tuple #[]) (by simp [results, Try.results76, go_sem]) rfl ?_
    refine ⟨rfl, ?_⟩
    have hp := HP.out
    rw [List.take_length] at hp
    rw [partS, ← HS1.out, HPW.out]
    exact hp.more (by omega)
theorem part_any (cb tb kb bb sb nk : Nat) (m : Nm → Option C3) (W0 : World) (hc0 : W0.heap.size ≤ cb) (hs0 : W0.heap.size ≤ sb) (hne : cb ≠ sb) (hkc : kb ≠ cb) (hks : kb ≠ sb) : ∀ f, PartC cb tb kb bb sb nk m W0 f
 | 0 => fun x v s n w hx => hx.elim
 | f + 1 => part_step cb tb kb bb sb nk m W0 hc0 hs0 hne hkc hks f (part_any cb tb kb bb sb nk m W0 hc0 hs0 hne hkc hks f)
end Go.Proofs.Ytgoacbomphlhjaa
namespace Go.Proofs.Ytgoacbomphlhjaa
open Go Go.RowKit
set_option linter.unusedVariables false
set_option linter.unusedSimpArgs false
theorem ck_ne {w : World} {cb tb kb bb mb n : Nat} {a : Int} {c : Nm → Int} (h : CkAt w cb a tb kb bb) (hn : NamesC w mb n c) : cb ≠ mb := fun e => by
 obtain ⟨D, ⟨es, cl, hb, _⟩, _⟩ := hn
 unfold CkAt at h
 rw [e, hb] at h; cases h
theorem ck_nem {α : Type} {R : RdU} {enc : α → DU} {w : World} {cb tb kb bb mb n : Nat} {a : Int} {m : Nm → Option α} (h : CkAt w cb a tb kb bb) (hn : MapG R enc w mb n m) : mb ≠ cb := fun e => by
 obtain ⟨D, ⟨es, cl, hb, _⟩, _⟩ := hn
 unfold CkAt at h
 rw [← e, hb] at h; cases h
set_option maxHeartbeats 2000000 in
theorem ckpat_any (cb tb kb bb nk : Nat) (m : Nm → Option C3) (W0 : World) (hc0 : W0.heap.size ≤ cb) (f : Nat) (x : Px.Pat) (v : Value) (a : Int) (w : World) (hx : PatAt f W0 v x) (hw : Sx.pw f x ≤ 400000) (hbel : Below W0.heap.size W0 w) (h : CkAt w cb a tb kb bb) (hm : MapC w kb nk m) :
 Calls Try.prog 71 #[.pointer (some ⟨cb, 0, none⟩), v] w fun e w' => e = .returned (.tuple #[]) ∧ KB (Only cb) w w' ∧ CkAt w' cb (partS m f (a, []) x).1 tb kb bb := by
 cases f with
 | zero => exact hx.elim
 | succ f =>
 have HXX := Lib.hid hx
 cases x with | mk k p nm i xs =>
 obtain ⟨av, rfl, hr⟩ := hx
 obtain ⟨q, cp, rfl⟩ := hr.len
 have hcb := ent_lt h
 have hkb := hm.lt
 have hkc := ck_nem h hm
 have hmm := @run_makeMap Try.prog
 obtain ⟨E, hE⟩ : ∃ E : Array Value, E = #[.int .i64 k, .int .i64 p, .string ⟨nm.toArray⟩, .int .i64 i, .slice q xs.length cp] := ⟨_, rfl⟩
 have HB0 := Lib.hid (show Below w.heap.size w ((w.alloc (.cells #[.int .i64 k, .int .i64 p, .string ⟨nm.toArray⟩, .int .i64 i, .slice q xs.length cp] 94)).alloc (.map #[] 0)) from ((Below.refl _ _).alloc (Nat.le_refl _) _).alloc (by simp) _)
 have HS := Lib.hid (NamesC.made (w.alloc (.cells #[.int .i64 k, .int .i64 p, .string ⟨nm.toArray⟩, .int .i64 i, .slice q xs.length cp] 94)))
 have hsz : (w.alloc (.cells #[.int .i64 k, .int .i64 p, .string ⟨nm.toArray⟩, .int .i64 i, .slice q xs.length cp] 94)).heap.size = w.heap.size + 1 := by simp
 have HP := Lib.hid (part_any cb tb kb bb (w.heap.size + 1) nk m W0 hc0 (by have := hbel.size; omega) (by omega) hkc (by omega) (f + 1) (.mk k p nm i xs) _ (a, []) 0 _ HXX.out (by simpa using hw) (by omega)
  ⟨hbel.trans (HB0.out.mono hbel.size), KB.refl _ _, ent_below h HB0.out, hm.below HB0.out, by rw [← hsz]; exact HS.out.cong (fun s => by simp [cnt])⟩)
 have EX := Lib.hid (ent_new w #[.int .i64 k, .int .i64 p, .string ⟨nm.toArray⟩, .int .i64 i, .slice q xs.length cp] 94)
 have e0 := ent_cell EX.out 0 _ rfl; have e1 := ent_cell EX.out 1 _ rfl; have e2 := ent_cell EX.out 2 _ rfl; have e3 := ent_cell EX.out 3 _ rfl; have e4 := ent_cell EX.out 4 _ rfl
 clear hr hm h hbel hE E HS
 go_enter Try.func71, Try.ntmps71
 go_wp2_with fail
 clear e0 e1 e2 e3 e4
 refine HP.out.mono ?_
 rintro e w3 ⟨rfl, hp⟩
 have HP3 := Lib.hid hp
 clear hp
 go_wp2_with fail
 refine bodyPost_end (v := .tuple #[]) (by simp [results, Try.results71, go_sem]) rfl ?_
 have hk3 := HP3.out.keeps
 exact ⟨rfl, ⟨hk3.os.trans HB0.out.os, hk3.tape.trans HB0.out.tape, hk3.output.trans HB0.out.output, Nat.le_trans HB0.out.size hk3.size, fun b hb hs => (hk3.block b (Nat.lt_of_lt_of_le hb HB0.out.size) (fun e => e.elim hs (fun e => by omega))).trans (HB0.out.block b hb)⟩, HP3.out.ck⟩
def CkInv (cb tb kb bb nk : Nat) (m : Nm → Option C3) (_ : Nat) (a : Int) (w : World) : Prop := CkAt w cb a tb kb bb ∧ MapC w kb nk m
def CkOwn (cb : Nat) (_ : Int) (_ : World) (b : Nat) : Prop := b = cb
def ckE (m : Nm → Option C3) (_ : Nat) (a : Int) (vars : List Nm) (x : Px.Expr) : Int := exprAsk m vars a x
def ckP (m : Nm → Option C3) (f : Nat) (a : Int) (_ : List Nm) (x : Px.Pat) : Int := (partS m f (a, []) x).1
theorem ck_wst {cb tb kb bb nk n n' : Nat} {m : Nm → Option C3} {W0 w w' : World} {a a' : Int} {vars : List Nm} (hc0 : W0.heap.size ≤ cb) (h : Wst (CkInv cb tb kb bb nk m) (CkOwn cb) bb W0 a vars n (CkOwn cb a w) w w) (k : KB (Only cb) w w') (hc : CkAt w' cb a' tb kb bb) (hn : n ≤ n') : Wst (CkInv cb tb kb bb nk m) (CkOwn cb) bb W0 a' vars n' (CkOwn cb a w) w w' :=
 ⟨k.below h.bel (Nat.le_refl _) (fun g hg e => by have : g = cb := e; omega), k.size, fun b h1 _ h3 => k.block b h1 h3, fun b hb => .inl hb, (h.nam.kb k (fun e => ck_ne h.inv.1 h.nam (Eq.symm e))).mono hn, hc, h.inv.2.kb k (ck_nem h.inv.1 h.inv.2)⟩
theorem ck_told (cb tb kb bb nk : Nat) (m : Nm → Option C3) (W0 : World) (hc0 : W0.heap.size ≤ cb) (hb0 : W0.heap.size ≤ bb) (hcm : cb ≠ bb) (hkm : kb ≠ bb) :
 Told (CkInv cb tb kb bb nk m) (CkOwn cb) bb W0 70 71 #[.pointer (some ⟨cb, 0, none⟩)] #[] #[.pointer (some ⟨cb, 0, none⟩)] #[] (ckE m) (ckP m) where
 keep := fun n n' s w w' hn hi hs hk => ⟨⟨(hk cb (ent_lt hi.1) hcm).trans hi.1, hi.2.same (hk kb hi.2.lt hkm)⟩, fun b hb => hb⟩
 lt := fun n s w b hi ho => by have : b = cb := ho; have := ent_lt hi.1; omega
 old := hb0
 callE := fun args w => by kernel_rfl
 callP := fun args w => by kernel_rfl
 expr := fun f x v s vars n w hx hw hn h => (ckexpr_any f x v w cb tb kb bb nk n s m vars (exprAt_below hx h.bel) (by omega) (by omega) h.inv.1 h.inv.2 h.nam).mono fun e w' he => ⟨he.1, ck_wst hc0 h he.2.1 he.2.2 (by omega)⟩
 pat := fun f x v s vars n w hx hw hn h => (ckpat_any cb tb kb bb nk m W0 hc0 f x v s w hx (by omega) h.bel h.inv.1 h.inv.2).mono fun e w' he => ⟨he.1, ck_wst hc0 h he.2.1 he.2.2 (Nat.le_refl _)⟩
end Go.Proofs.Ytgoacbomphlhjaa
