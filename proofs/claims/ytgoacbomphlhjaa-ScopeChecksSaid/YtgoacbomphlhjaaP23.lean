/-
  Several texts in one: SCheck, SWt, SWtP, SLives, SOk, SFind.
-/
import Derived.Test.YtgoacbomphlhjaaP00
import Derived.Test.YtgoacbomphlhjaaP22
import Derived.Test.YtgoacbomphlhjaaP10
import Derived.Test.YtgoacbomphlhjaaP02
import Derived.Test.YtgoacbomphlhjaaP06
import Derived.Test.YtgoacbomphlhjaaP19
set_option linter.unusedVariables false
set_option linter.unusedSimpArgs false
namespace Go.Proofs.Ytgoacbomphlhjaa
open Go.Lib (hid)
open List renaming getElem_toArray → jX, getElem_cons_succ → jY, getElem_cons_zero → jZ, setIfInBounds_toArray → JA, set_cons_zero → JB, set_cons_succ → JC
open Go Go.RowKit
theorem typeAt_below : ∀ {f : Nat} {w w' : World} {v : Value} {x : Px.TypeE}, TypeAt f w v x → Below w.heap.size w w' → TypeAt f w' v x := by
 intro f
 induction f with
 | zero => intro w w' v x h _; exact h.elim
 | succ f ih =>
   intro w w' v x h hb
   cases x with | mk p nm xs =>
   obtain ⟨av, rfl, h1⟩ := h
   exact ⟨av, rfl, h1.mono hb (fun u x _ hx => ih hx hb)⟩
theorem jP {f : Nat} {w w' : World} {v : Value} {x : Px.Prog} (h : ProgAt f w v x) (hb : Below w.heap.size w w') : ProgAt f w' v x := by
 obtain ⟨dv, fv, rfl, h1, h2⟩ := h
 refine ⟨dv, fv, rfl, h1.mono hb ?_, h2.mono hb ?_⟩
 · rintro u d _ ⟨nv, cv, rfl, k1, k2⟩
   refine ⟨nv, cv, rfl, jQ k1 hb, k2.mono hb ?_⟩
   rintro u c _ ⟨av, rfl, k3⟩
   exact ⟨av, rfl, k3.mono hb (fun u x _ hx => typeAt_below hx hb)⟩
 · rintro u d _ ⟨nv, b0, b1, b2, b3, b4, b5, b6, rfl, k1, k2⟩
   exact ⟨nv, b0, b1, b2, b3, b4, b5, b6, rfl, jQ k1 hb, exprAt_below k2 hb⟩
def checkNo (a : Int) : Int := if a = -1 then 0 else 4
set_option maxHeartbeats 16000000 in
set_option maxRecDepth 100000 in
theorem Check_any (p : Px.Prog) (v : Value) (w : World) (hp : ProgAt 50 w v p) (hw : (p.datas.map Sx.dw).sum + (p.defs.map Sx.fw).sum ≤ 190000) :
 Calls Try.prog 9 #[v] w fun e w' => e = .returned (.tuple #[.int .i64 (progS p), .int .i64 (checkNo (progS p))]) ∧ Below w.heap.size w w' := by
 have HP := hid hp
 obtain ⟨dv, fv, rfl, h1, h2⟩ := hp
 obtain ⟨q1, c1, rfl⟩ := h1.len
 obtain ⟨q2, c2, rfl⟩ := h2.len
 have hdw : (p.datas.map Sx.dw).sum ≤ 400000 := by omega
 have HWW := hid hw
 have HDW := hid hdw
 have hmm := @run_makeMap Try.prog
 clear h1 h2 hw hdw
 go_enter Try.func9, Try.ntmps9
 have EX := hid (jI w #[.slice q1 p.datas.length c1, .slice q2 p.defs.length c2] 27)
 have HB := hid (show Below w.heap.size w (w.alloc (.cells #[.slice q1 p.datas.length c1, .slice q2 p.defs.length c2] 27)) from (Below.refl _ _).alloc (Nat.le_refl _) _)
 go_upto_region 1 with fail
 generalize w.alloc (.cells #[.slice q1 p.datas.length c1, .slice q2 p.defs.length c2] 27) = w1 at EX HB ⊢
 go_cut [4] (fun c wx => ∃ cb tb kb bb nt nk : Nat, c = .pointer (some ⟨cb, 0, none⟩) ∧ Hid (Gst w wx cb tb kb bb nt nk (typesTab p.datas) (consTab p.datas) (-1) [] 0 wx) ∧ Hid (Gat w wx cb tb kb bb) ∧ Hid (wx.heap[w.heap.size]? = some (.cells #[.slice q1 p.datas.length c1, .slice q2 p.defs.length c2] 27 (0, 0))))
 case first =>
  have hB0 := hid (show Below w.heap.size w w1.drew from HB.out.drew)
  refine wp_region_held_drew (S := fun (u : World) => ∀ (g : Nat) (o : Obj), w1.heap[g]? = some o → u.heap[g]? = some o) (by kernel_rfl) (fun g o h => h) (fun jM => ?_)
  refine wT 0 (.agg #[.slice q1 p.datas.length c1, .slice q2 p.defs.length c2]) rfl (Or.inl ⟨by rfl, fun w' hSw => by have h0 := jA (hSw _ _ EX.out) 0 _ rfl; have h1 := jA (hSw _ _ EX.out) 1 _ rfl; go_simp⟩) jM ?_
  refine wT 2 (.agg #[.slice q1 p.datas.length c1, .slice q2 p.defs.length c2]) rfl (Or.inl ⟨by rfl, fun w' hSw => by have h0 := jA (hSw _ _ EX.out) 0 _ rfl; have h1 := jA (hSw _ _ EX.out) 1 _ rfl; go_simp⟩) jM ?_
  simp only [Act.put, jX, jY, jZ, JA, JB, JC]
  refine wpAnyH_ready (rs := [1, 4]) (by kernel_rfl) (by simp) ?_
  refine (AllReadyH.cons rfl (fun K hK => ?_) (AllReadyH.cons rfl (fun K hK => ?_) AllReadyH.nil))
  · go_simp
    refine (typesOf_any 50 p _ w1.drew (jP HP.out hB0.out) HDW.out).mono ?_
    rintro e u1 ⟨tb, rfl, b, htb, m⟩
    have hF1 := hid m
    have hB1 := hid (hB0.out.trans (b.mono hB0.out.size))
    have hS1 : ∀ (g : Nat) (o : Obj), w1.heap[g]? = some o → u1.heap[g]? = some o := fun g o h => jC (show w1.drew.heap[g]? = some o from h) b
    have hz1 := b.size
    clear b m
    refine hK.out _ _ hS1 (fun jM => ?_)
    clear hK K
    refine wpAnyH_ready (rs := [3, 4]) (by kernel_rfl) (by simp) ?_
    refine (AllReadyH.cons rfl (fun K hK => ?_) (AllReadyH.cons rfl (fun K hK => ?_) AllReadyH.nil))
    · go_simp
      refine (cons_any 50 p _ u1 (jP HP.out hB1.out) HDW.out).mono ?_
      rintro e u2 ⟨kb, rfl, b, hkb, m⟩
      have hF2 := hid m
      have hB2 := hid (hB1.out.trans (b.mono hB1.out.size))
      have hS2 : ∀ (g : Nat) (o : Obj), w1.heap[g]? = some o → u2.heap[g]? = some o := fun g o h => jC (hS1 _ _ h) b
      have hF1xxT := hid (hF1.out.below b)
      have hlTC := hF1.out.lt
      have hdTC : tb ≠ kb := by omega
      have hz2 := b.size
      clear b m
      refine hK.out _ _ hS2 (fun jM => ?_)
      clear hK K
      refine wpAnyH_ready (rs := [4]) (by kernel_rfl) (by simp) ?_
      refine (AllReadyH.cons rfl (fun K hK => ?_) AllReadyH.nil)
      · go_simp
        have b : Below u2.heap.size u2 (u2.alloc (.map #[] 0)) := (Below.refl _ u2).alloc (Nat.le_refl _) (.map #[] 0)
        have m : NamesC (u2.alloc (.map #[] 0)) u2.heap.size 0 (fun _ => 0) := NamesC.made u2
        have hbb : u2.heap.size ≤ u2.heap.size := Nat.le_refl _
        obtain ⟨u3, hu⟩ : ∃ x, x = u2.alloc (.map #[] 0) := ⟨_, rfl⟩
        rw [← hu] at b m ⊢
        clear hu
        obtain ⟨bb, hu⟩ : ∃ x, x = u2.heap.size := ⟨_, rfl⟩
        rw [← hu] at m ⊢
        have hbb : u2.heap.size ≤ bb := by omega
        clear hu
        have hF3 := hid m
        have hB3 := hid (hB2.out.trans (b.mono hB2.out.size))
        have hS3 : ∀ (g : Nat) (o : Obj), w1.heap[g]? = some o → u3.heap[g]? = some o := fun g o h => jC (hS2 _ _ h) b
        have hF1xxxT := hid (hF1xxT.out.below b)
        have hlTM := hF1xxT.out.lt
        have hdTM : tb ≠ bb := by omega
        have hF2xxxC := hid (hF2.out.below b)
        have hlCM := hF2.out.lt
        have hdCM : kb ≠ bb := by omega
        have hz3 := b.size
        clear b m
        refine hK.out _ _ hS3 (fun jM => ?_)
        clear hK K
        refine wT 5 (.agg #[.int .i64 (-1), .map (some tb), .map (some kb), .map (some bb)]) rfl (Or.inl ⟨by rfl, fun w' hSw => by go_simp⟩) jM ?_
        simp only [Act.put, jX, jY, jZ, JA, JB, JC]
        refine wpAnyH_ready (rs := [6]) (by kernel_rfl) (by simp) ?_
        refine AllReadyH.cons rfl (fun K hK => ?_) AllReadyH.nil
        go_simp
        have hal := (Below.refl _ u3).alloc (Nat.le_refl _) (.cells #[.int .i64 (-1), .map (some tb), .map (some kb), .map (some bb)] 85)
        have CK := hid (jI u3 #[.int .i64 (-1), .map (some tb), .map (some kb), .map (some bb)] 85)
        have FT := hid (hF1xxxT.out.below hal); have FC := hid (hF2xxxC.out.below hal); have FM := hid (hF3.out.below hal)
        have BX := hid (hB3.out.trans (hal.mono hB3.out.size))
        have XE := hid (jC (hS3 _ _ EX.out) hal)
        have hts := FT.out.lt; have hcs := FC.out.lt; have hms := FM.out.lt; have hcs' := jK CK.out
        refine hK.out _ _ (fun g o h => jC (hS3 g o h) hal) (fun jM => ?_)
        clear hK K hal
        refine wT 7 (.pointer (some ⟨u3.heap.size, 0, none⟩)) rfl (Or.inl ⟨by rfl, fun w' hSw => by go_simp⟩) jM ?_
        simp only [Act.put, jX, jY, jZ, JA, JB, JC]
        refine wpAnyH_done (by kernel_rfl) ?_ _
        go_wp2_with fail
        go_meet
        have hwsz := hB0.out.size
        have hBsz := hB3.out.size
        exact ⟨u3.heap.size, tb, kb, bb, _, _, rfl, hid ⟨BX.out, KB.refl _ _, CK.out, FT.out, FC.out, FM.out.cong (fun s => by simp [cnt])⟩, hid ⟨by omega, by omega, by omega, by omega, BX.out.size, hcs', hts, hcs, hms⟩, XE⟩
    · go_simp
      have b : Below u1.heap.size u1 (u1.alloc (.map #[] 0)) := (Below.refl _ u1).alloc (Nat.le_refl _) (.map #[] 0)
      have m : NamesC (u1.alloc (.map #[] 0)) u1.heap.size 0 (fun _ => 0) := NamesC.made u1
      have hbb : u1.heap.size ≤ u1.heap.size := Nat.le_refl _
      obtain ⟨u2, hu⟩ : ∃ x, x = u1.alloc (.map #[] 0) := ⟨_, rfl⟩
      rw [← hu] at b m ⊢
      clear hu
      obtain ⟨bb, hu⟩ : ∃ x, x = u1.heap.size := ⟨_, rfl⟩
      rw [← hu] at m ⊢
      have hbb : u1.heap.size ≤ bb := by omega
      clear hu
      have hF2 := hid m
      have hB2 := hid (hB1.out.trans (b.mono hB1.out.size))
      have hS2 : ∀ (g : Nat) (o : Obj), w1.heap[g]? = some o → u2.heap[g]? = some o := fun g o h => jC (hS1 _ _ h) b
      have hF1xxT := hid (hF1.out.below b)
      have hlTM := hF1.out.lt
      have hdTM : tb ≠ bb := by omega
      have hz2 := b.size
      clear b m
      refine hK.out _ _ hS2 (fun jM => ?_)
      clear hK K
      refine wpAnyH_ready (rs := [3]) (by kernel_rfl) (by simp) ?_
      refine (AllReadyH.cons rfl (fun K hK => ?_) AllReadyH.nil)
      · go_simp
        refine (cons_any 50 p _ u2 (jP HP.out hB2.out) HDW.out).mono ?_
        rintro e u3 ⟨kb, rfl, b, hkb, m⟩
        have hF3 := hid m
        have hB3 := hid (hB2.out.trans (b.mono hB2.out.size))
        have hS3 : ∀ (g : Nat) (o : Obj), w1.heap[g]? = some o → u3.heap[g]? = some o := fun g o h => jC (hS2 _ _ h) b
        have hF1xxxT := hid (hF1xxT.out.below b)
        have hlTC := hF1xxT.out.lt
        have hdTC : tb ≠ kb := by omega
        have hF2xxxM := hid (hF2.out.below b)
        have hlMC := hF2.out.lt
        have hdMC : bb ≠ kb := by omega
        have hz3 := b.size
        clear b m
        refine hK.out _ _ hS3 (fun jM => ?_)
        clear hK K
        refine wT 5 (.agg #[.int .i64 (-1), .map (some tb), .map (some kb), .map (some bb)]) rfl (Or.inl ⟨by rfl, fun w' hSw => by go_simp⟩) jM ?_
        simp only [Act.put, jX, jY, jZ, JA, JB, JC]
        refine wpAnyH_ready (rs := [6]) (by kernel_rfl) (by simp) ?_
        refine AllReadyH.cons rfl (fun K hK => ?_) AllReadyH.nil
        go_simp
        have hal := (Below.refl _ u3).alloc (Nat.le_refl _) (.cells #[.int .i64 (-1), .map (some tb), .map (some kb), .map (some bb)] 85)
        have CK := hid (jI u3 #[.int .i64 (-1), .map (some tb), .map (some kb), .map (some bb)] 85)
        have FT := hid (hF1xxxT.out.below hal); have FC := hid (hF3.out.below hal); have FM := hid (hF2xxxM.out.below hal)
        have BX := hid (hB3.out.trans (hal.mono hB3.out.size))
        have XE := hid (jC (hS3 _ _ EX.out) hal)
        have hts := FT.out.lt; have hcs := FC.out.lt; have hms := FM.out.lt; have hcs' := jK CK.out
        refine hK.out _ _ (fun g o h => jC (hS3 g o h) hal) (fun jM => ?_)
        clear hK K hal
        refine wT 7 (.pointer (some ⟨u3.heap.size, 0, none⟩)) rfl (Or.inl ⟨by rfl, fun w' hSw => by go_simp⟩) jM ?_
        simp only [Act.put, jX, jY, jZ, JA, JB, JC]
        refine wpAnyH_done (by kernel_rfl) ?_ _
        go_wp2_with fail
        go_meet
        have hwsz := hB0.out.size
        have hBsz := hB3.out.size
        exact ⟨u3.heap.size, tb, kb, bb, _, _, rfl, hid ⟨BX.out, KB.refl _ _, CK.out, FT.out, FC.out, FM.out.cong (fun s => by simp [cnt])⟩, hid ⟨by omega, by omega, by omega, by omega, BX.out.size, hcs', hts, hcs, hms⟩, XE⟩
  · go_simp
    have b : Below w1.drew.heap.size w1.drew ((w1.alloc (.map #[] 0)).drew) := (Below.refl _ w1.drew).alloc (Nat.le_refl _) (.map #[] 0)
    have m : NamesC ((w1.alloc (.map #[] 0)).drew) w1.heap.size 0 (fun _ => 0) := NamesC.made w1.drew
    have hbb : w1.drew.heap.size ≤ w1.heap.size := Nat.le_refl _
    obtain ⟨u1, hu⟩ : ∃ x, x = (w1.alloc (.map #[] 0)).drew := ⟨_, rfl⟩
    rw [← hu] at b m ⊢
    clear hu
    obtain ⟨bb, hu⟩ : ∃ x, x = w1.heap.size := ⟨_, rfl⟩
    rw [← hu] at m ⊢
    have hbb : w1.drew.heap.size ≤ bb := by omega
    clear hu
    have hF1 := hid m
    have hB1 := hid (hB0.out.trans (b.mono hB0.out.size))
    have hS1 : ∀ (g : Nat) (o : Obj), w1.heap[g]? = some o → u1.heap[g]? = some o := fun g o h => jC (show w1.drew.heap[g]? = some o from h) b
    have hz1 := b.size
    clear b m
    refine hK.out _ _ hS1 (fun jM => ?_)
    clear hK K
    refine wpAnyH_ready (rs := [1]) (by kernel_rfl) (by simp) ?_
    refine (AllReadyH.cons rfl (fun K hK => ?_) AllReadyH.nil)
    · go_simp
      refine (typesOf_any 50 p _ u1 (jP HP.out hB1.out) HDW.out).mono ?_
      rintro e u2 ⟨tb, rfl, b, htb, m⟩
      have hF2 := hid m
      have hB2 := hid (hB1.out.trans (b.mono hB1.out.size))
      have hS2 : ∀ (g : Nat) (o : Obj), w1.heap[g]? = some o → u2.heap[g]? = some o := fun g o h => jC (hS1 _ _ h) b
      have hF1xxM := hid (hF1.out.below b)
      have hlMT := hF1.out.lt
      have hdMT : bb ≠ tb := by omega
      have hz2 := b.size
      clear b m
      refine hK.out _ _ hS2 (fun jM => ?_)
      clear hK K
      refine wpAnyH_ready (rs := [3]) (by kernel_rfl) (by simp) ?_
      refine (AllReadyH.cons rfl (fun K hK => ?_) AllReadyH.nil)
      · go_simp
        refine (cons_any 50 p _ u2 (jP HP.out hB2.out) HDW.out).mono ?_
        rintro e u3 ⟨kb, rfl, b, hkb, m⟩
        have hF3 := hid m
        have hB3 := hid (hB2.out.trans (b.mono hB2.out.size))
        have hS3 : ∀ (g : Nat) (o : Obj), w1.heap[g]? = some o → u3.heap[g]? = some o := fun g o h => jC (hS2 _ _ h) b
        have hF1xxxM := hid (hF1xxM.out.below b)
        have hlMC := hF1xxM.out.lt
        have hdMC : bb ≠ kb := by omega
        have hF2xxxT := hid (hF2.out.below b)
        have hlTC := hF2.out.lt
        have hdTC : tb ≠ kb := by omega
        have hz3 := b.size
        clear b m
        refine hK.out _ _ hS3 (fun jM => ?_)
        clear hK K
        refine wT 5 (.agg #[.int .i64 (-1), .map (some tb), .map (some kb), .map (some bb)]) rfl (Or.inl ⟨by rfl, fun w' hSw => by go_simp⟩) jM ?_
        simp only [Act.put, jX, jY, jZ, JA, JB, JC]
        refine wpAnyH_ready (rs := [6]) (by kernel_rfl) (by simp) ?_
        refine AllReadyH.cons rfl (fun K hK => ?_) AllReadyH.nil
        go_simp
        have hal := (Below.refl _ u3).alloc (Nat.le_refl _) (.cells #[.int .i64 (-1), .map (some tb), .map (some kb), .map (some bb)] 85)
        have CK := hid (jI u3 #[.int .i64 (-1), .map (some tb), .map (some kb), .map (some bb)] 85)
        have FT := hid (hF2xxxT.out.below hal); have FC := hid (hF3.out.below hal); have FM := hid (hF1xxxM.out.below hal)
        have BX := hid (hB3.out.trans (hal.mono hB3.out.size))
        have XE := hid (jC (hS3 _ _ EX.out) hal)
        have hts := FT.out.lt; have hcs := FC.out.lt; have hms := FM.out.lt; have hcs' := jK CK.out
        refine hK.out _ _ (fun g o h => jC (hS3 g o h) hal) (fun jM => ?_)
        clear hK K hal
        refine wT 7 (.pointer (some ⟨u3.heap.size, 0, none⟩)) rfl (Or.inl ⟨by rfl, fun w' hSw => by go_simp⟩) jM ?_
        simp only [Act.put, jX, jY, jZ, JA, JB, JC]
        refine wpAnyH_done (by kernel_rfl) ?_ _
        go_wp2_with fail
        go_meet
        have hwsz := hB0.out.size
        have hBsz := hB3.out.size
        exact ⟨u3.heap.size, tb, kb, bb, _, _, rfl, hid ⟨BX.out, KB.refl _ _, CK.out, FT.out, FC.out, FM.out.cong (fun s => by simp [cnt])⟩, hid ⟨by omega, by omega, by omega, by omega, BX.out.size, hcs', hts, hcs, hms⟩, XE⟩
 case rest =>
 obtain ⟨cb, tb, kb, bb, nt, nk, rfl, HG, HL, HE⟩ := hcut
 clear EX HB
 have e0 := jA HE.out 0 _ rfl; have e1 := jA HE.out 1 _ rfl
 go_wp2_with fail
 refine (prog_ck_any p _ HP.out HWW.out HL.out HG.out).mono ?_
 rintro e w6 ⟨rfl, hk6, hc6⟩
 have hb6 : Below w.heap.size w w6 := hk6.below HG.out.bel (Nat.le_refl _) (fun g hg e => by have := HL.out.gc0; have := HL.out.gb0; rcases e with e | e <;> omega)
 have HB6 := hid hb6
 have C6 := hid hc6
 clear e0 e1 hk6 hc6 hb6 HG HL HE
 have k0 := jA C6.out 0 _ rfl
 obtain ⟨a, ha⟩ : ∃ a, progS p = a := ⟨_, rfl⟩
 have HA := hid ha
 rw [ha] at k0
 clear ha C6
 by_cases hq : a = -1
 · subst hq
   go_wp2_with fail
   go_ret2
   exact ⟨by rw [HA.out]; rfl, HB6.out⟩
 · have hb : (a == -1) = false := beq_eq_false_iff_ne.2 hq
   have HQ := hid hq
   go_wp2_with fail
   go_ret2
   exact ⟨by rw [HA.out, checkNo, if_neg HQ.out]; rfl, HB6.out⟩
end Go.Proofs.Ytgoacbomphlhjaa

namespace Go.Proofs.Ytgoacbomphlhjaa
open Go.Lib (hid)
open List renaming getElem_toArray → jX, getElem_cons_succ → jY, getElem_cons_zero → jZ, setIfInBounds_toArray → JA, set_cons_zero → JB, set_cons_succ → JC
open Go Go.RowKit
namespace Px
def tw (ts : List Lx.Tok) : Nat := (ts.map fun t => t.text.length + 24).sum
theorem tw_cons (t : Lx.Tok) (ts : List Lx.Tok) : tw (t :: ts) = t.text.length + 24 + tw ts := by simp [tw]
/-- A node weighs at most so much. -/
inductive NW : Node → Nat → Prop
 | mk (t : Lx.Tok) (l : List Node) (k : Nat) (ws : List Nat) : All2 NW l ws → NW (.mk t l k) (t.text.length + 24 + ws.sum)
theorem node_weight (stop : Nat) : ∀ (f d : Nat) (ts : List Lx.Tok),
 (∀ n ts', node stop f d ts = .ok (n, ts') → ∃ W, NW n W ∧ W + tw ts' ≤ tw ts) ∧ (∀ l ts', rest stop f d ts = .ok (l, ts') → ∃ ws, All2 NW l ws ∧ ws.sum + tw ts' ≤ tw ts) := by
 intro f
 induction f with
 | zero => intro d ts; exact ⟨fun n ts' h => (by cases h), fun l ts' h => (by cases h)⟩
 | succ f ih =>
   intro d ts
   cases ts with
   | nil => exact ⟨fun n ts' h => (by cases h), fun l ts' h => (by cases h)⟩
   | cons t ts =>
     constructor
     · intro n ts' h
       rw [node] at h
       by_cases k1 : t.kind = 1
       · rw [if_pos k1] at h; cases h
       · rw [if_neg k1] at h
         by_cases k0 : t.kind = 0
         · rw [if_pos k0] at h
           by_cases hd : d = 40
           · rw [if_pos hd] at h; cases h
           · rw [if_neg hd] at h
             cases hr : rest stop f (d + 1) ts with
             | error p => rw [hr] at h; cases h
             | ok x =>
               obtain ⟨l, ts1⟩ := x
               rw [hr] at h
               simp only [Except.ok.injEq, Prod.mk.injEq] at h
               obtain ⟨rfl, rfl⟩ := h
               obtain ⟨ws, h1, h2⟩ := (ih (d + 1) ts).2 _ _ hr
               exact ⟨_, .mk _ _ _ ws h1, by rw [tw_cons]; omega⟩
         · rw [if_neg k0] at h
           simp only [Except.ok.injEq, Prod.mk.injEq] at h
           obtain ⟨rfl, rfl⟩ := h
           exact ⟨_, .mk _ _ _ [] .nil, by rw [tw_cons]; simp⟩
     · intro l ts' h
       rw [rest] at h
       by_cases k1 : t.kind = 1
       · rw [if_pos k1] at h
         simp only [Except.ok.injEq, Prod.mk.injEq] at h
         obtain ⟨rfl, rfl⟩ := h
         exact ⟨[], .nil, by rw [tw_cons]; simp⟩
       · rw [if_neg k1] at h
         cases hn : node stop f d (t :: ts) with
         | error p => rw [hn] at h; cases h
         | ok x =>
           obtain ⟨n, ts1⟩ := x
           rw [hn] at h
           simp only at h
           obtain ⟨W, h1, h2⟩ := (ih d (t :: ts)).1 _ _ hn
           cases hr : rest stop f d ts1 with
           | error p => rw [hr] at h; cases h
           | ok y =>
             obtain ⟨l', ts2⟩ := y
             rw [hr] at h
             simp only [Except.ok.injEq, Prod.mk.injEq] at h
             obtain ⟨rfl, rfl⟩ := h
             obtain ⟨ws, h3, h4⟩ := (ih d ts1).2 _ _ hr
             exact ⟨W :: ws, .cons h1 h3, by rw [List.sum_cons]; omega⟩
theorem toks_weight : ∀ (f p : Nat) (l : List UInt8), tw (Lx.toks f p l).1 ≤ 25 * l.length := by
 intro f
 induction f with
 | zero => intro p l; simp [Lx.toks, tw]
 | succ f ih =>
   intro p l
   rw [Lx.toks_step]
   by_cases h1 : l.length ≤ Lx.skipC false l
   · rw [if_pos h1]; simp [tw]
   · rw [if_neg h1]
     by_cases h2 : (Lx.tokAt (l.drop (Lx.skipC false l))).2 = 0
     · rw [if_pos h2]; simp [tw]
     · rw [if_neg h2]
       simp only
       rw [tw_cons]
       have hi := ih (p + Lx.skipC false l + (Lx.tokAt (l.drop (Lx.skipC false l))).2) ((l.drop (Lx.skipC false l)).drop (Lx.tokAt (l.drop (Lx.skipC false l))).2)
       have hle := Lx.tokAt_le (l.drop (Lx.skipC false l))
       rw [List.length_drop, List.length_drop] at hi
       rw [List.length_drop] at hle
       have ht : (Lx.mkTok (p + Lx.skipC false l) (Lx.tokAt (l.drop (Lx.skipC false l))).1 ((l.drop (Lx.skipC false l)).take (Lx.tokAt (l.drop (Lx.skipC false l))).2)).text.length ≤ (Lx.tokAt (l.drop (Lx.skipC false l))).2 := by
        simp only [Lx.mkTok, List.length_take]; omega
       omega
theorem NW.split {n : Node} {W : Nat} (h : NW n W) : ∃ ws, All2 NW n.list ws ∧ W = n.text.length + 24 + ws.sum := by
 cases h with
 | mk t l k ws h1 => exact ⟨ws, h1, rfl⟩
theorem NW.ge {n : Node} {W : Nat} (h : NW n W) : n.text.length + 24 ≤ W := by
 obtain ⟨ws, _, rfl⟩ := h.split; omega
theorem name_is {n : Node} {s : List UInt8} (h : name n = .ok s) : s = n.text := by
 unfold name at h; split at h
 · simp only [Except.ok.injEq] at h; exact h.symm
 · cases h
theorem conName_is {n : Node} {s : List UInt8} (h : conName n = .ok s) : s = n.text := by
 unfold conName at h; split at h
 · simp only [Except.ok.injEq] at h; exact h.symm
 · cases h
theorem All2.head2 {S : Node → Nat → Prop} {l : List Node} {ws : List Nat} (h : All2 S l ws) (hl : 1 ≤ l.length) (n : Node) : ∃ w, S (l.headD n) w ∧ ws.sum = w + ws.tail.sum ∧ All2 S l.tail ws.tail := by
 cases h with
 | nil => simp at hl
 | @cons a b l ws h1 h2 => exact ⟨b, h1, by simp, h2⟩
theorem All2.three {S : Node → Nat → Prop} {l : List Node} {ws : List Nat} (h : All2 S l ws) (hl : 3 ≤ l.length) (n : Node) : ∃ a b c, S (l.getD 0 n) a ∧ S (l.getD 1 n) b ∧ S (l.getD 2 n) c ∧ ws.sum = a + b + c + (ws.drop 3).sum ∧ All2 S (l.drop 3) (ws.drop 3) := by
 cases h with
 | nil => simp at hl
 | @cons x a l ws h1 h2 =>
   cases h2 with
   | nil => simp at hl
   | @cons y b l ws h2 h3 =>
     cases h3 with
     | nil => simp at hl
     | @cons z c l ws h3 h4 => exact ⟨a, b, c, h1, h2, h3, by simp; omega, by simpa using h4⟩
theorem All2.two {S : Node → Nat → Prop} {l : List Node} {ws : List Nat} (h : All2 S l ws) (hl : 2 ≤ l.length) (n : Node) : ∃ a b, S (l.headD n) a ∧ S (l.getD 1 n) b ∧ ws.sum = a + b + (ws.drop 2).sum ∧ All2 S (l.drop 2) (ws.drop 2) := by
 cases h with
 | nil => simp at hl
 | @cons x a l ws h1 h2 =>
   cases h2 with
   | nil => simp at hl
   | @cons y b l ws h2 h3 => exact ⟨a, b, h1, h2, by simp; omega, by simpa using h3⟩
theorem each_wt {α : Type} {g : Node → R α} {len : α → Nat} : ∀ {l : List Node} {xs : List α} {ws : List Nat}, (∀ n ∈ l, ∀ x W, g n = .ok x → NW n W → len x ≤ W) → each g l = .ok xs → All2 NW l ws → (xs.map len).sum ≤ ws.sum := by
 intro l
 induction l with
 | nil =>
   intro xs ws _ h hw
   simp only [each, Except.ok.injEq] at h
   subst h; simp
 | cons n r ih =>
   intro xs ws hg h hw
   cases hw with
   | @cons _ W _ ws h1 h2 =>
     simp only [each] at h
     cases hf : g n with
     | error p => rw [hf] at h; cases h
     | ok x =>
       rw [hf] at h
       cases hr : each g r with
       | error p => rw [hr] at h; cases h
       | ok ys =>
         rw [hr] at h
         simp only [Except.ok.injEq] at h
         subst h
         have a := hg n (by simp) x W hf h1
         have b := ih (fun m hm => hg m (by simp [hm])) hr h2
         simp only [List.map_cons, List.sum_cons]
         omega
theorem names_wt {n : Node} {a W : Nat} {ns : List (List UInt8)} (h : names n a = .ok ns) (hw : NW n W) : nw ns + 22 ≤ W := by
 unfold names at h
 cases hq : nodes n a 8 with
 | error p => rw [hq] at h; cases h
 | ok l =>
   rw [hq] at h
   simp only at h
   obtain ⟨rfl, _⟩ := jW hq
   obtain ⟨ws, h1, rfl⟩ := hw.split
   have : nw ns ≤ ws.sum := each_wt (len := fun s : List UInt8 => s.length + 1) (fun m _ x W hx hW => by have := name_is hx; have := hW.ge; subst x; omega) h h1
   omega
theorem pat_wt : ∀ (f : Nat) (n : Node) (t : Pat) (W : Nat), pat f n = .ok t → NW n W → Sx.pw f t + 1 ≤ W := by
 intro f
 induction f with
 | zero => intro n t W h; cases h
 | succ f ih =>
   intro n t W h hw
   have hge := hw.ge
   rw [pat] at h
   by_cases h1 : jS n = true
   · rw [if_pos h1] at h
     cases hq : nodes n 2 9 with
     | error p => rw [hq] at h; cases h
     | ok l =>
       rw [hq] at h
       simp only at h
       obtain ⟨rfl, hl⟩ := jW hq
       obtain ⟨ws, h2, rfl⟩ := hw.split
       obtain ⟨w0, h3, h4, h5⟩ := h2.head2 (by omega) n
       have h3g := h3.ge
       cases hc : conName (n.list.headD n) with
       | error p => rw [hc] at h; cases h
       | ok nm =>
         rw [hc] at h
         simp only at h
         have hnm := conName_is hc
         cases he : each (pat f) n.list.tail with
         | error p => rw [he] at h; cases h
         | ok xs =>
           rw [he] at h
           simp only [Except.ok.injEq] at h
           subst h
           have hs := each_wt (len := Sx.pw f) (fun m hm x W hx hW => by have := ih m x W hx hW; omega) he h5
           subst hnm
           rw [Sx.pw]
           omega
   · rw [if_neg h1] at h
     have fin : ∀ {k : Nat} {nm : List UInt8} {i : Int}, nm.length ≤ n.text.length → (Except.ok (Pat.mk k n.pos nm i []) : R Pat) = .ok t → Sx.pw (f + 1) t + 1 ≤ W := by
      intro k nm i hl e
      simp only [Except.ok.injEq] at e
      subst e
      rw [Sx.pw]
      simp only [List.map_nil, List.sum_nil]; omega
     repeat' split at h
     all_goals first | exact fin (Nat.le_refl _) h | exact fin (Nat.zero_le _) h | cases h
theorem atom_wt {f : Nat} {n : Node} {W k : Nat} {nm : List UInt8} {i : Int} {t : Expr} (hw : NW n W) (hl : nm.length ≤ n.text.length) (e : (Except.ok (Expr.mk k n.pos nm i [] [] []) : R Expr) = .ok t) : Sx.ew (f + 1) t + 1 ≤ W := by
 have hge := hw.ge
 simp only [Except.ok.injEq] at e
 subst e
 rw [Sx.ew]
 simp only [List.map_nil, List.sum_nil, nw]; omega
theorem sum_add {α : Type} (g h : α → Nat) : ∀ l : List α, (l.map fun x => g x + h x).sum = (l.map g).sum + (l.map h).sum
 | [] => rfl
 | a :: r => by rw [List.map_cons, List.sum_cons, sum_add g h r, List.map_cons, List.sum_cons, List.map_cons, List.sum_cons]; omega
theorem expr_wt : ∀ (f : Nat) (n : Node) (t : Expr) (W : Nat), expr f n = .ok t → NW n W → Sx.ew f t + 1 ≤ W := by
 intro f
 induction f with
 | zero => intro n t W h; cases h
 | succ f ih =>
   intro n t W h hw
   have hge := hw.ge
   rw [expr] at h
   by_cases h1 : jS n = true
   · rw [if_pos h1] at h
     unfold listExpr at h
     by_cases w1 : word n = [102, 110]
     · rw [if_pos w1] at h
       unfold fnExpr at h
       cases hq : nodes n 3 3 with
       | error q => rw [hq] at h; cases h
       | ok l =>
         rw [hq] at h
         simp only at h
         obtain ⟨rfl, hl⟩ := jW hq
         obtain ⟨ws, h2, rfl⟩ := hw.split
         obtain ⟨a, b, c, ha, hb, hc, hsum, _⟩ := h2.three (by omega) n
         cases hns : names (n.list.getD 1 n) 1 with
         | error q => rw [hns] at h; cases h
         | ok ns =>
           rw [hns] at h
           simp only at h
           cases he : expr f (n.list.getD 2 n) with
           | error q => rw [he] at h; cases h
           | ok y =>
             rw [he] at h
             simp only [Except.ok.injEq] at h
             subst h
             have e1 := names_wt hns hb
             have e2 := ih _ _ _ he hc
             rw [Sx.ew]
             simp only [List.map_cons, List.map_nil, List.sum_cons, List.sum_nil, List.length_nil]
             omega
     · rw [if_neg w1] at h
       by_cases w2 : word n = [108, 101, 116]
       · rw [if_pos w2] at h
         unfold letExpr at h
         cases hq : nodes n 3 3 with
         | error q => rw [hq] at h; cases h
         | ok l =>
           rw [hq] at h
           simp only at h
           obtain ⟨rfl, hl⟩ := jW hq
           obtain ⟨ws, h2, rfl⟩ := hw.split
           obtain ⟨a, b, c, ha, hb, hc, hsum, _⟩ := h2.three (by omega) n
           cases hps : nodes (n.list.getD 1 n) 1 8 with
           | error q => rw [hps] at h; cases h
           | ok ps =>
             rw [hps] at h
             simp only at h
             obtain ⟨hpe, hpl⟩ := jW hps
             cases hbs : each (pair (expr f)) ps with
             | error q => rw [hbs] at h; cases h
             | ok bs =>
               rw [hbs] at h
               simp only at h
               cases he : expr f (n.list.getD 2 n) with
               | error q => rw [he] at h; cases h
               | ok y =>
                 rw [he] at h
                 simp only [Except.ok.injEq] at h
                 subst h
                 have e2 := ih _ _ _ he hc
                 obtain ⟨wb, hwb, rfl⟩ := hb.split
                 rw [← hpe] at hwb
                 have e1 := each_wt (len := fun b : List UInt8 × Expr => (b.1.length + 1) + Sx.ew f b.2) (fun m hm x W hx hW => by
                  unfold pair at hx
                  cases hz2 : nodes m 2 2 with
                  | error q => rw [hz2] at hx; cases hx
                  | ok l2 =>
                    rw [hz2] at hx
                    simp only at hx
                    obtain ⟨rfl, h4⟩ := jW hz2
                    obtain ⟨ws2, h5, rfl⟩ := hW.split
                    obtain ⟨a2, b2, ha2, hb2, hs2, _⟩ := h5.two (by omega) m
                    cases hz3 : name (m.list.headD m) with
                    | error q => rw [hz3] at hx; cases hx
                    | ok s =>
                      rw [hz3] at hx
                      simp only at hx
                      cases hz4 : expr f (m.list.getD 1 m) with
                      | error q => rw [hz4] at hx; cases hx
                      | ok e =>
                        rw [hz4] at hx
                        simp only [Except.ok.injEq] at hx
                        subst hx
                        have := name_is hz3
                        have := ha2.ge
                        have := ih _ _ _ hz4 hb2
                        subst s
                        dsimp only
                        omega) hbs hwb
                 rw [sum_add] at e1
                 have e3 : nw (bs.map (·.1)) = (bs.map fun b : List UInt8 × Expr => b.1.length + 1).sum := by unfold nw; rw [List.map_map]; rfl
                 have e4 : ((bs.map (·.2) ++ [y]).map (Sx.ew f)).sum = (bs.map fun b : List UInt8 × Expr => Sx.ew f b.2).sum + Sx.ew f y := by rw [List.map_append, List.sum_append, List.map_map]; simp; rfl
                 rw [Sx.ew, e3, e4]
                 simp only [List.map_nil, List.sum_nil, List.length_nil]
                 omega
       · rw [if_neg w2] at h
         by_cases w3 : word n = [99, 97, 115, 101]
         · rw [if_pos w3] at h
           unfold caseExpr at h
           cases hq : nodes n 3 18 with
           | error q => rw [hq] at h; cases h
           | ok l =>
             rw [hq] at h
             simp only at h
             obtain ⟨rfl, hl⟩ := jW hq
             obtain ⟨ws, h2, rfl⟩ := hw.split
             obtain ⟨a, b, ha, hb, hsum, hrest⟩ := h2.two (by omega) n
             cases he : expr f (n.list.getD 1 n) with
             | error q => rw [he] at h; cases h
             | ok y =>
               rw [he] at h
               simp only at h
               cases hbs : each (alt f (expr f)) (n.list.drop 2) with
               | error q => rw [hbs] at h; cases h
               | ok bs =>
                 rw [hbs] at h
                 simp only [Except.ok.injEq] at h
                 subst h
                 have e2 := ih _ _ _ he hb
                 have e1 := each_wt (len := fun b : Pat × Expr => Sx.pw f b.1 + Sx.ew f b.2) (fun m hm x W hx hW => by
                  unfold alt at hx
                  cases hz2 : nodes m 2 2 with
                  | error q => rw [hz2] at hx; cases hx
                  | ok l2 =>
                    rw [hz2] at hx
                    simp only at hx
                    obtain ⟨rfl, h4⟩ := jW hz2
                    obtain ⟨ws2, h5, rfl⟩ := hW.split
                    obtain ⟨a2, b2, ha2, hb2, hs2, _⟩ := h5.two (by omega) m
                    cases hz3 : pat f (m.list.headD m) with
                    | error q => rw [hz3] at hx; cases hx
                    | ok s =>
                      rw [hz3] at hx
                      simp only at hx
                      cases hz4 : expr f (m.list.getD 1 m) with
                      | error q => rw [hz4] at hx; cases hx
                      | ok e =>
                        rw [hz4] at hx
                        simp only [Except.ok.injEq] at hx
                        subst hx
                        have := pat_wt _ _ _ _ hz3 ha2
                        have := ih _ _ _ hz4 hb2
                        dsimp only
                        omega) hbs hrest
                 rw [Sx.ew]
                 simp only [List.map_cons, List.map_nil, List.sum_cons, List.sum_nil, List.length_nil, nw]
                 omega
         · rw [if_neg w3] at h
           unfold plainExpr at h
           cases hq : nodes n 2 9 with
           | error q => rw [hq] at h; cases h
           | ok l =>
             rw [hq] at h
             simp only at h
             obtain ⟨rfl, hl⟩ := jW hq
             obtain ⟨ws, h2, rfl⟩ := hw.split
             obtain ⟨w0, h3, h4, h5⟩ := h2.head2 (by omega) n
             have h3g := h3.ge
             have fin : ∀ {k : Nat} {nm : List UInt8} {l : List Node} {vs : List Nat}, nm.length ≤ (n.list.headD n).text.length → All2 NW l vs → vs.sum + n.text.length + 24 ≤ n.text.length + 24 + ws.sum → (l = n.list.tail ∧ vs = ws.tail ∨ l = n.list ∧ vs = ws ∧ nm = []) →
              (match each (expr f) l with | .error p => (.error p : R Expr) | .ok xs => .ok (.mk k n.pos nm 0 [] xs [])) = .ok t → Sx.ew (f + 1) t + 1 ≤ n.text.length + 24 + ws.sum := by
              intro k nm l vs hnm hv hvs hor e
              cases he : each (expr f) l with
              | error q => rw [he] at e; cases e
              | ok xs =>
                rw [he] at e
                simp only [Except.ok.injEq] at e
                subst e
                have e1 := each_wt (len := Sx.ew f) (fun m hm x W hx hW => by have := ih m x W hx hW; omega) he hv
                rw [Sx.ew]
                simp only [List.map_nil, List.sum_nil, nw]
                rcases hor with ⟨_, rfl⟩ | ⟨_, rfl, rfl⟩
                · omega
                · simp only [List.length_nil]; omega
             split at h
             · split at h
               · cases h
               · exact fin (Nat.le_refl _) h5 (by omega) (.inl ⟨rfl, rfl⟩) h
             · split at h
               · exact fin (Nat.le_refl _) h5 (by omega) (.inl ⟨rfl, rfl⟩) h
               · exact fin (Nat.zero_le _) h2 (by omega) (.inr ⟨rfl, rfl, rfl⟩) h
   · rw [if_neg h1] at h
     repeat' split at h
     all_goals first | exact atom_wt hw (Nat.le_refl _) h | exact atom_wt hw (Nat.zero_le _) h | cases h
end Px
end Go.Proofs.Ytgoacbomphlhjaa

namespace Go.Proofs.Ytgoacbomphlhjaa
open Go.Lib (hid)
open List renaming getElem_toArray → jX, getElem_cons_succ → jY, getElem_cons_zero → jZ, setIfInBounds_toArray → JA, set_cons_zero → JB, set_cons_succ → JC
open Go Go.RowKit
namespace Px
theorem typeE_wt : ∀ (f : Nat) (n : Node) (t : TypeE) (W : Nat), typeE f n = .ok t → NW n W → Sx.tyw f t + 1 ≤ W := by
 intro f
 induction f with
 | zero => intro n t W h; cases h
 | succ f ih =>
   intro n t W h hw
   have hge := hw.ge
   rw [typeE] at h
   by_cases h1 : (isConB n || isNameB n) = true
   · rw [if_pos h1] at h
     simp only [Except.ok.injEq] at h
     subst h
     rw [Sx.tyw]
     simp only [List.map_nil, List.sum_nil]; omega
   · rw [if_neg h1] at h
     cases hq : nodes n 2 9 with
     | error p => rw [hq] at h; cases h
     | ok l =>
       rw [hq] at h
       simp only at h
       obtain ⟨rfl, hl⟩ := jW hq
       obtain ⟨ws, h2, rfl⟩ := hw.split
       obtain ⟨w0, h3, h4, h5⟩ := h2.head2 (by omega) n
       have h3g := h3.ge
       have fin : ∀ {nm : List UInt8}, nm.length ≤ (n.list.headD n).text.length + 2 → (match each (typeE f) n.list.tail with | .error p => (.error p : R TypeE) | .ok xs => .ok (.mk n.pos nm xs)) = .ok t → Sx.tyw (f + 1) t + 1 ≤ n.text.length + 24 + ws.sum := by
        intro nm hnm e
        cases he : each (typeE f) n.list.tail with
        | error p => rw [he] at e; cases e
        | ok xs =>
          rw [he] at e
          simp only [Except.ok.injEq] at e
          subst e
          have hs := each_wt (len := Sx.tyw f) (fun m hm x W hx hW => by have := ih m x W hx hW; omega) he h5
          rw [Sx.tyw]
          omega
       by_cases hA : word n = [45, 62]
       · simp only [if_pos hA] at h
         cases hh : hold n 3 3 with
         | error p => rw [hh] at h; cases h
         | ok u => rw [hh] at h; exact fin (by simp) h
       · simp only [if_neg hA] at h
         cases hc : conName (n.list.headD n) with
         | error p => rw [hc] at h; cases h
         | ok nm =>
           rw [hc] at h
           have hnm := conName_is hc
           subst hnm
           exact fin (by omega) h
theorem con_wt (n : Node) (c : Con) (W : Nat) (h : con 50 n = .ok c) (hw : NW n W) : Sx.cw c + 1 ≤ W := by
 unfold con at h
 cases hq : nodes n 1 9 with
 | error p => rw [hq] at h; cases h
 | ok l =>
   rw [hq] at h
   simp only at h
   obtain ⟨rfl, hl⟩ := jW hq
   obtain ⟨ws, h2, rfl⟩ := hw.split
   obtain ⟨w0, h3, h4, h5⟩ := h2.head2 (by omega) n
   have h3g := h3.ge
   cases hc : conName (n.list.headD n) with
   | error p => rw [hc] at h; cases h
   | ok nm =>
     rw [hc] at h
     simp only at h
     have hnm := conName_is hc
     subst hnm
     cases he : each (typeE 50) n.list.tail with
     | error p => rw [he] at h; cases h
     | ok xs =>
       rw [he] at h
       simp only [Except.ok.injEq] at h
       subst h
       have hs := each_wt (len := Sx.tyw 50) (fun m hm x W hx hW => by have := typeE_wt 50 m x W hx hW; omega) he h5
       unfold Sx.cw
       dsimp only
       omega
theorem data_wt (n : Node) (c : Data) (W : Nat) (h : data 50 n = .ok c) (hw : NW n W) : Sx.dw c + 1 ≤ W := by
 unfold data at h
 cases hq : nodes n 4 103 with
 | error p => rw [hq] at h; cases h
 | ok l =>
   rw [hq] at h
   simp only at h
   obtain ⟨rfl, hl⟩ := jW hq
   obtain ⟨ws, h2, rfl⟩ := hw.split
   obtain ⟨a, b, c', ha, hb, hc3, hsum, hrest⟩ := h2.three (by omega) n
   have hbg := hb.ge
   cases hc : conName (n.list.getD 1 n) with
   | error p => rw [hc] at h; cases h
   | ok nm =>
     rw [hc] at h
     simp only at h
     have hnm := conName_is hc
     subst hnm
     cases hns : names (n.list.getD 2 n) 0 with
     | error q => rw [hns] at h; cases h
     | ok ps =>
       rw [hns] at h
       simp only at h
       have e1 := names_wt hns hc3
       cases he : each (con 50) (n.list.drop 3) with
       | error p => rw [he] at h; cases h
       | ok xs =>
         rw [he] at h
         simp only [Except.ok.injEq] at h
         subst h
         have hs := each_wt (len := Sx.cw) (fun m hm x W hx hW => by have := con_wt m x W hx hW; omega) he hrest
         unfold Sx.dw
         dsimp only
         omega
theorem defn_wt (n : Node) (c : Def) (W : Nat) (h : defn 50 n = .ok c) (hw : NW n W) : Sx.fw c + 1 ≤ W := by
 unfold defn at h
 cases hq : nodes n 4 4 with
 | error p => rw [hq] at h; cases h
 | ok l =>
   rw [hq] at h
   simp only at h
   obtain ⟨rfl, hl⟩ := jW hq
   obtain ⟨ws, h2, rfl⟩ := hw.split
   obtain ⟨a, b, c', ha, hb, hc3, hsum, hrest⟩ := h2.three (by omega) n
   have hbg := hb.ge
   cases hc : name (n.list.getD 1 n) with
   | error p => rw [hc] at h; cases h
   | ok nm =>
     rw [hc] at h
     simp only at h
     have hnm := name_is hc
     subst hnm
     cases hns : names (n.list.getD 2 n) 0 with
     | error q => rw [hns] at h; cases h
     | ok ps =>
       rw [hns] at h
       simp only at h
       have e1 := names_wt hns hc3
       cases he : expr 50 (n.list.getD 3 n) with
       | error p => rw [he] at h; cases h
       | ok x =>
         rw [he] at h
         simp only [Except.ok.injEq] at h
         subst h
         have hd : ∃ d, NW (n.list.getD 3 n) d ∧ d ≤ (ws.drop 3).sum := by
          have hl3 : 1 ≤ (n.list.drop 3).length := by rw [List.length_drop]; omega
          obtain ⟨d, g1, g2, _⟩ := hrest.head2 hl3 n
          refine ⟨d, ?_, by omega⟩
          have : (n.list.drop 3).headD n = n.list.getD 3 n := by
           rw [List.getD_eq_getElem?_getD, List.headD_eq_head?_getD, List.head?_drop]
          rw [← this]; exact g1
         obtain ⟨d, g1, g2⟩ := hd
         have e2 := expr_wt _ _ _ _ he g1
         unfold Sx.fw
         dsimp only
         omega
theorem prog_wt (stop : Nat) : ∀ (f c : Nat) (ts : List Lx.Tok) (p : Prog), prog stop f c ts = .ok p → (p.datas.map Sx.dw).sum + (p.defs.map Sx.fw).sum ≤ tw ts := by
 intro f
 induction f with
 | zero => intro c ts p h; simp only [prog, Except.ok.injEq] at h; subst h; simp
 | succ f ih =>
   intro c ts p h
   cases ts with
   | nil => simp only [prog, Except.ok.injEq] at h; subst h; simp
   | cons t ts =>
     rw [prog] at h
     · cases hn : node stop (2 * (t :: ts).length + 2) 0 (t :: ts) with
       | error q => rw [hn] at h; cases h
       | ok y =>
         obtain ⟨n, ts'⟩ := y
         rw [hn] at h
         simp only at h
         obtain ⟨W, h1, h2⟩ := (node_weight stop (2 * (t :: ts).length + 2) 0 (t :: ts)).1 n ts' hn
         by_cases hc : c = 100
         · rw [if_pos hc] at h; cases h
         rw [if_neg hc] at h
         by_cases hw1 : word n = [100, 97, 116, 97]
         · rw [if_pos hw1] at h
           cases hd : data 50 n with
           | error q => rw [hd] at h; cases h
           | ok d =>
             rw [hd] at h
             simp only at h
             cases hr : prog stop f (c + 1) ts' with
             | error q => rw [hr] at h; cases h
             | ok q =>
               rw [hr] at h
               simp only [Except.ok.injEq] at h
               subst h
               have e1 := ih _ _ _ hr
               have e2 := data_wt _ _ _ hd h1
               simp only [List.map_cons, List.sum_cons]
               omega
         · rw [if_neg hw1] at h
           by_cases hw2 : word n = [100, 101, 102]
           · rw [if_pos hw2] at h
             cases hd : defn 50 n with
             | error q => rw [hd] at h; cases h
             | ok d =>
               rw [hd] at h
               simp only at h
               cases hr : prog stop f (c + 1) ts' with
               | error q => rw [hr] at h; cases h
               | ok q =>
                 rw [hr] at h
                 simp only [Except.ok.injEq] at h
                 subst h
                 have e1 := ih _ _ _ hr
                 have e2 := defn_wt _ _ _ hd h1
                 simp only [List.map_cons, List.sum_cons]
                 omega
           · rw [if_neg hw2] at h; cases h
     · simp
theorem program_wt (l : List UInt8) (p : Prog) (h : program l = .done p) : (p.datas.map Sx.dw).sum + (p.defs.map Sx.fw).sum ≤ 102400 := by
 unfold program parsed at h
 by_cases h0 : 4096 < l.length
 · rw [if_pos h0] at h; cases h
 rw [if_neg h0] at h
 have hw := toks_weight (l.length + 1) 0 l
 cases ht : Lx.toks (l.length + 1) 0 l with
 | mk ts r =>
   rw [ht] at h hw
   cases r with
   | some q => cases h
   | none =>
     simp only at h hw
     cases hn : prog l.length (ts.length + 1) 0 ts with
     | error q => rw [hn] at h; cases h
     | ok y =>
       rw [hn] at h
       simp only [Outcome.done.injEq] at h
       subst h
       have := prog_wt _ _ _ _ _ hn
       omega
end Px
end Go.Proofs.Ytgoacbomphlhjaa

namespace Go.Proofs.Ytgoacbomphlhjaa
open Go.Lib (hid)
open List renaming getElem_toArray → jX, getElem_cons_succ → jY, getElem_cons_zero → jZ, setIfInBounds_toArray → JA, set_cons_zero → JB, set_cons_succ → JC
open Go Go.RowKit
theorem progAt_sh {f : Nat} {u : World} {v : Value} {p : Px.Prog} (h : ProgAt f u v p) : ∃ q1 c1 q2 c2, v = .agg #[.slice q1 p.datas.length c1, .slice q2 p.defs.length c2] := by
 obtain ⟨dv, fv, rfl, h1, h2⟩ := h
 obtain ⟨q1, c1, rfl⟩ := h1.len
 obtain ⟨q2, c2, rfl⟩ := h2.len
 exact ⟨_, _, _, _, rfl⟩
theorem new_alloc {α : Type} {rep : World → Value → α → Prop} {w w' : World} {v : Value} {x : α} (h : New rep w w' v x) (o : Obj) : rep (w'.alloc o) v x := h _ (fun b _ hb => Below.heap_alloc w' o b hb)
def livesS : List UInt8 := [40, 100, 101, 102, 32, 109, 97, 105, 110, 32, 40, 41, 32, 120, 41]
set_option maxRecDepth 100000 in
theorem livesS_px : Px.program livesS = .done ⟨[], [⟨0, [109, 97, 105, 110], [], .mk 1 13 [120] 0 [] [] []⟩]⟩ := by kernel_rfl
set_option maxRecDepth 100000 in
theorem livesS_at : progS ⟨[], [⟨0, [109, 97, 105, 110], [], .mk 1 13 [120] 0 [] [] []⟩]⟩ = 13 := by kernel_rfl
theorem livesS_no : checkNo 13 = 4 := by decide
theorem owns_size {w : World} {mb n : Nat} {R : RdU} {D : DU} (h : w.ownsMap Try.prog 9 R mb n D) : Maps.size D ≤ n := by
 obtain ⟨es, clock, _, _, hn, rfl⟩ := h
 simpa [Maps.size, length_sorted] using hn
set_option maxHeartbeats 2000000 in
set_option maxRecDepth 100000 in
theorem given_three (w : World) : Calls Try.prog 17 #[] w fun e w' => ∃ mb, e = .returned (.map (some mb)) ∧ Below w.heap.size w w' ∧ w.heap.size ≤ mb ∧ ∃ D : DU, w'.ownsMap Try.prog 9 RInt mb 3 D ∧ Maps.size D = 3 := by
 have K1 := hid (keyLit sInt (by decide))
 have K2 := hid (keyLit sBool (by decide))
 have K3 := hid (keyLit sCpx (by decide))
 have HV : Hid (RInt (.int .i64 0) = some (encN 0, [])) := hid (plainElem_int Try.underlying3 (by decide))
 have H0 := hid (MapG.made (R := RInt) (enc := encN) w)
 obtain ⟨D, h1, h2, h3⟩ := H0.out
 have O0 := hid h1
 have T0 := hid h2
 have N0 := hid h3
 clear h1 h2 h3
 have P1 := hid (mapg_put T0.out N0.out sInt 0)
 have P2 := hid (mapg_put P1.out.1 P1.out.2 sBool 0)
 have P3 := hid (mapg_put P2.out.1 P2.out.2 sCpx 0)
 have hmm := @run_makeMap Try.prog
 go_enter Try.func17, Try.ntmps17
 go_wp2_with (first
  | (refine wpList_insert_own _ rfl _ _ _ 64 rfl 9 3 lawStr Try.underlying64 _ w.heap.size 0 D rfl O0.out (by decide) _ _ _ rfl rfl K1.out _ [] HV.out ?_; intro w1 o1 g1; have O1 := hid o1; have G1 := hid g1; clear o1 g1)
  | (refine wpList_insert_own _ rfl _ _ _ 64 rfl 9 3 lawStr Try.underlying64 _ w.heap.size 1 _ rfl O1.out (by decide) _ _ _ rfl rfl K2.out _ [] HV.out ?_; intro w2 o2 g2; have O2 := hid o2; have G2 := hid g2; clear o2 g2)
  | (refine wpList_insert_own _ rfl _ _ _ 64 rfl 9 3 lawStr Try.underlying64 _ w.heap.size 2 _ rfl O2.out (by decide) _ _ _ rfl rfl K3.out _ [] HV.out ?_; intro w3 o3 g3; have O3 := hid o3; have G3 := hid g3; clear o3 g3))
 go_ret
 have s1 : Maps.size (D.put (.string sInt) (encN 0)) = Maps.size D + 1 := by rw [Maps.size_put T0.out, (N0.out sInt).1]; rfl
 have s2 : Maps.size ((D.put (.string sInt) (encN 0)).put (.string sBool) (encN 0)) = Maps.size D + 2 := by rw [Maps.size_put P1.out.1, (P1.out.2 sBool).1, s1, if_neg (by decide)]
 have s3 : Maps.size (((D.put (.string sInt) (encN 0)).put (.string sBool) (encN 0)).put (.string sCpx) (encN 0)) = Maps.size D + 3 := by rw [Maps.size_put P2.out.1, (P2.out.2 sCpx).1, s2, if_neg (by decide)]
 have s4 := owns_size O0.out
 refine ⟨w.heap.size, rfl, ?_, Nat.le_refl _, _, O3.out, by rw [s3]; omega⟩
 have hb0 : Below w.heap.size w (w.alloc (.map #[] 0)) := (Below.refl _ w).alloc (Nat.le_refl _) _
 exact (below_map (below_map (below_map hb0 G1.out (Nat.le_refl _)) G2.out (Nat.le_refl _)) G3.out (Nat.le_refl _))
set_option maxHeartbeats 4000000 in
set_option maxRecDepth 100000 in
theorem lives_any (w : World) : Calls Try.prog 7 #[] w fun e w' => e = .returned (.bool true) ∧ Below w.heap.size w w' := by
 go_enter Try.func7, Try.ntmps7
 go_wp2_with fail
 refine (RProgram_any livesS _ (by decide)).mono ?_
 rintro e w1 ⟨hb, v, p, c, rfl, _, hres⟩
 rw [livesS_px] at hres
 obtain ⟨rfl, rfl, hnew⟩ := hres
 obtain ⟨q1, c1, q2, c2, rfl⟩ := progAt_sh hnew.now
 have hw := Px.program_wt _ _ livesS_px
 have HP := hid (new_alloc hnew (.cells #[.slice q1 0 c1, .slice q2 1 c2] 27))
 have HB := hid (hb.alloc hb.size (.cells #[.slice q1 0 c1, .slice q2 1 c2] 27))
 have HW := hid hw
 clear hb hnew hw
 go_wp2_with fail
 refine (Check_any _ _ _ HP.out (Nat.le_trans HW.out (by decide))).mono ?_
 rintro e w2 ⟨rfl, hb2⟩
 rw [livesS_at, livesS_no]
 have HB2 := hid (HB.out.trans (hb2.mono HB.out.size))
 clear hb2 HP HB HW
 go_wp2_with fail
 refine (given_three _).mono ?_
 rintro e w3 ⟨mb, rfl, hb3, hmb, D, ho, hsz⟩
 have HB3 := hid (HB2.out.trans (hb3.mono HB2.out.size))
 have hlen := fun ty => World.ownsMap.len ho Try.underlying64 ty
 rw [hsz] at hlen
 clear hb3 HB2 hmb ho hsz
 go_wp2_with fail
 go_ret
 exact ⟨rfl, HB3.out⟩
end Go.Proofs.Ytgoacbomphlhjaa

namespace Go.Proofs.Ytgoacbomphlhjaa
open Go.Lib (hid)
open List renaming getElem_toArray → jX, getElem_cons_succ → jY, getElem_cons_zero → jZ, setIfInBounds_toArray → JA, set_cons_zero → JB, set_cons_succ → JC
open Go Go.RowKit
end Go.Proofs.Ytgoacbomphlhjaa

namespace Go.Proofs.Ytgoacbomphlhjaa
open Go.Lib (hid)
open List renaming getElem_toArray → jX, getElem_cons_succ → jY, getElem_cons_zero → jZ, setIfInBounds_toArray → JA, set_cons_zero → JB, set_cons_succ → JC
open Go Go.RowKit
def findI (ds : List Px.Data) (nm : Nm) : Int := match consTab ds nm with | some c => c.1 | none => -1
def findK (ds : List Px.Data) (nm : Nm) : Int := match consTab ds nm with | some c => c.2.1 | none => 1
def findN (ds : List Px.Data) (nm : Nm) : Int := match consTab ds nm with | some c => c.2.2 | none => 0
def findB (ds : List Px.Data) (nm : Nm) : Bool := (consTab ds nm).isSome
def findV (ds : List Px.Data) (nm : Nm) : Value := .tuple #[.int .i64 (findI ds nm), .int .i64 (findK ds nm), .int .i64 (findN ds nm), .bool (findB ds nm)]
theorem findV_some {ds : List Px.Data} {nm : Nm} {c : C3} (h : consTab ds nm = some c) : findV ds nm = .tuple #[.int .i64 c.1, .int .i64 c.2.1, .int .i64 c.2.2, .bool true] := by
 simp [findV, findI, findK, findN, findB, h]
theorem findV_none {ds : List Px.Data} {nm : Nm} (h : consTab ds nm = none) : findV ds nm = .tuple #[.int .i64 (-1), .int .i64 1, .int .i64 0, .bool false] := by
 simp [findV, findI, findK, findN, findB, h]
theorem zip_nil {α : Type} (l : List α) : l.zipIdx.take 0 = [] := rfl
theorem cons0_false : cons0 sFalse = some (-1, 0, 0) := by decide
theorem cons0_true : cons0 sTrue = some (-1, 1, 0) := by decide
theorem cons0_none {nm : Nm} (h1 : nm ≠ sFalse) (h2 : nm ≠ sTrue) : cons0 nm = none := by simp [cons0, putm, h1, h2]
theorem results_tmp4 {fn : Func} {t u v x : Tmp} (h : fn.results = #[.tmp t, .tmp u, .tmp v, .tmp x]) (tmps : Array Value) (P : Program) (w : World) :
 (results fn tmps).run P w = .ok (.tuple #[tmps.getD t undef, tmps.getD u undef, tmps.getD v undef, tmps.getD x undef]) w := by
 simp [results, h, go_sem]
set_option maxHeartbeats 4000000 in
set_option maxRecDepth 100000 in
theorem find_any (f : Nat) (p : Px.Prog) (v : Value) (nm : Nm) (w : World) (hp : ProgAt f w v p) (hw : (p.datas.map Sx.dw).sum ≤ 400000) :
 Calls Try.prog 12 #[v, .string ⟨nm.toArray⟩] w fun e w' => e = .returned (findV p.datas nm) ∧ Below w.heap.size w w' := by
 obtain ⟨dv, fv, rfl, h1, h2⟩ := hp
 obtain ⟨q1, c1, rfl⟩ := h1.len
 obtain ⟨q2, c2, rfl⟩ := h2.len
 have HR := hid h1
 have hdl : p.datas.length ≤ 400000 := Nat.le_trans (Sx.len_sum Sx.dw _ (fun x _ => by unfold Sx.dw; omega)) hw
 have HW := hid hw
 clear h1 h2 hw
 go_enter Try.func12, Try.ntmps12
 have EX := hid (jI w #[.slice q1 p.datas.length c1, .slice q2 p.defs.length c2] 27)
 have HB := hid (show Below w.heap.size w (w.alloc (.cells #[.slice q1 p.datas.length c1, .slice q2 p.defs.length c2] 27)) from (Below.refl _ _).alloc (Nat.le_refl _) _)
 go_upto_region 1 with fail
 generalize w.alloc (.cells #[.slice q1 p.datas.length c1, .slice q2 p.defs.length c2] 27) = w1 at EX HB ⊢
 have e0 := jA EX.out 0 _ rfl; have e1 := jA EX.out 1 _ rfl
 go_wp2_with fail
 go_loopw [8] (fun i wr => ∃ k : Nat, i = .int .i64 ((k : Int) - 1) ∧ k ≤ p.datas.length ∧ Hid (consTab p.datas nm = ((p.datas.zipIdx.take k).foldl consStep cons0) nm) ∧ wr = w1) (fun i _ => (intOf i + 1).toNat)
 case atStart => exact ⟨p.datas.length, by go_num, Nat.le_refl _, hid (by rw [List.take_of_length_le (by simp)]; rfl), rfl⟩
 case round =>
  obtain ⟨k, rfl, hk, HT, rfl⟩ := hrel
  by_cases hk0 : k = 0
  · subst hk0
    have hT := HT.out
    rw [zip_nil] at hT
    simp only [List.foldl_nil] at hT
    by_cases hf : nm = sFalse
    · subst hf
      have HV := hid (findV_some (hT.trans cons0_false))
      clear hT HT
      go_wp2_with fail
      refine bodyPost_ret (results_tmp4 rfl _ _ _) rfl ?_
      exact ⟨by rw [HV.out]; rfl, HB.out⟩
    · have ha : ¬ (⟨nm.toArray⟩ : ByteArray) = { data := #[70, 97, 108, 115, 101] } := arr_ne hf
      have ha2 : (nm == [70, 97, 108, 115, 101]) = false := beq_eq_false_iff_ne.2 hf
      have ha3 : ¬ nm.toArray = #[70, 97, 108, 115, 101] := fun e => hf (show nm = [70, 97, 108, 115, 101] by simpa using congrArg Array.toList e)
      by_cases ht : nm = sTrue
      · subst ht
        have HV := hid (findV_some (hT.trans cons0_true))
        clear hT HT
        go_wp2_with fail
        refine bodyPost_ret (results_tmp4 rfl _ _ _) rfl ?_
        exact ⟨by rw [HV.out]; rfl, HB.out⟩
      · have hb : ¬ (⟨nm.toArray⟩ : ByteArray) = { data := #[84, 114, 117, 101] } := arr_ne ht
        have hb2 : (nm == [84, 114, 117, 101]) = false := beq_eq_false_iff_ne.2 ht
        have hb3 : ¬ nm.toArray = #[84, 114, 117, 101] := fun e => ht (show nm = [84, 114, 117, 101] by simpa using congrArg Array.toList e)
        have HV := hid (findV_none (hT.trans (cons0_none hf ht)))
        clear hT HT
        go_wp2_with fail
        refine bodyPost_ret (results_tmp4 rfl _ _ _) rfl ?_
        exact ⟨by rw [HV.out]; rfl, HB.out⟩
  · obtain ⟨m, rfl⟩ : ∃ m, k = m + 1 := ⟨k - 1, by omega⟩
    obtain ⟨d, hd⟩ : ∃ x, p.datas[m]? = some x := ⟨_, List.getElem?_eq_getElem (by omega)⟩
    rcases HR.out with ⟨h0, _⟩ | ⟨g, of, c', hv, g1, g2, g3⟩
    · rw [h0] at hk; simp at hk
    injection hv with hq1 _ hq2
    subst hq1; subst hq2
    obtain ⟨u, hu, _, hcell⟩ := g3 m d hd
    obtain ⟨q3, c3, q4, c4, rfl, _, hcr⟩ := dataAt_sh hu
    have z0 := jE HB.out (hcell 0 _ rfl); have z1 := jE HB.out (hcell 1 _ rfl); have z2 := jE HB.out (hcell 2 _ rfl); have z3 := jE HB.out (hcell 3 _ rfl)
    have hk1 : (m : Int) < (p.datas.length : Int) := by omega
    have hk2 : (p.datas.length : Int) ≤ (c1 : Int) := by omega
    have hk3 := g2
    have hm1 : ((m + 1 : Nat) : Int) - 1 = (m : Int) := by omega
    rw [hm1]
    have hdw := Sx.sum_mem Sx.dw (List.mem_of_getElem? hd)
    have hcl : d.cons.length ≤ 400000 := by have := cons_le d; have := HW.out; omega
    have HCR := hid hcr; have HD := hid hd
    have HT2 : Hid (consTab p.datas nm = ((d.cons.zipIdx.take d.cons.length).foldl (conStep (m : Int)) ((p.datas.zipIdx.take m).foldl consStep cons0)) nm) := hid (by
     rw [HT.out, take_fold consStep p.datas.zipIdx m (d, m) (zip_at hd) cons0, consStep, List.take_of_length_le (l := d.cons.zipIdx) (by simp)])
    clear g1 g2 g3 hcell hu hd hdw hcr HT
    go_wp2_with fail
    go_loopw [9] (fun i wy => ∃ k : Nat, i = .int .i64 ((k : Int) - 1) ∧ k ≤ d.cons.length ∧ Hid (consTab p.datas nm = ((d.cons.zipIdx.take k).foldl (conStep (m : Int)) ((p.datas.zipIdx.take m).foldl consStep cons0)) nm) ∧ wy = wr) (fun i _ => (intOf i + 1).toNat)
    case atStart => exact ⟨d.cons.length, by go_num, Nat.le_refl _, HT2, rfl⟩
    case round =>
     clear HT2
     obtain ⟨j, rfl, hj, HT, rfl⟩ := hrel
     by_cases hj0 : j = 0
     · subst hj0
       have HT3 := hid (show consTab p.datas nm = ((p.datas.zipIdx.take m).foldl consStep cons0) nm from HT.out)
       go_wp2_with fail
       go_roundw
       case rel => exact ⟨m, by go_num, by omega, HT3, trivial⟩
       case measure => first | (simp [intOf]; done) | (simp [intOf]; omega)
     · obtain ⟨n, rfl⟩ : ∃ n, j = n + 1 := ⟨j - 1, by omega⟩
       obtain ⟨x, hx⟩ : ∃ x, d.cons[n]? = some x := ⟨_, List.getElem?_eq_getElem (by omega)⟩
       rcases HCR.out with ⟨h0, _⟩ | ⟨g, of, c', hv, g1, g2, g3⟩
       · rw [h0] at hj; simp at hj
       injection hv with hq1 _ hq2
       subst hq1; subst hq2
       obtain ⟨u, hu, _, hcell⟩ := g3 n x hx
       obtain ⟨q5, c5, rfl, _⟩ := conAt_sh hu
       have y0 := jE HB.out (hcell 0 _ rfl); have y1 := jE HB.out (hcell 1 _ rfl); have y2 := jE HB.out (hcell 2 _ rfl)
       have hj1 : (n : Int) < (d.cons.length : Int) := by omega
       have hj2 : (d.cons.length : Int) ≤ (c4 : Int) := by omega
       have hj3 := g2
       have hn1 : ((n + 1 : Nat) : Int) - 1 = (n : Int) := by omega
       rw [hn1]
       have HT3 := hid (HT.out.trans (by rw [take_fold (conStep (m : Int)) d.cons.zipIdx n (x, n) (zip_at hx)]))
       clear g1 g2 g3 hcell hu hx HT
       by_cases he : x.name = nm
       · have hc : consTab p.datas nm = some ((m : Int), (n : Int), (x.fields.length : Int)) := by rw [HT3.out, conStep, putm, if_pos he.symm]
         have HV := hid (findV_some hc)
         clear HT3 hc
         rw [he] at y1
         go_upto_region 8 with fail
         go_quiet (fail)
         go_wp2_with fail
         refine bodyPost_ret (results_tmp4 rfl _ _ _) rfl ?_
         exact ⟨by rw [HV.out]; rfl, below_drewN HB.out _⟩
       · have hne : (x.name == nm) = false := beq_eq_false_iff_ne.2 he
         have ha : ¬ (⟨x.name.toArray⟩ : ByteArray) = ⟨nm.toArray⟩ := arr_ne he
         have ha3 : ¬ x.name.toArray = nm.toArray := fun e => he (by simpa using congrArg Array.toList e)
         have HT4 := hid (HT3.out.trans (by rw [conStep, putm, if_neg (fun e => he e.symm)]))
         clear HT3
         go_wp2_with fail
         go_roundw
         case rel => exact ⟨n, by go_num, by omega, HT4, trivial⟩
         case measure => first | (simp [intOf]; done) | (simp [intOf]; omega)
end Go.Proofs.Ytgoacbomphlhjaa
