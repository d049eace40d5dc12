/-
  Several texts in one: SRTyp, SUses.
-/
import Derived.Test.YtgoacbomphlhjaaP00
import Derived.Test.YtgoacbomphlhjaaP24
import Derived.Deep.DeepCutAuto
import Derived.Test.YtgoacbomphlhjaaP20
set_option linter.unusedVariables false
set_option linter.unusedSimpArgs false
namespace Go.Proofs.Ytgoacbomphlhjaa
open Go.Lib (hid)
open List renaming getElem_toArray → jX, getElem_cons_succ → jY, getElem_cons_zero → jZ, setIfInBounds_toArray → JA, set_cons_zero → JB, set_cons_succ → JC
open Go Go.RowKit
theorem one_len (b : Bool) (p : Nat) : (one b p).length ≤ 1 := by unfold one; split <;> simp
theorem flat_len {α : Type} (g : α → List Nat) (h : α → Nat) : ∀ (l : List α), (∀ x ∈ l, (g x).length ≤ h x) → (l.flatMap g).length ≤ (l.map h).sum
 | [], _ => by simp
 | a :: r, hx => by
   rw [List.flatMap_cons, List.length_append, List.map_cons, List.sum_cons]
   have h1 := hx a (by simp)
   have h2 := flat_len g h r (fun x hm => hx x (by simp [hm]))
   omega
theorem flatN_take {α : Type} (g : α → List Nat) (l : List α) (k : Nat) (x : α) (h : l[k]? = some x) : (l.take (k + 1)).flatMap g = (l.take k).flatMap g ++ g x := by
 rw [List.take_add_one, h]; simp
theorem typW_len (ds : List Px.Data) (vars : List Nm) : ∀ (f : Nat) (t : Px.TypeE), (typW ds vars f t).length ≤ Sx.tyw f t
 | 0, _ => by simp [typW]
 | f + 1, .mk p nm xs => by
   rw [typW, Sx.tyw, List.length_append]
   have h1 := one_len (typBad ds vars nm xs.length) p
   have h2 := flat_len (typW ds vars f) (Sx.tyw f) xs (fun x _ => typW_len ds vars f x)
   omega
/-- What a name of a type begins with. -/
theorem low_at {nm : Nm} (h : lowB nm = true) : ((97 : Int) ≤ ((Lx.at0 nm 0).toNat : Int)) ∧ (((Lx.at0 nm 0).toNat : Int) ≤ 122) := by
 unfold lowB at h; simp only [Bool.and_eq_true, decide_eq_true_eq] at h; omega
theorem upp_at {nm : Nm} (h : uppB nm = true) : ((65 : Int) ≤ ((Lx.at0 nm 0).toNat : Int)) ∧ (((Lx.at0 nm 0).toNat : Int) ≤ 90) := by
 unfold uppB at h; simp only [Bool.and_eq_true, decide_eq_true_eq] at h; omega
theorem rowT_len {f : Nat} {w : World} {v : Value} {xs : List Px.TypeE} (h : RowAt 3 (TypeAt f w) w v xs) : xs.length ≤ (xs.map (Sx.tyw f)).sum := by
 refine Sx.len_sum _ _ (fun x hx => ?_)
 rcases h with ⟨h0, _⟩ | ⟨_, _, _, _, _, _, h3⟩
 · subst h0; cases hx
 · obtain ⟨k, hk⟩ := List.mem_iff_getElem?.1 hx
   obtain ⟨_, hu, _⟩ := h3 k x hk
   cases f with
   | zero => exact hu.elim
   | succ f => cases x with | mk a b c => rw [Sx.tyw]; omega
def TypC (p : Px.Prog) (vars : List Nm) (f : Nat) : Prop := ∀ (t : Px.TypeE) (pv tv sv : Value) (w : World), ProgAt 50 w pv p → (p.datas.map Sx.dw).sum ≤ 400000 → TypeAt f w tv t → RowS w sv vars → goodT f t → Sx.tyw f t ≤ 400000 →
 Calls Try.prog 50 #[pv, tv, sv] w (RNewO w (typW p.datas vars f t))
set_option maxHeartbeats 8000000 in
set_option maxRecDepth 100000 in
theorem typ_step (p : Px.Prog) (vars : List Nm) (f : Nat) (ih : TypC p vars f) : TypC p vars (f + 1) := by
 intro t pv tv sv w hp hpw ht hs hg hw
 cases t with | mk pos nm xs =>
 obtain ⟨q1, c1, q2, c2, rfl⟩ := progAt_sh hp
 obtain ⟨av, rfl, hx⟩ := ht
 obtain ⟨qt, ct, rfl⟩ := hx.len
 obtain ⟨qs, cs, rfl⟩ := hs.len
 rw [goodT] at hg
 obtain ⟨hg1, hg2, hg3⟩ := hg
 have HP := hid hp; have HPW := hid hpw; have HX := hid hx; have HS := hid hs; have HG1 := hid hg1; have HG3 := hid hg3
 have HW : Hid (1 + nm.length + (xs.map (Sx.tyw f)).sum ≤ 400000) := hid (by rw [Sx.tyw] at hw; exact hw)
 have hnl : 0 < nm.length := List.length_pos_iff.2 hg2
 have hxl : xs.length ≤ 400000 := by have := rowT_len hx; have := HW.out; omega
 clear hp hpw hx hs hg1 hg2 hg3 hw
 go_enter Try.func50, Try.ntmps50
 have EP := hid (jH (jI w #[.slice q1 p.datas.length c1, .slice q2 p.defs.length c2] 27) (.cells #[.int .i64 pos, .string ⟨nm.toArray⟩, .slice qt xs.length ct] 112))
 have ET := hid (jI (w.alloc (.cells #[.slice q1 p.datas.length c1, .slice q2 p.defs.length c2] 27)) #[.int .i64 pos, .string ⟨nm.toArray⟩, .slice qt xs.length ct] 112)
 have HB := hid (show Below w.heap.size w ((w.alloc (.cells #[.slice q1 p.datas.length c1, .slice q2 p.defs.length c2] 27)).alloc (.cells #[.int .i64 pos, .string ⟨nm.toArray⟩, .slice qt xs.length ct] 112)) from ((Below.refl _ _).alloc (Nat.le_refl _) _).alloc (by simp) _)
 have hsz : ((w.alloc (.cells #[.slice q1 p.datas.length c1, .slice q2 p.defs.length c2] 27)).alloc (.cells #[.int .i64 pos, .string ⟨nm.toArray⟩, .slice qt xs.length ct] 112)).heap.size = w.heap.size + 2 := by simp
 rw [show (w.alloc (.cells #[.slice q1 p.datas.length c1, .slice q2 p.defs.length c2] 27)).heap.size = w.heap.size + 1 by simp] at ET
 go_upto_region 1 with fail
 generalize (w.alloc (.cells #[.slice q1 p.datas.length c1, .slice q2 p.defs.length c2] 27)).alloc (.cells #[.int .i64 pos, .string ⟨nm.toArray⟩, .slice qt xs.length ct] 112) = w1 at EP ET HB hsz ⊢
 go_upto_region 2 with fail
 go_cut [8] (fun c wx => c = .int .u8 ((Lx.at0 nm 0).toNat : Int) ∧ wx = w1)
 case first =>
  have y1 := jA ET.out 1 _ rfl
  have e := str_at nm 0 (jV nm 0 hnl)
  go_wp2_with fail
  go_meet
  exact ⟨by first | rfl | (simp [go_sem]; done) | (rw [← e]; rfl), rfl⟩
 case rest =>
 obtain ⟨rfl, rfl⟩ := hcut
 obtain ⟨w2, hw2⟩ : ∃ x, x = wc := ⟨wc, rfl⟩
 subst hw2
 go_upto_region 3 with fail
 go_cut [43] (fun o wx => o = .bool (typBad p.datas vars nm xs.length) ∧ Hid (Below (w.heap.size + 2) w2 wx))
 case first =>
  have HLOW := fun (h : lowB nm = true) => low_at h
  have HUPP := fun (h : uppB nm = true) => upp_at h
  have HARR := fun (h : nm = sArr) => (show ((Lx.at0 nm 0).toNat : Int) = 45 by rw [h]; decide)
  generalize ((Lx.at0 nm 0).toNat : Int) = ch at *
  rcases HG1.out with hl | hu | ⟨ha, hb⟩
  · have hch := HLOW hl
    have hup := low_upp hl
    cases hh : hasN vars nm with
    | false =>
      have HV := hid (show typBad p.datas vars nm xs.length = true by rw [typBad, hl, hh]; rfl)
      have HHAS := hid (show Calls Try.prog 16 #[.slice qs vars.length cs, .string ⟨nm.toArray⟩] w2.drew (fun e w' => e = .returned (.bool false) ∧ w' = w2.drew) from by rw [← hh]; exact refHas_any _ vars nm _ (jQ HS.out (HB.out.drew)))
      clear hl hup hh HLOW HUPP HARR
      refine wp_region_held_drew (S := fun (u : World) => Below (w.heap.size + 2) w2 u) (by kernel_rfl) ((Below.refl _ _).drew) (fun jM => ?_)
      refine wT 0 (.int .u8 ch) rfl (Or.inl ⟨by rfl, fun w' hSw => by go_simp⟩) jM ?_
      refine wT 1 (.bool true) rfl (Or.inl ⟨by rfl, fun w' hSw => by first | (go_simp; done) | (go_simp; omega)⟩) jM ?_
      refine wT 2 (.bool true) rfl (Or.inl ⟨by rfl, fun w' hSw => by go_simp⟩) jM ?_
      refine wT 3 (.int .u8 ch) rfl (Or.inl ⟨by go_simp, fun w' hSw => by go_simp⟩) jM ?_
      simp only [Act.put, jX, jY, jZ, JA, JB, JC]
      refine wT 4 (.bool true) rfl (Or.inl ⟨by go_simp, fun w' hSw => by first | (go_simp; done) | (go_simp; omega)⟩) jM ?_
      simp only [Act.put, jX, jY, jZ, JA, JB, JC]
      refine wT 5 (.bool true) rfl (Or.inl ⟨by rfl, fun w' hSw => by go_simp⟩) jM ?_
      refine wT 6 (.bool true) rfl (Or.inl ⟨by rfl, fun w' hSw => by go_simp⟩) jM ?_
      refine wT 7 (.slice qs vars.length cs) rfl (Or.inl ⟨by go_simp, fun w' hSw => by go_simp⟩) jM ?_
      simp only [Act.put, jX, jY, jZ, JA, JB, JC]
      refine wT 8 (.pointer (some ⟨w.heap.size + 1, 1, none⟩)) rfl (Or.inl ⟨by go_simp, fun w' hSw => by go_simp⟩) jM ?_
      simp only [Act.put, jX, jY, jZ, JA, JB, JC]
      refine wT 9 (.string ⟨nm.toArray⟩) rfl (Or.inl ⟨by go_simp, fun w' hSw => by have h := jA ((hSw.block _ (by omega)).trans ET.out) 1 _ rfl; go_simp⟩) jM ?_
      simp only [Act.put, jX, jY, jZ, JA, JB, JC]
      try simp only [Act.put, jX, jY, jZ, JA, JB, JC]
      refine wpAnyH_ready (rs := [10]) (by kernel_rfl) (by simp) ?_
      refine AllReadyH.cons rfl (fun K hK => ?_) AllReadyH.nil
      go_simp
      refine HHAS.out.mono ?_
      rintro e w9 ⟨rfl, rfl⟩
      refine hK.out _ _ ((Below.refl _ _).drew) (fun jM => ?_)
      clear hK K
      refine wT 11 (.bool true) rfl (Or.inl ⟨by go_simp, fun w' hSw => by go_simp⟩) jM ?_
      simp only [Act.put, jX, jY, jZ, JA, JB, JC]
      refine wT 12 (.bool true) rfl (Or.inl ⟨by rfl, fun w' hSw => by go_simp⟩) jM ?_
      simp only [Act.put, jX, jY, jZ, JA, JB, JC]
      refine wT 13 (.bool true) rfl (Or.inl ⟨by rfl, fun w' hSw => by go_simp⟩) jM ?_
      simp only [Act.put, jX, jY, jZ, JA, JB, JC]
      refine wT 14 (undef) rfl (Or.inr ⟨(by first | (go_simp; done) | (go_simp; simp; done) | (go_simp; intro h; cases h)), rfl⟩) jM ?_
      simp only [Act.put, jX, jY, jZ, JA, JB, JC]
      refine wT 15 (undef) rfl (Or.inr ⟨(by first | (go_simp; done) | (go_simp; simp; done) | (go_simp; intro h; cases h)), rfl⟩) jM ?_
      simp only [Act.put, jX, jY, jZ, JA, JB, JC]
      refine wT 16 (undef) rfl (Or.inr ⟨(by first | (go_simp; done) | (go_simp; simp; done) | (go_simp; intro h; cases h)), rfl⟩) jM ?_
      simp only [Act.put, jX, jY, jZ, JA, JB, JC]
      refine wT 17 (undef) rfl (Or.inr ⟨(by first | (go_simp; done) | (go_simp; simp; done) | (go_simp; intro h; cases h)), rfl⟩) jM ?_
      simp only [Act.put, jX, jY, jZ, JA, JB, JC]
      refine wT 18 (undef) rfl (Or.inr ⟨(by first | (go_simp; done) | (go_simp; simp; done) | (go_simp; intro h; cases h)), rfl⟩) jM ?_
      simp only [Act.put, jX, jY, jZ, JA, JB, JC]
      refine wT 19 (undef) rfl (Or.inr ⟨(by first | (go_simp; done) | (go_simp; simp; done) | (go_simp; intro h; cases h)), rfl⟩) jM ?_
      simp only [Act.put, jX, jY, jZ, JA, JB, JC]
      refine wT 20 (undef) rfl (Or.inr ⟨(by first | (go_simp; done) | (go_simp; simp; done) | (go_simp; intro h; cases h)), rfl⟩) jM ?_
      simp only [Act.put, jX, jY, jZ, JA, JB, JC]
      refine wT 21 (undef) rfl (Or.inr ⟨(by first | (go_simp; done) | (go_simp; simp; done) | (go_simp; intro h; cases h)), rfl⟩) jM ?_
      simp only [Act.put, jX, jY, jZ, JA, JB, JC]
      refine wT 22 (undef) rfl (Or.inr ⟨(by first | (go_simp; done) | (go_simp; simp; done) | (go_simp; intro h; cases h)), rfl⟩) jM ?_
      simp only [Act.put, jX, jY, jZ, JA, JB, JC]
      refine wT 23 (undef) rfl (Or.inr ⟨(by first | (go_simp; done) | (go_simp; simp; done) | (go_simp; intro h; cases h)), rfl⟩) jM ?_
      simp only [Act.put, jX, jY, jZ, JA, JB, JC]
      refine wT 24 (undef) rfl (Or.inr ⟨(by first | (go_simp; done) | (go_simp; simp; done) | (go_simp; intro h; cases h)), rfl⟩) jM ?_
      simp only [Act.put, jX, jY, jZ, JA, JB, JC]
      refine wT 25 (undef) rfl (Or.inr ⟨(by first | (go_simp; done) | (go_simp; simp; done) | (go_simp; intro h; cases h)), rfl⟩) jM ?_
      simp only [Act.put, jX, jY, jZ, JA, JB, JC]
      refine wT 26 (undef) rfl (Or.inr ⟨(by first | (go_simp; done) | (go_simp; simp; done) | (go_simp; intro h; cases h)), rfl⟩) jM ?_
      simp only [Act.put, jX, jY, jZ, JA, JB, JC]
      refine wT 27 (undef) rfl (Or.inr ⟨(by first | (go_simp; done) | (go_simp; simp; done) | (go_simp; intro h; cases h)), rfl⟩) jM ?_
      simp only [Act.put, jX, jY, jZ, JA, JB, JC]
      refine wT 28 (undef) rfl (Or.inr ⟨(by first | (go_simp; done) | (go_simp; simp; done) | (go_simp; intro h; cases h)), rfl⟩) jM ?_
      simp only [Act.put, jX, jY, jZ, JA, JB, JC]
      refine wT 29 (undef) rfl (Or.inr ⟨(by first | (go_simp; done) | (go_simp; simp; done) | (go_simp; intro h; cases h)), rfl⟩) jM ?_
      simp only [Act.put, jX, jY, jZ, JA, JB, JC]
      refine wT 30 (.bool true) rfl (Or.inl ⟨by rfl, fun w' hSw => by go_simp⟩) jM ?_
      simp only [Act.put, jX, jY, jZ, JA, JB, JC]
      refine wpAnyH_done (by kernel_rfl) ?_ _
      go_wp2_with fail
      go_meet
      exact ⟨by rw [HV.out], hid ((Below.refl _ _).drew)⟩
    | true =>
      have HV := hid (show typBad p.datas vars nm xs.length = false by rw [typBad, hl, hh, hup]; rfl)
      have HHAS := hid (show Calls Try.prog 16 #[.slice qs vars.length cs, .string ⟨nm.toArray⟩] w2.drew (fun e w' => e = .returned (.bool true) ∧ w' = w2.drew) from by rw [← hh]; exact refHas_any _ vars nm _ (jQ HS.out (HB.out.drew)))
      clear hl hup hh HLOW HUPP HARR
      refine wp_region_held_drew (S := fun (u : World) => Below (w.heap.size + 2) w2 u) (by kernel_rfl) ((Below.refl _ _).drew) (fun jM => ?_)
      refine wT 0 (.int .u8 ch) rfl (Or.inl ⟨by rfl, fun w' hSw => by go_simp⟩) jM ?_
      refine wT 1 (.bool true) rfl (Or.inl ⟨by rfl, fun w' hSw => by first | (go_simp; done) | (go_simp; omega)⟩) jM ?_
      refine wT 2 (.bool true) rfl (Or.inl ⟨by rfl, fun w' hSw => by go_simp⟩) jM ?_
      refine wT 3 (.int .u8 ch) rfl (Or.inl ⟨by go_simp, fun w' hSw => by go_simp⟩) jM ?_
      simp only [Act.put, jX, jY, jZ, JA, JB, JC]
      refine wT 4 (.bool true) rfl (Or.inl ⟨by go_simp, fun w' hSw => by first | (go_simp; done) | (go_simp; omega)⟩) jM ?_
      simp only [Act.put, jX, jY, jZ, JA, JB, JC]
      refine wT 5 (.bool true) rfl (Or.inl ⟨by rfl, fun w' hSw => by go_simp⟩) jM ?_
      refine wT 6 (.bool true) rfl (Or.inl ⟨by rfl, fun w' hSw => by go_simp⟩) jM ?_
      refine wT 7 (.slice qs vars.length cs) rfl (Or.inl ⟨by go_simp, fun w' hSw => by go_simp⟩) jM ?_
      simp only [Act.put, jX, jY, jZ, JA, JB, JC]
      refine wT 8 (.pointer (some ⟨w.heap.size + 1, 1, none⟩)) rfl (Or.inl ⟨by go_simp, fun w' hSw => by go_simp⟩) jM ?_
      simp only [Act.put, jX, jY, jZ, JA, JB, JC]
      refine wT 9 (.string ⟨nm.toArray⟩) rfl (Or.inl ⟨by go_simp, fun w' hSw => by have h := jA ((hSw.block _ (by omega)).trans ET.out) 1 _ rfl; go_simp⟩) jM ?_
      simp only [Act.put, jX, jY, jZ, JA, JB, JC]
      try simp only [Act.put, jX, jY, jZ, JA, JB, JC]
      refine wpAnyH_ready (rs := [10]) (by kernel_rfl) (by simp) ?_
      refine AllReadyH.cons rfl (fun K hK => ?_) AllReadyH.nil
      go_simp
      refine HHAS.out.mono ?_
      rintro e w9 ⟨rfl, rfl⟩
      refine hK.out _ _ ((Below.refl _ _).drew) (fun jM => ?_)
      clear hK K
      refine wT 11 (.bool false) rfl (Or.inl ⟨by go_simp, fun w' hSw => by go_simp⟩) jM ?_
      simp only [Act.put, jX, jY, jZ, JA, JB, JC]
      refine wT 12 (.bool false) rfl (Or.inl ⟨by rfl, fun w' hSw => by go_simp⟩) jM ?_
      simp only [Act.put, jX, jY, jZ, JA, JB, JC]
      refine wT 13 (.bool false) rfl (Or.inl ⟨by rfl, fun w' hSw => by go_simp⟩) jM ?_
      simp only [Act.put, jX, jY, jZ, JA, JB, JC]
      refine wT 14 (.int .u8 ch) rfl (Or.inl ⟨by go_simp, fun w' hSw => by go_simp⟩) jM ?_
      simp only [Act.put, jX, jY, jZ, JA, JB, JC]
      refine wT 15 (.bool true) rfl (Or.inl ⟨by go_simp, fun w' hSw => by first | (go_simp; done) | (go_simp; omega)⟩) jM ?_
      simp only [Act.put, jX, jY, jZ, JA, JB, JC]
      refine wT 16 (.bool true) rfl (Or.inl ⟨by go_simp, fun w' hSw => by go_simp⟩) jM ?_
      simp only [Act.put, jX, jY, jZ, JA, JB, JC]
      refine wT 17 (.int .u8 ch) rfl (Or.inl ⟨by go_simp, fun w' hSw => by go_simp⟩) jM ?_
      simp only [Act.put, jX, jY, jZ, JA, JB, JC]
      refine wT 18 (.bool false) rfl (Or.inl ⟨by go_simp, fun w' hSw => by first | (go_simp; done) | (go_simp; omega)⟩) jM ?_
      simp only [Act.put, jX, jY, jZ, JA, JB, JC]
      refine wT 19 (.bool false) rfl (Or.inl ⟨by go_simp, fun w' hSw => by go_simp⟩) jM ?_
      simp only [Act.put, jX, jY, jZ, JA, JB, JC]
      refine wT 20 (.bool false) rfl (Or.inl ⟨by go_simp, fun w' hSw => by go_simp⟩) jM ?_
      simp only [Act.put, jX, jY, jZ, JA, JB, JC]
      refine wT 21 (undef) rfl (Or.inr ⟨(by first | (go_simp; done) | (go_simp; simp; done) | (go_simp; intro h; cases h)), rfl⟩) jM ?_
      simp only [Act.put, jX, jY, jZ, JA, JB, JC]
      refine wT 22 (undef) rfl (Or.inr ⟨(by first | (go_simp; done) | (go_simp; simp; done) | (go_simp; intro h; cases h)), rfl⟩) jM ?_
      simp only [Act.put, jX, jY, jZ, JA, JB, JC]
      refine wT 23 (undef) rfl (Or.inr ⟨(by first | (go_simp; done) | (go_simp; simp; done) | (go_simp; intro h; cases h)), rfl⟩) jM ?_
      simp only [Act.put, jX, jY, jZ, JA, JB, JC]
      refine wT 24 (undef) rfl (Or.inr ⟨(by first | (go_simp; done) | (go_simp; simp; done) | (go_simp; intro h; cases h)), rfl⟩) jM ?_
      simp only [Act.put, jX, jY, jZ, JA, JB, JC]
      refine wT 25 (undef) rfl (Or.inr ⟨(by first | (go_simp; done) | (go_simp; simp; done) | (go_simp; intro h; cases h)), rfl⟩) jM ?_
      simp only [Act.put, jX, jY, jZ, JA, JB, JC]
      refine wT 26 (undef) rfl (Or.inr ⟨(by first | (go_simp; done) | (go_simp; simp; done) | (go_simp; intro h; cases h)), rfl⟩) jM ?_
      simp only [Act.put, jX, jY, jZ, JA, JB, JC]
      refine wT 27 (undef) rfl (Or.inr ⟨(by first | (go_simp; done) | (go_simp; simp; done) | (go_simp; intro h; cases h)), rfl⟩) jM ?_
      simp only [Act.put, jX, jY, jZ, JA, JB, JC]
      refine wT 28 (undef) rfl (Or.inr ⟨(by first | (go_simp; done) | (go_simp; simp; done) | (go_simp; intro h; cases h)), rfl⟩) jM ?_
      simp only [Act.put, jX, jY, jZ, JA, JB, JC]
      refine wT 29 (.bool false) rfl (Or.inl ⟨by go_simp, fun w' hSw => by go_simp⟩) jM ?_
      simp only [Act.put, jX, jY, jZ, JA, JB, JC]
      refine wT 30 (.bool false) rfl (Or.inl ⟨by rfl, fun w' hSw => by go_simp⟩) jM ?_
      simp only [Act.put, jX, jY, jZ, JA, JB, JC]
      refine wpAnyH_done (by kernel_rfl) ?_ _
      go_wp2_with fail
      go_meet
      exact ⟨by rw [HV.out], hid ((Below.refl _ _).drew)⟩
  · have hch := HUPP hu
    have hlo : lowB nm = false := by
     cases hl : lowB nm with
     | false => rfl
     | true => rw [low_upp hl] at hu; cases hu
    obtain ⟨r, hr⟩ : ∃ r, paramsI p.datas nm = r := ⟨_, rfl⟩
    have HV := hid (show typBad p.datas vars nm xs.length = decide (r ≠ (xs.length : Int)) by rw [typBad, hlo, hu, hr]; simp)
    have HPAR := hid (params_any 50 p _ nm w2.drew (jP HP.out (HB.out.drew)) HPW.out)
    rw [hr] at HPAR
    clear hu hlo hr HLOW HUPP HARR
    by_cases hq : r = (xs.length : Int)
    · have HV2 := hid (show typBad p.datas vars nm xs.length = false by rw [HV.out]; simp [hq])
      have hq2 : (r != (xs.length : Int)) = false := by simp [hq]
      clear HV
      refine wp_region_held_drew (S := fun (u : World) => Below (w.heap.size + 2) w2 u) (by kernel_rfl) ((Below.refl _ _).drew) (fun jM => ?_)
      refine wT 0 (.int .u8 ch) rfl (Or.inl ⟨by rfl, fun w' hSw => by go_simp⟩) jM ?_
      refine wT 1 (.bool false) rfl (Or.inl ⟨by rfl, fun w' hSw => by first | (go_simp; done) | (go_simp; omega)⟩) jM ?_
      refine wT 2 (.bool false) rfl (Or.inl ⟨by rfl, fun w' hSw => by go_simp⟩) jM ?_
      refine wT 3 (undef) rfl (Or.inr ⟨(by first | (go_simp; done) | (go_simp; simp; done) | (go_simp; intro h; cases h)), rfl⟩) jM ?_
      simp only [Act.put, jX, jY, jZ, JA, JB, JC]
      refine wT 4 (undef) rfl (Or.inr ⟨(by first | (go_simp; done) | (go_simp; simp; done) | (go_simp; intro h; cases h)), rfl⟩) jM ?_
      simp only [Act.put, jX, jY, jZ, JA, JB, JC]
      refine wT 5 (.bool false) rfl (Or.inl ⟨by rfl, fun w' hSw => by go_simp⟩) jM ?_
      refine wT 6 (.bool false) rfl (Or.inl ⟨by rfl, fun w' hSw => by go_simp⟩) jM ?_
      refine wT 7 (undef) rfl (Or.inr ⟨(by first | (go_simp; done) | (go_simp; simp; done) | (go_simp; intro h; cases h)), rfl⟩) jM ?_
      simp only [Act.put, jX, jY, jZ, JA, JB, JC]
      refine wT 8 (undef) rfl (Or.inr ⟨(by first | (go_simp; done) | (go_simp; simp; done) | (go_simp; intro h; cases h)), rfl⟩) jM ?_
      simp only [Act.put, jX, jY, jZ, JA, JB, JC]
      refine wT 9 (undef) rfl (Or.inr ⟨(by first | (go_simp; done) | (go_simp; simp; done) | (go_simp; intro h; cases h)), rfl⟩) jM ?_
      simp only [Act.put, jX, jY, jZ, JA, JB, JC]
      refine wT 10 (undef) rfl (Or.inr ⟨(by first | (go_simp; done) | (go_simp; simp; done) | (go_simp; intro h; cases h)), rfl⟩) jM ?_
      simp only [Act.put, jX, jY, jZ, JA, JB, JC]
      refine wT 11 (undef) rfl (Or.inr ⟨(by first | (go_simp; done) | (go_simp; simp; done) | (go_simp; intro h; cases h)), rfl⟩) jM ?_
      simp only [Act.put, jX, jY, jZ, JA, JB, JC]
      refine wT 12 (.bool false) rfl (Or.inl ⟨by rfl, fun w' hSw => by go_simp⟩) jM ?_
      refine wT 13 (.bool false) rfl (Or.inl ⟨by rfl, fun w' hSw => by go_simp⟩) jM ?_
      refine wT 14 (.int .u8 ch) rfl (Or.inl ⟨by go_simp, fun w' hSw => by go_simp⟩) jM ?_
      simp only [Act.put, jX, jY, jZ, JA, JB, JC]
      refine wT 15 (.bool true) rfl (Or.inl ⟨by go_simp, fun w' hSw => by first | (go_simp; done) | (go_simp; omega)⟩) jM ?_
      simp only [Act.put, jX, jY, jZ, JA, JB, JC]
      refine wT 16 (.bool true) rfl (Or.inl ⟨by go_simp, fun w' hSw => by go_simp⟩) jM ?_
      simp only [Act.put, jX, jY, jZ, JA, JB, JC]
      refine wT 17 (.int .u8 ch) rfl (Or.inl ⟨by go_simp, fun w' hSw => by go_simp⟩) jM ?_
      simp only [Act.put, jX, jY, jZ, JA, JB, JC]
      refine wT 18 (.bool true) rfl (Or.inl ⟨by go_simp, fun w' hSw => by first | (go_simp; done) | (go_simp; omega)⟩) jM ?_
      simp only [Act.put, jX, jY, jZ, JA, JB, JC]
      refine wT 19 (.bool true) rfl (Or.inl ⟨by go_simp, fun w' hSw => by go_simp⟩) jM ?_
      simp only [Act.put, jX, jY, jZ, JA, JB, JC]
      refine wT 20 (.bool true) rfl (Or.inl ⟨by go_simp, fun w' hSw => by go_simp⟩) jM ?_
      simp only [Act.put, jX, jY, jZ, JA, JB, JC]
      refine wT 21 (.agg #[.slice q1 p.datas.length c1, .slice q2 p.defs.length c2]) rfl (Or.inl ⟨by go_simp, fun w' hSw => by have h0 := jA ((hSw.block _ (by omega)).trans EP.out) 0 _ rfl; have h1 := jA ((hSw.block _ (by omega)).trans EP.out) 1 _ rfl; go_simp⟩) jM ?_
      simp only [Act.put, jX, jY, jZ, JA, JB, JC]
      refine wT 22 (.pointer (some ⟨w.heap.size + 1, 1, none⟩)) rfl (Or.inl ⟨by go_simp, fun w' hSw => by go_simp⟩) jM ?_
      simp only [Act.put, jX, jY, jZ, JA, JB, JC]
      refine wT 23 (.string ⟨nm.toArray⟩) rfl (Or.inl ⟨by go_simp, fun w' hSw => by have h := jA ((hSw.block _ (by omega)).trans ET.out) 1 _ rfl; go_simp⟩) jM ?_
      simp only [Act.put, jX, jY, jZ, JA, JB, JC]
      refine wT 25 (.pointer (some ⟨w.heap.size + 1, 2, none⟩)) rfl (Or.inl ⟨by go_simp, fun w' hSw => by go_simp⟩) jM ?_
      simp only [Act.put, jX, jY, jZ, JA, JB, JC]
      refine wT 26 (.slice qt xs.length ct) rfl (Or.inl ⟨by go_simp, fun w' hSw => by have h := jA ((hSw.block _ (by omega)).trans ET.out) 2 _ rfl; go_simp⟩) jM ?_
      simp only [Act.put, jX, jY, jZ, JA, JB, JC]
      refine wT 27 (.int .i64 (xs.length : Int)) rfl (Or.inl ⟨by go_simp, fun w' hSw => by go_simp⟩) jM ?_
      simp only [Act.put, jX, jY, jZ, JA, JB, JC]
      try simp only [Act.put, jX, jY, jZ, JA, JB, JC]
      refine wpAnyH_ready (rs := [24]) (by kernel_rfl) (by simp) ?_
      refine AllReadyH.cons rfl (fun K hK => ?_) AllReadyH.nil
      go_simp
      refine HPAR.out.mono ?_
      rintro e w9 ⟨rfl, hb2⟩
      have HQB := hid (show Below (w.heap.size + 2) w2 w9 from (show Below (w.heap.size + 2) w2 w2.drew from (Below.refl _ _).drew).trans (hb2.mono (by show _ ≤ w2.heap.size; omega)))
      refine hK.out _ _ HQB.out (fun jM => ?_)
      clear hb2
      clear hK K
      refine wT 28 (.bool false) rfl (Or.inl ⟨by go_simp, fun w' hSw => by go_simp⟩) jM ?_
      simp only [Act.put, jX, jY, jZ, JA, JB, JC]
      refine wT 29 (.bool false) rfl (Or.inl ⟨by go_simp, fun w' hSw => by go_simp⟩) jM ?_
      simp only [Act.put, jX, jY, jZ, JA, JB, JC]
      refine wT 30 (.bool false) rfl (Or.inl ⟨by rfl, fun w' hSw => by go_simp⟩) jM ?_
      simp only [Act.put, jX, jY, jZ, JA, JB, JC]
      refine wpAnyH_done (by kernel_rfl) ?_ _
      go_wp2_with fail
      go_meet
      exact ⟨by rw [HV2.out], HQB⟩
    · have HV2 := hid (show typBad p.datas vars nm xs.length = true by rw [HV.out]; simp [hq])
      have hq2 : (r != (xs.length : Int)) = true := by simp [hq]
      clear HV
      refine wp_region_held_drew (S := fun (u : World) => Below (w.heap.size + 2) w2 u) (by kernel_rfl) ((Below.refl _ _).drew) (fun jM => ?_)
      refine wT 0 (.int .u8 ch) rfl (Or.inl ⟨by rfl, fun w' hSw => by go_simp⟩) jM ?_
      refine wT 1 (.bool false) rfl (Or.inl ⟨by rfl, fun w' hSw => by first | (go_simp; done) | (go_simp; omega)⟩) jM ?_
      refine wT 2 (.bool false) rfl (Or.inl ⟨by rfl, fun w' hSw => by go_simp⟩) jM ?_
      refine wT 3 (undef) rfl (Or.inr ⟨(by first | (go_simp; done) | (go_simp; simp; done) | (go_simp; intro h; cases h)), rfl⟩) jM ?_
      simp only [Act.put, jX, jY, jZ, JA, JB, JC]
      refine wT 4 (undef) rfl (Or.inr ⟨(by first | (go_simp; done) | (go_simp; simp; done) | (go_simp; intro h; cases h)), rfl⟩) jM ?_
      simp only [Act.put, jX, jY, jZ, JA, JB, JC]
      refine wT 5 (.bool false) rfl (Or.inl ⟨by rfl, fun w' hSw => by go_simp⟩) jM ?_
      refine wT 6 (.bool false) rfl (Or.inl ⟨by rfl, fun w' hSw => by go_simp⟩) jM ?_
      refine wT 7 (undef) rfl (Or.inr ⟨(by first | (go_simp; done) | (go_simp; simp; done) | (go_simp; intro h; cases h)), rfl⟩) jM ?_
      simp only [Act.put, jX, jY, jZ, JA, JB, JC]
      refine wT 8 (undef) rfl (Or.inr ⟨(by first | (go_simp; done) | (go_simp; simp; done) | (go_simp; intro h; cases h)), rfl⟩) jM ?_
      simp only [Act.put, jX, jY, jZ, JA, JB, JC]
      refine wT 9 (undef) rfl (Or.inr ⟨(by first | (go_simp; done) | (go_simp; simp; done) | (go_simp; intro h; cases h)), rfl⟩) jM ?_
      simp only [Act.put, jX, jY, jZ, JA, JB, JC]
      refine wT 10 (undef) rfl (Or.inr ⟨(by first | (go_simp; done) | (go_simp; simp; done) | (go_simp; intro h; cases h)), rfl⟩) jM ?_
      simp only [Act.put, jX, jY, jZ, JA, JB, JC]
      refine wT 11 (undef) rfl (Or.inr ⟨(by first | (go_simp; done) | (go_simp; simp; done) | (go_simp; intro h; cases h)), rfl⟩) jM ?_
      simp only [Act.put, jX, jY, jZ, JA, JB, JC]
      refine wT 12 (.bool false) rfl (Or.inl ⟨by rfl, fun w' hSw => by go_simp⟩) jM ?_
      refine wT 13 (.bool false) rfl (Or.inl ⟨by rfl, fun w' hSw => by go_simp⟩) jM ?_
      refine wT 14 (.int .u8 ch) rfl (Or.inl ⟨by go_simp, fun w' hSw => by go_simp⟩) jM ?_
      simp only [Act.put, jX, jY, jZ, JA, JB, JC]
      refine wT 15 (.bool true) rfl (Or.inl ⟨by go_simp, fun w' hSw => by first | (go_simp; done) | (go_simp; omega)⟩) jM ?_
      simp only [Act.put, jX, jY, jZ, JA, JB, JC]
      refine wT 16 (.bool true) rfl (Or.inl ⟨by go_simp, fun w' hSw => by go_simp⟩) jM ?_
      simp only [Act.put, jX, jY, jZ, JA, JB, JC]
      refine wT 17 (.int .u8 ch) rfl (Or.inl ⟨by go_simp, fun w' hSw => by go_simp⟩) jM ?_
      simp only [Act.put, jX, jY, jZ, JA, JB, JC]
      refine wT 18 (.bool true) rfl (Or.inl ⟨by go_simp, fun w' hSw => by first | (go_simp; done) | (go_simp; omega)⟩) jM ?_
      simp only [Act.put, jX, jY, jZ, JA, JB, JC]
      refine wT 19 (.bool true) rfl (Or.inl ⟨by go_simp, fun w' hSw => by go_simp⟩) jM ?_
      simp only [Act.put, jX, jY, jZ, JA, JB, JC]
      refine wT 20 (.bool true) rfl (Or.inl ⟨by go_simp, fun w' hSw => by go_simp⟩) jM ?_
      simp only [Act.put, jX, jY, jZ, JA, JB, JC]
      refine wT 21 (.agg #[.slice q1 p.datas.length c1, .slice q2 p.defs.length c2]) rfl (Or.inl ⟨by go_simp, fun w' hSw => by have h0 := jA ((hSw.block _ (by omega)).trans EP.out) 0 _ rfl; have h1 := jA ((hSw.block _ (by omega)).trans EP.out) 1 _ rfl; go_simp⟩) jM ?_
      simp only [Act.put, jX, jY, jZ, JA, JB, JC]
      refine wT 22 (.pointer (some ⟨w.heap.size + 1, 1, none⟩)) rfl (Or.inl ⟨by go_simp, fun w' hSw => by go_simp⟩) jM ?_
      simp only [Act.put, jX, jY, jZ, JA, JB, JC]
      refine wT 23 (.string ⟨nm.toArray⟩) rfl (Or.inl ⟨by go_simp, fun w' hSw => by have h := jA ((hSw.block _ (by omega)).trans ET.out) 1 _ rfl; go_simp⟩) jM ?_
      simp only [Act.put, jX, jY, jZ, JA, JB, JC]
      refine wT 25 (.pointer (some ⟨w.heap.size + 1, 2, none⟩)) rfl (Or.inl ⟨by go_simp, fun w' hSw => by go_simp⟩) jM ?_
      simp only [Act.put, jX, jY, jZ, JA, JB, JC]
      refine wT 26 (.slice qt xs.length ct) rfl (Or.inl ⟨by go_simp, fun w' hSw => by have h := jA ((hSw.block _ (by omega)).trans ET.out) 2 _ rfl; go_simp⟩) jM ?_
      simp only [Act.put, jX, jY, jZ, JA, JB, JC]
      refine wT 27 (.int .i64 (xs.length : Int)) rfl (Or.inl ⟨by go_simp, fun w' hSw => by go_simp⟩) jM ?_
      simp only [Act.put, jX, jY, jZ, JA, JB, JC]
      try simp only [Act.put, jX, jY, jZ, JA, JB, JC]
      refine wpAnyH_ready (rs := [24]) (by kernel_rfl) (by simp) ?_
      refine AllReadyH.cons rfl (fun K hK => ?_) AllReadyH.nil
      go_simp
      refine HPAR.out.mono ?_
      rintro e w9 ⟨rfl, hb2⟩
      have HQB := hid (show Below (w.heap.size + 2) w2 w9 from (show Below (w.heap.size + 2) w2 w2.drew from (Below.refl _ _).drew).trans (hb2.mono (by show _ ≤ w2.heap.size; omega)))
      refine hK.out _ _ HQB.out (fun jM => ?_)
      clear hb2
      clear hK K
      refine wT 28 (.bool true) rfl (Or.inl ⟨by go_simp, fun w' hSw => by go_simp⟩) jM ?_
      simp only [Act.put, jX, jY, jZ, JA, JB, JC]
      refine wT 29 (.bool true) rfl (Or.inl ⟨by go_simp, fun w' hSw => by go_simp⟩) jM ?_
      simp only [Act.put, jX, jY, jZ, JA, JB, JC]
      refine wT 30 (.bool true) rfl (Or.inl ⟨by rfl, fun w' hSw => by go_simp⟩) jM ?_
      simp only [Act.put, jX, jY, jZ, JA, JB, JC]
      refine wpAnyH_done (by kernel_rfl) ?_ _
      go_wp2_with fail
      go_meet
      exact ⟨by rw [HV2.out], HQB⟩
  · have HV := hid (show typBad p.datas vars nm xs.length = false by rw [typBad, ha]; rfl)
    have hch : ch = 45 := HARR ha
    clear HLOW HUPP HARR
    refine wp_region_held_drew (S := fun (u : World) => Below (w.heap.size + 2) w2 u) (by kernel_rfl) ((Below.refl _ _).drew) (fun jM => ?_)
    refine wT 0 (.int .u8 ch) rfl (Or.inl ⟨by rfl, fun w' hSw => by go_simp⟩) jM ?_
    refine wT 1 (.bool false) rfl (Or.inl ⟨by rfl, fun w' hSw => by first | (go_simp; done) | (go_simp; omega)⟩) jM ?_
    refine wT 2 (.bool false) rfl (Or.inl ⟨by rfl, fun w' hSw => by go_simp⟩) jM ?_
    refine wT 3 (undef) rfl (Or.inr ⟨(by first | (go_simp; done) | (go_simp; simp; done) | (go_simp; intro h; cases h)), rfl⟩) jM ?_
    simp only [Act.put, jX, jY, jZ, JA, JB, JC]
    refine wT 4 (undef) rfl (Or.inr ⟨(by first | (go_simp; done) | (go_simp; simp; done) | (go_simp; intro h; cases h)), rfl⟩) jM ?_
    simp only [Act.put, jX, jY, jZ, JA, JB, JC]
    refine wT 5 (.bool false) rfl (Or.inl ⟨by rfl, fun w' hSw => by go_simp⟩) jM ?_
    refine wT 6 (.bool false) rfl (Or.inl ⟨by rfl, fun w' hSw => by go_simp⟩) jM ?_
    refine wT 7 (undef) rfl (Or.inr ⟨(by first | (go_simp; done) | (go_simp; simp; done) | (go_simp; intro h; cases h)), rfl⟩) jM ?_
    simp only [Act.put, jX, jY, jZ, JA, JB, JC]
    refine wT 8 (undef) rfl (Or.inr ⟨(by first | (go_simp; done) | (go_simp; simp; done) | (go_simp; intro h; cases h)), rfl⟩) jM ?_
    simp only [Act.put, jX, jY, jZ, JA, JB, JC]
    refine wT 9 (undef) rfl (Or.inr ⟨(by first | (go_simp; done) | (go_simp; simp; done) | (go_simp; intro h; cases h)), rfl⟩) jM ?_
    simp only [Act.put, jX, jY, jZ, JA, JB, JC]
    refine wT 10 (undef) rfl (Or.inr ⟨(by first | (go_simp; done) | (go_simp; simp; done) | (go_simp; intro h; cases h)), rfl⟩) jM ?_
    simp only [Act.put, jX, jY, jZ, JA, JB, JC]
    refine wT 11 (undef) rfl (Or.inr ⟨(by first | (go_simp; done) | (go_simp; simp; done) | (go_simp; intro h; cases h)), rfl⟩) jM ?_
    simp only [Act.put, jX, jY, jZ, JA, JB, JC]
    refine wT 12 (.bool false) rfl (Or.inl ⟨by rfl, fun w' hSw => by go_simp⟩) jM ?_
    refine wT 13 (.bool false) rfl (Or.inl ⟨by rfl, fun w' hSw => by go_simp⟩) jM ?_
    refine wT 14 (.int .u8 ch) rfl (Or.inl ⟨by go_simp, fun w' hSw => by go_simp⟩) jM ?_
    simp only [Act.put, jX, jY, jZ, JA, JB, JC]
    refine wT 15 (.bool false) rfl (Or.inl ⟨by go_simp, fun w' hSw => by first | (go_simp; done) | (go_simp; omega)⟩) jM ?_
    simp only [Act.put, jX, jY, jZ, JA, JB, JC]
    refine wT 16 (.bool false) rfl (Or.inl ⟨by go_simp, fun w' hSw => by go_simp⟩) jM ?_
    simp only [Act.put, jX, jY, jZ, JA, JB, JC]
    refine wT 17 (undef) rfl (Or.inr ⟨(by first | (go_simp; done) | (go_simp; simp; done) | (go_simp; intro h; cases h)), rfl⟩) jM ?_
    simp only [Act.put, jX, jY, jZ, JA, JB, JC]
    refine wT 18 (undef) rfl (Or.inr ⟨(by first | (go_simp; done) | (go_simp; simp; done) | (go_simp; intro h; cases h)), rfl⟩) jM ?_
    simp only [Act.put, jX, jY, jZ, JA, JB, JC]
    refine wT 19 (.bool false) rfl (Or.inl ⟨by go_simp, fun w' hSw => by go_simp⟩) jM ?_
    simp only [Act.put, jX, jY, jZ, JA, JB, JC]
    refine wT 20 (.bool false) rfl (Or.inl ⟨by go_simp, fun w' hSw => by go_simp⟩) jM ?_
    simp only [Act.put, jX, jY, jZ, JA, JB, JC]
    refine wT 21 (undef) rfl (Or.inr ⟨(by first | (go_simp; done) | (go_simp; simp; done) | (go_simp; intro h; cases h)), rfl⟩) jM ?_
    simp only [Act.put, jX, jY, jZ, JA, JB, JC]
    refine wT 22 (undef) rfl (Or.inr ⟨(by first | (go_simp; done) | (go_simp; simp; done) | (go_simp; intro h; cases h)), rfl⟩) jM ?_
    simp only [Act.put, jX, jY, jZ, JA, JB, JC]
    refine wT 23 (undef) rfl (Or.inr ⟨(by first | (go_simp; done) | (go_simp; simp; done) | (go_simp; intro h; cases h)), rfl⟩) jM ?_
    simp only [Act.put, jX, jY, jZ, JA, JB, JC]
    refine wT 24 (undef) rfl (Or.inr ⟨(by first | (go_simp; done) | (go_simp; simp; done) | (go_simp; intro h; cases h)), rfl⟩) jM ?_
    simp only [Act.put, jX, jY, jZ, JA, JB, JC]
    refine wT 25 (undef) rfl (Or.inr ⟨(by first | (go_simp; done) | (go_simp; simp; done) | (go_simp; intro h; cases h)), rfl⟩) jM ?_
    simp only [Act.put, jX, jY, jZ, JA, JB, JC]
    refine wT 26 (undef) rfl (Or.inr ⟨(by first | (go_simp; done) | (go_simp; simp; done) | (go_simp; intro h; cases h)), rfl⟩) jM ?_
    simp only [Act.put, jX, jY, jZ, JA, JB, JC]
    refine wT 27 (undef) rfl (Or.inr ⟨(by first | (go_simp; done) | (go_simp; simp; done) | (go_simp; intro h; cases h)), rfl⟩) jM ?_
    simp only [Act.put, jX, jY, jZ, JA, JB, JC]
    refine wT 28 (undef) rfl (Or.inr ⟨(by first | (go_simp; done) | (go_simp; simp; done) | (go_simp; intro h; cases h)), rfl⟩) jM ?_
    simp only [Act.put, jX, jY, jZ, JA, JB, JC]
    refine wT 29 (.bool false) rfl (Or.inl ⟨by go_simp, fun w' hSw => by go_simp⟩) jM ?_
    simp only [Act.put, jX, jY, jZ, JA, JB, JC]
    refine wT 30 (.bool false) rfl (Or.inl ⟨by rfl, fun w' hSw => by go_simp⟩) jM ?_
    try simp only [Act.put, jX, jY, jZ, JA, JB, JC]
    refine wpAnyH_done (by kernel_rfl) ?_ _
    go_wp2_with fail
    go_meet
    exact ⟨by rw [HV.out], hid ((Below.refl _ _).drew)⟩
 case rest =>
 obtain ⟨rfl, HQ⟩ := hcut
 have EP2 := hid ((HQ.out.block _ (by omega)).trans EP.out)
 have ET2 := hid ((HQ.out.block _ (by omega)).trans ET.out)
 have HB2 := hid (HB.out.trans (HQ.out.mono (by omega)))
 have hs2 : w.heap.size + 2 ≤ wc.heap.size := by have := HQ.out.size; omega
 clear EP ET HB HQ hsz
 obtain ⟨b0, hb0⟩ : ∃ b, typBad p.datas vars nm xs.length = b := ⟨_, rfl⟩
 have HL : Hid (typW p.datas vars (f + 1) (.mk pos nm xs) = one b0 pos ++ xs.flatMap (typW p.datas vars f)) := hid (by rw [typW, hb0])
 rw [hb0]
 clear hb0
 obtain ⟨w3, hw3⟩ : ∃ x, x = wc := ⟨wc, rfl⟩
 subst hw3
 go_upto_if 43 with fail
 go_cut [7] (fun o wx => Hid (OwnI wx (w.heap.size + 2) o (one b0 pos)) ∧ Hid (wx.heap[w.heap.size]? = some (.cells #[.slice q1 p.datas.length c1, .slice q2 p.defs.length c2] 27 (0, 0))) ∧ Hid (wx.heap[w.heap.size + 1]? = some (.cells #[.int .i64 pos, .string ⟨nm.toArray⟩, .slice qt xs.length ct] 112 (0, 0))) ∧ Hid (Below w.heap.size w wx))
 case first =>
  cases b0 with
  | true =>
    have y0 := jA ET2.out 0 _ rfl
    have HE := hid (jI w3 #[.int .i64 (pos : Int)] 3)
    have HBA := hid (show Below w3.heap.size w3 (w3.alloc (.cells #[.int .i64 (pos : Int)] 3)) from (Below.refl _ _).alloc (Nat.le_refl _) _)
    have HON : Hid (OwnI (w3.alloc (.cells #[.int .i64 (pos : Int)] 3)) (w.heap.size + 2) (.slice none 0 0) []) := hid (ownI_nil _ _)
    go_wp2_with (at_builtin; refine list_app_i rfl (.tmp 44) (.tmp 47) rfl (w.heap.size + 2) _ [] rfl HON.out _ rfl [pos] (row_cell HE.out rfl rfl) (by simp) (by have := HBA.out.size; omega) ?_)
    intro v3 w7 happ
    have HB3 := hid (happ.below HON.out (HB2.out.trans (HBA.out.mono HB2.out.size)) (by have := HBA.out.size; omega) (by omega))
    have EP3 := hid (happ.at HON.out (jC EP2.out HBA.out) (by omega))
    have ET3 := hid (happ.at HON.out (jC ET2.out HBA.out) (by omega))
    obtain ⟨p3, q3', rfl⟩ := jF happ.1
    have HO3 := hid happ.1
    clear happ y0
    go_wp2
    go_meet
    exact ⟨HO3, EP3, ET3, HB3⟩
  | false =>
    go_wp2_with fail
    go_meet
    exact ⟨hid (ownI_nil _ _), EP2, ET2, HB2⟩
 case rest =>
 clear EP2 ET2 HB2 hs2
 obtain ⟨HO, EP, ET, HB⟩ := hcut
 obtain ⟨l0, hl0⟩ : ∃ l, l = one b0 pos := ⟨_, rfl⟩
 have HL0 : Hid (l0.length ≤ 1) := hid (by rw [hl0]; exact one_len _ _)
 have HLL := hid (show typW p.datas vars (f + 1) (.mk pos nm xs) = l0 ++ xs.flatMap (typW p.datas vars f) by rw [hl0]; exact HL.out)
 rw [← hl0] at HO
 clear hl0 HL
 obtain ⟨pa, ca, rfl⟩ := jF HO.out
 obtain ⟨w4, hw4⟩ : ∃ x, x = wc := ⟨wc, rfl⟩
 subst hw4
 go_wp2_with fail
 go_loopw [7, 9] (fun o j wr => ∃ (m : Nat) (l : List Nat), j = .int .i64 m ∧ m ≤ xs.length ∧ Hid (l = l0 ++ (xs.take m).flatMap (typW p.datas vars f)) ∧ Hid (OwnI wr (w.heap.size + 2) o l) ∧ Hid (wr.heap[w.heap.size]? = some (.cells #[.slice q1 p.datas.length c1, .slice q2 p.defs.length c2] 27 (0, 0))) ∧ Hid (wr.heap[w.heap.size + 1]? = some (.cells #[.int .i64 pos, .string ⟨nm.toArray⟩, .slice qt xs.length ct] 112 (0, 0))) ∧ Hid (Below w.heap.size w wr)) (fun _ j _ => xs.length - (intOf j).toNat)
 case atStart => exact ⟨0, l0, rfl, Nat.zero_le _, hid (by simp), HO, EP, ET, HB⟩
 case round =>
  clear EP ET HB HO
  obtain ⟨m, l, rfl, hm, HM, HO, EP, ET, HB⟩ := hrel
  have hs1 := jK ET.out
  have y2 := jA ET.out 2 _ rfl
  obtain ⟨va, cva, rfl⟩ := jF HO.out
  by_cases hlt : m < xs.length
  · obtain ⟨y, hy⟩ : ∃ y, xs[m]? = some y := ⟨_, List.getElem?_eq_getElem hlt⟩
    rcases HX.out with ⟨h0, _⟩ | ⟨g, of, c', hv, g1, g2, g3⟩
    · rw [h0] at hlt; simp at hlt
    injection hv with hq1 _ hq2
    subst hq1; subst hq2
    obtain ⟨u, hu, _, hcell⟩ := g3 m y hy
    have HU := hid hu
    obtain ⟨a0, a1, uq, un, uc, rfl⟩ := typeAt_sh hu
    have hgl : g < w.heap.size := World.block_lt_of_cell? w _ (hcell 0 _ rfl)
    have HCL := hid (fun (w' : World) (h : Below (w.heap.size + 2) wr w') =>
     have up : ∀ j z, (Value.agg #[.int .i64 a0, .string a1, .slice uq un uc]).cells[j]? = some z → w'.cell? ⟨g, of + m * 3 + j, none⟩ = some z := fun j z hz => (h.cell (p := ⟨g, of + m * 3 + j, none⟩) (by dsimp only; omega)).trans (jE HB.out (hcell j z hz))
     (show w'.cell? ⟨g, of + m * 3, none⟩ = some (.int .i64 a0) ∧ w'.cell? ⟨g, of + m * 3 + 1, none⟩ = some (.string a1) ∧ w'.cell? ⟨g, of + m * 3 + 2, none⟩ = some (.slice uq un uc) from ⟨up 0 _ rfl, up 1 _ rfl, up 2 _ rfl⟩))
    have hk1 : (m : Int) < (xs.length : Int) := by omega
    have hk2 : (xs.length : Int) ≤ (ct : Int) := by omega
    have hk3 := g2
    have hst := Sx.sum_take (Sx.tyw f) xs m y hy
    have HST := hid hst
    have HT := hid (flatN_take (typW p.datas vars f) xs m y hy)
    have HGY := hid (HG3.out y (List.mem_of_getElem? hy))
    have hlen : l.length + (typW p.datas vars f y).length ≤ 1000000000 := by
     rw [HM.out, List.length_append]
     have h1 := flat_len (typW p.datas vars f) (Sx.tyw f) (xs.take m) (fun x _ => typW_len p.datas vars f x)
     have h2 := typW_len p.datas vars f y
     have h3 := HL0.out
     have := HW.out; omega
    have HLE := hid hlen
    clear g1 g2 g3 hcell hu hy hst hlen
    go_wp2_with fail
    refine wp_region_held_drew (S := fun (u : World) => Below (w.heap.size + 2) wr u) (by kernel_rfl) ((Below.refl _ _).drew) (fun jM => ?_)
    refine wT 0 (.slice va l.length cva) rfl (Or.inl ⟨by rfl, fun w' hSw => by go_simp⟩) jM ?_
    refine wT 1 (.agg #[.slice q1 p.datas.length c1, .slice q2 p.defs.length c2]) rfl (Or.inl ⟨by rfl, fun w' hSw => by have h0 := jA ((hSw.block _ (by omega)).trans EP.out) 0 _ rfl; have h1 := jA ((hSw.block _ (by omega)).trans EP.out) 1 _ rfl; go_simp⟩) jM ?_
    refine wT 2 (.pointer (some ⟨w.heap.size + 1, 2, none⟩)) rfl (Or.inl ⟨by rfl, fun w' hSw => by go_simp⟩) jM ?_
    refine wT 3 (.slice (some ⟨g, of, none⟩) xs.length ct) rfl (Or.inl ⟨by rfl, fun w' hSw => by have h := jA ((hSw.block _ (by omega)).trans ET.out) 2 _ rfl; go_simp⟩) jM ?_
    refine wT 4 (.int .i64 m) rfl (Or.inl ⟨by rfl, fun w' hSw => by go_simp⟩) jM ?_
    refine wT 5 (.pointer (some ⟨g, of + m * 3, none⟩)) rfl (Or.inl ⟨by rfl, fun w' hSw => by go_simp⟩) jM ?_
    refine wT 6 (.agg #[.int .i64 a0, .string a1, .slice uq un uc]) rfl (Or.inl ⟨by rfl, fun w' hSw => by obtain ⟨x0, x1, x2⟩ := HCL.out w' hSw; go_simp⟩) jM ?_
    refine wT 7 (.slice qs vars.length cs) rfl (Or.inl ⟨by rfl, fun w' hSw => by go_simp⟩) jM ?_
    try simp only [Act.put, jX, jY, jZ, JA, JB, JC]
    refine wpAnyH_ready (rs := [8]) (by kernel_rfl) (by simp) ?_
    refine AllReadyH.cons rfl (fun K hK => ?_) AllReadyH.nil
    go_simp
    refine (ih y _ _ _ wr.drew (jP HP.out HB.out.drew) HPW.out (typeAt_below HU.out HB.out.drew) (jQ HS.out HB.out.drew) HGY.out (by have := HST.out; have := HW.out; omega)).mono ?_
    rintro e w5 ⟨v5, rfl, hb5, ho5⟩
    have HB5 := hid (show Below wr.heap.size wr w5 from undrew hb5)
    have HN5 := hid (ownI_row ho5)
    have HO5 := hid (jJ HO.out HB5.out)
    have EP5 := hid (jC EP.out HB5.out)
    have ET5 := hid (jC ET.out HB5.out)
    refine hK.out _ _ (HB5.out.mono (by omega)) (fun jM => ?_)
    clear hb5 ho5
    clear hK K
    refine wpAnyH_ready (rs := [9]) (by kernel_rfl) (by simp) ?_
    refine AllReadyH.cons rfl (fun K hK => ?_) AllReadyH.nil
    refine step_app_i rfl (.tmp 56) (.tmp 64) rfl (w.heap.size + 2) _ _ rfl HO5.out _ rfl _ HN5.out HLE.out (by have := HB5.out.size; omega) ?_
    intro v6 w6 ha6
    obtain ⟨p6, q6, rfl⟩ := jF ha6.1
    have HB6 := hid (ha6.below HO5.out (HB.out.trans (HB5.out.mono (by omega))) (by have := HB5.out.size; omega) (by omega))
    have HB6' := hid (ha6.below HO5.out (HB5.out.mono (B' := w.heap.size + 2) (by omega)) (by have := HB5.out.size; omega) (Nat.le_refl _))
    have EP6 := hid (ha6.at HO5.out EP5.out (by omega))
    have ET6 := hid (ha6.at HO5.out ET5.out (by omega))
    have HO6 := hid ha6.1
    have HT6 : Hid (l ++ typW p.datas vars f y = l0 ++ (xs.take (m + 1)).flatMap (typW p.datas vars f)) := hid (by rw [HT.out, HM.out, List.append_assoc])
    obtain ⟨l3, hl3⟩ : ∃ l3, l3 = l ++ typW p.datas vars f y := ⟨_, rfl⟩
    rw [← hl3] at HO6 HT6 ⊢
    clear hl3 ha6
    refine hK.out _ _ HB6'.out (fun jM => ?_)
    clear hK K
    refine wT 10 (.slice p6 l3.length q6) rfl (Or.inl ⟨by rfl, fun w' hSw => by go_simp⟩) jM ?_
    simp only [Act.put, jX, jY, jZ, JA, JB, JC]
    refine wpAnyH_done (by kernel_rfl) ?_ _
    go_wp2_with fail
    go_roundw
    case rel => exact ⟨m + 1, l3, by go_num, by omega, HT6, HO6, EP6, ET6, HB6⟩
    case measure => simp [intOf]; omega
  · obtain rfl : m = xs.length := by omega
    have HF := hid (show l = typW p.datas vars (f + 1) (.mk pos nm xs) by rw [HLL.out, HM.out, List.take_length])
    go_wp2_with fail
    go_ret
    rw [← HF.out]
    exact ⟨_, rfl, HB.out, ownI_base HO.out (by omega)⟩
theorem reftyp_any (p : Px.Prog) (vars : List Nm) : ∀ f, TypC p vars f
 | 0 => fun t pv tv sv w _ _ ht => ht.elim
 | f + 1 => typ_step p vars f (reftyp_any p vars f)
end Go.Proofs.Ytgoacbomphlhjaa

namespace Go.Proofs.Ytgoacbomphlhjaa
open Go.Lib (hid)
open List renaming getElem_toArray → jX, getElem_cons_succ → jY, getElem_cons_zero → jZ, setIfInBounds_toArray → JA, set_cons_zero → JB, set_cons_succ → JC
open Go Go.RowKit
theorem own_empty (w : World) : OwnS (w.alloc (.cells #[] 9)) w.heap.size (.slice (some ⟨w.heap.size, 0, none⟩) 0 0) [] :=
 ⟨rfl, .inr ⟨w.heap.size, 0, #[], rfl, Nat.le_refl _, jI w _ _, Nat.le_refl _, by unfold maxLen; omega, rfl, rfl⟩⟩
theorem own_base {w : World} {b b' : Nat} {v : Value} {l : List Nm} (h : OwnS w b v l) (hb : b' ≤ b) : OwnS w b' v l := by
 refine ⟨h.1, ?_⟩
 rcases h.2 with h | ⟨g, cap, cur, h1, h2, h3⟩
 · exact .inl h
 · exact .inr ⟨g, cap, cur, h1, Nat.le_trans hb h2, h3⟩
theorem rowS_own' {w : World} {base : Nat} {v : Value} {l : List Nm} (h : OwnS w base v l) : RowS w v l := rowS_own h rfl
def EXC (k p : Nat) (nm : Nm) (i : Int) (n1 n2 n3 : Value) : Array Value := #[.int .i64 k, .int .i64 p, .string ⟨nm.toArray⟩, .int .i64 i, n1, n2, n3]
end Go.Proofs.Ytgoacbomphlhjaa
