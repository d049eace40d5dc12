/-
  A number's text is one token, or none begins there.
-/
import Derived.Test.YtcnpbbhkdogdeaaDoorToks
import Derived.Lib.ItoaNum
namespace Go.Proofs.YtcnpbbhkdogdeaaDoor
namespace Lx

theorem cnt_all (p : UInt8 → Bool) : ∀ (l : List UInt8), (∀ c ∈ l, p c = true) → cnt p l = l.length
  | [], _ => rfl
  | c :: r, h => by rw [cnt, if_pos (h c (by simp)), cnt_all p r (fun d hd => h d (by simp [hd])), List.length_cons]

theorem at0_mem (l : List UInt8) (k : Nat) (h : k < l.length) : at0 l k ∈ l := by
  unfold at0; rw [List.getD_eq_getElem?_getD, List.getElem?_eq_getElem h]; exact List.getElem_mem h

theorem skip_zero (l : List UInt8) (hb : blankB (at0 l 0) = false) (hs : (at0 l 0).toNat ≠ 59) : skipC false l = 0 := by
  have := skip_end l 0 hb hs; simpa using this

theorem digit_not_blank (c : UInt8) (h : digitB c = true) : blankB c = false ∧ c.toNat ≠ 59 ∧ c.toNat ≠ 45 ∧ c.toNat ≠ 62 := by
  have h' := digit_bd c h
  refine ⟨?_, by omega, by omega, by omega⟩
  unfold blankB
  simp; omega

theorem toks_nil (f p : Nat) : toks f p [] = ([], none) := by
  cases f with
  | zero => rfl
  | succ f => rfl

theorem toks_whole (l : List UInt8) (k : Int) (hne : l ≠ []) (hs : skipC false l = 0) (h : tokAt l = (k, l.length)) : toks (l.length + 1) 0 l = ([mkTok 0 k l], none) := by
  have hl : 0 < l.length := List.length_pos_iff.2 hne
  show (if l.length ≤ skipC false l then ([], none) else _) = _
  rw [hs, if_neg (by omega)]
  simp only [List.drop_zero, h]
  rw [if_neg (by omega), List.drop_length, toks_nil, List.take_length]
theorem toks_nowhere (l : List UInt8) (hne : l ≠ []) (hs : skipC false l = 0) (h : (tokAt l).2 = 0) : toks (l.length + 1) 0 l = ([], some 0) := by
  have hl : 0 < l.length := List.length_pos_iff.2 hne
  show (if l.length ≤ skipC false l then ([], none) else _) = _
  rw [hs, if_neg (by omega)]
  simp only [List.drop_zero]
  rw [if_pos h]

theorem num_pos (D : List UInt8) (hd : ∀ c ∈ D, digitB c = true) (hne : D ≠ []) :
    toks (D.length + 1) 0 D = if 18 < D.length then ([], some 0) else ([⟨2, 0, D, natV D 0⟩], none) := by
  have hl : 0 < D.length := List.length_pos_iff.2 hne
  have h0 := hd _ (at0_mem D 0 hl)
  obtain ⟨hb, hs, h45, _⟩ := digit_not_blank _ h0
  have hsk := skip_zero D hb hs
  have hc := cnt_all digitB D hd
  have ho : at0 D D.length = 0 := at0_out D _ (Nat.le_refl _)
  have ht : tokAt D = if 18 < D.length then (0, 0) else (2, D.length) := by
    unfold tokAt num
    simp only []
    rw [if_neg h45, if_pos h0, hc, Nat.zero_add, ho, word0, Bool.or_false]
    by_cases h : 18 < D.length <;> simp [h]
  by_cases h : 18 < D.length
  · rw [if_pos h] at ht ⊢
    exact toks_nowhere D hne hsk (by rw [ht])
  · rw [if_neg h] at ht ⊢
    rw [toks_whole D 2 hne hsk ht]
    simp only [mkTok, numV, if_neg h45, if_true]

theorem num_neg (D : List UInt8) (hd : ∀ c ∈ D, digitB c = true) (hne : D ≠ []) :
    toks ((45 :: D).length + 1) 0 (45 :: D) = if 18 < D.length then ([], some 0) else ([⟨2, 0, 45 :: D, -(natV D 0 : Int)⟩], none) := by
  have hl : 0 < D.length := List.length_pos_iff.2 hne
  have h0 := hd _ (at0_mem D 0 hl)
  obtain ⟨_, _, _, h62⟩ := digit_not_blank _ h0
  have hsk : skipC false (45 :: D) = 0 := skip_zero (45 :: D) (by rfl) (by show (45 : UInt8).toNat ≠ 59; decide)
  have hc := cnt_all digitB D hd
  have ho : at0 (45 :: D) (1 + D.length) = 0 := at0_out _ _ (by simp; omega)
  have e1 : at0 (45 :: D) 1 = at0 D 0 := rfl
  have e0 : (at0 (45 :: D) 0).toNat = 45 := rfl
  have ed : (45 :: D).drop 1 = D := rfl
  have ht : tokAt (45 :: D) = if 18 < D.length then (0, 0) else (2, (45 :: D).length) := by
    unfold tokAt num
    simp only []
    rw [if_pos e0, e1, if_neg h62, if_pos h0, ed, hc, ho, word0, Bool.or_false, List.length_cons, Nat.add_comm 1]
    by_cases h : 18 < D.length <;> simp [h]
  by_cases h : 18 < D.length
  · rw [if_pos h] at ht ⊢
    exact toks_nowhere _ (by simp) hsk (by rw [ht])
  · rw [if_neg h] at ht ⊢
    rw [toks_whole _ 2 (by simp) hsk ht]
    simp only [mkTok, numV, if_pos e0, if_true, ed]

theorem natV_append (a b : List UInt8) : ∀ acc, natV (a ++ b) acc = natV b (natV a acc) := by
  induction a with
  | nil => intro acc; rfl
  | cons c r ih => intro acc; rw [List.cons_append, natV_cons, natV_cons, ih]

theorem natV_zeros (q : Nat) : natV (List.replicate q 48) 0 = 0 := by
  induction q with
  | zero => rfl
  | succ q ih => rw [List.replicate_succ, natV_cons]; exact ih

theorem dec_digits (u : Nat) : ∀ c ∈ Lib.decDigits u, digitB c = true := by
  induction u using Nat.strongRecOn with
  | _ u ih =>
    intro c hc
    rw [Lib.decDigits] at hc
    have key : ∀ d, d < 10 → digitB (UInt8.ofNat (48 + d)) = true := by
      intro d hd
      unfold digitB
      rw [UInt8.toNat_ofNat']
      simp; omega
    by_cases h : u < 10
    · rw [dif_pos h] at hc
      rw [List.mem_singleton] at hc; subst hc
      exact key u h
    · rw [dif_neg h, List.mem_append] at hc
      rcases hc with hc | hc
      · exact ih (u / 10) (by omega) c hc
      · rw [List.mem_singleton] at hc; subst hc
        exact key (u % 10) (by omega)

theorem dec_natV (u : Nat) : natV (Lib.decDigits u) 0 = u := by
  induction u using Nat.strongRecOn with
  | _ u ih =>
    rw [Lib.decDigits]
    by_cases h : u < 10
    · rw [dif_pos h, natV_cons, UInt8.toNat_ofNat']
      show 0 * 10 + _ = u
      omega
    · rw [dif_neg h, natV_append, ih (u / 10) (by omega), natV_cons, UInt8.toNat_ofNat']
      show u / 10 * 10 + _ = u
      omega

theorem dec_ne (u : Nat) : Lib.decDigits u ≠ [] := by
  rw [Lib.decDigits]; split <;> simp

theorem padded (u q : Nat) : (∀ c ∈ List.replicate q 48 ++ Lib.decDigits u, digitB c = true) ∧ List.replicate q 48 ++ Lib.decDigits u ≠ [] ∧ natV (List.replicate q 48 ++ Lib.decDigits u) 0 = u := by
  refine ⟨fun c hc => ?_, by simp [dec_ne], by rw [natV_append, natV_zeros, dec_natV]⟩
  rcases List.mem_append.1 hc with hc | hc
  · rw [(List.mem_replicate.1 hc).2]; decide
  · exact dec_digits u c hc
end Lx
end Go.Proofs.YtcnpbbhkdogdeaaDoor
