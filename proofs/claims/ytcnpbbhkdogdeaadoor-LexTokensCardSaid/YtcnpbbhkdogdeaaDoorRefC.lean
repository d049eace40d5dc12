/-
  The document's answers, layer 1: number.
-/
import Derived.Test.YtcnpbbhkdogdeaaDoorRefB
import Derived.Test.YtcnpbbhkdogdeaaDoorNumPure
namespace Go.Proofs.YtcnpbbhkdogdeaaDoor
open Go Go.RowKit

theorem natV_step (D : List UInt8) (i : Nat) (h : i < D.length) : Lx.natV (D.take (i + 1)) 0 = Lx.natV (D.take i) 0 * 10 + ((Lx.at0 D i).toNat - 48) := by
  have e : D.take (i + 1) = D.take i ++ [Lx.at0 D i] := by
    rw [List.take_succ_eq_append_getElem h]
    simp [Lx.at0, List.getD_eq_getElem?_getD, List.getElem?_eq_getElem h]
  rw [e, Lx.natV_append, Lx.natV_cons]; rfl

theorem cnt_digit (D : List UInt8) (i : Nat) (h : i < Lx.cnt Lx.digitB D) : Lx.digitB (Lx.at0 D i) = true := by
  have hl := Lx.cnt_le Lx.digitB D
  have hm := Lx.cnt_spec Lx.digitB D
  refine hm _ ?_
  rw [← Lx.take_at0 D (Lx.cnt Lx.digitB D) i h]
  exact Lx.at0_in _ _ (by rw [List.length_take]; omega)

theorem natV_small (D : List UInt8) (i : Nat) (h : i ≤ Lx.cnt Lx.digitB D) (h17 : i ≤ 18) : Lx.natV (D.take i) 0 < 1000000000000000000 := by
  have hb := Lx.natV_bound (D.take i) 0 1 (fun c hc => by
    refine Lx.cnt_spec Lx.digitB D c ?_
    have : D.take i = (D.take (Lx.cnt Lx.digitB D)).take i := by rw [List.take_take, Nat.min_eq_left h]
    rw [this] at hc
    exact List.mem_of_mem_take hc) (by omega)
  have hp := Lx.pow18 (D.take i).length (by rw [List.length_take]; omega)
  omega
theorem natV_small17 (D : List UInt8) (i : Nat) (h : i ≤ Lx.cnt Lx.digitB D) (h17 : i ≤ 17) : Lx.natV (D.take i) 0 < 100000000000000000 := by
  have hb := Lx.natV_bound (D.take i) 0 1 (fun c hc => by
    refine Lx.cnt_spec Lx.digitB D c ?_
    have : D.take i = (D.take (Lx.cnt Lx.digitB D)).take i := by rw [List.take_take, Nat.min_eq_left h]
    rw [this] at hc
    exact List.mem_of_mem_take hc) (by omega)
  have hp : 10 ^ (D.take i).length ≤ 100000000000000000 := Nat.le_trans (Nat.pow_le_pow_right (by omega) (show (D.take i).length ≤ 17 by rw [List.length_take]; omega)) (Nat.le_refl (10 ^ 17))
  omega

theorem take_int (l L : List UInt8) (i : Int) (w : World) (h : 0 ≤ i) (ha : i ≤ l.length) (hm : l.length ≤ 1000000) (hL : L.length ≤ 1000000) (h0 : memB 0 L = false) :
    Calls Tryd.prog 30 #[.string ⟨l.toArray⟩, .int .i64 i, .string ⟨L.toArray⟩] w fun e w' => e = .returned (.int .i64 (Lx.cnt (fun c => memB c L) (l.drop i.toNat))) ∧ w = w' := by
  obtain ⟨k, rfl⟩ := Int.eq_ofNat_of_zero_le h
  rw [Int.toNat_natCast]
  exact take_any l L k w (by omega) hm hL h0

set_option maxHeartbeats 2000000 in
set_option maxRecDepth 100000 in
theorem number_pos_bad (l : List UInt8) (a : Nat) (w : World) (ha : a < l.length) (hm : l.length ≤ 1000000) (hd : Lx.digitB (Lx.at0 l a) = true)
    (hbad : 18 < Lx.cnt Lx.digitB (l.drop a) ∨ Lx.wordB (Lx.at0 l (a + Lx.cnt Lx.digitB (l.drop a))) = true) :
    Calls Tryd.prog 29 #[.string ⟨l.toArray⟩, .int .i64 a] w fun e w' => e = .returned (.tuple #[.int .i64 0, .int .i64 0, .bool false]) ∧ w = w' := by
  have e := str_at l a (str_lt l a ha)
  have hb := Lx.digit_bd _ hd
  have h1 : ((((ByteArray.mk l.toArray)[a]'(str_lt l a ha)).toNat : Int) == 45) = false := by rw [e]; simp; omega
  clear hb
  have hle := Lx.cnt_le Lx.digitB (l.drop a)
  rw [List.length_drop] at hle
  have hfun : (fun c => memB c digitsL) = Lx.digitB := funext mem_digits
  have hfits : ∀ i, i < Lx.cnt Lx.digitB (l.drop a) → Lx.digitB (Lx.at0 l (a + i)) = true := fun i hi => by
    have := cnt_digit (l.drop a) i hi; rwa [Lx.at0_drop] at this
  have hst := natV_step (l.drop a)
  have hsm := natV_small17 (l.drop a)
  have htk := take_any l digitsL a w (by omega) hm (by decide) (by decide)
  rw [hfun] at htk
  generalize hN : Lx.cnt Lx.digitB (l.drop a) = N at *
  have HN := Lib.hid hN; have HT := Lib.hid htk; have HF := Lib.hid hfits; have HST := Lib.hid hst; have HSM := Lib.hid hsm; have HFUN := Lib.hid hfun
  clear hN htk hfits hst hsm e hd hfun
  go_enter Tryd.func29, Tryd.ntmps29
  go_wp2_with fail
  refine HT.out.mono ?_; rintro e w1 ⟨rfl, rfl⟩
  by_cases h18 : 18 < N
  · have h18' : (18 : Int) < (N : Int) := by omega
    clear hbad
    go_wp2_with fail
    go_ret3
    exact ⟨rfl, rfl⟩
  · have h18' : ¬ (18 : Int) < (N : Int) := by omega
    have hw : Lx.wordB (Lx.at0 l (a + N)) = true := hbad.resolve_left h18
    have hin : (a + N) < l.length := Lx.ne_out l _ Lx.wordB (by decide) hw
    have Hw := Lib.hid hw
    clear hbad hw
    go_wp2_with fail
    refine (in_any _ insideL _ (by decide)).mono ?_; rintro e w1 ⟨rfl, rfl⟩
    rw [str_at l (a + N) (str_lt l (a + N) hin), mem_inside, Hw.out]
    go_wp2_with fail
    go_ret3
    exact ⟨rfl, rfl⟩

set_option maxHeartbeats 2000000 in
set_option maxRecDepth 100000 in
theorem number_pos_ok (l : List UInt8) (a : Nat) (w : World) (ha : a < l.length) (hm : l.length ≤ 1000000) (hd : Lx.digitB (Lx.at0 l a) = true)
    (h18 : ¬ 18 < Lx.cnt Lx.digitB (l.drop a)) (hw : Lx.wordB (Lx.at0 l (a + Lx.cnt Lx.digitB (l.drop a))) = false) :
    Calls Tryd.prog 29 #[.string ⟨l.toArray⟩, .int .i64 a] w fun e w' => e = .returned (.tuple #[.int .i64 (((Lx.natV ((l.drop a).take (Lx.cnt Lx.digitB (l.drop a))) 0 : Nat) : Int)), .int .i64 ((Lx.cnt Lx.digitB (l.drop a) : Nat) : Int), .bool true]) ∧ w = w' := by
  have e := str_at l a (str_lt l a ha)
  have hb := Lx.digit_bd _ hd
  have h1 : ((((ByteArray.mk l.toArray)[a]'(str_lt l a ha)).toNat : Int) == 45) = false := by rw [e]; simp; omega
  clear hb
  have hle := Lx.cnt_le Lx.digitB (l.drop a)
  rw [List.length_drop] at hle
  have hfun : (fun c => memB c digitsL) = Lx.digitB := funext mem_digits
  have hfits : ∀ i, i < Lx.cnt Lx.digitB (l.drop a) → Lx.digitB (Lx.at0 l (a + i)) = true := fun i hi => by
    have := cnt_digit (l.drop a) i hi; rwa [Lx.at0_drop] at this
  have hst := natV_step (l.drop a)
  have hsm := natV_small17 (l.drop a)
  have htk := take_any l digitsL a w (by omega) hm (by decide) (by decide)
  rw [hfun] at htk
  generalize hN : Lx.cnt Lx.digitB (l.drop a) = N at *
  have HN := Lib.hid hN; have HT := Lib.hid htk; have HF := Lib.hid hfits; have HST := Lib.hid hst; have HSM := Lib.hid hsm; have HFUN := Lib.hid hfun
  clear hN htk hfits hst hsm e hd hfun
  go_enter Tryd.func29, Tryd.ntmps29
  go_wp2_with fail
  refine HT.out.mono ?_; rintro e w1 ⟨rfl, rfl⟩
  have h18' : ¬ (18 : Int) < (N : Int) := by omega
  have Hw := Lib.hid hw; clear hw
  by_cases hin : (a + N) < l.length
  · go_wp2_with fail
    refine (in_any _ insideL _ (by decide)).mono ?_; rintro e w1 ⟨rfl, rfl⟩
    rw [str_at l (a + N) (str_lt l (a + N) hin), mem_inside, Hw.out]
    go_wp2_with fail
    go_loop [9, 10] (fun v i => ∃ k : Nat, k ≤ N ∧ i = .int .i64 k ∧ v = .int .i64 (Lx.natV ((l.drop a).take k) 0 : Nat)) (fun _ i => N - (intOf i).toNat)
    case atStart => exact ⟨0, by omega, rfl, rfl⟩
    case round =>
      obtain ⟨k, hk, rfl, rfl⟩ := hrel
      by_cases hlt : k < N
      · have hdg := Lx.digit_bd _ (HF.out k hlt)
        have hv := HSM.out k (by omega) (by omega)
        have hs := HST.out k (by rw [List.length_drop]; omega)
        rw [Lx.at0_drop] at hs
        have hkl : a + k < l.length := by omega
        have e := str_at l (a + k) (str_lt l _ hkl)
        have hb0 : (48 : Int) ≤ (((ByteArray.mk l.toArray)[a + k]'(str_lt l _ hkl)).toNat : Int) := by rw [e]; omega
        have hb1 : (((ByteArray.mk l.toArray)[a + k]'(str_lt l _ hkl)).toNat : Int) ≤ 57 := by rw [e]; omega
        have hsum : (10 : Int) * (Lx.natV ((l.drop a).take k) 0 : Nat) + ((((ByteArray.mk l.toArray)[a + k]'(str_lt l _ hkl)).toNat : Int) - 48) = ((Lx.natV ((l.drop a).take (k + 1)) 0 : Nat) : Int) := by rw [e]; omega
        generalize Lx.natV ((l.drop a).take k) 0 = V at *
        generalize hV' : Lx.natV ((l.drop a).take (k + 1)) 0 = V' at *
        have HS := Lib.hid hsum; have HV' := Lib.hid hV'
        clear hs hsum e hdg hV'
        go_wp2
        go_round
        case rel => exact ⟨k + 1, by omega, by go_num, by rw [HV'.out, HS.out]⟩
        case measure => simp [intOf]; omega
      · obtain rfl : k = N := by omega
        have HV := Lib.hid (natV_small (l.drop a) k (by rw [HN.out]; omega) (by omega))
        generalize hV : Lx.natV ((l.drop a).take k) 0 = V at *
        have HVe := Lib.hid hV; clear hV
        have hV1 : (V : Int) < 1000000000000000000 := by have := HV.out; omega
        go_wp2
        go_ret3
        exact ⟨by rw [HVe.out]; rfl, rfl⟩
  · go_wp2_with fail
    go_loop [9, 10] (fun v i => ∃ k : Nat, k ≤ N ∧ i = .int .i64 k ∧ v = .int .i64 (Lx.natV ((l.drop a).take k) 0 : Nat)) (fun _ i => N - (intOf i).toNat)
    case atStart => exact ⟨0, by omega, rfl, rfl⟩
    case round =>
      obtain ⟨k, hk, rfl, rfl⟩ := hrel
      by_cases hlt : k < N
      · have hdg := Lx.digit_bd _ (HF.out k hlt)
        have hv := HSM.out k (by omega) (by omega)
        have hs := HST.out k (by rw [List.length_drop]; omega)
        rw [Lx.at0_drop] at hs
        have hkl : a + k < l.length := by omega
        have e := str_at l (a + k) (str_lt l _ hkl)
        have hb0 : (48 : Int) ≤ (((ByteArray.mk l.toArray)[a + k]'(str_lt l _ hkl)).toNat : Int) := by rw [e]; omega
        have hb1 : (((ByteArray.mk l.toArray)[a + k]'(str_lt l _ hkl)).toNat : Int) ≤ 57 := by rw [e]; omega
        have hsum : (10 : Int) * (Lx.natV ((l.drop a).take k) 0 : Nat) + ((((ByteArray.mk l.toArray)[a + k]'(str_lt l _ hkl)).toNat : Int) - 48) = ((Lx.natV ((l.drop a).take (k + 1)) 0 : Nat) : Int) := by rw [e]; omega
        generalize Lx.natV ((l.drop a).take k) 0 = V at *
        generalize hV' : Lx.natV ((l.drop a).take (k + 1)) 0 = V' at *
        have HS := Lib.hid hsum; have HV' := Lib.hid hV'
        clear hs hsum e hdg hV'
        go_wp2
        go_round
        case rel => exact ⟨k + 1, by omega, by go_num, by rw [HV'.out, HS.out]⟩
        case measure => simp [intOf]; omega
      · obtain rfl : k = N := by omega
        have HV := Lib.hid (natV_small (l.drop a) k (by rw [HN.out]; omega) (by omega))
        generalize hV : Lx.natV ((l.drop a).take k) 0 = V at *
        have HVe := Lib.hid hV; clear hV
        have hV1 : (V : Int) < 1000000000000000000 := by have := HV.out; omega
        go_wp2
        go_ret3
        exact ⟨by rw [HVe.out]; rfl, rfl⟩

set_option maxHeartbeats 2000000 in
set_option maxRecDepth 100000 in
theorem number_neg_bad (l : List UInt8) (a : Nat) (w : World) (ha : a < l.length) (hm : l.length ≤ 1000000) (h45 : (Lx.at0 l a).toNat = 45) (hd : Lx.digitB (Lx.at0 l (a + 1)) = true)
    (hbad : 18 < Lx.cnt Lx.digitB (l.drop (a + 1)) ∨ Lx.wordB (Lx.at0 l ((a + 1) + Lx.cnt Lx.digitB (l.drop (a + 1)))) = true) :
    Calls Tryd.prog 29 #[.string ⟨l.toArray⟩, .int .i64 a] w fun e w' => e = .returned (.tuple #[.int .i64 0, .int .i64 0, .bool false]) ∧ w = w' := by
  have e := str_at l a (str_lt l a ha)
  have h1 : ((((ByteArray.mk l.toArray)[a]'(str_lt l a ha)).toNat : Int) == 45) = true := by rw [e]; simp [h45]
  have ha1 : a + 1 < l.length := Lx.ne_out l (a + 1) Lx.digitB (by decide) hd
  have hle := Lx.cnt_le Lx.digitB (l.drop (a + 1))
  rw [List.length_drop] at hle
  have hfun : (fun c => memB c digitsL) = Lx.digitB := funext mem_digits
  have hfits : ∀ i, i < Lx.cnt Lx.digitB (l.drop (a + 1)) → Lx.digitB (Lx.at0 l ((a + 1) + i)) = true := fun i hi => by
    have := cnt_digit (l.drop (a + 1)) i hi; rwa [Lx.at0_drop] at this
  have hst := natV_step (l.drop (a + 1))
  have hsm := natV_small17 (l.drop (a + 1))
  have htk := take_int l digitsL ((a : Int) + 1) w (by omega) (by omega) hm (by decide) (by decide)
  rw [hfun, show ((a : Int) + 1).toNat = a + 1 by omega] at htk
  generalize hN : Lx.cnt Lx.digitB (l.drop (a + 1)) = N at *
  have HN := Lib.hid hN; have HT := Lib.hid htk; have HF := Lib.hid hfits; have HST := Lib.hid hst; have HSM := Lib.hid hsm; have HFUN := Lib.hid hfun
  clear hN htk hfits hst hsm e hd hfun h45
  go_enter Tryd.func29, Tryd.ntmps29
  go_wp2_with fail
  refine HT.out.mono ?_; rintro e w1 ⟨rfl, rfl⟩
  by_cases h18 : 18 < N
  · have h18' : (18 : Int) < (N : Int) := by omega
    clear hbad
    go_wp2_with fail
    go_ret3
    exact ⟨rfl, rfl⟩
  · have h18' : ¬ (18 : Int) < (N : Int) := by omega
    have hw : Lx.wordB (Lx.at0 l (a + 1 + N)) = true := hbad.resolve_left h18
    have hin : (a + 1 + N) < l.length := Lx.ne_out l _ Lx.wordB (by decide) hw
    have Hw := Lib.hid hw
    clear hbad hw
    go_wp2_with fail
    refine (in_any _ insideL _ (by decide)).mono ?_; rintro e w1 ⟨rfl, rfl⟩
    rw [str_at l (a + 1 + N) (str_lt l (a + 1 + N) hin), mem_inside, Hw.out]
    go_wp2_with fail
    go_ret3
    exact ⟨rfl, rfl⟩

set_option maxHeartbeats 2000000 in
set_option maxRecDepth 100000 in
theorem number_neg_ok (l : List UInt8) (a : Nat) (w : World) (ha : a < l.length) (hm : l.length ≤ 1000000) (h45 : (Lx.at0 l a).toNat = 45) (hd : Lx.digitB (Lx.at0 l (a + 1)) = true)
    (h18 : ¬ 18 < Lx.cnt Lx.digitB (l.drop (a + 1))) (hw : Lx.wordB (Lx.at0 l ((a + 1) + Lx.cnt Lx.digitB (l.drop (a + 1)))) = false) :
    Calls Tryd.prog 29 #[.string ⟨l.toArray⟩, .int .i64 a] w fun e w' => e = .returned (.tuple #[.int .i64 (-((Lx.natV ((l.drop (a + 1)).take (Lx.cnt Lx.digitB (l.drop (a + 1)))) 0 : Nat) : Int)), .int .i64 ((1 + Lx.cnt Lx.digitB (l.drop (a + 1)) : Nat) : Int), .bool true]) ∧ w = w' := by
  have e := str_at l a (str_lt l a ha)
  have h1 : ((((ByteArray.mk l.toArray)[a]'(str_lt l a ha)).toNat : Int) == 45) = true := by rw [e]; simp [h45]
  have ha1 : a + 1 < l.length := Lx.ne_out l (a + 1) Lx.digitB (by decide) hd
  have hle := Lx.cnt_le Lx.digitB (l.drop (a + 1))
  rw [List.length_drop] at hle
  have hfun : (fun c => memB c digitsL) = Lx.digitB := funext mem_digits
  have hfits : ∀ i, i < Lx.cnt Lx.digitB (l.drop (a + 1)) → Lx.digitB (Lx.at0 l ((a + 1) + i)) = true := fun i hi => by
    have := cnt_digit (l.drop (a + 1)) i hi; rwa [Lx.at0_drop] at this
  have hst := natV_step (l.drop (a + 1))
  have hsm := natV_small17 (l.drop (a + 1))
  have htk := take_int l digitsL ((a : Int) + 1) w (by omega) (by omega) hm (by decide) (by decide)
  rw [hfun, show ((a : Int) + 1).toNat = a + 1 by omega] at htk
  generalize hN : Lx.cnt Lx.digitB (l.drop (a + 1)) = N at *
  have HN := Lib.hid hN; have HT := Lib.hid htk; have HF := Lib.hid hfits; have HST := Lib.hid hst; have HSM := Lib.hid hsm; have HFUN := Lib.hid hfun
  clear hN htk hfits hst hsm e hd hfun h45
  go_enter Tryd.func29, Tryd.ntmps29
  go_wp2_with fail
  refine HT.out.mono ?_; rintro e w1 ⟨rfl, rfl⟩
  have h18' : ¬ (18 : Int) < (N : Int) := by omega
  have Hw := Lib.hid hw; clear hw
  by_cases hin : (a + 1 + N) < l.length
  · go_wp2_with fail
    refine (in_any _ insideL _ (by decide)).mono ?_; rintro e w1 ⟨rfl, rfl⟩
    rw [str_at l (a + 1 + N) (str_lt l (a + 1 + N) hin), mem_inside, Hw.out]
    go_wp2_with fail
    go_loop [9, 10] (fun v i => ∃ k : Nat, k ≤ N ∧ i = .int .i64 k ∧ v = .int .i64 (Lx.natV ((l.drop (a + 1)).take k) 0 : Nat)) (fun _ i => N - (intOf i).toNat)
    case atStart => exact ⟨0, by omega, rfl, rfl⟩
    case round =>
      obtain ⟨k, hk, rfl, rfl⟩ := hrel
      by_cases hlt : k < N
      · have hdg := Lx.digit_bd _ (HF.out k hlt)
        have hv := HSM.out k (by omega) (by omega)
        have hs := HST.out k (by rw [List.length_drop]; omega)
        rw [Lx.at0_drop] at hs
        have hkl : (a + 1) + k < l.length := by omega
        have e := str_at l ((a + 1) + k) (str_lt l _ hkl)
        have hb0 : (48 : Int) ≤ (((ByteArray.mk l.toArray)[(a + 1) + k]'(str_lt l _ hkl)).toNat : Int) := by rw [e]; omega
        have hb1 : (((ByteArray.mk l.toArray)[(a + 1) + k]'(str_lt l _ hkl)).toNat : Int) ≤ 57 := by rw [e]; omega
        have hsum : (10 : Int) * (Lx.natV ((l.drop (a + 1)).take k) 0 : Nat) + ((((ByteArray.mk l.toArray)[(a + 1) + k]'(str_lt l _ hkl)).toNat : Int) - 48) = ((Lx.natV ((l.drop (a + 1)).take (k + 1)) 0 : Nat) : Int) := by rw [e]; omega
        generalize Lx.natV ((l.drop (a + 1)).take k) 0 = V at *
        generalize hV' : Lx.natV ((l.drop (a + 1)).take (k + 1)) 0 = V' at *
        have HS := Lib.hid hsum; have HV' := Lib.hid hV'
        clear hs hsum e hdg hV'
        go_wp2
        go_round
        case rel => exact ⟨k + 1, by omega, by go_num, by rw [HV'.out, HS.out]⟩
        case measure => simp [intOf]; omega
      · obtain rfl : k = N := by omega
        have HV := Lib.hid (natV_small (l.drop (a + 1)) k (by rw [HN.out]; omega) (by omega))
        generalize hV : Lx.natV ((l.drop (a + 1)).take k) 0 = V at *
        have HVe := Lib.hid hV; clear hV
        have hV1 : (V : Int) < 1000000000000000000 := by have := HV.out; omega
        go_wp2
        go_ret3
        exact ⟨by rw [HVe.out]; rfl, rfl⟩
  · go_wp2_with fail
    go_loop [9, 10] (fun v i => ∃ k : Nat, k ≤ N ∧ i = .int .i64 k ∧ v = .int .i64 (Lx.natV ((l.drop (a + 1)).take k) 0 : Nat)) (fun _ i => N - (intOf i).toNat)
    case atStart => exact ⟨0, by omega, rfl, rfl⟩
    case round =>
      obtain ⟨k, hk, rfl, rfl⟩ := hrel
      by_cases hlt : k < N
      · have hdg := Lx.digit_bd _ (HF.out k hlt)
        have hv := HSM.out k (by omega) (by omega)
        have hs := HST.out k (by rw [List.length_drop]; omega)
        rw [Lx.at0_drop] at hs
        have hkl : (a + 1) + k < l.length := by omega
        have e := str_at l ((a + 1) + k) (str_lt l _ hkl)
        have hb0 : (48 : Int) ≤ (((ByteArray.mk l.toArray)[(a + 1) + k]'(str_lt l _ hkl)).toNat : Int) := by rw [e]; omega
        have hb1 : (((ByteArray.mk l.toArray)[(a + 1) + k]'(str_lt l _ hkl)).toNat : Int) ≤ 57 := by rw [e]; omega
        have hsum : (10 : Int) * (Lx.natV ((l.drop (a + 1)).take k) 0 : Nat) + ((((ByteArray.mk l.toArray)[(a + 1) + k]'(str_lt l _ hkl)).toNat : Int) - 48) = ((Lx.natV ((l.drop (a + 1)).take (k + 1)) 0 : Nat) : Int) := by rw [e]; omega
        generalize Lx.natV ((l.drop (a + 1)).take k) 0 = V at *
        generalize hV' : Lx.natV ((l.drop (a + 1)).take (k + 1)) 0 = V' at *
        have HS := Lib.hid hsum; have HV' := Lib.hid hV'
        clear hs hsum e hdg hV'
        go_wp2
        go_round
        case rel => exact ⟨k + 1, by omega, by go_num, by rw [HV'.out, HS.out]⟩
        case measure => simp [intOf]; omega
      · obtain rfl : k = N := by omega
        have HV := Lib.hid (natV_small (l.drop (a + 1)) k (by rw [HN.out]; omega) (by omega))
        generalize hV : Lx.natV ((l.drop (a + 1)).take k) 0 = V at *
        have HVe := Lib.hid hV; clear hV
        have hV1 : (V : Int) < 1000000000000000000 := by have := HV.out; omega
        go_wp2
        go_ret3
        exact ⟨by rw [HVe.out]; rfl, rfl⟩

end Go.Proofs.YtcnpbbhkdogdeaaDoor
