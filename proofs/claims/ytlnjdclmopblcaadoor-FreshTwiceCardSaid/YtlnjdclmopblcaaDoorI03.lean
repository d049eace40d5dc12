import Derived.Test.YtlnjdclmopblcaaDoorI02
import Derived.BigRegion
import Derived.Deep.RegionWith
import Derived.Lib.Strings
import Derived.Deep.QuietTactic
import Derived.BigQuiet
import Derived.WalkSmall
set_option linter.unusedVariables false
set_option linter.unusedSimpArgs false
set_option maxHeartbeats 40000000
set_option maxRecDepth 100000
namespace Go.Proofs.YtlnjdclmopblcaaDoor
open Go Go.RowKit
open Go.Lib (hid)
theorem Vi (D : List UInt8) (i : Nat) (h : i < D.length) : Lx.Qn (D.take (i + 1)) 0 = Lx.Qn (D.take i) 0 * 10 + ((Lx.Jj D i).toNat - 48) := by
 have e : D.take (i + 1) = D.take i ++ [Lx.Jj D i] := by
  rw [List.take_succ_eq_append_getElem h]; simp [Lx.Jj, jL, jA h]
 rw [e, Lx.Wq, Lx.Vg]; rfl
theorem Vj (D : List UInt8) (i : Nat) (h : i < Lx.cnt Lx.jQ D) : Lx.jQ (Lx.Jj D i) = true := by
 have hl := Lx.ZY Lx.jQ D; have hm := Lx.yN Lx.jQ D; refine hm _ ?_; rw [<- Lx.Wl D (Lx.cnt Lx.jQ D) i h]; exact Lx.MK _ _ (by rw [Jh]; omega)
theorem vB (D : List UInt8) (i : Nat) (h : i <= Lx.cnt Lx.jQ D) (jDP : i <= 18) : Lx.Qn (D.take i) 0 < 1000000000000000000 := by
 have hb := Lx.uM (D.take i) 0 1 (fun c hc => by
  refine Lx.yN Lx.jQ D c ?_; have : D.take i = (D.take (Lx.cnt Lx.jQ D)).take i := by rw [List.take_take, Nat.min_eq_left h]
  rw [this] at hc
  exact UX hc) (by omega)
 have hp := Lx.Cz (D.take i).length (by rw [Jh]; omega); omega
theorem yw (D : List UInt8) (i : Nat) (h : i <= Lx.cnt Lx.jQ D) (jDP : i <= 17) : Lx.Qn (D.take i) 0 < 100000000000000000 := by
 have hb := Lx.uM (D.take i) 0 1 (fun c hc => by
  refine Lx.yN Lx.jQ D c ?_; have : D.take i = (D.take (Lx.cnt Lx.jQ D)).take i := by rw [List.take_take, Nat.min_eq_left h]
  rw [this] at hc
  exact UX hc) (by omega)
 have hp : 10 ^ (D.take i).length <= 100000000000000000 := jS (Nat.pow_le_pow_right (by omega) (show (D.take i).length <= 17 by rw [Jh]; omega)) (jB (10 ^ 17)); omega
theorem Hf (l L : List UInt8) (i : Int) (w : World) (h : 0 <= i) (ha : i <= l.length) (hm : l.length <= 1000000) (hL : L.length <= 1000000) (h0 : Q3 0 L = false) :
 Calls Tryd.prog 60 #[.string ⟨l.toArray⟩, .int .i64 i, .string ⟨L.toArray⟩] w fun e w' => e = .returned (.int .i64 (Lx.cnt (fun c => Q3 c L) (l.drop i.toNat))) /\ w = w' := by
 obtain ⟨k, rfl⟩ := Int.eq_ofNat_of_zero_le h; rw [Int.toNat_natCast]; exact VB l L k w (by omega) hm hL h0
theorem Ky (l : List UInt8) (a : Nat) (w : World) (ha : a < l.length) (hm : l.length <= 1000000) (hd : Lx.jQ (Lx.Jj l a) = true)
 (hbad : 18 < Lx.cnt Lx.jQ (l.drop a) \/ Lx.J8 (Lx.Jj l (a + Lx.cnt Lx.jQ (l.drop a))) = true) :
 Calls Tryd.prog 59 #[.string ⟨l.toArray⟩, .int .i64 a] w fun e w' => e = .returned (.tuple #[.int .i64 0, .int .i64 0, .bool false]) /\ w = w' := by
 have e := Jw l a (jk l a ha); have hb := Lx.zl _ hd; have h1 : ((((ByteArray.mk l.toArray)[a]'(jk l a ha)).toNat : Int) == 45) = false := by rw [e]; simp; omega
 clear hb; have hle := Lx.ZY Lx.jQ (l.drop a); rw [ja] at hle; have hfun : (fun c => Q3 c Zf) = Lx.jQ := funext yD
 have hfits : ∀ i, i < Lx.cnt Lx.jQ (l.drop a) -> Lx.jQ (Lx.Jj l (a + i)) = true := fun i hi => by
  have := Vj (l.drop a) i hi; rwa [Lx.zP] at this
 have hst := Vi (l.drop a); have hsm := yw (l.drop a); have htk := VB l Zf a w (by omega) hm (by decide) (by decide); rw [hfun] at htk; generalize hN : Lx.cnt Lx.jQ (l.drop a) = N at *; have HT := hid htk; clear hN htk hfits hst hsm e hd hfun; go_enter Tryd.func59, Tryd.ntmps59; go_wp2_with fail; refine HT.out.mono ?_; rintro e w1 ⟨rfl, rfl⟩
 by_cases h18 : 18 < N
 . have ML : (18 : Int) < (N : Int) := by omega
   clear hbad; go_wp2_with fail; go_ret3; exact ⟨rfl, rfl⟩
 . have ML : ¬ (18 : Int) < (N : Int) := by omega
   have hw : Lx.J8 (Lx.Jj l (a + N)) = true := hbad.resolve_left h18; have hin : (a + N) < l.length := Lx.yA l _ Lx.J8 (by decide) hw; have Hw := hid hw; clear hbad hw; go_wp2_with fail; refine (YI _ yJ _ (by decide)).mono ?_; rintro e w1 ⟨rfl, rfl⟩
   rw [Jw l (a + N) (jk l (a + N) hin), yE, Hw.out]; go_wp2_with fail; go_ret3; exact ⟨rfl, rfl⟩
theorem Xn (l : List UInt8) (a : Nat) (w : World) (ha : a < l.length) (hm : l.length <= 1000000) (hd : Lx.jQ (Lx.Jj l a) = true)
 (h18 : ¬ 18 < Lx.cnt Lx.jQ (l.drop a)) (hw : Lx.J8 (Lx.Jj l (a + Lx.cnt Lx.jQ (l.drop a))) = false) :
 Calls Tryd.prog 59 #[.string ⟨l.toArray⟩, .int .i64 a] w fun e w' => e = .returned (.tuple #[.int .i64 (((Lx.Qn ((l.drop a).take (Lx.cnt Lx.jQ (l.drop a))) 0 : Nat) : Int)), .int .i64 ((Lx.cnt Lx.jQ (l.drop a) : Nat) : Int), .bool true]) /\ w = w' := by
 have e := Jw l a (jk l a ha); have hb := Lx.zl _ hd; have h1 : ((((ByteArray.mk l.toArray)[a]'(jk l a ha)).toNat : Int) == 45) = false := by rw [e]; simp; omega
 clear hb; have hle := Lx.ZY Lx.jQ (l.drop a); rw [ja] at hle; have hfun : (fun c => Q3 c Zf) = Lx.jQ := funext yD
 have hfits : ∀ i, i < Lx.cnt Lx.jQ (l.drop a) -> Lx.jQ (Lx.Jj l (a + i)) = true := fun i hi => by
  have := Vj (l.drop a) i hi; rwa [Lx.zP] at this
 have hst := Vi (l.drop a); have hsm := yw (l.drop a); have htk := VB l Zf a w (by omega) hm (by decide) (by decide); rw [hfun] at htk; generalize hN : Lx.cnt Lx.jQ (l.drop a) = N at *; have HN := hid hN; have HT := hid htk; have HF := hid hfits; have HST := hid hst; have SX := hid hsm
 clear hN htk hfits hst hsm e hd hfun; go_enter Tryd.func59, Tryd.ntmps59; go_wp2_with fail; refine HT.out.mono ?_; rintro e w1 ⟨rfl, rfl⟩
 have ML : ¬ (18 : Int) < (N : Int) := by omega
 have Hw := hid hw; clear hw
 by_cases hin : (a + N) < l.length
 . go_wp2_with fail; refine (YI _ yJ _ (by decide)).mono ?_; rintro e w1 ⟨rfl, rfl⟩
   rw [Jw l (a + N) (jk l (a + N) hin), yE, Hw.out]; go_wp2_with fail
   go_loop [9, 10] (fun v i => ∃ k : Nat, k <= N /\ i = .int .i64 k /\ v = .int .i64 (Lx.Qn ((l.drop a).take k) 0 : Nat)) (fun _ i => N - (intOf i).toNat)
   case atStart => exact ⟨0, by omega, rfl, rfl⟩
   case round =>
    obtain ⟨k, hk, rfl, rfl⟩ := hrel; by_cases hlt : k < N
    . have hdg := Lx.zl _ (HF.out k hlt); have hv := SX.out k (by omega) (by omega); have hs := HST.out k (by rw [ja]; omega); rw [Lx.zP] at hs; have hkl : a + k < l.length := by omega
      have e := Jw l (a + k) (jk l _ hkl); have hb0 : (48 : Int) <= (((ByteArray.mk l.toArray)[a + k]'(jk l _ hkl)).toNat : Int) := by rw [e]; omega
      have hb1 : (((ByteArray.mk l.toArray)[a + k]'(jk l _ hkl)).toNat : Int) <= 57 := by rw [e]; omega
      have hsum : (10 : Int) * (Lx.Qn ((l.drop a).take k) 0 : Nat) + ((((ByteArray.mk l.toArray)[a + k]'(jk l _ hkl)).toNat : Int) - 48) = ((Lx.Qn ((l.drop a).take (k + 1)) 0 : Nat) : Int) := by rw [e]; omega
      generalize Lx.Qn ((l.drop a).take k) 0 = V at *; generalize hV' : Lx.Qn ((l.drop a).take (k + 1)) 0 = V' at *; have HS := hid hsum; have SY := hid hV'
      clear hs hsum e hdg hV'; go_wp2
      go_round
      case rel => exact ⟨k + 1, by omega, by go_num, by rw [SY.out, HS.out]⟩
      case measure => simp [intOf]; omega
    . obtain rfl : k = N := by omega
      generalize hV : Lx.Qn ((l.drop a).take k) 0 = V at *; have Sa := hid hV; clear hV
      go_wp2; go_ret3; exact ⟨by rw [Sa.out]; rfl, rfl⟩
 . go_wp2_with fail
   go_loop [9, 10] (fun v i => ∃ k : Nat, k <= N /\ i = .int .i64 k /\ v = .int .i64 (Lx.Qn ((l.drop a).take k) 0 : Nat)) (fun _ i => N - (intOf i).toNat)
   case atStart => exact ⟨0, by omega, rfl, rfl⟩
   case round =>
    obtain ⟨k, hk, rfl, rfl⟩ := hrel; by_cases hlt : k < N
    . have hdg := Lx.zl _ (HF.out k hlt); have hv := SX.out k (by omega) (by omega); have hs := HST.out k (by rw [ja]; omega); rw [Lx.zP] at hs; have hkl : a + k < l.length := by omega
      have e := Jw l (a + k) (jk l _ hkl); have hb0 : (48 : Int) <= (((ByteArray.mk l.toArray)[a + k]'(jk l _ hkl)).toNat : Int) := by rw [e]; omega
      have hb1 : (((ByteArray.mk l.toArray)[a + k]'(jk l _ hkl)).toNat : Int) <= 57 := by rw [e]; omega
      have hsum : (10 : Int) * (Lx.Qn ((l.drop a).take k) 0 : Nat) + ((((ByteArray.mk l.toArray)[a + k]'(jk l _ hkl)).toNat : Int) - 48) = ((Lx.Qn ((l.drop a).take (k + 1)) 0 : Nat) : Int) := by rw [e]; omega
      generalize Lx.Qn ((l.drop a).take k) 0 = V at *; generalize hV' : Lx.Qn ((l.drop a).take (k + 1)) 0 = V' at *; have HS := hid hsum; have SY := hid hV'
      clear hs hsum e hdg hV'; go_wp2
      go_round
      case rel => exact ⟨k + 1, by omega, by go_num, by rw [SY.out, HS.out]⟩
      case measure => simp [intOf]; omega
    . obtain rfl : k = N := by omega
      generalize hV : Lx.Qn ((l.drop a).take k) 0 = V at *; have Sa := hid hV; clear hV
      go_wp2; go_ret3; exact ⟨by rw [Sa.out]; rfl, rfl⟩
theorem Kz (l : List UInt8) (a : Nat) (w : World) (ha : a < l.length) (hm : l.length <= 1000000) (h45 : (Lx.Jj l a).toNat = 45) (hd : Lx.jQ (Lx.Jj l (a + 1)) = true)
 (hbad : 18 < Lx.cnt Lx.jQ (l.drop (a + 1)) \/ Lx.J8 (Lx.Jj l ((a + 1) + Lx.cnt Lx.jQ (l.drop (a + 1)))) = true) :
 Calls Tryd.prog 59 #[.string ⟨l.toArray⟩, .int .i64 a] w fun e w' => e = .returned (.tuple #[.int .i64 0, .int .i64 0, .bool false]) /\ w = w' := by
 have e := Jw l a (jk l a ha); have h1 : ((((ByteArray.mk l.toArray)[a]'(jk l a ha)).toNat : Int) == 45) = true := by rw [e]; simp [h45]
 have ha1 : a + 1 < l.length := Lx.yA l (a + 1) Lx.jQ (by decide) hd; have hle := Lx.ZY Lx.jQ (l.drop (a + 1)); rw [ja] at hle; have hfun : (fun c => Q3 c Zf) = Lx.jQ := funext yD
 have hfits : ∀ i, i < Lx.cnt Lx.jQ (l.drop (a + 1)) -> Lx.jQ (Lx.Jj l ((a + 1) + i)) = true := fun i hi => by
  have := Vj (l.drop (a + 1)) i hi; rwa [Lx.zP] at this
 have hst := Vi (l.drop (a + 1)); have hsm := yw (l.drop (a + 1)); have htk := Hf l Zf ((a : Int) + 1) w (by omega) (by omega) hm (by decide) (by decide); rw [hfun, show ((a : Int) + 1).toNat = a + 1 by omega] at htk; generalize hN : Lx.cnt Lx.jQ (l.drop (a + 1)) = N at *; have HT := hid htk; clear hN htk hfits hst hsm e hd hfun h45; go_enter Tryd.func59, Tryd.ntmps59; go_wp2_with fail; refine HT.out.mono ?_; rintro e w1 ⟨rfl, rfl⟩
 by_cases h18 : 18 < N
 . have ML : (18 : Int) < (N : Int) := by omega
   clear hbad; go_wp2_with fail; go_ret3; exact ⟨rfl, rfl⟩
 . have ML : ¬ (18 : Int) < (N : Int) := by omega
   have hw : Lx.J8 (Lx.Jj l (a + 1 + N)) = true := hbad.resolve_left h18; have hin : (a + 1 + N) < l.length := Lx.yA l _ Lx.J8 (by decide) hw; have Hw := hid hw; clear hbad hw; go_wp2_with fail; refine (YI _ yJ _ (by decide)).mono ?_; rintro e w1 ⟨rfl, rfl⟩
   rw [Jw l (a + 1 + N) (jk l (a + 1 + N) hin), yE, Hw.out]; go_wp2_with fail; go_ret3; exact ⟨rfl, rfl⟩
theorem Xo (l : List UInt8) (a : Nat) (w : World) (ha : a < l.length) (hm : l.length <= 1000000) (h45 : (Lx.Jj l a).toNat = 45) (hd : Lx.jQ (Lx.Jj l (a + 1)) = true)
 (h18 : ¬ 18 < Lx.cnt Lx.jQ (l.drop (a + 1))) (hw : Lx.J8 (Lx.Jj l ((a + 1) + Lx.cnt Lx.jQ (l.drop (a + 1)))) = false) :
 Calls Tryd.prog 59 #[.string ⟨l.toArray⟩, .int .i64 a] w fun e w' => e = .returned (.tuple #[.int .i64 (-((Lx.Qn ((l.drop (a + 1)).take (Lx.cnt Lx.jQ (l.drop (a + 1)))) 0 : Nat) : Int)), .int .i64 ((1 + Lx.cnt Lx.jQ (l.drop (a + 1)) : Nat) : Int), .bool true]) /\ w = w' := by
 have e := Jw l a (jk l a ha); have h1 : ((((ByteArray.mk l.toArray)[a]'(jk l a ha)).toNat : Int) == 45) = true := by rw [e]; simp [h45]
 have ha1 : a + 1 < l.length := Lx.yA l (a + 1) Lx.jQ (by decide) hd; have hle := Lx.ZY Lx.jQ (l.drop (a + 1)); rw [ja] at hle; have hfun : (fun c => Q3 c Zf) = Lx.jQ := funext yD
 have hfits : ∀ i, i < Lx.cnt Lx.jQ (l.drop (a + 1)) -> Lx.jQ (Lx.Jj l ((a + 1) + i)) = true := fun i hi => by
  have := Vj (l.drop (a + 1)) i hi; rwa [Lx.zP] at this
 have hst := Vi (l.drop (a + 1)); have hsm := yw (l.drop (a + 1)); have htk := Hf l Zf ((a : Int) + 1) w (by omega) (by omega) hm (by decide) (by decide); rw [hfun, show ((a : Int) + 1).toNat = a + 1 by omega] at htk; generalize hN : Lx.cnt Lx.jQ (l.drop (a + 1)) = N at *; have HN := hid hN; have HT := hid htk; have HF := hid hfits; have HST := hid hst; have SX := hid hsm
 clear hN htk hfits hst hsm e hd hfun h45; go_enter Tryd.func59, Tryd.ntmps59; go_wp2_with fail; refine HT.out.mono ?_; rintro e w1 ⟨rfl, rfl⟩
 have ML : ¬ (18 : Int) < (N : Int) := by omega
 have Hw := hid hw; clear hw
 by_cases hin : (a + 1 + N) < l.length
 . go_wp2_with fail; refine (YI _ yJ _ (by decide)).mono ?_; rintro e w1 ⟨rfl, rfl⟩
   rw [Jw l (a + 1 + N) (jk l (a + 1 + N) hin), yE, Hw.out]; go_wp2_with fail
   go_loop [9, 10] (fun v i => ∃ k : Nat, k <= N /\ i = .int .i64 k /\ v = .int .i64 (Lx.Qn ((l.drop (a + 1)).take k) 0 : Nat)) (fun _ i => N - (intOf i).toNat)
   case atStart => exact ⟨0, by omega, rfl, rfl⟩
   case round =>
    obtain ⟨k, hk, rfl, rfl⟩ := hrel; by_cases hlt : k < N
    . have hdg := Lx.zl _ (HF.out k hlt); have hv := SX.out k (by omega) (by omega); have hs := HST.out k (by rw [ja]; omega); rw [Lx.zP] at hs; have hkl : (a + 1) + k < l.length := by omega
      have e := Jw l ((a + 1) + k) (jk l _ hkl); have hb0 : (48 : Int) <= (((ByteArray.mk l.toArray)[(a + 1) + k]'(jk l _ hkl)).toNat : Int) := by rw [e]; omega
      have hb1 : (((ByteArray.mk l.toArray)[(a + 1) + k]'(jk l _ hkl)).toNat : Int) <= 57 := by rw [e]; omega
      have hsum : (10 : Int) * (Lx.Qn ((l.drop (a + 1)).take k) 0 : Nat) + ((((ByteArray.mk l.toArray)[(a + 1) + k]'(jk l _ hkl)).toNat : Int) - 48) = ((Lx.Qn ((l.drop (a + 1)).take (k + 1)) 0 : Nat) : Int) := by rw [e]; omega
      generalize Lx.Qn ((l.drop (a + 1)).take k) 0 = V at *; generalize hV' : Lx.Qn ((l.drop (a + 1)).take (k + 1)) 0 = V' at *; have HS := hid hsum; have SY := hid hV'
      clear hs hsum e hdg hV'; go_wp2
      go_round
      case rel => exact ⟨k + 1, by omega, by go_num, by rw [SY.out, HS.out]⟩
      case measure => simp [intOf]; omega
    . obtain rfl : k = N := by omega
      have HV := hid (vB (l.drop (a + 1)) k (by rw [HN.out]; omega) (by omega)); generalize hV : Lx.Qn ((l.drop (a + 1)).take k) 0 = V at *; have Sa := hid hV; clear hV
      have hV1 : (V : Int) < 1000000000000000000 := by have := HV.out; omega
      go_wp2; go_ret3; exact ⟨by rw [Sa.out]; rfl, rfl⟩
 . go_wp2_with fail
   go_loop [9, 10] (fun v i => ∃ k : Nat, k <= N /\ i = .int .i64 k /\ v = .int .i64 (Lx.Qn ((l.drop (a + 1)).take k) 0 : Nat)) (fun _ i => N - (intOf i).toNat)
   case atStart => exact ⟨0, by omega, rfl, rfl⟩
   case round =>
    obtain ⟨k, hk, rfl, rfl⟩ := hrel; by_cases hlt : k < N
    . have hdg := Lx.zl _ (HF.out k hlt); have hv := SX.out k (by omega) (by omega); have hs := HST.out k (by rw [ja]; omega); rw [Lx.zP] at hs; have hkl : (a + 1) + k < l.length := by omega
      have e := Jw l ((a + 1) + k) (jk l _ hkl); have hb0 : (48 : Int) <= (((ByteArray.mk l.toArray)[(a + 1) + k]'(jk l _ hkl)).toNat : Int) := by rw [e]; omega
      have hb1 : (((ByteArray.mk l.toArray)[(a + 1) + k]'(jk l _ hkl)).toNat : Int) <= 57 := by rw [e]; omega
      have hsum : (10 : Int) * (Lx.Qn ((l.drop (a + 1)).take k) 0 : Nat) + ((((ByteArray.mk l.toArray)[(a + 1) + k]'(jk l _ hkl)).toNat : Int) - 48) = ((Lx.Qn ((l.drop (a + 1)).take (k + 1)) 0 : Nat) : Int) := by rw [e]; omega
      generalize Lx.Qn ((l.drop (a + 1)).take k) 0 = V at *; generalize hV' : Lx.Qn ((l.drop (a + 1)).take (k + 1)) 0 = V' at *; have HS := hid hsum; have SY := hid hV'
      clear hs hsum e hdg hV'; go_wp2
      go_round
      case rel => exact ⟨k + 1, by omega, by go_num, by rw [SY.out, HS.out]⟩
      case measure => simp [intOf]; omega
    . obtain rfl : k = N := by omega
      have HV := hid (vB (l.drop (a + 1)) k (by rw [HN.out]; omega) (by omega)); generalize hV : Lx.Qn ((l.drop (a + 1)).take k) 0 = V at *; have Sa := hid hV; clear hV
      have hV1 : (V : Int) < 1000000000000000000 := by have := HV.out; omega
      go_wp2; go_ret3; exact ⟨by rw [Sa.out]; rfl, rfl⟩
end Go.Proofs.YtlnjdclmopblcaaDoor
namespace Go.Proofs.YtlnjdclmopblcaaDoor
namespace Lx
theorem Fh (c : UInt8) (h : ql c = true) : jQ c = false /\ c.toNat ≠ 45 /\ Qd c = false /\ c.toNat ≠ 59 := by
 simp [ql] at h; refine ⟨?_, by omega, ?_, by omega⟩
 . unfold jQ; simp; omega
 . unfold Qd; simp; omega
theorem Fj (c : UInt8) (h : QP c = true) : jQ c = false /\ ql c = false /\ c.toNat ≠ 45 /\ Qd c = false /\ c.toNat ≠ 59 := by
 simp [QP] at h; refine ⟨?_, ?_, by omega, ?_, by omega⟩
 . unfold jQ; simp; omega
 . unfold ql; simp; omega
 . unfold Qd; simp; omega
end Lx
end Go.Proofs.YtlnjdclmopblcaaDoor
namespace Go.Proofs.YtlnjdclmopblcaaDoor
open Go Go.RowKit
open Go.Lib (hid)
theorem Zr (l : List UInt8) (a b : Nat) : (ByteArray.mk l.toArray).extract a b = ⟨((l.drop a).take (b - a)).toArray⟩ := by
 apply ByteArray.ext
 have h := Lib.extract_data (ByteArray.mk l.toArray) a b
 apply Array.toList_inj.1
 rw [h]
theorem um (c : UInt8) : Q3 c W9 = true ↔ c.toNat = 95 \/ c.toNat = 43 \/ c.toNat = 45 \/ c.toNat = 42 \/ c.toNat = 47 \/ c.toNat = 37 \/ c.toNat = 61 \/ c.toNat = 60 := by
 simp [Q3, W9]; omega
theorem Sb (l : List UInt8) (a : Nat) (h : a + 1 < l.length) : (l.drop a).take 2 = [Lx.Jj l a, Lx.Jj l (a + 1)] := by
 rw [Lx.drop_at l a (by omega), Lx.drop_at l (a + 1) h]; rfl
theorem vS (c : UInt8) (n : UInt8) (h : c.toNat = n.toNat) : c = n := UInt8.toNat_inj.1 h
theorem MM (l : List UInt8) (a : Nat) (w : World) (ha : a < l.length) (hm : l.length <= 1000000) (hc : (Lx.Jj l a).toNat = 40) :
 Calls Tryd.prog 40 #[.string ⟨l.toArray⟩, .int .i64 a] w fun e w' => e = .returned (.tuple #[.agg #[.int .i64 0, .int .i64 a, .string ⟨((l.drop a).take 1).toArray⟩, .int .i64 0], .bool true]) /\ Below w.heap.size w w' := by
 have e := Jw l a (jk l a ha); have f40 : ((((ByteArray.mk l.toArray)[a]'(jk l a ha)).toNat : Int) == 40) = true := by rw [e]; simp [hc]
 have hx := Zr l a (a + 1); rw [J5] at hx; rw [<- hx]; clear hx; clear e hc; go_enter Tryd.func40, Tryd.ntmps40; go_wp2; exact jG (v := .tuple #[.agg #[.int .i64 0, .int .i64 a, .string ((ByteArray.mk l.toArray).extract a (a + 1)), .int .i64 0], .bool true]) (by simp [results, Tryd.results40, go_sem]) rfl ⟨rfl, ((jD _ _).alloc (jB _) _).alloc (by simp) _⟩
theorem MN (l : List UInt8) (a : Nat) (w : World) (ha : a < l.length) (hm : l.length <= 1000000) (hc : (Lx.Jj l a).toNat = 41) :
 Calls Tryd.prog 40 #[.string ⟨l.toArray⟩, .int .i64 a] w fun e w' => e = .returned (.tuple #[.agg #[.int .i64 1, .int .i64 a, .string ⟨((l.drop a).take 1).toArray⟩, .int .i64 0], .bool true]) /\ Below w.heap.size w w' := by
 have e := Jw l a (jk l a ha); have f40 : ((((ByteArray.mk l.toArray)[a]'(jk l a ha)).toNat : Int) == 40) = false := by rw [e]; simp; omega
 have f41 : ((((ByteArray.mk l.toArray)[a]'(jk l a ha)).toNat : Int) == 41) = true := by rw [e]; simp [hc]
 have hx := Zr l a (a + 1); rw [J5] at hx; rw [<- hx]; clear hx; clear e hc; go_enter Tryd.func40, Tryd.ntmps40; go_wp2; exact jG (v := .tuple #[.agg #[.int .i64 1, .int .i64 a, .string ((ByteArray.mk l.toArray).extract a (a + 1)), .int .i64 0], .bool true]) (by simp [results, Tryd.results40, go_sem]) rfl ⟨rfl, ((jD _ _).alloc (jB _) _).alloc (by simp) _⟩
theorem Fq (l : List UInt8) (a : Nat) (w : World) (ha : a < l.length) (hm : l.length <= 1000000) (h1 : a + 1 < l.length) (hc : (Lx.Jj l a).toNat = 45) (hn : (Lx.Jj l (a + 1)).toNat = 62) :
 Calls Tryd.prog 40 #[.string ⟨l.toArray⟩, .int .i64 a] w fun e w' => e = .returned (.tuple #[.agg #[.int .i64 5, .int .i64 a, .string ⟨((l.drop a).take 2).toArray⟩, .int .i64 0], .bool true]) /\ Below w.heap.size w w' := by
 have e := Jw l a (jk l a ha); have e1 := Jw l (a + 1) (jk l (a + 1) h1); have f40 : ((((ByteArray.mk l.toArray)[a]'(jk l a ha)).toNat : Int) == 40) = false := by rw [e]; simp; omega
 have f41 : ((((ByteArray.mk l.toArray)[a]'(jk l a ha)).toNat : Int) == 41) = false := by rw [e]; simp; omega
 have f45 : ((((ByteArray.mk l.toArray)[a]'(jk l a ha)).toNat : Int) == 45) = true := by rw [e]; simp [hc]
 have Oh : ((((ByteArray.mk l.toArray)[a + 1]'(jk l (a + 1) h1)).toNat : Int) == 62) = true := by rw [e1]; simp [hn]
 have ht : (l.drop a).take 2 = [45, 62] := by rw [Sb l a h1, vS _ 45 hc, vS _ 62 hn]
 rw [ht]; clear e e1 hc hn ht; go_enter Tryd.func40, Tryd.ntmps40; go_wp2; exact jG (v := .tuple #[.agg #[.int .i64 5, .int .i64 a, .string ⟨#[45, 62]⟩, .int .i64 0], .bool true]) (by simp [results, Tryd.results40, go_sem]) rfl ⟨rfl, ((jD _ _).alloc (jB _) _).alloc (by simp) _⟩
theorem K5 (l : List UInt8) (a : Nat) (w : World) (ha : a < l.length) (hm : l.length <= 1000000) (hd : Lx.jQ (Lx.Jj l a) = true) (h18 : ¬ 18 < Lx.cnt Lx.jQ (l.drop a)) (hw : Lx.J8 (Lx.Jj l (a + Lx.cnt Lx.jQ (l.drop a))) = false) :
 Calls Tryd.prog 40 #[.string ⟨l.toArray⟩, .int .i64 a] w fun e w' => e = .returned (.tuple #[.agg #[.int .i64 2, .int .i64 a, .string ⟨((l.drop a).take (Lx.cnt Lx.jQ (l.drop a))).toArray⟩, .int .i64 ((Lx.Qn ((l.drop a).take (Lx.cnt Lx.jQ (l.drop a))) 0 : Nat) : Int)], .bool true]) /\ Below w.heap.size w w' := by
 have e := Jw l a (jk l a ha); have hc := (Lx.zl _ hd); have f40 : ((((ByteArray.mk l.toArray)[a]'(jk l a ha)).toNat : Int) == 40) = false := by rw [e]; simp; omega
 have f41 : ((((ByteArray.mk l.toArray)[a]'(jk l a ha)).toNat : Int) == 41) = false := by rw [e]; simp; omega
 have f45 : ((((ByteArray.mk l.toArray)[a]'(jk l a ha)).toNat : Int) == 45) = false := by rw [e]; simp; omega
 have HC := hid (Xn l a (w.alloc (.cells #[.int .i64 0, .int .i64 0, .string ⟨#[]⟩, .int .i64 0] 70) |>.alloc (.cells #[.int .i64 0, .int .i64 a, .string ((ByteArray.mk l.toArray).extract a (a + 1)), .int .i64 0] 70)) ha hm hd h18 hw); have hle := Lx.ZY Lx.jQ (l.drop a); rw [ja] at hle; have hx := Zr l a (a + (Lx.cnt Lx.jQ (l.drop a))); rw [J5] at hx; rw [<- hx]; clear hx; generalize Lx.Qn ((l.drop a).take (Lx.cnt Lx.jQ (l.drop a))) 0 = V at *; generalize MO : Lx.cnt Lx.jQ (l.drop a) = N at *; have HD := hid hd; clear e hc hd MO h18 hw; go_enter Tryd.func40, Tryd.ntmps40; go_wp2_with fail; refine (Qq _ _).mono ?_; rintro e w1 ⟨rfl, rfl⟩
 rw [Jw l a (jk l a ha), HD.out]; go_wp2_with fail; refine HC.out.mono ?_; rintro e w1 ⟨rfl, rfl⟩
 go_wp2_with fail; exact jG (v := .tuple #[.agg #[.int .i64 2, .int .i64 a, .string ((ByteArray.mk l.toArray).extract a (a + N)), .int .i64 (V : Int)], .bool true]) (by simp [results, Tryd.results40, go_sem]) rfl ⟨rfl, ((jD _ _).alloc (jB _) _).alloc (by simp) _⟩
theorem KN (l : List UInt8) (a : Nat) (w : World) (ha : a < l.length) (hm : l.length <= 1000000) (hd : Lx.jQ (Lx.Jj l a) = true) (hbad : 18 < Lx.cnt Lx.jQ (l.drop a) \/ Lx.J8 (Lx.Jj l (a + Lx.cnt Lx.jQ (l.drop a))) = true) :
 Calls Tryd.prog 40 #[.string ⟨l.toArray⟩, .int .i64 a] w fun e w' => e = .returned (.tuple #[.agg #[.int .i64 2, .int .i64 a, .string ((ByteArray.mk l.toArray).extract a a), .int .i64 0], .bool false]) /\ Below w.heap.size w w' := by
 have e := Jw l a (jk l a ha); have hc := (Lx.zl _ hd); have f40 : ((((ByteArray.mk l.toArray)[a]'(jk l a ha)).toNat : Int) == 40) = false := by rw [e]; simp; omega
 have f41 : ((((ByteArray.mk l.toArray)[a]'(jk l a ha)).toNat : Int) == 41) = false := by rw [e]; simp; omega
 have f45 : ((((ByteArray.mk l.toArray)[a]'(jk l a ha)).toNat : Int) == 45) = false := by rw [e]; simp; omega
 have HC := hid (Ky l a (w.alloc (.cells #[.int .i64 0, .int .i64 0, .string ⟨#[]⟩, .int .i64 0] 70) |>.alloc (.cells #[.int .i64 0, .int .i64 a, .string ((ByteArray.mk l.toArray).extract a (a + 1)), .int .i64 0] 70)) ha hm hd hbad); have hle := Lx.ZY Lx.jQ (l.drop a); rw [ja] at hle; generalize MO : Lx.cnt Lx.jQ (l.drop a) = N at *; have HD := hid hd; clear e hc hd MO hbad; go_enter Tryd.func40, Tryd.ntmps40; go_wp2_with fail; refine (Qq _ _).mono ?_; rintro e w1 ⟨rfl, rfl⟩
 rw [Jw l a (jk l a ha), HD.out]; go_wp2_with fail; refine HC.out.mono ?_; rintro e w1 ⟨rfl, rfl⟩
 go_wp2_with fail; exact jG (v := .tuple #[.agg #[.int .i64 2, .int .i64 a, .string ((ByteArray.mk l.toArray).extract a a), .int .i64 0], .bool false]) (by simp [results, Tryd.results40, go_sem]) rfl ⟨rfl, ((jD _ _).alloc (jB _) _).alloc (by simp) _⟩
theorem K6 (l : List UInt8) (a : Nat) (w : World) (ha : a < l.length) (hm : l.length <= 1000000) (h1 : a + 1 < l.length) (hc : (Lx.Jj l a).toNat = 45) (hd : Lx.jQ (Lx.Jj l (a + 1)) = true) (h18 : ¬ 18 < Lx.cnt Lx.jQ (l.drop (a + 1))) (hw : Lx.J8 (Lx.Jj l ((a + 1) + Lx.cnt Lx.jQ (l.drop (a + 1)))) = false) :
 Calls Tryd.prog 40 #[.string ⟨l.toArray⟩, .int .i64 a] w fun e w' => e = .returned (.tuple #[.agg #[.int .i64 2, .int .i64 a, .string ⟨((l.drop a).take (1 + Lx.cnt Lx.jQ (l.drop (a + 1)))).toArray⟩, .int .i64 (-((Lx.Qn ((l.drop (a + 1)).take (Lx.cnt Lx.jQ (l.drop (a + 1)))) 0 : Nat) : Int))], .bool true]) /\ Below w.heap.size w w' := by
 have e := Jw l a (jk l a ha); have e1 := Jw l (a + 1) (jk l (a + 1) h1); have hn := (Lx.zl _ hd); have f40 : ((((ByteArray.mk l.toArray)[a]'(jk l a ha)).toNat : Int) == 40) = false := by rw [e]; simp; omega
 have f41 : ((((ByteArray.mk l.toArray)[a]'(jk l a ha)).toNat : Int) == 41) = false := by rw [e]; simp; omega
 have Sc : (((Lx.Jj l a).toNat : Int) == 45) = true := by simp [hc]
 have f45 : ((((ByteArray.mk l.toArray)[a]'(jk l a ha)).toNat : Int) == 45) = true := by rw [e]; simp [hc]
 have Oh : ((((ByteArray.mk l.toArray)[a + 1]'(jk l (a + 1) h1)).toNat : Int) == 62) = false := by rw [e1]; simp; omega
 have fd : Lx.jQ (Lx.Jj l a) = false := by rw [vS _ 45 hc]; rfl
 have HC := hid (Xo l a (w.alloc (.cells #[.int .i64 0, .int .i64 0, .string ⟨#[]⟩, .int .i64 0] 70) |>.alloc (.cells #[.int .i64 0, .int .i64 a, .string ((ByteArray.mk l.toArray).extract a (a + 1)), .int .i64 0] 70)) ha hm hc hd h18 hw); have hle := Lx.ZY Lx.jQ (l.drop (a + 1)); rw [ja] at hle; have hx := Zr l a (a + (1 + Lx.cnt Lx.jQ (l.drop (a + 1)))); rw [J5] at hx; rw [<- hx]; clear hx; generalize Lx.Qn ((l.drop (a + 1)).take (Lx.cnt Lx.jQ (l.drop (a + 1)))) 0 = V at *; generalize MO : Lx.cnt Lx.jQ (l.drop (a + 1)) = N at *; have HD := hid hd; clear e e1 hn hc hd MO h18 hw; have FD := hid fd; clear fd; go_enter Tryd.func40, Tryd.ntmps40; go_wp2_with fail; refine (Qq _ _).mono ?_; rintro e w1 ⟨rfl, rfl⟩
 rw [Jw l a (jk l a ha), FD.out]; go_wp2_with fail; refine (Qq _ _).mono ?_; rintro e w1 ⟨rfl, rfl⟩
 rw [Jw l (a + 1) (jk l (a + 1) h1), HD.out]; go_wp2_with fail; refine HC.out.mono ?_; rintro e w1 ⟨rfl, rfl⟩
 go_wp2_with fail; exact jG (v := .tuple #[.agg #[.int .i64 2, .int .i64 a, .string ((ByteArray.mk l.toArray).extract a (a + (1 + N))), .int .i64 (-(V : Int))], .bool true]) (by simp [results, Tryd.results40, go_sem]) rfl ⟨rfl, ((jD _ _).alloc (jB _) _).alloc (by simp) _⟩
theorem KO (l : List UInt8) (a : Nat) (w : World) (ha : a < l.length) (hm : l.length <= 1000000) (h1 : a + 1 < l.length) (hc : (Lx.Jj l a).toNat = 45) (hd : Lx.jQ (Lx.Jj l (a + 1)) = true) (hbad : 18 < Lx.cnt Lx.jQ (l.drop (a + 1)) \/ Lx.J8 (Lx.Jj l ((a + 1) + Lx.cnt Lx.jQ (l.drop (a + 1)))) = true) :
 Calls Tryd.prog 40 #[.string ⟨l.toArray⟩, .int .i64 a] w fun e w' => e = .returned (.tuple #[.agg #[.int .i64 2, .int .i64 a, .string ((ByteArray.mk l.toArray).extract a a), .int .i64 0], .bool false]) /\ Below w.heap.size w w' := by
 have e := Jw l a (jk l a ha); have e1 := Jw l (a + 1) (jk l (a + 1) h1); have hn := (Lx.zl _ hd); have f40 : ((((ByteArray.mk l.toArray)[a]'(jk l a ha)).toNat : Int) == 40) = false := by rw [e]; simp; omega
 have f41 : ((((ByteArray.mk l.toArray)[a]'(jk l a ha)).toNat : Int) == 41) = false := by rw [e]; simp; omega
 have Sc : (((Lx.Jj l a).toNat : Int) == 45) = true := by simp [hc]
 have f45 : ((((ByteArray.mk l.toArray)[a]'(jk l a ha)).toNat : Int) == 45) = true := by rw [e]; simp [hc]
 have Oh : ((((ByteArray.mk l.toArray)[a + 1]'(jk l (a + 1) h1)).toNat : Int) == 62) = false := by rw [e1]; simp; omega
 have fd : Lx.jQ (Lx.Jj l a) = false := by rw [vS _ 45 hc]; rfl
 have HC := hid (Kz l a (w.alloc (.cells #[.int .i64 0, .int .i64 0, .string ⟨#[]⟩, .int .i64 0] 70) |>.alloc (.cells #[.int .i64 0, .int .i64 a, .string ((ByteArray.mk l.toArray).extract a (a + 1)), .int .i64 0] 70)) ha hm hc hd hbad); have hle := Lx.ZY Lx.jQ (l.drop (a + 1)); rw [ja] at hle; generalize MO : Lx.cnt Lx.jQ (l.drop (a + 1)) = N at *; have HD := hid hd; clear e e1 hn hc hd MO hbad; have FD := hid fd; clear fd; go_enter Tryd.func40, Tryd.ntmps40; go_wp2_with fail; refine (Qq _ _).mono ?_; rintro e w1 ⟨rfl, rfl⟩
 rw [Jw l a (jk l a ha), FD.out]; go_wp2_with fail; refine (Qq _ _).mono ?_; rintro e w1 ⟨rfl, rfl⟩
 rw [Jw l (a + 1) (jk l (a + 1) h1), HD.out]; go_wp2_with fail; refine HC.out.mono ?_; rintro e w1 ⟨rfl, rfl⟩
 go_wp2_with fail; exact jG (v := .tuple #[.agg #[.int .i64 2, .int .i64 a, .string ((ByteArray.mk l.toArray).extract a a), .int .i64 0], .bool false]) (by simp [results, Tryd.results40, go_sem]) rfl ⟨rfl, ((jD _ _).alloc (jB _) _).alloc (by simp) _⟩
theorem Fs (l : List UInt8) (a : Nat) (w : World) (ha : a < l.length) (hm : l.length <= 1000000) (hb : Lx.ql (Lx.Jj l a) = true) :
 Calls Tryd.prog 40 #[.string ⟨l.toArray⟩, .int .i64 a] w fun e w' => e = .returned (.tuple #[.agg #[.int .i64 3, .int .i64 a, .string ⟨((l.drop a).take (Lx.cnt Lx.J8 (l.drop a))).toArray⟩, .int .i64 0], .bool true]) /\ Below w.heap.size w w' := by
 have e := Jw l a (jk l a ha); have hc := Lx.Fh _ hb; have hdg := hc.1; have hr : 97 <= (Lx.Jj l a).toNat /\ (Lx.Jj l a).toNat <= 122 := by simpa [Lx.ql] using hb
 have f40 : ((((ByteArray.mk l.toArray)[a]'(jk l a ha)).toNat : Int) == 40) = false := by rw [e]; simp; omega
 have f41 : ((((ByteArray.mk l.toArray)[a]'(jk l a ha)).toNat : Int) == 41) = false := by rw [e]; simp; omega
 have Sc : (((Lx.Jj l a).toNat : Int) == 45) = false := by simp; omega
 have f45 : ((((ByteArray.mk l.toArray)[a]'(jk l a ha)).toNat : Int) == 45) = false := by rw [e]; simp; omega
 have htk := VB l yJ a; have hfun : (fun c => Q3 c yJ) = Lx.J8 := funext yE; have HT := fun w => hid (htk w (by omega) hm (by decide) (by decide))
 rw [hfun] at HT; clear htk hfun; have hle := Lx.ZY Lx.J8 (l.drop a); rw [ja] at hle; have hx := Zr l a (a + (Lx.cnt Lx.J8 (l.drop a))); rw [J5] at hx; rw [<- hx]; clear hx; generalize MO : Lx.cnt Lx.J8 (l.drop a) = N at *; clear MO; have MP := hid hdg; have Sd := hid hb
 clear e hc hdg hb hr; go_enter Tryd.func40, Tryd.ntmps40; go_wp2_with fail; refine (Qq _ _).mono ?_; rintro e w1 ⟨rfl, rfl⟩
 rw [Jw l a (jk l a ha), MP.out]; go_wp2_with fail; refine (Yr _ _).mono ?_; rintro e w1 ⟨rfl, rfl⟩
 rw [Sd.out]; go_wp2_with fail; have s4 : (a : Int) + (N : Int) <= (l.length : Int) := by omega
 have s2 : (0 : Int) <= (a : Int) + (N : Int) := by omega
 have s6 : (a : Int) <= (a : Int) + (N : Int) := by omega
 have s3 : ((a : Int) + (N : Int)).toNat = a + N := by omega
 have s1 : IntKind.i64.wrap ((a : Int) + (N : Int)) = (a : Int) + (N : Int) := IntWalk.i64_in _ (by omega); clear hle
 go_region_with (go_at_call 60; refine ((HT _).out).mono ?_; rintro e w1 ⟨rfl, rfl⟩)
 clear s1 s2 s3 s6 s4; go_wp2; exact jG (v := .tuple #[.agg #[.int .i64 3, .int .i64 a, .string ((ByteArray.mk l.toArray).extract a (a + N)), .int .i64 0], .bool true]) (by simp [results, Tryd.results40, go_sem]) rfl ⟨rfl, (((jD _ _).alloc (jB _) _).alloc (by simp) _).drew⟩
theorem Fu (l : List UInt8) (a : Nat) (w : World) (ha : a < l.length) (hm : l.length <= 1000000) (hb : Lx.QP (Lx.Jj l a) = true) :
 Calls Tryd.prog 40 #[.string ⟨l.toArray⟩, .int .i64 a] w fun e w' => e = .returned (.tuple #[.agg #[.int .i64 4, .int .i64 a, .string ⟨((l.drop a).take (Lx.cnt Lx.J8 (l.drop a))).toArray⟩, .int .i64 0], .bool true]) /\ Below w.heap.size w w' := by
 have e := Jw l a (jk l a ha); have hc := Lx.Fj _ hb; have hdg := hc.1; have hr : 65 <= (Lx.Jj l a).toNat /\ (Lx.Jj l a).toNat <= 90 := by simpa [Lx.QP] using hb
 have f40 : ((((ByteArray.mk l.toArray)[a]'(jk l a ha)).toNat : Int) == 40) = false := by rw [e]; simp; omega
 have f41 : ((((ByteArray.mk l.toArray)[a]'(jk l a ha)).toNat : Int) == 41) = false := by rw [e]; simp; omega
 have Sc : (((Lx.Jj l a).toNat : Int) == 45) = false := by simp; omega
 have f45 : ((((ByteArray.mk l.toArray)[a]'(jk l a ha)).toNat : Int) == 45) = false := by rw [e]; simp; omega
 have htk := VB l yJ a; have hfun : (fun c => Q3 c yJ) = Lx.J8 := funext yE; have HT := fun w => hid (htk w (by omega) hm (by decide) (by decide))
 rw [hfun] at HT; clear htk hfun; have hle := Lx.ZY Lx.J8 (l.drop a); rw [ja] at hle; have hx := Zr l a (a + (Lx.cnt Lx.J8 (l.drop a))); rw [J5] at hx; rw [<- hx]; clear hx; generalize MO : Lx.cnt Lx.J8 (l.drop a) = N at *; clear MO; have MP := hid hdg; have Sd := hid hb
 have SX := hid hc.2.1; clear e hc hdg hb hr; go_enter Tryd.func40, Tryd.ntmps40; go_wp2_with fail; refine (Qq _ _).mono ?_; rintro e w1 ⟨rfl, rfl⟩
 rw [Jw l a (jk l a ha), MP.out]; go_wp2_with fail; refine (Yr _ _).mono ?_; rintro e w1 ⟨rfl, rfl⟩
 rw [SX.out]; go_wp2_with fail; refine (VA _ _).mono ?_; rintro e w1 ⟨rfl, rfl⟩
 rw [Sd.out]; go_wp2_with fail; have s4 : (a : Int) + (N : Int) <= (l.length : Int) := by omega
 have s2 : (0 : Int) <= (a : Int) + (N : Int) := by omega
 have s6 : (a : Int) <= (a : Int) + (N : Int) := by omega
 have s3 : ((a : Int) + (N : Int)).toNat = a + N := by omega
 have s1 : IntKind.i64.wrap ((a : Int) + (N : Int)) = (a : Int) + (N : Int) := IntWalk.i64_in _ (by omega); clear hle
 go_region_with (go_at_call 60; refine ((HT _).out).mono ?_; rintro e w1 ⟨rfl, rfl⟩)
 clear s1 s2 s3 s6 s4; go_wp2; exact jG (v := .tuple #[.agg #[.int .i64 4, .int .i64 a, .string ((ByteArray.mk l.toArray).extract a (a + N)), .int .i64 0], .bool true]) (by simp [results, Tryd.results40, go_sem]) rfl ⟨rfl, (((jD _ _).alloc (jB _) _).alloc (by simp) _).drew⟩
theorem rD (l : List UInt8) (a : Nat) (w : World) (ha : a < l.length) (hm : l.length <= 1000000) (hs : Q3 (Lx.Jj l a) W9 = true) (h45 : (Lx.Jj l a).toNat ≠ 45) :
 Calls Tryd.prog 40 #[.string ⟨l.toArray⟩, .int .i64 a] w fun e w' => e = .returned (.tuple #[.agg #[.int .i64 5, .int .i64 a, .string ⟨((l.drop a).take 1).toArray⟩, .int .i64 0], .bool true]) /\ Below w.heap.size w w' := by
 have e := Jw l a (jk l a ha); have hc := (um _).1 hs; have PO := hid hs; have f40 : ((((ByteArray.mk l.toArray)[a]'(jk l a ha)).toNat : Int) == 40) = false := by rw [e]; simp; omega
 have f41 : ((((ByteArray.mk l.toArray)[a]'(jk l a ha)).toNat : Int) == 41) = false := by rw [e]; simp; omega
 have Sc : (((Lx.Jj l a).toNat : Int) == 45) = false := by simp; omega
 have f45 : ((((ByteArray.mk l.toArray)[a]'(jk l a ha)).toNat : Int) == 45) = false := by rw [e]; simp; omega
 have hdg : Lx.jQ (Lx.Jj l a) = false := by unfold Lx.jQ; simp; omega
 have hsl : Lx.ql (Lx.Jj l a) = false := by unfold Lx.ql; simp; omega
 have hgl : Lx.QP (Lx.Jj l a) = false := by unfold Lx.QP; simp; omega
 have MP := hid hdg; have Sg := hid hsl; have Si := hid hgl
 clear hdg hsl hgl; clear hs; have hx := Zr l a (a + 1); rw [J5] at hx; rw [<- hx]; clear hx; clear e hc; go_enter Tryd.func40, Tryd.ntmps40; go_wp2_with fail; refine (Qq _ _).mono ?_; rintro e w1 ⟨rfl, rfl⟩
 rw [Jw l a (jk l a ha), MP.out]; go_wp2_with fail; refine (Yr _ _).mono ?_; rintro e w1 ⟨rfl, rfl⟩
 rw [Sg.out]; go_wp2_with fail; refine (VA _ _).mono ?_; rintro e w1 ⟨rfl, rfl⟩
 rw [Si.out]; go_wp2_with fail; refine (Gi _ _).mono ?_; rintro e w1 ⟨rfl, rfl⟩
 rw [PO.out]; go_wp2_with fail; exact jG (v := .tuple #[.agg #[.int .i64 5, .int .i64 a, .string ((ByteArray.mk l.toArray).extract a (a + 1)), .int .i64 0], .bool true]) (by simp [results, Tryd.results40, go_sem]) rfl ⟨rfl, ((jD _ _).alloc (jB _) _).alloc (by simp) _⟩
theorem Gj (l : List UInt8) (a : Nat) (w : World) (ha : a < l.length) (hm : l.length <= 1000000) (hc : (Lx.Jj l a).toNat = 45) (h1 : ¬ a + 1 < l.length) :
 Calls Tryd.prog 40 #[.string ⟨l.toArray⟩, .int .i64 a] w fun e w' => e = .returned (.tuple #[.agg #[.int .i64 5, .int .i64 a, .string ⟨((l.drop a).take 1).toArray⟩, .int .i64 0], .bool true]) /\ Below w.heap.size w w' := by
 have e := Jw l a (jk l a ha); have hs := (um (Lx.Jj l a)).2 (by omega); have PO := hid hs; have f40 : ((((ByteArray.mk l.toArray)[a]'(jk l a ha)).toNat : Int) == 40) = false := by rw [e]; simp; omega
 have f41 : ((((ByteArray.mk l.toArray)[a]'(jk l a ha)).toNat : Int) == 41) = false := by rw [e]; simp; omega
 have Sc : (((Lx.Jj l a).toNat : Int) == 45) = true := by simp [hc]
 have f45 : ((((ByteArray.mk l.toArray)[a]'(jk l a ha)).toNat : Int) == 45) = true := by rw [e]; simp [hc]
 have hdg : Lx.jQ (Lx.Jj l a) = false := by unfold Lx.jQ; simp; omega
 have hsl : Lx.ql (Lx.Jj l a) = false := by unfold Lx.ql; simp; omega
 have hgl : Lx.QP (Lx.Jj l a) = false := by unfold Lx.QP; simp; omega
 have MP := hid hdg; have Sg := hid hsl; have Si := hid hgl
 clear hdg hsl hgl; clear hs; have h1' : ¬ ((a : Int) + 1 < (l.length : Int)) := by omega
 have hx := Zr l a (a + 1); rw [J5] at hx; rw [<- hx]; clear hx; clear e hc; go_enter Tryd.func40, Tryd.ntmps40; go_wp2_with fail; refine (Qq _ _).mono ?_; rintro e w1 ⟨rfl, rfl⟩
 rw [Jw l a (jk l a ha), MP.out]; go_wp2_with fail; refine (Yr _ _).mono ?_; rintro e w1 ⟨rfl, rfl⟩
 rw [Sg.out]; go_wp2_with fail; refine (VA _ _).mono ?_; rintro e w1 ⟨rfl, rfl⟩
 rw [Si.out]; go_wp2_with fail; refine (Gi _ _).mono ?_; rintro e w1 ⟨rfl, rfl⟩
 rw [PO.out]; go_wp2_with fail; exact jG (v := .tuple #[.agg #[.int .i64 5, .int .i64 a, .string ((ByteArray.mk l.toArray).extract a (a + 1)), .int .i64 0], .bool true]) (by simp [results, Tryd.results40, go_sem]) rfl ⟨rfl, ((jD _ _).alloc (jB _) _).alloc (by simp) _⟩
theorem Hg (l : List UInt8) (a : Nat) (w : World) (ha : a < l.length) (hm : l.length <= 1000000) (hc : (Lx.Jj l a).toNat = 45) (h1 : a + 1 < l.length) (hn : (Lx.Jj l (a + 1)).toNat ≠ 62) (hnd : Lx.jQ (Lx.Jj l (a + 1)) = false) :
 Calls Tryd.prog 40 #[.string ⟨l.toArray⟩, .int .i64 a] w fun e w' => e = .returned (.tuple #[.agg #[.int .i64 5, .int .i64 a, .string ⟨((l.drop a).take 1).toArray⟩, .int .i64 0], .bool true]) /\ Below w.heap.size w w' := by
 have e := Jw l a (jk l a ha); have e1 := Jw l (a + 1) (jk l (a + 1) h1); have hs := (um (Lx.Jj l a)).2 (by omega); have PO := hid hs; have dX := hid hnd
 have f40 : ((((ByteArray.mk l.toArray)[a]'(jk l a ha)).toNat : Int) == 40) = false := by rw [e]; simp; omega
 have f41 : ((((ByteArray.mk l.toArray)[a]'(jk l a ha)).toNat : Int) == 41) = false := by rw [e]; simp; omega
 have Sc : (((Lx.Jj l a).toNat : Int) == 45) = true := by simp [hc]
 have f45 : ((((ByteArray.mk l.toArray)[a]'(jk l a ha)).toNat : Int) == 45) = true := by rw [e]; simp [hc]
 have Oh : ((((ByteArray.mk l.toArray)[a + 1]'(jk l (a + 1) h1)).toNat : Int) == 62) = false := by rw [e1]; simp; omega
 have hdg : Lx.jQ (Lx.Jj l a) = false := by unfold Lx.jQ; simp; omega
 have hsl : Lx.ql (Lx.Jj l a) = false := by unfold Lx.ql; simp; omega
 have hgl : Lx.QP (Lx.Jj l a) = false := by unfold Lx.QP; simp; omega
 have MP := hid hdg; have Sg := hid hsl; have Si := hid hgl
 clear hdg hsl hgl; clear hs hn e1 hnd; have hx := Zr l a (a + 1); rw [J5] at hx; rw [<- hx]; clear hx; clear e hc; go_enter Tryd.func40, Tryd.ntmps40; go_wp2_with fail; refine (Qq _ _).mono ?_; rintro e w1 ⟨rfl, rfl⟩
 rw [Jw l a (jk l a ha), MP.out]; go_wp2_with fail; refine (Qq _ _).mono ?_; rintro e w1 ⟨rfl, rfl⟩
 rw [Jw l (a + 1) (jk l (a + 1) h1), dX.out]; go_wp2_with fail; refine (Yr _ _).mono ?_; rintro e w1 ⟨rfl, rfl⟩
 rw [Sg.out]; go_wp2_with fail; refine (VA _ _).mono ?_; rintro e w1 ⟨rfl, rfl⟩
 rw [Si.out]; go_wp2_with fail; refine (Gi _ _).mono ?_; rintro e w1 ⟨rfl, rfl⟩
 rw [PO.out]; go_wp2_with fail; exact jG (v := .tuple #[.agg #[.int .i64 5, .int .i64 a, .string ((ByteArray.mk l.toArray).extract a (a + 1)), .int .i64 0], .bool true]) (by simp [results, Tryd.results40, go_sem]) rfl ⟨rfl, ((jD _ _).alloc (jB _) _).alloc (by simp) _⟩
theorem MQ (l : List UInt8) (a : Nat) (w : World) (ha : a < l.length) (hm : l.length <= 1000000) (Et : (Lx.Jj l a).toNat ≠ 40) (CU : (Lx.Jj l a).toNat ≠ 41) (h45 : (Lx.Jj l a).toNat ≠ 45) (hd : Lx.jQ (Lx.Jj l a) = false) (hsm : Lx.ql (Lx.Jj l a) = false) (hgr : Lx.QP (Lx.Jj l a) = false) (hs : Q3 (Lx.Jj l a) W9 = false) :
 Calls Tryd.prog 40 #[.string ⟨l.toArray⟩, .int .i64 a] w fun e w' => e = .returned (.tuple #[.agg #[.int .i64 0, .int .i64 a, .string ⟨((l.drop a).take 1).toArray⟩, .int .i64 0], .bool false]) /\ Below w.heap.size w w' := by
 have e := Jw l a (jk l a ha); have MP := hid hd; have Sg := hid hsm; have Si := hid hgr; have PO := hid hs
 have hc := Et; have f40 : ((((ByteArray.mk l.toArray)[a]'(jk l a ha)).toNat : Int) == 40) = false := by rw [e]; simp; omega
 have f41 : ((((ByteArray.mk l.toArray)[a]'(jk l a ha)).toNat : Int) == 41) = false := by rw [e]; simp; omega
 have Sc : (((Lx.Jj l a).toNat : Int) == 45) = false := by simp; omega
 have f45 : ((((ByteArray.mk l.toArray)[a]'(jk l a ha)).toNat : Int) == 45) = false := by rw [e]; simp; omega
 clear hd hsm hgr hs; have hx := Zr l a (a + 1); rw [J5] at hx; rw [<- hx]; clear hx; clear e hc; go_enter Tryd.func40, Tryd.ntmps40; go_wp2_with fail; refine (Qq _ _).mono ?_; rintro e w1 ⟨rfl, rfl⟩
 rw [Jw l a (jk l a ha), MP.out]; go_wp2_with fail; refine (Yr _ _).mono ?_; rintro e w1 ⟨rfl, rfl⟩
 rw [Sg.out]; go_wp2_with fail; refine (VA _ _).mono ?_; rintro e w1 ⟨rfl, rfl⟩
 rw [Si.out]; go_wp2_with fail; refine (Gi _ _).mono ?_; rintro e w1 ⟨rfl, rfl⟩
 rw [PO.out]; go_wp2_with fail; exact jG (v := .tuple #[.agg #[.int .i64 0, .int .i64 a, .string ((ByteArray.mk l.toArray).extract a (a + 1)), .int .i64 0], .bool false]) (by simp [results, Tryd.results40, go_sem]) rfl ⟨rfl, ((jD _ _).alloc (jB _) _).alloc (by simp) _⟩
def Gl (l : List UInt8) (a : Nat) (w : World) (e : Ending) (w' : World) : Prop :=
 Below w.heap.size w w' /\
 (((Lx.Jp (l.drop a)).2 = 0 /\ ∃ (k p : Int) (s : ByteArray) (i : Int), e = .returned (.tuple #[.agg #[.int .i64 k, .int .i64 p, .string s, .int .i64 i], .bool false])) \/
  ((Lx.Jp (l.drop a)).2 ≠ 0 /\ ∃ t : Lx.Tok, t = Lx.yo a (Lx.Jp (l.drop a)).1 ((l.drop a).take (Lx.Jp (l.drop a)).2) /\
     e = .returned (.tuple #[.agg #[.int .i64 t.kind, .int .i64 t.pos, .string ⟨t.text.toArray⟩, .int .i64 t.int], .bool true])))
theorem K7 {l : List UInt8} {a : Nat} {w : World} {f : FuncId} {args : Array Value} {k p i : Int} {s : ByteArray} (h0 : (Lx.Jp (l.drop a)).2 = 0)
 (h : Calls Tryd.prog f args w fun e w' => e = .returned (.tuple #[.agg #[.int .i64 k, .int .i64 p, .string s, .int .i64 i], .bool false]) /\ Below w.heap.size w w') : Calls Tryd.prog f args w (Gl l a w) :=
 h.mono fun _ _ ⟨he, hb⟩ => ⟨hb, .inl ⟨h0, k, p, s, i, he⟩⟩
theorem zu {l : List UInt8} {a : Nat} {w : World} {f : FuncId} {args : Array Value} (K : Int) (n : Nat) (iv : Int) (ht : Lx.Jp (l.drop a) = (K, n)) (hn : n ≠ 0) (hi : (Lx.yo a K ((l.drop a).take n)).int = iv)
 (h : Calls Tryd.prog f args w fun e w' => e = .returned (.tuple #[.agg #[.int .i64 K, .int .i64 a, .string ⟨((l.drop a).take n).toArray⟩, .int .i64 iv], .bool true]) /\ Below w.heap.size w w') : Calls Tryd.prog f args w (Gl l a w) :=
 h.mono fun _ _ ⟨he, hb⟩ => ⟨hb, .inr ⟨by rw [ht]; exact hn, _, rfl, by rw [ht, he, <- hi]; rfl⟩⟩
theorem yP (a : Nat) (K : Int) (T : List UInt8) (h : K ≠ 2) : (Lx.yo a K T).int = 0 := by simp [Lx.yo, h]
theorem gP (r : List UInt8) (o m : Nat) : (18 < m \/ Lx.J8 (Lx.Jj r (o + m)) = true) /\ Lx.num r o m = (0, 0) \/ (¬ 18 < m /\ Lx.J8 (Lx.Jj r (o + m)) = false) /\ Lx.num r o m = (2, o + m) := by
 unfold Lx.num; by_cases h : 18 < m
 . left; exact ⟨.inl h, by simp [h]⟩
 . cases hw : Lx.J8 (Lx.Jj r (o + m))
   . right; exact ⟨⟨h, rfl⟩, by simp [h]⟩
   . left; exact ⟨.inr rfl, by simp⟩
theorem rE (l : List UInt8) (a : Nat) (w : World) (ha : a < l.length) (hm : l.length <= 1000000) :
 Calls Tryd.prog 40 #[.string ⟨l.toArray⟩, .int .i64 a] w (Gl l a w) := by
 have hte := Lx.mY l a; by_cases h45 : (Lx.Jj l a).toNat = 45
 . rw [if_pos h45] at hte
   have iD : Lx.one (Lx.Jj l a) = (5, 1) := by
    rw [vS _ 45 h45]; rfl
   by_cases h1 : a + 1 < l.length
   . by_cases OA : (Lx.Jj l (a + 1)).toNat = 62
     . rw [if_pos OA] at hte; exact zu 5 2 0 hte (by omega) (yP _ _ _ (by omega)) (Fq l a w ha hm h1 h45 OA)
     . rw [if_neg OA] at hte; cases hd : Lx.jQ (Lx.Jj l (a + 1))
       . rw [if_neg (by simp [hd]), iD] at hte; exact zu 5 1 0 hte (by omega) (yP _ _ _ (by omega)) (Hg l a w ha hm h45 h1 OA hd)
       . rw [if_pos hd] at hte; have hat : Lx.Jj (l.drop a) (1 + Lx.cnt Lx.jQ (l.drop (a + 1))) = Lx.Jj l (a + 1 + Lx.cnt Lx.jQ (l.drop (a + 1))) := by rw [Lx.zP, <- Nat.add_assoc]
         rcases gP (l.drop a) 1 (Lx.cnt Lx.jQ (l.drop (a + 1))) with ⟨hb, he⟩ | ⟨⟨h18, hw⟩, he⟩
         . rw [hat] at hb; rw [he] at hte; exact K7 (by rw [hte]) (KO l a w ha hm h1 h45 hd hb)
         . rw [hat] at hw; rw [he] at hte; refine zu 2 _ _ hte (by omega) ?_ (K6 l a w ha hm h1 h45 hd h18 hw)
           have e : (l.drop a).take (1 + Lx.cnt Lx.jQ (l.drop (a + 1))) = Lx.Jj l a :: (l.drop (a + 1)).take (Lx.cnt Lx.jQ (l.drop (a + 1))) := by
            rw [Lx.drop_at l a ha, Em, Zo]
           rw [e]; show (if (2 : Int) = 2 then Lx.Gd _ else 0) = _; rw [if_pos rfl, Lx.Gd, if_pos (by simpa [Lx.Jj] using h45)]; rfl
   . have h0 : Lx.Jj l (a + 1) = 0 := Lx.ui l _ (by omega); rw [h0, if_neg (by decide), if_neg (by decide), iD] at hte; exact zu 5 1 0 hte (by omega) (yP _ _ _ (by omega)) (Gj l a w ha hm h45 h1)
 . rw [if_neg h45] at hte; cases hd : Lx.jQ (Lx.Jj l a)
   . rw [if_neg (by simp [hd])] at hte; cases hs : Lx.ql (Lx.Jj l a)
     . rw [if_neg (by simp [hs])] at hte; cases hg : Lx.QP (Lx.Jj l a)
       . rw [if_neg (by simp [hg])] at hte; by_cases Et : (Lx.Jj l a).toNat = 40
         . have e : Lx.one (Lx.Jj l a) = (0, 1) := by rw [vS _ 40 Et]; rfl
           rw [e] at hte; exact zu 0 1 0 hte (by omega) (yP _ _ _ (by omega)) (MM l a w ha hm Et)
         . by_cases CU : (Lx.Jj l a).toNat = 41
           . have e : Lx.one (Lx.Jj l a) = (1, 1) := by rw [vS _ 41 CU]; rfl
             rw [e] at hte; exact zu 1 1 0 hte (by omega) (yP _ _ _ (by omega)) (MN l a w ha hm CU)
           . cases hy : Q3 (Lx.Jj l a) W9
             . have hx : ¬ _ := fun h => by rw [(um (Lx.Jj l a)).2 h] at hy; exact absurd hy (by decide)
               have e : Lx.one (Lx.Jj l a) = (0, 0) := by
                unfold Lx.one Lx.single; rw [if_neg Et, if_neg CU, if_neg hx]; rfl
               rw [e] at hte; exact K7 (by rw [hte]) (MQ l a w ha hm Et CU h45 hd hs hg hy)
             . have e : Lx.one (Lx.Jj l a) = (5, 1) := by
                unfold Lx.one Lx.single; rw [if_neg Et, if_neg CU, if_pos ((um _).1 hy)]; rfl
               rw [e] at hte; exact zu 5 1 0 hte (by omega) (yP _ _ _ (by omega)) (rD l a w ha hm hy h45)
       . rw [if_pos hg] at hte; have hc : Lx.cnt Lx.J8 (l.drop a) = Lx.cnt Lx.J8 (l.drop (a + 1)) + 1 := (Lx.uj Lx.J8 l a Lx.R3 (by unfold Lx.J8; rw [hg]; simp)).2; rw [<- hc] at hte; exact zu 4 _ 0 hte (by omega) (yP _ _ _ (by omega)) (Fu l a w ha hm hg)
     . rw [if_pos hs] at hte; have hc : Lx.cnt Lx.J8 (l.drop a) = Lx.cnt Lx.J8 (l.drop (a + 1)) + 1 := (Lx.uj Lx.J8 l a Lx.R3 (by unfold Lx.J8; rw [hs]; simp)).2; rw [<- hc] at hte; exact zu 3 _ 0 hte (by omega) (yP _ _ _ (by omega)) (Fs l a w ha hm hs)
   . rw [if_pos hd] at hte; have hat : Lx.Jj (l.drop a) (0 + Lx.cnt Lx.jQ (l.drop a)) = Lx.Jj l (a + Lx.cnt Lx.jQ (l.drop a)) := by rw [Lx.zP, JN]
     rcases gP (l.drop a) 0 (Lx.cnt Lx.jQ (l.drop a)) with ⟨hb, he⟩ | ⟨⟨h18, hw⟩, he⟩
     . rw [hat] at hb; rw [he] at hte; exact K7 (by rw [hte]) (KN l a w ha hm hd hb)
     . rw [hat] at hw; rw [he, JN] at hte; have hp := (Lx.uj Lx.jQ l a Lx.SH hd).2; refine zu 2 _ _ hte (by omega) ?_ (K5 l a w ha hm hd h18 hw); show (if (2 : Int) = 2 then Lx.Gd _ else 0) = _; rw [if_pos rfl, Lx.Gd, if_neg]; rw [Lx.Wl _ _ _ (by omega), Lx.zP]
       simpa using h45
end Go.Proofs.YtlnjdclmopblcaaDoor
namespace Go.Proofs.YtlnjdclmopblcaaDoor
open Go.Lib (hid)
open Go Go.RowKit
def Sj (l : List UInt8) (ts : List Lx.Tok) (p c : Int) : Prop :=
 (4096 < l.length /\ ts = [] /\ p = 4096 /\ c = 2) \/ (l.length <= 4096 /\ (∃ q, (Lx.toks (l.length + 1) 0 l).2 = some q /\ ts = [] /\ p = q /\ c = 2)) \/ (l.length <= 4096 /\ (Lx.toks (l.length + 1) 0 l) = (ts, none) /\ p = -1 /\ c = 0)
theorem kM (l : List UInt8) (i : Int) (w : World) (h : 0 <= i) (ha : i <= l.length) (hm : l.length <= 1000000) :
 Calls Tryd.prog 39 #[.string ⟨l.toArray⟩, .int .i64 i] w fun e w' => e = .returned (.int .i64 ((i.toNat + Lx.JD false (l.drop i.toNat) : Nat) : Int)) /\ w = w' := by
 obtain ⟨k, rfl⟩ := Int.eq_ofNat_of_zero_le h; rw [Int.toNat_natCast]; exact Ha l k w (by omega) hm
def Sk (l : List UInt8) (w : World) (e : Ending) (w' : World) : Prop :=
 ∃ (v : Value) (ts : List Lx.Tok) (p c : Int), e = .returned (.tuple #[v, .int .i64 p]) /\ Below w.heap.size w w' /\ w'.ownsRow w.heap.size 70 4 v ts.length (Qo ts) /\ Sj l ts p c
theorem Xp (l : List UInt8) (w : World) (hm : l.length <= 1000000) :
 Calls Tryd.prog 23 #[.string ⟨l.toArray⟩] w (Sk l w) := by
 go_enter Tryd.func23, Tryd.ntmps23; by_cases hlong : 4096 < l.length
 . have hl : (4096 : Int) < (l.length : Int) := by omega
   go_wp2_with fail; go_ret2; exact ⟨_, [], 4096, 2, rfl, jD _ _, jo _ _ _ _, .inl ⟨hlong, rfl, rfl, rfl⟩⟩
 . have hl : ¬ (4096 : Int) < (l.length : Int) := by omega
   have jDQ := hid (FQ l); go_wp2_with fail; refine (kM l 0 _ (by omega) (by omega) hm).mono ?_; rintro e w1 ⟨rfl, rfl⟩
   have h00 : (0 : Int).toNat = 0 := rfl; rw [h00, JN]; clear h00; go_wp2_with fail
   go_loopw [4, 5] (fun v i wr => ∃ (E A : Nat) (done : List Lx.Tok), i = .int .i64 A /\ Hid (E + Lx.JD false (l.drop E) = A) /\ Hid (o7 l done E) /\ E <= l.length /\ done.length <= E /\ Below w.heap.size w wr /\ Hid (wr.ownsRow w.heap.size 70 4 v done.length (Qo done))) (fun _ i _ => l.length - (intOf i).toNat)
   case atStart => exact ⟨0, _, [], rfl, hid (by rw [List.drop_zero, JN]), jDQ, by omega, by simp, jD _ _, hid (jo _ _ _ _)⟩
   case round =>
    obtain ⟨E, A, done, rfl, hA, hR, hE, hd, hb, ho⟩ := hrel; obtain ⟨jHI, jHJ, hend, hbad, hmore⟩ := Ps hR hE hA; have HB := hid hb; have hsz := hb.size; have Fw := hid hend; have HBAD := hid hbad; have iE := hid hmore
    clear hb hend hbad hmore; by_cases hlt : A < l.length
    . go_wp2_with fail; refine (rE l A _ hlt hm).mono ?_; rintro e w2 ⟨hb2, ⟨h0, k, p, s, i, rfl⟩ | ⟨h0, t, ht, rfl⟩⟩
      . have HB2 := hid (HB.out.trans (hb2.mono hsz)); have hs2 := HB2.out.size; have MR := hid (HBAD.out hlt h0); clear hb2 h0; go_wp2_with fail; go_ret2; exact ⟨_, [], A, 2, rfl, HB2.out.alloc hs2 _, jo _ _ _ _, .inr (.inl ⟨by omega, A, MR.out, rfl, rfl, rfl⟩)⟩
      . have hown2 := jc ho hb2; have HB2 := hid (HB.out.trans (hb2.mono hsz)); have hs2 := HB2.out.size; have hmore := iE.out hlt h0; have hle := Lx.Wj (l.drop A); rw [ja] at hle; have hlen : t.text.length = (Lx.Jp (l.drop A)).2 := by rw [ht]; show ((l.drop A).take _).length = _; rw [Jh, ja]; omega
        rw [<- ht, <- hlen] at hmore; have hpos : t.pos = A := by rw [ht]; rfl
        have hlt1 : 0 < t.text.length := by omega
        have hle1 : A + t.text.length <= l.length := by omega
        obtain ⟨i0, hi, hz0, hz1, hz2⟩ := QL SI; have HI1 := hid hz1; have HI2 := hid hz2; have HI0 := hid hz0; have HI := hid hi
        have MS := hid hown2; have HM := hid hmore
        have hdl : done.length <= 4096 := by omega
        clear hi hz0 hz1 hz2 hb2 hown2 h0 hmore hle hlen ht hpos; go_wp2_with (at_builtin; refine wpList_append_own _ rfl (.tmp 26) (.tmp 28) 66 rfl w.heap.size 70 i0 (.agg #[.int .i64 0, .int .i64 0, .string ⟨#[]⟩, .int .i64 0]) 4 40 Tryd.underlying66 HI.out HI0.out HI1.out HI2.out rfl (by decide) _ done.length _ rfl ((MS.out.alloc _).alloc _) ⟨w2.heap.size + 1, 0, none⟩ 1 1 [.int .i64 t.kind, .int .i64 t.pos, .string ⟨t.text.toArray⟩, .int .i64 t.int] rfl rfl ?c1 ?c2 ?c3 ?c4 ?c5 ?_)
        case c1 =>
         intro j u h; have h' := Pt (w2.alloc (.cells #[.int .i64 t.kind, .int .i64 t.pos, .string ⟨t.text.toArray⟩, .int .i64 t.int] 70)) _ _ _ _ 70 j u h; rw [show (w2.alloc (.cells #[.int .i64 t.kind, .int .i64 t.pos, .string ⟨t.text.toArray⟩, .int .i64 t.int] 70)).heap.size = w2.heap.size + 1 by simp] at h'; exact h'
        case c2 => exact ma _ _ _ _
        case c3 => unfold maxLen; omega
        case c4 => omega
        case c5 => simp; omega
        intro v' w3 hown3 hgr _
        have c0 : ((w2.alloc (.cells #[.int .i64 t.kind, .int .i64 t.pos, .string ⟨t.text.toArray⟩, .int .i64 t.int] 70)).alloc (.cells #[.int .i64 t.kind, .int .i64 t.pos, .string ⟨t.text.toArray⟩, .int .i64 t.int] 70)).cell? ⟨w2.heap.size, 2, none⟩ = some (.string ⟨t.text.toArray⟩) := by
         rw [World.cell?_alloc_past _ _ _ (by simp), jT]; rfl
        have c2 := hgr.cell c0 (by intro e; have := (MS.out.lt w2.heap.size e.symm).2; simp at this); have hB3 := ((HB2.out.alloc hs2 (.cells #[.int .i64 t.kind, .int .i64 t.pos, .string ⟨t.text.toArray⟩, .int .i64 t.int] 70)).alloc (by simp; omega) (.cells #[.int .i64 t.kind, .int .i64 t.pos, .string ⟨t.text.toArray⟩, .int .i64 t.int] 70)).grown hgr (by simp; omega) (fun kk hkk => (MS.out.lt kk hkk).1); have hcs : Qo done ++ [.int .i64 t.kind, .int .i64 t.pos, .string ⟨t.text.toArray⟩, .int .i64 t.int] = Qo (done ++ [t]) := by simp [Qo, Zq]
        rw [hcs] at hown3; have HB3 := hid hB3; have yQ := hid hown3
        clear hgr hB3 hown3 c0 hcs; go_wp2_with fail; refine (kM l _ _ (by omega) (by omega) hm).mono ?_; rintro e w4 ⟨rfl, rfl⟩
        have hto : ((A : Int) + (t.text.length : Int)).toNat = A + t.text.length := by omega
        rw [hto]; have hsl := Lx.Yp false (l.drop (A + t.text.length)); rw [ja] at hsl; generalize hA' : A + t.text.length + Lx.JD false (l.drop (A + t.text.length)) = A'; have jDR : A < A' := by omega
        have jDS : A' <= l.length := by omega
        have jDT := hid hA'; clear hto hsl hA'; go_wp2_with fail
        go_roundw
        case rel => exact ⟨A + t.text.length, A', done ++ [t], rfl, jDT, HM, hle1, by rw [jE, zF]; omega, HB3.out, hid (by rw [jE]; exact yQ.out)⟩
        case measure => simp [intOf]; omega
    . obtain rfl : A = l.length := by omega
      have jDU := hid (Fw.out rfl); go_wp2_with fail; go_ret2; exact ⟨_, done, -1, 0, rfl, HB.out, ho.out, .inr (.inr ⟨by omega, jDU.out, rfl, rfl⟩)⟩
end Go.Proofs.YtlnjdclmopblcaaDoor
