/-
  Several texts in one: Skip, Read, Shelf, Token, Tokens, Own, Laid, Src, ShelfI, PRep.
-/
import Derived.Test.YtnhndamfbeiljaaGreatDoorT00
import Derived.Test.YtnhndamfbeiljaaGreatDoorT02
import Derived.Test.YtnhndamfbeiljaaGreatDoorT01
import Derived.Shelf.LaysM
import Derived.Shelf.Strconv.Itoa4
import Derived.Shelf.LaysC
import Derived.Shelf.Strconv.ParseIntPublic10
import Derived.Test.YtnhndamfbeiljaaGreatDoorProg
import Derived.Lib.ConvBytes
import Derived.Test.YtnhndamfbeiljaaGreatDoorCards
import Derived.Test.YtnhndamfbeiljaaGreatDoorTie
import Derived.WalkKit
import Derived.ProofKit
import Derived.OpenShut
import Derived.ShutString
import Derived.ChangeOld
import Derived.Deep.DeepHandedRow
import Derived.Deep.DeepWitnessRowRef
import Derived.Lib.LaidTab
import Derived.Laws.AppendOwnNone
import Derived.Below
set_option linter.unusedVariables false
set_option linter.unusedSimpArgs false
set_option maxHeartbeats 4000000
set_option maxRecDepth 100000
namespace Go.Proofs.YtnhndamfbeiljaaGreatDoor
open Go Go.RowKit
open Go.Lib (hid)
open List renaming getElem_toArray → jR, getElem_cons_succ → jR0, getElem_cons_zero → jR1, setIfInBounds_toArray → jR2, set_cons_zero → jR3, set_cons_succ → jR4
def SkJ (l : List UInt8) (b off cap tgt : Nat) (w0 : World) (lab : Nat) (a : Act) (w : World) : Prop :=
 w = w0 /\ ∃ (k : Nat) (u5 u6 u7 u8 u9 u10 u11 u12 u13 u14 u15 u16 u17 u18 u19 u20 u21 u22 u23 u24 u25 u26 u27 u28 : Value), a = { tmps := #[.slice (some ⟨b, off, none⟩) l.length cap, .int .i64 k, undef, undef, .int .i64 0, u5, u6, u7, u8, u9, u10, u11, u12, u13, u14, u15, u16, u17, u18, u19, u20, u21, u22, u23, u24, u25, u26, u27, u28], defers := [] } /\
  k <= l.length /\ ((lab = 0 /\ k + Lx.skipC false (l.drop k) = tgt) \/ (lab = 1 /\ k + Lx.skipC true (l.drop k) = tgt))
theorem skip_some (l : List UInt8) (i : Nat) (b off cap : Nat) (w : World) (hi : i <= l.length) (hm : (l.length : Int) <= 9223372036854775806)
 (hc : ∀ j, j < l.length -> w.cell? ⟨b, off + j, none⟩ = some (.int .u8 (Lx.at0 l j).toNat)) :
 Calls Tryz.prog 82 #[.slice (some ⟨b, off, none⟩) l.length cap, .int .i64 i] w fun e w' => e = .returned (.int .i64 ((i + Lx.skipC false (l.drop i) : Nat) : Int)) /\ w = w' := by
 have Hc := hid hc; clear hc
 go_enter Tryz.func82, Tryz.ntmps82; go_wp2; refine jFO 0 (SkJ l b off cap (i + Lx.skipC false (l.drop i)) w) (fun lab a _ => 2 * (l.length - (intOf (a.tmps.getD 1 undef)).toNat) + lab) ?_ ?_ ?_
 . exact ⟨rfl, i, _, _, _, _, _, _, _, _, _, _, _, _, _, _, _, _, _, _, _, _, _, _, _, _, rfl, hi, .inl ⟨rfl, rfl⟩⟩
 . rintro a w' ⟨rfl, k, u5, u6, u7, u8, u9, u10, u11, u12, u13, u14, u15, u16, u17, u18, u19, u20, u21, u22, u23, u24, u25, u26, u27, u28, rfl, hk, h⟩; have ht : k + Lx.skipC false (l.drop k) = i + Lx.skipC false (l.drop i) := by omega
   clear h; cases hb : Lx.jCA (Lx.at0 l k)
   . by_cases hs : (Lx.at0 l k).toNat = 59
     . obtain ⟨hkl, he⟩ := Lx.jPM l k hs; have hck := Hc.out k hkl; have ht' : (k + 1) + Lx.skipC true (l.drop (k + 1)) = i + Lx.skipC false (l.drop i) := by omega
       generalize i + Lx.skipC false (l.drop i) = T at *; have Hb := hid hb; have Ht := hid ht'; clear hb ht he ht'
       have h1 : (((Lx.at0 l k).toNat : Int) != 59) = false := by simp [hs]
       have h2 : (((Lx.at0 l k).toNat : Int) != 10) = true := by simp [hs]
       have Hs := hid hs; clear hs
       go_wp2_with fail; refine (jB7 l k b off cap _ (by omega) (by omega) (by omega) Hc.out).mono ?_; rintro e w1 ⟨rfl, rfl⟩; rw [Int.toNat_natCast]
       go_wp2_with fail; refine (jEW _ _).mono ?_; rintro e w1 ⟨rfl, rfl⟩; rw [Hb.out]
       go_wp2_with fail; refine (jB7 l k b off cap _ (by omega) (by omega) (by omega) Hc.out).mono ?_; rintro e w1 ⟨rfl, rfl⟩; rw [Int.toNat_natCast]
       go_wp2_with fail
       go_step3
       go_wp2
       go_step3
       exact ⟨⟨rfl, k + 1, _, _, _, _, _, _, _, _, _, _, _, _, _, _, _, _, _, _, _, _, _, _, _, _, rfl, by omega, .inr ⟨rfl, Ht.out⟩⟩, by simp [intOf]; omega⟩
     . have he := Lx.jMA l k hb hs; have Ht := hid (show i + Lx.skipC false (l.drop i) = k by omega); clear ht he
       have h1 : (((Lx.at0 l k).toNat : Int) != 59) = true := by simp; omega
       have Hb := hid hb; clear hb hs
       rw [Ht.out]; go_wp2_with fail; refine (jB7 l k b off cap _ (by omega) (by omega) (by omega) Hc.out).mono ?_; rintro e w1 ⟨rfl, rfl⟩; rw [Int.toNat_natCast]
       go_wp2_with fail; refine (jEW _ _).mono ?_; rintro e w1 ⟨rfl, rfl⟩; rw [Hb.out]
       go_wp2_with fail; refine (jB7 l k b off cap _ (by omega) (by omega) (by omega) Hc.out).mono ?_; rintro e w1 ⟨rfl, rfl⟩; rw [Int.toNat_natCast]
       go_wp2_with fail; rw [Exit.jumps_ret]; go_ret; exact ⟨by rw [Ht.out]; rfl, rfl⟩
   . obtain ⟨hkl, he⟩ := Lx.jNS l k hb; have ht' : (k + 1) + Lx.skipC false (l.drop (k + 1)) = i + Lx.skipC false (l.drop i) := by omega
     generalize i + Lx.skipC false (l.drop i) = T at *; have Hb := hid hb; have Ht := hid ht'; clear hb ht he ht'
     go_wp2_with fail; refine (jB7 l k b off cap _ (by omega) (by omega) (by omega) Hc.out).mono ?_; rintro e w1 ⟨rfl, rfl⟩; rw [Int.toNat_natCast]
     go_wp2_with fail; refine (jEW _ _).mono ?_; rintro e w1 ⟨rfl, rfl⟩; rw [Hb.out]
     go_wp2_with fail
     go_step3
     exact ⟨⟨rfl, k + 1, _, _, _, _, _, _, _, _, _, _, _, _, _, _, _, _, _, _, _, _, _, _, _, _, rfl, by omega, .inl ⟨rfl, Ht.out⟩⟩, by simp [intOf]; omega⟩
 . rintro lab a w' hlab ⟨rfl, k, u5, u6, u7, u8, u9, u10, u11, u12, u13, u14, u15, u16, u17, u18, u19, u20, u21, u22, u23, u24, u25, u26, u27, u28, rfl, hk, h⟩; obtain ⟨rfl, ht⟩ : lab = 1 /\ k + Lx.skipC true (l.drop k) = i + Lx.skipC false (l.drop i) := by omega
   refine ⟨_, rfl, ?_⟩; clear h; by_cases hkl : k < l.length
   . have hck := Hc.out k hkl; by_cases hs : (Lx.at0 l k).toNat = 10
     . have he := Lx.jK2 l k (fun _ => hs); rw [he] at ht; clear he
       generalize i + Lx.skipC false (l.drop i) = T at *; have h1 : (((Lx.at0 l k).toNat : Int) != 10) = false := by simp [hs]
       have Ht := hid ht; clear ht hs
       go_wp2
       go_step3
       exact ⟨⟨rfl, k, _, _, _, _, _, _, _, _, _, _, _, _, _, _, _, _, _, _, _, _, _, _, _, _, rfl, by omega, .inl ⟨rfl, Ht.out⟩⟩, by simp [intOf]⟩
     . have he := Lx.jPN l k hkl hs; have ht' : (k + 1) + Lx.skipC true (l.drop (k + 1)) = i + Lx.skipC false (l.drop i) := by omega
       clear ht he; generalize i + Lx.skipC false (l.drop i) = T at *; have h1 : (((Lx.at0 l k).toNat : Int) != 10) = true := by simp; omega
       have Ht := hid ht'; clear ht' hs
       go_wp2
       go_step3
       exact ⟨⟨rfl, k + 1, _, _, _, _, _, _, _, _, _, _, _, _, _, _, _, _, _, _, _, _, _, _, _, _, rfl, by omega, .inr ⟨rfl, Ht.out⟩⟩, by simp [intOf]; omega⟩
   . have he := Lx.jK2 l k (fun h => absurd h hkl); rw [he] at ht; clear he
     generalize i + Lx.skipC false (l.drop i) = T at *; have Ht := hid ht; clear ht
     go_wp2
     go_step3
     exact ⟨⟨rfl, k, _, _, _, _, _, _, _, _, _, _, _, _, _, _, _, _, _, _, _, _, _, _, _, _, rfl, by omega, .inl ⟨rfl, Ht.out⟩⟩, by simp [intOf]⟩
theorem skip_none (p : Option Addr) (cap : Nat) (w : World) :
 Calls Tryz.prog 82 #[.slice p 0 cap, .int .i64 0] w fun e w' => e = .returned (.int .i64 0) /\ w = w' := by
 go_enter Tryz.func82, Tryz.ntmps82; go_wp2; refine jFO 0 (fun lab a w' => lab = 0 /\ w' = w /\ a = { tmps := #[.slice p 0 cap, .int .i64 0, undef, undef, .int .i64 0, undef, undef, undef, undef, undef, undef, undef, undef, undef, undef, undef, undef, undef, undef, undef, undef, undef, undef, undef, undef, undef, undef, undef, undef], defers := [] }) (fun lab _ _ => lab) ⟨rfl, rfl, rfl⟩ ?_ ?_
 . rintro a w' ⟨_, rfl, rfl⟩; go_wp2_with fail; refine (jGN [] p 0 0 cap _ (by omega) rfl (by omega)).mono ?_; rintro e w1 ⟨rfl, rfl⟩
   go_wp2_with fail; refine (jEW _ _).mono ?_; rintro e w1 ⟨rfl, rfl⟩; rw [show Lx.jCA (Lx.at0 [] 0) = false from by decide]
   go_wp2_with fail; refine (jGN [] p 0 0 cap _ (by omega) rfl (by omega)).mono ?_; rintro e w1 ⟨rfl, rfl⟩
   have h1 : (((Lx.at0 [] 0).toNat : Int) != 59) = true := by decide
   go_wp2_with fail; rw [Exit.jumps_ret]; go_ret; exact ⟨rfl, rfl⟩
 . rintro lab a w' hlab ⟨h, _⟩; exact absurd h hlab
def RdJ (l : List UInt8) (b off cap i : Nat) (w0 : World) (lab : Nat) (a : Act) (w : World) : Prop :=
 w = w0 /\ ∃ (K : Int) (E D : Nat) (u7 u8 u9 u10 u11 u12 u13 u14 u15 u16 u17 u18 u19 u20 u21 u22 u23 u24 u25 u26 u27 u28 u29 u30 u31 u32 u33 u34 u35 u36 u37 u38 u39 u40 u41 u42 u43 u44 u45 u46 u47 u48 u49 u50 u51 u52 u53 u54 u55 u56 u57 u58 u59 u60 u61 u62 u63 u64 u65 u66 u67 u68 u69 u70 u71 u72 u73 : Value), a = { tmps := #[.slice (some ⟨b, off, none⟩) l.length cap, .int .i64 i, undef, undef, .int .i64 K, .int .i64 E, .int .i64 D, u7, u8, u9, u10, u11, u12, u13, u14, u15, u16, u17, u18, u19, u20, u21, u22, u23, u24, u25, u26, u27, u28, u29, u30, u31, u32, u33, u34, u35, u36, u37, u38, u39, u40, u41, u42, u43, u44, u45, u46, u47, u48, u49, u50, u51, u52, u53, u54, u55, u56, u57, u58, u59, u60, u61, u62, u63, u64, u65, u66, u67, u68, u69, u70, u71, u72, u73], defers := [] } /\
  i < E /\ E <= l.length /\ Lx.RdR l i lab K E D
def jFU (lab : Nat) : Nat := if lab = 0 then 7 else if lab = 1 then 6 else if lab = 2 then 6 else if lab = 3 then 3 else 0
theorem jL2 {a a' b b' : Int} (h : a = a') (h' : b = b') : Ending.returned (.tuple #[.int .i64 a, .int .i64 b]) = .returned (.tuple #[.int .i64 a', .int .i64 b']) := by rw [h, h']
theorem jK7 (l : List UInt8) (i : Nat) (b off cap : Nat) (w : World) (hi : i < l.length) (hm : (l.length : Int) <= 9223372036854775800)
 (hc : ∀ j, j < l.length -> w.cell? ⟨b, off + j, none⟩ = some (.int .u8 (Lx.at0 l j).toNat)) :
 Calls Tryz.prog 83 #[.slice (some ⟨b, off, none⟩) l.length cap, .int .i64 i] w fun e w' => e = .returned (.tuple #[.int .i64 (Lx.jAK (l.drop i)).1, .int .i64 ((i + (Lx.jAK (l.drop i)).2 : Nat) : Int)]) /\ w = w' := by
 have hci := hc i hi; have Hc := hid hc; clear hc
 go_enter Tryz.func83, Tryz.ntmps83; go_wp2; refine jE2 (RdJ l b off cap i w) (fun lab a _ => 8 * (l.length - (intOf (a.tmps.getD 5 undef)).toNat) + jFU lab) ?_ ?_
 . by_cases h45 : (Lx.at0 l i).toNat = 45
   . have Hr := hid (Lx.rd_minus (K := 0) h45); have h1 : (((Lx.at0 l i).toNat : Int) == 45) = true := by simp [h45]
     clear h45; go_wp2_with fail
     go_step3
     exact ⟨rfl, 0, (i + 1), i, _, _, _, _, _, _, _, _, _, _, _, _, _, _, _, _, _, _, _, _, _, _, _, _, _, _, _, _, _, _, _, _, _, _, _, _, _, _, _, _, _, _, _, _, _, _, _, _, _, _, _, _, _, _, _, _, _, _, _, _, _, _, _, _, _, _, _, rfl, by omega, by omega, Hr.out⟩
   . have h1 : (((Lx.at0 l i).toNat : Int) == 45) = false := by simp; omega
     cases hd : Lx.jA8 (Lx.at0 l i)
     . cases hs : Lx.jCH (Lx.at0 l i)
       . cases hg : Lx.jCV (Lx.at0 l i)
         . have Hr := hid (Lx.rd_other (K := 0) (D := i) h45 hd hs hg); have Hd := hid hd; have Hs := hid hs; have Hg := hid hg; clear hd hs hg h45
           go_wp2_with fail; refine (jBS _ _).mono ?_; rintro e w1 ⟨rfl, rfl⟩; rw [Hd.out]
           go_wp2_with fail; refine (jEU _ _).mono ?_; rintro e w1 ⟨rfl, rfl⟩; rw [Hs.out]
           go_wp2_with fail; refine (jFY _ _).mono ?_; rintro e w1 ⟨rfl, rfl⟩; rw [Hg.out]
           go_wp2_with fail
           go_step3
           exact ⟨rfl, 0, (i + 1), i, _, _, _, _, _, _, _, _, _, _, _, _, _, _, _, _, _, _, _, _, _, _, _, _, _, _, _, _, _, _, _, _, _, _, _, _, _, _, _, _, _, _, _, _, _, _, _, _, _, _, _, _, _, _, _, _, _, _, _, _, _, _, _, _, _, _, _, rfl, by omega, by omega, Hr.out⟩
         . have Hr := hid (Lx.rd_great (D := i) h45 hd hs hg); have Hd := hid hd; have Hs := hid hs; have Hg := hid hg; clear hd hs hg h45
           go_wp2_with fail; refine (jBS _ _).mono ?_; rintro e w1 ⟨rfl, rfl⟩; rw [Hd.out]
           go_wp2_with fail; refine (jEU _ _).mono ?_; rintro e w1 ⟨rfl, rfl⟩; rw [Hs.out]
           go_wp2_with fail; refine (jFY _ _).mono ?_; rintro e w1 ⟨rfl, rfl⟩; rw [Hg.out]
           go_wp2_with fail
           go_step3
           exact ⟨rfl, 4, (i + 1), i, _, _, _, _, _, _, _, _, _, _, _, _, _, _, _, _, _, _, _, _, _, _, _, _, _, _, _, _, _, _, _, _, _, _, _, _, _, _, _, _, _, _, _, _, _, _, _, _, _, _, _, _, _, _, _, _, _, _, _, _, _, _, _, _, _, _, _, rfl, by omega, by omega, Hr.out⟩
       . have Hr := hid (Lx.rd_small (D := i) h45 hd hs); have Hd := hid hd; have Hs := hid hs; clear hd hs h45
         go_wp2_with fail; refine (jBS _ _).mono ?_; rintro e w1 ⟨rfl, rfl⟩; rw [Hd.out]
         go_wp2_with fail; refine (jEU _ _).mono ?_; rintro e w1 ⟨rfl, rfl⟩; rw [Hs.out]
         go_wp2_with fail
         go_step3
         exact ⟨rfl, 3, (i + 1), i, _, _, _, _, _, _, _, _, _, _, _, _, _, _, _, _, _, _, _, _, _, _, _, _, _, _, _, _, _, _, _, _, _, _, _, _, _, _, _, _, _, _, _, _, _, _, _, _, _, _, _, _, _, _, _, _, _, _, _, _, _, _, _, _, _, _, _, rfl, by omega, by omega, Hr.out⟩
     . have Hr := hid (Lx.rd_digit (K := 0) h45 hd); have Hd := hid hd; clear hd h45
       go_wp2_with fail; refine (jBS _ _).mono ?_; rintro e w1 ⟨rfl, rfl⟩; rw [Hd.out]
       go_wp2_with fail
       go_step3
       exact ⟨rfl, 0, (i + 1), i, _, _, _, _, _, _, _, _, _, _, _, _, _, _, _, _, _, _, _, _, _, _, _, _, _, _, _, _, _, _, _, _, _, _, _, _, _, _, _, _, _, _, _, _, _, _, _, _, _, _, _, _, _, _, _, _, _, _, _, _, _, _, _, _, _, _, _, rfl, by omega, by omega, Hr.out⟩
 . rintro lab a w' ⟨rfl, K, E, D, u7, u8, u9, u10, u11, u12, u13, u14, u15, u16, u17, u18, u19, u20, u21, u22, u23, u24, u25, u26, u27, u28, u29, u30, u31, u32, u33, u34, u35, u36, u37, u38, u39, u40, u41, u42, u43, u44, u45, u46, u47, u48, u49, u50, u51, u52, u53, u54, u55, u56, u57, u58, u59, u60, u61, u62, u63, u64, u65, u66, u67, u68, u69, u70, u71, u72, u73, rfl, hE, hEl, h⟩
   rcases h.lab_le with rfl | rfl | rfl | rfl | rfl
   . refine ⟨_, rfl, ?_⟩; obtain ⟨hE1, hD, h45⟩ := h.of0; clear h hD; by_cases hgt : (Lx.at0 l E).toNat = 62
     . obtain ⟨ht, hEl'⟩ := Lx.jPZ hE1 h45 hgt; have Hr := hid ht; have HE := hid hE1
       have h1 : (((Lx.at0 l E).toNat : Int) == 62) = true := by simp [hgt]
       clear ht hE1 hgt h45; go_wp2_with fail; refine (jB7 l E b off cap _ (by omega) (by omega) (by omega) Hc.out).mono ?_; rintro e w1 ⟨rfl, rfl⟩; rw [Int.toNat_natCast]
       go_wp2_with fail; rw [Exit.jumps_ret]; go_ret2; exact ⟨by rw [Hr.out, HE.out]; exact jL2 rfl (by simp only []; omega), rfl⟩
     . have h1 : (((Lx.at0 l E).toNat : Int) == 62) = false := by simp; omega
       cases hdd : Lx.jA8 (Lx.at0 l E)
       . have Hr := hid (Lx.rd_lone' (K := K) (D := D) hE1 h45 hgt hdd); have Hdd := hid hdd; clear hE1 h45 hgt hdd; go_wp2_with fail; refine (jB7 l E b off cap _ (by omega) (by omega) (by omega) Hc.out).mono ?_; rintro e w1 ⟨rfl, rfl⟩; rw [Int.toNat_natCast]
         go_wp2_with fail; refine (jB7 l E b off cap _ (by omega) (by omega) (by omega) Hc.out).mono ?_; rintro e w1 ⟨rfl, rfl⟩; rw [Int.toNat_natCast]
         go_wp2_with fail; refine (jBS _ _).mono ?_; rintro e w1 ⟨rfl, rfl⟩; rw [Hdd.out]
         go_wp2_with fail
         go_step3
         exact ⟨⟨rfl, K, E, D, _, _, _, _, _, _, _, _, _, _, _, _, _, _, _, _, _, _, _, _, _, _, _, _, _, _, _, _, _, _, _, _, _, _, _, _, _, _, _, _, _, _, _, _, _, _, _, _, _, _, _, _, _, _, _, _, _, _, _, _, _, _, _, _, _, _, _, rfl, by omega, by omega, Hr.out⟩, by simp [intOf, jFU] <;> omega⟩
       . obtain ⟨hk, h'⟩ := Lx.jOZ (Lx.rd_neg' (K := K) hE1 h45 hgt hdd) hdd; have Hdd := hid hdd; have Hr := hid h'; clear hE1 h45 hgt hdd h'; go_wp2_with fail; refine (jB7 l E b off cap _ (by omega) (by omega) (by omega) Hc.out).mono ?_; rintro e w1 ⟨rfl, rfl⟩; rw [Int.toNat_natCast]
         go_wp2_with fail; refine (jB7 l E b off cap _ (by omega) (by omega) (by omega) Hc.out).mono ?_; rintro e w1 ⟨rfl, rfl⟩; rw [Int.toNat_natCast]
         go_wp2_with fail; refine (jBS _ _).mono ?_; rintro e w1 ⟨rfl, rfl⟩; rw [Hdd.out]
         go_wp2_with fail
         go_step3
         go_wp2_with fail; refine (jB7 l E b off cap _ (by omega) (by omega) (by omega) Hc.out).mono ?_; rintro e w1 ⟨rfl, rfl⟩; rw [Int.toNat_natCast]
         go_wp2_with fail; refine (jBS _ _).mono ?_; rintro e w1 ⟨rfl, rfl⟩; rw [Hdd.out]
         go_wp2_with fail
         go_step3
         exact ⟨⟨rfl, K, (E + 1), E, _, _, _, _, _, _, _, _, _, _, _, _, _, _, _, _, _, _, _, _, _, _, _, _, _, _, _, _, _, _, _, _, _, _, _, _, _, _, _, _, _, _, _, _, _, _, _, _, _, _, _, _, _, _, _, _, _, _, _, _, _, _, _, _, _, _, _, rfl, by omega, by omega, Hr.out⟩, by simp [intOf, jFU] <;> omega⟩
   . refine ⟨_, rfl, ?_⟩; cases hd : Lx.jA8 (Lx.at0 l E)
     . have hbd := Lx.jPY h; by_cases hl : 18 < E - D
       . have Hr := hid (Lx.rd_long h hd hl); clear h
         have Hd := hid hd; clear hd
         have hl2 : (18 : Int) < (E : Int) - D := by omega
         go_wp2_with fail; refine (jB7 l E b off cap _ (by omega) (by omega) (by omega) Hc.out).mono ?_; rintro e w1 ⟨rfl, rfl⟩; rw [Int.toNat_natCast]
         go_wp2_with fail; refine (jBS _ _).mono ?_; rintro e w1 ⟨rfl, rfl⟩; rw [Hd.out]
         go_wp2_with fail
         go_step3
         exact ⟨⟨rfl, K, E, D, _, _, _, _, _, _, _, _, _, _, _, _, _, _, _, _, _, _, _, _, _, _, _, _, _, _, _, _, _, _, _, _, _, _, _, _, _, _, _, _, _, _, _, _, _, _, _, _, _, _, _, _, _, _, _, _, _, _, _, _, _, _, _, _, _, _, _, rfl, by omega, by omega, Hr.out⟩, by simp [intOf, jFU] <;> omega⟩
       . have hl2 : ¬ (18 : Int) < (E : Int) - D := by omega
         cases hw : Lx.jBT (Lx.at0 l E)
         . have Hr := hid (Lx.rd_num h hd hl hw); clear h hl
           have Hd := hid hd; clear hd
           have Hw := hid hw; clear hw
           go_wp2_with fail; refine (jB7 l E b off cap _ (by omega) (by omega) (by omega) Hc.out).mono ?_; rintro e w1 ⟨rfl, rfl⟩; rw [Int.toNat_natCast]
           go_wp2_with fail; refine (jBS _ _).mono ?_; rintro e w1 ⟨rfl, rfl⟩; rw [Hd.out]
           go_wp2_with fail; refine (jB7 l E b off cap _ (by omega) (by omega) (by omega) Hc.out).mono ?_; rintro e w1 ⟨rfl, rfl⟩; rw [Int.toNat_natCast]
           go_wp2_with fail; refine (jE8 _ _).mono ?_; rintro e w1 ⟨rfl, rfl⟩; rw [Hw.out]
           go_wp2_with fail; rw [Exit.jumps_ret]; go_ret2; exact ⟨by rw [Hr.out]; exact jL2 rfl (by simp only []; omega), rfl⟩
         . have Hr := hid (Lx.rd_tied h hd hw); clear h hl
           have Hd := hid hd; clear hd
           have Hw := hid hw; clear hw
           go_wp2_with fail; refine (jB7 l E b off cap _ (by omega) (by omega) (by omega) Hc.out).mono ?_; rintro e w1 ⟨rfl, rfl⟩; rw [Int.toNat_natCast]
           go_wp2_with fail; refine (jBS _ _).mono ?_; rintro e w1 ⟨rfl, rfl⟩; rw [Hd.out]
           go_wp2_with fail; refine (jB7 l E b off cap _ (by omega) (by omega) (by omega) Hc.out).mono ?_; rintro e w1 ⟨rfl, rfl⟩; rw [Int.toNat_natCast]
           go_wp2_with fail; refine (jE8 _ _).mono ?_; rintro e w1 ⟨rfl, rfl⟩; rw [Hw.out]
           go_wp2_with fail
           go_step3
           exact ⟨⟨rfl, K, E, D, _, _, _, _, _, _, _, _, _, _, _, _, _, _, _, _, _, _, _, _, _, _, _, _, _, _, _, _, _, _, _, _, _, _, _, _, _, _, _, _, _, _, _, _, _, _, _, _, _, _, _, _, _, _, _, _, _, _, _, _, _, _, _, _, _, _, _, rfl, by omega, by omega, Hr.out⟩, by simp [intOf, jFU] <;> omega⟩
     . obtain ⟨hk, h'⟩ := Lx.jOZ h hd; have Hr := hid h'; clear h h'
       have Hd := hid hd; clear hd
       go_wp2_with fail; refine (jB7 l E b off cap _ (by omega) (by omega) (by omega) Hc.out).mono ?_; rintro e w1 ⟨rfl, rfl⟩; rw [Int.toNat_natCast]
       go_wp2_with fail; refine (jBS _ _).mono ?_; rintro e w1 ⟨rfl, rfl⟩; rw [Hd.out]
       go_wp2_with fail
       go_step3
       exact ⟨⟨rfl, K, (E + 1), D, _, _, _, _, _, _, _, _, _, _, _, _, _, _, _, _, _, _, _, _, _, _, _, _, _, _, _, _, _, _, _, _, _, _, _, _, _, _, _, _, _, _, _, _, _, _, _, _, _, _, _, _, _, _, _, _, _, _, _, _, _, _, _, _, _, _, _, rfl, by omega, by omega, Hr.out⟩, by simp [intOf, jFU] <;> omega⟩
   . refine ⟨_, rfl, ?_⟩; cases hw : Lx.jBT (Lx.at0 l E)
     . have Hr := hid (Lx.rd_word h hw); clear h
       have Hw := hid hw; clear hw
       go_wp2_with fail; refine (jB7 l E b off cap _ (by omega) (by omega) (by omega) Hc.out).mono ?_; rintro e w1 ⟨rfl, rfl⟩; rw [Int.toNat_natCast]
       go_wp2_with fail; refine (jE8 _ _).mono ?_; rintro e w1 ⟨rfl, rfl⟩; rw [Hw.out]
       go_wp2_with fail; rw [Exit.jumps_ret]; go_ret2; exact ⟨by rw [Hr.out]; exact jL2 rfl (by simp only []; omega), rfl⟩
     . obtain ⟨hk, h'⟩ := Lx.jPX h hw; have Hr := hid h'; clear h h'
       have Hw := hid hw; clear hw
       go_wp2_with fail; refine (jB7 l E b off cap _ (by omega) (by omega) (by omega) Hc.out).mono ?_; rintro e w1 ⟨rfl, rfl⟩; rw [Int.toNat_natCast]
       go_wp2_with fail; refine (jE8 _ _).mono ?_; rintro e w1 ⟨rfl, rfl⟩; rw [Hw.out]
       go_wp2_with fail
       go_step3
       exact ⟨⟨rfl, K, (E + 1), D, _, _, _, _, _, _, _, _, _, _, _, _, _, _, _, _, _, _, _, _, _, _, _, _, _, _, _, _, _, _, _, _, _, _, _, _, _, _, _, _, _, _, _, _, _, _, _, _, _, _, _, _, _, _, _, _, _, _, _, _, _, _, _, _, _, _, _, rfl, by omega, by omega, Hr.out⟩, by simp [intOf, jFU] <;> omega⟩
   . refine ⟨_, rfl, ?_⟩; by_cases hs : Lx.single (Lx.at0 l i) < 0
     . have Hr := hid (Lx.rd_none h hs); clear h
       go_wp2_with fail; refine (jFQ _ _).mono ?_; rintro e w1 ⟨rfl, rfl⟩
       go_wp2_with fail
       go_step3
       exact ⟨⟨rfl, _, E, D, _, _, _, _, _, _, _, _, _, _, _, _, _, _, _, _, _, _, _, _, _, _, _, _, _, _, _, _, _, _, _, _, _, _, _, _, _, _, _, _, _, _, _, _, _, _, _, _, _, _, _, _, _, _, _, _, _, _, _, _, _, _, _, _, _, _, _, rfl, by omega, by omega, Hr.out⟩, by simp [intOf, jFU] <;> omega⟩
     . have Hr := hid (Lx.rd_one h hs); have hE1 := h.of3.1; have HE := hid hE1; clear h hE1; go_wp2_with fail; refine (jFQ _ _).mono ?_; rintro e w1 ⟨rfl, rfl⟩
       go_wp2_with fail; rw [Exit.jumps_ret]; go_ret2; exact ⟨by rw [Hr.out, HE.out]; rfl, rfl⟩
   . refine ⟨_, rfl, ?_⟩; have Hr := hid h.of4; clear h
     go_wp2_with fail; rw [Exit.jumps_ret]; go_ret2; exact ⟨by rw [Hr.out]; rfl, rfl⟩
end Go.Proofs.YtnhndamfbeiljaaGreatDoor
namespace Go.Proofs
open Go.Shelf
def Tryz.laysM173_ren : Go.Shelf.Ren := ⟨fun | 173 => 73 | 246 => 109 | 283 => 138 | 284 => 139 | 285 => 140 | 286 => 141 | 129 => 151 | 317 => 150 | 318 => 152 | 319 => 153 | 320 => 154 | 337 => 162 | 338 => 163 | n => n, fun | 2 => 2 | 3 => 3 | 9 => 9 | 4 => 4 | 171 => 194 | 0 => 0 | 53 => 195 | 37 => 22 | 5 => 5 | 173 => 198 | 212 => 204 | 51 => 205 | 20 => 20 | 213 => 206 | 46 => 208 | 232 => 226 | 233 => 227 | n => n, fun | 17 => 0 | 18 => 3 | 19 => 4 | n => n⟩
theorem Tryz.laysM173 : Go.Proofs.LaysM.n173 Tryz.prog Tryz.laysM173_ren := {
 mixed := by kernel_rfl
 f129 := Tryz.func151.trans (congrArg some (by kernel_rfl))
 f173 := Tryz.func73.trans (congrArg some (by kernel_rfl))
 f246 := Tryz.func109.trans (congrArg some (by kernel_rfl))
 f283 := Tryz.func138.trans (congrArg some (by kernel_rfl))
 f284 := Tryz.func139.trans (congrArg some (by kernel_rfl))
 f285 := Tryz.func140.trans (congrArg some (by kernel_rfl))
 f286 := Tryz.func141.trans (congrArg some (by kernel_rfl))
 f317 := Tryz.func150.trans (congrArg some (by kernel_rfl))
 f318 := Tryz.func152.trans (congrArg some (by kernel_rfl))
 f319 := Tryz.func153.trans (congrArg some (by kernel_rfl))
 f320 := Tryz.func154.trans (congrArg some (by kernel_rfl))
 f337 := Tryz.func162.trans (congrArg some (by kernel_rfl))
 f338 := Tryz.func163.trans (congrArg some (by kernel_rfl))
 t0 := Tryz.underlying0
 a0 := Tryz.isAgg0
 z0 := Tryz.sizeOf0
 v0 := Tryz.zeroValue0
 t2 := Tryz.underlying2
 a2 := Tryz.isAgg2
 z2 := Tryz.sizeOf2
 v2 := Tryz.zeroValue2
 t3 := Tryz.underlying3
 a3 := Tryz.isAgg3
 z3 := Tryz.sizeOf3
 v3 := Tryz.zeroValue3
 t4 := Tryz.underlying4
 a4 := Tryz.isAgg4
 z4 := Tryz.sizeOf4
 v4 := Tryz.zeroValue4
 t5 := Tryz.underlying5
 a5 := Tryz.isAgg5
 z5 := Tryz.sizeOf5
 v5 := Tryz.zeroValue5
 t9 := Tryz.underlying9
 a9 := Tryz.isAgg9
 z9 := Tryz.sizeOf9
 v9 := Tryz.zeroValue9
 t20 := Tryz.underlying20
 a20 := Tryz.isAgg20
 z20 := Tryz.sizeOf20
 v20 := Tryz.zeroValue20
 t37 := Tryz.underlying22
 a37 := Tryz.isAgg22
 z37 := Tryz.sizeOf22
 v37 := Tryz.zeroValue22
 t46 := Tryz.underlying208
 a46 := Tryz.isAgg208
 z46 := Tryz.sizeOf208
 v46 := Tryz.zeroValue208
 t51 := Tryz.underlying205
 a51 := Tryz.isAgg205
 z51 := Tryz.sizeOf205
 v51 := Tryz.zeroValue205
 t53 := Tryz.underlying195
 a53 := Tryz.isAgg195
 z53 := Tryz.sizeOf195
 v53 := Tryz.zeroValue195
 t171 := Tryz.underlying194
 a171 := Tryz.isAgg194
 z171 := Tryz.sizeOf194
 v171 := Tryz.zeroValue194
 t173 := Tryz.underlying198
 a173 := Tryz.isAgg198
 z173 := Tryz.sizeOf198
 v173 := Tryz.zeroValue198
 t212 := Tryz.underlying204
 a212 := Tryz.isAgg204
 z212 := Tryz.sizeOf204
 v212 := Tryz.zeroValue204
 t213 := Tryz.underlying206
 a213 := Tryz.isAgg206
 z213 := Tryz.sizeOf206
 t232 := Tryz.underlying226
 a232 := Tryz.isAgg226
 z232 := Tryz.sizeOf226
 v232 := Tryz.zeroValue226
 t233 := Tryz.underlying227
 a233 := Tryz.isAgg227
 z233 := Tryz.sizeOf227
 v233 := Tryz.zeroValue227
 g17 := by kernel_rfl
 g18 := by kernel_rfl
 g19 := by kernel_rfl
 i0 := by kernel_rfl
 i2 := by kernel_rfl
 i3 := by kernel_rfl
 i4 := by kernel_rfl
 i5 := by kernel_rfl
 i9 := by kernel_rfl
 i20 := by kernel_rfl
 i37 := by kernel_rfl
 i46 := by kernel_rfl
 i51 := by kernel_rfl
 i53 := by kernel_rfl
 i171 := by kernel_rfl
 i173 := by kernel_rfl
 i212 := by kernel_rfl
 i232 := by kernel_rfl
 i233 := by kernel_rfl
 m17 := by kernel_rfl
 m18 := by kernel_rfl
 m19 := by kernel_rfl }
open Go.RowKit Go.Sort Go.Lib in
theorem Tryz.strconv_FormatInt_10 (n : Int) (h0 : -9223372036854775808 <= n) (h1 : n <= 9223372036854775807) (w : World) (htab : Lib.TabIs Tryz.prog w "internal/strconv.uint64pow10" .u64 Lib.pow10Tab) :
 Calls Tryz.prog 73 #[.int .i64 n, .int .i64 10] w fun e w' => e = .returned (.string ⟨(Lib.itoa n).toArray⟩) /\ ∃ k os, w' = grow (w.drewN k) os := Any.strconv_FormatInt_10 Tryz.laysM173 n h0 h1 w htab
def Tryz.laysC174_ren : Go.Shelf.Ren := ⟨fun | 174 => 123 | 247 => 147 | 245 => 148 | 287 => 157 | 279 => 158 | 280 => 159 | 281 => 160 | 282 => 161 | 321 => 165 | 322 => 166 | 316 => 167 | 171 => 169 | 205 => 168 | 243 => 171 | 246 => 109 | 283 => 138 | 284 => 139 | 285 => 140 | 286 => 141 | 129 => 151 | 317 => 150 | 318 => 152 | 319 => 153 | 320 => 154 | 337 => 162 | 338 => 163 | n => n, fun | 9 => 9 | 3 => 3 | 2 => 2 | 75 => 115 | 85 => 182 | 4 => 4 | 167 => 212 | 5 => 5 | 53 => 195 | 175 => 213 | 46 => 208 | 168 => 215 | 37 => 22 | 0 => 0 | 210 => 224 | 21 => 21 | 127 => 165 | 145 => 231 | 143 => 229 | 171 => 194 | 173 => 198 | 212 => 204 | 51 => 205 | 20 => 20 | 213 => 206 | 232 => 226 | 233 => 227 | 80 => 108 | n => n, fun | 15 => 1 | 16 => 2 | 17 => 0 | 18 => 3 | 19 => 4 | n => n⟩
theorem Tryz.laysC174 : Go.Proofs.LaysC.n174 Tryz.prog Tryz.laysC174_ren := {
 mixed := by kernel_rfl
 f129 := Tryz.func151.trans (congrArg some (by kernel_rfl))
 f171 := Tryz.func169.trans (congrArg some (by kernel_rfl))
 f174 := Tryz.func123.trans (congrArg some (by kernel_rfl))
 f205 := Tryz.func168.trans (congrArg some (by kernel_rfl))
 f243 := Tryz.func171.trans (congrArg some (by kernel_rfl))
 f245 := Tryz.func148.trans (congrArg some (by kernel_rfl))
 f246 := Tryz.func109.trans (congrArg some (by kernel_rfl))
 f247 := Tryz.func147.trans (congrArg some (by kernel_rfl))
 f279 := Tryz.func158.trans (congrArg some (by kernel_rfl))
 f280 := Tryz.func159.trans (congrArg some (by kernel_rfl))
 f281 := Tryz.func160.trans (congrArg some (by kernel_rfl))
 f282 := Tryz.func161.trans (congrArg some (by kernel_rfl))
 f283 := Tryz.func138.trans (congrArg some (by kernel_rfl))
 f284 := Tryz.func139.trans (congrArg some (by kernel_rfl))
 f285 := Tryz.func140.trans (congrArg some (by kernel_rfl))
 f286 := Tryz.func141.trans (congrArg some (by kernel_rfl))
 f287 := Tryz.func157.trans (congrArg some (by kernel_rfl))
 f316 := Tryz.func167.trans (congrArg some (by kernel_rfl))
 f317 := Tryz.func150.trans (congrArg some (by kernel_rfl))
 f318 := Tryz.func152.trans (congrArg some (by kernel_rfl))
 f319 := Tryz.func153.trans (congrArg some (by kernel_rfl))
 f320 := Tryz.func154.trans (congrArg some (by kernel_rfl))
 f321 := Tryz.func165.trans (congrArg some (by kernel_rfl))
 f322 := Tryz.func166.trans (congrArg some (by kernel_rfl))
 f337 := Tryz.func162.trans (congrArg some (by kernel_rfl))
 f338 := Tryz.func163.trans (congrArg some (by kernel_rfl))
 t0 := Tryz.underlying0
 a0 := Tryz.isAgg0
 z0 := Tryz.sizeOf0
 v0 := Tryz.zeroValue0
 t2 := Tryz.underlying2
 a2 := Tryz.isAgg2
 z2 := Tryz.sizeOf2
 v2 := Tryz.zeroValue2
 t3 := Tryz.underlying3
 a3 := Tryz.isAgg3
 z3 := Tryz.sizeOf3
 v3 := Tryz.zeroValue3
 t4 := Tryz.underlying4
 a4 := Tryz.isAgg4
 z4 := Tryz.sizeOf4
 v4 := Tryz.zeroValue4
 t5 := Tryz.underlying5
 a5 := Tryz.isAgg5
 z5 := Tryz.sizeOf5
 v5 := Tryz.zeroValue5
 t9 := Tryz.underlying9
 a9 := Tryz.isAgg9
 z9 := Tryz.sizeOf9
 v9 := Tryz.zeroValue9
 t20 := Tryz.underlying20
 a20 := Tryz.isAgg20
 z20 := Tryz.sizeOf20
 v20 := Tryz.zeroValue20
 t21 := Tryz.underlying21
 a21 := Tryz.isAgg21
 z21 := Tryz.sizeOf21
 v21 := Tryz.zeroValue21
 t37 := Tryz.underlying22
 a37 := Tryz.isAgg22
 z37 := Tryz.sizeOf22
 v37 := Tryz.zeroValue22
 t46 := Tryz.underlying208
 a46 := Tryz.isAgg208
 z46 := Tryz.sizeOf208
 v46 := Tryz.zeroValue208
 t51 := Tryz.underlying205
 a51 := Tryz.isAgg205
 z51 := Tryz.sizeOf205
 v51 := Tryz.zeroValue205
 t53 := Tryz.underlying195
 a53 := Tryz.isAgg195
 z53 := Tryz.sizeOf195
 v53 := Tryz.zeroValue195
 t75 := Tryz.underlying115
 a75 := Tryz.isAgg115
 z75 := Tryz.sizeOf115
 v75 := Tryz.zeroValue115
 t85 := Tryz.underlying182
 a85 := Tryz.isAgg182
 z85 := Tryz.sizeOf182
 v85 := Tryz.zeroValue182
 t127 := Tryz.underlying165
 a127 := Tryz.isAgg165
 z127 := Tryz.sizeOf165
 v127 := Tryz.zeroValue165
 t143 := Tryz.underlying229
 a143 := Tryz.isAgg229
 z143 := Tryz.sizeOf229
 v143 := Tryz.zeroValue229
 t145 := Tryz.underlying231
 a145 := Tryz.isAgg231
 z145 := Tryz.sizeOf231
 v145 := Tryz.zeroValue231
 t167 := Tryz.underlying212
 a167 := Tryz.isAgg212
 z167 := Tryz.sizeOf212
 v167 := Tryz.zeroValue212
 t168 := Tryz.underlying215
 a168 := Tryz.isAgg215
 z168 := Tryz.sizeOf215
 v168 := Tryz.zeroValue215
 t171 := Tryz.underlying194
 a171 := Tryz.isAgg194
 z171 := Tryz.sizeOf194
 v171 := Tryz.zeroValue194
 t173 := Tryz.underlying198
 a173 := Tryz.isAgg198
 z173 := Tryz.sizeOf198
 v173 := Tryz.zeroValue198
 t175 := Tryz.underlying213
 a175 := Tryz.isAgg213
 z175 := Tryz.sizeOf213
 v175 := Tryz.zeroValue213
 t210 := Tryz.underlying224
 a210 := Tryz.isAgg224
 z210 := Tryz.sizeOf224
 v210 := Tryz.zeroValue224
 t212 := Tryz.underlying204
 a212 := Tryz.isAgg204
 z212 := Tryz.sizeOf204
 v212 := Tryz.zeroValue204
 t213 := Tryz.underlying206
 a213 := Tryz.isAgg206
 z213 := Tryz.sizeOf206
 t232 := Tryz.underlying226
 a232 := Tryz.isAgg226
 z232 := Tryz.sizeOf226
 v232 := Tryz.zeroValue226
 t233 := Tryz.underlying227
 a233 := Tryz.isAgg227
 z233 := Tryz.sizeOf227
 v233 := Tryz.zeroValue227
 g15 := by kernel_rfl
 g16 := by kernel_rfl
 g17 := by kernel_rfl
 g18 := by kernel_rfl
 g19 := by kernel_rfl
 t80 := Tryz.underlying108
 a80 := Tryz.isAgg108
 z80 := Tryz.sizeOf108
 v80 := Tryz.zeroValue108
 i0 := by kernel_rfl
 i2 := by kernel_rfl
 i3 := by kernel_rfl
 i4 := by kernel_rfl
 i5 := by kernel_rfl
 i9 := by kernel_rfl
 i20 := by kernel_rfl
 i21 := by kernel_rfl
 i37 := by kernel_rfl
 i46 := by kernel_rfl
 i51 := by kernel_rfl
 i53 := by kernel_rfl
 i75 := by kernel_rfl
 i80 := by kernel_rfl
 i85 := by kernel_rfl
 i127 := by kernel_rfl
 i143 := by kernel_rfl
 i145 := by kernel_rfl
 i167 := by kernel_rfl
 i168 := by kernel_rfl
 i171 := by kernel_rfl
 i173 := by kernel_rfl
 i175 := by kernel_rfl
 i210 := by kernel_rfl
 i212 := by kernel_rfl
 i232 := by kernel_rfl
 i233 := by kernel_rfl
 m15 := by kernel_rfl
 m16 := by kernel_rfl
 m17 := by kernel_rfl
 m18 := by kernel_rfl
 m19 := by kernel_rfl
 c0 := by kernel_rfl
 c2 := by kernel_rfl
 c3 := by kernel_rfl
 c4 := by kernel_rfl
 c5 := by kernel_rfl
 c9 := by kernel_rfl
 c20 := by kernel_rfl
 c21 := by kernel_rfl
 c37 := by kernel_rfl
 c46 := by kernel_rfl
 c51 := by kernel_rfl
 c53 := by kernel_rfl
 c75 := by kernel_rfl
 c80 := by kernel_rfl
 c85 := by kernel_rfl
 c127 := by kernel_rfl
 c143 := by kernel_rfl
 c145 := by kernel_rfl
 c167 := by kernel_rfl
 c168 := by kernel_rfl
 c171 := by kernel_rfl
 c173 := by kernel_rfl
 c175 := by kernel_rfl
 c210 := by kernel_rfl
 c212 := by kernel_rfl
 c213 := by kernel_rfl
 c232 := by kernel_rfl
 c233 := by kernel_rfl }
open Go.RowKit in
theorem Tryz.strconv_ParseInt_10_at64_ok (s : ByteArray) (hmax : s.size <= 9223372036854775806) (v : Int) (h : Lib.parseIntB 64 s.data.toList = .ok v) (w : World) :
 Calls Tryz.prog 123 #[.string s, .int .i64 10, .int .i64 64] w fun e w' => e = .returned (.tuple #[.int .i64 v, .nilIface]) /\ (w' = w \/ ∃ t, w' = Lib.bytesWorld w 5 t) := Any.strconv_ParseInt_10_at64_ok Tryz.laysC174 s hmax v h w
end Go.Proofs
namespace Go.Proofs.YtnhndamfbeiljaaGreatDoor
open Go Go.RowKit
open Go.Lib (hid)
open List renaming getElem_toArray → jR, getElem_cons_succ → jR0, getElem_cons_zero → jR1, setIfInBounds_toArray → jR2, set_cons_zero → jR3, set_cons_succ → jR4
theorem bcell {W w1 : World} (hb : Below W.heap.size W w1) : (∀ b o, b < W.heap.size -> w1.cell? ⟨b, o, none⟩ = W.cell? ⟨b, o, none⟩) /\ (∀ b o, b < W.heap.size -> w1.frozen? ⟨b, o, none⟩ = W.frozen? ⟨b, o, none⟩) :=
 ⟨fun b o h => hb.cell (p := ⟨b, o, none⟩) h, fun b o h => hb.frozen (p := ⟨b, o, none⟩) h⟩
theorem jMM (s : ByteArray) (v : Int) (w : World) (hmax : s.size <= 9223372036854775806) (h : Lib.parseIntB 64 s.data.toList = .ok v) :
 Calls Tryz.prog 123 #[.string s, .int .i64 10, .int .i64 64] w fun e w' => e = .returned (.tuple #[.int .i64 v, .nilIface]) /\ Below w.heap.size w w' := by
 refine (Tryz.strconv_ParseInt_10_at64_ok s hmax v h w).mono ?_; rintro e w' ⟨rfl, rfl | ⟨t, rfl⟩⟩
 . exact ⟨rfl, Below.refl _ _⟩
 . exact ⟨rfl, Lib.bytesWorld_below _ _ _⟩
theorem jHU (k p : Int) (s : ByteArray) (w : World) (hk : k ≠ 2) :
 Calls Tryz.prog 84 #[.int .i64 k, .int .i64 p, .string s] w fun e w' => e = .returned (.agg #[.int .i64 k, .int .i64 p, .string s, .int .i64 0]) /\ Below w.heap.size w w' := by
 have h1 : (k == 2) = false := by simpa using hk
 clear hk; go_enter Tryz.func84, Tryz.ntmps84; go_wp2; exact bodyPost_ret (v := .agg #[.int .i64 k, .int .i64 p, .string s, .int .i64 0]) (by simp [results, Tryz.results84, go_sem]) rfl ⟨rfl, ((Below.refl _ _).alloc (Nat.le_refl _) _).alloc (by simp) _⟩
theorem jJS (p v : Int) (s : ByteArray) (w : World) (hmax : s.size <= 9223372036854775806) (h : Lib.parseIntB 64 s.data.toList = .ok v) :
 Calls Tryz.prog 84 #[.int .i64 2, .int .i64 p, .string s] w fun e w' => e = .returned (.agg #[.int .i64 2, .int .i64 p, .string s, .int .i64 v]) /\ Below w.heap.size w w' := by
 have H := hid h; clear h
 go_enter Tryz.func84, Tryz.ntmps84; go_wp2_with fail; refine (jMM s v _ hmax H.out).mono ?_; rintro e w1 ⟨rfl, hb⟩; obtain ⟨hc, hf⟩ := bcell hb; go_wp2_with fail; have hs := hb.size; simp at hs; have c0 : w1.cell? ⟨w.heap.size, 0, none⟩ = some (.int .i64 0) := by rw [hc _ _ (by simp; omega)]; go_simp
 have c1 : w1.cell? ⟨w.heap.size, 1, none⟩ = some (.int .i64 0) := by rw [hc _ _ (by simp; omega)]; go_simp
 have c2 : w1.cell? ⟨w.heap.size, 2, none⟩ = some (.string ⟨#[]⟩) := by rw [hc _ _ (by simp; omega)]; go_simp
 have c3 : w1.cell? ⟨w.heap.size, 3, none⟩ = some (.int .i64 0) := by rw [hc _ _ (by simp; omega)]; go_simp
 have b1 : Below w.heap.size w w1 := (((Below.refl _ _).alloc (Nat.le_refl _) _).alloc (by simp) _).trans (hb.mono (by simp; omega)); exact bodyPost_ret (v := .agg #[.int .i64 2, .int .i64 p, .string s, .int .i64 v]) (by simp [results, Tryz.results84, go_sem, c0, c1, c2, c3]) rfl ⟨rfl, ((((b1.setCell (by simp) _).setCell (by simp) _).setCell (by simp) _).setCell (by simp) _).setCell (by simp) _⟩
def tokCells (t : Lx.Tok) : List Value := [.int .i64 t.kind, .int .i64 t.pos, .string ⟨t.text.toArray⟩, .int .i64 t.int]
def jBP (ts : List Lx.Tok) : List Value := ts.flatMap tokCells
def BytesAt (w : World) (b off : Nat) (l : List UInt8) : Prop := ∀ j, j < l.length -> w.cell? ⟨b, off + j, none⟩ = some (.int .u8 (Lx.at0 l j).toNat)
theorem BytesAt.below {w w' : World} {b off : Nat} {l : List UInt8} (h : BytesAt w b off l) (hb : Below w.heap.size w w') : BytesAt w' b off l := fun j hj => by
 have := h j hj; rw [hb.cell (World.block_lt_of_cell? w _ this)]; exact this
def TkR (l : List UInt8) (done : List Lx.Tok) (E : Nat) : Prop :=
 ∃ f, l.length < E + f /\ Lx.toks (l.length + 1) 0 l = (done ++ (Lx.toks f E (l.drop E)).1, (Lx.toks f E (l.drop E)).2)
theorem jPJ (l : List UInt8) : TkR l [] 0 := ⟨l.length + 1, by omega, by simp⟩
theorem jPI (f p : Nat) (l : List UInt8) : Lx.toks (f + 1) p l =
 if l.length <= Lx.skipC false l then ([], none) else
  if (Lx.jAK (l.drop (Lx.skipC false l))).2 = 0 then ([], some (p + Lx.skipC false l)) else
   (Lx.jBH (p + Lx.skipC false l) (Lx.jAK (l.drop (Lx.skipC false l))).1 ((l.drop (Lx.skipC false l)).take (Lx.jAK (l.drop (Lx.skipC false l))).2) ::
     (Lx.toks f (p + Lx.skipC false l + (Lx.jAK (l.drop (Lx.skipC false l))).2) ((l.drop (Lx.skipC false l)).drop (Lx.jAK (l.drop (Lx.skipC false l))).2)).1,
    (Lx.toks f (p + Lx.skipC false l + (Lx.jAK (l.drop (Lx.skipC false l))).2) ((l.drop (Lx.skipC false l)).drop (Lx.jAK (l.drop (Lx.skipC false l))).2)).2) := rfl
theorem tk_step {l : List UInt8} {done : List Lx.Tok} {E A : Nat} (h : TkR l done E) (hE : E <= l.length) (hA : E + Lx.skipC false (l.drop E) = A) :
 A <= l.length /\ E <= A /\ (A = l.length -> Lx.toks (l.length + 1) 0 l = (done, none)) /\
 (A < l.length -> (Lx.jAK (l.drop A)).2 = 0 -> (Lx.toks (l.length + 1) 0 l).2 = some A) /\
 (A < l.length -> (Lx.jAK (l.drop A)).2 ≠ 0 -> TkR l (done ++ [Lx.jBH A (Lx.jAK (l.drop A)).1 ((l.drop A).take (Lx.jAK (l.drop A)).2)]) (A + (Lx.jAK (l.drop A)).2)) := by
 obtain ⟨f, hf, ht⟩ := h; have hle := Lx.jFP false (l.drop E); rw [List.length_drop] at hle; obtain ⟨f, rfl⟩ : ∃ g, f = g + 1 := ⟨f - 1, by omega⟩
 rw [jPI f E (l.drop E), List.length_drop, List.drop_drop, hA] at ht; refine ⟨by omega, by omega, ?_, ?_, ?_⟩
 . intro he; rw [if_pos (by omega)] at ht; rw [ht]; simp
 . intro h1 h2; rw [if_neg (by omega), if_pos h2] at ht; rw [ht]
 . intro h1 h2; rw [if_neg (by omega), if_neg h2, List.drop_drop] at ht; exact ⟨f, by omega, by rw [ht]; simp⟩
def TkJ (l : List UInt8) (b off cap : Nat) (w0 : World) (lab : Nat) (a : Act) (w : World) : Prop :=
 lab = 0 /\ ∃ (E : Nat) (v : Value) (done : List Lx.Tok) (u1 u2 u3 u4 u6 u7 u9 u10 u11 u12 u13 u14 u15 u16 u17 u18 u19 u20 u21 u22 u23 u24 u25 u26 u27 u28 u29 u30 u31 u32 u33 u34 u35 u36 u37 u38 u39 u40 : Value), a = { tmps := #[.slice (some ⟨b, off, none⟩) l.length cap, u1, u2, u3, u4, v, u6, u7, .int .i64 E, u9, u10, u11, u12, u13, u14, u15, u16, u17, u18, u19, u20, u21, u22, u23, u24, u25, u26, u27, u28, u29, u30, u31, u32, u33, u34, u35, u36, u37, u38, u39, u40], defers := [] } /\
  Below w0.heap.size w0 w /\ w.ownsRow w0.heap.size 102 4 v done.length (jBP done) /\ E <= l.length /\ l.length <= 4096 /\ done.length <= E /\ TkR l done E
def jOQ (l : List UInt8) (w : World) (e : Ending) (w' : World) : Prop :=
 ∃ (v : Value) (ts : List Lx.Tok) (p : Int) (c : Int), e = .returned (.tuple #[v, .int .i64 p, .int .i64 c]) /\ Below w.heap.size w w' /\ w'.ownsRow w.heap.size 102 4 v ts.length (jBP ts) /\
  ((4096 < l.length /\ ts = [] /\ p = 4096 /\ c = 2) \/ (l.length <= 4096 /\ (∃ q, (Lx.toks (l.length + 1) 0 l).2 = some q /\ ts = [] /\ p = q /\ c = 2)) \/ (l.length <= 4096 /\ (Lx.toks (l.length + 1) 0 l) = (ts, none) /\ p = -1 /\ c = 0))
theorem jJT (k : Int) (p : Nat) (t : List UInt8) (w : World) (hm : t.length <= 9223372036854775806) (h : k = 2 -> Lib.parseIntB 64 t = .ok (Lx.numV t)) :
 Calls Tryz.prog 84 #[.int .i64 k, .int .i64 p, .string ⟨t.toArray⟩] w fun e w' => e = .returned (.agg #[.int .i64 k, .int .i64 p, .string ⟨t.toArray⟩, .int .i64 (Lx.jBH p k t).int]) /\ Below w.heap.size w w' := by
 by_cases hk : k = 2
 . subst hk; exact jJS p (Lx.numV t) ⟨t.toArray⟩ w (by simpa [ByteArray.size] using hm) (h rfl)
 . have e : (Lx.jBH p k t).int = 0 := by show (if k = 2 then Lx.numV t else 0) = 0; rw [if_neg hk]
   rw [e]; exact jHU k p _ w hk
theorem jBE {B : Nat} {w w' : World} (h : Below B w w') (hB : w.heap.size <= B) (row : Option Nat) : w.grownBy w' row := ⟨h.os, h.tape, h.output, h.size, fun k hk _ => h.block k (by omega)⟩
theorem info102 : (Tryz.prog.info? 102).map (fun i => (i.zero, i.size, i.bytes)) = some (some (.agg #[.int .i64 0, .int .i64 0, .string ⟨#[]⟩, .int .i64 0]), 4, 40) := by kernel_rfl
theorem jA5 {w w' : World} {base : Nat} {e : TypeId} {size : Nat} {v : Value} {n : Nat} {xs : List Value} (h : w.ownsRow base e size v n xs) (hb : Below w.heap.size w w') : w'.ownsRow base e size v n xs := by
 refine h.kept (jBE hb (Nat.le_refl _) (some w.heap.size)) ?_; cases hv : v.ownBlock with
 | none => exact .inl rfl
 | some k => exact .inr (by have := (h.lt k hv).2; simp; omega)
theorem four_at (w : World) (x0 x1 x2 x3 : Value) (T : TypeId) (j : Nat) (u : Value) (h : [x0, x1, x2, x3][j]? = some u) :
 (w.alloc (.cells #[x0, x1, x2, x3] T)).cell? ((⟨w.heap.size, 0, none⟩ : Addr).add j) = some u := by
 have e : (⟨w.heap.size, 0, none⟩ : Addr).add j = ⟨w.heap.size, j, none⟩ := by unfold Addr.add; split <;> simp_all
 rw [e, World.cell?_alloc_mark]
 simpa using h
theorem four_one (k p i : Int) (t : ByteArray) : ∀ u ∈ [Value.int .i64 k, .int .i64 p, .string t, .int .i64 i], u.oneCell' = true := by
 intro u hu; simp only [List.mem_cons, List.not_mem_nil, or_false] at hu
 rcases hu with rfl | rfl | rfl | rfl <;> rfl
theorem jID (done : List Lx.Tok) (A : Nat) (k : Int) (t : List UInt8) (iv : Int) (h : (Lx.jBH A k t).int = iv) :
 jBP done ++ [.int .i64 k, .int .i64 A, .string ⟨t.toArray⟩, .int .i64 iv] = jBP (done ++ [Lx.jBH A k t]) := by
 subst h; simp [jBP, tokCells, Lx.jBH]
theorem jM0 (l : List UInt8) (b off cap : Nat) (w : World) (hm : l.length <= cap) (_hcap : (cap : Int) <= 9223372036854775807) (hc : BytesAt w b off l) :
 Calls Tryz.prog 42 #[.slice (some ⟨b, off, none⟩) l.length cap] w (jOQ l w) := by
 go_enter Tryz.func42, Tryz.ntmps42; go_wp2; refine jJI 0 rfl (TkJ l b off cap w) (fun _ a _ => l.length - (intOf (a.tmps.getD 8 undef)).toNat) ?_ ?_ ?_
 . rintro a w1 ⟨_, E, v, done, u1, u2, u3, u4, u6, u7, u9, u10, u11, u12, u13, u14, u15, u16, u17, u18, u19, u20, u21, u22, u23, u24, u25, u26, u27, u28, u29, u30, u31, u32, u33, u34, u35, u36, u37, u38, u39, u40, rfl, hB, hown, hE, hshort, hd, hR⟩; have Hc := hid (hc.below hB); go_wp2_with fail; refine (skip_some l E b off cap _ hE (by omega) Hc.out).mono ?_; rintro e w2 ⟨rfl, rfl⟩
   generalize hA : E + Lx.skipC false (l.drop E) = A; obtain ⟨hAl, hEA, hend, hbad, hmore⟩ := tk_step hR hE hA; clear hA hR hE; by_cases he : A = l.length
   . have Hend := hid (hend he); have h1 : ((A : Int) == (l.length : Int)) = true := by simp [he]
     clear hend hbad hmore he; go_wp2; rw [Exit.jumps_ret]; go_ret3; exact ⟨v, done, -1, 0, rfl, hB, hown, .inr (.inr ⟨by omega, Hend.out, rfl, rfl⟩)⟩
   . have hlt : A < l.length := by omega
     have h1 : ((A : Int) == (l.length : Int)) = false := by simp; omega
     have hle := Lx.jIF (l.drop A); rw [List.length_drop] at hle; by_cases hn : (Lx.jAK (l.drop A)).2 = 0
     . have Hbad := hid (hbad hlt hn); clear hend hbad hmore he; go_wp2_with fail; refine (jK7 l A b off cap _ hlt (by omega) Hc.out).mono ?_; rintro e w2 ⟨rfl, rfl⟩
       rw [hn, Nat.add_zero]; clear hn hle; go_wp2_with fail; rw [Exit.jumps_ret]; go_ret3; exact ⟨_, [], A, 2, rfl, hB, World.ownsRow_nil _ _ _ _, .inr (.inl ⟨by omega, A, Hbad.out, rfl, rfl, rfl⟩)⟩
     . have Hmore := hid (hmore hlt hn); have hpi := Lx.jQ7 (l.drop A); generalize hkk : (Lx.jAK (l.drop A)).1 = k at *; generalize hnn : (Lx.jAK (l.drop A)).2 = n at *; have Hpi := hid hpi; clear hend hbad hmore he hpi; go_wp2_with fail; refine (jK7 l A b off cap _ hlt (by omega) Hc.out).mono ?_; rintro e w2 ⟨rfl, rfl⟩
       rw [hkk, hnn]; clear hkk hnn; obtain ⟨E', hE'⟩ : ∃ E', E' = A + n := ⟨_, rfl⟩
       rw [<- hE']; have HE' := hid hE'; have hAE : A < E' := by omega
       have hE'l : E' <= l.length := by omega
       have h2 : ((E' : Int) == (A : Int)) = false := by simp; omega
       have hlen : ((l.drop A).take n).length = E' - A := by rw [List.length_take, List.length_drop]; omega
       have hcv := run_convert_bytes_back (P := Tryz.prog) w1 22 9 5 ⟨b, off + A, none⟩ (cap - A) ((l.drop A).take n) Tryz.underlying22 Tryz.underlying5 Tryz.underlying9 (fun j hj => by
        have hplain : (⟨b, off + A, none⟩ : Addr).add j = ⟨b, off + (A + j), none⟩ := by unfold Addr.add; simp [Nat.add_assoc]
        rw [hplain, Hc.out (A + j) (by omega)]; have e := Lx.take_at0 (l.drop A) n j (by omega); rw [Lx.at0_drop] at e; rw [<- e]
        simp [Lx.at0, List.getD_eq_getElem?_getD, List.getElem?_eq_getElem hj])
       rw [hlen] at hcv; generalize htt : (l.drop A).take n = t at *; have Htt := hid htt; have Hlen := hid hlen
       clear hE' hn hle htt hlen; go_wp2_with fail; refine (jJT k A t _ (by rw [Hlen.out]; omega) Hpi.out).mono ?_; rintro e w2 ⟨rfl, hb2⟩; have hown2 := jA5 hown hb2; have hB2 := hB.trans (hb2.mono hB.size); have hlen2 : (jBP done).length = done.length * 4 := hown.1; have hBs := hB.size; have hs2 := hb2.size; obtain ⟨i0, hi, hz0, hz1, hz2⟩ := info_parts info102; have HI1 := hid hz1; have HI2 := hid hz2; have HI0 := hid hz0; have HI := hid hi
       clear hi hz0 hz1 hz2; have HL := hid hlen2; clear hlen2
       have Hown2 := hid hown2; clear hown2 hown
       generalize hiv : (Lx.jBH A k t).int = iv; have Hiv := hid hiv; clear hiv
       go_wp2_with (at_builtin; refine wpList_append_own _ rfl (.tmp 30) (.tmp 39) 91 rfl w.heap.size 102 i0 (.agg #[.int .i64 0, .int .i64 0, .string ⟨#[]⟩, .int .i64 0]) 4 40 Tryz.underlying91 HI.out HI0.out HI1.out HI2.out rfl (by decide) _ done.length _ rfl (Hown2.out.alloc _) ⟨w2.heap.size, 0, none⟩ 1 1 [.int .i64 k, .int .i64 A, .string ⟨t.toArray⟩, .int .i64 iv] rfl rfl ?c1 ?c2 ?c3 ?c4 ?c5 ?_)
       case c1 => exact fun j u h => four_at w2 _ _ _ _ _ j u h
       case c2 => exact four_one _ _ _ _
       case c3 => unfold maxLen; omega
       case c4 => omega
       case c5 => simp; omega
       intro v' w3 hown3 hgr _; have hB3 := (hB2.alloc (by omega) (.cells #[.int .i64 k, .int .i64 A, .string ⟨t.toArray⟩, .int .i64 iv] 102)).grown hgr (by simp; omega) (fun kk hkk => (Hown2.out.lt kk hkk).1); rw [jID done A k t iv Hiv.out] at hown3; have HB3 := hid hB3; have HO3 := hid hown3
       clear hgr hB3 hown3 hB2; go_wp2
       go_step3
       exact ⟨⟨rfl, E', v', done ++ [Lx.jBH A k t], _, _, _, _, _, _, _, _, _, _, _, _, _, _, _, _, _, _, _, _, _, _, _, _, _, _, _, _, _, _, _, _, _, _, _, _, _, _, rfl, HB3.out, by rw [List.length_append]; exact HO3.out, by omega, by omega, by rw [List.length_append, List.length_singleton]; omega, by rw [HE'.out]; exact Hmore.out⟩, by simp [intOf]; omega⟩
 . rintro lab a w' hlab ⟨h, _⟩; exact absurd h hlab
 . intro H0; have H1 := hid H0; clear H0; by_cases hlong : 4096 < l.length
   . go_wp2; rw [Exit.jumps_ret]; go_ret3; exact ⟨_, [], 4096, 2, rfl, Below.refl _ _, World.ownsRow_nil _ _ _ _, .inl ⟨hlong, rfl, rfl, rfl⟩⟩
   . go_wp2
     go_step3
     rename_i K hK; exact hK _ _ (H1.out _ _ ⟨rfl, 0, _, [], _, _, _, _, _, _, _, _, _, _, _, _, _, _, _, _, _, _, _, _, _, _, _, _, _, _, _, _, _, _, _, _, _, _, _, _, _, _, rfl, Below.refl _ _, World.ownsRow_nil _ _ _ _, by omega, by omega, by simp, jPJ l⟩)
theorem jM1 (p : Option Addr) (cap : Nat) (w : World) : Calls Tryz.prog 42 #[.slice p 0 cap] w (jOQ [] w) := by
 go_enter Tryz.func42, Tryz.ntmps42; go_wp2
 go_step3
 go_wp2
 go_step3
 go_wp2_with fail; refine (skip_none p cap _).mono ?_; rintro e w2 ⟨rfl, rfl⟩
 go_wp2; rw [Exit.noGoto_ret]; go_ret3; exact ⟨_, [], -1, 0, rfl, Below.refl _ _, World.ownsRow_nil _ _ _ _, .inr (.inr ⟨by simp, rfl, rfl, rfl⟩)⟩
def SliceAt (w : World) (v : Value) (l : List UInt8) : Prop :=
 (∃ p cap, v = .slice p 0 cap /\ l = []) \/ (∃ b off cap, v = .slice (some ⟨b, off, none⟩) l.length cap /\ l.length <= cap /\ cap <= 9223372036854775807 /\ BytesAt w b off l)
theorem jIE (v : Value) (l : List UInt8) (w : World) (h : SliceAt w v l) : Calls Tryz.prog 42 #[v] w (jOQ l w) := by
 rcases h with ⟨p, cap, rfl, rfl⟩ | ⟨b, off, cap, rfl, h1, h2, h3⟩
 . exact jM1 p cap w
 . exact jM0 l b off cap w h1 (by omega) h3
def byteV (c : UInt8) : Value := .int .u8 c.toNat
theorem at0_get (l : List UInt8) (j : Nat) (h : j < l.length) : (l.map byteV)[j]? = some (.int .u8 (Lx.at0 l j).toNat) := by
 rw [List.getElem?_map, List.getElem?_eq_getElem h]; simp [byteV, Lx.at0, List.getD_eq_getElem?_getD, List.getElem?_eq_getElem h]
theorem jDX {w : World} {base e size n : Nat} {v : Value} {xs : List Value} (h : w.ownsRow base e size v n xs) : ∃ p cap, v = .slice p n cap := by
 rcases h.2 with ⟨rfl, rfl⟩ | ⟨g, cap, cur, rfl, _⟩
 . exact ⟨none, 0, rfl⟩
 . exact ⟨_, cap, rfl⟩
theorem jJZ (w : World) (e : TypeId) (l : List UInt8) : BytesAt (Lib.bytesWorld w e ⟨l.toArray⟩) w.heap.size 0 l := fun j hj => by
 rw [Nat.zero_add, Lib.bytesWorld_cell _ _ _ _ (by simpa [ByteArray.size] using hj)]; rfl
theorem jQS (w : World) (l : List UInt8) : (convert 9 22 (.string ⟨l.toArray⟩)).run Tryz.prog w = .ok (.slice (some ⟨w.heap.size, 0, none⟩) l.length (grownCap w l.length 0 5)) (Lib.bytesWorld w 5 ⟨l.toArray⟩) :=
 Lib.run_convert_string_bytes (P := Tryz.prog) w 9 22 5 ⟨l.toArray⟩ Tryz.underlying9 Tryz.underlying22 Tryz.underlying5
end Go.Proofs.YtnhndamfbeiljaaGreatDoor
namespace Go.Proofs.YtnhndamfbeiljaaGreatDoor
open Go.ChangeShapes Go.WideShapes Go.ChangeAt Go.RowKit
open Go.Lib (hid)
open List renaming getElem_toArray → jR, getElem_cons_succ → jR0, getElem_cons_zero → jR1, setIfInBounds_toArray → jR2, set_cons_zero → jR3, set_cons_succ → jR4
theorem own : ownKnob Tryz.prog.godebug = none := by kernel_rfl
theorem laidOut : laidOutB Tryz.prog = true := by kernel_rfl
def IsRow (k : IntKind) (w : World) (a : Option Addr) (len cap : Nat) (zs : List Int) : Prop :=
 (a = none /\ len = 0 /\ cap = 0 /\ zs = []) \/
 ∃ x, a = some x /\ len <= cap /\ cap <= 140737488351232 /\ zs.length = cap /\ (∀ i, i < zs.length -> w.cell? (x.add i) = some (.int k (zs.getD i 0))) /\ ∀ n ∈ zs, (Lit.int k n).wf = true
def jJ2 : List (String × DataW Unit) := [("math/bits.deBruijn32tab", Rows.laid_math_bits_deBruijn32tab), ("math/bits.deBruijn64tab", Rows.laid_math_bits_deBruijn64tab), ("internal/strconv.uint64pow10", Rows.laid_internal_strconv_uint64pow10), ("strconv.ErrRange", Rows.laid_strconv_ErrRange), ("strconv.ErrSyntax", Rows.laid_strconv_ErrSyntax)]
noncomputable def laidWorld (os : Os) : World :=
 let w0 := World.holding Tryz.prog os ⟨#[.cells #[.string ⟨#[118, 97, 108, 117, 101, 32, 111, 117, 116, 32, 111, 102, 32, 114, 97, 110, 103, 101]⟩] 231, .cells #[.string ⟨#[105, 110, 118, 97, 108, 105, 100, 32, 115, 121, 110, 116, 97, 120]⟩] 231], #[], []⟩
 { w0 with heap := ((((w0.heap.modify 2 fun
  | .cells _ t frozen => .cells #[.iface 229 (.pointer (some ⟨(World.settled Tryz.prog os).heap.size, 0, none⟩))] t frozen
  | o => o).modify 1 fun
  | .cells _ t frozen => .cells #[.iface 229 (.pointer (some ⟨(World.settled Tryz.prog os).heap.size + 1, 0, none⟩))] t frozen
  | o => o).modify 0 fun
  | .cells _ t frozen => .cells #[.int .u64 1, .int .u64 10, .int .u64 100, .int .u64 1000, .int .u64 10000, .int .u64 100000, .int .u64 1000000, .int .u64 10000000, .int .u64 100000000, .int .u64 1000000000, .int .u64 10000000000, .int .u64 100000000000, .int .u64 1000000000000, .int .u64 10000000000000, .int .u64 100000000000000, .int .u64 1000000000000000, .int .u64 10000000000000000, .int .u64 100000000000000000, .int .u64 1000000000000000000, .int .u64 10000000000000000000] t frozen
  | o => o).modify 3 fun
  | .cells _ t frozen => .cells #[.int .u8 0, .int .u8 1, .int .u8 28, .int .u8 2, .int .u8 29, .int .u8 14, .int .u8 24, .int .u8 3, .int .u8 30, .int .u8 22, .int .u8 20, .int .u8 15, .int .u8 25, .int .u8 17, .int .u8 4, .int .u8 8, .int .u8 31, .int .u8 27, .int .u8 13, .int .u8 23, .int .u8 21, .int .u8 19, .int .u8 16, .int .u8 7, .int .u8 26, .int .u8 12, .int .u8 18, .int .u8 6, .int .u8 11, .int .u8 5, .int .u8 10, .int .u8 9] t frozen
  | o => o).modify 4 fun
  | .cells _ t frozen => .cells #[.int .u8 0, .int .u8 1, .int .u8 56, .int .u8 2, .int .u8 57, .int .u8 49, .int .u8 28, .int .u8 3, .int .u8 61, .int .u8 58, .int .u8 42, .int .u8 50, .int .u8 38, .int .u8 29, .int .u8 17, .int .u8 4, .int .u8 62, .int .u8 47, .int .u8 59, .int .u8 36, .int .u8 45, .int .u8 43, .int .u8 51, .int .u8 22, .int .u8 53, .int .u8 39, .int .u8 33, .int .u8 30, .int .u8 24, .int .u8 18, .int .u8 12, .int .u8 5, .int .u8 63, .int .u8 55, .int .u8 48, .int .u8 27, .int .u8 60, .int .u8 41, .int .u8 37, .int .u8 16, .int .u8 46, .int .u8 35, .int .u8 44, .int .u8 21, .int .u8 52, .int .u8 32, .int .u8 23, .int .u8 11, .int .u8 54, .int .u8 26, .int .u8 40, .int .u8 15, .int .u8 34, .int .u8 20, .int .u8 31, .int .u8 10, .int .u8 25, .int .u8 14, .int .u8 19, .int .u8 9, .int .u8 13, .int .u8 8, .int .u8 7, .int .u8 6] t frozen
  | o => o }
theorem jJX (os : Os) (args : Array Value) : laidMet Tryz.prog jJ2 ((laidWorld os).forCall (fun _ _ => 0) ⟨#[], args, []⟩).memory :=
 laidMet_of_run' 8 (by kernel_rfl) (by kernel_rfl)
end Go.Proofs.YtnhndamfbeiljaaGreatDoor
namespace Go.Proofs.YtnhndamfbeiljaaGreatDoor
open Go Go.RowKit
open Go.Lib (hid)
open List renaming getElem_toArray → jR, getElem_cons_succ → jR0, getElem_cons_zero → jR1, setIfInBounds_toArray → jR2, set_cons_zero → jR3, set_cons_succ → jR4
def bytesOf (zs : List Int) (len : Nat) : List UInt8 := (zs.take len).map fun z => UInt8.ofNat z.toNat
def jP9 (w : World) (v : Value) (l : List UInt8) : Prop :=
 (v = .slice none 0 0 /\ l = []) \/ ∃ ad c, v = .slice (some ad) l.length c /\ ∀ j u, (l.map byteV)[j]? = some u -> w.cell? (ad.add j) = some u
theorem jP9.below {w w' : World} {v : Value} {l : List UInt8} (h : jP9 w v l) (hb : Below w.heap.size w w') : jP9 w' v l := by
 rcases h with h | ⟨ad, c, rfl, h⟩
 . exact .inl h
 . refine .inr ⟨ad, c, rfl, fun j u hu => ?_⟩; have := h j u hu; rw [hb.cell (World.block_lt_of_cell? w _ this)]; exact this
theorem row_src {w : World} {a : Option Addr} {len cap : Nat} {zs : List Int} (h : IsRow .u8 w a len cap zs) :
 jP9 w (.slice a len cap) (bytesOf zs len) /\ SliceAt w (.slice a len cap) (bytesOf zs len) /\ (bytesOf zs len).length = len /\ len <= 140737488351232 := by
 rcases h with ⟨rfl, rfl, rfl, rfl⟩ | ⟨x, rfl, h1, h2, h3, h4, h5⟩
 . exact ⟨.inl ⟨rfl, rfl⟩, .inl ⟨none, 0, rfl, rfl⟩, rfl, by omega⟩
 . have hl : (bytesOf zs len).length = len := by simp [bytesOf]; omega
   have hz : ∀ j, j < len -> zs.getD j 0 = ((Lx.at0 (bytesOf zs len) j).toNat : Int) := by
    intro j hj; have hjz : j < zs.length := by omega
    have hb := bounds_u8 (h5 _ (List.getElem_mem hjz)); unfold Lx.at0; rw [List.getD_eq_getElem?_getD, List.getD_eq_getElem?_getD, List.getElem?_eq_getElem hjz]; simp only [bytesOf, List.getElem?_map, List.getElem?_take, if_pos hj, List.getElem?_eq_getElem hjz, Option.map_some, Option.getD_some]; rw [UInt8.toNat_ofNat']; omega
   have hsrc : ∀ j, j < len -> w.cell? (x.add j) = some (.int .u8 (Lx.at0 (bytesOf zs len) j).toNat) := by
    intro j hj; rw [h4 j (by omega), hz j hj]
   refine ⟨.inr ⟨x, cap, by rw [hl], fun j u hu => ?_⟩, ?_, hl, by omega⟩
   . have hj : j < len := by
      have := (List.getElem?_eq_some_iff.1 hu).1
      simpa [hl] using this
     rw [hsrc j hj, <- hu, at0_get _ j (by omega)]
   . by_cases h0 : len = 0
     . subst h0; exact .inl ⟨_, cap, rfl, List.eq_nil_of_length_eq_zero hl⟩
     . obtain ⟨b, off, rfl, hbo⟩ := ints_at (zs := zs) (k := .u8) (w := w) (a := x) h4 (by omega); refine .inr ⟨b, off, cap, by rw [hl], by omega, by omega, fun j hj => ?_⟩; rw [hbo j (by omega), hz j (by omega)]
theorem SliceAt.below {w w' : World} {v : Value} {l : List UInt8} (h : SliceAt w v l) (hb : Below w.heap.size w w') : SliceAt w' v l := by
 rcases h with h | ⟨b, off, cap, h1, h2, h3, h4⟩
 . exact .inl h
 . exact .inr ⟨b, off, cap, h1, h2, h3, h4.below hb⟩
end Go.Proofs.YtnhndamfbeiljaaGreatDoor
namespace Go.Proofs
open Go.Shelf
end Go.Proofs
namespace Go.Proofs.YtnhndamfbeiljaaGreatDoor
open Go Go.RowKit
open Go.Lib (hid)
open List renaming getElem_toArray → jR, getElem_cons_succ → jR0, getElem_cons_zero → jR1, setIfInBounds_toArray → jR2, set_cons_zero → jR3, set_cons_succ → jR4
def jA7 (n : Px.Node) (lv : Value) : Value := .agg #[.int .i64 n.tok.kind, .int .i64 n.tok.pos, .string ⟨n.tok.text.toArray⟩, .int .i64 n.tok.int, lv, .int .i64 n.takes]
def jGE (p : Nat) : Value := .iface 95 (.agg #[.int .i64 p])
def jAW (p : Nat) : Ending := .panicked [{ v := jGE p, recovered := false }]
structure NodeAt (w : World) (g o : Nat) (n : Px.Node) (lv : Value) : Prop where
 c0 : w.cell? ⟨g, o, none⟩ = some (.int .i64 n.tok.kind)
 c1 : w.cell? ⟨g, o + 1, none⟩ = some (.int .i64 n.tok.pos)
 c2 : w.cell? ⟨g, o + 2, none⟩ = some (.string ⟨n.tok.text.toArray⟩)
 c3 : w.cell? ⟨g, o + 3, none⟩ = some (.int .i64 n.tok.int)
 c4 : w.cell? ⟨g, o + 4, none⟩ = some lv
 c5 : w.cell? ⟨g, o + 5, none⟩ = some (.int .i64 n.takes)
 small : n.takes <= 2
def jAC (w : World) : Nat -> Value -> List Px.Node -> Prop
 | 0, lv, l => l = [] /\ ∃ p c, lv = .slice p 0 c
 | k + 1, lv, l => (l = [] /\ ∃ p c, lv = .slice p 0 c) \/
    ∃ g o c, lv = .slice (some ⟨g, o, none⟩) l.length c /\ l.length <= c /\ (c : Int) <= 9223372036854775807 /\
     ∀ i n, l[i]? = some n -> ∃ kv, NodeAt w g (o + i * 6) n kv /\ jAC w k kv n.list
theorem NodeAt.below {w w' : World} {g o : Nat} {n : Px.Node} {lv : Value} (h : NodeAt w g o n lv) (hb : Below w.heap.size w w') : NodeAt w' g o n lv := by
 have e : ∀ j v, w.cell? ⟨g, j, none⟩ = some v -> w'.cell? ⟨g, j, none⟩ = some v := fun j v hj => by
  rw [hb.cell (World.block_lt_of_cell? w _ hj)]; exact hj
 exact ⟨e _ _ h.c0, e _ _ h.c1, e _ _ h.c2, e _ _ h.c3, e _ _ h.c4, e _ _ h.c5, h.small⟩
theorem jAC.below {w w' : World} (hb : Below w.heap.size w w') : ∀ {k : Nat} {lv : Value} {l : List Px.Node}, jAC w k lv l -> jAC w' k lv l := by
 intro k
 induction k with
 | zero => intro lv l h; exact h
 | succ k ih =>
   intro lv l h
   rcases h with h | ⟨g, o, c, h1, h2, h3, h4⟩
   . exact .inl h
   . refine .inr ⟨g, o, c, h1, h2, h3, fun i n hn => ?_⟩; obtain ⟨kv, a, b⟩ := h4 i n hn; exact ⟨kv, a.below hb, ih b⟩
theorem jAC.len {w : World} {k : Nat} {lv : Value} {l : List Px.Node} (h : jAC w k lv l) : ∃ p c, lv = .slice p l.length c := by
 cases k with
 | zero => obtain ⟨rfl, p, c, rfl⟩ := h; exact ⟨p, c, rfl⟩
 | succ k =>
   rcases h with ⟨rfl, p, c, rfl⟩ | ⟨g, o, c, h1, _⟩
   . exact ⟨p, c, rfl⟩
   . exact ⟨_, c, h1⟩
theorem jAC.some {w : World} {k : Nat} {lv : Value} {l : List Px.Node} (h : jAC w k lv l) (hne : l ≠ []) :
 ∃ j g o c, k = j + 1 /\ lv = .slice (some ⟨g, o, none⟩) l.length c /\ l.length <= c /\ (c : Int) <= 9223372036854775807 /\
  ∀ i n, l[i]? = some n -> ∃ kv, NodeAt w g (o + i * 6) n kv /\ jAC w j kv n.list := by
 cases k with
 | zero => exact absurd h.1 hne
 | succ k =>
   rcases h with ⟨h, _⟩ | ⟨g, o, c, h1⟩
   . exact absurd h hne
   . exact ⟨k, g, o, c, rfl, h1⟩
structure NodeBox (w : World) (g : Nat) (n : Px.Node) (lv : Value) : Prop where
 c0 : w.cell? ⟨g, 0, none⟩ = some (.int .i64 n.tok.kind)
 c1 : w.cell? ⟨g, 1, none⟩ = some (.int .i64 n.tok.pos)
 c2 : w.cell? ⟨g, 2, none⟩ = some (.string ⟨n.tok.text.toArray⟩)
 c3 : w.cell? ⟨g, 3, none⟩ = some (.int .i64 n.tok.int)
 c4 : w.cell? ⟨g, 4, none⟩ = some lv
 c5 : w.cell? ⟨g, 5, none⟩ = some (.int .i64 n.takes)
theorem jCX (w : World) (n : Px.Node) (lv : Value) (T : TypeId) : NodeBox (w.alloc (.cells #[.int .i64 n.tok.kind, .int .i64 n.tok.pos, .string ⟨n.tok.text.toArray⟩, .int .i64 n.tok.int, lv, .int .i64 n.takes] T)) w.heap.size n lv := by
 constructor <;> (rw [World.cell?_alloc_mark]; rfl)
theorem NodeBox.below {w w' : World} {g : Nat} {n : Px.Node} {lv : Value} (h : NodeBox w g n lv) (hb : Below w.heap.size w w') : NodeBox w' g n lv := by
 have e : ∀ j v, w.cell? ⟨g, j, none⟩ = some v -> w'.cell? ⟨g, j, none⟩ = some v := fun j v hj => by
  rw [hb.cell (World.block_lt_of_cell? w _ hj)]; exact hj
 exact ⟨e _ _ h.c0, e _ _ h.c1, e _ _ h.c2, e _ _ h.c3, e _ _ h.c4, e _ _ h.c5⟩
theorem jAR {w w' : World} {o : Obj} (hb : Below (w.alloc o).heap.size (w.alloc o) w') : Below w.heap.size w w' :=
 ((Below.refl _ _).alloc (Nat.le_refl _) o).trans (hb.mono (by simp))
def Told {α : Type} (B : World) (rep : World -> Value -> α -> Prop) (r : Px.R α) (e : Ending) (w' : World) : Prop :=
 Below B.heap.size B w' /\ match r with
  | .ok x => ∃ v, e = .returned v /\ rep w' v x
  | .error p => e = jAW p
end Go.Proofs.YtnhndamfbeiljaaGreatDoor
