/-
  lex.read: its contract.
-/
import Derived.Test.YtnhndamfbeiljaaGreatDoorGLex
import Derived.Test.YtnhndamfbeiljaaGreatDoorGPure
namespace Go.Proofs.YtnhndamfbeiljaaGreatDoor
open Go Go.RowKit
set_option linter.unusedVariables false
set_option linter.unusedSimpArgs false

def RdJ (l : List UInt8) (b off cap i : Nat) (w0 : World) (lab : Nat) (a : Act) (w : World) : Prop :=
  w = w0 ∧ ∃ (K : Int) (E D : Nat) (u7 u8 u9 u10 u11 u12 u13 u14 u15 u16 u17 u18 u19 u20 u21 u22 u23 u24 u25 u26 u27 u28 u29 u30 u31 u32 u33 u34 u35 u36 u37 u38 u39 u40 u41 u42 u43 u44 u45 u46 u47 u48 u49 u50 u51 u52 u53 u54 u55 u56 u57 u58 u59 u60 u61 u62 u63 u64 u65 u66 u67 u68 u69 u70 u71 u72 u73 : Value), a = { tmps := #[.slice (some ⟨b, off, none⟩) l.length cap, .int .i64 i, undef, undef, .int .i64 K, .int .i64 E, .int .i64 D, u7, u8, u9, u10, u11, u12, u13, u14, u15, u16, u17, u18, u19, u20, u21, u22, u23, u24, u25, u26, u27, u28, u29, u30, u31, u32, u33, u34, u35, u36, u37, u38, u39, u40, u41, u42, u43, u44, u45, u46, u47, u48, u49, u50, u51, u52, u53, u54, u55, u56, u57, u58, u59, u60, u61, u62, u63, u64, u65, u66, u67, u68, u69, u70, u71, u72, u73], defers := [] } ∧
    i < E ∧ E ≤ l.length ∧ Lx.RdR l i lab K E D

def rdRank (lab : Nat) : Nat := if lab = 0 then 7 else if lab = 1 then 6 else if lab = 2 then 6 else if lab = 3 then 3 else 0

theorem ret_two {a a' b b' : Int} (h : a = a') (h' : b = b') : Ending.returned (.tuple #[.int .i64 a, .int .i64 b]) = .returned (.tuple #[.int .i64 a', .int .i64 b']) := by rw [h, h']

set_option maxHeartbeats 2000000 in
set_option maxRecDepth 100000 in
theorem read_some (l : List UInt8) (i : Nat) (b off cap : Nat) (w : World) (hi : i < l.length) (hm : (l.length : Int) ≤ 9223372036854775800)
    (hc : ∀ j, j < l.length → w.cell? ⟨b, off + j, none⟩ = some (.int .u8 (Lx.at0 l j).toNat)) :
    Calls Tryz.prog 83 #[.slice (some ⟨b, off, none⟩) l.length cap, .int .i64 i] w fun e w' => e = .returned (.tuple #[.int .i64 (Lx.tokAt (l.drop i)).1, .int .i64 ((i + (Lx.tokAt (l.drop i)).2 : Nat) : Int)]) ∧ w = w' := by
  have hci := hc i hi
  have Hc := Lib.hid hc; clear hc
  go_enter Tryz.func83, Tryz.ntmps83
  go_wp2
  refine wp_scope_labels (RdJ l b off cap i w) (fun lab a _ => 8 * (l.length - (intOf (a.tmps.getD 5 undef)).toNat) + rdRank lab) ?_ ?_
  · by_cases h45 : (Lx.at0 l i).toNat = 45
    · have Hr := Lib.hid (Lx.rd_minus (K := 0) h45)
      have h1 : (((Lx.at0 l i).toNat : Int) == 45) = true := by simp [h45]
      clear h45
      go_wp2_with fail
      go_step3
      exact ⟨rfl, 0, (i + 1), i, _, _, _, _, _, _, _, _, _, _, _, _, _, _, _, _, _, _, _, _, _, _, _, _, _, _, _, _, _, _, _, _, _, _, _, _, _, _, _, _, _, _, _, _, _, _, _, _, _, _, _, _, _, _, _, _, _, _, _, _, _, _, _, _, _, _, _, rfl, by omega, by omega, Hr.out⟩
    · have h1 : (((Lx.at0 l i).toNat : Int) == 45) = false := by simp; omega
      cases hd : Lx.digitB (Lx.at0 l i)
      · cases hs : Lx.smallB (Lx.at0 l i)
        · cases hg : Lx.greatB (Lx.at0 l i)
          · have Hr := Lib.hid (Lx.rd_other (K := 0) (D := i) h45 hd hs hg)
            have Hd := Lib.hid hd; have Hs := Lib.hid hs; have Hg := Lib.hid hg; clear hd hs hg h45
            go_wp2_with fail
            refine (isDigit_any _ _).mono ?_; rintro e w1 ⟨rfl, rfl⟩; rw [Hd.out]
            go_wp2_with fail
            refine (isSmall_any _ _).mono ?_; rintro e w1 ⟨rfl, rfl⟩; rw [Hs.out]
            go_wp2_with fail
            refine (isGreat_any _ _).mono ?_; rintro e w1 ⟨rfl, rfl⟩; rw [Hg.out]
            go_wp2_with fail
            go_step3
            exact ⟨rfl, 0, (i + 1), i, _, _, _, _, _, _, _, _, _, _, _, _, _, _, _, _, _, _, _, _, _, _, _, _, _, _, _, _, _, _, _, _, _, _, _, _, _, _, _, _, _, _, _, _, _, _, _, _, _, _, _, _, _, _, _, _, _, _, _, _, _, _, _, _, _, _, _, rfl, by omega, by omega, Hr.out⟩
          · have Hr := Lib.hid (Lx.rd_great (D := i) h45 hd hs hg)
            have Hd := Lib.hid hd; have Hs := Lib.hid hs; have Hg := Lib.hid hg; clear hd hs hg h45
            go_wp2_with fail
            refine (isDigit_any _ _).mono ?_; rintro e w1 ⟨rfl, rfl⟩; rw [Hd.out]
            go_wp2_with fail
            refine (isSmall_any _ _).mono ?_; rintro e w1 ⟨rfl, rfl⟩; rw [Hs.out]
            go_wp2_with fail
            refine (isGreat_any _ _).mono ?_; rintro e w1 ⟨rfl, rfl⟩; rw [Hg.out]
            go_wp2_with fail
            go_step3
            exact ⟨rfl, 4, (i + 1), i, _, _, _, _, _, _, _, _, _, _, _, _, _, _, _, _, _, _, _, _, _, _, _, _, _, _, _, _, _, _, _, _, _, _, _, _, _, _, _, _, _, _, _, _, _, _, _, _, _, _, _, _, _, _, _, _, _, _, _, _, _, _, _, _, _, _, _, rfl, by omega, by omega, Hr.out⟩
        · have Hr := Lib.hid (Lx.rd_small (D := i) h45 hd hs)
          have Hd := Lib.hid hd; have Hs := Lib.hid hs; clear hd hs h45
          go_wp2_with fail
          refine (isDigit_any _ _).mono ?_; rintro e w1 ⟨rfl, rfl⟩; rw [Hd.out]
          go_wp2_with fail
          refine (isSmall_any _ _).mono ?_; rintro e w1 ⟨rfl, rfl⟩; rw [Hs.out]
          go_wp2_with fail
          go_step3
          exact ⟨rfl, 3, (i + 1), i, _, _, _, _, _, _, _, _, _, _, _, _, _, _, _, _, _, _, _, _, _, _, _, _, _, _, _, _, _, _, _, _, _, _, _, _, _, _, _, _, _, _, _, _, _, _, _, _, _, _, _, _, _, _, _, _, _, _, _, _, _, _, _, _, _, _, _, rfl, by omega, by omega, Hr.out⟩
      · have Hr := Lib.hid (Lx.rd_digit (K := 0) h45 hd)
        have Hd := Lib.hid hd; clear hd h45
        go_wp2_with fail
        refine (isDigit_any _ _).mono ?_; rintro e w1 ⟨rfl, rfl⟩; rw [Hd.out]
        go_wp2_with fail
        go_step3
        exact ⟨rfl, 0, (i + 1), i, _, _, _, _, _, _, _, _, _, _, _, _, _, _, _, _, _, _, _, _, _, _, _, _, _, _, _, _, _, _, _, _, _, _, _, _, _, _, _, _, _, _, _, _, _, _, _, _, _, _, _, _, _, _, _, _, _, _, _, _, _, _, _, _, _, _, _, rfl, by omega, by omega, Hr.out⟩
  · rintro lab a w' ⟨rfl, K, E, D, u7, u8, u9, u10, u11, u12, u13, u14, u15, u16, u17, u18, u19, u20, u21, u22, u23, u24, u25, u26, u27, u28, u29, u30, u31, u32, u33, u34, u35, u36, u37, u38, u39, u40, u41, u42, u43, u44, u45, u46, u47, u48, u49, u50, u51, u52, u53, u54, u55, u56, u57, u58, u59, u60, u61, u62, u63, u64, u65, u66, u67, u68, u69, u70, u71, u72, u73, rfl, hE, hEl, h⟩
    rcases h.lab_le with rfl | rfl | rfl | rfl | rfl
    · refine ⟨_, rfl, ?_⟩
      obtain ⟨hE1, hD, h45⟩ := h.of0
      clear h hD
      by_cases hgt : (Lx.at0 l E).toNat = 62
      · obtain ⟨ht, hEl'⟩ := Lx.rd_arrow' hE1 h45 hgt
        have Hr := Lib.hid ht; have HE := Lib.hid hE1
        have h1 : (((Lx.at0 l E).toNat : Int) == 62) = true := by simp [hgt]
        clear ht hE1 hgt h45
        go_wp2_with fail
        refine (byteAt_any l E b off cap _ (by omega) (by omega) (by omega) Hc.out).mono ?_; rintro e w1 ⟨rfl, rfl⟩; rw [Int.toNat_natCast]
        go_wp2_with fail
        rw [Exit.jumps_ret]
        go_ret2
        exact ⟨by rw [Hr.out, HE.out]; exact ret_two rfl (by simp only []; omega), rfl⟩
      · have h1 : (((Lx.at0 l E).toNat : Int) == 62) = false := by simp; omega
        cases hdd : Lx.digitB (Lx.at0 l E)
        · have Hr := Lib.hid (Lx.rd_lone' (K := K) (D := D) hE1 h45 hgt hdd)
          have Hdd := Lib.hid hdd
          clear hE1 h45 hgt hdd
          go_wp2_with fail
          refine (byteAt_any l E b off cap _ (by omega) (by omega) (by omega) Hc.out).mono ?_; rintro e w1 ⟨rfl, rfl⟩; rw [Int.toNat_natCast]
          go_wp2_with fail
          refine (byteAt_any l E b off cap _ (by omega) (by omega) (by omega) Hc.out).mono ?_; rintro e w1 ⟨rfl, rfl⟩; rw [Int.toNat_natCast]
          go_wp2_with fail
          refine (isDigit_any _ _).mono ?_; rintro e w1 ⟨rfl, rfl⟩; rw [Hdd.out]
          go_wp2_with fail
          go_step3
          exact ⟨⟨rfl, K, E, D, _, _, _, _, _, _, _, _, _, _, _, _, _, _, _, _, _, _, _, _, _, _, _, _, _, _, _, _, _, _, _, _, _, _, _, _, _, _, _, _, _, _, _, _, _, _, _, _, _, _, _, _, _, _, _, _, _, _, _, _, _, _, _, _, _, _, _, rfl, by omega, by omega, Hr.out⟩, by simp [intOf, rdRank] <;> omega⟩
        · obtain ⟨hk, h'⟩ := Lx.rd_more (Lx.rd_neg' (K := K) hE1 h45 hgt hdd) hdd
          have Hdd := Lib.hid hdd
          have Hr := Lib.hid h'
          clear hE1 h45 hgt hdd h'
          go_wp2_with fail
          refine (byteAt_any l E b off cap _ (by omega) (by omega) (by omega) Hc.out).mono ?_; rintro e w1 ⟨rfl, rfl⟩; rw [Int.toNat_natCast]
          go_wp2_with fail
          refine (byteAt_any l E b off cap _ (by omega) (by omega) (by omega) Hc.out).mono ?_; rintro e w1 ⟨rfl, rfl⟩; rw [Int.toNat_natCast]
          go_wp2_with fail
          refine (isDigit_any _ _).mono ?_; rintro e w1 ⟨rfl, rfl⟩; rw [Hdd.out]
          go_wp2_with fail
          go_step3
          go_wp2_with fail
          refine (byteAt_any l E b off cap _ (by omega) (by omega) (by omega) Hc.out).mono ?_; rintro e w1 ⟨rfl, rfl⟩; rw [Int.toNat_natCast]
          go_wp2_with fail
          refine (isDigit_any _ _).mono ?_; rintro e w1 ⟨rfl, rfl⟩; rw [Hdd.out]
          go_wp2_with fail
          go_step3
          exact ⟨⟨rfl, K, (E + 1), E, _, _, _, _, _, _, _, _, _, _, _, _, _, _, _, _, _, _, _, _, _, _, _, _, _, _, _, _, _, _, _, _, _, _, _, _, _, _, _, _, _, _, _, _, _, _, _, _, _, _, _, _, _, _, _, _, _, _, _, _, _, _, _, _, _, _, _, rfl, by omega, by omega, Hr.out⟩, by simp [intOf, rdRank] <;> omega⟩
    · refine ⟨_, rfl, ?_⟩
      cases hd : Lx.digitB (Lx.at0 l E)
      · have hbd := Lx.rd_bounds h
        by_cases hl : 18 < E - D
        · have Hr := Lib.hid (Lx.rd_long h hd hl); clear h
          have Hd := Lib.hid hd; clear hd
          have hl2 : (18 : Int) < (E : Int) - D := by omega
          go_wp2_with fail
          refine (byteAt_any l E b off cap _ (by omega) (by omega) (by omega) Hc.out).mono ?_; rintro e w1 ⟨rfl, rfl⟩; rw [Int.toNat_natCast]
          go_wp2_with fail
          refine (isDigit_any _ _).mono ?_; rintro e w1 ⟨rfl, rfl⟩; rw [Hd.out]
          go_wp2_with fail
          go_step3
          exact ⟨⟨rfl, K, E, D, _, _, _, _, _, _, _, _, _, _, _, _, _, _, _, _, _, _, _, _, _, _, _, _, _, _, _, _, _, _, _, _, _, _, _, _, _, _, _, _, _, _, _, _, _, _, _, _, _, _, _, _, _, _, _, _, _, _, _, _, _, _, _, _, _, _, _, rfl, by omega, by omega, Hr.out⟩, by simp [intOf, rdRank] <;> omega⟩
        · have hl2 : ¬ (18 : Int) < (E : Int) - D := by omega
          cases hw : Lx.wordB (Lx.at0 l E)
          · have Hr := Lib.hid (Lx.rd_num h hd hl hw); clear h hl
            have Hd := Lib.hid hd; clear hd
            have Hw := Lib.hid hw; clear hw
            go_wp2_with fail
            refine (byteAt_any l E b off cap _ (by omega) (by omega) (by omega) Hc.out).mono ?_; rintro e w1 ⟨rfl, rfl⟩; rw [Int.toNat_natCast]
            go_wp2_with fail
            refine (isDigit_any _ _).mono ?_; rintro e w1 ⟨rfl, rfl⟩; rw [Hd.out]
            go_wp2_with fail
            refine (byteAt_any l E b off cap _ (by omega) (by omega) (by omega) Hc.out).mono ?_; rintro e w1 ⟨rfl, rfl⟩; rw [Int.toNat_natCast]
            go_wp2_with fail
            refine (isInWord_any _ _).mono ?_; rintro e w1 ⟨rfl, rfl⟩; rw [Hw.out]
            go_wp2_with fail
            rw [Exit.jumps_ret]
            go_ret2
            exact ⟨by rw [Hr.out]; exact ret_two rfl (by simp only []; omega), rfl⟩
          · have Hr := Lib.hid (Lx.rd_tied h hd hw); clear h hl
            have Hd := Lib.hid hd; clear hd
            have Hw := Lib.hid hw; clear hw
            go_wp2_with fail
            refine (byteAt_any l E b off cap _ (by omega) (by omega) (by omega) Hc.out).mono ?_; rintro e w1 ⟨rfl, rfl⟩; rw [Int.toNat_natCast]
            go_wp2_with fail
            refine (isDigit_any _ _).mono ?_; rintro e w1 ⟨rfl, rfl⟩; rw [Hd.out]
            go_wp2_with fail
            refine (byteAt_any l E b off cap _ (by omega) (by omega) (by omega) Hc.out).mono ?_; rintro e w1 ⟨rfl, rfl⟩; rw [Int.toNat_natCast]
            go_wp2_with fail
            refine (isInWord_any _ _).mono ?_; rintro e w1 ⟨rfl, rfl⟩; rw [Hw.out]
            go_wp2_with fail
            go_step3
            exact ⟨⟨rfl, K, E, D, _, _, _, _, _, _, _, _, _, _, _, _, _, _, _, _, _, _, _, _, _, _, _, _, _, _, _, _, _, _, _, _, _, _, _, _, _, _, _, _, _, _, _, _, _, _, _, _, _, _, _, _, _, _, _, _, _, _, _, _, _, _, _, _, _, _, _, rfl, by omega, by omega, Hr.out⟩, by simp [intOf, rdRank] <;> omega⟩
      · obtain ⟨hk, h'⟩ := Lx.rd_more h hd
        have Hr := Lib.hid h'; clear h h'
        have Hd := Lib.hid hd; clear hd
        go_wp2_with fail
        refine (byteAt_any l E b off cap _ (by omega) (by omega) (by omega) Hc.out).mono ?_; rintro e w1 ⟨rfl, rfl⟩; rw [Int.toNat_natCast]
        go_wp2_with fail
        refine (isDigit_any _ _).mono ?_; rintro e w1 ⟨rfl, rfl⟩; rw [Hd.out]
        go_wp2_with fail
        go_step3
        exact ⟨⟨rfl, K, (E + 1), D, _, _, _, _, _, _, _, _, _, _, _, _, _, _, _, _, _, _, _, _, _, _, _, _, _, _, _, _, _, _, _, _, _, _, _, _, _, _, _, _, _, _, _, _, _, _, _, _, _, _, _, _, _, _, _, _, _, _, _, _, _, _, _, _, _, _, _, rfl, by omega, by omega, Hr.out⟩, by simp [intOf, rdRank] <;> omega⟩
    · refine ⟨_, rfl, ?_⟩
      cases hw : Lx.wordB (Lx.at0 l E)
      · have Hr := Lib.hid (Lx.rd_word h hw); clear h
        have Hw := Lib.hid hw; clear hw
        go_wp2_with fail
        refine (byteAt_any l E b off cap _ (by omega) (by omega) (by omega) Hc.out).mono ?_; rintro e w1 ⟨rfl, rfl⟩; rw [Int.toNat_natCast]
        go_wp2_with fail
        refine (isInWord_any _ _).mono ?_; rintro e w1 ⟨rfl, rfl⟩; rw [Hw.out]
        go_wp2_with fail
        rw [Exit.jumps_ret]
        go_ret2
        exact ⟨by rw [Hr.out]; exact ret_two rfl (by simp only []; omega), rfl⟩
      · obtain ⟨hk, h'⟩ := Lx.rd_letter h hw
        have Hr := Lib.hid h'; clear h h'
        have Hw := Lib.hid hw; clear hw
        go_wp2_with fail
        refine (byteAt_any l E b off cap _ (by omega) (by omega) (by omega) Hc.out).mono ?_; rintro e w1 ⟨rfl, rfl⟩; rw [Int.toNat_natCast]
        go_wp2_with fail
        refine (isInWord_any _ _).mono ?_; rintro e w1 ⟨rfl, rfl⟩; rw [Hw.out]
        go_wp2_with fail
        go_step3
        exact ⟨⟨rfl, K, (E + 1), D, _, _, _, _, _, _, _, _, _, _, _, _, _, _, _, _, _, _, _, _, _, _, _, _, _, _, _, _, _, _, _, _, _, _, _, _, _, _, _, _, _, _, _, _, _, _, _, _, _, _, _, _, _, _, _, _, _, _, _, _, _, _, _, _, _, _, _, rfl, by omega, by omega, Hr.out⟩, by simp [intOf, rdRank] <;> omega⟩
    · refine ⟨_, rfl, ?_⟩
      by_cases hs : Lx.single (Lx.at0 l i) < 0
      · have Hr := Lib.hid (Lx.rd_none h hs); clear h
        go_wp2_with fail
        refine (singleKind_any _ _).mono ?_; rintro e w1 ⟨rfl, rfl⟩
        go_wp2_with fail
        go_step3
        exact ⟨⟨rfl, _, E, D, _, _, _, _, _, _, _, _, _, _, _, _, _, _, _, _, _, _, _, _, _, _, _, _, _, _, _, _, _, _, _, _, _, _, _, _, _, _, _, _, _, _, _, _, _, _, _, _, _, _, _, _, _, _, _, _, _, _, _, _, _, _, _, _, _, _, _, rfl, by omega, by omega, Hr.out⟩, by simp [intOf, rdRank] <;> omega⟩
      · have Hr := Lib.hid (Lx.rd_one h hs)
        have hE1 := h.of3.1
        have HE := Lib.hid hE1
        clear h hE1
        go_wp2_with fail
        refine (singleKind_any _ _).mono ?_; rintro e w1 ⟨rfl, rfl⟩
        go_wp2_with fail
        rw [Exit.jumps_ret]
        go_ret2
        exact ⟨by rw [Hr.out, HE.out]; rfl, rfl⟩
    · refine ⟨_, rfl, ?_⟩
      have Hr := Lib.hid h.of4; clear h
      go_wp2_with fail
      rw [Exit.jumps_ret]
      go_ret2
      exact ⟨by rw [Hr.out]; rfl, rfl⟩
end Go.Proofs.YtnhndamfbeiljaaGreatDoor
