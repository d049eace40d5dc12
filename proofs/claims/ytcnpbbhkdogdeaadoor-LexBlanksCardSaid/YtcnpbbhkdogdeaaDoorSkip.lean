/-
  lex.skip: its contract.
-/
import Derived.Test.YtcnpbbhkdogdeaaDoorLeaf
import Derived.Test.YtcnpbbhkdogdeaaDoorScope
namespace Go.Proofs.YtcnpbbhkdogdeaaDoor
open Go Go.RowKit

def SkJ (l : List UInt8) (b off cap tgt : Nat) (w0 : World) (lab : Nat) (a : Act) (w : World) : Prop :=
  w = w0 ∧ ∃ (k : Nat) (u5 u6 u7 u8 u9 u10 u11 u12 u13 u14 u15 u16 u17 u18 u19 u20 u21 u22 u23 u24 u25 u26 u27 u28 : Value), a = { tmps := #[.slice (some ⟨b, off, none⟩) l.length cap, .int .i64 k, undef, undef, .int .i64 0, u5, u6, u7, u8, u9, u10, u11, u12, u13, u14, u15, u16, u17, u18, u19, u20, u21, u22, u23, u24, u25, u26, u27, u28], defers := [] } ∧
    k ≤ l.length ∧ ((lab = 0 ∧ k + Lx.skipC false (l.drop k) = tgt) ∨ (lab = 1 ∧ k + Lx.skipC true (l.drop k) = tgt))

set_option maxHeartbeats 400000 in
theorem skip_some (l : List UInt8) (i : Nat) (b off cap : Nat) (w : World) (hi : i ≤ l.length) (hm : (l.length : Int) ≤ 9223372036854775806)
    (hc : ∀ j, j < l.length → w.cell? ⟨b, off + j, none⟩ = some (.int .u8 (Lx.at0 l j).toNat)) :
    Calls Tryd.prog 14 #[.slice (some ⟨b, off, none⟩) l.length cap, .int .i64 i] w fun e w' => e = .returned (.int .i64 ((i + Lx.skipC false (l.drop i) : Nat) : Int)) ∧ w = w' := by
  have Hc := Lib.hid hc; clear hc
  go_enter Tryd.func14, Tryd.ntmps14
  go_wp2
  refine wp_scope_first 0 (SkJ l b off cap (i + Lx.skipC false (l.drop i)) w) (fun lab a _ => 2 * (l.length - (intOf (a.tmps.getD 1 undef)).toNat) + lab) ?_ ?_ ?_
  · exact ⟨rfl, i, _, _, _, _, _, _, _, _, _, _, _, _, _, _, _, _, _, _, _, _, _, _, _, _, rfl, hi, .inl ⟨rfl, rfl⟩⟩
  · rintro a w' ⟨rfl, k, u5, u6, u7, u8, u9, u10, u11, u12, u13, u14, u15, u16, u17, u18, u19, u20, u21, u22, u23, u24, u25, u26, u27, u28, rfl, hk, h⟩
    have ht : k + Lx.skipC false (l.drop k) = i + Lx.skipC false (l.drop i) := by omega
    clear h
    cases hb : Lx.blankB (Lx.at0 l k)
    · by_cases hs : (Lx.at0 l k).toNat = 59
      · obtain ⟨hkl, he⟩ := Lx.skip_semi l k hs
        have hck := Hc.out k hkl
        have ht' : (k + 1) + Lx.skipC true (l.drop (k + 1)) = i + Lx.skipC false (l.drop i) := by omega
        generalize i + Lx.skipC false (l.drop i) = T at *
        have Hb := Lib.hid hb; have Ht := Lib.hid ht'; clear hb ht he ht'
        have h1 : (((Lx.at0 l k).toNat : Int) != 59) = false := by simp [hs]
        have h2 : (((Lx.at0 l k).toNat : Int) != 10) = true := by simp [hs]
        have Hs := Lib.hid hs; clear hs
        go_wp2_with fail
        refine (byteAt_any l k b off cap _ (by omega) (by omega) (by omega) Hc.out).mono ?_; rintro e w1 ⟨rfl, rfl⟩; rw [Int.toNat_natCast]
        go_wp2_with fail
        refine (isBlank_any _ _).mono ?_; rintro e w1 ⟨rfl, rfl⟩; rw [Hb.out]
        go_wp2_with fail
        refine (byteAt_any l k b off cap _ (by omega) (by omega) (by omega) Hc.out).mono ?_; rintro e w1 ⟨rfl, rfl⟩; rw [Int.toNat_natCast]
        go_wp2_with fail
        go_step3
        go_wp2
        go_step3
        exact ⟨⟨rfl, k + 1, _, _, _, _, _, _, _, _, _, _, _, _, _, _, _, _, _, _, _, _, _, _, _, _, rfl, by omega, .inr ⟨rfl, Ht.out⟩⟩, by simp [intOf]; omega⟩
      · have he := Lx.skip_end l k hb hs
        have Ht := Lib.hid (show i + Lx.skipC false (l.drop i) = k by omega); clear ht he
        have h1 : (((Lx.at0 l k).toNat : Int) != 59) = true := by simp; omega
        have Hb := Lib.hid hb; clear hb hs
        rw [Ht.out]
        go_wp2_with fail
        refine (byteAt_any l k b off cap _ (by omega) (by omega) (by omega) Hc.out).mono ?_; rintro e w1 ⟨rfl, rfl⟩; rw [Int.toNat_natCast]
        go_wp2_with fail
        refine (isBlank_any _ _).mono ?_; rintro e w1 ⟨rfl, rfl⟩; rw [Hb.out]
        go_wp2_with fail
        refine (byteAt_any l k b off cap _ (by omega) (by omega) (by omega) Hc.out).mono ?_; rintro e w1 ⟨rfl, rfl⟩; rw [Int.toNat_natCast]
        go_wp2_with fail
        rw [Exit.jumps_ret]
        go_ret
        exact ⟨by rw [Ht.out]; rfl, rfl⟩
    · obtain ⟨hkl, he⟩ := Lx.skip_blank l k hb
      have ht' : (k + 1) + Lx.skipC false (l.drop (k + 1)) = i + Lx.skipC false (l.drop i) := by omega
      generalize i + Lx.skipC false (l.drop i) = T at *
      have Hb := Lib.hid hb; have Ht := Lib.hid ht'; clear hb ht he ht'
      go_wp2_with fail
      refine (byteAt_any l k b off cap _ (by omega) (by omega) (by omega) Hc.out).mono ?_; rintro e w1 ⟨rfl, rfl⟩; rw [Int.toNat_natCast]
      go_wp2_with fail
      refine (isBlank_any _ _).mono ?_; rintro e w1 ⟨rfl, rfl⟩; rw [Hb.out]
      go_wp2_with fail
      go_step3
      exact ⟨⟨rfl, k + 1, _, _, _, _, _, _, _, _, _, _, _, _, _, _, _, _, _, _, _, _, _, _, _, _, rfl, by omega, .inl ⟨rfl, Ht.out⟩⟩, by simp [intOf]; omega⟩
  · rintro lab a w' hlab ⟨rfl, k, u5, u6, u7, u8, u9, u10, u11, u12, u13, u14, u15, u16, u17, u18, u19, u20, u21, u22, u23, u24, u25, u26, u27, u28, rfl, hk, h⟩
    obtain ⟨rfl, ht⟩ : lab = 1 ∧ k + Lx.skipC true (l.drop k) = i + Lx.skipC false (l.drop i) := by omega
    refine ⟨_, rfl, ?_⟩
    clear h
    by_cases hkl : k < l.length
    · have hck := Hc.out k hkl
      by_cases hs : (Lx.at0 l k).toNat = 10
      · have he := Lx.skip_line l k (fun _ => hs)
        rw [he] at ht; clear he
        generalize i + Lx.skipC false (l.drop i) = T at *
        have h1 : (((Lx.at0 l k).toNat : Int) != 10) = false := by simp [hs]
        have Ht := Lib.hid ht; clear ht hs
        go_wp2
        go_step3
        exact ⟨⟨rfl, k, _, _, _, _, _, _, _, _, _, _, _, _, _, _, _, _, _, _, _, _, _, _, _, _, rfl, by omega, .inl ⟨rfl, Ht.out⟩⟩, by simp [intOf]⟩
      · have he := Lx.skip_note l k hkl hs
        have ht' : (k + 1) + Lx.skipC true (l.drop (k + 1)) = i + Lx.skipC false (l.drop i) := by omega
        clear ht he
        generalize i + Lx.skipC false (l.drop i) = T at *
        have h1 : (((Lx.at0 l k).toNat : Int) != 10) = true := by simp; omega
        have Ht := Lib.hid ht'; clear ht' hs
        go_wp2
        go_step3
        exact ⟨⟨rfl, k + 1, _, _, _, _, _, _, _, _, _, _, _, _, _, _, _, _, _, _, _, _, _, _, _, _, rfl, by omega, .inr ⟨rfl, Ht.out⟩⟩, by simp [intOf]; omega⟩
    · have he := Lx.skip_line l k (fun h => absurd h hkl)
      rw [he] at ht; clear he
      generalize i + Lx.skipC false (l.drop i) = T at *
      have Ht := Lib.hid ht; clear ht
      go_wp2
      go_step3
      exact ⟨⟨rfl, k, _, _, _, _, _, _, _, _, _, _, _, _, _, _, _, _, _, _, _, _, _, _, _, _, rfl, by omega, .inl ⟨rfl, Ht.out⟩⟩, by simp [intOf]⟩
set_option maxHeartbeats 400000 in
/-- An empty slice, nil or not. -/
theorem skip_none (p : Option Addr) (cap : Nat) (w : World) :
    Calls Tryd.prog 14 #[.slice p 0 cap, .int .i64 0] w fun e w' => e = .returned (.int .i64 0) ∧ w = w' := by
  go_enter Tryd.func14, Tryd.ntmps14
  go_wp2
  refine wp_scope_first 0 (fun lab a w' => lab = 0 ∧ w' = w ∧ a = { tmps := #[.slice p 0 cap, .int .i64 0, undef, undef, .int .i64 0, undef, undef, undef, undef, undef, undef, undef, undef, undef, undef, undef, undef, undef, undef, undef, undef, undef, undef, undef, undef, undef, undef, undef, undef], defers := [] }) (fun lab _ _ => lab) ⟨rfl, rfl, rfl⟩ ?_ ?_
  · rintro a w' ⟨_, rfl, rfl⟩
    go_wp2_with fail
    refine (byteAt_out [] p 0 0 cap _ (by omega) rfl (by omega)).mono ?_; rintro e w1 ⟨rfl, rfl⟩
    go_wp2_with fail
    refine (isBlank_any _ _).mono ?_; rintro e w1 ⟨rfl, rfl⟩; rw [show Lx.blankB (Lx.at0 [] 0) = false from by decide]
    go_wp2_with fail
    refine (byteAt_out [] p 0 0 cap _ (by omega) rfl (by omega)).mono ?_; rintro e w1 ⟨rfl, rfl⟩
    have h1 : (((Lx.at0 [] 0).toNat : Int) != 59) = true := by decide
    go_wp2_with fail
    rw [Exit.jumps_ret]
    go_ret
    exact ⟨rfl, rfl⟩
  · rintro lab a w' hlab ⟨h, _⟩
    exact absurd h hlab
end Go.Proofs.YtcnpbbhkdogdeaaDoor
