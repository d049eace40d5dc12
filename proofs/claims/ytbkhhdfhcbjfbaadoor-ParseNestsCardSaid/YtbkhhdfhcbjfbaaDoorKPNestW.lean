/-
  ParseNests: its walk.
-/
import Derived.Test.YtbkhhdfhcbjfbaaDoorKPNestPure
import Derived.Test.YtbkhhdfhcbjfbaaDoorKPShE
namespace Go.Proofs.YtbkhhdfhcbjfbaaDoor
open Go Go.RowKit
set_option linter.unusedVariables false
set_option linter.unusedSimpArgs false

theorem nest_size (n : Int) (_hn : -9223372036854775808 ≤ n ∧ n ≤ 9223372036854775807) : ∃ k : Nat, 30 ≤ k ∧ k ≤ 49 ∧ wrap64 (30 + wrap64 ((IntKind.u64.wrap n).tmod 20)) = (k : Int) := by
  have h0 : 0 ≤ IntKind.u64.wrap n := by unfold IntKind.wrap; simp [IntKind.bits, IntKind.signed]; omega
  generalize IntKind.u64.wrap n = m at *
  rw [Int.tmod_eq_emod_of_nonneg h0]
  refine ⟨(30 + m % 20).toNat, by omega, by omega, ?_⟩
  unfold wrap64; omega

set_option maxHeartbeats 4000000 in
set_option maxRecDepth 100000 in
theorem parseNests_walk (n : Int) (b : Bool) (w : World) (hn : -9223372036854775808 ≤ n ∧ n ≤ 9223372036854775807) (htab : Lib.TabIs Tryd.prog w "internal/strconv.uint64pow10" .u64 Lib.pow10Tab) :
    Calls Tryd.prog 4 #[.int .i64 n, .bool b] w fun e w' => e = .returned (.bool true) ∧ Below w.heap.size w w' := by
  obtain ⟨k, hk1, hk2, hk⟩ := nest_size n hn
  have HK := Lib.hid hk; have HTAB := Lib.hid htab
  clear hn hk htab
  go_enter Tryd.func4, Tryd.ntmps4
  go_wp2_with fail
  refine (livesP_any _).mono ?_
  rintro e w1 ⟨rfl, hb1⟩
  have HB1 := Lib.hid hb1; clear hb1
  go_wp2_with fail
  rw [HK.out]
  clear HK
  go_loopw [6, 18] (fun s i wr => wr = w1 ∧ ∃ j : Nat, i = .int .i64 j ∧ j ≤ k ∧ s = .string ⟨(Px.nestPre j).toArray⟩) (fun _ i _ => k - (intOf i).toNat)
  case atStart => exact ⟨rfl, 0, rfl, Nat.zero_le _, rfl⟩
  case round =>
    obtain ⟨rfl, j, rfl, hj, rfl⟩ := hrel
    have hl := Px.nestPre_len j
    have hs := Px.nestPre_snoc j
    have HS := Lib.hid hs; clear hs
    by_cases hlt : j < k
    · generalize Px.nestPre j = S at *
      have s1 := sum_text (w := wr) S [40, 114, 101, 32] (by simp only [List.length_cons, List.length_nil]; omega)
      rw [← HS.out] at s1
      clear hl
      go_wp2_with fail
      go_roundw
      case rel => exact ⟨by trivial, j + 1, by go_num, by omega, rfl⟩
      case measure => simp [intOf]; omega
    · obtain rfl : j = k := by omega
      clear HS
      obtain ⟨S, hS⟩ : ∃ S, S = Px.nestPre j := ⟨_, rfl⟩
      rw [← hS] at hl ⊢
      have HS := Lib.hid hS; have HL := Lib.hid hl
      obtain ⟨T, hT⟩ : ∃ T : List UInt8, T = [49] := ⟨_, rfl⟩
      have hTl : T.length = 1 := by rw [hT]; rfl
      have s1 : (Op.stringOp .add ⟨S.toArray⟩ ⟨#[49]⟩).run Tryd.prog wr = .ok (.string ⟨(S ++ T).toArray⟩) wr := by rw [hT]; exact sum_text (w := wr) S [49] (by simp only [List.length_cons, List.length_nil]; omega)
      have HT := Lib.hid hT
      clear hT
      clear hS hl
      obtain ⟨V, hV⟩ : ∃ V, V = wr := ⟨_, rfl⟩
      subst hV
      go_wp2_with fail
      go_loopw [6, 26] (fun s i wr => wr = V ∧ ∃ c : Nat, i = .int .i64 c ∧ c ≤ j ∧ s = .string ⟨(S ++ (T ++ List.replicate c 41)).toArray⟩) (fun _ i _ => j - (intOf i).toNat)
      case atStart => exact ⟨rfl, 0, rfl, Nat.zero_le _, by simp⟩
      case round =>
        obtain ⟨rfl, c, rfl, hc, rfl⟩ := hrel
        clear s1
        by_cases hlt2 : c < j
        · have hll := HL.out
          have s1 := sum_text (w := wr) (S ++ (T ++ List.replicate c 41)) [41] (by simp only [List.length_append, List.length_replicate, List.length_cons, List.length_nil]; omega)
          have e1 : S ++ (T ++ List.replicate c 41) ++ [41] = S ++ (T ++ List.replicate (c + 1) 41) := by rw [List.replicate_succ', List.append_assoc, List.append_assoc]
          rw [e1] at s1
          clear e1 hll
          go_wp2_with fail
          go_roundw
          case rel => exact ⟨by trivial, c + 1, by go_num, by omega, rfl⟩
          case measure => simp [intOf]; omega
        · obtain rfl : c = j := by omega
          obtain ⟨W, hW⟩ : ∃ W, W = S ++ (T ++ List.replicate c 41) := ⟨_, rfl⟩
          have hWl : W.length = 5 * c + 1 := by rw [hW]; have := HL.out; simp only [List.length_append, List.length_replicate]; omega
          rw [← hW]
          have HW := Lib.hid hW
          clear hW
          have hSV := HS.out
          cases b with
          | true =>
            obtain ⟨V1, hV1⟩ : ∃ V1, V1 = S ++ (T ++ List.replicate (c - 1) 41) := ⟨_, rfl⟩
            have hV1l : V1.length = 5 * c := by rw [hV1]; have := HL.out; simp only [List.length_append, List.length_replicate]; omega
            have hWV : W = V1 ++ [41] := by
              rw [HW.out, hV1, List.append_assoc, List.append_assoc, ← List.replicate_succ']
              congr 3; omega
            have hex : (ByteArray.mk W.toArray).extract 0 (5 * c) = ⟨V1.toArray⟩ := by
              apply ByteArray.ext
              rw [hWV]
              simp [ByteArray.data_extract, List.extract_eq_take_drop, List.take_append_of_le_length, ← hV1l]
            have HV1 := Lib.hid hV1; have HV1L := Lib.hid hV1l
            have hcv := conv_text wr V1
            have he := expr_of_text wr V1 (by omega)
            have HE := Lib.hid he
            clear he hWV hV1
            by_cases h40 : 40 < c
            · have hpx : Px.exprOf V1 = .parse 160 := by rw [HV1.out, hSV, HT.out]; exact Px.nest_many c (c - 1) (by omega) (by omega) h40
              have hb40 : decide ((40 : Int) < (c : Int)) = true := by simp; omega
              have HPX := Lib.hid hpx
              clear hpx hSV
              go_wp2_with fail
              have hee := HE.out
              rw [HV1L.out] at hee
              refine hee.mono ?_
              rintro e w3 ⟨hb3, hres⟩
              rw [HPX.out] at hres
              obtain rfl : e = _ := hres
              have HB3 := Lib.hid (HB1.out.trans ((Lib.bytesWorld_below wr 5 ⟨V1.toArray⟩).trans (hb3.mono (by rw [Lib.bytesWorld_size]; omega)) |>.mono HB1.out.size))
              clear hb3 HE hcv hex hee
              go_wp2_with fail
              go_ret
              exact ⟨rfl, HB3.out.alloc HB3.out.size _⟩
            · have hpx : Px.exprOf V1 = .parse (5 * c) := by
                rw [HV1.out, hSV, HT.out, Px.nest_unclosed c (c - 1) (by omega) (by omega), ← hSV, ← HT.out, ← HV1.out, HV1L.out]
              have hb40 : decide ((40 : Int) < (c : Int)) = false := by simp; omega
              have HPX := Lib.hid hpx
              clear hpx hSV
              go_wp2_with fail
              have hee := HE.out
              rw [HV1L.out] at hee
              refine hee.mono ?_
              rintro e w3 ⟨hb3, hres⟩
              rw [HPX.out] at hres
              obtain rfl : e = _ := hres
              have HB3 := Lib.hid (HB1.out.trans ((Lib.bytesWorld_below wr 5 ⟨V1.toArray⟩).trans (hb3.mono (by rw [Lib.bytesWorld_size]; omega)) |>.mono HB1.out.size))
              clear hb3 HE hcv hex hee
              go_wp2_with fail
              go_ret
              exact ⟨rfl, HB3.out.alloc HB3.out.size _⟩
          | false =>
            have hcv := conv_text wr W
            have he := expr_of_text wr W (by omega)
            have HE := Lib.hid he
            clear he
            by_cases h40 : 40 < c
            · have hpx : Px.exprOf W = .parse 160 := by rw [HW.out, hSV, HT.out]; exact Px.nest_many c c (by omega) (by omega) h40
              have hb40 : decide ((40 : Int) < (c : Int)) = true := by simp; omega
              have HPX := Lib.hid hpx
              clear hpx hSV
              go_wp2_with fail
              have hee := HE.out
              rw [hWl] at hee
              refine hee.mono ?_
              rintro e w3 ⟨hb3, hres⟩
              rw [HPX.out] at hres
              obtain rfl : e = _ := hres
              have HB3 := Lib.hid (HB1.out.trans ((Lib.bytesWorld_below wr 5 ⟨W.toArray⟩).trans (hb3.mono (by rw [Lib.bytesWorld_size]; omega)) |>.mono HB1.out.size))
              clear hb3 HE hcv hee
              go_wp2_with fail
              go_ret
              exact ⟨rfl, HB3.out.alloc HB3.out.size _⟩
            · have hpx : Px.exprOf W = .done (Px.nestExpr 0 c) := by rw [HW.out, hSV, HT.out]; exact Px.nest_closed c (by omega)
              have hsh : Px.showE 50 (Px.nestExpr 0 c) = W := by rw [HW.out, hSV, HT.out]; exact Px.nest_show c 0 50 (by omega)
              have hb40 : decide ((40 : Int) < (c : Int)) = false := by simp; omega
              have HPX := Lib.hid hpx; have HSH := Lib.hid hsh
              clear hpx hSV hsh
              go_wp2_with fail
              have hee := HE.out
              rw [hWl] at hee
              refine hee.mono ?_
              rintro e w3 ⟨hb3, hres⟩
              rw [HPX.out] at hres
              obtain ⟨v, rfl, hnew⟩ := hres
              have hexp := hnew.now
              have HB3 := Lib.hid (HB1.out.trans ((Lib.bytesWorld_below wr 5 ⟨W.toArray⟩).trans (hb3.mono (by rw [Lib.bytesWorld_size]; omega)) |>.mono HB1.out.size))
              clear hnew hb3 HE hcv hee
              obtain ⟨xk, xp, xi, xs, q1, n1, c1, q2, n2, c2, q3, n3, c3, rfl⟩ := exprAt_form 50 _ _ _ hexp
              have HEX := Lib.hid hexp; clear hexp
              have hal : Below w3.heap.size w3 (w3.alloc (.cells #[.int .i64 xk, .int .i64 xp, .string xs, .int .i64 xi, .slice q1 n1 c1, .slice q2 n2 c2, .slice q3 n3 c3] 38)) := (Below.refl _ _).alloc (Nat.le_refl _) _
              have HALW := Lib.hid hal; clear hal
              go_wp2_with fail
              have hsw := show_any 50 _ _ _ (exprAt_below HEX.out HALW.out) (Px.nest_good c 0 50 (by omega)) (by rw [HSH.out]; omega) ((Lib.tabBelow_of_tabIs HTAB.out) _ (HB3.out.trans (HALW.out.mono HB3.out.size)))
              rw [HSH.out] at hsw
              refine hsw.mono ?_
              rintro e w4 ⟨rfl, hb4⟩
              have HB4 := Lib.hid ((HB3.out.trans (HALW.out.mono HB3.out.size)).trans (hb4.mono (HB3.out.trans (HALW.out.mono HB3.out.size)).size))
              clear hsw hb4
              go_wp2_with fail
              go_ret
              exact ⟨rfl, HB4.out⟩

theorem parseNests_row (w : World) (n : Int) (hn : (Lit.int .i64 n).wf = true) (b : Bool) (hL : laidMetH Tryd.prog laidList w) :
    Calls Tryd.prog 4 #[.int .i64 n, .bool b] w fun e w' => e = .returned (.bool true) ∧ Below w.heap.size w w' :=
  parseNests_walk n b w (by simpa [Lit.wf, IntKind.min, IntKind.max, IntKind.bits, IntKind.signed] using hn) (pow_table hL)
end Go.Proofs.YtbkhhdfhcbjfbaaDoor
