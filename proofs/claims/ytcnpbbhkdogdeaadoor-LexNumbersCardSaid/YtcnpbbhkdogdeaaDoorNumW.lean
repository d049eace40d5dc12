/-
  LexNumbers: its walk.
-/
import Derived.Test.YtcnpbbhkdogdeaaDoorOwn
import Derived.Test.YtcnpbbhkdogdeaaDoorLaid
import Derived.Test.YtcnpbbhkdogdeaaDoorNumPure
import Derived.Lib.AppendIntMem
import Derived.Stop.LaidErr
import Derived.Lib.ConvBytes
import Derived.Lib.ItoaLen
import Derived.Lib.ItoaMem
namespace Go.Proofs.YtcnpbbhkdogdeaaDoor
open Go Go.RowKit

theorem gPow : Tryd.prog.globalNamed "internal/strconv.uint64pow10" = some 0 := by kernel_rfl
theorem gPowType : (Tryd.prog.globals[0]?).map (·.type) = some 67 := by kernel_rfl
theorem cellsPow : Tryd.prog.cellsOf 67 = 20 := by kernel_rfl
theorem cellsU64 : Tryd.prog.cellsOf 59 = 1 := by kernel_rfl

theorem pow_table {W : World} (h : laidMetH Tryd.prog laidList W) : Lib.TabIs Tryd.prog W "internal/strconv.uint64pow10" .u64 Lib.pow10Tab := by
  have h2 := laidMet.tail (laidMet.tail h)
  exact Lib.tabIs_of_head gPow gPowType Tryd.underlying67 Tryd.underlying59 cellsU64 cellsPow h2

theorem formatInt_any (n : Int) (h0 : -9223372036854775808 ≤ n) (h1 : n ≤ 9223372036854775807) (w : World) (htab : Lib.TabIs Tryd.prog w "internal/strconv.uint64pow10" .u64 Lib.pow10Tab) :
    Calls Tryd.prog 13 #[.int .i64 n, .int .i64 10] w fun e w' => e = .returned (.string ⟨(Lib.itoa n).toArray⟩) ∧ Below w.heap.size w w' := by
  refine (Tryd.strconv_FormatInt_10 n h0 h1 w htab).mono ?_
  rintro e w' ⟨rfl, k, os, rfl⟩
  exact ⟨rfl, Lib.below_grow _ _ (Nat.le_refl _) _ _⟩

theorem num_mod (n : Int) : ∃ m : Int, n.tmod 1000000000000000000 = m ∧ -1000000000000000000 < m ∧ m < 1000000000000000000 := by
  refine ⟨_, rfl, ?_, ?_⟩
  · have := Int.lt_tmod_of_pos n (show (0 : Int) < 1000000000000000000 by omega); omega
  · exact Int.tmod_lt_of_pos n (by omega)
theorem num_max (m : Int) (h1 : -1000000000000000000 < m) (h2 : m < 1000000000000000000) : max m (wrap64 (-m)) = (m.natAbs : Int) := by
  unfold wrap64; omega

theorem add_text {w : World} (c : UInt8) (l : List UInt8) (h : l.length ≤ 1000) : (Op.stringOp .add ⟨#[c]⟩ ⟨l.toArray⟩).run Tryd.prog w = .ok (.string ⟨(c :: l).toArray⟩) w := by
  refine (run_string_add_sum (P := Tryd.prog) w ⟨#[c]⟩ ⟨l.toArray⟩ (by simp [ByteArray.size]; omega)).trans ?_
  congr 2

theorem dec_len (u : Nat) (h : u < 1000000000000000000) : (Lib.decDigits u).length ≤ 20 := by
  rw [Lib.decDigits_length]; exact Lib.nDigits_le20 u (by omega)

set_option maxHeartbeats 2000000 in
set_option maxRecDepth 100000 in
theorem lexNumbers_walk (n : Int) (c : UInt8) (w : World) (htab : Lib.TabIs Tryd.prog w "internal/strconv.uint64pow10" .u64 Lib.pow10Tab) :
    Calls Tryd.prog 8 #[.int .i64 n, .int .u8 c.toNat] w fun e w' => e = .returned (.bool true) ∧ Below w.heap.size w w' := by
  have Htab := Lib.hid htab; clear htab
  go_enter Tryd.func8, Tryd.ntmps8
  go_wp2_with fail
  refine (lives_any _).mono ?_
  rintro e w1 ⟨rfl, hb1⟩
  have HB1 := Lib.hid hb1; clear hb1
  go_wp2_with fail
  obtain ⟨m, hm, hlo, hhi⟩ := num_mod n
  rw [hm]
  clear hm
  have Hmax := Lib.hid (num_max m hlo hhi)
  rw [Hmax.out]
  obtain ⟨u, hu⟩ : ∃ u, u = m.natAbs := ⟨_, rfl⟩
  rw [← hu]
  have Hu := Lib.hid hu
  have hu18 : u < 1000000000000000000 := by omega
  clear hu
  refine (formatInt_any u (by omega) (by omega) w1 ((Lib.tabBelow_of_tabIs Htab.out) w1 HB1.out)).mono ?_
  rintro e w2 ⟨rfl, hb2⟩
  rw [Lib.itoa_nonneg]
  have HB2 := Lib.hid (HB1.out.trans (hb2.mono HB1.out.size))
  clear hb2 HB1 Htab
  have Hdl := Lib.hid (dec_len u hu18)
  have hcu : (c.toNat : Int) ≤ 255 := by have := c.toNat_lt; omega
  obtain ⟨Q, hQ, hQ20⟩ : ∃ Q : Nat, (c.toNat : Int) % 20 = (Q : Int) ∧ Q < 20 := ⟨c.toNat % 20, by omega, by omega⟩
  have HQ := Lib.hid hQ; clear hQ
  go_wp2_with fail
  rw [HQ.out]
  go_loop [5, 22] (fun s i => ∃ q : Nat, q ≤ Q ∧ i = .int .i64 q ∧ s = .string ⟨(List.replicate q 48 ++ Lib.decDigits u).toArray⟩) (fun _ i => Q - (intOf i).toNat)
  case atStart => exact ⟨0, by omega, rfl, rfl⟩
  case round =>
    obtain ⟨q, hq, rfl, rfl⟩ := hrel
    by_cases hlt : q < Q
    · have hadd := add_text (w := w2) 48 (List.replicate q 48 ++ Lib.decDigits u) (by rw [List.length_append, List.length_replicate]; have := Hdl.out; omega)
      have e3 : 48 :: (List.replicate q 48 ++ Lib.decDigits u) = List.replicate (q + 1) 48 ++ Lib.decDigits u := by rw [List.replicate_succ, List.cons_append]
      rw [e3] at hadd
      have E3 := Lib.hid e3; clear e3
      go_wp2
      go_round
      case rel => exact ⟨q + 1, by omega, by go_num, rfl⟩
      case measure => simp [intOf]; omega
    · obtain rfl : q = Q := by omega
      obtain ⟨hall, hne, hval⟩ := Lx.padded u q
      have hlen : (List.replicate q 48 ++ Lib.decDigits u).length ≤ 40 := by rw [List.length_append, List.length_replicate]; have := Hdl.out; omega
      generalize List.replicate q 48 ++ Lib.decDigits u = D at *
      clear hlt hq
      have Hall := Lib.hid hall; have Hne := Lib.hid hne; have Hval := Lib.hid hval
      clear hall hne hval
      by_cases hneg : m < 0
      · by_cases h18 : 18 < D.length
        · have ht := Lx.num_neg D Hall.out Hne.out
          rw [Hval.out, if_pos h18] at ht
          have hadd := add_text (w := w2) 45 D (by omega)
          have hcv := conv_text w2 (45 :: D)
          have hq := tokens_of_text w2 (45 :: D) (by rw [List.length_cons]; omega)
          have Ht := Lib.hid ht; have Hq := Lib.hid hq; clear ht hq
          have h18b : decide (18 < (D.length : Int)) = true := by simp; omega
          go_wp2_with fail
          have hq := Hq.out
          rw [List.length_cons] at hq
          refine hq.mono ?_
          clear hq Hq
          rintro e w3 ⟨v, ts, p, cc, rfl, hB3, hown3, hcase⟩
          rw [Ht.out] at hcase
          have HB3 := Lib.hid ((HB2.out.trans (Lib.bytesWorld_below w2 5 ⟨(45 :: D).toArray⟩ |>.mono HB2.out.size)).trans (hB3.mono (by rw [Lib.bytesWorld_size]; have := HB2.out.size; omega)))
          obtain ⟨rfl, rfl, rfl⟩ : ts = [] ∧ p = 0 ∧ cc = 2 := by
            rcases hcase with ⟨h, _⟩ | ⟨_, q', h, h1, h2, h3⟩ | ⟨_, h, _⟩
            · exact absurd h (by rw [List.length_cons]; omega)
            · simp at h; subst h; exact ⟨h1, h2, h3⟩
            · simp at h
          obtain ⟨pp, cap, rfl⟩ := own_len hown3
          clear hcase hown3 hB3 Ht
          go_wp2
          go_ret
          exact ⟨rfl, HB3.out⟩
        · have ht := Lx.num_neg D Hall.out Hne.out
          rw [Hval.out, if_neg h18] at ht
          have hadd := add_text (w := w2) 45 D (by omega)
          have hcv := conv_text w2 (45 :: D)
          have hq := tokens_of_text w2 (45 :: D) (by rw [List.length_cons]; omega)
          have Ht := Lib.hid ht; have Hq := Lib.hid hq; clear ht hq
          have h18b : decide (18 < (D.length : Int)) = false := by simp; omega
          go_wp2_with fail
          have hq := Hq.out
          rw [List.length_cons] at hq
          refine hq.mono ?_
          clear hq Hq
          rintro e w3 ⟨v, ts, p, cc, rfl, hB3, hown3, hcase⟩
          rw [Ht.out] at hcase
          have HB3 := Lib.hid ((HB2.out.trans (Lib.bytesWorld_below w2 5 ⟨(45 :: D).toArray⟩ |>.mono HB2.out.size)).trans (hB3.mono (by rw [Lib.bytesWorld_size]; have := HB2.out.size; omega)))
          obtain ⟨rfl, rfl, rfl⟩ : ts = [⟨2, 0, (45 :: D), -(u : Int)⟩] ∧ p = -1 ∧ cc = 0 := by
            rcases hcase with ⟨h, _⟩ | ⟨_, q', h, _⟩ | ⟨_, h, h2, h3⟩
            · exact absurd h (by rw [List.length_cons]; omega)
            · simp at h
            · simp only [Prod.mk.injEq, and_true] at h; exact ⟨h.symm, h2, h3⟩
          obtain ⟨g, cap, rfl, hg1, hg2, hcap, hcm, hcell⟩ := own_toks hown3 (by simp)
          have c0 := (hcell 0 _ rfl).1
          have c2 := (hcell 0 _ rfl).2.2.1
          have c3 := (hcell 0 _ rfl).2.2.2
          simp only [Nat.zero_mul, Nat.zero_add] at c0 c2 c3
          have Hnu : Hid ((-(u : Int) : Int) = m) := Lib.hid (by have := Hu.out; omega)
          rw [Hnu.out] at c3
          clear hcell hown3 hcase hB3 Ht
          go_wp2
          go_ret
          exact ⟨rfl, HB3.out⟩
      · by_cases h18 : 18 < D.length
        · have ht := Lx.num_pos D Hall.out Hne.out
          rw [Hval.out, if_pos h18] at ht
          have hcv := conv_text w2 D
          have hq := tokens_of_text w2 D (by omega)
          have Ht := Lib.hid ht; have Hq := Lib.hid hq; clear ht hq
          have h18b : decide (18 < (D.length : Int)) = true := by simp; omega
          go_wp2_with fail
          have hq := Hq.out
          refine hq.mono ?_
          clear hq Hq
          rintro e w3 ⟨v, ts, p, cc, rfl, hB3, hown3, hcase⟩
          rw [Ht.out] at hcase
          have HB3 := Lib.hid ((HB2.out.trans (Lib.bytesWorld_below w2 5 ⟨D.toArray⟩ |>.mono HB2.out.size)).trans (hB3.mono (by rw [Lib.bytesWorld_size]; have := HB2.out.size; omega)))
          obtain ⟨rfl, rfl, rfl⟩ : ts = [] ∧ p = 0 ∧ cc = 2 := by
            rcases hcase with ⟨h, _⟩ | ⟨_, q', h, h1, h2, h3⟩ | ⟨_, h, _⟩
            · exact absurd h (by omega)
            · simp at h; subst h; exact ⟨h1, h2, h3⟩
            · simp at h
          obtain ⟨pp, cap, rfl⟩ := own_len hown3
          clear hcase hown3 hB3 Ht
          go_wp2
          go_ret
          exact ⟨rfl, HB3.out⟩
        · have ht := Lx.num_pos D Hall.out Hne.out
          rw [Hval.out, if_neg h18] at ht
          have hcv := conv_text w2 D
          have hq := tokens_of_text w2 D (by omega)
          have Ht := Lib.hid ht; have Hq := Lib.hid hq; clear ht hq
          have h18b : decide (18 < (D.length : Int)) = false := by simp; omega
          go_wp2_with fail
          have hq := Hq.out
          refine hq.mono ?_
          clear hq Hq
          rintro e w3 ⟨v, ts, p, cc, rfl, hB3, hown3, hcase⟩
          rw [Ht.out] at hcase
          have HB3 := Lib.hid ((HB2.out.trans (Lib.bytesWorld_below w2 5 ⟨D.toArray⟩ |>.mono HB2.out.size)).trans (hB3.mono (by rw [Lib.bytesWorld_size]; have := HB2.out.size; omega)))
          obtain ⟨rfl, rfl, rfl⟩ : ts = [⟨2, 0, D, (u : Int)⟩] ∧ p = -1 ∧ cc = 0 := by
            rcases hcase with ⟨h, _⟩ | ⟨_, q', h, _⟩ | ⟨_, h, h2, h3⟩
            · exact absurd h (by omega)
            · simp at h
            · simp only [Prod.mk.injEq, and_true] at h; exact ⟨h.symm, h2, h3⟩
          obtain ⟨g, cap, rfl, hg1, hg2, hcap, hcm, hcell⟩ := own_toks hown3 (by simp)
          have c0 := (hcell 0 _ rfl).1
          have c2 := (hcell 0 _ rfl).2.2.1
          have c3 := (hcell 0 _ rfl).2.2.2
          simp only [Nat.zero_mul, Nat.zero_add] at c0 c2 c3
          have Hnu : Hid (((u : Int) : Int) = m) := Lib.hid (by have := Hu.out; omega)
          rw [Hnu.out] at c3
          clear hcell hown3 hcase hB3 Ht
          go_wp2
          go_ret
          exact ⟨rfl, HB3.out⟩

theorem lexNumbers_row (w : World) (n : Int) (_hn : (Lit.int .i64 n).wf = true) (c : Int) (hc : (Lit.int .u8 c).wf = true) (hL : laidMetH Tryd.prog laidList w) :
    Calls Tryd.prog 8 #[.int .i64 n, .int .u8 c] w fun e w' => e = .returned (.bool true) ∧ Below w.heap.size w w' := by
  obtain ⟨u, rfl⟩ := byte_of c hc
  exact lexNumbers_walk n u w (pow_table hL)
end Go.Proofs.YtcnpbbhkdogdeaaDoor
