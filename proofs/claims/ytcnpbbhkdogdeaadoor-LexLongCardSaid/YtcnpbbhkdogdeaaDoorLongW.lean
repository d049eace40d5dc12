/-
  LexLong: its walk.
-/
import Derived.Test.YtcnpbbhkdogdeaaDoorOwn
import Derived.Test.YtcnpbbhkdogdeaaDoorLaid
namespace Go.Proofs.YtcnpbbhkdogdeaaDoor
open Go Go.RowKit

theorem long_size (n : Int) (_hn : -9223372036854775808 ≤ n ∧ n ≤ 9223372036854775807) : ∃ k : Nat, 4094 ≤ k ∧ k ≤ 4098 ∧ wrap64 (4094 + wrap64 ((IntKind.u64.wrap n).tmod 5)) = (k : Int) := by
  have h0 : 0 ≤ IntKind.u64.wrap n := by unfold IntKind.wrap; simp [IntKind.bits, IntKind.signed]; omega
  generalize IntKind.u64.wrap n = m at *
  rw [Int.tmod_eq_emod_of_nonneg h0]
  refine ⟨(4094 + m % 5).toNat, by omega, by omega, ?_⟩
  unfold wrap64; omega

/-- All but the last byte are known not to end the note. -/
theorem long_toks (l : List UInt8) (h2 : 2 ≤ l.length) (h0 : (Lx.at0 l 0).toNat = 59) (h : ∀ j, j + 1 < l.length → (Lx.at0 l j).toNat ≠ 10) : Lx.toks (l.length + 1) 0 l = ([], none) := by
  have e : Lx.skipC false l = l.length := by
    cases l with
    | nil => simp at h2
    | cons c r =>
      have hc : c.toNat = 59 := h0
      rw [Lx.skipC, if_neg (by simp [Lx.blankB, hc]), if_pos hc, Lx.skip_all r (fun j hj => by have := h (j + 1) (by simpa using hj); simpa [Lx.at0] using this), List.length_cons]
  rw [toks_succ, if_pos (by omega)]

set_option maxHeartbeats 2000000 in
set_option maxRecDepth 100000 in
theorem lexLong_walk (n : Int) (c : UInt8) (w : World) (hn : -9223372036854775808 ≤ n ∧ n ≤ 9223372036854775807) :
    Calls Tryd.prog 5 #[.int .i64 n, .int .u8 c.toNat] w fun e w' => e = .returned (.bool true) ∧ Below w.heap.size w w' := by
  obtain ⟨k, hk1, hk2, hk⟩ := long_size n hn
  obtain ⟨i0, hi, hz0, hz1, hz2⟩ := info_parts info5
  have HI1 := Lib.hid hz1; have HI2 := Lib.hid hz2; have HI0 := Lib.hid hz0; have HI := Lib.hid hi
  have HK := Lib.hid hk
  clear hi hz0 hz1 hz2 hn hk
  go_enter Tryd.func5, Tryd.ntmps5
  go_wp2_with fail
  refine (lives_any _).mono ?_
  rintro e w1 ⟨rfl, hb1⟩
  have HB1 := Lib.hid hb1; clear hb1
  go_wp2_with (refine wpList_make_full _ rfl (.tmp 18) (.tmp 18) 22 rfl w1.heap.size 5 i0 (.int .u8 0) 1 Tryd.underlying22 HI.out HI0.out HI1.out .i64 .i64 _ _ k rfl rfl HK.out HK.out (by rw [HI2.out]; omega) (by unfold maxLen; omega) (Nat.le_refl _) ?_)
  intro w2 hown hgr
  rw [HK.out]
  have hb2 : Below w.heap.size w w2 := HB1.out.grown hgr HB1.out.size (fun _ h => by cases h)
  have hown' : w2.ownsRow w1.heap.size 5 1 (.slice (some ⟨w1.heap.size, 0, none⟩) k k) k ((List.replicate k (0 : UInt8)).map byteV) := by
    have := madeBytes k
    rw [Nat.mul_one] at this
    rw [← this]; exact hown
  have hbs := HB1.out.size
  generalize w1.heap.size = g at *
  have Hown := Lib.hid hown'; have HB2 := Lib.hid hb2
  clear hown hown' hgr hb2 HB1 HK
  go_wp2_with fail
  go_loopw [22] (fun i wr => ∃ (j : Nat) (l : List UInt8), i = .int .i64 j ∧ j ≤ k ∧ (∀ q, q < j → Lx.at0 l q = 32) ∧ Hid (wr.ownsRow g 5 1 (.slice (some ⟨g, 0, none⟩) k k) k (l.map byteV)) ∧ Below w.heap.size w wr) (fun i _ => k - (intOf i).toNat)
  case atStart => exact ⟨0, _, rfl, by omega, fun q h => absurd h (by omega), Hown, HB2.out⟩
  case round =>
    obtain ⟨j, l, rfl, hj, hsp, Ho, hb⟩ := hrel
    have HB := Lib.hid hb; have HS := Lib.hid hsp
    clear hb hsp
    have hlen : l.length = k := (bytesAt_own Ho.out).2
    have HL := Lib.hid hlen; clear hlen
    by_cases hjk : j < k
    · have hcell : wr.cell? ⟨g, j, none⟩ = some (.int .u8 (Lx.at0 l j).toNat) := by have := (bytesAt_own Ho.out).1 j (by rw [HL.out]; omega); rwa [Nat.zero_add] at this
      have hfr : wr.frozen? ⟨g, j, none⟩ = false := World.ownsRow.frozenAt Ho.out j
      go_wp2
      go_roundw
      case rel =>
        refine ⟨j + 1, l.set j 32, by go_num, by omega, fun q hq => ?_, ?_, ?_⟩
        · rw [at0_set l j q 32 (by rw [HL.out]; omega)]
          by_cases e : j = q
          · rw [if_pos e]
          · rw [if_neg e]; exact HS.out q (by omega)
        · have := (World.ownsRow.stored Ho.out j (.int .u8 32)).1
          rw [List.map_set]; exact this
        · exact HB.out.setCell (by simp; omega) _
      case measure => simp [intOf]; omega
    · obtain rfl : j = k := by omega
      have r1 := (World.ownsRow.stored Ho.out 0 (.int .u8 59)).1
      have r2 := (World.ownsRow.stored r1 (j - 1) (.int .u8 c.toNat)).1
      have e2 : ((l.map byteV).set 0 (.int .u8 59)).set (j - 1) (.int .u8 c.toNat) = ((l.set 0 59).set (j - 1) c).map byteV := by rw [List.map_set, List.map_set]; rfl
      rw [e2] at r2
      have hlen := HL.out
      have hl0 : ((l.set 0 59).set (j - 1) c).length = j := by simp [hlen]
      have ht : Lx.toks (j + 1) 0 ((l.set 0 59).set (j - 1) c) = ([], none) := by
        have := long_toks ((l.set 0 59).set (j - 1) c) (by omega)
        rw [hl0] at this
        refine this ?_ (fun q hq => ?_)
        · rw [at0_set _ _ _ _ (by simp; omega), if_neg (by omega), at0_set _ _ _ _ (by omega), if_pos rfl]; rfl
        · rw [at0_set _ _ _ _ (by simp; omega), if_neg (by omega), at0_set _ _ _ _ (by omega)]
          by_cases e : 0 = q
          · rw [if_pos e]; decide
          · rw [if_neg e, HS.out q (by omega)]; decide
      generalize (l.set 0 59).set (j - 1) c = l' at *
      have hba := (bytesAt_own r2).1
      have hbb : Below w.heap.size w ((wr.setCell ⟨g, 0, none⟩ (.int .u8 59)).setCell ⟨g, j - 1, none⟩ (.int .u8 c.toNat)) := (HB.out.setCell (by simp; omega) _).setCell (by simp; omega) _
      have c0 : wr.cell? ⟨g, 0, none⟩ = some (.int .u8 (Lx.at0 l 0).toNat) := by have := (bytesAt_own Ho.out).1 0 (by omega); simpa using this
      have c1 : wr.cell? ⟨g, j - 1, none⟩ = some (.int .u8 (Lx.at0 l (j - 1)).toNat) := by have := (bytesAt_own Ho.out).1 (j - 1) (by omega); simpa using this
      have f0 : wr.frozen? ⟨g, 0, none⟩ = false := World.ownsRow.frozenAt Ho.out 0
      have f1 : wr.frozen? ⟨g, j - 1, none⟩ = false := World.ownsRow.frozenAt Ho.out (j - 1)
      have HT := Lib.hid ht; have HBA := Lib.hid hba; have HBB := Lib.hid hbb; have HL0 := Lib.hid hl0
      clear r1 r2 e2 hlen ht hba hbb hl0 HS
      go_wp2_with fail
      have hq := tokens_some l' g 0 j ((wr.setCell ⟨g, 0, none⟩ (.int .u8 59)).setCell ⟨g, j - 1, none⟩ (.int .u8 c.toNat)) (by rw [HL0.out]; omega) (by omega) HBA.out
      rw [HL0.out] at hq
      refine hq.mono ?_
      rintro e w3 ⟨v, ts, p, q, rfl, hB3, hown3, hcase⟩
      rw [HL0.out, HT.out] at hcase
      have hB4 := Lib.hid (HBB.out.trans (hB3.mono HBB.out.size))
      have hts : ts = [] ∧ ((4096 < j ∧ p = 4096 ∧ q = 2) ∨ (j ≤ 4096 ∧ p = -1 ∧ q = 0)) := by
        rcases hcase with ⟨h, h1, h2, h3⟩ | ⟨_, q', h, _⟩ | ⟨h, h1, h2, h3⟩
        · exact ⟨h1, .inl ⟨h, h2, h3⟩⟩
        · simp at h
        · simp at h1; exact ⟨h1, .inr ⟨h, h2, h3⟩⟩
      obtain ⟨rfl, hpq⟩ := hts
      obtain ⟨pp, cap, rfl⟩ := own_len hown3
      clear hq hcase hown3 hB3
      rcases hpq with ⟨h, rfl, rfl⟩ | ⟨h, rfl, rfl⟩
      · go_wp2
        go_ret
        exact ⟨rfl, hB4.out⟩
      · go_wp2
        go_ret
        exact ⟨rfl, hB4.out⟩

theorem lexLong_row (w : World) (n : Int) (hn : (Lit.int .i64 n).wf = true) (c : Int) (hc : (Lit.int .u8 c).wf = true) :
    Calls Tryd.prog 5 #[.int .i64 n, .int .u8 c] w fun e w' => e = .returned (.bool true) ∧ Below w.heap.size w w' := by
  obtain ⟨u, rfl⟩ := byte_of c hc
  exact lexLong_walk n u w (by simpa [Lit.wf, IntKind.min, IntKind.max, IntKind.bits, IntKind.signed] using hn)
end Go.Proofs.YtcnpbbhkdogdeaaDoor
