/-
  LexPlaces: its walk.
-/
import Derived.Test.YtcnpbbhkdogdeaaDoorSrc
import Derived.Test.YtcnpbbhkdogdeaaDoorPlacePure
import Derived.Deep.QuietTactic
import Derived.BigQuiet
import Derived.WalkSmall
namespace Go.Proofs.YtcnpbbhkdogdeaaDoor
open Go Go.RowKit

set_option maxHeartbeats 2000000 in
set_option maxRecDepth 100000 in
theorem lexPlaces_some (w : World) (b off len0 cap0 : Nat) (la : List UInt8)
    (hba : BytesAt w b off la) (hla : la.length = len0) (hlc : len0 ≤ cap0) (hcap : cap0 ≤ 9223372036854775807) :
    Calls Tryd.prog 7 #[.slice (some ⟨b, off, none⟩) len0 cap0] w fun e w' => e = .returned (.bool true) ∧ Below w.heap.size w w' := by
  have HBA := Lib.hid hba; have HLA := Lib.hid hla
  clear hba hla
  go_enter Tryd.func7, Tryd.ntmps7
  go_wp2_with fail
  refine (lives_any _).mono ?_
  rintro e w1 ⟨rfl, hb1⟩
  have HB1 := Lib.hid hb1; clear hb1
  by_cases hlong : 1000 < len0
  · have hl2 : (1000 : Int) < (len0 : Int) := by omega
    go_wp2_with fail
    refine (lives_any _).mono ?_
    rintro e w2 ⟨rfl, hb2⟩
    have HB2 := Lib.hid (HB1.out.trans (hb2.mono HB1.out.size)); clear hb2
    go_wp2_with fail
    go_ret
    exact ⟨rfl, HB2.out⟩
  · have hl2 : ¬ (1000 : Int) < (len0 : Int) := by omega
    go_wp2_with fail
    refine (tokens_any _ la _ (.inr ⟨b, off, cap0, by rw [HLA.out], by rw [HLA.out]; exact hlc, hcap, HBA.out.below HB1.out⟩)).mono ?_
    rintro e w2 ⟨v, ts, p, c, rfl, hB2, hown, hcase⟩
    have hBw := HB1.out.trans (hB2.mono HB1.out.size)
    have HBW := Lib.hid hBw; have HO := Lib.hid hown
    clear hB2 hown hBw
    rcases hcase with ⟨h, _⟩ | ⟨_, q, hq, rfl, rfl, rfl⟩ | ⟨_, hq, rfl, rfl⟩
    · exact absurd h (by rw [HLA.out]; omega)
    · have hqq := Lx.toks_at (la.length + 1) 0 la q hq
      rw [HLA.out] at hqq
      have hq0 : (0 : Int) ≤ q := by omega
      have hq1 : (q : Int) < len0 := by omega
      clear hq hqq
      go_wp2
      go_ret
      exact ⟨rfl, HBW.out⟩
    · have hch := Lx.chain_toks la ts hq
      have hll := Lx.toks_len (la.length + 1) 0 la
      rw [hq, HLA.out] at hll
      simp only [] at hll
      have HCH := Lib.hid hch
      clear hch hq
      obtain ⟨pp, cp, rfl⟩ := own_len HO.out
      obtain ⟨nz, hnz⟩ : ∃ nz, nz = ts.length := ⟨_, rfl⟩
      have hoc : ∀ k t, ts[k]? = some t → ∃ g, pp = some ⟨g, 0, none⟩ ∧ g < w2.heap.size ∧ w2.cell? ⟨g, k * 4, none⟩ = some (.int .i64 t.kind) ∧ w2.cell? ⟨g, k * 4 + 1, none⟩ = some (.int .i64 t.pos) ∧ w2.cell? ⟨g, k * 4 + 2, none⟩ = some (.string ⟨t.text.toArray⟩) ∧ w2.cell? ⟨g, k * 4 + 3, none⟩ = some (.int .i64 t.int) := own_cells HO.out
      have HOC := Lib.hid hoc
      rw [← hnz]; rw [← hnz] at hll
      have HNZ := Lib.hid hnz
      clear hnz hoc HO
      go_wp2_with fail
      go_loopw [6, 44] (fun e i wr => ∃ k E : Nat, i = .int .i64 k ∧ e = .int .i64 E ∧ k ≤ nz ∧ E ≤ len0 ∧ Hid (Lx.Chain la E (ts.drop k)) ∧ Below w2.heap.size w2 wr) (fun _ i _ => nz - (intOf i).toNat)
      case atStart => exact ⟨0, 0, rfl, rfl, by omega, by omega, HCH, Below.refl _ _⟩
      case round =>
        obtain ⟨k, E, rfl, rfl, hk, hE, hch, hb⟩ := hrel
        have HB := Lib.hid hb
        have hsz := hb.size
        clear hb
        by_cases hkz : k < nz
        · obtain ⟨t, ht⟩ : ∃ t, ts[k]? = some t := ⟨_, List.getElem?_eq_getElem (by rw [← HNZ.out]; exact hkz)⟩
          have hdk : ts.drop k = t :: ts.drop (k + 1) := by
            obtain ⟨h1, h2⟩ := List.getElem?_eq_some_iff.1 ht
            rw [List.drop_eq_getElem_cons h1, h2]
          have hc1 := hch.out
          rw [hdk] at hc1
          obtain ⟨_, n, hp, hpn, hn0, hn, htk, hrest⟩ := hc1
          obtain ⟨g, rfl, hg, C0, C1, C2, C3⟩ := HOC.out k t ht
          have c0 := (HB.out.cell (p := ⟨g, k * 4, none⟩) hg).trans C0
          have c1 := (HB.out.cell (p := ⟨g, k * 4 + 1, none⟩) hg).trans C1
          have c2 := (HB.out.cell (p := ⟨g, k * 4 + 2, none⟩) hg).trans C2
          have c3 := (HB.out.cell (p := ⟨g, k * 4 + 3, none⟩) hg).trans C3
          have hg' : g < wr.heap.size := by omega
          rw [HLA.out] at hpn
          have hskip := Lx.skip_take (la.drop E) false
          have hsle := Lx.skipC_le false (la.drop E)
          have halone := Lx.tok_alone (la.drop t.pos) (by rw [← hn]; exact hn0)
          rw [← hn] at halone
          generalize htt : t.text = T at *
          generalize htp : t.pos = A at *
          generalize htK : t.kind = Kd at *
          generalize htI : t.int = Iv at *
          have hT : T = (la.drop A).take n := by rw [← htt, htk]; rfl
          have hTl : T.length = n := by rw [hT]; exact halone.2.1
          have HT := Lib.hid hT; have HN := Lib.hid hn; have HTL := Lib.hid hTl; have HAL := Lib.hid halone; have HSK := Lib.hid hskip; have HP := Lib.hid hp; have HRE := Lib.hid hrest; have HTK := Lib.hid htk; have HTT := Lib.hid htt; have HTP := Lib.hid htp; have HKD := Lib.hid htK; have HIV := Lib.hid htI
          have hAE : E ≤ A := by omega
          clear C0 C1 C2 C3 ht hdk hch hp hn htk hrest hskip hsle halone htt htp htK htI hT hTl
          go_wp2
          have hTn := HTL.out
          obtain ⟨B, hB⟩ : ∃ B, B = A + T.length := ⟨_, rfl⟩
          have hBl : B ≤ len0 := by omega
          have hAB : A < B := by omega
          have f1 : decide ((A : Int) < (E : Int)) = false := by simp; omega
          have f1' : decide (A < E) = false := by simp; omega
          have f3 : decide ((len0 : Int) < (B : Int)) = false := by simp; omega
          have f3' : decide (len0 < B) = false := by simp; omega
          have f2 : T.isEmpty = false := by cases T with
            | nil => simp at hTn; omega
            | cons c r => rfl
          have f5 : IntKind.i64.wrap ((A : Int) + (T.length : Int)) = (B : Int) := by rw [IntWalk.i64_in _ (by omega)]; omega
          have HBB := Lib.hid hB
          have hba : BytesAt wr b off la := (HBA.out.below HBW.out).below (Below.trans (Below.refl _ _) (HB.out))
          have hlt : b < wr.heap.size := World.block_lt_of_cell? wr _ (hba 0 (by rw [HLA.out]; omega))
          have hcv : ∀ nq, (convert 22 9 (.slice (some ⟨b, off + A, none⟩) (B - A) (cap0 - A))).run Tryd.prog ((wr.alloc (.cells #[.int .i64 Kd, .int .i64 A, .string ⟨T.toArray⟩, .int .i64 Iv] 33)).drewN nq) = .ok (.string ⟨T.toArray⟩) ((wr.alloc (.cells #[.int .i64 Kd, .int .i64 A, .string ⟨T.toArray⟩, .int .i64 Iv] 33)).drewN nq) := by
            intro nq
            have h := run_convert_bytes_back (P := Tryd.prog) ((wr.alloc (.cells #[.int .i64 Kd, .int .i64 A, .string ⟨T.toArray⟩, .int .i64 Iv] 33)).drewN nq) 22 9 5 ⟨b, off + A, none⟩ (cap0 - A) T Tryd.underlying22 Tryd.underlying5 Tryd.underlying9 (fun j hj => by
              have hplain : (⟨b, off + A, none⟩ : Addr).add j = ⟨b, off + (A + j), none⟩ := by unfold Addr.add; simp [Nat.add_assoc]
              have e0 : ((wr.alloc (.cells #[.int .i64 Kd, .int .i64 A, .string ⟨T.toArray⟩, .int .i64 Iv] 33)).drewN nq).cell? ⟨b, off + (A + j), none⟩ = wr.cell? ⟨b, off + (A + j), none⟩ := World.cell?_alloc_past _ _ _ hlt
              rw [hplain, e0, hba (A + j) (by rw [HLA.out]; omega)]
              have e := Lx.take_at0 (la.drop A) n j (by omega)
              rw [Lx.at0_drop, ← HT.out] at e
              rw [← e]
              simp [Lx.at0, List.getD_eq_getElem?_getD, List.getElem?_eq_getElem hj])
            have e1 : B - A = T.length := by omega
            rw [e1]; exact h
          have hcv0 := hcv 0
          have hcv00 : (convert 22 9 (.slice (some ⟨b, off + A, none⟩) (B - A) (cap0 - A))).run Tryd.prog (wr.alloc (.cells #[.int .i64 Kd, .int .i64 A, .string ⟨T.toArray⟩, .int .i64 Iv] 33)) = .ok (.string ⟨T.toArray⟩) (wr.alloc (.cells #[.int .i64 Kd, .int .i64 A, .string ⟨T.toArray⟩, .int .i64 Iv] 33)) := hcv0
          have HBAR := Lib.hid hba
          clear hTn hB hba hcv0
          go_quiet (fail)
          clear hcv hcv00 f1 f1' f3 f3' f2 f5
          generalize hW : (wr.alloc (.cells #[.int .i64 Kd, .int .i64 A, .string ⟨T.toArray⟩, .int .i64 Iv] 33)).drewN nq = W
          have hWB : Below w2.heap.size w2 W := by rw [← hW]; exact below_drewN (HB.out.alloc hsz _) nq
          have t0 : W.cell? ⟨wr.heap.size, 0, none⟩ = some (.int .i64 Kd) := by rw [← hW]; exact World.cell?_alloc_mark _ _ _ _ _
          have t1 : W.cell? ⟨wr.heap.size, 1, none⟩ = some (.int .i64 A) := by rw [← hW]; exact World.cell?_alloc_mark _ _ _ _ _
          have t2 : W.cell? ⟨wr.heap.size, 2, none⟩ = some (.string ⟨T.toArray⟩) := by rw [← hW]; exact World.cell?_alloc_mark _ _ _ _ _
          have t3 : W.cell? ⟨wr.heap.size, 3, none⟩ = some (.int .i64 Iv) := by rw [← hW]; exact World.cell?_alloc_mark _ _ _ _ _
          have hWs : wr.heap.size < W.heap.size := World.block_lt_of_cell? W _ t0
          have HWB := Lib.hid hWB
          clear hW hWB c0 c1 c2 c3
          have hbet : ((la.drop E).take (A - E)).length = A - E := by rw [List.length_take, List.length_drop, HLA.out]; omega
          have hbt : Lx.toks (((la.drop E).take (A - E)).length + 1) 0 ((la.drop E).take (A - E)) = ([], none) := by
            rw [Lx.toks_step, if_pos]
            have e : A - E = Lx.skipC false (la.drop E) := by have := HP.out; omega
            rw [e] at hbet ⊢
            rw [HSK.out]; omega
          have hbb : BytesAt W b (off + E) ((la.drop E).take (A - E)) := by
            intro j hj
            have h := (HBA.out.below HBW.out).below HWB.out (E + j) (by rw [HLA.out]; omega)
            rw [Nat.add_assoc, h, Lx.take_at0 _ _ _ (by omega), Lx.at0_drop]
          have HBET := Lib.hid hbet; have HBT := Lib.hid hbt; have HBB2 := Lib.hid hbb
          clear hbet hbt hbb
          go_wp2_with fail
          have hq := tokens_some ((la.drop E).take (A - E)) b (off + E) (cap0 - E) W (by rw [HBET.out]; omega) (by omega) HBB2.out
          rw [HBET.out] at hq
          refine hq.mono ?_
          clear hq
          rintro e w5 ⟨v5, ts5, p5, c5, rfl, hB5, hown5, hcase5⟩
          obtain ⟨rfl, rfl, rfl⟩ : ts5 = [] ∧ p5 = -1 ∧ c5 = 0 := by
            have hz := HBET.out
            rcases hcase5 with ⟨h, _⟩ | ⟨_, q', h, _⟩ | ⟨_, h, h2, h3⟩
            · omega
            · rw [HBT.out] at h; simp at h
            · rw [HBT.out] at h; simp at h; exact ⟨h, h2, h3⟩
          obtain ⟨q5, cp5, rfl⟩ := own_len hown5
          have HB5 := Lib.hid hB5
          have hs5 := hB5.size
          clear hown5 hcase5
          have t0 := (hB5.cell (p := ⟨wr.heap.size, 0, none⟩) hWs).trans t0
          have t1 := (hB5.cell (p := ⟨wr.heap.size, 1, none⟩) hWs).trans t1
          have t2 := (hB5.cell (p := ⟨wr.heap.size, 2, none⟩) hWs).trans t2
          have t3 := (hB5.cell (p := ⟨wr.heap.size, 3, none⟩) hWs).trans t3
          clear hB5
          have hcvT := conv_text w5 T
          go_wp2_with fail
          clear hcvT
          have hTn2 := HTL.out
          refine (tokens_of_text w5 T (by omega)).mono ?_
          rintro e w6 ⟨v6, ts6, p6, c6, rfl, hB6, hown6, hcase6⟩
          have hTT : Lx.toks (T.length + 1) 0 T = ([⟨Kd, 0, T, Iv⟩], none) := by
            have h1 := HAL.out
            rw [← HT.out] at h1
            have hne : T ≠ [] := by intro e; rw [e] at hTn2; simp at hTn2; omega
            have h2 := Lx.toks_whole T (Lx.tokAt (la.drop A)).1 hne h1.2.2 (by rw [h1.1, hTn2])
            rw [h2]
            have hk : Kd = (Lx.tokAt (la.drop A)).1 := by rw [← HKD.out, HTK.out]; rfl
            have hi : Iv = (Lx.mkTok 0 (Lx.tokAt (la.drop A)).1 T).int := by rw [← HIV.out, HTK.out, HT.out]; rfl
            rw [hi, hk]; rfl
          obtain ⟨rfl, rfl, rfl⟩ : ts6 = [⟨Kd, 0, T, Iv⟩] ∧ p6 = -1 ∧ c6 = 0 := by
            rcases hcase6 with ⟨h, _⟩ | ⟨_, q', h, _⟩ | ⟨_, h, h2, h3⟩
            · omega
            · rw [hTT] at h; simp at h
            · rw [hTT] at h; simp only [Prod.mk.injEq, and_true] at h; exact ⟨h.symm, h2, h3⟩
          obtain ⟨g6, cp6, rfl, hg61, hg62, hcp6, hcm6, hcell6⟩ := own_toks hown6 (by simp)
          have d0 := (hcell6 0 _ rfl).1
          have d3 := (hcell6 0 _ rfl).2.2.2
          simp only [Nat.zero_mul, Nat.zero_add] at d0 d3
          have hb56 : Below w5.heap.size w5 w6 := (Lib.bytesWorld_below w5 5 ⟨T.toArray⟩).trans (hB6.mono (by rw [Lib.bytesWorld_size]; omega))
          have hl5 : wr.heap.size < w5.heap.size := by omega
          have t0 := (hb56.cell (p := ⟨wr.heap.size, 0, none⟩) hl5).trans t0
          have t1 := (hb56.cell (p := ⟨wr.heap.size, 1, none⟩) hl5).trans t1
          have t2 := (hb56.cell (p := ⟨wr.heap.size, 2, none⟩) hl5).trans t2
          have t3 := (hb56.cell (p := ⟨wr.heap.size, 3, none⟩) hl5).trans t3
          have HW6 := Lib.hid ((HWB.out.trans (HB5.out.mono HWB.out.size)).trans (hb56.mono (by have h1 := HWB.out.size; have h2 := HB5.out.size; omega)))
          clear hcell6 hown6 hcase6 hB6 hb56 hTT hTn2 hg61
          go_wp2
          go_quiet (fail)
          have hAT : (A : Int) + (T.length : Int) ≤ 2000 := by have := HTL.out; omega
          go_wp2
          go_roundw
          case rel =>
            refine ⟨k + 1, A + T.length, by go_num, by go_num, by omega, by have := HTL.out; omega, ?_, below_drewN HW6.out _⟩
            have h := HRE.out
            rw [← HTL.out] at h
            exact Lib.hid h
          case measure => simp [intOf]; omega
        · obtain rfl : k = nz := by omega
          have hc2 := hch.out
          rw [HNZ.out, List.drop_length] at hc2
          obtain ⟨_, hsk⟩ := hc2
          have hrl : (la.drop E).length = len0 - E := by rw [List.length_drop, HLA.out]
          have hrt : Lx.toks ((la.drop E).length + 1) 0 (la.drop E) = ([], none) := by rw [Lx.toks_step, if_pos (by omega)]
          have HRT := Lib.hid hrt; have HRL := Lib.hid hrl
          have hba : BytesAt wr b off la := (HBA.out.below HBW.out).below HB.out
          have hbb : BytesAt wr b (off + E) (la.drop E) := by
            intro j hj
            rw [List.length_drop] at hj
            have h := hba (E + j) (by omega)
            rw [Nat.add_assoc, h, Lx.at0_drop]
          have HBB3 := Lib.hid hbb
          clear hrt hrl hbb hba hsk hch
          by_cases hEc : E = cap0
          · have hE0 : len0 - E = 0 := by omega
            have hEl : E = len0 := by omega
            subst hEc
            subst hEl
            go_wp2_with fail
            refine (tokens_none _ _ _).mono ?_
            rintro e w5 ⟨v5, ts5, p5, c5, rfl, hB5, hown5, hcase5⟩
            obtain ⟨rfl, rfl, rfl⟩ : ts5 = [] ∧ p5 = -1 ∧ c5 = 0 := by
              rcases hcase5 with ⟨h, _⟩ | ⟨_, q', h, _⟩ | ⟨_, h, h2, h3⟩
              · simp at h
              · exact absurd h (by simp [Lx.toks_step])
              · have e : Lx.toks (([] : List UInt8).length + 1) 0 [] = ([], none) := rfl
                rw [e] at h; simp at h; exact ⟨h, h2, h3⟩
            obtain ⟨q5, cp5, rfl⟩ := own_len hown5
            have HB5 := Lib.hid (HBW.out.trans ((HB.out.trans (hB5.mono hsz)).mono HBW.out.size))
            clear hown5 hcase5 hB5
            go_wp2
            go_ret
            exact ⟨rfl, HB5.out⟩
          · have hEc' : E < cap0 := by omega
            go_wp2_with fail
            have hq := tokens_some (la.drop E) b (off + E) (cap0 - E) wr (by rw [HRL.out]; omega) (by omega) HBB3.out
            rw [HRL.out] at hq
            refine hq.mono ?_
            clear hq
            rintro e w5 ⟨v5, ts5, p5, c5, rfl, hB5, hown5, hcase5⟩
            obtain ⟨rfl, rfl, rfl⟩ : ts5 = [] ∧ p5 = -1 ∧ c5 = 0 := by
              have hz := HRL.out
              rcases hcase5 with ⟨h, _⟩ | ⟨_, q', h, _⟩ | ⟨_, h, h2, h3⟩
              · omega
              · rw [HRT.out] at h; simp at h
              · rw [HRT.out] at h; simp at h; exact ⟨h, h2, h3⟩
            obtain ⟨q5, cp5, rfl⟩ := own_len hown5
            have HB5 := Lib.hid (HBW.out.trans ((HB.out.trans (hB5.mono hsz)).mono HBW.out.size))
            clear hown5 hcase5 hB5
            go_wp2
            go_ret
            exact ⟨rfl, HB5.out⟩

theorem nothing {ts : List Lx.Tok} {p c : Int} (h : (4096 < ([] : List UInt8).length ∧ ts = [] ∧ p = 4096 ∧ c = 2) ∨ (([] : List UInt8).length ≤ 4096 ∧ (∃ q, (Lx.toks (([] : List UInt8).length + 1) 0 []).2 = some q ∧ ts = [] ∧ p = q ∧ c = 2)) ∨ (([] : List UInt8).length ≤ 4096 ∧ (Lx.toks (([] : List UInt8).length + 1) 0 []) = (ts, none) ∧ p = -1 ∧ c = 0)) : ts = [] ∧ p = -1 ∧ c = 0 := by
  have e : Lx.toks (([] : List UInt8).length + 1) 0 [] = ([], none) := rfl
  rcases h with ⟨h, _⟩ | ⟨_, q', h, _⟩ | ⟨_, h, h2, h3⟩
  · simp at h
  · rw [e] at h; simp at h
  · rw [e] at h; simp at h; exact ⟨h, h2, h3⟩

set_option maxHeartbeats 2000000 in
set_option maxRecDepth 100000 in
theorem lexPlaces_none (w : World) (a : Option Addr) (cap0 : Nat) :
    Calls Tryd.prog 7 #[.slice a 0 cap0] w fun e w' => e = .returned (.bool true) ∧ Below w.heap.size w w' := by
  go_enter Tryd.func7, Tryd.ntmps7
  go_wp2_with fail
  refine (lives_any _).mono ?_
  rintro e w1 ⟨rfl, hb1⟩
  have HB1 := Lib.hid hb1; clear hb1
  go_wp2_with fail
  refine (tokens_none _ _ _).mono ?_
  rintro e w2 ⟨v, ts, p, c, rfl, hB2, hown, hcase⟩
  have HBW := Lib.hid (HB1.out.trans (hB2.mono HB1.out.size))
  obtain ⟨rfl, rfl, rfl⟩ := nothing hcase
  obtain ⟨q5, cp5, rfl⟩ := own_len hown
  clear hB2 hown hcase
  go_wp2_with fail
  refine wp_loop_rounds 1 ?_
  rw [rounds_succ]
  by_cases h0 : cap0 = 0
  · subst h0
    go_wp2_with fail
    refine (tokens_none _ _ _).mono ?_
    rintro e w5 ⟨v5, ts5, p5, c5, rfl, hB5, hown5, hcase5⟩
    obtain ⟨rfl, rfl, rfl⟩ := nothing hcase5
    obtain ⟨q6, cp6, rfl⟩ := own_len hown5
    have HB5 := Lib.hid (HBW.out.trans (hB5.mono HBW.out.size))
    clear hown5 hcase5 hB5
    go_wp2
    go_ret
    exact ⟨rfl, HB5.out⟩
  · have hc0 : 0 < cap0 := by omega
    cases a
    all_goals
      go_wp2_with fail
      refine (tokens_none _ _ _).mono ?_
      rintro e w5 ⟨v5, ts5, p5, c5, rfl, hB5, hown5, hcase5⟩
      obtain ⟨rfl, rfl, rfl⟩ := nothing hcase5
      obtain ⟨q6, cp6, rfl⟩ := own_len hown5
      have HB5 := Lib.hid (HBW.out.trans (hB5.mono HBW.out.size))
      clear hown5 hcase5 hB5
      go_wp2
      go_ret
      exact ⟨rfl, HB5.out⟩

theorem lexPlaces_row (w : World) (a0 : Option Addr) (len0 cap0 : Nat) (z0 : List Int) (w0 : IsRow .u8 w a0 len0 cap0 z0) :
    Calls Tryd.prog 7 #[.slice a0 len0 cap0] w fun e w' => e = .returned (.bool true) ∧ Below w.heap.size w w' := by
  obtain ⟨_, t0, l0, _⟩ := row_src w0
  rcases t0 with ⟨p, cap, he, hl⟩ | ⟨b, off, cap, he, h1, h2, h3⟩
  · injection he with e1 e2 e3
    subst e2
    exact lexPlaces_none w a0 cap0
  · injection he with e1 e2 e3
    subst e1
    subst e3
    exact lexPlaces_some w b off len0 cap0 _ h3 l0 (by omega) h2
end Go.Proofs.YtcnpbbhkdogdeaaDoor
