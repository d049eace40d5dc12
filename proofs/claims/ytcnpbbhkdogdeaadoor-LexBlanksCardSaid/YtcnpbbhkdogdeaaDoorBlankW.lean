/-
  LexBlanks: its walk.
-/
import Derived.Test.YtcnpbbhkdogdeaaDoorStrApp
import Derived.Test.YtcnpbbhkdogdeaaDoorWidePure
import Derived.Deep.QuietTactic
import Derived.BigQuiet
import Derived.Deep.RegionHeld3
import Derived.Deep.AppendLies
import Derived.WalkSmall
namespace Go.Proofs.YtcnpbbhkdogdeaaDoor
open Go Go.RowKit

def BkCase (l : List UInt8) (ts : List Lx.Tok) (p c : Int) : Prop :=
  (4096 < l.length ∧ ts = [] ∧ p = 4096 ∧ c = 2) ∨ (l.length ≤ 4096 ∧ (∃ q, (Lx.toks (l.length + 1) 0 l).2 = some q ∧ ts = [] ∧ p = q ∧ c = 2)) ∨ (l.length ≤ 4096 ∧ (Lx.toks (l.length + 1) 0 l) = (ts, none) ∧ p = -1 ∧ c = 0)

theorem src_two (w : World) (x y : UInt8) (cx cy : Int) (g : Nat) (hg : g = w.heap.size) (hx : cx = x.toNat) (hy : cy = y.toNat) : SrcAt (w.alloc (.cells #[.int .u8 cx, .int .u8 cy] 5)) (.slice (some ⟨g, 0, none⟩) 2 2) [x, y] := by
  subst hg
  subst hx; subst hy
  refine .inr ⟨⟨w.heap.size, 0, none⟩, 2, rfl, fun j u hu => ?_⟩
  have hj : j < 2 := by
    have := (List.getElem?_eq_some_iff.1 hu).1
    simpa using this
  have e : (⟨w.heap.size, 0, none⟩ : Addr).add j = ⟨w.heap.size, j, none⟩ := by unfold Addr.add; simp; intro h; exact h.symm
  rw [e, World.cell?_alloc_mark, ← hu]
  rcases j with _ | _ | j
  · rfl
  · rfl
  · omega

theorem wide_next {note : List UInt8} {ts : List Lx.Tok} {k : Nat} {t : Lx.Tok} (h : ts[k]? = some t) : Lx.wide note (ts.take (k + 1)) = Lx.wide note (ts.take k) ++ [32, 59] ++ note ++ [10, 9] ++ t.text := by
  rw [List.take_add_one, h]; simp [Lx.wide]

/-- The bytes of a slice that came in. -/
theorem slice_byte {w : World} {a : Option Addr} {len cap : Nat} {l : List UInt8} (h : SliceAt w (.slice a len cap) l) (hl : l.length = len) (h0 : 0 < len) : ∃ b off, a = some ⟨b, off, none⟩ ∧ BytesAt w b off l ∧ len ≤ cap ∧ cap ≤ 9223372036854775807 := by
  rcases h with ⟨p, c, he, rfl⟩ | ⟨b, off, c, he, h1, h2, h3⟩
  · simp at hl; omega
  · injection he with e1 e2 e3
    subst e3
    exact ⟨b, off, e1, h3, by omega, by omega⟩

set_option maxHeartbeats 2000000 in
set_option maxRecDepth 100000 in
theorem lexBlanks_walk (w : World) (a0 : Option Addr) (len0 cap0 : Nat) (a1 : Option Addr) (len1 cap1 : Nat) (la lb : List UInt8)
    (hsb : SrcAt w (.slice a1 len1 cap1) lb) (hta : SliceAt w (.slice a0 len0 cap0) la) (htb : SliceAt w (.slice a1 len1 cap1) lb)
    (hla : la.length = len0) (hlb : lb.length = len1) :
    Calls Tryd.prog 4 #[.slice a0 len0 cap0, .slice a1 len1 cap1] w fun e w' => e = .returned (.bool true) ∧ Below w.heap.size w w' := by
  have HSB := Lib.hid hsb; have HTA := Lib.hid hta; have HTB := Lib.hid htb; have HLA := Lib.hid hla; have HLB := Lib.hid hlb
  clear hsb hta htb hla hlb
  go_enter Tryd.func4, Tryd.ntmps4
  go_wp2_with fail
  refine (lives_any _).mono ?_
  rintro e w1 ⟨rfl, hb1⟩
  have HB1 := Lib.hid hb1; clear hb1
  by_cases hlong : 600 < len0 ∨ 20 < len1
  · by_cases hlong0 : 600 < len0
    · have hl0 : (600 : Int) < (len0 : Int) := by omega
      go_wp2_with fail
      refine (lives_any _).mono ?_
      rintro e w2 ⟨rfl, hb2⟩
      have HB2 := Lib.hid (HB1.out.trans (hb2.mono HB1.out.size)); clear hb2
      go_wp2_with fail
      go_ret
      exact ⟨rfl, HB2.out⟩
    · have hl0 : ¬ (600 : Int) < (len0 : Int) := by omega
      have hl1 : (20 : Int) < (len1 : Int) := by omega
      go_wp2_with fail
      refine (lives_any _).mono ?_
      rintro e w2 ⟨rfl, hb2⟩
      have HB2 := Lib.hid (HB1.out.trans (hb2.mono HB1.out.size)); clear hb2
      go_wp2_with fail
      go_ret
      exact ⟨rfl, HB2.out⟩
  · have hl0 : ¬ (600 : Int) < (len0 : Int) := by omega
    have hl1 : ¬ (20 : Int) < (len1 : Int) := by omega
    go_wp2_with fail
    refine (tokens_any _ la _ (HTA.out.below HB1.out)).mono ?_
    rintro e w2 ⟨v, ts, p, c, rfl, hB2, hown, hcase⟩
    have HBW := Lib.hid (HB1.out.trans (hB2.mono HB1.out.size)); have HO := Lib.hid hown
    have HCASE : Hid (BkCase la ts p c) := Lib.hid hcase
    clear hB2 hown hcase
    obtain ⟨pp, cp, rfl⟩ := own_len HO.out
    rcases HCASE.out with ⟨h, _⟩ | ⟨_, q, hq, rfl, rfl, rfl⟩ | ⟨_, hq, rfl, rfl⟩
    · exact absurd h (by rw [HLA.out]; omega)
    · go_wp2
      go_ret
      exact ⟨rfl, HBW.out⟩
    · have hch := Lx.chain_lone la ts 0 (Lx.chain_toks la ts hq)
      have hll := Lx.toks_len (la.length + 1) 0 la
      rw [hq, HLA.out] at hll
      simp only [] at hll
      have HCH := Lib.hid hch
      obtain ⟨nz, hnz⟩ : ∃ nz, nz = ts.length := ⟨_, rfl⟩
      have hoc : ∀ k t, ts[k]? = some t → ∃ g, pp = some ⟨g, 0, none⟩ ∧ g < w2.heap.size ∧ w2.cell? ⟨g, k * 4, none⟩ = some (.int .i64 t.kind) ∧ w2.cell? ⟨g, k * 4 + 1, none⟩ = some (.int .i64 t.pos) ∧ w2.cell? ⟨g, k * 4 + 2, none⟩ = some (.string ⟨t.text.toArray⟩) ∧ w2.cell? ⟨g, k * 4 + 3, none⟩ = some (.int .i64 t.int) := own_cells HO.out
      have HOC := Lib.hid hoc
      rw [← hnz]; rw [← hnz] at hll
      have HNZ := Lib.hid hnz
      clear hnz hoc HO hch hq HCASE
      go_wp2_with fail
      go_loopw [8, 43] (fun v i wa => ∃ k : Nat, i = .int .i64 k ∧ k ≤ nz ∧ Hid (wa.ownsRow w2.heap.size 5 1 v (Lx.wide lb (ts.take k)).length ((Lx.wide lb (ts.take k)).map byteV)) ∧ (Lx.wide lb (ts.take k)).length ≤ k * 700 ∧ Below w2.heap.size w2 wa) (fun _ i _ => nz - (intOf i).toNat)
      case atStart => exact ⟨0, rfl, by omega, Lib.hid ⟨rfl, .inl ⟨rfl, rfl⟩⟩, by simp [Lx.wide], Below.refl _ _⟩
      case round =>
        obtain ⟨k, rfl, hk, HOV, hwl, hb⟩ := hrel
        have HB := Lib.hid hb; have HWL := Lib.hid hwl
        have hsz := hb.size
        clear hb hwl
        by_cases hkz : k < nz
        · obtain ⟨t, ht⟩ : ∃ t, ts[k]? = some t := ⟨_, List.getElem?_eq_getElem (by rw [← HNZ.out]; exact hkz)⟩
          obtain ⟨g, rfl, hg, C0, C1, C2, C3⟩ := HOC.out k t ht
          have c0 := (HB.out.cell (p := ⟨g, k * 4, none⟩) hg).trans C0
          have c1 := (HB.out.cell (p := ⟨g, k * 4 + 1, none⟩) hg).trans C1
          have c2 := (HB.out.cell (p := ⟨g, k * 4 + 2, none⟩) hg).trans C2
          have c3 := (HB.out.cell (p := ⟨g, k * 4 + 3, none⟩) hg).trans C3
          have hg' : g < wr.heap.size := by omega
          have htl : t.text.length ≤ 600 := by
            have := (HCH.out t (List.mem_of_getElem? ht)).2.1
            rw [HLA.out] at this; omega
          have hwn := wide_next (note := lb) ht
          have HWN := Lib.hid hwn; have HTL := Lib.hid htl
          generalize Lx.wide lb (ts.take k) = D at *
          generalize htt : t.text = T at *
          generalize htp : t.pos = A at *
          generalize htK : t.kind = Kd at *
          generalize htI : t.int = Iv at *
          clear C0 C1 C2 C3 ht hwn htl htt htp htK htI
          have hr1 := Lib.hid (show D.length + [(32 : UInt8), 59].length ≤ 140737488355328 by have := HWL.out; simp; omega)
          have hr2 := Lib.hid (show (D ++ [(32 : UInt8), 59]).length + lb.length ≤ 140737488355328 by have := HWL.out; rw [HLB.out]; simp; omega)
          have hr3 := Lib.hid (show (D ++ [(32 : UInt8), 59] ++ lb).length + [(10 : UInt8), 9].length ≤ 140737488355328 by have := HWL.out; have := HLB.out; simp; omega)
          have hr4 := Lib.hid (show (D ++ [(32 : UInt8), 59] ++ lb ++ [(10 : UInt8), 9]).length + T.length ≤ 140737488355328 by have := HWL.out; have := HLB.out; have := HTL.out; simp; omega)
          go_wp2_with (at_builtin; go_loud (refine wpList_append_bytes rfl (.tmp 47) (.tmp 48) rfl w2.heap.size _ D [32, 59] rfl ((HOV.out.alloc _).alloc _) _ rfl (src_two _ 32 59 32 59 _ (by simp) rfl rfl) hr1.out (by simp; omega) ?_))
          intro v3 w3 hown3 hg3
          have hB3 := ((HB.out.alloc hsz (.cells #[.int .i64 Kd, .int .i64 A, .string ⟨T.toArray⟩, .int .i64 Iv] 33)).alloc (by simp; omega) (.cells #[.int .u8 32, .int .u8 59] 5)).grown hg3 (by simp; omega) (fun q hq => (HOV.out.lt q hq).1)
          have hs3 := hg3.size
          simp at hs3
          have hh3 : w3.heap[wr.heap.size]? = some (.cells #[.int .i64 Kd, .int .i64 A, .string ⟨T.toArray⟩, .int .i64 Iv] 33 (0, 0)) := by
            rw [hg3.block _ (by simp; omega) (fun e => by have := (HOV.out.lt _ e.symm).2; omega)]
            rw [heap_alloc_old _ _ (by simp)]; exact heap_alloc_new _ _
          have hown3' : w3.ownsRow w2.heap.size 5 1 v3 (D ++ [(32 : UInt8), 59]).length ((D ++ [(32 : UInt8), 59]).map byteV) := by simpa using hown3
          have HB3 := Lib.hid hB3; have HO3 := Lib.hid hown3'; have HH3 := Lib.hid hh3
          clear hB3 hown3 hown3' hh3 hg3 c0 c1 c2 c3
          go_wp2_with (at_builtin; go_loud (refine wpList_append_bytes rfl (.tmp 49) (.tmp 50) rfl w2.heap.size _ (D ++ [32, 59]) lb rfl HO3.out _ rfl (HSB.out.below (HBW.out.trans (HB3.out.mono HBW.out.size))) hr2.out (by omega) ?_))
          intro v4 w4 hown4 hg4
          have hne3 := own_ne HO3.out HH3.out (by decide)
          have hB4 := HB3.out.grown hg4 (by omega) (fun q hq => (HO3.out.lt q hq).1)
          have hs4 := hg4.size
          have hh4 : w4.heap[wr.heap.size]? = some (.cells #[.int .i64 Kd, .int .i64 A, .string ⟨T.toArray⟩, .int .i64 Iv] 33 (0, 0)) := by
            rw [hg4.block _ (by omega) (Ne.symm hne3)]; exact HH3.out
          have hc4 : w4.cell? ⟨wr.heap.size, 2, none⟩ = some (.string ⟨T.toArray⟩) := by
            unfold World.cell?; simp [hh4]
          have hown4' : w4.ownsRow w2.heap.size 5 1 v4 (D ++ [(32 : UInt8), 59] ++ lb).length ((D ++ [(32 : UInt8), 59] ++ lb).map byteV) := by simpa using hown4
          have hne4 := own_ne hown4' hh4 (by decide)
          have HB4 := Lib.hid hB4; have HO4 := Lib.hid hown4'
          clear hB4 hown4 hown4' hg4 HB3 HO3 HH3 hne3
          have hlt4 : wr.heap.size < w4.heap.size := by omega
          have hb24 : w2.heap.size ≤ w4.heap.size := by omega
          go_wp2_with fail
          go_region_held3 (fun w' => w'.heap[wr.heap.size]? = some (.cells #[.int .i64 Kd, .int .i64 A, .string ⟨T.toArray⟩, .int .i64 Iv] 33 (0, 0)) ∧ w'.cell? ⟨wr.heap.size, 2, none⟩ = some (.string ⟨T.toArray⟩))
            (first
              | exact ⟨hh4, hc4⟩
              | exact ⟨(heap_alloc_old w4.drew _ hlt4).trans hh4, (World.cell?_alloc_past _ _ _ hlt4).trans hc4⟩
              | exact ⟨(hg5.block _ (by simp; omega) (Ne.symm hne4)).trans ((heap_alloc_old w4.drew _ hlt4).trans hh4), (hg5.cell_far _ (by simp; omega) (Ne.symm hne4)).trans ((World.cell?_alloc_past _ _ _ hlt4).trans hc4)⟩
              | (go_split_ands
                 have hne5 := own_ne (b := wr.heap.size) hown5 (by assumption) (by decide)
                 refine ⟨?_, ?_⟩
                 · (rw [hg6.block _ (by have := hg5.size; simp at this; omega) (Ne.symm hne5)]; assumption)
                 · (rw [hg6.cell_far _ (by have := hg5.size; simp at this; simp; omega) (Ne.symm hne5)]; assumption)))
            (first
              | (refine step_append_bytes (by rfl) (.tmp 52) (.tmp 53) (by rfl) w2.heap.size v4 (.slice (some ⟨w4.heap.size, 0, none⟩) 2 2) (D ++ [32, 59] ++ lb) [10, 9] (by rfl) ((HO4.out.drew).alloc _) (by rfl) (src_two _ 10 9 10 9 _ (by simp) rfl rfl) hr3.out (by simp; omega) ?_; intro v5 w5 hown5 hg5)
              | (refine step_append_str (by rfl) (.tmp 54) (.tmp 56) (by rfl) w2.heap.size v5 (D ++ [32, 59] ++ lb ++ [10, 9]) T (by rfl) hown5 (by rfl) hr4.out (by have := hg5.size; simp at this; omega) ?_; intro v6 w6 hown6 hg6))
          have hB6 := ((HB4.out.drew.alloc hb24 (.cells #[.int .u8 10, .int .u8 9] 5)).grown hg5 (by simp; omega) (fun q hq => (HO4.out.lt q hq).1)).grown hg6 (by have := hg5.size; simp at this; omega) (fun q hq => (hown5.lt q hq).1)
          have HB6 := Lib.hid hB6; have HO6 := Lib.hid hown6
          clear hB6 hown6 hg6 hown5 hg5 hne4 hh4 hc4 HB4 HO4
          go_wp2
          go_roundw
          case rel =>
            refine ⟨k + 1, by go_num, by omega, ?_, ?_, HB6.out⟩
            · rw [HWN.out]; exact HO6
            · rw [HWN.out]; have := HWL.out; have := HTL.out; have := HLB.out; simp; omega
          case measure => simp [intOf]; omega
        · have htk : ts.take k = ts := List.take_of_length_le (by rw [← HNZ.out]; omega)
          have hov := HOV.out
          rw [htk] at hov
          obtain ⟨Wl, hWl⟩ : ∃ x, x = Lx.wide lb ts := ⟨_, rfl⟩
          rw [← hWl] at hov
          obtain ⟨pv, cv, rfl⟩ := own_len hov
          have HOW := Lib.hid hov; have HWE := Lib.hid hWl
          have hbwa := HBW.out.trans (HB.out.mono HBW.out.size)
          have HBA := Lib.hid hbwa
          have hlte : Wl.length ≤ 420000 := by have h := HWL.out; rw [htk, ← hWl] at h; omega
          clear hov hWl hbwa htk HOV HWL
          obtain ⟨wa, hwa⟩ : ∃ x, x = wr := ⟨wr, rfl⟩
          subst hwa
          go_wp2_with fail
          go_loopw [61, 12] (fun i _ wb => wb = wa ∧ ∃ j : Nat, i = .int .i64 j ∧ j ≤ len1 ∧ Hid (∀ q, q < j → (Lx.at0 lb q).toNat ≠ 10)) (fun i _ _ => len1 - (intOf i).toNat)
          case atStart => exact ⟨rfl, 0, rfl, by omega, Lib.hid fun q h => absurd h (by omega)⟩
          case round =>
            obtain ⟨hwe, j, rfl, hj, HSP⟩ := hrel
            subst hwe
            by_cases hjl : j < len1
            · obtain ⟨b, off, rfl, hbt, hlc, hcc⟩ := slice_byte (HTB.out.below HBA.out) HLB.out (by omega)
              have hcell := hbt j (by rw [HLB.out]; exact hjl)
              clear hbt
              by_cases h10 : (Lx.at0 lb j).toNat = 10
              · have h10' : ((Lx.at0 lb j).toNat : Int) = 10 := by omega
                go_wp2
                go_ret
                exact ⟨rfl, HBA.out⟩
              · have h10' : ¬ ((Lx.at0 lb j).toNat : Int) = 10 := by omega
                go_wp2
                go_roundw
                case rel =>
                  refine ⟨by trivial, j + 1, by go_num, by omega, Lib.hid fun q hq => ?_⟩
                  rcases Nat.lt_or_ge q j with h | h
                  · exact HSP.out q h
                  · obtain rfl : q = j := by omega
                    exact h10
                case measure => simp [intOf]; omega
            · have hn : ∀ c ∈ lb, c.toNat ≠ 10 := by
                intro c hc
                obtain ⟨q, hq, rfl⟩ := List.getElem_of_mem hc
                have h := HSP.out q (by rw [HLB.out] at hq; omega)
                simpa [Lx.at0, List.getD_eq_getElem?_getD, List.getElem?_eq_getElem hq] using h
              have HN := Lib.hid hn
              clear hn
              by_cases hw4 : 4096 < Wl.length
              · have hw4' : (4096 : Int) < (Wl.length : Int) := by omega
                go_wp2
                go_ret
                exact ⟨rfl, HBA.out⟩
              · have hw4' : ¬ (4096 : Int) < (Wl.length : Int) := by omega
                go_wp2_with fail
                refine (tokens_any _ Wl _ (sliceAt_own HOW.out)).mono ?_
                rintro e w5 ⟨v5, tsW, pW, cW, rfl, hB5, hown5, hcase5⟩
                have HC5 : Hid (BkCase Wl tsW pW cW) := Lib.hid hcase5
                have HB5 := Lib.hid hB5; have HO5 := Lib.hid hown5
                clear hB5 hown5 hcase5
                obtain ⟨ts', ht1, ht2, ht3⟩ := Lx.wide_toks lb HN.out ts (Wl.length + 1) 0 (fun t ht => (HCH.out t ht).1) (by rw [← HWE.out]; omega)
                rw [← HWE.out] at ht1
                obtain ⟨rfl, rfl, rfl⟩ : tsW = ts' ∧ pW = -1 ∧ cW = 0 := by
                  rcases HC5.out with ⟨h, _⟩ | ⟨_, q', h, _⟩ | ⟨_, h, h2, h3⟩
                  · omega
                  · rw [ht1] at h; simp at h
                  · rw [ht1] at h; simp only [Prod.mk.injEq, and_true] at h; exact ⟨h.symm, h2, h3⟩
                obtain ⟨pq, cq, rfl⟩ := own_len HO5.out
                have hoq : ∀ i t, tsW[i]? = some t → ∃ g, pq = some ⟨g, 0, none⟩ ∧ g < w5.heap.size ∧ w5.cell? ⟨g, i * 4, none⟩ = some (.int .i64 t.kind) ∧ w5.cell? ⟨g, i * 4 + 1, none⟩ = some (.int .i64 t.pos) ∧ w5.cell? ⟨g, i * 4 + 2, none⟩ = some (.string ⟨t.text.toArray⟩) ∧ w5.cell? ⟨g, i * 4 + 3, none⟩ = some (.int .i64 t.int) := own_cells HO5.out
                have HOQ := Lib.hid hoq; have HT3 := Lib.hid ht3
                have hln : tsW.length = nz := by rw [ht2, HNZ.out]
                rw [hln]
                have HW5 := Lib.hid (HBA.out.trans (HB5.out.mono HBA.out.size))
                have HB25 := Lib.hid (HB.out.trans (HB5.out.mono HB.out.size))
                clear hoq ht1 ht2 ht3 hln HC5 HO5
                go_wp2_with fail
                go_loopw [16, 88] (fun _ i wc => (∃ q, wc = w5.drewN q) ∧ ∃ j : Nat, i = .int .i64 j ∧ j ≤ nz) (fun _ i _ => nz - (intOf i).toNat)
                case atStart => exact ⟨⟨0, rfl⟩, 0, rfl, by omega⟩
                case round =>
                  obtain ⟨⟨dn, hwe⟩, m, rfl, hm⟩ := hrel
                  have HWr : Hid (Below w.heap.size w wr) := Lib.hid (by rw [hwe]; exact below_drewN HW5.out _)
                  have HB2r : Hid (Below w2.heap.size w2 wr) := Lib.hid (by rw [hwe]; exact below_drewN HB25.out _)
                  have HEQ := Lib.hid hwe
                  clear hwe
                  by_cases hmz : m < nz
                  · obtain ⟨t, ht⟩ : ∃ t, ts[m]? = some t := ⟨_, List.getElem?_eq_getElem (by rw [← HNZ.out]; exact hmz)⟩
                    obtain ⟨q, htq⟩ := HT3.out m t ht
                    obtain ⟨hlone, hle, htx⟩ := HCH.out t (List.mem_of_getElem? ht)
                    obtain ⟨g, rfl, hg, C0, C1, C2, C3⟩ := HOC.out m t ht
                    obtain ⟨g2, rfl, hg2, D0, D1, D2, D3⟩ := HOQ.out m _ htq
                    have c0 := (HB2r.out.cell (p := ⟨g, m * 4, none⟩) hg).trans C0
                    have c1 := (HB2r.out.cell (p := ⟨g, m * 4 + 1, none⟩) hg).trans C1
                    have c2 := (HB2r.out.cell (p := ⟨g, m * 4 + 2, none⟩) hg).trans C2
                    have c3 := (HB2r.out.cell (p := ⟨g, m * 4 + 3, none⟩) hg).trans C3
                    have d0 : wr.cell? ⟨g2, m * 4, none⟩ = some (.int .i64 t.kind) := by rw [HEQ.out]; exact D0
                    have d2 : wr.cell? ⟨g2, m * 4 + 2, none⟩ = some (.string ⟨t.text.toArray⟩) := by rw [HEQ.out]; exact D2
                    have d3 : wr.cell? ⟨g2, m * 4 + 3, none⟩ = some (.int .i64 t.int) := by
                      rw [HEQ.out]; refine Eq.trans D3 ?_; rw [hlone.2.2.2]; rfl
                    have htl : 0 < t.text.length := List.length_pos_iff.2 hlone.2.2.1
                    rw [HLA.out] at hle
                    clear C0 C1 C2 C3 D0 D1 D2 D3 ht htq hlone
                    obtain ⟨b, off, rfl, hbt, hlc, hcc⟩ := slice_byte (HTA.out.below HWr.out) HLA.out (by omega)
                    generalize htt : t.text = T at *
                    generalize htp : t.pos = A at *
                    generalize htK : t.kind = Kd at *
                    generalize htI : t.int = Iv at *
                    have hcv : ∀ nq, (convert 22 9 (.slice (some ⟨b, off + A, none⟩) T.length (cap0 - A))).run Tryd.prog (wr.drewN nq) = .ok (.string ⟨T.toArray⟩) (wr.drewN nq) := by
                      intro nq
                      refine run_convert_bytes_back (P := Tryd.prog) (wr.drewN nq) 22 9 5 ⟨b, off + A, none⟩ (cap0 - A) T Tryd.underlying22 Tryd.underlying5 Tryd.underlying9 (fun j hj => ?_)
                      have hplain : (⟨b, off + A, none⟩ : Addr).add j = ⟨b, off + (A + j), none⟩ := by unfold Addr.add; simp [Nat.add_assoc]
                      have e0 : (wr.drewN nq).cell? ⟨b, off + (A + j), none⟩ = wr.cell? ⟨b, off + (A + j), none⟩ := rfl
                      rw [hplain, e0, hbt (A + j) (by rw [HLA.out]; omega)]
                      have e := Lx.take_at0 (la.drop A) T.length j (by omega)
                      rw [Lx.at0_drop, ← htx] at e
                      rw [← e]
                      simp [Lx.at0, List.getD_eq_getElem?_getD, List.getElem?_eq_getElem hj]
                    obtain ⟨B, hB⟩ : ∃ B, B = A + T.length := ⟨_, rfl⟩
                    have hBl : B ≤ len0 := by omega
                    have hAB : A < B := by omega
                    have hBc : B ≤ cap0 := by omega
                    have hBI : (B : Int) ≤ (cap0 : Int) := by omega
                    have hABI : (A : Int) ≤ (B : Int) := by omega
                    have f5 : IntKind.i64.wrap ((A : Int) + (T.length : Int)) = (B : Int) := by rw [IntWalk.i64_in _ (by omega)]; omega
                    have e1 : T.length = B - A := by omega
                    rw [e1] at hcv
                    have hcv0 : (convert 22 9 (.slice (some ⟨b, off + A, none⟩) (B - A) (cap0 - A))).run Tryd.prog wr = .ok (.string ⟨T.toArray⟩) wr := hcv 0
                    have hcA : ¬ cap0 = A := by omega
                    have HBB := Lib.hid hB
                    clear htx htt htp htK htI hbt hB e1
                    go_wp2_with fail
                    go_quiet (fail)
                    clear hcv hcv0 f5
                    go_wp2
                    go_roundw
                    case rel => exact ⟨⟨dn + nq, by rw [HEQ.out, World.drewN_drewN]⟩, m + 1, by go_num, by omega⟩
                    case measure => simp [intOf]; omega
                  · obtain rfl : m = nz := by omega
                    go_wp2
                    go_ret
                    exact ⟨rfl, HWr.out⟩

theorem lexBlanks_row (w : World) (a0 : Option Addr) (len0 cap0 : Nat) (z0 : List Int) (w0 : IsRow .u8 w a0 len0 cap0 z0) (a1 : Option Addr) (len1 cap1 : Nat) (z1 : List Int) (w1 : IsRow .u8 w a1 len1 cap1 z1) :
    Calls Tryd.prog 4 #[.slice a0 len0 cap0, .slice a1 len1 cap1] w fun e w' => e = .returned (.bool true) ∧ Below w.heap.size w w' := by
  obtain ⟨_, t0, l0, _⟩ := row_src w0
  obtain ⟨s1, t1, l1, _⟩ := row_src w1
  exact lexBlanks_walk w a0 len0 cap0 a1 len1 cap1 _ _ s1 t0 t1 l0 l1
end Go.Proofs.YtcnpbbhkdogdeaaDoor
