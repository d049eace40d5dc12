/-
  The document's answer: who reaches whom.
-/
import Derived.Test.YtjefnmcalmcciaaRefM
import Derived.Test.YtjefnmcalmcciaaLoneP
namespace Go.Proofs.Ytjefnmcalmcciaa
open Go Go.RowKit
set_option linter.unusedVariables false
set_option linter.unusedSimpArgs false

def RowOf (l : List Nat) (e n : Nat) (f : Nat → Bool) : Prop := ∀ b, b < n → (f b = true ↔ ∃ j, j < e ∧ l[j]? = some b)
theorem RowOf.nil (l : List Nat) (n : Nat) : RowOf l 0 n (fun _ => false) := fun b hb => by simp
theorem RowOf.step {l : List Nat} {e n : Nat} {f : Nat → Bool} (h : RowOf l e n f) {y : Nat} (hy : l[e]? = some y) : RowOf l (e + 1) n (fun j => f j || decide (j = y)) := by
  intro b hb
  simp only [Bool.or_eq_true, decide_eq_true_eq]
  rw [h b hb]
  constructor
  · rintro (⟨j, h1, h2⟩ | rfl)
    · exact ⟨j, by omega, h2⟩
    · exact ⟨e, by omega, hy⟩
  · rintro ⟨j, h1, h2⟩
    by_cases ej : j = e
    · subst ej; rw [hy] at h2; exact .inr (Option.some.inj h2).symm
    · exact .inl ⟨j, by omega, h2⟩
def RowRel (lo n : Nat) (wr : World) (l : List Nat) (e : Nat) (wx : World) : Prop := ∃ f, BoolsAt wx wr.heap.size n f ∧ RowOf l e n f ∧ Below wr.heap.size wr wx
def LaidRel (g : List (List Nat)) (w0 : World) (rv : Value) (k : Nat) (w : World) : Prop :=
  ∃ bs R, Mat w0.heap.size g.length w rv bs R ∧ bs.length = k ∧ (∀ a b, a < k → b < g.length → (R a b = true ↔ Gr.Hang g a b)) ∧ Below w0.heap.size w0 w
def ToldRel (g : List (List Nat)) (w0 : World) (rv : Value) (bs : List Nat) (m i k : Nat) (w : World) : Prop :=
  ∃ R, Mat w0.heap.size g.length w rv bs R ∧ Gr.Told g m i k R ∧ Below w0.heap.size w0 w
def ReachPost (g : List (List Nat)) (w0 : World) (e : Ending) (w : World) : Prop :=
  ∃ rv bs R, e = .returned rv ∧ Mat w0.heap.size g.length w rv bs R ∧ bs.length = g.length ∧ (∀ a b, a < g.length → b < g.length → (R a b = true ↔ Gr.Reach g a b)) ∧ Below w0.heap.size w0 w

set_option maxHeartbeats 4000000 in
set_option maxRecDepth 100000 in
theorem reach_any (v : Value) (g : List (List Nat)) (w : World) (h : RowsAt w v (ints g)) (hg : Gr.Good g) (hs : g.length ≤ 1000000) (hll : ∀ l ∈ g, l.length ≤ 1000000000) :
    Calls Try.prog 21 #[v] w (ReachPost g w) := by
  obtain ⟨p, c, rfl⟩ := h.len
  have HG := Lib.hid h; have HGOOD := Lib.hid hg; have HLL := Lib.hid hll
  rw [ints_len] at *
  clear h hg hll
  have hmk := makeBools g.length (by omega)
  go_enter Try.func21, Try.ntmps21
  have HLR0 : Hid (LaidRel g w (.slice none 0 0) 0 w) := Lib.hid ⟨[], fun _ _ => false, Mat.nil _ _ _ _, rfl, fun a b ha => absurd ha (Nat.not_lt_zero _), Below.refl _ _⟩
  go_wp2_with fail
  go_loopw [4, 5] (fun rv i wr => ∃ k : Nat, i = .int .i64 k ∧ k ≤ g.length ∧ Hid (LaidRel g w rv k wr)) (fun _ i _ => g.length - (intOf i).toNat)
  case atStart => exact ⟨0, rfl, Nat.zero_le _, HLR0⟩
  case round =>
    clear HLR0
    obtain ⟨k, rfl, hk, HLR⟩ := hrel
    rename World => wA
    obtain ⟨bs, R, hmat, hbl, hR, hbe⟩ := HLR.out
    have HMAT := Lib.hid hmat; have HBL := Lib.hid hbl; have HR := Lib.hid hR; have HBE := Lib.hid hbe
    by_cases hkn : k < g.length
    · obtain ⟨l, hlk⟩ : ∃ l, g[k]? = some l := ⟨_, List.getElem?_eq_getElem hkn⟩
      obtain ⟨b, o, q, d, hpe, hcm, hzz, hnc, hcell, hints⟩ := HG.out.at (ints_at hlk)
      rw [nums_len] at hcell hints
      subst hpe
      have HCE := Lib.hid (cell_up hbe hcell)
      have HLK := Lib.hid hlk; have HI := Lib.hid (hints.below hbe)
      have hll : (l.length : Int) ≤ 1000000000 := by have := HLL.out l (List.mem_of_getElem? hlk); omega
      have hki : (k : Int) < g.length := by omega
      have HRR : Hid (RowRel w.heap.size g.length wA l 0 (wA.alloc (.cells (madeCells #[(.bool false : Value)] g.length) 4))) := Lib.hid ⟨fun _ => false, by unfold BoolsAt; rw [ent_new, madeBools], RowOf.nil _ _, (Below.refl _ _).alloc (Nat.le_refl _) _⟩
      clear hcell hints hlk hmat hbl hR hbe hzz HLR
      go_wp2_with fail
      go_loopw [7] (fun i wx => ∃ e : Nat, i = .int .i64 e ∧ e ≤ l.length ∧ Hid (RowRel w.heap.size g.length wA l e wx)) (fun i _ => l.length - (intOf i).toNat)
      case atStart => exact ⟨0, rfl, Nat.zero_le _, HRR⟩
      case round =>
        clear HRR
        obtain ⟨e, rfl, he, HRR⟩ := hrel
        obtain ⟨f, hbo, hro, hbx⟩ := HRR.out
        have hcell := cell_up hbx HCE.out
        by_cases hel : e < l.length
        · obtain ⟨y, hy⟩ : ∃ y, l[e]? = some y := ⟨_, List.getElem?_eq_getElem hel⟩
          obtain ⟨b3, o3, hp3, hcm3, hzz, hnc3, hcell3⟩ := (HI.out.below hbx).at (nums_at hy)
          subst hp3
          have hyn : y < g.length := (HGOOD.out.hang ⟨l, HLK.out, List.mem_of_getElem? hy⟩).2
          have hyi : (y : Int) < g.length := by omega
          have fB := hbo.cell hyn
          have zf := hbo.free y
          have HN : Hid (RowRel w.heap.size g.length wA l (e + 1) (wr.setCell ⟨wA.heap.size, y, none⟩ (.bool true))) := Lib.hid ⟨_, hbo.set y, hro.step hy, hbx.setCell (p := ⟨wA.heap.size, y, none⟩) (Nat.le_refl _) _⟩
          clear hbo hro hbx hy hzz HRR
          go_wp2
          go_roundw
          case rel => exact ⟨e + 1, by go_num, by omega, HN⟩
          case measure => simp [intOf]; omega
        · have hee : e = l.length := by omega
          rw [hee] at hro
          obtain ⟨i1, hj, hy0, hy1, hy2⟩ := info_parts infoBools
          have hm2 := HMAT.out.below hbx
          have hown := hm2.own
          rw [HBL.out] at hown
          have hlo : w.heap.size ≤ wA.heap.size := HBE.out.size
          have hlo2 : w.heap.size ≤ (wr.alloc (.cells #[.slice (some ⟨wA.heap.size, 0, none⟩) g.length g.length] 45)).heap.size := by have := hbx.size; simp; omega
          have hq1 : k + 1 ≤ maxLen := by unfold maxLen; omega
          have hq2 : (k + 1) * 24 ≤ 140737488355328 := by omega
          have J0 := Lib.hid hj; have J1 := Lib.hid hy0; have J2 := Lib.hid hy1; have J3 := Lib.hid hy2
          have HOWN := Lib.hid (hown.alloc (.cells #[.slice (some ⟨wA.heap.size, 0, none⟩) g.length g.length] 45)); have HLO := Lib.hid hlo2; have HQ1 := Lib.hid hq1; have HQ2 := Lib.hid hq2
          have HM2 := Lib.hid hm2; have HBO := Lib.hid hbo; have HRO := Lib.hid hro; have HBX := Lib.hid hbx; have HLO0 := Lib.hid hlo
          clear hj hy0 hy1 hy2 hown hlo hlo2 hq1 hq2 hm2 hbo hro hbx HRR hee
          go_wp2_with (at_builtin; go_loud (refine wpList_append_lies _ rfl (.tmp 38) (.tmp 40) 43 rfl w.heap.size 45 i1 (.slice none 0 0) 1 24 Try.underlying43 J0.out J1.out J2.out J3.out rfl (by decide) _ k (bs.map (rowV g.length)) rfl HOWN.out ⟨wr.heap.size, 0, none⟩ 1 1 [.slice (some ⟨wA.heap.size, 0, none⟩) g.length g.length] rfl rfl (fun j u hh => new_one wr _ _ j u hh) (by intro u hu; rw [List.mem_singleton.1 hu]; rfl) (by decide) HQ1.out HQ2.out HLO.out _ rfl ?_))
          intro g6 c6 w6 hown6 hgr6 hat6 hlt6
          have hpush := HM2.out.push (b := wA.heap.size) HBO.out HLO0.out (fun hm => by
            obtain ⟨i, hi⟩ := List.mem_iff_getElem?.1 hm
            have := ent_lt (HMAT.out.row i _ hi).1
            omega) (by rw [HBL.out]; exact hown6) hgr6
          have hb6 : Below w.heap.size w w6 := ((HBE.out.trans (HBX.out.mono HBE.out.size)).alloc (by have := HLO0.out; have := HBX.out.size; omega) _).grown hgr6 (by have := HLO.out; simp at this; simp; omega) (fun kk hkk => (HM2.out.own.lt kk hkk).1)
          have HN : Hid (LaidRel g w (.slice (some ⟨g6, 0, none⟩) (k + 1) c6) (k + 1) w6) := Lib.hid ⟨_, _, hpush, by rw [List.length_append, HBL.out]; rfl, fun a b ha hb => by
            by_cases ea : a = k
            · subst ea
              rw [HBL.out, Gr.upd_same, HRO.out b hb]
              constructor
              · rintro ⟨j, _, h2⟩; exact ⟨l, HLK.out, List.mem_of_getElem? h2⟩
              · rintro ⟨l', h1, h2⟩
                rw [HLK.out] at h1
                obtain rfl := Option.some.inj h1
                obtain ⟨j, hj⟩ := List.mem_iff_getElem?.1 h2
                exact ⟨j, Gr.some_lt hj, hj⟩
            · rw [Gr.upd_ne _ _ (by rw [HBL.out]; exact ea)]
              exact HR.out a b (by omega) hb, hb6⟩
          clear hown6 hgr6 hat6 hlt6 hpush hb6 HMAT HBL HR HBE HCE HI HOWN HM2 HBO HRO HBX
          go_wp2
          go_roundw
          case rel => exact ⟨k + 1, by go_num, by omega, HN⟩
          case measure => simp [intOf]; omega
    · have hkk : k = g.length := by omega
      rw [hkk] at hbl hR
      obtain ⟨p4, c4, rfl⟩ := own_form hmat.own
      have hbl2 := hbl
      rw [hbl] at hmat ⊢
      have HTR : Hid (ToldRel g w (.slice p4 g.length c4) bs 0 0 0 wA) := Lib.hid ⟨R, hmat, ⟨fun a b ha hb hr => .one ((hR a b ha hb).1 hr), fun a b ha hb hby => (hR a b ha hb).2 hby, fun a b ha hb hab => by omega⟩, hbe⟩
      have HBN := Lib.hid hbl2
      clear hmat hbl hbl2 hR hbe HMAT HBL HR HBE HLR hkk hmk
      go_wp2_with fail
      go_loopw [8] (fun i wr => ∃ m : Nat, i = .int .i64 m ∧ m ≤ g.length ∧ Hid (ToldRel g w (.slice p4 g.length c4) bs m 0 0 wr)) (fun i _ => g.length - (intOf i).toNat)
      case atStart => exact ⟨0, rfl, Nat.zero_le _, HTR⟩
      case round =>
        clear HTR
        obtain ⟨m, rfl, hm, HTR⟩ := hrel
        by_cases hmn : m < g.length
        · have hmi : (m : Int) < g.length := by omega
          go_wp2_with fail
          go_loopw [9] (fun i wr => ∃ k : Nat, i = .int .i64 k ∧ k ≤ g.length ∧ Hid (ToldRel g w (.slice p4 g.length c4) bs m k 0 wr)) (fun i _ => g.length - (intOf i).toNat)
          case atStart => exact ⟨0, rfl, Nat.zero_le _, HTR⟩
          case round =>
            clear HTR
            obtain ⟨i, rfl, hi, HTR⟩ := hrel
            by_cases hin : i < g.length
            · have hii : (i : Int) < g.length := by omega
              obtain ⟨R1, hmat, htold, hbe⟩ := HTR.out
              obtain ⟨bi, hbi⟩ : ∃ x, bs[i]? = some x := ⟨_, List.getElem?_eq_getElem (by rw [HBN.out]; exact hin)⟩
              obtain ⟨bm, hbm⟩ : ∃ x, bs[m]? = some x := ⟨_, List.getElem?_eq_getElem (by rw [HBN.out]; exact hmn)⟩
              obtain ⟨gr, hp4, ci⟩ := hmat.at hbi
              subst hp4
              have fi := (hmat.row i bi hbi).1.cell hmn
              have HBI := Lib.hid hbi; have HBM := Lib.hid hbm
              cases hR1 : R1 i m with
              | false =>
                rw [hR1] at fi
                have HN : Hid (ToldRel g w (.slice (some ⟨gr, 0, none⟩) g.length c4) bs m (i + 1) 0 wr) := Lib.hid ⟨R1, hmat, htold.skip hmn hin hR1, hbe⟩
                clear hmat htold hbe hbi hbm hR1 HTR
                go_wp2
                go_roundw
                case rel => exact ⟨i + 1, by go_num, by omega, HN⟩
                case measure => simp [intOf]; omega
              | true =>
                rw [hR1] at fi
                have HIR : Hid (∃ R, R i m = true ∧ Mat w.heap.size g.length wr (.slice (some ⟨gr, 0, none⟩) g.length c4) bs R ∧ Gr.Told g m i 0 R ∧ Below w.heap.size w wr) := Lib.hid ⟨R1, hR1, hmat, htold, hbe⟩
                clear hmat htold hbe hbi hbm hR1 HTR
                go_wp2_with fail
                clear fi ci
                go_loopw [10] (fun i' wr => ∃ k : Nat, i' = .int .i64 k ∧ k ≤ g.length ∧ Hid (∃ R, R i m = true ∧ Mat w.heap.size g.length wr (.slice (some ⟨gr, 0, none⟩) g.length c4) bs R ∧ Gr.Told g m i k R ∧ Below w.heap.size w wr)) (fun i _ => g.length - (intOf i).toNat)
                case atStart => exact ⟨0, rfl, Nat.zero_le _, HIR⟩
                case round =>
                  clear HIR
                  obtain ⟨k, rfl, hk2, HIR⟩ := hrel
                  obtain ⟨R2, hR2, hmat, htold, hbe⟩ := HIR.out
                  by_cases hkn2 : k < g.length
                  · have hki : (k : Int) < g.length := by omega
                    obtain ⟨gr', hp4', cm⟩ := hmat.at HBM.out
                    injection hp4' with hp4'
                    injection hp4' with hp4' _ _
                    subst hp4'
                    obtain ⟨gr', hp4', ci⟩ := hmat.at HBI.out
                    injection hp4' with hp4'
                    injection hp4' with hp4' _ _
                    subst hp4'
                    have fm := (hmat.row m bm HBM.out).1.cell hkn2
                    have fi := (hmat.row i bi HBI.out).1.cell hkn2
                    have zi := (hmat.row i bi HBI.out).1.free k
                    have hlo := (hmat.row i bi HBI.out).2
                    cases hRk : R2 m k with
                    | false =>
                      rw [hRk] at fm
                      have HN : Hid (∃ R, R i m = true ∧ Mat w.heap.size g.length wr (.slice (some ⟨gr, 0, none⟩) g.length c4) bs R ∧ Gr.Told g m i (k + 1) R ∧ Below w.heap.size w wr) := Lib.hid ⟨R2, hR2, hmat, htold.pass hmn hRk, hbe⟩
                      clear hmat htold hbe hR2 hRk HIR fi zi ci hlo
                      go_wp2
                      go_roundw
                      case rel => exact ⟨k + 1, by go_num, by omega, HN⟩
                      case measure => simp [intOf]; omega
                    | true =>
                      rw [hRk] at fm
                      have HN : Hid (∃ R, R i m = true ∧ Mat w.heap.size g.length (wr.setCell ⟨bi, k, none⟩ (.bool true)) (.slice (some ⟨gr, 0, none⟩) g.length c4) bs R ∧ Gr.Told g m i (k + 1) R ∧ Below w.heap.size w (wr.setCell ⟨bi, k, none⟩ (.bool true))) :=
                        Lib.hid ⟨_, Gr.upd2_true.2 (.inl hR2), hmat.set HBI.out k, htold.put hmn hin hkn2 hR2 hRk, hbe.setCell (p := ⟨bi, k, none⟩) hlo _⟩
                      clear hmat htold hbe hR2 hRk HIR hlo
                      go_wp2
                      go_roundw
                      case rel => exact ⟨k + 1, by go_num, by omega, HN⟩
                      case measure => simp [intOf]; omega
                  · have hkk : k = g.length := by omega
                    rw [hkk] at htold
                    have HN : Hid (ToldRel g w (.slice (some ⟨gr, 0, none⟩) g.length c4) bs m (i + 1) 0 wr) := Lib.hid ⟨R2, hmat, htold.row, hbe⟩
                    clear hmat htold hbe hR2 HIR hkk
                    go_wp2
                    go_roundw
                    case rel => exact ⟨i + 1, by go_num, by omega, HN⟩
                    case measure => simp [intOf]; omega
            · have hii : i = g.length := by omega
              obtain ⟨R1, hmat, htold, hbe⟩ := HTR.out
              rw [hii] at htold
              have HN : Hid (ToldRel g w (.slice p4 g.length c4) bs (m + 1) 0 0 wr) := Lib.hid ⟨R1, hmat, htold.all, hbe⟩
              clear hmat htold hbe hii HTR
              go_wp2
              go_roundw
              case rel => exact ⟨m + 1, by go_num, by omega, HN⟩
              case measure => simp [intOf]; omega
        · have hmm : m = g.length := by omega
          obtain ⟨R1, hmat, htold, hbe⟩ := HTR.out
          rw [hmm] at htold
          have HFIN : Hid (ReachPost g w (.returned (.slice p4 g.length c4)) wr) := Lib.hid ⟨_, bs, R1, rfl, hmat, HBN.out, fun a b ha hb => htold.done HGOOD.out ha hb, hbe⟩
          clear hmat htold hbe hmm HTR
          go_wp2
          go_ret
          exact HFIN.out
end Go.Proofs.Ytjefnmcalmcciaa
