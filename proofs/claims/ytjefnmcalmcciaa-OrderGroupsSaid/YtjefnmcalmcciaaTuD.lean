/-
  inTurn.
-/
import Derived.Test.YtjefnmcalmcciaaTuC
import Derived.Deep.LoopGhost
namespace Go.Proofs.Ytjefnmcalmcciaa
open Go Go.RowKit
set_option linter.unusedVariables false
set_option linter.unusedSimpArgs false

theorem infoInts : (Try.prog.info? 30).map (fun i => (i.zero, i.size, i.bytes)) = some (some (.slice none 0 0), 1, 24) := by kernel_rfl
theorem own_keep {lo n : Nat} {w w' : World} {v : Value} {xs : List Value} (h : w.ownsRow lo 30 1 v n xs) (hk : Keep lo w w') : w'.ownsRow lo 30 1 v n xs := by
  refine ⟨h.1, ?_⟩
  rcases h.2 with h2 | ⟨g, cap, cur, rfl, hb, hg, hc⟩
  · exact .inl h2
  · exact .inr ⟨g, cap, cur, rfl, hb, hk g cur hb hg, hc⟩
theorem Ph.stay {lo lo2 B Th Us Wt n : Nat} {w w' : World} {v : Nat → Value} {x : Nat → List Nat} {wt : Nat → Nat} {H : List Nat} {nv : Value} (h : Ph lo lo2 B Th Us Wt n w v x wt H nv) (hk : ∀ b, b < lo2 → w'.heap[b]? = w.heap[b]?)
    (hr : ∀ (b : Nat) (cs : Array Value), w.heap[b]? = some (.cells cs 3 (0, 0)) → w'.heap[b]? = some (.cells cs 3 (0, 0))) (hs : w.heap.size ≤ w'.heap.size) : Ph lo lo2 B Th Us Wt n w' v x wt H nv := by
  have ht := h.tu
  have hle := h.le
  refine ⟨⟨?_, ?_, ?_, ?_, ?_, ht.bt, ht.bu, ht.bw, ht.tu, ht.tw, ht.uw, ht.hB, ht.hT, ht.hU, ht.hW⟩, ⟨?_, ?_, h.rd.lo, h.rd.big⟩, h.le, h.fb, Nat.le_trans h.sz hs⟩
  · rw [hk B h.rd.lo]; exact ht.ent
  · rw [hk Th (by have := ht.hT; omega)]; exact ht.th
  · rw [hk Us (by have := ht.hU; omega)]; exact ht.us
  · unfold FnAt; rw [hk Wt (by have := ht.hW; omega)]; exact ht.wt
  · exact ht.fam.same fun i hi b hb => hk b (h.fb i hi b hb)
  · rw [hk B h.rd.lo]; exact h.rd.ent
  · refine own_same h.rd.own fun b hb => ?_
    obtain ⟨cs, hc⟩ := own_type h.rd.own hb
    rw [hc]; exact hr b cs hc

theorem own_form {w : World} {base e size n : Nat} {v : Value} {xs : List Value} (h : w.ownsRow base e size v n xs) : ∃ p c, v = .slice p n c := by
  rcases h.2 with ⟨rfl, rfl⟩ | ⟨g, cap, cur, rfl, _⟩
  · exact ⟨none, 0, rfl⟩
  · exact ⟨_, cap, rfl⟩

def ReadyRel (g : List (List Nat)) (f : Nat → Nat) (base lo lo2 B Th Us Wt : Nat) (v : Nat → Value) (x : Nat → List Nat) (wt : Nat → Nat) (w0 : World) (k : Nat) (w : World) : Prop :=
  ∃ H nv, Ph lo lo2 B Th Us Wt g.length w v x wt H nv ∧ Gr.IsHeap H H.length ∧ (∀ a, H.count a = if a < k ∧ f a = a ∧ wt a = 0 then 1 else 0) ∧ H.length ≤ k ∧ Below base w0 w
def TurnLoop (g : List (List Nat)) (f : Nat → Nat) (base lo lo2 B Th Us Wt : Nat) (v : Nat → Value) (x : Nat → List Nat) (w0 : World) (lv : Value) (R : List Nat) (w : World) : Prop :=
  ∃ wt H nv, Ph lo lo2 B Th Us Wt g.length w v x wt H nv ∧ Gr.Kn g f (fun b => x (2 * b + 1)) wt H R [] ∧ w.ownsRow lo2 30 1 lv R.length (R.map fun r => v (2 * r)) ∧ Below base w0 w
def InTurnPost (g : List (List Nat)) (w0 : World) (e : Ending) (w : World) : Prop :=
  ∃ L lv, e = .returned lv ∧ Gr.IsGroups g L ∧ RowsAt w lv (ints L) ∧ Below w0.heap.size w0 w ∧ L.length ≤ g.length

theorem ReadyRel.no {g : List (List Nat)} {f : Nat → Nat} {base lo lo2 B Th Us Wt : Nat} {v : Nat → Value} {x : Nat → List Nat} {wt : Nat → Nat} {w0 : World} {k : Nat} {w : World} (h : ReadyRel g f base lo lo2 B Th Us Wt v x wt w0 k w) (hn : ¬ (f k = k ∧ wt k = 0)) : ReadyRel g f base lo lo2 B Th Us Wt v x wt w0 (k + 1) w := by
  obtain ⟨H, nv, h1, h2, h3, h4, h5⟩ := h
  refine ⟨H, nv, h1, h2, fun a => ?_, by omega, h5⟩
  rw [h3 a]
  by_cases e : a = k
  · subst e
    rw [if_neg (fun hc => by omega), if_neg (fun hc => hn hc.2)]
  · have : (a < k + 1) ↔ a < k := by omega
    simp only [this]

/-- The list of groups, read. -/
theorem rows_of {g : List (List Nat)} {f : Nat → Nat} {lo lo2 B Th Us Wt : Nat} {w : World} {v : Nat → Value} {x : Nat → List Nat} {wt : Nat → Nat} {H : List Nat} {nv lv : Value} {R : List Nat} (hp : Ph lo lo2 B Th Us Wt g.length w v x wt H nv) (hR : ∀ r ∈ R, r < g.length ∧ f r = r) (hfst : Gr.Fst g f)
    (hth : ∀ r, r < g.length → x (2 * r) = (List.range g.length).filter fun t => f t = r) (ho : w.ownsRow lo2 30 1 lv R.length (R.map fun r => v (2 * r))) : RowsAt w lv (ints (R.map (Gr.grp g))) := by
  rcases ho.2 with ⟨rfl, hn⟩ | ⟨b, cap, cur, rfl, hb, hg, hc1, hc2, hc3, hc4⟩
  · have : R = [] := List.eq_nil_of_length_eq_zero hn
    subst this
    exact .inl ⟨rfl, none, 0, rfl⟩
  · refine .inr ⟨b, 0, cap, by simp [ints], by simpa [ints] using hc1, by unfold maxLen at hc2; omega, fun i l hl => ?_⟩
    simp only [ints, List.getElem?_map, Option.map_eq_some_iff] at hl
    obtain ⟨l0, ⟨r, hr, rfl⟩, rfl⟩ := hl
    have hrm := hR r (List.mem_of_getElem? hr)
    refine ⟨v (2 * r), ?_, ?_⟩
    · rw [Nat.zero_add]; exact own_cellAt ho (by rw [List.getElem?_map, hr]; rfl)
    · have hown := hp.tu.fam.own (2 * r) (by omega)
      have hx : x (2 * r) = Gr.grp g r := by rw [hth r hrm.1, Gr.grp_fst hfst hrm.1 hrm.2]
      rw [hx] at hown
      rcases hown.2 with ⟨h1, e⟩ | ⟨g', cap', cur', h1, h2, h3, h4, h5, h6⟩
      · rw [h1]
        have : Gr.grp g r = [] := List.eq_nil_of_length_eq_zero e
        rw [this]
        exact .inl ⟨rfl, none, 0, rfl⟩
      · rw [h1] at hown ⊢
        by_cases h0 : (Gr.grp g r).length = 0
        · exact .inl ⟨by rw [List.eq_nil_of_length_eq_zero h0]; rfl, _, _, by rw [h0]⟩
        · have := own_ints hown 0 (by omega)
          rw [List.drop_zero, Nat.sub_zero, Nat.sub_zero] at this
          exact this

set_option maxHeartbeats 4000000 in
set_option maxRecDepth 100000 in
theorem inTurn_any {p : Option Addr} {c R0 : Nat} {g : List (List Nat)} {f : Nat → Nat} {w : World} (hg : RowsAt w (.slice p g.length c) (ints g)) (hf : FnAt w R0 g.length f) (hfst : Gr.Fst g f) (hgood : Gr.Good g) (hll : Gr.sumN (g.map List.length) ≤ 100000000) (hsm : g.length ≤ 100000000) :
    Calls Try.prog 19 #[.slice p g.length c, .slice (some ⟨R0, 0, none⟩) g.length g.length] w (InTurnPost g w) := by
  have HG := Lib.hid hg; have HGOOD := Lib.hid hgood; have HLL := Lib.hid hll; have HF := Lib.hid hf; have HFST := Lib.hid hfst
  clear hg hgood hll hf hfst
  go_enter Try.func19, Try.ntmps19
  go_wp2_with fail
  refine (turnsOf_any HG.out HF.out HFST.out HGOOD.out HLL.out hsm).mono ?_
  rintro e w1 ⟨B, Th, Us, Wt, rfl, ⟨v, x, wt, ha, htn, hth, hb, hs4⟩, hlB, hlT, hlU, hlW⟩
  have hwait := htn.waits
  have HTN := Lib.hid htn; have HTH := Lib.hid hth; have HWT := Lib.hid hwait
  have hwl : ∀ a, wt a ≤ 10000000000000000 := fun a => by
    rw [hwait a]
    have h4 := waits_le (n := g.length) (us := fun b => x (2 * b + 1)) (a := a) (M := 100000000) (fun b => by
      have h5 : (x (2 * b + 1)).length ≤ _ := htn.len b
      have h6 := HLL.out
      rw [List.take_length] at h5
      omega)
    have h6 : g.length * 100000000 ≤ 100000000 * 100000000 := Nat.mul_le_mul_right _ hsm
    omega
  have HWL := Lib.hid hwl
  have hRR : ReadyRel g f w.heap.size (w.heap.size + 4) w1.heap.size B Th Us Wt v x wt w 0 w1 := ⟨[], .slice none 0 0, ⟨ha, ⟨ha.ent, World.ownsRow_nil _ _ _ _, by have := ha.hB; omega, by simp⟩, hs4, (fun i hi b hb2 => ((ha.fam.own i hi).lt b hb2).2), Nat.le_refl _⟩, (fun i h1 h2 => by simp at h2), (fun a => by simp), by simp, hb⟩
  have HRR := Lib.hid hRR
  have hBlt : B < w1.heap.size := by have := ha.hB; omega
  have hs1 : w.heap.size ≤ w1.heap.size := by omega
  obtain ⟨lo2, hlo2⟩ : ∃ lo2, lo2 = w1.heap.size := ⟨_, rfl⟩
  rw [← hlo2] at HRR hBlt hs1
  clear ha htn hth hb hs4 hwait hwl hRR hlo2
  go_wp2_with fail
  go_loopw [15] (fun i wr => ∃ k : Nat, i = .int .i64 k ∧ k ≤ g.length ∧ Hid (ReadyRel g f w.heap.size (w.heap.size + 4) lo2 B Th Us Wt v x wt w k wr)) (fun i _ => g.length - (intOf i).toNat)
  case atStart => exact ⟨0, rfl, Nat.zero_le _, HRR⟩
  case round =>
    clear HRR
    obtain ⟨k, rfl, hk, HRR⟩ := hrel
    by_cases hkn : k < g.length
    · obtain ⟨H, nv, hp, hh, hc, hl, hbe⟩ := HRR.out
      have ff := (HF.out.below hbe).cell hkn
      have HP := Lib.hid hp; have HH := Lib.hid hh; have HC := Lib.hid hc; have HBE := Lib.hid hbe
      clear hp hh hc hbe
      by_cases hfk : f k = k
      · have hfi : (f k : Int) = (k : Int) := by omega
        rw [hfi] at ff
        have f2 := ent_cell HP.out.tu.ent 2 (.slice (some ⟨Wt, 0, none⟩) g.length g.length) rfl
        have fw := HP.out.tu.wt.cell hkn
        have HFK := Lib.hid hfk
        clear hfk hfi
        have hki : (k : Int) < g.length := by omega
        by_cases hw0 : wt k = 0
        · have hwi : (wt k : Int) = 0 := by omega
          rw [hwi] at fw
          have HW0 := Lib.hid hw0
          clear hw0 hwi
          go_wp2_with fail
          refine (hpush_any HP.out.rd (Only.refl lo2 B wr) HP.out.sz HH.out k (by omega)).mono ?_
          rintro e w6 ⟨H', nv', rfl, hr6, hpu6, ho6⟩
          have HNEW : Hid (ReadyRel g f w.heap.size (w.heap.size + 4) lo2 B Th Us Wt v x wt w (k + 1) w6) := Lib.hid ⟨H', nv', HP.out.only ho6 hr6, hpu6.1, (fun a => by
            rw [hpu6.2.2 a, HC.out a]
            by_cases e : k = a
            · subst e
              rw [if_neg (fun hc => by omega), if_pos rfl, if_pos ⟨by omega, HFK.out, HW0.out⟩]
            · rw [if_neg e]
              have : (a < k + 1) ↔ a < k := by omega
              simp only [this]; rfl), by rw [hpu6.2.1]; omega, ho6.below HBE.out hs1 hlB⟩
          clear hr6 hpu6 ho6 f2 fw ff HRR
          go_wp2
          go_roundw
          case rel => exact ⟨k + 1, by go_num, by omega, HNEW⟩
          case measure => simp [intOf]; omega
        · have hwi : ((wt k : Int) == 0) = false := by simp; omega
          have hwj : ¬ ((wt k : Int) = 0) := by omega
          have HNEW := Lib.hid (HRR.out.no (fun hc => hw0 hc.2))
          clear hw0 HRR
          go_wp2
          go_roundw
          case rel => exact ⟨k + 1, by go_num, by omega, HNEW⟩
          case measure => simp [intOf]; omega
      · have hfi : ((k : Int) == (f k : Int)) = false := by simp; omega
        have hfj : ¬ ((k : Int) = (f k : Int)) := by omega
        have HNEW := Lib.hid (HRR.out.no (fun hc => hfk hc.1))
        clear hfk HRR
        go_wp2
        go_roundw
        case rel => exact ⟨k + 1, by go_num, by omega, HNEW⟩
        case measure => simp [intOf]; omega
    · have hkk : k = g.length := by omega
      have hrr := HRR.out
      rw [hkk] at hrr
      obtain ⟨H, nv, hp, hh, hc, hl, hbe⟩ := hrr
      have HTL : Hid (TurnLoop g f w.heap.size (w.heap.size + 4) lo2 B Th Us Wt v x w (.slice none 0 0) [] wr) := Lib.hid ⟨wt, H, nv, hp, Gr.Kn.start HGOOD.out HFST.out HTN.out.done HWT.out hh hc, World.ownsRow_nil _ _ _ _, hbe⟩
      clear hp hh hc hl hbe HRR hkk
      have hxb : ∀ r, (x (2 * r + 1)).length ≤ 100000000 := fun b => by
        have h5 : (x (2 * b + 1)).length ≤ _ := HTN.out.len b
        have h6 := HLL.out
        rw [List.take_length] at h5
        omega
      have hwo : ∀ a, Gr.waitsOf g.length (fun b => x (2 * b + 1)) [] a ≤ 10000000000000000 := fun a => by rw [← HWT.out a]; exact HWL.out a
      have HXB := Lib.hid hxb; have HWO := Lib.hid hwo
      clear hxb hwo
      obtain ⟨i1, hj, hy0, hy1, hy2⟩ := info_parts infoInts
      have J0 := Lib.hid hj; have J00 := Lib.hid hy0; have J01 := Lib.hid hy1; have J02 := Lib.hid hy2
      clear hj hy0 hy1 hy2
      go_wp2_with fail
      go_loopg [8] g.length (fun m v8 wz => ∃ R, m = g.length - R.length ∧ Hid (TurnLoop g f w.heap.size (w.heap.size + 4) lo2 B Th Us Wt v x w v8 R wz))
      case atStart => exact ⟨[], by simp, HTL⟩
      case round =>
        clear HTL
        obtain ⟨R, hgk, HT⟩ := hrel
        obtain ⟨wt2, H2, nv2, hp, hkn, hown, hbe⟩ := HT.out
        have HP := Lib.hid hp; have HK := Lib.hid hkn; have HOWN := Lib.hid hown; have HBE := Lib.hid hbe; have HGK := Lib.hid hgk
        obtain ⟨q, c2, rfl⟩ := hp.rd.form
        have f3 := ent_cell hp.tu.ent 3 _ rfl
        have hHb := hkn.hlen
        clear hp hkn hown hbe HT hgk
        go_wp2_with fail
        refine (len_any _ _ _ _).mono ?_
        rintro e w2 ⟨rfl, rfl⟩
        by_cases hH0 : 0 < H2.length
        · have hHi : (0 : Int) < (H2.length : Int) := by omega
          clear f3
          go_wp2_with fail
          refine (hpop_any HP.out.rd (Only.refl lo2 B _) HK.out.heap hH0).mono ?_
          rintro e w3 ⟨H3, nv3, r, rfl, hr3, hpo3, ho3⟩
          obtain ⟨hrl, hrf, hrR, _, _⟩ := HK.out.next hpo3
          have hp3 := HP.out.only ho3 hr3
          have hk3 := HK.out.come hpo3
          have hown3 := own_keep HOWN.out (keep_only ho3 hBlt)
          have hbe3 := ho3.below HBE.out hs1 hlB
          have HP3 := Lib.hid hp3; have HK3 := Lib.hid hk3; have HOWN3 := Lib.hid hown3; have HBE3 := Lib.hid hbe3
          clear hr3 hpo3 ho3 hp3 hk3 hown3 hbe3 hHi
          have hasr := fun w => asInt (.int .i64 (r : Int)) w
          have f0 := ent_cell HP3.out.tu.ent 0 (.slice (some ⟨Th, 0, none⟩) g.length g.length) rfl
          have ft := HP3.out.tu.thCell hrl
          obtain ⟨pt, ct, hvt⟩ := HP3.out.tu.form (show 2 * r < 2 * g.length by omega)
          rw [hvt] at ft
          have HVT := Lib.hid hvt
          have hri : (r : Int) < g.length := by omega
          have hRl := HK.out.len
          obtain ⟨ol, oc, hov⟩ := own_form HOWN3.out
          subst hov
          clear hvt hHb
          have hbase : lo2 ≤ (w3.alloc (.cells #[.slice pt (x (2 * r)).length ct] 30)).heap.size := by have := HP3.out.sz; simp; omega
          have HBASE := Lib.hid hbase
          clear hbase
          go_wp2_with (at_builtin; go_loud (refine wpList_append_lies _ rfl (.tmp 53) (.tmp 61) 22 rfl lo2 30 i1 (.slice none 0 0) 1 24 Try.underlying22 J0.out J00.out J01.out J02.out rfl (by decide) _ R.length _ rfl (HOWN3.out.alloc _) ⟨w3.heap.size, 0, none⟩ 1 1 [.slice pt (x (2 * r)).length ct] rfl rfl (fun j u hh => new_one w3 _ _ j u hh) (by intro u hu; rw [List.mem_singleton.1 hu]; rfl) (by omega) (by unfold maxLen; omega) (by omega) HBASE.out _ rfl ?_))
          intro g1 cap1 w4 hown4 hgr4 hat4 hlt4
          have hlow : ∀ b, b < lo2 → w4.heap[b]? = w3.heap[b]? := fun b hb => (hgr4.block b (by have := HP3.out.sz; simp; omega) (fun e => by have := (HOWN3.out.lt b e.symm).1; omega)).trans (Below.heap_alloc w3 _ b (by have := HP3.out.sz; omega))
          have hint : ∀ (b : Nat) (cs : Array Value), w3.heap[b]? = some (.cells cs 3 (0, 0)) → w4.heap[b]? = some (.cells cs 3 (0, 0)) := fun b cs hb => (hgr4.block b (by have := ent_lt hb; simp; omega) (fun e => by
            obtain ⟨cs', hc'⟩ := own_type HOWN3.out e.symm
            rw [hb] at hc'
            injection hc' with hc'
            injection hc' with _ hc' _
            exact absurd hc' (by decide))).trans (ent_alloc hb _)
          have hsz4 : w3.heap.size ≤ w4.heap.size := by have := hgr4.size; simp at this; omega
          have hbe4 : Below w.heap.size w w4 := (HBE3.out.alloc HBE3.out.size _).grown hgr4 (by have := HBE3.out.size; simp; omega) (fun kk hkk => by have := (HOWN3.out.lt kk hkk).1; omega)
          have hown5 : w4.ownsRow lo2 30 1 (.slice (some ⟨g1, 0, none⟩) (R.length + 1) cap1) (R ++ [r]).length ((R ++ [r]).map fun r => v (2 * r)) := by
            rw [List.length_append, List.length_singleton, List.map_append, List.map_singleton, HVT.out]; exact hown4
          have HP4 := Lib.hid (HP3.out.stay hlow hint hsz4)
          have HO5 := Lib.hid hown5; have HBE4 := Lib.hid hbe4
          have hcr : ComeRel g f w.heap.size (w.heap.size + 4) lo2 B Th Us Wt v x w w4 (R ++ [r]) (x (2 * r + 1)) w4 := ⟨wt2, H3, nv3, HP4.out, HK3.out, Keep.refl _ _, HBE4.out⟩
          have HCR := Lib.hid hcr
          clear hown4 hgr4 hat4 hlt4 hlow hint hsz4 hbe4 hown5 hcr f0 ft hasr
          go_wp2_with fail
          refine (come_any r HCR.out hrl hsm (HXB.out r) hs1 hlB hlW HWO.out).mono ?_
          rintro e w5 ⟨rfl, wt5, H5, nv5, hp5, hk5, hke5, hbe5⟩
          have HNEW : Hid (TurnLoop g f w.heap.size (w.heap.size + 4) lo2 B Th Us Wt v x w (.slice (some ⟨g1, 0, none⟩) (R.length + 1) cap1) (R ++ [r]) w5) := Lib.hid ⟨wt5, H5, nv5, hp5, hk5, own_keep HO5.out hke5, hbe5⟩
          have hrl2 := hk5.len
          rw [List.length_append, List.length_singleton] at hrl2
          clear hp5 hk5 hke5 hbe5
          go_wp2
          go_roundg (g.length - (R.length + 1))
          case measure => rw [HGK.out]; omega
          case rel => exact ⟨R ++ [r], by simp, HNEW⟩
        · have hHi : ¬ ((0 : Int) < (H2.length : Int)) := by omega
          have hH : H2 = [] := List.eq_nil_of_length_eq_zero (by omega)
          have hk := HK.out
          rw [hH] at hk
          have hdone := hk.done
          have hrl := hk.len
          have HD := Lib.hid hdone
          have HRW := Lib.hid (rows_of HP.out hk.rep HFST.out HTH.out HOWN.out)
          clear hH hk hdone hH0
          go_wp2
          go_ret
          exact ⟨_, _, rfl, HD.out, HRW.out, HBE.out, by rw [List.length_map]; exact hrl⟩
end Go.Proofs.Ytjefnmcalmcciaa
