/-
  come.
-/
import Derived.Test.YtjefnmcalmcciaaTuB
namespace Go.Proofs.Ytjefnmcalmcciaa
open Go Go.RowKit
set_option linter.unusedVariables false
set_option linter.unusedSimpArgs false

theorem nodup_of_count : ∀ {l : List Nat}, (∀ a, l.count a ≤ 1) → l.Nodup
  | [], _ => List.nodup_nil
  | a :: r, h => by
    refine List.nodup_cons.2 ⟨fun hm => ?_, nodup_of_count fun b => ?_⟩
    · have h1 := h a
      have h2 := List.count_pos_iff.2 hm
      rw [List.count_cons_self] at h1; omega
    · have h1 := h b
      rw [List.count_cons] at h1; omega
theorem Gr.Kn.hlen {g : List (List Nat)} {f : Nat → Nat} {us : Nat → List Nat} {w : Nat → Nat} {H R more : List Nat} (h : Gr.Kn g f us w H R more) : H.length ≤ g.length := by
  refine Gr.nodup_le _ _ (nodup_of_count fun a => ?_) fun a ha => ?_
  · rw [h.rdy a]; split <;> omega
  · have h1 := List.count_pos_iff.2 ha
    rw [h.rdy a] at h1
    by_cases hc : a < g.length ∧ f a = a ∧ a ∉ R ∧ w a = 0
    · exact hc.1
    · rw [if_neg hc] at h1; omega

theorem Only.below {base lo B : Nat} {w0 w w' : World} (h : Only lo B w w') (hb : Below base w0 w) (h1 : base ≤ lo) (h2 : base ≤ B) : Below base w0 w' :=
  ⟨h.os.trans hb.os, h.tape.trans hb.tape, h.output.trans hb.output, Nat.le_trans hb.size h.size, fun b hbl => (h.low b (by omega) (by omega)).trans (hb.block b hbl)⟩

/-- The rows of slices from lo on stay. -/
def Keep (lo : Nat) (w w' : World) : Prop := ∀ b cs, lo ≤ b → w.heap[b]? = some (.cells cs 30 (0, 0)) → w'.heap[b]? = some (.cells cs 30 (0, 0))
theorem Keep.refl (lo : Nat) (w : World) : Keep lo w w := fun _ _ _ h => h
theorem Keep.trans {lo : Nat} {w w' w'' : World} (h : Keep lo w w') (h2 : Keep lo w' w'') : Keep lo w w'' := fun b cs h3 h4 => h2 b cs h3 (h b cs h3 h4)

/-- Turns, and those that may come next. -/
structure Ph (lo lo2 B Th Us Wt n : Nat) (w : World) (v : Nat → Value) (x : Nat → List Nat) (wt : Nat → Nat) (H : List Nat) (nv : Value) : Prop where
  tu : TurnsAt lo B Th Us Wt n nv w v x wt
  rd : Rdy lo2 B (.slice (some ⟨Th, 0, none⟩) n n) (.slice (some ⟨Us, 0, none⟩) n n) (.slice (some ⟨Wt, 0, none⟩) n n) w H nv
  le : lo ≤ lo2
  fb : ∀ i, i < 2 * n → ∀ b, (v i).ownBlock = some b → b < lo2
  sz : lo2 ≤ w.heap.size

theorem Ph.only {lo lo2 B Th Us Wt n : Nat} {w w' : World} {v : Nat → Value} {x : Nat → List Nat} {wt : Nat → Nat} {H H' : List Nat} {nv nv' : Value} (h : Ph lo lo2 B Th Us Wt n w v x wt H nv) (ho : Only lo2 B w w')
    (hr : Rdy lo2 B (.slice (some ⟨Th, 0, none⟩) n n) (.slice (some ⟨Us, 0, none⟩) n n) (.slice (some ⟨Wt, 0, none⟩) n n) w' H' nv') : Ph lo lo2 B Th Us Wt n w' v x wt H' nv' := by
  have ht := h.tu
  have hle := h.le
  refine ⟨⟨hr.ent, ?_, ?_, ?_, ?_, ht.bt, ht.bu, ht.bw, ht.tu, ht.tw, ht.uw, ht.hB, ht.hT, ht.hU, ht.hW⟩, hr, h.le, h.fb, Nat.le_trans h.sz ho.size⟩
  · rw [ho.low Th (by have := ht.hT; omega) ht.bt.symm]; exact ht.th
  · rw [ho.low Us (by have := ht.hU; omega) ht.bu.symm]; exact ht.us
  · unfold FnAt; rw [ho.low Wt (by have := ht.hW; omega) ht.bw.symm]; exact ht.wt
  · exact ht.fam.same fun i hi b hb => ho.low b (h.fb i hi b hb) (fun e => by have := ((ht.fam.own i hi).lt b hb).1; have := ht.hB; omega)
theorem Ph.wait {lo lo2 B Th Us Wt n : Nat} {w : World} {v : Nat → Value} {x : Nat → List Nat} {wt : Nat → Nat} {H : List Nat} {nv : Value} (h : Ph lo lo2 B Th Us Wt n w v x wt H nv) (k a : Nat) (y : Int) (hy : y = (a : Int)) :
    Ph lo lo2 B Th Us Wt n (w.setCell ⟨Wt, k, none⟩ (.int .i64 y)) v x (Gr.upd wt k a) H nv := by
  have ht := h.tu
  refine ⟨ht.wait k a y hy, ⟨ent_other h.rd.ent Wt k _ ht.bw, own_other h.rd.own Wt k _ (fun e => by have := (h.rd.own.lt Wt e).1; have := ht.hW; have := h.le; omega), h.rd.lo, h.rd.big⟩, h.le, h.fb, by simpa using h.sz⟩
theorem keep_only {lo B : Nat} {w w' : World} (h : Only lo B w w') (hB : B < lo) : Keep lo w w' := fun b cs h1 h2 => h.rows b cs (by omega) h2
theorem keep_set {lo b : Nat} (w : World) (j : Nat) (v : Value) (hb : b < lo) : Keep lo w (w.setCell ⟨b, j, none⟩ v) := fun c cs h1 h2 => ent_other h2 b j v (by omega)

theorem waits_mono (n : Nat) (us : Nat → List Nat) (R : List Nat) (a : Nat) : Gr.waitsOf n us R a ≤ Gr.waitsOf n us [] a := by
  unfold Gr.waitsOf
  refine Gr.sumN_map_le _ fun b _ => ?_
  simp only [List.not_mem_nil, if_false]
  split <;> omega

/-- What stands while what waits for a group is told. -/
def ComeRel (g : List (List Nat)) (f : Nat → Nat) (base lo lo2 B Th Us Wt : Nat) (v : Nat → Value) (x : Nat → List Nat) (w0 w1 : World) (R more : List Nat) (w : World) : Prop :=
  ∃ wt H nv, Ph lo lo2 B Th Us Wt g.length w v x wt H nv ∧ Gr.Kn g f (fun b => x (2 * b + 1)) wt H R more ∧ Keep lo2 w1 w ∧ Below base w0 w
def ComePost (g : List (List Nat)) (f : Nat → Nat) (base lo lo2 B Th Us Wt : Nat) (v : Nat → Value) (x : Nat → List Nat) (w0 w1 : World) (R : List Nat) (e : Ending) (w : World) : Prop :=
  e = .returned (.tuple #[]) ∧ ComeRel g f base lo lo2 B Th Us Wt v x w0 w1 R [] w

set_option maxHeartbeats 4000000 in
set_option maxRecDepth 100000 in
theorem come_any {g : List (List Nat)} {f : Nat → Nat} {base lo lo2 B Th Us Wt : Nat} {v : Nat → Value} {x : Nat → List Nat} {w0 w1 w : World} {R : List Nat} (r : Nat) (h : ComeRel g f base lo lo2 B Th Us Wt v x w0 w1 R (x (2 * r + 1)) w) (hr : r < g.length) (hn : g.length ≤ 100000000) (hxl : (x (2 * r + 1)).length ≤ 100000000) (hb1 : base ≤ lo2) (hb2 : base ≤ B) (hb3 : base ≤ Wt) (hwl : ∀ a, Gr.waitsOf g.length (fun b => x (2 * b + 1)) [] a ≤ 10000000000000000) :
    Calls Try.prog 27 #[.pointer (some ⟨B, 0, none⟩), .int .i64 (r : Int)] w (ComePost g f base lo lo2 B Th Us Wt v x w0 w1 R) := by
  have HR := Lib.hid h; have HWL := Lib.hid hwl
  obtain ⟨wt, H, nv, hp, hk, _, _⟩ := h
  have f1 := ent_cell hp.tu.ent 1 _ rfl
  have fu := hp.tu.usCell hr
  obtain ⟨p, c, hv⟩ := hp.tu.form (show 2 * r + 1 < 2 * g.length by omega)
  rw [hv] at fu
  have HV := Lib.hid hv
  have hri : (r : Int) < g.length := by omega
  obtain ⟨n, hn2⟩ : ∃ n, n = g.length := ⟨_, rfl⟩
  have HN := Lib.hid hn2
  rw [← hn2] at f1 hri hn
  obtain ⟨X, hX⟩ : ∃ X, X = x (2 * r + 1) := ⟨_, rfl⟩
  rw [← hX] at hxl HR fu HV
  have HX := Lib.hid hX
  clear hwl hp hk hv hn2 hX
  go_enter Try.func27, Try.ntmps27
  go_wp2_with fail
  go_loopw [14] (fun i wr => ∃ k : Nat, i = .int .i64 k ∧ k ≤ X.length ∧ Hid (ComeRel g f base lo lo2 B Th Us Wt v x w0 w1 R (X.drop k) wr)) (fun i _ => X.length - (intOf i).toNat)
  case atStart => exact ⟨0, rfl, Nat.zero_le _, HR⟩
  case round =>
    clear HR f1 fu
    obtain ⟨k, rfl, hk, HR⟩ := hrel
    by_cases hlt : k < X.length
    · obtain ⟨wt, H, nv, hp, hkn, hke, hbe⟩ := HR.out
      obtain ⟨u, hu⟩ : ∃ u, X[k]? = some u := ⟨_, List.getElem?_eq_getElem hlt⟩
      have hdrop : X.drop k = u :: X.drop (k + 1) := by
        rw [List.drop_eq_getElem_cons hlt]
        rw [List.getElem?_eq_getElem hlt] at hu
        rw [Option.some.inj hu]
      rw [hdrop] at hkn
      have hul := (hkn.ahead u (by simp)).1
      obtain ⟨hw1, htell⟩ := hkn.tell
      have hown := hp.tu.fam.own (2 * r + 1) (by omega)
      rw [HV.out, ← HX.out] at hown
      have hpx : ∃ gg, p = some ⟨gg, 0, none⟩ := by
        rcases hown.2 with ⟨_, e⟩ | ⟨gg, cap, cur, e, _⟩
        · omega
        · injection e with e1 _ _; exact ⟨gg, e1⟩
      obtain ⟨gg, hpp⟩ := hpx
      subst hpp
      have fc : wr.cell? ⟨gg, k, none⟩ = some (.int .i64 (u : Int)) := own_cellAt hown (ivs_at hu)
      have hcap : X.length ≤ c ∧ (c : Int) ≤ 9223372036854775807 := by
        rcases hown.2 with ⟨e, _⟩ | ⟨g', cap', cur, e, _, _, h2, h3, _⟩
        · cases e
        · injection e with _ _ e3
          subst e3; unfold maxLen at h3; exact ⟨h2, by omega⟩
      obtain ⟨hcap1, hcap2⟩ := hcap
      have f2 : wr.cell? ⟨B, 2, none⟩ = some (.slice (some ⟨Wt, 0, none⟩) n n) := by rw [HN.out]; exact ent_cell hp.tu.ent 2 _ rfl
      have fw := hp.tu.wt.cell hul
      have fwf := hp.tu.wt.free u
      have hui : (u : Int) < n := by rw [HN.out]; omega
      have hwb : wt u ≤ 10000000100000000 := by
        have h1 := hkn.waits u
        have h2 := HWL.out u
        have h3 := waits_mono g.length (fun b => x (2 * b + 1)) R u
        have h4 := List.count_le_length (a := u) (l := u :: X.drop (k + 1))
        rw [← hdrop, List.length_drop] at h4
        rw [← hdrop] at h1
        omega
      have hsub : (wt u : Int) - 1 = ((wt u - 1 : Nat) : Int) := by omega
      have hp2 := hp.wait u (wt u - 1) _ rfl
      have hke2 := hke.trans (keep_set (b := Wt) wr u (.int .i64 ((wt u - 1 : Nat) : Int)) (by have := hp.tu.hW; have := hp.le; omega))
      have hbe2 := hbe.setCell (p := ⟨Wt, u, none⟩) hb3 (.int .i64 ((wt u - 1 : Nat) : Int))
      have HP := Lib.hid hp2; have HKE := Lib.hid hke2; have HBE := Lib.hid hbe2; have HT := Lib.hid htell; have HKN := Lib.hid hkn
      have hB := hp.rd.lo
      have hBW := hp.tu.bw
      have hwi : (0 : Int) ≤ (wt u : Int) - 1 := by omega
      clear hp hkn hke hbe hp2 hke2 hbe2 htell hown hu hdrop HR
      go_upto_region 4 with fail
      clear fc fw fwf f2 hwi hsub hwb
      generalize wr.setCell ⟨Wt, u, none⟩ (.int .i64 ((wt u - 1 : Nat) : Int)) = w5 at *
      have f2 : w5.cell? ⟨B, 2, none⟩ = some (.slice (some ⟨Wt, 0, none⟩) n n) := by rw [HN.out]; exact ent_cell HP.out.tu.ent 2 _ rfl
      have fw := HP.out.tu.wt.cell hul
      rw [Gr.upd_same] at fw
      by_cases h0 : wt u - 1 = 0
      · have h0i : ((wt u - 1 : Nat) : Int) = 0 := by omega
        rw [h0i] at fw
        have H0 := Lib.hid h0
        have hhl := HKN.out.hlen
        clear h0 h0i
        go_wp2_with fail
        refine (hpush_any HP.out.rd (Only.refl lo2 B w5) HP.out.sz HKN.out.heap u (by have := HN.out; omega)).mono ?_
        rintro e w6 ⟨H', nv', rfl, hr6, hpu6, ho6⟩
        have HNEW : Hid (ComeRel g f base lo lo2 B Th Us Wt v x w0 w1 R (X.drop (k + 1)) w6) := Lib.hid ⟨_, H', nv', HP.out.only ho6 hr6, HT.out H' (by rw [if_pos H0.out]; exact hpu6), HKE.out.trans (keep_only ho6 hB), ho6.below HBE.out hb1 hb2⟩
        clear hr6 hpu6 ho6 f2 fw hhl
        go_wp2
        go_roundw
        case rel => exact ⟨k + 1, by go_num, by omega, HNEW⟩
        case measure => simp [intOf]; omega
      · have h0i : (((wt u - 1 : Nat) : Int) == 0) = false := by simp; omega
        have h0j : ¬ (((wt u - 1 : Nat) : Int) = 0) := by omega
        have HNEW : Hid (ComeRel g f base lo lo2 B Th Us Wt v x w0 w1 R (X.drop (k + 1)) w5) := Lib.hid ⟨_, H, nv, HP.out, HT.out H (by rw [if_neg h0]), HKE.out, HBE.out⟩
        clear h0
        go_wp2
        go_roundw
        case rel => exact ⟨k + 1, by go_num, by omega, HNEW⟩
        case measure => simp [intOf]; omega
    · have hd : X.drop k = [] := List.drop_of_length_le (by omega)
      have hrr := HR.out
      rw [hd] at hrr
      have HRR := Lib.hid hrr
      clear hrr hd
      go_wp2
      go_end0
      exact ⟨rfl, HRR.out⟩
end Go.Proofs.Ytjefnmcalmcciaa
