/-
  leave.
-/
import Derived.Test.YtjefnmcalmcciaaFinC
namespace Go.Proofs.Ytjefnmcalmcciaa
open Go Go.RowKit
set_option linter.unusedVariables false
set_option linter.unusedSimpArgs false

theorem fin_below {lo F P O L R n : Nat} {tv : Value} {w w' : World} {s : Gr.St} (h : FinAt lo F P O L R tv n w s) (hb : Below w.heap.size w w') : FinAt lo F P O L R tv n w' s := by
  obtain ⟨ent, path, opn, low, first, ap, hF, hP, hO, hL, hR, hsm⟩ := h
  exact ⟨ent_below ent hb, own_same path fun k hk => hb.block k (path.lt k hk).2, own_same opn fun k hk => hb.block k (opn.lt k hk).2, low.below hb, first.below hb, ap, hF, hP, hO, hL, hR, hsm⟩
theorem fin_path {lo F P O L R n : Nat} {tv : Value} {w : World} {s : Gr.St} {Q : List Gr.Step} {x : Gr.Step} (h : FinAt lo F P O L R tv n w s) (hp : s.path = Q ++ [x]) :
    FinAt lo F P O L R tv n (w.setCell ⟨F, 1, none⟩ (.slice (some ⟨P, 0, none⟩) Q.length n)) ⟨s.low, s.first, Q, s.opn⟩ := by
  obtain ⟨ent, path, opn, low, first, ap, hF, hP, hO, hL, hR, hsm⟩ := h
  have hl : s.path.length = Q.length + 1 := by rw [hp]; simp
  have hk := own_take path (show Q.length ≤ s.path.length by omega)
  rw [hp, pathCells_take] at hk
  refine ⟨ent_set ent 1 _, own_other hk F 1 _ (by simp [Value.ownBlock]; exact ap.fp.symm), own_other opn F 1 _ (by simp [Value.ownBlock]; exact ap.fo.symm), low.other F 1 _ ap.fl.symm, first.other F 1 _ ap.fr.symm, ap, hF, hP, hO, hL, hR, hsm⟩
/-- A step's cells. -/
theorem fin_step {lo F P O L R n : Nat} {tv : Value} {w : World} {s : Gr.St} {Q : List Gr.Step} {x : Gr.Step} (h : FinAt lo F P O L R tv n w s) (hp : s.path = Q ++ [x]) :
    w.cell? ⟨P, Q.length * 3, none⟩ = some (.int .i64 (x.thing : Int)) ∧ w.cell? ⟨P, Q.length * 3 + 1, none⟩ = some (.int .i64 (x.place : Int)) ∧ w.cell? ⟨P, Q.length * 3 + 2, none⟩ = some (.int .i64 (x.done : Int)) := by
  have hc : ∀ j u, [iv x.thing, iv x.place, iv x.done][j]? = some u → w.cell? ⟨P, Q.length * 3 + j, none⟩ = some u := by
    intro j u hu
    refine own_cellAt h.path ?_
    rw [hp, pathCells_snoc, List.getElem?_append_right (by rw [pathCells_len]; omega), pathCells_len, show Q.length * 3 + j - Q.length * 3 = j by omega]
    exact hu
  exact ⟨hc 0 _ rfl, hc 1 _ rfl, hc 2 _ rfl⟩

def Left (s : Gr.St) (Q : List Gr.Step) (x : Gr.Step) (s' : Gr.St) : Prop :=
  (s.low x.thing ≠ x.place ∧ s' = ⟨s.low, s.first, Q, s.opn⟩) ∨ (s.low x.thing = x.place ∧ ∃ m, Gr.IsMin (s.opn.drop (x.place - 1)) m ∧ s' = s.settle Q x.place m)

def LeavePost (lo F P O L R n : Nat) (tv : Value) (w0 : World) (s : Gr.St) (Q : List Gr.Step) (x : Gr.Step) (e : Ending) (w' : World) : Prop :=
  ∃ s', e = .returned (.tuple #[]) ∧ Left s Q x s' ∧ FinAt lo F P O L R tv n w' s' ∧ Below w0.heap.size w0 w'
theorem fin_drewN {lo F P O L R n : Nat} {tv : Value} {w : World} {s : Gr.St} (h : FinAt lo F P O L R tv n w s) (k : Nat) : FinAt lo F P O L R tv n (w.drewN k) s := by
  obtain ⟨ent, path, opn, low, first, ap, hF, hP, hO, hL, hR, hsm⟩ := h
  exact ⟨ent, path, opn, low, first, ap, hF, hP, hO, hL, hR, hsm⟩

set_option maxHeartbeats 2000000 in
set_option maxRecDepth 100000 in
theorem leave_any {lo F P O L R n : Nat} {tv : Value} {w0 w : World} {s : Gr.St} {Q : List Gr.Step} {x : Gr.Step} (h : FinAt lo F P O L R tv n w s) (hlo : lo = w0.heap.size) (hb : Below w0.heap.size w0 w) (hp : s.path = Q ++ [x]) (hpl : s.path.length ≤ n) (hx1 : 1 ≤ x.place) (hx2 : x.place ≤ s.opn.length) (ht : x.thing < n) (hon : s.opn.length ≤ n) (hlt : ∀ x ∈ s.opn, x < n) :
    Calls Try.prog 32 #[.pointer (some ⟨F, 0, none⟩)] w (LeavePost lo F P O L R n tv w0 s Q x) := by
  have hsm := h.small
  have hF := h.hF
  subst hlo
  have hql : s.path.length = Q.length + 1 := by rw [hp]; simp
  have hqi : (Q.length : Int) < n := by omega
  obtain ⟨s0, s1, s2⟩ := fin_step h hp
  have HF := Lib.hid h; have HB := Lib.hid hb; have HLT := Lib.hid hlt; have HP := Lib.hid hp
  have f1 := ent_cell h.ent 1 _ rfl
  have f3 := ent_cell h.ent 3 _ rfl
  have ff := ent_free h.ent
  have hsF := ent_lt h.ent
  have hsP := (h.path.lt P rfl).2
  rw [hql] at f1
  have hlast : (((Q.length + 1 : Nat) : Int) - 1) = (Q.length : Int) := by omega
  have htn : ((Q.length : Int)).toNat = Q.length := by omega
  clear h hb hlt hp
  go_enter Try.func32, Try.ntmps32
  go_upto_region 3 with fail
  clear f1 f3 ff s0 s1 s2 hlast htn
  obtain ⟨w1, hw1⟩ : ∃ w1, w1 = w.setCell ⟨F, 1, none⟩ (.slice (some ⟨P, 0, none⟩) Q.length n) := ⟨_, rfl⟩
  have H1 : FinAt w0.heap.size F P O L R tv n w1 ⟨s.low, s.first, Q, s.opn⟩ := by rw [hw1]; exact fin_path HF.out HP.out
  have B1 : Below w0.heap.size w0 w1 := by rw [hw1]; exact HB.out.setCell (p := ⟨F, 1, none⟩) hF _
  have hz : w1.heap.size = w.heap.size := by rw [hw1]; simp
  rw [← hw1, ← hz]
  have E2 := Lib.hid (ent_new w1 #[.int .i64 (x.thing : Int), .int .i64 (x.place : Int), .int .i64 (x.done : Int)] 70)
  have HAL : Below w1.heap.size w1 (w1.alloc (.cells #[.int .i64 (x.thing : Int), .int .i64 (x.place : Int), .int .i64 (x.done : Int)] 70)) := (Below.refl _ _).alloc (Nat.le_refl _) _
  have H2 := Lib.hid (fin_below H1 HAL)
  have B2 := Lib.hid (B1.trans (HAL.mono B1.size))
  clear hw1 H1 B1 hz HAL HB HF
  generalize w1.heap.size = g at *
  generalize w1.alloc (.cells #[.int .i64 (x.thing : Int), .int .i64 (x.place : Int), .int .i64 (x.done : Int)] 70) = w2 at *
  have f3 := ent_cell H2.out.ent 3 _ rfl
  have fl := H2.out.low.cell ht
  have g0 := ent_cell E2.out 0 _ rfl
  have g1 := ent_cell E2.out 1 _ rfl
  have hti : (x.thing : Int) < n := by omega
  have hsp := H2.out.small
  by_cases hc : s.low x.thing = x.place
  · have hd : decide ((s.low x.thing : Int) = (x.place : Int)) = true := by rw [hc]; simp
    have hci : (s.low x.thing : Int) = (x.place : Int) := by rw [hc]
    have HC := Lib.hid hc
    clear hc
    rw [hci] at fl hd
    clear hci
    go_quiet (fail)
    go_wp2_with fail
    refine (settle_any (fin_drewN H2.out _) rfl (below_drewN B2.out _) hx1 hx2 hon HLT.out).mono ?_
    rintro e w' ⟨⟨m, rfl, hm, hf⟩, hb⟩
    go_wp2
    go_end0
    exact ⟨_, rfl, .inr ⟨HC.out, m, hm, rfl⟩, hf, hb⟩
  · have hd : decide ((s.low x.thing : Int) = (x.place : Int)) = false := by simp; omega
    have hd2 : ((s.low x.thing : Int) == (x.place : Int)) = false := by simp; omega
    have HC := Lib.hid hc
    clear hc
    go_quiet (fail)
    go_wp2
    go_end0
    exact ⟨_, rfl, .inl ⟨HC.out, rfl⟩, fin_drewN H2.out _, below_drewN B2.out _⟩
end Go.Proofs.Ytjefnmcalmcciaa
