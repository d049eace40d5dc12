/-
  settle.
-/
import Derived.Test.YtjefnmcalmcciaaFinB
namespace Go.Proofs.Ytjefnmcalmcciaa
open Go Go.RowKit
set_option linter.unusedVariables false
set_option linter.unusedSimpArgs false

theorem below_drew {lo : Nat} {w w' : World} (h : Below lo w w') : Below lo w w'.drew := ⟨h.os, h.tape, h.output, h.size, h.block⟩
/-- A part of the open things, as a slice. -/
theorem own_ints {w : World} {base g n cap : Nat} {l : List Nat} (h : w.ownsRow base 3 1 (.slice (some ⟨g, 0, none⟩) n cap) n (ivs l)) (k : Nat) (hk : k < n) : IntsAt w (.slice (some ⟨g, k, none⟩) (n - k) (cap - k)) (nums (l.drop k)) := by
  have hl : l.length = n := by have := h.1; rw [ivs_len] at this; omega
  subst hl
  have hcap : l.length ≤ cap ∧ cap ≤ maxLen := by
    rcases h.2 with ⟨h1, _⟩ | ⟨g', cap', cur, h1, _, _, h2, h3, _⟩
    · cases h1
    · injection h1 with _ _ e3
      subst e3; exact ⟨h2, h3⟩
  obtain ⟨hc1, hc2⟩ := hcap
  unfold maxLen at hc2
  refine .inr ⟨g, k, cap - k, ?_, ?_, by omega, fun i x hx => ?_⟩
  · rw [nums_len, List.length_drop]
  · rw [nums_len, List.length_drop]; omega
  · simp only [nums, List.getElem?_map, List.getElem?_drop, Option.map_eq_some_iff] at hx
    obtain ⟨y, hy, rfl⟩ := hx
    exact own_cellAt h (ivs_at hy)

theorem FinAt.congr {lo F P O L R n : Nat} {tv : Value} {w : World} {s s' : Gr.St} (h : FinAt lo F P O L R tv n w s) (h1 : ∀ k, s'.low k = s.low k) (h2 : ∀ k, s'.first k = s.first k) (h3 : s'.path = s.path) (h4 : s'.opn = s.opn) : FinAt lo F P O L R tv n w s' := by
  obtain ⟨l1, f1, p1, o1⟩ := s
  obtain ⟨l2, f2, p2, o2⟩ := s'
  simp only at h1 h2 h3 h4
  subst h3; subst h4
  obtain rfl : l2 = l1 := funext h1
  obtain rfl : f2 = f1 := funext h2
  exact h

def part (s : Gr.St) (S : List Nat) (m : Nat) : Gr.St := ⟨fun k => if k ∈ S then Gr.big else s.low k, fun k => if k ∈ S then m else s.first k, s.path, s.opn⟩

theorem fin_both {lo F P O L R n : Nat} {tv : Value} {w : World} {s : Gr.St} (h : FinAt lo F P O L R tv n w s) (t a b : Nat) (x y : Int) (hx : x = (a : Int)) (hy : y = (b : Int)) :
    FinAt lo F P O L R tv n ((w.setCell ⟨L, t, none⟩ (.int .i64 x)).setCell ⟨R, t, none⟩ (.int .i64 y)) ⟨Gr.upd s.low t a, Gr.upd s.first t b, s.path, s.opn⟩ := by
  obtain ⟨ent, path, opn, low, first, ap, hF, hP, hO, hL, hR, hsm⟩ := h
  refine ⟨?_, ?_, ?_, ?_, ?_, ap, hF, hP, hO, hL, hR, hsm⟩
  · exact ent_other (ent_other ent L t _ ap.fl) R t _ ap.fr
  · exact own_other (own_other path L t _ (by simp [Value.ownBlock]; exact ap.pl)) R t _ (by simp [Value.ownBlock]; exact ap.pr)
  · exact own_other (own_other opn L t _ (by simp [Value.ownBlock]; exact ap.ol)) R t _ (by simp [Value.ownBlock]; exact ap.or')
  · exact (low.set' t a _ hx).other R t _ ap.lr
  · exact (first.other L t _ ap.lr.symm).set' t b _ hy
theorem fin_drew {lo F P O L R n : Nat} {tv : Value} {w : World} {s : Gr.St} (h : FinAt lo F P O L R tv n w s) : FinAt lo F P O L R tv n w.drew s := by
  obtain ⟨ent, path, opn, low, first, ap, hF, hP, hO, hL, hR, hsm⟩ := h
  exact ⟨ent, path, opn, low, first, ap, hF, hP, hO, hL, hR, hsm⟩

set_option maxHeartbeats 2000000 in
set_option maxRecDepth 100000 in
theorem settle_any {lo F P O L R n : Nat} {tv : Value} {w0 w : World} {s : Gr.St} {p : Nat} (h : FinAt lo F P O L R tv n w s) (hlo : lo = w0.heap.size) (hb : Below w0.heap.size w0 w) (hp1 : 1 ≤ p) (hp2 : p ≤ s.opn.length) (hon : s.opn.length ≤ n) (hlt : ∀ x ∈ s.opn, x < n) :
    Calls Try.prog 33 #[.pointer (some ⟨F, 0, none⟩), .int .i64 (p : Int)] w fun e w' => (∃ m, e = .returned (.tuple #[]) ∧ Gr.IsMin (s.opn.drop (p - 1)) m ∧ FinAt lo F P O L R tv n w' (s.settle s.path p m)) ∧ Below w0.heap.size w0 w' := by
  have hsm := h.small
  have hF := h.hF; have hL := h.hL; have hR := h.hR; have hO := h.hO
  have hap := h.ap
  subst hlo
  have HF := Lib.hid h; have HB := Lib.hid hb; have HLT := Lib.hid hlt; have AP := Lib.hid hap
  have f2 := ent_cell h.ent 2 _ rfl
  have ha : (0 : Int) ≤ (p : Int) - 1 := by omega
  have hb1 : (p : Int) - 1 ≤ (s.opn.length : Int) := by omega
  have hcp : ¬ n = ((p : Int) - 1).toNat := by omega
  have htn : ((p : Int) - 1).toNat = p - 1 := by omega
  clear h hb hlt hap
  go_enter Try.func33, Try.ntmps33
  go_wp2_with fail
  have hsl : (s.opn.drop (p - 1)).length = s.opn.length - (p - 1) := List.length_drop
  refine (min_any _ (s.opn.drop (p - 1)) _ (own_ints HF.out.opn (p - 1) (by omega)) (by omega) (by omega)).mono ?_
  rintro e w' ⟨⟨m, rfl, hmin⟩, rfl⟩
  have HM := Lib.hid hmin
  clear hmin
  obtain ⟨S, hS⟩ : ∃ S, S = s.opn.drop (p - 1) := ⟨_, rfl⟩
  rw [← hS] at hsl
  have HS := Lib.hid hS
  clear hS
  obtain ⟨q, hq⟩ : ∃ q, q = s.opn.length - (p - 1) := ⟨_, rfl⟩
  obtain ⟨c, hc⟩ : ∃ c, c = n - (p - 1) := ⟨_, rfl⟩
  have hqc : q ≤ c := by omega
  have hcn : c ≤ n := by omega
  rw [← hq] at hsl
  go_wp2_with fail
  rw [← hq, ← hc]
  have HQ := Lib.hid hq; have HSL := Lib.hid hsl
  clear hq hc hsl
  go_loopw [19] (fun i wr => ∃ k : Nat, i = .int .i64 k ∧ k ≤ q ∧ Hid (FinAt w0.heap.size F P O L R tv n wr (part s (S.take k) m)) ∧ Hid (Below w0.heap.size w0 wr)) (fun i _ => q - (intOf i).toNat)
  case atStart => exact ⟨0, rfl, Nat.zero_le _, Lib.hid (HF.out.congr (fun k => by simp [part]) (fun k => by simp [part]) rfl rfl), HB⟩
  case round =>
    obtain ⟨k, rfl, hk, HW, HB2⟩ := hrel
    by_cases hkq : k < q
    · obtain ⟨t, ht⟩ : ∃ t, S[k]? = some t := ⟨_, List.getElem?_eq_getElem (by rw [HSL.out]; exact hkq)⟩
      have htn : t < n := HLT.out t (by have := List.mem_of_getElem? ht; rw [HS.out] at this; exact List.mem_of_mem_drop this)
      have hcell : wr.cell? ⟨O, p - 1 + k, none⟩ = some (.int .i64 (t : Int)) := own_cellAt HW.out.opn (ivs_at (by have := ht; rw [HS.out, List.getElem?_drop] at this; exact this))
      have HT := Lib.hid ht
      have f3 := ent_cell HW.out.ent 3 _ rfl
      have f4 := ent_cell HW.out.ent 4 _ rfl
      have fl := HW.out.low.cell htn
      have fr := HW.out.first.cell htn
      have flf := HW.out.low.free t
      have frf := HW.out.first.free t
      have hti : (t : Int) < n := by omega
      clear ht
      go_upto_region 5 with fail
      clear hcell
      generalize p - 1 + k = pk at *
      have g1 := (HW.out.first.other L t (.int .i64 9223372036854775807) AP.out.lr.symm).cell htn
      have g2 := (HW.out.first.other L t (.int .i64 9223372036854775807) AP.out.lr.symm).free t
      have g3 := (HW.out.low.other R t (.int .i64 (m : Int)) AP.out.lr).cell htn
      have g4 := (HW.out.low.other R t (.int .i64 (m : Int)) AP.out.lr).free t
      go_region
      all_goals clear g1 g2 g3 g4 f3 f4 fl fr flf frf
      go_wp2
      have hst : S.take (k + 1) = S.take k ++ [t] := by
        have hkl := Gr.some_lt HT.out
        have := HT.out
        rw [List.getElem?_eq_getElem hkl] at this
        rw [List.take_succ_eq_append_getElem hkl, Option.some.inj this]
      have hnew := fin_drew (fin_both HW.out t Gr.big m 9223372036854775807 (m : Int) rfl rfl)
      have HN := Lib.hid (hnew.congr (s' := part s (S.take (k + 1)) m) (fun j => by
        rw [hst]; unfold part Gr.upd; simp only [List.mem_append, List.mem_singleton]
        by_cases hj : j = t
        · simp [hj]
        · simp [hj]) (fun j => by
        rw [hst]; unfold part Gr.upd; simp only [List.mem_append, List.mem_singleton]
        by_cases hj : j = t
        · simp [hj]
        · simp [hj]) rfl rfl)
      have HBN := Lib.hid (below_drew ((HB2.out.setCell (p := ⟨L, t, none⟩) hL (.int .i64 9223372036854775807)).setCell (p := ⟨R, t, none⟩) hR (.int .i64 (m : Int))))
      clear hst hnew
      go_roundw
      case rel => exact ⟨k + 1, by go_num, by omega, HN, HBN⟩
      case measure => simp [intOf]; omega
    · have hkl : k = q := by omega
      have hst : S.take k = S := List.take_of_length_le (by rw [HSL.out]; omega)
      have hw := HW.out
      rw [hst] at hw
      have HW2 := Lib.hid hw
      clear hst hw hkl HW
      have f2 := ent_cell HW2.out.ent 2 _ rfl
      have ff := ent_free HW2.out.ent
      have hx1 : (p : Int) - 1 ≤ n := by omega
      have hx3 : p ≤ n + 1 := by omega
      have hx2 : ((p : Int) - 1).toNat = p - 1 := by omega
      go_wp2
      go_end0
      refine ⟨⟨m, rfl, HM.out, ?_⟩, HB2.out.setCell (p := ⟨F, 2, none⟩) hF _⟩
      have hfin := HW2.out
      obtain ⟨ent, path, opn, low, first, ap, hF', hP', hO', hL', hR', hsm'⟩ := hfin
      have hol : (s.opn.take (p - 1)).length = p - 1 := by rw [List.length_take]; omega
      have hk := own_take opn (show p - 1 ≤ s.opn.length by omega)
      rw [show (part s S m).opn = s.opn from rfl, ivs_take] at hk
      refine ⟨?_, ?_, ?_, ?_, ?_, ap, hF', hP', hO', hL', hR', hsm'⟩
      · show _ = some (Obj.cells #[tv, .slice (some ⟨P, 0, none⟩) s.path.length n, .slice (some ⟨O, 0, none⟩) (s.opn.take (p - 1)).length n, _, _] _ _)
        rw [hol]
        exact ent_set ent 2 _
      · exact own_other path F 2 _ (by simp [Value.ownBlock]; exact ap.fp.symm)
      · show World.ownsRow _ _ _ _ (.slice _ (s.opn.take (p - 1)).length n) (s.opn.take (p - 1)).length (ivs (s.opn.take (p - 1)))
        rw [hol]
        exact own_other hk F 2 _ (by simp [Value.ownBlock]; exact ap.fo.symm)
      · have e : (s.settle s.path p m).low = (part s S m).low := by unfold Gr.St.settle part; rw [HS.out]
        rw [e]
        exact low.other F 2 _ ap.fl.symm
      · have e : (s.settle s.path p m).first = (part s S m).first := by unfold Gr.St.settle part; rw [HS.out]
        rw [e]
        exact first.other F 2 _ ap.fr.symm
end Go.Proofs.Ytjefnmcalmcciaa
