/-
  heap.Push, heap.Pop.
-/
import Derived.Test.YtjefnmcalmcciaaHpP
namespace Go.Proofs.Ytjefnmcalmcciaa
open Go Go.RowKit
set_option linter.unusedVariables false
set_option linter.unusedSimpArgs false

def PopPost (lo B : Nat) (x y z : Value) (w0 : World) (K : List Nat) (m : Nat) (e : Ending) (w' : World) : Prop :=
  ∃ v', e = .returned (.iface 3 (.int .i64 (Gr.at0 K m : Int))) ∧ Rdy lo B x y z w' (K.take m) v' ∧ Only lo B w0 w'

set_option maxHeartbeats 2000000 in
set_option maxRecDepth 100000 in
theorem rpop_any {lo B : Nat} {x y z : Value} {w0 w : World} {K : List Nat} {v : Value} (h : Rdy lo B x y z w K v) (ho : Only lo B w0 w) (m : Nat) (hm : K.length = m + 1) :
    Calls Try.prog 53 #[.pointer (some ⟨B, 3, none⟩)] w (PopPost lo B x y z w0 K m) := by
  obtain ⟨g, c, cur, rfl, hlo, hg, hc, hmx⟩ := h.some (by omega)
  have hbig := h.big
  have f3 := ent_cell h.ent 3 _ rfl
  have ff := ent_free h.ent
  have c1 : w.cell? ⟨g, m, none⟩ = some (.int .i64 (Gr.at0 K m : Int)) := own_cellAt h.own (ivs_at (by rw [Gr.at0_get (by omega)]; exact List.getElem?_eq_getElem (by omega)))
  have HR := Lib.hid h; have HO := Lib.hid ho
  rw [hm] at f3 hc
  have hmi : (((m + 1 : Nat) : Int) - 1) = (m : Int) := by omega
  have hmb : (m : Int) ≤ 1000000000 := by omega
  have hmc : m ≤ c := by omega
  have HM := Lib.hid hm
  obtain ⟨a, ha⟩ : ∃ a, a = Gr.at0 K m := ⟨_, rfl⟩
  rw [← ha] at c1
  have HA := Lib.hid ha
  clear h ho hg hm ha
  go_enter Try.func53, Try.ntmps53
  go_wp2
  go_ret
  have o1 := own_take HR.out.own (show m ≤ K.length by rw [HM.out]; omega)
  rw [ivs_take] at o1
  have hl : (K.take m).length = m := by rw [List.length_take, HM.out]; omega
  refine ⟨.slice (some ⟨g, 0, none⟩) m c, by rw [← HA.out]; rfl, ⟨ent_set HR.out.ent 3 _, ?_, HR.out.lo, by rw [hl]; omega⟩, HO.out.set 3 _⟩
  rw [hl]
  exact own_other o1 B 3 _ (fun e => by
    have e2 : g = B := by simpa [Value.ownBlock] using e
    have := HR.out.lo; omega)

def HPushPost (lo B : Nat) (x y z : Value) (w0 : World) (H : List Nat) (t : Nat) (e : Ending) (w' : World) : Prop :=
  ∃ H' v', e = .returned (.tuple #[]) ∧ Rdy lo B x y z w' H' v' ∧ Gr.Pushed H t H' ∧ Only lo B w0 w'

set_option maxHeartbeats 2000000 in
set_option maxRecDepth 100000 in
theorem hpush_any {lo B : Nat} {x y z : Value} {w0 w : World} {H : List Nat} {v : Value} (h : Rdy lo B x y z w H v) (ho : Only lo B w0 w) (hlo : lo ≤ w0.heap.size) (hh : Gr.IsHeap H H.length) (t : Nat) (hb : H.length < 1000000000) :
    Calls Try.prog 24 #[.iface 53 (.pointer (some ⟨B, 3, none⟩)), .iface 3 (.int .i64 (t : Int))] w (HPushPost lo B x y z w0 H t) := by
  have HR := Lib.hid h; have HO := Lib.hid ho; have HH := Lib.hid hh
  clear h ho hh
  have mP := pushM w B
  have cP := callPush
  go_enter Try.func24, Try.ntmps24
  go_wp2_with fail
  refine (rpush_any HR.out HO.out hlo t hb).mono ?_
  rintro e w1 ⟨v1, rfl, hr1, ho1⟩
  have HR1 := Lib.hid hr1; have HO1 := Lib.hid ho1
  clear hr1 ho1 mP cP
  obtain ⟨p, c, rfl⟩ := HR1.out.form
  have f3 := ent_cell HR1.out.ent 3 _ rfl
  have hl : (H ++ [t]).length = H.length + 1 := by simp
  rw [hl] at f3
  have mL := lenM w1 B p c _ f3
  have cL := callLen
  go_wp2_with fail
  refine (len_any _ _ _ _).mono ?_
  rintro e w2 ⟨rfl, rfl⟩
  have hmi : (((H.length + 1 : Nat) : Int) - 1) = (H.length : Int) := by omega
  have hmb : (H.length : Int) ≤ 1000000000 := by omega
  clear f3 mL cL
  go_wp2_with fail
  refine (up_any HR1.out HO1.out H.length (Gr.UpInv.start HH.out t)).mono ?_
  rintro e w3 ⟨H', rfl, hr3, hh3, hl3, hc3, ho3⟩
  have HF : Hid (HPushPost lo B x y z w0 H t (.returned (.tuple #[])) w3) := Lib.hid ⟨H', _, rfl, hr3, ⟨hh3, by rw [hl3, hl], fun a => by rw [hc3 a, List.count_append, List.count_singleton]; simp only [beq_iff_eq]⟩, ho3⟩
  clear hr3 hh3 hl3 hc3 ho3
  go_wp2
  go_end0
  exact HF.out

def HPopPost (lo B : Nat) (x y z : Value) (w0 : World) (H : List Nat) (e : Ending) (w' : World) : Prop :=
  ∃ (H' : List Nat) (v' : Value) (r : Nat), e = .returned (.iface 3 (.int .i64 (r : Int))) ∧ Rdy lo B x y z w' H' v' ∧ Gr.Popped H r H' ∧ Only lo B w0 w'

set_option maxHeartbeats 2000000 in
set_option maxRecDepth 100000 in
theorem hpop_any {lo B : Nat} {x y z : Value} {w0 w : World} {H : List Nat} {v : Value} (h : Rdy lo B x y z w H v) (ho : Only lo B w0 w) (hh : Gr.IsHeap H H.length) (h0 : 0 < H.length) :
    Calls Try.prog 26 #[.iface 53 (.pointer (some ⟨B, 3, none⟩))] w (HPopPost lo B x y z w0 H) := by
  have HR := Lib.hid h; have HO := Lib.hid ho; have HH := Lib.hid hh
  have hbig := h.big
  clear h ho hh
  obtain ⟨p, c, rfl⟩ := HR.out.form
  have f3 := ent_cell HR.out.ent 3 _ rfl
  obtain ⟨m, hm⟩ : ∃ m, H.length = m + 1 := ⟨H.length - 1, by omega⟩
  have hmi : (H.length : Int) - 1 = (m : Int) := by omega
  have hm1 : H.length - 1 = m := by omega
  have mL := lenM w B p c _ f3
  have cL := callLen
  have mS := swapM w B p c _ f3
  have cS := callSwap
  have HM := Lib.hid hm; have HM1 := Lib.hid hm1
  have hmb : (m : Int) ≤ 1000000000 := by omega
  clear hm hm1
  go_enter Try.func26, Try.ntmps26
  go_wp2_with fail
  refine (len_any _ _ _ _).mono ?_
  rintro e w2 ⟨rfl, rfl⟩
  clear mL cL
  go_wp2_with fail
  refine (swap_any HR.out HO.out 0 m h0 (by rw [HM.out]; omega)).mono ?_
  rintro e w3 ⟨rfl, hr3, ho3⟩
  have HR3 := Lib.hid hr3; have HO3 := Lib.hid ho3
  have hst := Gr.DownInv.start HH.out h0
  rw [HM1.out] at hst
  have HST := Lib.hid hst
  have hsl : (Gr.swp H 0 m).length = H.length := Gr.swp_len H 0 m
  clear hr3 ho3 hst mS cS f3 hmi
  rw [← hsl] at HR3
  go_wp2_with fail
  refine (down_any HR3.out HO3.out m (by rw [hsl, HM.out]; omega) HST.out).mono ?_
  rintro e w4 ⟨K, b, rfl, hr4, hh4, hl4, hc4, hlast, ho4⟩
  have HR4 := Lib.hid hr4; have HO4 := Lib.hid ho4
  have hml : m < H.length := by rw [HM.out]; omega
  have hlast2 : Gr.at0 K m = Gr.at0 H 0 := by
    rw [hlast, Gr.swp_at h0 hml, if_pos rfl]
  have hpop : Gr.Popped H (Gr.at0 H 0) (K.take m) := by
    have := Gr.popped (K := K) HH.out h0 (by rw [hl4, hsl]) (by rw [HM1.out]; exact hh4) (by rw [HM1.out]; exact hlast2) (fun a => by rw [hc4 a, Gr.swp_count h0 hml])
    rw [HM1.out] at this; exact this
  have HPO := Lib.hid hpop; have HLA := Lib.hid hlast2
  have HKL := Lib.hid (show K.length = m + 1 by rw [hl4, hsl, HM.out])
  have mO := popM w4 B
  have cO := callPop
  clear hr4 hh4 hl4 hc4 hlast ho4 hpop hlast2
  go_wp2_with fail
  refine (rpop_any HR4.out HO4.out m HKL.out).mono ?_
  rintro e w5 ⟨v5, rfl, hr5, ho5⟩
  have HF : Hid (HPopPost lo B x y z w0 H (.returned (.iface 3 (.int .i64 (Gr.at0 K m : Int)))) w5) := Lib.hid ⟨K.take m, v5, Gr.at0 H 0, by rw [HLA.out], hr5, HPO.out, ho5⟩
  clear hr5 ho5 mO cO
  go_wp2
  go_ret
  exact HF.out
end Go.Proofs.Ytjefnmcalmcciaa
