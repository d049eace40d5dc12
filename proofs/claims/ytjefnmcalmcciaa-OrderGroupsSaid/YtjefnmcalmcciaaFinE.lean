/-
  from.
-/
import Derived.Test.YtjefnmcalmcciaaFinD
import Derived.Deep.LoopGhost
namespace Go.Proofs.Ytjefnmcalmcciaa
open Go Go.RowKit
set_option linter.unusedVariables false
set_option linter.unusedSimpArgs false

theorem ints_at {g : List (List Nat)} {t : Nat} {l : List Nat} (h : g[t]? = some l) : (ints g)[t]? = some (nums l) := by simp [ints, nums, h]
theorem ints_len (g : List (List Nat)) : (ints g).length = g.length := by simp [ints]

theorem fin_low {lo F P O L R n : Nat} {tv : Value} {w : World} {s : Gr.St} (h : FinAt lo F P O L R tv n w s) (t a : Nat) (y : Int) (hy : y = (a : Int)) :
    FinAt lo F P O L R tv n (w.setCell ⟨L, t, none⟩ (.int .i64 y)) ⟨Gr.upd s.low t a, s.first, s.path, s.opn⟩ := by
  obtain ⟨ent, path, opn, low, first, ap, hF, hP, hO, hL, hR, hsm⟩ := h
  exact ⟨ent_other ent L t _ ap.fl, own_other path L t _ (by simp [Value.ownBlock]; exact ap.pl), own_other opn L t _ (by simp [Value.ownBlock]; exact ap.ol), low.set' t a _ hy, first.other L t _ ap.lr.symm, ap, hF, hP, hO, hL, hR, hsm⟩
theorem fin_done {lo F P O L R n : Nat} {tv : Value} {w : World} {s : Gr.St} {Q : List Gr.Step} {x : Gr.Step} (h : FinAt lo F P O L R tv n w s) (hp : s.path = Q ++ [x]) :
    FinAt lo F P O L R tv n (w.setCell ⟨P, Q.length * 3 + 2, none⟩ (.int .i64 ((x.done : Int) + 1))) ⟨s.low, s.first, Q ++ [⟨x.thing, x.place, x.done + 1⟩], s.opn⟩ := by
  obtain ⟨ent, path, opn, low, first, ap, hF, hP, hO, hL, hR, hsm⟩ := h
  have hl : s.path.length = Q.length + 1 := by rw [hp]; simp
  have hl2 : (Q ++ [(⟨x.thing, x.place, x.done + 1⟩ : Gr.Step)]).length = s.path.length := by rw [hl]; simp
  have hk := own_setAt path (Q.length * 3 + 2) (.int .i64 ((x.done : Int) + 1)) (by rw [pathCells_len, hl]; omega)
  have e : (pathCells s.path).set (Q.length * 3 + 2) (.int .i64 ((x.done : Int) + 1)) = pathCells (Q ++ [⟨x.thing, x.place, x.done + 1⟩]) := by
    rw [hp, pathCells_snoc, pathCells_snoc, List.set_append_right _ _ (by rw [pathCells_len]; omega), pathCells_len, show Q.length * 3 + 2 - Q.length * 3 = 2 by omega]
    simp [iv]
  rw [e] at hk
  refine ⟨?_, ?_, own_other opn P _ _ (by simp [Value.ownBlock]; exact ap.po.symm), low.other P _ _ ap.pl.symm, first.other P _ _ ap.pr.symm, ap, hF, hP, hO, hL, hR, hsm⟩
  · show _ = some (Obj.cells #[tv, .slice (some ⟨P, 0, none⟩) (Q ++ [(⟨x.thing, x.place, x.done + 1⟩ : Gr.Step)]).length n, _, _, _] _ _)
    rw [hl2]; exact ent_other ent P _ _ ap.fp
  · show World.ownsRow _ _ _ _ (.slice _ (Q ++ [(⟨x.thing, x.place, x.done + 1⟩ : Gr.Step)]).length n) (Q ++ [(⟨x.thing, x.place, x.done + 1⟩ : Gr.Step)]).length _
    rw [hl2]; exact hk

/-- What stands while a path is gone through. -/
def FromRel (lo F P O L R : Nat) (tv : Value) (g : List (List Nat)) (w0 : World) (s0 : Gr.St) (t : Nat) (k : Nat) (w : World) : Prop :=
  ∃ s, Gr.Inv g s ∧ FinAt lo F P O L R tv g.length w s ∧ (∀ u, s0.low u ≠ 0 → s.low u ≠ 0) ∧ s.low t ≠ 0 ∧ Gr.left g s = k ∧ Below w0.heap.size w0 w
def FromPost (lo F P O L R : Nat) (tv : Value) (g : List (List Nat)) (w0 : World) (s0 : Gr.St) (t : Nat) (e : Ending) (w : World) : Prop :=
  ∃ s, e = .returned (.tuple #[]) ∧ Gr.Inv g s ∧ s.path = [] ∧ FinAt lo F P O L R tv g.length w s ∧ (∀ u, s0.low u ≠ 0 → s.low u ≠ 0) ∧ s.low t ≠ 0 ∧ Below w0.heap.size w0 w

set_option maxHeartbeats 4000000 in
set_option maxRecDepth 100000 in
theorem from_any {lo F P O L R : Nat} {p : Option Addr} {c : Nat} {g : List (List Nat)} {w0 w : World} {s : Gr.St} {t : Nat} (h : FinAt lo F P O L R (.slice p g.length c) g.length w s) (hi : Gr.Inv g s) (hp : s.path = []) (hlo : lo = w0.heap.size) (hb : Below w0.heap.size w0 w) (hg : RowsAt w0 (.slice p g.length c) (ints g)) (hll : ∀ l ∈ g, l.length ≤ 1000000000) (ht : t < g.length) (h0 : s.low t = 0) :
    Calls Try.prog 28 #[.pointer (some ⟨F, 0, none⟩), .int .i64 (t : Int)] w (FromPost lo F P O L R (.slice p g.length c) g w0 s t) := by
  subst hlo
  have HF := Lib.hid h; have HI := Lib.hid hi; have HP := Lib.hid hp; have HB := Lib.hid hb; have HG := Lib.hid hg; have H0 := Lib.hid h0; have HLL := Lib.hid hll
  have hol := hi.len
  have ho : s.opn.length < g.length := by rw [hi.nil hp]; simp; omega
  have hpl : s.path.length < g.length := by rw [hp]; simp; omega
  have hsmall := h.small
  clear h hi hp hb hg h0 hll
  go_enter Try.func28, Try.ntmps28
  go_wp2_with fail
  refine (enter_any HF.out rfl HB.out ht ho hpl).mono ?_
  rintro e w1 ⟨rfl, hf1, hb1⟩
  have HR : Hid (FromRel w0.heap.size F P O L R (.slice p g.length c) g w0 s t (Gr.left g (s.enter t)) w1) := Lib.hid ⟨s.enter t, HI.out.enter ht H0.out (.inl HP.out), hf1, (fun u hu => by
      by_cases e : u = t
      · subst e; simp [Gr.St.enter, Gr.upd_same]
      · simp only [Gr.St.enter]; rw [Gr.upd_ne _ _ e]; exact hu), by simp [Gr.St.enter, Gr.upd_same], rfl, hb1⟩
  clear hf1 hb1 HF HB hol ho hpl HP HI
  obtain ⟨k0, hk0⟩ : ∃ k0, k0 = Gr.left g (s.enter t) := ⟨_, rfl⟩
  rw [← hk0] at HR
  clear hk0
  go_wp2_with fail
  go_loopg [4] k0 (fun k v4 wr => Hid (FromRel w0.heap.size F P O L R (.slice p g.length c) g w0 s t k wr))
  case atStart => exact HR
  case round =>
    clear HR
    obtain ⟨s1, hi1, hf1, hk1, ht1, hm1, hb1⟩ := hrel.out
    have HI := Lib.hid hi1; have HF := Lib.hid hf1; have HK := Lib.hid hk1; have HT := Lib.hid ht1; have HM := Lib.hid hm1; have HB := Lib.hid hb1
    clear hi1 hf1 hk1 ht1 hm1 hb1 hrel
    have f1 := ent_cell HF.out.ent 1 _ rfl
    have hpl := HI.out.pathLen
    have hol := HI.out.len
    rcases List.eq_nil_or_concat s1.path with he | ⟨Q, x, he⟩
    · have HE := Lib.hid he
      rw [he] at f1
      clear he
      go_wp2
      go_end0
      exact ⟨s1, rfl, HI.out, HE.out, HF.out, HK.out, HT.out, HB.out⟩
    · rw [List.concat_eq_append] at he
      have hql : s1.path.length = Q.length + 1 := by rw [he]; simp
      obtain ⟨c0, c1, c2⟩ := fin_step HF.out he
      have f0 := ent_cell HF.out.ent 0 _ rfl
      have f3 := ent_cell HF.out.ent 3 _ rfl
      have HE := Lib.hid he
      clear he
      rw [hql] at f1
      have hxs : s1.path[Q.length]? = some x := by rw [HE.out]; simp
      have hst := HI.out.step _ x hxs
      have hx1 := hst.1
      have hx2 := Gr.some_lt hst.2.1
      obtain ⟨l, hl, hdl⟩ := hst.2.2
      have hxt : x.thing < g.length := Gr.some_lt hl
      obtain ⟨b, o, q, d, hpe, hcm, hnl, hnc, hrow, hints⟩ := (HG.out.below HB.out).at (ints_at hl)
      rw [nums_len] at hrow hints
      subst hpe
      have HIN := Lib.hid hints; have HL := Lib.hid hl
      clear hnl
      clear hst hints hl hxs
      have hlast : (((Q.length + 1 : Nat) : Int) - 1) = (Q.length : Int) := by omega
      have hqi : (Q.length : Int) < g.length := by omega
      have hti : (x.thing : Int) < g.length := by omega
      go_wp2_with fail
      go_quiet (fail)
      generalize nq = na at *
      go_wp2_with fail
      go_quiet (fail)
      clear f0 f1 c0 hrow hlast
      have hsmp := HF.out.small
      by_cases hdone : x.done = l.length
      · have hdi : ((x.done : Nat) : Int) = (l.length : Int) := by omega
        have HD := Lib.hid hdone
        rw [hdi] at c2
        clear hdone hdi
        go_wp2_with fail
        refine (leave_any (fin_drewN HF.out _) rfl (below_drewN HB.out _) HE.out (by omega) hx1 (by omega) hxt hol HI.out.lt).mono ?_
        rintro e w2 ⟨s2, rfl, hleft, hf2, hb2⟩
        have HLE := Lib.hid hleft; have HF2 := Lib.hid hf2; have HB2 := Lib.hid hb2
        clear hleft hf2 hb2
        have hdd : ∀ l', g[x.thing]? = some l' → x.done = l'.length := fun l' hl' => by rw [HL.out] at hl'; rw [← Option.some.inj hl']; exact HD.out
        have HN : Hid (Gr.Inv g s2 ∧ Gr.left g s2 < gk ∧ ∀ u, s1.low u ≠ 0 → s2.low u ≠ 0) := by
          rcases HLE.out with ⟨hne, rfl⟩ | ⟨heq, m, hm, rfl⟩
          · exact Lib.hid ⟨HI.out.keep HE.out hdd hne, by rw [← HM.out]; exact Gr.left_keep HE.out, fun u hu => hu⟩
          · exact Lib.hid ⟨HI.out.settle HE.out hdd heq hm, by rw [← HM.out]; exact Gr.left_settle HE.out _ _, fun u hu => by
              simp only [Gr.St.settle]; split
              · simp [Gr.big]
              · exact hu⟩
        clear hdd
        go_wp2
        go_roundg (Gr.left g s2)
        case measure => exact HN.out.2.1
        case rel => exact Lib.hid ⟨s2, HN.out.1, HF2.out, fun u hu => HN.out.2.2 u (HK.out u hu), HN.out.2.2 t HT.out, rfl, HB2.out⟩
      · have hdi : ((x.done : Int) == (l.length : Int)) = false := by simp; omega
        have hdi2 : ¬ ((x.done : Int) = (l.length : Int)) := by omega
        obtain ⟨on, hon⟩ : ∃ on, l[x.done]? = some on := ⟨_, List.getElem?_eq_getElem (by omega)⟩
        obtain ⟨b2, o2, hq2, hc2, hzz, hnc2, hcell2⟩ := HIN.out.at (nums_at hon)
        clear hzz
        subst hq2
        have hong : on < g.length := (HI.out.good.hang ⟨l, HL.out, List.mem_of_getElem? hon⟩).2
        have HON := Lib.hid hon
        have hdl2 : (x.done : Int) < (l.length : Int) := by omega
        have fl := HF.out.low.cell hong
        have honi : (on : Int) < g.length := by omega
        clear hon hdone
        go_upto_region 7 with fail
        clear hdi hdi2 hcell2
        by_cases hlow : s1.low on = 0
        · have hln : (s1.low on : Int) = 0 := by omega
          rw [hln] at fl
          have HLO := Lib.hid hlow
          clear hlow hln
          have hno := HI.out.zero HLO.out
          have hlen2 : s1.opn.length + 1 ≤ g.length := by
            have := Gr.nodup_le g.length (s1.opn ++ [on]) (by
              rw [List.nodup_append]
              exact ⟨HI.out.nodup, by simp, fun a ha b hb e => by simp at hb; subst hb; exact hno (e ▸ ha)⟩) (fun y hy => by
              rcases List.mem_append.1 hy with hy | hy
              · exact HI.out.lt y hy
              · simp at hy; omega)
            simpa using this
          clear hno
          go_wp2_with fail
          refine (enter_any (fin_drewN HF.out _) rfl (below_drewN HB.out _) hong (by omega) (by omega)).mono ?_
          rintro e w2 ⟨rfl, hf2, hb2⟩
          have HF2 := Lib.hid hf2; have HB2 := Lib.hid hb2
          have HI2 := Lib.hid (HI.out.enter hong HLO.out (.inr ⟨Q, x, l, HE.out, HL.out, HON.out⟩))
          have HM2 : Hid (Gr.left g (s1.enter on) < gk) := Lib.hid (by rw [← HM.out]; exact Gr.left_enter hong HLO.out)
          have HK2 : Hid (∀ u, s1.low u ≠ 0 → (s1.enter on).low u ≠ 0) := Lib.hid (fun u hu => by
            simp only [Gr.St.enter]
            by_cases e : u = on
            · subst e; simp [Gr.upd_same]
            · rw [Gr.upd_ne _ _ e]; exact hu)
          clear hf2 hb2
          go_wp2
          go_roundg (Gr.left g (s1.enter on))
          case measure => exact HM2.out
          case rel => exact Lib.hid ⟨s1.enter on, HI2.out, HF2.out, fun u hu => HK2.out u (HK.out u hu), HK2.out t HT.out, rfl, HB2.out⟩
        · have hln : ((s1.low on : Int) == 0) = false := by simp; omega
          have hln2 : ¬ ((s1.low on : Int) = 0) := by omega
          have HLO := Lib.hid hlow
          clear hlow
          go_upto_region 9 with fail
          clear hln hln2 fl f3 c1 c2
          have HF2 := Lib.hid (fin_drewN HF.out (na + nq))
          have HB2 := Lib.hid (below_drewN HB.out (na + nq))
          generalize wr.drewN (na + nq) = w5 at *
          have f3 := ent_cell HF2.out.ent 3 _ rfl
          have fl1 := HF2.out.low.cell hong
          have fl2 := HF2.out.low.cell hxt
          have flf := HF2.out.low.free x.thing
          obtain ⟨c0, c1, c2⟩ := fin_step HF2.out HE.out
          go_region
          obtain ⟨y, hy⟩ : ∃ y : Int, y = (if s1.low on < s1.low x.thing then (s1.low on : Int) else (s1.low x.thing : Int)) := ⟨_, rfl⟩
          rw [← hy]
          have hv : y = ((min (s1.low x.thing) (s1.low on) : Nat) : Int) := by
            rw [hy, Nat.min_def]
            split <;> split <;> omega
          clear hy
          have hf3 := fin_drew (fin_low HF2.out x.thing (min (s1.low x.thing) (s1.low on)) _ hv)
          have hLlo := HF2.out.hL
          have hb3 := below_drew (HB2.out.setCell (p := ⟨L, x.thing, none⟩) hLlo (.int .i64 y))
          have HF3 := Lib.hid hf3; have HB3 := Lib.hid hb3
          clear hf3 hb3 hv c0 c1 c2 f3 fl1 fl2 flf
          clear HF2 HB2
          revert HF3 HB3
          generalize (w5.setCell ⟨L, x.thing, none⟩ (.int .i64 y)).drew = w6
          intro HF3 HB3
          obtain ⟨c0, c1, c2⟩ := fin_step HF3.out HE.out
          have pf := own_free HF3.out.path (Q.length * 3 + 2)
          have hdb : (x.done : Int) ≤ 1000000000 := by
            have := HLL.out l (List.mem_of_getElem? HL.out)
            omega
          go_wp2
          have HF4 := Lib.hid (fin_done HF3.out HE.out)
          have HB4 := Lib.hid (HB3.out.setCell (p := ⟨P, Q.length * 3 + 2, none⟩) HF3.out.hP (.int .i64 ((x.done : Int) + 1)))
          have hxlow : s1.low x.thing ≠ 0 := by
            have := HI.out.lowOpen _ _ (HI.out.step Q.length x (by rw [HE.out]; simp)).2.1
            omega
          go_roundg (Gr.left g (s1.edge Q x on))
          case measure => rw [← HM.out]; exact Gr.left_edge HE.out HL.out (by omega) hxlow HLO.out
          case rel => exact Lib.hid ⟨s1.edge Q x on, HI.out.edge HE.out HL.out HON.out HLO.out, HF4.out, (fun u hu => by
            have := HK.out u hu
            simp only [Gr.St.edge]
            by_cases e : u = x.thing
            · subst e; rw [Gr.upd_same]; have := HLO.out; omega
            · rw [Gr.upd_ne _ _ e]; exact this), (by
            have := HT.out
            simp only [Gr.St.edge]
            by_cases e : t = x.thing
            · subst e; rw [Gr.upd_same]; have := HLO.out; omega
            · rw [Gr.upd_ne _ _ e]; exact this), rfl, HB4.out⟩
end Go.Proofs.Ytjefnmcalmcciaa
