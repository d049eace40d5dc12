/-
  Several texts in one: SPart, SCkW, SField, SDef.
-/
import Derived.Test.YtgoacbomphlhjaaP00
import Derived.Test.YtgoacbomphlhjaaP20
import Derived.Deep.CutBlock
set_option linter.unusedVariables false
set_option linter.unusedSimpArgs false
namespace Go.Proofs.Ytgoacbomphlhjaa
open Go.Lib (hid)
open List renaming getElem_toArray → jX, getElem_cons_succ → jY, getElem_cons_zero → jZ, setIfInBounds_toArray → JA, set_cons_zero → JB, set_cons_succ → JC
open Go Go.RowKit
def partS (m : Nm → Option C3) : Nat → Int × List Nm → Px.Pat → Int × List Nm
 | 0, s, _ => s
 | f + 1, s, .mk k p nm _ xs => xs.foldl (partS m f) (if k = 1 then (asked s.1 (!s.2.contains nm) p, s.2 ++ [nm]) else if k = 3 then (asked s.1 (conIs m nm xs.length) p, s.2) else s)
/-- What stands while a pattern is gone through. -/
structure Pst (W0 w0 : World) (cb tb kb bb sb nk : Nat) (m : Nm → Option C3) (s : Int × List Nm) (n : Nat) (w : World) : Prop where
 bel : Below W0.heap.size W0 w
 keeps : KB (fun b => b = cb ∨ b = sb) w0 w
 ck : CkAt w cb s.1 tb kb bb
 map : MapC w kb nk m
 seen : NamesC w sb n (cnt s.2)
theorem Pst.self {W0 w0 : World} {cb tb kb bb sb nk : Nat} {m : Nm → Option C3} {s : Int × List Nm} {n : Nat} {w : World} (h : Pst W0 w0 cb tb kb bb sb nk m s n w) : Pst W0 w cb tb kb bb sb nk m s n w := ⟨h.bel, KB.refl _ _, h.ck, h.map, h.seen⟩
theorem Pst.then {W0 w0 : World} {cb tb kb bb sb nk : Nat} {m : Nm → Option C3} {s s' : Int × List Nm} {n n' : Nat} {w w' : World} (h : Pst W0 w0 cb tb kb bb sb nk m s n w) (k : Pst W0 w cb tb kb bb sb nk m s' n' w') : Pst W0 w0 cb tb kb bb sb nk m s' n' w' := ⟨k.bel, h.keeps.trans k.keeps, k.ck, k.map, k.seen⟩
theorem Pst.below {W0 w0 : World} {cb tb kb bb sb nk : Nat} {m : Nm → Option C3} {s : Int × List Nm} {n : Nat} {w w' : World} (h : Pst W0 w0 cb tb kb bb sb nk m s n w) (hb : Below w.heap.size w w') : Pst W0 w0 cb tb kb bb sb nk m s n w' :=
 ⟨h.bel.trans (hb.mono h.bel.size), h.keeps.trans (KB.of_below hb), jC h.ck hb, h.map.below hb, h.seen.below hb⟩
theorem Pst.asks {W0 w0 : World} {cb tb kb bb sb nk : Nat} {m : Nm → Option C3} {s : Int × List Nm} {n : Nat} {w w' : World} {a : Int} (h : Pst W0 w0 cb tb kb bb sb nk m s n w) (hc0 : W0.heap.size ≤ cb) (hne : cb ≠ sb) (hkc : kb ≠ cb) (k : KB (Only cb) w w') (hc : CkAt w' cb a tb kb bb) : Pst W0 w0 cb tb kb bb sb nk m (a, s.2) n w' :=
 ⟨k.below h.bel (Nat.le_refl _) (fun g hg e => by have : g = cb := e; omega), h.keeps.trans (k.weak fun _ _ e => .inl e), hc, h.map.kb k hkc, h.seen.kb k (fun e => hne (Eq.symm e))⟩
theorem Pst.adds {W0 w0 : World} {cb tb kb bb sb nk : Nat} {m : Nm → Option C3} {s : Int × List Nm} {n : Nat} {w w' : World} {nm : Nm} (h : Pst W0 w0 cb tb kb bb sb nk m s n w) (hs0 : W0.heap.size ≤ sb) (hne : cb ≠ sb) (hks : kb ≠ sb) (k : w.grownBy w' (some sb)) (hn : NamesC w' sb (n + 1) (bump (cnt s.2) nm (cnt s.2 nm + 1))) : Pst W0 w0 cb tb kb bb sb nk m (s.1, s.2 ++ [nm]) (n + 1) w' := by
 have hk : KB (fun b => b = sb) w w' := KB.of_map k (fun _ => rfl)
 exact ⟨hk.below h.bel (Nat.le_refl _) (fun g hg e => by have : g = sb := e; omega), h.keeps.trans (hk.weak fun _ _ e => .inr e), h.ck.kb hk hne, h.map.kb hk hks, hn.cong (cnt_bump s.2 nm)⟩
theorem Pst.more {W0 w0 : World} {cb tb kb bb sb nk : Nat} {m : Nm → Option C3} {s : Int × List Nm} {n n' : Nat} {w : World} (h : Pst W0 w0 cb tb kb bb sb nk m s n w) (hn : n ≤ n') : Pst W0 w0 cb tb kb bb sb nk m s n' w := { h with seen := h.seen.mono hn }
theorem Pst.at {W0 w0 : World} {cb tb kb bb sb nk : Nat} {m : Nm → Option C3} {s : Int × List Nm} {n : Nat} {w : World} (h : Pst W0 w0 cb tb kb bb sb nk m s n w) {g : Nat} {x : Obj} (e : w0.heap[g]? = some x) (h1 : g ≠ cb) (h2 : g ≠ sb) : w.heap[g]? = some x := h.keeps.at e (fun e => e.elim h1 h2)
def PartC (cb tb kb bb sb nk : Nat) (m : Nm → Option C3) (W0 : World) (f : Nat) : Prop :=
 ∀ (x : Px.Pat) (v : Value) (s : Int × List Nm) (n : Nat) (w : World), PatAt f W0 v x → s.2.length + Sx.pw f x ≤ 400000 → n + Sx.pw f x ≤ 100000000 → Pst W0 w cb tb kb bb sb nk m s n w →
  Calls Try.prog 76 #[.pointer (some ⟨cb, 0, none⟩), v, .map (some sb)] w fun e w' => e = .returned (.tuple #[]) ∧ Pst W0 w cb tb kb bb sb nk m (partS m f s x) (n + Sx.pw f x) w'
theorem partS_len (m : Nm → Option C3) : ∀ (f : Nat) (s : Int × List Nm) (x : Px.Pat), (partS m f s x).2.length ≤ s.2.length + Sx.pw f x
 | 0, s, _ => by simp [partS]
 | f + 1, s, .mk k p nm i xs => by
   rw [partS, Sx.pw]
   have hl : ∀ (l : List Px.Pat) (s : Int × List Nm), (l.foldl (partS m f) s).2.length ≤ s.2.length + (l.map (Sx.pw f)).sum := by
    intro l
    induction l with
    | nil => intro s; simp
    | cons a r ih => intro s; rw [List.foldl_cons, List.map_cons, List.sum_cons]; have h1 := ih (partS m f s a); have h2 := partS_len m f s a; omega
   refine Nat.le_trans (hl _ _) ?_
   split
   · simp only [List.length_append, List.length_singleton]; omega
   · split
     · simp only []; omega
     · omega
theorem fold_len (m : Nm → Option C3) (f : Nat) (l : List Px.Pat) (s : Int × List Nm) : (l.foldl (partS m f) s).2.length ≤ s.2.length + (l.map (Sx.pw f)).sum := by
 induction l generalizing s with
 | nil => simp
 | cons a r ih => rw [List.foldl_cons, List.map_cons, List.sum_cons]; have h1 := ih (partS m f s a); have h2 := partS_len m f s a; omega
set_option maxHeartbeats 4000000 in
set_option maxRecDepth 100000 in
theorem part_step (cb tb kb bb sb nk : Nat) (m : Nm → Option C3) (W0 : World) (hc0 : W0.heap.size ≤ cb) (hs0 : W0.heap.size ≤ sb) (hne : cb ≠ sb) (hkc : kb ≠ cb) (hks : kb ≠ sb) (f : Nat) (ih : PartC cb tb kb bb sb nk m W0 f) : PartC cb tb kb bb sb nk m W0 (f + 1) := by
 intro x v s n w hx hw hn h
 cases x with | mk k p nm i xs =>
 obtain ⟨av, rfl, hr⟩ := hx
 obtain ⟨q, cp, rfl⟩ := hr.len
 have HR := hid hr
 have HI := hid ih
 have H0 := hid h
 have hpw : Sx.pw (f + 1) (.mk k p nm i xs) = 1 + nm.length + (xs.map (Sx.pw f)).sum := by rw [Sx.pw]
 have HPW := hid hpw
 have HW : Hid (s.2.length + 1 + nm.length + (xs.map (Sx.pw f)).sum ≤ 400000 ∧ n + 1 + nm.length + (xs.map (Sx.pw f)).sum ≤ 100000000) := hid (by omega)
 have hnm : nm.length ≤ 400000 := by omega
 have hsl : s.2.length ≤ 400000 := by omega
 have hn9 : n ≤ 1000000000 := by omega
 have hcb := jK h.ck
 have hsb := h.seen.lt
 clear hr ih h hpw hw hn
 go_enter Try.func76, Try.ntmps76
 have EX := hid (jI w #[.int .i64 k, .int .i64 p, .string ⟨nm.toArray⟩, .int .i64 i, .slice q xs.length cp] 94)
 have HB := hid (show Below w.heap.size w (w.alloc (.cells #[.int .i64 k, .int .i64 p, .string ⟨nm.toArray⟩, .int .i64 i, .slice q xs.length cp] 94)) from (Below.refl _ _).alloc (Nat.le_refl _) _)
 go_upto_region 1 with fail
 generalize w.alloc (.cells #[.int .i64 k, .int .i64 p, .string ⟨nm.toArray⟩, .int .i64 i, .slice q xs.length cp] 94) = w1 at EX HB ⊢
 have H1 := hid (H0.out.below HB.out)
 have hs1 := HB.out.size
 have e0 := jA EX.out 0 _ rfl
 go_upto_block 0 with fail
 clear e0
 obtain ⟨s1, hs1'⟩ : ∃ s1, s1 = (if k = 1 then (asked s.1 (!s.2.contains nm) p, s.2 ++ [nm]) else if k = 3 then (asked s.1 (conIs m nm xs.length) p, s.2) else s) := ⟨_, rfl⟩
 have HS1 := hid hs1'
 clear hs1'
 go_cut [10] (fun _ wx => Hid (Pst W0 w cb tb kb bb sb nk m s1 (n + 1) wx) ∧ Hid (wx.heap[w.heap.size]? = some (.cells #[.int .i64 k, .int .i64 p, .string ⟨nm.toArray⟩, .int .i64 i, .slice q xs.length cp] 94 (0, 0))))
 case first =>
  by_cases h1 : k = 1
  · have HSA : Hid (s1 = (asked s.1 (!s.2.contains nm) p, s.2 ++ [nm])) := hid (by rw [HS1.out, if_pos h1])
    clear HS1
    subst h1
    go_upto_region 3 with fail
    obtain ⟨rr, hrr⟩ : ∃ r, (!s.2.contains nm) = r := ⟨_, rfl⟩
    have HRR := hid hrr
    clear hrr
    have HD := hid (H1.out.below (show Below w1.heap.size w1 w1.drew from (Below.refl _ _).drew))
    refine wp_region_held_drew (S := fun u => ∀ g o, w1.heap[g]? = some o → g ≠ cb → g ≠ sb → u.heap[g]? = some o) (by kernel_rfl) (fun g o h _ _ => h) (fun jM => ?_)
    refine wT 0 (.pointer (some ⟨cb, 0, none⟩)) rfl (Or.inl ⟨by rfl, fun w' hSw => by go_simp⟩) jM ?_
    refine wT 1 (.map (some sb)) rfl (Or.inl ⟨by rfl, fun w' hSw => by go_simp⟩) jM ?_
    refine wT 2 (.pointer (some ⟨w.heap.size, 2, none⟩)) rfl (Or.inl ⟨by rfl, fun w' hSw => by go_simp⟩) jM ?_
    refine wT 3 (.string ⟨nm.toArray⟩) rfl (Or.inl ⟨by rfl, fun w' hSw => by have h := jA (hSw _ _ EX.out (by omega) (by omega)) 2 _ rfl; go_simp⟩) jM ?_
    refine wT 5 (.pointer (some ⟨w.heap.size, 1, none⟩)) rfl (Or.inl ⟨by rfl, fun w' hSw => by go_simp⟩) jM ?_
    refine wT 6 (.int .i64 p) rfl (Or.inl ⟨by rfl, fun w' hSw => by have h := jA (hSw _ _ EX.out (by omega) (by omega)) 1 _ rfl; go_simp⟩) jM ?_
    simp only [Act.put, JA, JB, JC]
    refine wpAnyH_ready (rs := [4]) (by kernel_rfl) (by simp) ?_
    refine AllReadyH.cons rfl (fun K hK => ?_) AllReadyH.nil
    go_simp
    refine (add_any w1.drew sb n (cnt s.2) nm HD.out.seen hnm (fun s' => by have := cnt_small (l := s.2) (by omega) s'; omega) hn9).mono ?_
    rintro e w2 ⟨rfl, hg, hn2⟩
    rw [cnt_zero, HRR.out]
    have HP2 := hid (HD.out.adds hs0 hne hks hg hn2)
    have HQ2 := hid ((KB.of_below (S := fun b => b = cb ∨ b = sb) (show Below w1.heap.size w1 w1.drew from (Below.refl _ _).drew)).trans (KB.of_map hg (fun _ => .inr rfl)))
    clear hg hn2
    refine hK.out _ _ (fun g o h h1 h2 => HQ2.out.at h (fun e => e.elim h1 h2)) (fun jM => ?_)
    clear hK K
    refine wpAnyH_ready (rs := [7]) (by kernel_rfl) (by simp) ?_
    refine AllReadyH.cons rfl (fun K hK => ?_) AllReadyH.nil
    go_simp
    refine (ask_any w2 cb tb kb bb s.1 rr (p : Int) HP2.out.ck).mono ?_
    rintro e w3 ⟨rfl, hk3, hc3⟩
    have HP3 := hid (HP2.out.asks hc0 hne hkc hk3 hc3)
    have HQ3 := hid (HQ2.out.trans (hk3.weak fun _ _ e => .inl e))
    clear hk3 hc3
    refine hK.out _ _ (fun g o h h1 h2 => HQ3.out.at h (fun e => e.elim h1 h2)) (fun jM => ?_)
    clear hK K
    refine wpAnyH_done (by kernel_rfl) ?_ _
    go_wp2_with fail
    go_meet
    exact ⟨hid (by rw [HSA.out, HRR.out]; exact HP3.out), hid (HQ3.out.at EX.out (fun e => by rcases e with e | e <;> omega))⟩
  · have t1 : ((k : Int) == 1) = false := beq_eq_false_iff_ne.2 (by omega)
    by_cases h3 : k = 3
    · have HSB : Hid (s1 = (asked s.1 (conIs m nm xs.length) p, s.2)) := hid (by rw [HS1.out, if_neg h1, if_pos h3])
      clear HS1
      subst h3
      have e1 := jA EX.out 1 _ rfl; have e2 := jA EX.out 2 _ rfl; have e4 := jA EX.out 4 _ rfl
      go_wp2_with fail
      refine (ckcon_any w1 cb tb kb bb nk s.1 m nm (xs.length : Int) (p : Int) H1.out.ck H1.out.map hnm).mono ?_
      rintro e w2 ⟨rfl, hk, hc⟩
      have HP := hid (H1.out.asks hc0 hne hkc hk hc)
      have HX := hid (HP.out.keeps.block)
      have EX2 := hid (hk.at EX.out (by show w.heap.size ≠ cb; omega))
      clear hk hc HX
      go_wp2_with fail
      go_meet
      exact ⟨hid (by rw [HSB.out]; exact HP.out.more (by omega)), EX2⟩
    · have t3 : ((k : Int) == 3) = false := beq_eq_false_iff_ne.2 (by omega)
      have HS2 : Hid (s1 = s) := hid (by rw [HS1.out, if_neg h1, if_neg h3])
      clear h1 h3
      go_wp2_with fail
      go_meet
      exact ⟨hid (by rw [HS2.out]; exact H1.out.more (by omega)), EX⟩
 case rest =>
 obtain ⟨HP, EXC⟩ := hcut
 clear H1 EX
 have hcl := HP.out.keeps.size
 have hss := jK EXC.out
 have hs1l : s1.2.length ≤ s.2.length + 1 := by
  rw [HS1.out]
  split
  · simp
  · split <;> simp
 have HSL := hid hs1l
 clear hs1l
 have e4 := jA EXC.out 4 _ rfl
 go_wp2_with fail
 clear e4 hss
 go_loopw [7, 34] (fun _ j wr => ∃ k : Nat, j = .int .i64 k ∧ k ≤ xs.length ∧ Hid (Pst W0 w cb tb kb bb sb nk m ((xs.take k).foldl (partS m f) s1) (n + 1 + ((xs.take k).map (Sx.pw f)).sum) wr)) (fun _ j _ => xs.length - (intOf j).toNat)
 case atStart => exact ⟨0, rfl, Nat.zero_le _, hid (by simpa using HP.out)⟩
 case round =>
  clear HP EXC
  obtain ⟨j, rfl, hj, HP⟩ := hrel
  by_cases hlt : j < xs.length
  · obtain ⟨y, hy⟩ : ∃ y, xs[j]? = some y := ⟨_, List.getElem?_eq_getElem hlt⟩
    rcases HR.out with ⟨h0, _⟩ | ⟨g, of, c', hv, g1, g2, g3⟩
    · rw [h0] at hlt; simp at hlt
    injection hv with hq1 _ hq2
    subst hq1; subst hq2
    obtain ⟨u, hu, _, hcell⟩ := g3 j y hy
    obtain ⟨a0, a1, a2, a3, uq, un, uc, rfl⟩ := patAt_sh hu
    have z0 := jE HP.out.bel (hcell 0 _ rfl); have z1 := jE HP.out.bel (hcell 1 _ rfl); have z2 := jE HP.out.bel (hcell 2 _ rfl); have z3 := jE HP.out.bel (hcell 3 _ rfl); have z4 := jE HP.out.bel (hcell 4 _ rfl)
    simp only [Nat.add_zero] at z0
    have hj1 : (j : Int) < (xs.length : Int) := by omega
    have hj2 : (xs.length : Int) ≤ (cp : Int) := by omega
    have hj3 := g2
    have hst := Sx.sum_take (Sx.pw f) xs j y hy
    have HST := hid hst
    have hfl := fold_len m f (xs.take j) s1
    have HFL := hid hfl
    have HTK := hid (take_fold (partS m f) xs j y hy s1)
    have HSK : Hid (((xs.take (j + 1)).map (Sx.pw f)).sum = ((xs.take j).map (Sx.pw f)).sum + Sx.pw f y) := hid (by rw [List.take_add_one, hy]; simp)
    have HPA := hid (HP.out.below ((Below.refl _ wr).alloc (Nat.le_refl _) (.cells #[.int .i64 a0, .int .i64 a1, .string a2, .int .i64 a3, .slice uq un uc] 94)))
    have HU := hid hu
    have EA := jI wr #[.int .i64 a0, .int .i64 a1, .string a2, .int .i64 a3, .slice uq un uc] 94
    have y0 := jA EA 0 _ rfl; have y1 := jA EA 1 _ rfl; have y2 := jA EA 2 _ rfl; have y3 := jA EA 3 _ rfl; have y4 := jA EA 4 _ rfl
    clear g1 g2 g3 hcell hu hy hst hfl EA
    go_wp2_with fail
    clear z0 z1 z2 z3 z4 y0 y1 y2 y3 y4
    refine (HI.out y _ ((xs.take j).foldl (partS m f) s1) _ _ HU.out (by have := HST.out; have := HFL.out; have := HSL.out; have := HW.out; omega) (by have := HST.out; have := HW.out; omega) HPA.out.self).mono ?_
    rintro e w5 ⟨rfl, hp⟩
    have HP5 := hid (HPA.out.then hp)
    clear hp HPA
    go_wp2_with fail
    go_roundw
    case rel => exact ⟨j + 1, by go_num, by omega, hid (by rw [HTK.out, HSK.out]; exact HP5.out.more (by omega))⟩
    case measure => simp [intOf]; omega
  · obtain rfl : j = xs.length := by omega
    go_wp2_with fail
    refine bodyPost_end (v := .tuple #[]) (by simp [results, Try.results76, go_sem]) rfl ?_
    refine ⟨rfl, ?_⟩
    have hp := HP.out
    rw [List.take_length] at hp
    rw [partS, ← HS1.out, HPW.out]
    exact hp.more (by omega)
theorem part_any (cb tb kb bb sb nk : Nat) (m : Nm → Option C3) (W0 : World) (hc0 : W0.heap.size ≤ cb) (hs0 : W0.heap.size ≤ sb) (hne : cb ≠ sb) (hkc : kb ≠ cb) (hks : kb ≠ sb) : ∀ f, PartC cb tb kb bb sb nk m W0 f
 | 0 => fun x v s n w hx => hx.elim
 | f + 1 => part_step cb tb kb bb sb nk m W0 hc0 hs0 hne hkc hks f (part_any cb tb kb bb sb nk m W0 hc0 hs0 hne hkc hks f)
end Go.Proofs.Ytgoacbomphlhjaa

namespace Go.Proofs.Ytgoacbomphlhjaa
open Go.Lib (hid)
open List renaming getElem_toArray → jX, getElem_cons_succ → jY, getElem_cons_zero → jZ, setIfInBounds_toArray → JA, set_cons_zero → JB, set_cons_succ → JC
open Go Go.RowKit
theorem ck_ne {w : World} {cb tb kb bb mb n : Nat} {a : Int} {c : Nm → Int} (h : CkAt w cb a tb kb bb) (hn : NamesC w mb n c) : cb ≠ mb := fun e => by
 obtain ⟨D, ⟨es, cl, hb, _⟩, _⟩ := hn
 unfold CkAt at h
 rw [e, hb] at h; cases h
theorem ck_nem {α : Type} {R : RdU} {enc : α → DU} {w : World} {cb tb kb bb mb n : Nat} {a : Int} {m : Nm → Option α} (h : CkAt w cb a tb kb bb) (hn : MapG R enc w mb n m) : mb ≠ cb := fun e => by
 obtain ⟨D, ⟨es, cl, hb, _⟩, _⟩ := hn
 unfold CkAt at h
 rw [← e, hb] at h; cases h
set_option maxHeartbeats 2000000 in
theorem ckpat_any (cb tb kb bb nk : Nat) (m : Nm → Option C3) (W0 : World) (hc0 : W0.heap.size ≤ cb) (f : Nat) (x : Px.Pat) (v : Value) (a : Int) (w : World) (hx : PatAt f W0 v x) (hw : Sx.pw f x ≤ 400000) (hbel : Below W0.heap.size W0 w) (h : CkAt w cb a tb kb bb) (hm : MapC w kb nk m) :
 Calls Try.prog 71 #[.pointer (some ⟨cb, 0, none⟩), v] w fun e w' => e = .returned (.tuple #[]) ∧ KB (Only cb) w w' ∧ CkAt w' cb (partS m f (a, []) x).1 tb kb bb := by
 cases f with
 | zero => exact hx.elim
 | succ f =>
 have HXX := hid hx
 cases x with | mk k p nm i xs =>
 obtain ⟨av, rfl, hr⟩ := hx
 obtain ⟨q, cp, rfl⟩ := hr.len
 have hcb := jK h
 have hkb := hm.lt
 have hkc := ck_nem h hm
 have hmm := @run_makeMap Try.prog
 obtain ⟨E, hE⟩ : ∃ E : Array Value, E = #[.int .i64 k, .int .i64 p, .string ⟨nm.toArray⟩, .int .i64 i, .slice q xs.length cp] := ⟨_, rfl⟩
 have HB0 := hid (show Below w.heap.size w ((w.alloc (.cells #[.int .i64 k, .int .i64 p, .string ⟨nm.toArray⟩, .int .i64 i, .slice q xs.length cp] 94)).alloc (.map #[] 0)) from ((Below.refl _ _).alloc (Nat.le_refl _) _).alloc (by simp) _)
 have HS := hid (NamesC.made (w.alloc (.cells #[.int .i64 k, .int .i64 p, .string ⟨nm.toArray⟩, .int .i64 i, .slice q xs.length cp] 94)))
 have hsz : (w.alloc (.cells #[.int .i64 k, .int .i64 p, .string ⟨nm.toArray⟩, .int .i64 i, .slice q xs.length cp] 94)).heap.size = w.heap.size + 1 := by simp
 have HP := hid (part_any cb tb kb bb (w.heap.size + 1) nk m W0 hc0 (by have := hbel.size; omega) (by omega) hkc (by omega) (f + 1) (.mk k p nm i xs) _ (a, []) 0 _ HXX.out (by simpa using hw) (by omega)
  ⟨hbel.trans (HB0.out.mono hbel.size), KB.refl _ _, jC h HB0.out, hm.below HB0.out, by rw [← hsz]; exact HS.out.cong (fun s => by simp [cnt])⟩)
 have EX := hid (jI w #[.int .i64 k, .int .i64 p, .string ⟨nm.toArray⟩, .int .i64 i, .slice q xs.length cp] 94)
 have e0 := jA EX.out 0 _ rfl; have e1 := jA EX.out 1 _ rfl; have e2 := jA EX.out 2 _ rfl; have e3 := jA EX.out 3 _ rfl; have e4 := jA EX.out 4 _ rfl
 clear hr hm h hbel hE E HS
 go_enter Try.func71, Try.ntmps71
 go_wp2_with fail
 clear e0 e1 e2 e3 e4
 refine HP.out.mono ?_
 rintro e w3 ⟨rfl, hp⟩
 have HP3 := hid hp
 clear hp
 go_wp2_with fail
 refine bodyPost_end (v := .tuple #[]) (by simp [results, Try.results71, go_sem]) rfl ?_
 have hk3 := HP3.out.keeps
 exact ⟨rfl, ⟨hk3.os.trans HB0.out.os, hk3.tape.trans HB0.out.tape, hk3.output.trans HB0.out.output, Nat.le_trans HB0.out.size hk3.size, fun b hb hs => (hk3.block b (Nat.lt_of_lt_of_le hb HB0.out.size) (fun e => e.elim hs (fun e => by omega))).trans (HB0.out.block b hb)⟩, HP3.out.ck⟩
def CkInv (cb tb kb bb nk : Nat) (m : Nm → Option C3) (_ : Nat) (a : Int) (w : World) : Prop := CkAt w cb a tb kb bb ∧ MapC w kb nk m
def CkOwn (cb : Nat) (_ : Int) (_ : World) (b : Nat) : Prop := b = cb
def ckE (m : Nm → Option C3) (_ : Nat) (a : Int) (vars : List Nm) (x : Px.Expr) : Int := exprAsk m vars a x
def ckP (m : Nm → Option C3) (f : Nat) (a : Int) (_ : List Nm) (x : Px.Pat) : Int := (partS m f (a, []) x).1
theorem ck_wst {cb tb kb bb nk n n' : Nat} {m : Nm → Option C3} {W0 w w' : World} {a a' : Int} {vars : List Nm} (hc0 : W0.heap.size ≤ cb) (h : Wst (CkInv cb tb kb bb nk m) (CkOwn cb) bb W0 a vars n (CkOwn cb a w) w w) (k : KB (Only cb) w w') (hc : CkAt w' cb a' tb kb bb) (hn : n ≤ n') : Wst (CkInv cb tb kb bb nk m) (CkOwn cb) bb W0 a' vars n' (CkOwn cb a w) w w' :=
 ⟨k.below h.bel (Nat.le_refl _) (fun g hg e => by have : g = cb := e; omega), k.size, fun b h1 _ h3 => k.block b h1 h3, fun b hb => .inl hb, (h.nam.kb k (fun e => ck_ne h.inv.1 h.nam (Eq.symm e))).mono hn, hc, h.inv.2.kb k (ck_nem h.inv.1 h.inv.2)⟩
theorem ck_told (cb tb kb bb nk : Nat) (m : Nm → Option C3) (W0 : World) (hc0 : W0.heap.size ≤ cb) (hb0 : W0.heap.size ≤ bb) (hcm : cb ≠ bb) (hkm : kb ≠ bb) :
 Told (CkInv cb tb kb bb nk m) (CkOwn cb) bb W0 70 71 #[.pointer (some ⟨cb, 0, none⟩)] #[] #[.pointer (some ⟨cb, 0, none⟩)] #[] (ckE m) (ckP m) where
 keep := fun n n' s w w' hn hi hs hk => ⟨⟨(hk cb (jK hi.1) hcm).trans hi.1, hi.2.same (hk kb hi.2.lt hkm)⟩, fun b hb => hb⟩
 lt := fun n s w b hi ho => by have : b = cb := ho; have := jK hi.1; omega
 old := hb0
 callE := fun args w => by kernel_rfl
 callP := fun args w => by kernel_rfl
 expr := fun f x v s vars n w hx hw hn h => (ckexpr_any f x v w cb tb kb bb nk n s m vars (exprAt_below hx h.bel) (by omega) (by omega) h.inv.1 h.inv.2 h.nam).mono fun e w' he => ⟨he.1, ck_wst hc0 h he.2.1 he.2.2 (by omega)⟩
 pat := fun f x v s vars n w hx hw hn h => (ckpat_any cb tb kb bb nk m W0 hc0 f x v s w hx (by omega) h.bel h.inv.1 h.inv.2).mono fun e w' he => ⟨he.1, ck_wst hc0 h he.2.1 he.2.2 (Nat.le_refl _)⟩
end Go.Proofs.Ytgoacbomphlhjaa

namespace Go.Proofs.Ytgoacbomphlhjaa
open Go.Lib (hid)
open List renaming getElem_toArray → jX, getElem_cons_succ → jY, getElem_cons_zero → jZ, setIfInBounds_toArray → JA, set_cons_zero → JB, set_cons_succ → JC
open Go Go.RowKit
def fieldOk (m : Nm → Option Int) (vars : List Nm) (nm : Nm) (k : Nat) : Bool := vars.contains nm || (match m nm with | some c => decide (c = (k : Int)) | none => false)
def fieldS (m : Nm → Option Int) (vars : List Nm) : Nat → Int → Px.TypeE → Int
 | 0, a, _ => a
 | f + 1, a, .mk p nm xs => xs.foldl (fieldS m vars f) (asked a (fieldOk m vars nm xs.length) p)
theorem fieldOk_eq (m : Nm → Option Int) (vars : List Nm) (nm : Nm) (k : Nat) : fieldOk m vars nm k = (vars.contains nm || ((m nm).isSome && decide ((m nm).getD 0 = (k : Int)))) := by
 unfold fieldOk
 cases m nm <;> rfl
theorem typeAt_sh {f : Nat} {u : World} {v : Value} {t : Px.TypeE} (h : TypeAt f u v t) : ∃ (p : Int) (s : ByteArray) (q : Option Addr) (n c : Nat), v = .agg #[.int .i64 p, .string s, .slice q n c] := by
 cases f with
 | zero => exact h.elim
 | succ f =>
   cases t with | mk p nm xs =>
   obtain ⟨av, rfl, h1⟩ := h
   obtain ⟨q, c, rfl⟩ := h1.len
   exact ⟨_, _, _, _, _, rfl⟩
theorem lookI_run {w : World} {mb n : Nat} {m : Nm → Option Int} (s : Nm) (h : MapI w mb n m) (hs : s.length ≤ 400000) :
 (Instr.lookup 64 (.map (some mb)) (.string ⟨s.toArray⟩) true).run Try.prog w = Result.ok (.tuple #[.int .i64 ((m s).getD 0), .bool (m s).isSome]) w := by
 obtain ⟨D, o1, t1, n1⟩ := h
 obtain ⟨v, ps, hrun, hv⟩ := o1.look_ok lawStr Try.underlying64 (zeroInt w) (zd := encN 0) (zp := []) (plainElem_int Try.underlying3 (by decide)) (keyLit s (by unfold maxLen; omega))
 obtain ⟨a, rfl, hy⟩ := RInt_inv hv
 rw [(n1 s).1] at hrun
 simp only [Prod.mk.injEq] at hy
 have hh := (n1 s).1
 have ha : a = (m s).getD 0 := by
  cases hm : m s with
  | none =>
    rw [hm] at hh
    rw [Maps.atKey_of_not_has hh] at hy
    have := hy.1
    simp only [encN, DataW.lit.injEq, Lit.int.injEq, true_and] at this
    rw [← this]; rfl
  | some b =>
    rw [(n1 s).2 b _ hm] at hy
    have := hy.1
    simp only [encN, DataW.lit.injEq, Lit.int.injEq, true_and] at this
    rw [← this]; rfl
 rw [← ha]; exact hrun
/-- What stands while a type is gone through. -/
structure Fst (W0 w0 : World) (cb tb kb bb pb nt np : Nat) (m : Nm → Option Int) (vars : List Nm) (a : Int) (w : World) : Prop where
 bel : Below W0.heap.size W0 w
 keeps : KB (Only cb) w0 w
 ck : CkAt w cb a tb kb bb
 map : MapI w tb nt m
 par : NamesC w pb np (cnt vars)
theorem Fst.self {W0 w0 : World} {cb tb kb bb pb nt np : Nat} {m : Nm → Option Int} {vars : List Nm} {a : Int} {w : World} (h : Fst W0 w0 cb tb kb bb pb nt np m vars a w) : Fst W0 w cb tb kb bb pb nt np m vars a w := ⟨h.bel, KB.refl _ _, h.ck, h.map, h.par⟩
theorem Fst.then {W0 w0 : World} {cb tb kb bb pb nt np : Nat} {m : Nm → Option Int} {vars : List Nm} {a a' : Int} {w w' : World} (h : Fst W0 w0 cb tb kb bb pb nt np m vars a w) (k : Fst W0 w cb tb kb bb pb nt np m vars a' w') : Fst W0 w0 cb tb kb bb pb nt np m vars a' w' := ⟨k.bel, h.keeps.trans k.keeps, k.ck, k.map, k.par⟩
theorem Fst.below {W0 w0 : World} {cb tb kb bb pb nt np : Nat} {m : Nm → Option Int} {vars : List Nm} {a : Int} {w w' : World} (h : Fst W0 w0 cb tb kb bb pb nt np m vars a w) (hb : Below w.heap.size w w') : Fst W0 w0 cb tb kb bb pb nt np m vars a w' :=
 ⟨h.bel.trans (hb.mono h.bel.size), h.keeps.trans (KB.of_below hb), jC h.ck hb, h.map.below hb, h.par.below hb⟩
theorem Fst.asks {W0 w0 : World} {cb tb kb bb pb nt np : Nat} {m : Nm → Option Int} {vars : List Nm} {a a' : Int} {w w' : World} (h : Fst W0 w0 cb tb kb bb pb nt np m vars a w) (hc0 : W0.heap.size ≤ cb) (k : KB (Only cb) w w') (hc : CkAt w' cb a' tb kb bb) : Fst W0 w0 cb tb kb bb pb nt np m vars a' w' :=
 ⟨k.below h.bel (Nat.le_refl _) (fun g hg e => by have : g = cb := e; omega), h.keeps.trans k, hc, h.map.kb k (ck_nem h.ck h.map), h.par.kb k (fun e => ck_ne h.ck h.par (Eq.symm e))⟩
def FieldC (cb tb kb bb pb nt np : Nat) (m : Nm → Option Int) (vars : List Nm) (W0 : World) (f : Nat) : Prop :=
 ∀ (x : Px.TypeE) (v : Value) (a : Int) (w : World), TypeAt f W0 v x → Sx.tyw f x ≤ 400000 → Fst W0 w cb tb kb bb pb nt np m vars a w →
  Calls Try.prog 68 #[.pointer (some ⟨cb, 0, none⟩), v, .map (some pb)] w fun e w' => e = .returned (.tuple #[]) ∧ Fst W0 w cb tb kb bb pb nt np m vars (fieldS m vars f a x) w'
set_option maxHeartbeats 4000000 in
set_option maxRecDepth 100000 in
theorem field_step (cb tb kb bb pb nt np : Nat) (m : Nm → Option Int) (vars : List Nm) (W0 : World) (hc0 : W0.heap.size ≤ cb) (hvl : vars.length ≤ 400000) (f : Nat) (ih : FieldC cb tb kb bb pb nt np m vars W0 f) : FieldC cb tb kb bb pb nt np m vars W0 (f + 1) := by
 intro x v a w hx hw h
 cases x with | mk p nm xs =>
 obtain ⟨av, rfl, hr⟩ := hx
 obtain ⟨q, cp, rfl⟩ := hr.len
 have HR := hid hr
 have HI := hid ih
 have H0 := hid h
 have hpw : Sx.tyw (f + 1) (.mk p nm xs) = 1 + nm.length + (xs.map (Sx.tyw f)).sum := by rw [Sx.tyw]
 have HW : Hid ((xs.map (Sx.tyw f)).sum ≤ 400000) := hid (by omega)
 have hnm : nm.length ≤ 400000 := by omega
 have hcb := jK h.ck
 clear hr ih h hpw hw
 go_enter Try.func68, Try.ntmps68
 have EX := hid (jI w #[.int .i64 p, .string ⟨nm.toArray⟩, .slice q xs.length cp] 112)
 have HB := hid (show Below w.heap.size w (w.alloc (.cells #[.int .i64 p, .string ⟨nm.toArray⟩, .slice q xs.length cp] 112)) from (Below.refl _ _).alloc (Nat.le_refl _) _)
 go_upto_region 1 with fail
 generalize w.alloc (.cells #[.int .i64 p, .string ⟨nm.toArray⟩, .slice q xs.length cp] 112) = w1 at EX HB ⊢
 have H1 := hid (H0.out.below HB.out)
 have hs1 := HB.out.size
 go_cut [6, 7] (fun c t wx => c = .int .i64 ((m nm).getD 0) ∧ t = .bool (m nm).isSome ∧ wx = w1.drew)
 case first =>
  refine wp_region_held_drew (S := fun (u : World) => (∀ (g : Nat) (o : Obj), w1.heap[g]? = some o → u.heap[g]? = some o) ∧ MapI u tb nt m) (by kernel_rfl) (⟨fun g o h => h, H1.out.map.below ((Below.refl _ _).drew)⟩) (fun jM => ?_)
  refine wT 0 (.pointer (some ⟨cb, 0, none⟩)) rfl (Or.inl ⟨by rfl, fun w' hSw => by go_simp⟩) jM ?_
  refine wT 1 (.pointer (some ⟨cb, 0, none⟩)) rfl (Or.inl ⟨by rfl, fun w' hSw => by go_simp⟩) jM ?_
  refine wT 2 (.pointer (some ⟨cb, 1, none⟩)) rfl (Or.inl ⟨by rfl, fun w' hSw => by go_simp⟩) jM ?_
  refine wT 3 (.map (some tb)) rfl (Or.inl ⟨by rfl, fun w' hSw => by have h := jA (hSw.1 _ _ H1.out.ck) 1 _ rfl; go_simp⟩) jM ?_
  refine wT 4 (.pointer (some ⟨w.heap.size, 1, none⟩)) rfl (Or.inl ⟨by rfl, fun w' hSw => by go_simp⟩) jM ?_
  refine wT 5 (.string ⟨nm.toArray⟩) rfl (Or.inl ⟨by rfl, fun w' hSw => by have h := jA (hSw.1 _ _ EX.out) 1 _ rfl; go_simp⟩) jM ?_
  refine wT 6 (.tuple #[.int .i64 ((m nm).getD 0), .bool (m nm).isSome]) rfl (Or.inl ⟨by rfl, fun w' hSw => by have h := lookI_run nm hSw.2 hnm; go_simp⟩) jM ?_
  refine wT 7 (.tuple #[.int .i64 ((m nm).getD 0), .bool (m nm).isSome]) rfl (Or.inl ⟨by rfl, fun w' hSw => by go_simp⟩) jM ?_
  refine wT 8 (.int .i64 ((m nm).getD 0)) rfl (Or.inl ⟨by rfl, fun w' hSw => by go_simp⟩) jM ?_
  refine wT 9 (.bool (m nm).isSome) rfl (Or.inl ⟨by rfl, fun w' hSw => by go_simp⟩) jM ?_
  refine wT 10 (.int .i64 ((m nm).getD 0)) rfl (Or.inl ⟨by rfl, fun w' hSw => by go_simp⟩) jM ?_
  simp only [Act.put, jX, jY, jZ, JA, JB, JC]
  refine wT 11 (.bool (m nm).isSome) rfl (Or.inl ⟨by rfl, fun w' hSw => by go_simp⟩) jM ?_
  simp only [Act.put, jX, jY, jZ, JA, JB, JC]
  try simp only [Act.put, jX, jY, jZ, JA, JB, JC]
  refine wpAnyH_done (by kernel_rfl) ?_ _
  go_wp2_with fail
  go_meet
  exact ⟨rfl, rfl, rfl⟩
 case rest =>
 obtain ⟨rfl, rfl, rfl⟩ := hcut
 have H2 := hid (H1.out.below ((Below.refl _ _).drew))
 have EX2 : Hid (w1.drew.heap[w.heap.size]? = some (.cells #[.int .i64 p, .string ⟨nm.toArray⟩, .slice q xs.length cp] 112 (0, 0))) := hid EX.out
 have hs2 : w.heap.size ≤ w1.drew.heap.size := hs1
 generalize w1.drew = w2 at H2 EX2 hs2 ⊢
 have HOK := hid (fieldOk_eq m vars nm xs.length)
 have hc0' := hc0
 clear hc0
 generalize (m nm).getD 0 = c0 at HOK ⊢
 generalize (m nm).isSome = t0 at HOK ⊢
 clear H1 EX HB hs1
 go_upto_region 2 with fail
 go_cut [37] (fun _ wx => Hid (Fst W0 w cb tb kb bb pb nt np m vars (asked a (fieldOk m vars nm xs.length) p) wx) ∧ Hid (wx.heap[w.heap.size]? = some (.cells #[.int .i64 p, .string ⟨nm.toArray⟩, .slice q xs.length cp] 112 (0, 0))))
 case first =>
  cases hr0 : vars.contains nm with
  | true =>
    have HRR := hid hr0; clear hr0
    refine wp_region_held_drew (S := fun (u : World) => ∀ (g : Nat) (o : Obj), w2.heap[g]? = some o → g ≠ cb → u.heap[g]? = some o) (by kernel_rfl) (fun g o h _ => h) (fun jM => ?_)
    refine wT 0 (.pointer (some ⟨cb, 0, none⟩)) rfl (Or.inl ⟨by rfl, fun w' hSw => by go_simp⟩) jM ?_
    refine wT 1 (.map (some pb)) rfl (Or.inl ⟨by rfl, fun w' hSw => by go_simp⟩) jM ?_
    refine wT 2 (.pointer (some ⟨w.heap.size, 1, none⟩)) rfl (Or.inl ⟨by rfl, fun w' hSw => by go_simp⟩) jM ?_
    refine wT 3 (.string ⟨nm.toArray⟩) rfl (Or.inl ⟨by rfl, fun w' hSw => by have h := jA (hSw _ _ EX2.out (by omega)) 1 _ rfl; go_simp⟩) jM ?_
    refine wT 15 (.pointer (some ⟨w.heap.size, 0, none⟩)) rfl (Or.inl ⟨by rfl, fun w' hSw => by go_simp⟩) jM ?_
    refine wT 16 (.int .i64 p) rfl (Or.inl ⟨by rfl, fun w' hSw => by have h := jA (hSw _ _ EX2.out (by omega)) 0 _ rfl; go_simp⟩) jM ?_
    simp only [Act.put, jX, jY, jZ, JA, JB, JC]
    refine wpAnyH_ready (rs := [4]) (by kernel_rfl) (by simp) ?_
    refine AllReadyH.cons rfl (fun K hK => ?_) AllReadyH.nil
    go_simp
    refine (has_any w2.drew pb np (cnt vars) nm ((H2.out.below ((Below.refl _ _).drew)).par) hnm (fun s' => by have := cnt_small (l := vars) (by omega) s'; omega)).mono ?_
    rintro e w3 ⟨rfl, rfl⟩
    rw [cnt_pos, HRR.out]
    refine hK.out _ _ (fun g o h _ => h) (fun jM => ?_)
    clear hK K
    refine wT 5 (.bool true) rfl (Or.inl ⟨by rfl, fun w' hSw => by go_simp⟩) jM ?_
    simp only [Act.put, jX, jY, jZ, JA, JB, JC]
    refine wT 6 (undef) rfl (Or.inr ⟨(by first | (go_simp; done) | (go_simp; simp; done) | (go_simp; intro h; cases h)), rfl⟩) jM ?_
    simp only [Act.put, jX, jY, jZ, JA, JB, JC]
    refine wT 7 (undef) rfl (Or.inr ⟨(by first | (go_simp; done) | (go_simp; simp; done) | (go_simp; intro h; cases h)), rfl⟩) jM ?_
    simp only [Act.put, jX, jY, jZ, JA, JB, JC]
    refine wT 8 (undef) rfl (Or.inr ⟨(by first | (go_simp; done) | (go_simp; simp; done) | (go_simp; intro h; cases h)), rfl⟩) jM ?_
    simp only [Act.put, jX, jY, jZ, JA, JB, JC]
    refine wT 9 (undef) rfl (Or.inr ⟨(by first | (go_simp; done) | (go_simp; simp; done) | (go_simp; intro h; cases h)), rfl⟩) jM ?_
    simp only [Act.put, jX, jY, jZ, JA, JB, JC]
    refine wT 10 (undef) rfl (Or.inr ⟨(by first | (go_simp; done) | (go_simp; simp; done) | (go_simp; intro h; cases h)), rfl⟩) jM ?_
    simp only [Act.put, jX, jY, jZ, JA, JB, JC]
    refine wT 11 (undef) rfl (Or.inr ⟨(by first | (go_simp; done) | (go_simp; simp; done) | (go_simp; intro h; cases h)), rfl⟩) jM ?_
    simp only [Act.put, jX, jY, jZ, JA, JB, JC]
    refine wT 12 (undef) rfl (Or.inr ⟨(by first | (go_simp; done) | (go_simp; simp; done) | (go_simp; intro h; cases h)), rfl⟩) jM ?_
    simp only [Act.put, jX, jY, jZ, JA, JB, JC]
    refine wT 13 (undef) rfl (Or.inr ⟨(by first | (go_simp; done) | (go_simp; simp; done) | (go_simp; intro h; cases h)), rfl⟩) jM ?_
    simp only [Act.put, jX, jY, jZ, JA, JB, JC]
    refine wT 14 (.bool true) rfl (Or.inl ⟨by rfl, fun w' hSw => by go_simp⟩) jM ?_
    simp only [Act.put, jX, jY, jZ, JA, JB, JC]
    refine wpAnyH_ready (rs := [17]) (by kernel_rfl) (by simp) ?_
    refine AllReadyH.cons rfl (fun K hK => ?_) AllReadyH.nil
    go_simp
    refine (ask_any w2.drew cb tb kb bb a true (p : Int) (H2.out.below ((Below.refl _ _).drew)).ck).mono ?_
    rintro e w4 ⟨rfl, hk4, hc4⟩
    have HP4 := hid ((H2.out.below ((Below.refl _ _).drew)).asks hc0' hk4 hc4)
    have HQ4 := hid (hk4.at (show w2.drew.heap[w.heap.size]? = _ from EX2.out) (by show w.heap.size ≠ cb; omega))
    have hS4 : ∀ (g : Nat) (o : Obj), w2.heap[g]? = some o → g ≠ cb → w4.heap[g]? = some o := fun g o h h1 => hk4.at (show w2.drew.heap[g]? = some o from h) h1
    clear hk4 hc4
    refine hK.out _ _ hS4 (fun jM => ?_)
    clear hK K
    refine wpAnyH_done (by kernel_rfl) ?_ _
    go_wp2_with fail
    go_meet
    exact ⟨hid (by rw [HOK.out, HRR.out, Bool.true_or]; exact HP4.out), HQ4⟩
  | false =>
    have HRR := hid hr0; clear hr0
    cases t0 with
    | false =>
      refine wp_region_held_drew (S := fun (u : World) => ∀ (g : Nat) (o : Obj), w2.heap[g]? = some o → g ≠ cb → u.heap[g]? = some o) (by kernel_rfl) (fun g o h _ => h) (fun jM => ?_)
      refine wT 0 (.pointer (some ⟨cb, 0, none⟩)) rfl (Or.inl ⟨by rfl, fun w' hSw => by go_simp⟩) jM ?_
      refine wT 1 (.map (some pb)) rfl (Or.inl ⟨by rfl, fun w' hSw => by go_simp⟩) jM ?_
      refine wT 2 (.pointer (some ⟨w.heap.size, 1, none⟩)) rfl (Or.inl ⟨by rfl, fun w' hSw => by go_simp⟩) jM ?_
      refine wT 3 (.string ⟨nm.toArray⟩) rfl (Or.inl ⟨by rfl, fun w' hSw => by have h := jA (hSw _ _ EX2.out (by omega)) 1 _ rfl; go_simp⟩) jM ?_
      refine wT 15 (.pointer (some ⟨w.heap.size, 0, none⟩)) rfl (Or.inl ⟨by rfl, fun w' hSw => by go_simp⟩) jM ?_
      refine wT 16 (.int .i64 p) rfl (Or.inl ⟨by rfl, fun w' hSw => by have h := jA (hSw _ _ EX2.out (by omega)) 0 _ rfl; go_simp⟩) jM ?_
      simp only [Act.put, jX, jY, jZ, JA, JB, JC]
      refine wpAnyH_ready (rs := [4]) (by kernel_rfl) (by simp) ?_
      refine AllReadyH.cons rfl (fun K hK => ?_) AllReadyH.nil
      go_simp
      refine (has_any w2.drew pb np (cnt vars) nm ((H2.out.below ((Below.refl _ _).drew)).par) hnm (fun s' => by have := cnt_small (l := vars) (by omega) s'; omega)).mono ?_
      rintro e w3 ⟨rfl, rfl⟩
      rw [cnt_pos, HRR.out]
      refine hK.out _ _ (fun g o h _ => h) (fun jM => ?_)
      clear hK K
      refine wT 5 (.bool false) rfl (Or.inl ⟨by rfl, fun w' hSw => by go_simp⟩) jM ?_
      simp only [Act.put, jX, jY, jZ, JA, JB, JC]
      refine wT 6 (.bool false) rfl (Or.inl ⟨by go_simp, fun w' hSw => by go_simp⟩) jM ?_
      simp only [Act.put, jX, jY, jZ, JA, JB, JC]
      refine wT 7 (.bool false) rfl (Or.inl ⟨by go_simp, fun w' hSw => by go_simp⟩) jM ?_
      simp only [Act.put, jX, jY, jZ, JA, JB, JC]
      refine wT 8 (undef) rfl (Or.inr ⟨(by first | (go_simp; done) | (go_simp; simp; done) | (go_simp; intro h; cases h)), rfl⟩) jM ?_
      simp only [Act.put, jX, jY, jZ, JA, JB, JC]
      refine wT 9 (undef) rfl (Or.inr ⟨(by first | (go_simp; done) | (go_simp; simp; done) | (go_simp; intro h; cases h)), rfl⟩) jM ?_
      simp only [Act.put, jX, jY, jZ, JA, JB, JC]
      refine wT 10 (undef) rfl (Or.inr ⟨(by first | (go_simp; done) | (go_simp; simp; done) | (go_simp; intro h; cases h)), rfl⟩) jM ?_
      simp only [Act.put, jX, jY, jZ, JA, JB, JC]
      refine wT 11 (undef) rfl (Or.inr ⟨(by first | (go_simp; done) | (go_simp; simp; done) | (go_simp; intro h; cases h)), rfl⟩) jM ?_
      simp only [Act.put, jX, jY, jZ, JA, JB, JC]
      refine wT 12 (undef) rfl (Or.inr ⟨(by first | (go_simp; done) | (go_simp; simp; done) | (go_simp; intro h; cases h)), rfl⟩) jM ?_
      simp only [Act.put, jX, jY, jZ, JA, JB, JC]
      refine wT 13 (.bool false) rfl (Or.inl ⟨by go_simp, fun w' hSw => by go_simp⟩) jM ?_
      simp only [Act.put, jX, jY, jZ, JA, JB, JC]
      refine wT 14 (.bool false) rfl (Or.inl ⟨by rfl, fun w' hSw => by go_simp⟩) jM ?_
      simp only [Act.put, jX, jY, jZ, JA, JB, JC]
      refine wpAnyH_ready (rs := [17]) (by kernel_rfl) (by simp) ?_
      refine AllReadyH.cons rfl (fun K hK => ?_) AllReadyH.nil
      go_simp
      refine (ask_any w2.drew cb tb kb bb a false (p : Int) (H2.out.below ((Below.refl _ _).drew)).ck).mono ?_
      rintro e w4 ⟨rfl, hk4, hc4⟩
      have HP4 := hid ((H2.out.below ((Below.refl _ _).drew)).asks hc0' hk4 hc4)
      have HQ4 := hid (hk4.at (show w2.drew.heap[w.heap.size]? = _ from EX2.out) (by show w.heap.size ≠ cb; omega))
      have hS4 : ∀ (g : Nat) (o : Obj), w2.heap[g]? = some o → g ≠ cb → w4.heap[g]? = some o := fun g o h h1 => hk4.at (show w2.drew.heap[g]? = some o from h) h1
      clear hk4 hc4
      refine hK.out _ _ hS4 (fun jM => ?_)
      clear hK K
      refine wpAnyH_done (by kernel_rfl) ?_ _
      go_wp2_with fail
      go_meet
      exact ⟨hid (by rw [HOK.out, HRR.out, Bool.false_and, Bool.false_or]; exact HP4.out), HQ4⟩
    | true =>
      by_cases hq : c0 = (xs.length : Int)
      · have hq1 : (c0 == (xs.length : Int)) = true := by simp [hq]
        have HQ := hid hq; clear hq
        refine wp_region_held_drew (S := fun (u : World) => ∀ (g : Nat) (o : Obj), w2.heap[g]? = some o → g ≠ cb → u.heap[g]? = some o) (by kernel_rfl) (fun g o h _ => h) (fun jM => ?_)
        refine wT 0 (.pointer (some ⟨cb, 0, none⟩)) rfl (Or.inl ⟨by rfl, fun w' hSw => by go_simp⟩) jM ?_
        refine wT 1 (.map (some pb)) rfl (Or.inl ⟨by rfl, fun w' hSw => by go_simp⟩) jM ?_
        refine wT 2 (.pointer (some ⟨w.heap.size, 1, none⟩)) rfl (Or.inl ⟨by rfl, fun w' hSw => by go_simp⟩) jM ?_
        refine wT 3 (.string ⟨nm.toArray⟩) rfl (Or.inl ⟨by rfl, fun w' hSw => by have h := jA (hSw _ _ EX2.out (by omega)) 1 _ rfl; go_simp⟩) jM ?_
        refine wT 15 (.pointer (some ⟨w.heap.size, 0, none⟩)) rfl (Or.inl ⟨by rfl, fun w' hSw => by go_simp⟩) jM ?_
        refine wT 16 (.int .i64 p) rfl (Or.inl ⟨by rfl, fun w' hSw => by have h := jA (hSw _ _ EX2.out (by omega)) 0 _ rfl; go_simp⟩) jM ?_
        simp only [Act.put, jX, jY, jZ, JA, JB, JC]
        refine wpAnyH_ready (rs := [4]) (by kernel_rfl) (by simp) ?_
        refine AllReadyH.cons rfl (fun K hK => ?_) AllReadyH.nil
        go_simp
        refine (has_any w2.drew pb np (cnt vars) nm ((H2.out.below ((Below.refl _ _).drew)).par) hnm (fun s' => by have := cnt_small (l := vars) (by omega) s'; omega)).mono ?_
        rintro e w3 ⟨rfl, rfl⟩
        rw [cnt_pos, HRR.out]
        refine hK.out _ _ (fun g o h _ => h) (fun jM => ?_)
        clear hK K
        refine wT 5 (.bool false) rfl (Or.inl ⟨by rfl, fun w' hSw => by go_simp⟩) jM ?_
        simp only [Act.put, jX, jY, jZ, JA, JB, JC]
        refine wT 6 (.bool true) rfl (Or.inl ⟨by go_simp, fun w' hSw => by go_simp⟩) jM ?_
        simp only [Act.put, jX, jY, jZ, JA, JB, JC]
        refine wT 7 (.bool true) rfl (Or.inl ⟨by go_simp, fun w' hSw => by go_simp⟩) jM ?_
        simp only [Act.put, jX, jY, jZ, JA, JB, JC]
        refine wT 8 (.int .i64 c0) rfl (Or.inl ⟨by go_simp, fun w' hSw => by go_simp⟩) jM ?_
        simp only [Act.put, jX, jY, jZ, JA, JB, JC]
        refine wT 9 (.pointer (some ⟨w.heap.size, 2, none⟩)) rfl (Or.inl ⟨by go_simp, fun w' hSw => by go_simp⟩) jM ?_
        simp only [Act.put, jX, jY, jZ, JA, JB, JC]
        refine wT 10 (.slice q xs.length cp) rfl (Or.inl ⟨by go_simp, fun w' hSw => by have h := jA (hSw _ _ EX2.out (by omega)) 2 _ rfl; go_simp⟩) jM ?_
        simp only [Act.put, jX, jY, jZ, JA, JB, JC]
        refine wT 11 (.int .i64 (xs.length : Int)) rfl (Or.inl ⟨by go_simp, fun w' hSw => by go_simp⟩) jM ?_
        simp only [Act.put, jX, jY, jZ, JA, JB, JC]
        refine wT 12 (.bool true) rfl (Or.inl ⟨by go_simp, fun w' hSw => by go_simp⟩) jM ?_
        simp only [Act.put, jX, jY, jZ, JA, JB, JC]
        refine wT 13 (.bool true) rfl (Or.inl ⟨by go_simp, fun w' hSw => by go_simp⟩) jM ?_
        simp only [Act.put, jX, jY, jZ, JA, JB, JC]
        refine wT 14 (.bool true) rfl (Or.inl ⟨by rfl, fun w' hSw => by go_simp⟩) jM ?_
        simp only [Act.put, jX, jY, jZ, JA, JB, JC]
        refine wpAnyH_ready (rs := [17]) (by kernel_rfl) (by simp) ?_
        refine AllReadyH.cons rfl (fun K hK => ?_) AllReadyH.nil
        go_simp
        refine (ask_any w2.drew cb tb kb bb a true (p : Int) (H2.out.below ((Below.refl _ _).drew)).ck).mono ?_
        rintro e w4 ⟨rfl, hk4, hc4⟩
        have HP4 := hid ((H2.out.below ((Below.refl _ _).drew)).asks hc0' hk4 hc4)
        have HQ4 := hid (hk4.at (show w2.drew.heap[w.heap.size]? = _ from EX2.out) (by show w.heap.size ≠ cb; omega))
        have hS4 : ∀ (g : Nat) (o : Obj), w2.heap[g]? = some o → g ≠ cb → w4.heap[g]? = some o := fun g o h h1 => hk4.at (show w2.drew.heap[g]? = some o from h) h1
        clear hk4 hc4
        refine hK.out _ _ hS4 (fun jM => ?_)
        clear hK K
        refine wpAnyH_done (by kernel_rfl) ?_ _
        go_wp2_with fail
        go_meet
        exact ⟨hid (by rw [HOK.out, HRR.out, decide_eq_true HQ.out, Bool.true_and, Bool.false_or]; exact HP4.out), HQ4⟩
      · have hq1 : (c0 == (xs.length : Int)) = false := beq_eq_false_iff_ne.2 hq
        have HQ := hid hq; clear hq
        refine wp_region_held_drew (S := fun (u : World) => ∀ (g : Nat) (o : Obj), w2.heap[g]? = some o → g ≠ cb → u.heap[g]? = some o) (by kernel_rfl) (fun g o h _ => h) (fun jM => ?_)
        refine wT 0 (.pointer (some ⟨cb, 0, none⟩)) rfl (Or.inl ⟨by rfl, fun w' hSw => by go_simp⟩) jM ?_
        refine wT 1 (.map (some pb)) rfl (Or.inl ⟨by rfl, fun w' hSw => by go_simp⟩) jM ?_
        refine wT 2 (.pointer (some ⟨w.heap.size, 1, none⟩)) rfl (Or.inl ⟨by rfl, fun w' hSw => by go_simp⟩) jM ?_
        refine wT 3 (.string ⟨nm.toArray⟩) rfl (Or.inl ⟨by rfl, fun w' hSw => by have h := jA (hSw _ _ EX2.out (by omega)) 1 _ rfl; go_simp⟩) jM ?_
        refine wT 15 (.pointer (some ⟨w.heap.size, 0, none⟩)) rfl (Or.inl ⟨by rfl, fun w' hSw => by go_simp⟩) jM ?_
        refine wT 16 (.int .i64 p) rfl (Or.inl ⟨by rfl, fun w' hSw => by have h := jA (hSw _ _ EX2.out (by omega)) 0 _ rfl; go_simp⟩) jM ?_
        simp only [Act.put, jX, jY, jZ, JA, JB, JC]
        refine wpAnyH_ready (rs := [4]) (by kernel_rfl) (by simp) ?_
        refine AllReadyH.cons rfl (fun K hK => ?_) AllReadyH.nil
        go_simp
        refine (has_any w2.drew pb np (cnt vars) nm ((H2.out.below ((Below.refl _ _).drew)).par) hnm (fun s' => by have := cnt_small (l := vars) (by omega) s'; omega)).mono ?_
        rintro e w3 ⟨rfl, rfl⟩
        rw [cnt_pos, HRR.out]
        refine hK.out _ _ (fun g o h _ => h) (fun jM => ?_)
        clear hK K
        refine wT 5 (.bool false) rfl (Or.inl ⟨by rfl, fun w' hSw => by go_simp⟩) jM ?_
        simp only [Act.put, jX, jY, jZ, JA, JB, JC]
        refine wT 6 (.bool true) rfl (Or.inl ⟨by go_simp, fun w' hSw => by go_simp⟩) jM ?_
        simp only [Act.put, jX, jY, jZ, JA, JB, JC]
        refine wT 7 (.bool true) rfl (Or.inl ⟨by go_simp, fun w' hSw => by go_simp⟩) jM ?_
        simp only [Act.put, jX, jY, jZ, JA, JB, JC]
        refine wT 8 (.int .i64 c0) rfl (Or.inl ⟨by go_simp, fun w' hSw => by go_simp⟩) jM ?_
        simp only [Act.put, jX, jY, jZ, JA, JB, JC]
        refine wT 9 (.pointer (some ⟨w.heap.size, 2, none⟩)) rfl (Or.inl ⟨by go_simp, fun w' hSw => by go_simp⟩) jM ?_
        simp only [Act.put, jX, jY, jZ, JA, JB, JC]
        refine wT 10 (.slice q xs.length cp) rfl (Or.inl ⟨by go_simp, fun w' hSw => by have h := jA (hSw _ _ EX2.out (by omega)) 2 _ rfl; go_simp⟩) jM ?_
        simp only [Act.put, jX, jY, jZ, JA, JB, JC]
        refine wT 11 (.int .i64 (xs.length : Int)) rfl (Or.inl ⟨by go_simp, fun w' hSw => by go_simp⟩) jM ?_
        simp only [Act.put, jX, jY, jZ, JA, JB, JC]
        refine wT 12 (.bool false) rfl (Or.inl ⟨by go_simp, fun w' hSw => by go_simp⟩) jM ?_
        simp only [Act.put, jX, jY, jZ, JA, JB, JC]
        refine wT 13 (.bool false) rfl (Or.inl ⟨by go_simp, fun w' hSw => by go_simp⟩) jM ?_
        simp only [Act.put, jX, jY, jZ, JA, JB, JC]
        refine wT 14 (.bool false) rfl (Or.inl ⟨by rfl, fun w' hSw => by go_simp⟩) jM ?_
        simp only [Act.put, jX, jY, jZ, JA, JB, JC]
        refine wpAnyH_ready (rs := [17]) (by kernel_rfl) (by simp) ?_
        refine AllReadyH.cons rfl (fun K hK => ?_) AllReadyH.nil
        go_simp
        refine (ask_any w2.drew cb tb kb bb a false (p : Int) (H2.out.below ((Below.refl _ _).drew)).ck).mono ?_
        rintro e w4 ⟨rfl, hk4, hc4⟩
        have HP4 := hid ((H2.out.below ((Below.refl _ _).drew)).asks hc0' hk4 hc4)
        have HQ4 := hid (hk4.at (show w2.drew.heap[w.heap.size]? = _ from EX2.out) (by show w.heap.size ≠ cb; omega))
        have hS4 : ∀ (g : Nat) (o : Obj), w2.heap[g]? = some o → g ≠ cb → w4.heap[g]? = some o := fun g o h h1 => hk4.at (show w2.drew.heap[g]? = some o from h) h1
        clear hk4 hc4
        refine hK.out _ _ hS4 (fun jM => ?_)
        clear hK K
        refine wpAnyH_done (by kernel_rfl) ?_ _
        go_wp2_with fail
        go_meet
        exact ⟨hid (by rw [HOK.out, HRR.out, decide_eq_false HQ.out, Bool.true_and, Bool.false_or]; exact HP4.out), HQ4⟩
 case rest =>
 obtain ⟨HP, EXC⟩ := hcut
 clear H2 EX2 HOK
 have hss := jK EXC.out
 have e2 := jA EXC.out 2 _ rfl
 go_wp2_with fail
 clear e2 hss
 go_loopw [9, 41] (fun _ j wr => ∃ k : Nat, j = .int .i64 k ∧ k ≤ xs.length ∧ Hid (Fst W0 w cb tb kb bb pb nt np m vars ((xs.take k).foldl (fieldS m vars f) (asked a (fieldOk m vars nm xs.length) p)) wr)) (fun _ j _ => xs.length - (intOf j).toNat)
 case atStart => exact ⟨0, rfl, Nat.zero_le _, hid (by simpa using HP.out)⟩
 case round =>
  clear HP EXC
  obtain ⟨j, rfl, hj, HP⟩ := hrel
  by_cases hlt : j < xs.length
  · obtain ⟨y, hy⟩ : ∃ y, xs[j]? = some y := ⟨_, List.getElem?_eq_getElem hlt⟩
    rcases HR.out with ⟨h0, _⟩ | ⟨g, of, c', hv, g1, g2, g3⟩
    · rw [h0] at hlt; simp at hlt
    injection hv with hq1 _ hq2
    subst hq1; subst hq2
    obtain ⟨u, hu, _, hcell⟩ := g3 j y hy
    obtain ⟨a0, a1, uq, un, uc, rfl⟩ := typeAt_sh hu
    have z0 := jE HP.out.bel (hcell 0 _ rfl); have z1 := jE HP.out.bel (hcell 1 _ rfl); have z2 := jE HP.out.bel (hcell 2 _ rfl)
    simp only [Nat.add_zero] at z0
    have hj1 : (j : Int) < (xs.length : Int) := by omega
    have hj2 : (xs.length : Int) ≤ (cp : Int) := by omega
    have hj3 := g2
    have HST := hid (Sx.sum_mem (Sx.tyw f) (List.mem_of_getElem? hy))
    have HTK := hid (take_fold (fieldS m vars f) xs j y hy (asked a (fieldOk m vars nm xs.length) p))
    have HPA := hid (HP.out.below ((Below.refl _ wr).alloc (Nat.le_refl _) (.cells #[.int .i64 a0, .string a1, .slice uq un uc] 112)))
    have HU := hid hu
    have EA := jI wr #[.int .i64 a0, .string a1, .slice uq un uc] 112
    have y0 := jA EA 0 _ rfl; have y1 := jA EA 1 _ rfl; have y2 := jA EA 2 _ rfl
    clear g1 g2 g3 hcell hu hy EA
    go_wp2_with fail
    clear z0 z1 z2 y0 y1 y2
    refine (HI.out y _ _ _ HU.out (by have := HST.out; have := HW.out; omega) HPA.out.self).mono ?_
    rintro e w5 ⟨rfl, hp⟩
    have HP5 := hid (HPA.out.then hp)
    clear hp HPA
    go_wp2_with fail
    go_roundw
    case rel => exact ⟨j + 1, by go_num, by omega, hid (by rw [HTK.out]; exact HP5.out)⟩
    case measure => simp [intOf]; omega
  · obtain rfl : j = xs.length := by omega
    go_wp2_with fail
    refine bodyPost_end (v := .tuple #[]) (by simp [results, Try.results68, go_sem]) rfl ?_
    refine ⟨rfl, ?_⟩
    have hp := HP.out
    rw [List.take_length] at hp
    rw [fieldS]
    exact hp
theorem field_any (cb tb kb bb pb nt np : Nat) (m : Nm → Option Int) (vars : List Nm) (W0 : World) (hc0 : W0.heap.size ≤ cb) (hvl : vars.length ≤ 400000) : ∀ f, FieldC cb tb kb bb pb nt np m vars W0 f
 | 0 => fun x v a w hx => hx.elim
 | f + 1 => field_step cb tb kb bb pb nt np m vars W0 hc0 hvl f (field_any cb tb kb bb pb nt np m vars W0 hc0 hvl f)
end Go.Proofs.Ytgoacbomphlhjaa

namespace Go.Proofs.Ytgoacbomphlhjaa
open Go.Lib (hid)
open List renaming getElem_toArray → jX, getElem_cons_succ → jY, getElem_cons_zero → jZ, setIfInBounds_toArray → JA, set_cons_zero → JB, set_cons_succ → JC
open Go Go.RowKit
/-- What stands while definitions are gone through. -/
structure Dst (W0 : World) (cb tb kb bb nk : Nat) (m : Nm → Option C3) (a : Int) (vars : List Nm) (n : Nat) (w : World) : Prop where
 bel : Below W0.heap.size W0 w
 ck : CkAt w cb a tb kb bb
 map : MapC w kb nk m
 nam : NamesC w bb n (cnt vars)
abbrev CB2 (cb bb : Nat) : Nat → Prop := fun b => b = cb ∨ b = bb
theorem Dst.ne {W0 : World} {cb tb kb bb nk n : Nat} {m : Nm → Option C3} {a : Int} {vars : List Nm} {w : World} (h : Dst W0 cb tb kb bb nk m a vars n w) : cb ≠ bb := ck_ne h.ck h.nam
theorem Dst.below {W0 : World} {cb tb kb bb nk n : Nat} {m : Nm → Option C3} {a : Int} {vars : List Nm} {w w' : World} (h : Dst W0 cb tb kb bb nk m a vars n w) (hb : Below w.heap.size w w') : Dst W0 cb tb kb bb nk m a vars n w' :=
 ⟨h.bel.trans (hb.mono h.bel.size), jC h.ck hb, h.map.below hb, h.nam.below hb⟩
theorem Dst.asks {W0 : World} {cb tb kb bb nk n : Nat} {m : Nm → Option C3} {a a' : Int} {vars : List Nm} {w w' : World} (h : Dst W0 cb tb kb bb nk m a vars n w) (hc0 : W0.heap.size ≤ cb) (k : KB (Only cb) w w') (hc : CkAt w' cb a' tb kb bb) : Dst W0 cb tb kb bb nk m a' vars n w' :=
 ⟨k.below h.bel (Nat.le_refl _) (fun g hg e => by have : g = cb := e; omega), hc, h.map.kb k (ck_nem h.ck h.map), h.nam.kb k (fun e => h.ne (Eq.symm e))⟩
theorem Dst.names {W0 : World} {cb tb kb bb nk n n' : Nat} {m : Nm → Option C3} {a : Int} {vars vars' : List Nm} {w w' : World} (h : Dst W0 cb tb kb bb nk m a vars n w) (hkm : kb ≠ bb) (hb0 : W0.heap.size ≤ bb) (k : w.grownBy w' (some bb)) (hn : NamesC w' bb n' (cnt vars')) : Dst W0 cb tb kb bb nk m a vars' n' w' := by
 have hk : KB (fun b => b = bb) w w' := KB.of_map k (fun _ => rfl)
 exact ⟨hk.below h.bel (Nat.le_refl _) (fun g hg e => by have : g = bb := e; omega), hk.at h.ck h.ne, h.map.kb hk hkm, hn⟩
theorem Dst.more {W0 : World} {cb tb kb bb nk n n' : Nat} {m : Nm → Option C3} {a : Int} {vars : List Nm} {w : World} (h : Dst W0 cb tb kb bb nk m a vars n w) (hn : n ≤ n') : Dst W0 cb tb kb bb nk m a vars n' w := ⟨h.bel, h.ck, h.map, h.nam.mono hn⟩
def defS (m : Nm → Option C3) (vars : List Nm) (f : Nat) (a : Int) (d : Px.Def) : Int := walkS (ckE m) (ckP m) f (asked a (addsB (fun _ => 0) d.params) d.pos) (vars ++ d.params) d.body
theorem defAt_sh {f : Nat} {u : World} {v : Value} {d : Px.Def} (h : DefAt f u v d) : ∃ (q0 : Option Addr) (c0 : Nat) (k p : Int) (sn : ByteArray) (i : Int) (q1 : Option Addr) (n1 c1 : Nat) (q2 : Option Addr) (n2 c2 : Nat) (q3 : Option Addr) (n3 c3 : Nat),
 v = .agg #[.int .i64 d.pos, .string ⟨d.name.toArray⟩, .slice q0 d.params.length c0, .int .i64 k, .int .i64 p, .string sn, .int .i64 i, .slice q1 n1 c1, .slice q2 n2 c2, .slice q3 n3 c3] ∧ RowAt 1 (StrAt u) u (.slice q0 d.params.length c0) d.params ∧ ExprAt f u (.agg #[.int .i64 k, .int .i64 p, .string sn, .int .i64 i, .slice q1 n1 c1, .slice q2 n2 c2, .slice q3 n3 c3]) d.body := by
 obtain ⟨nv, b0, b1, b2, b3, b4, b5, b6, rfl, h1, h2⟩ := h
 obtain ⟨q0, c0, rfl⟩ := h1.len
 obtain ⟨k, p, sn, i, q1, n1, c1, q2, n2, c2, q3, n3, c3, he⟩ := exprAt_sh h2
 injection he with he
 simp only [Array.mk.injEq, List.cons.injEq, and_true] at he
 obtain ⟨rfl, rfl, rfl, rfl, rfl, rfl, rfl⟩ := he
 exact ⟨_, _, _, _, _, _, _, _, _, _, _, _, _, _, _, rfl, h1, h2⟩
set_option maxHeartbeats 4000000 in
set_option maxRecDepth 100000 in
theorem def_ck_any (cb tb kb bb nk n : Nat) (m : Nm → Option C3) (W0 : World) (hc0 : W0.heap.size ≤ cb) (hb0 : W0.heap.size ≤ bb) (hkm : kb ≠ bb) (f : Nat) (d : Px.Def) (v : Value) (a : Int) (vars : List Nm) (w : World)
 (hd : DefAt f W0 v d) (hw : vars.length + nw d.params + Sx.ew f d.body ≤ 400000) (hn : n + 2 * nw d.params + 2 * Sx.ew f d.body ≤ 100000000) (h : Dst W0 cb tb kb bb nk m a vars n w) :
 Calls Try.prog 48 #[.pointer (some ⟨cb, 0, none⟩), v] w fun e w' => e = .returned (.tuple #[]) ∧ KB (CB2 cb bb) w w' ∧ Dst W0 cb tb kb bb nk m (defS m vars f a d) vars (n + 2 * nw d.params + 2 * Sx.ew f d.body) w' := by
 obtain ⟨q0, c0, k, p, sn, i, q1, n1, c1, q2, n2, c2, q3, n3, c3, rfl, hr, hx⟩ := defAt_sh hd
 have HR := hid hr; have HX := hid hx
 have hlen : d.params.length ≤ nw d.params := nw_len _
 have hcm := h.ne
 have hcb := jK h.ck
 have hbb := h.nam.lt
 have H0 := hid h
 clear hd hr hx h
 go_enter Try.func48, Try.ntmps48
 have EX := hid (jI w #[.int .i64 d.pos, .string ⟨d.name.toArray⟩, .slice q0 d.params.length c0, .int .i64 k, .int .i64 p, .string sn, .int .i64 i, .slice q1 n1 c1, .slice q2 n2 c2, .slice q3 n3 c3] 58)
 have HB := hid (show Below w.heap.size w (w.alloc (.cells #[.int .i64 d.pos, .string ⟨d.name.toArray⟩, .slice q0 d.params.length c0, .int .i64 k, .int .i64 p, .string sn, .int .i64 i, .slice q1 n1 c1, .slice q2 n2 c2, .slice q3 n3 c3] 58)) from (Below.refl _ _).alloc (Nat.le_refl _) _)
 go_upto_region 1 with fail
 generalize w.alloc (.cells #[.int .i64 d.pos, .string ⟨d.name.toArray⟩, .slice q0 d.params.length c0, .int .i64 k, .int .i64 p, .string sn, .int .i64 i, .slice q1 n1 c1, .slice q2 n2 c2, .slice q3 n3 c3] 58) = w1 at EX HB ⊢
 have H1 := hid (H0.out.below HB.out)
 have hs1 := HB.out.size
 obtain ⟨rr, hrr⟩ : ∃ r, addsB (fun _ => 0) d.params = r := ⟨_, rfl⟩
 have HRR := hid hrr
 clear hrr
 refine wp_region_held_drew (S := fun (u : World) => ∀ (g : Nat) (o : Obj), w1.heap[g]? = some o → g ≠ cb → u.heap[g]? = some o) (by kernel_rfl) (fun g o h _ => h) (fun jM => ?_)
 refine wT 0 (.pointer (some ⟨cb, 0, none⟩)) rfl (Or.inl ⟨by rfl, fun w' hSw => by go_simp⟩) jM ?_
 refine wT 1 (.pointer (some ⟨w.heap.size, 2, none⟩)) rfl (Or.inl ⟨by rfl, fun w' hSw => by go_simp⟩) jM ?_
 refine wT 2 (.slice q0 d.params.length c0) rfl (Or.inl ⟨by rfl, fun w' hSw => by have h := jA (hSw _ _ EX.out (by omega)) 2 _ rfl; go_simp⟩) jM ?_
 refine wT 4 (.pointer (some ⟨w.heap.size, 0, none⟩)) rfl (Or.inl ⟨by rfl, fun w' hSw => by go_simp⟩) jM ?_
 refine wT 5 (.int .i64 d.pos) rfl (Or.inl ⟨by rfl, fun w' hSw => by have h := jA (hSw _ _ EX.out (by omega)) 0 _ rfl; go_simp⟩) jM ?_
 simp only [Act.put, jX, jY, jZ, JA, JB, JC]
 refine wpAnyH_ready (rs := [3]) (by kernel_rfl) (by simp) ?_
 refine AllReadyH.cons rfl (fun K hK => ?_) AllReadyH.nil
 go_simp
 refine (comeOnce_any w1.drew _ d.params (jQ HR.out (H1.out.bel.drew)) (by omega)).mono ?_
 rintro e w2 ⟨rfl, hb2⟩
 rw [HRR.out]
 have H2 := hid ((H1.out.below ((Below.refl _ _).drew)).below hb2)
 have hS2 : ∀ (g : Nat) (o : Obj), w1.heap[g]? = some o → g ≠ cb → w2.heap[g]? = some o := fun g o h _ => jC (show w1.drew.heap[g]? = some o from h) hb2
 have K2 := hid ((KB.of_below (S := Only cb) ((Below.refl _ w1).drew)).trans (KB.of_below hb2))
 clear hb2
 refine hK.out _ _ hS2 (fun jM => ?_)
 clear hK K
 refine wpAnyH_ready (rs := [6]) (by kernel_rfl) (by simp) ?_
 refine AllReadyH.cons rfl (fun K hK => ?_) AllReadyH.nil
 go_simp
 refine (ask_any w2 cb tb kb bb a rr d.pos H2.out.ck).mono ?_
 rintro e w3 ⟨rfl, hk3, hc3⟩
 have H3 := hid (H2.out.asks hc0 hk3 hc3)
 have hS3 : ∀ (g : Nat) (o : Obj), w1.heap[g]? = some o → g ≠ cb → w3.heap[g]? = some o := fun g o h h1 => hk3.at (hS2 g o h h1) h1
 have K3 := hid (K2.out.trans hk3)
 have EX3 := hid (hS3 _ _ EX.out (by omega))
 clear hk3 hc3 K2
 refine hK.out _ _ hS3 (fun jM => ?_)
 clear hS2 hS3
 clear hK K
 refine wpAnyH_done (by kernel_rfl) ?_ _
 clear EX H1 H2
 go_upto_region 2 with fail
 refine wp_region_held_drew (S := fun (u : World) => ∀ (g : Nat) (o : Obj), w3.heap[g]? = some o → g ≠ bb → u.heap[g]? = some o) (by kernel_rfl) (fun g o h _ => h) (fun jM => ?_)
 refine wT 0 (.pointer (some ⟨cb, 0, none⟩)) rfl (Or.inl ⟨by rfl, fun w' hSw => by go_simp⟩) jM ?_
 refine wT 1 (.pointer (some ⟨cb, 0, none⟩)) rfl (Or.inl ⟨by rfl, fun w' hSw => by go_simp⟩) jM ?_
 refine wT 2 (.pointer (some ⟨cb, 3, none⟩)) rfl (Or.inl ⟨by rfl, fun w' hSw => by go_simp⟩) jM ?_
 refine wT 3 (.map (some bb)) rfl (Or.inl ⟨by rfl, fun w' hSw => by have h := jA (hSw _ _ H3.out.ck hcm) 3 _ rfl; go_simp⟩) jM ?_
 refine wT 4 (.pointer (some ⟨w.heap.size, 2, none⟩)) rfl (Or.inl ⟨by rfl, fun w' hSw => by go_simp⟩) jM ?_
 refine wT 5 (.slice q0 d.params.length c0) rfl (Or.inl ⟨by rfl, fun w' hSw => by have h := jA (hSw _ _ EX3.out (by omega)) 2 _ rfl; go_simp⟩) jM ?_
 simp only [Act.put, jX, jY, jZ, JA, JB, JC]
 refine wpAnyH_ready (rs := [6]) (by kernel_rfl) (by simp) ?_
 refine AllReadyH.cons rfl (fun K hK => ?_) AllReadyH.nil
 go_simp
 refine (addAll_any w3.drew bb n (cnt vars) _ d.params ((H3.out.below ((Below.refl _ _).drew)).nam) (jQ HR.out (H3.out.bel.drew)) (by omega) (cnt_small (by omega)) (by omega)).mono ?_
 rintro e w5 ⟨rfl, hg5, hn5⟩
 have H5 := hid ((H3.out.below ((Below.refl _ _).drew)).names hkm hb0 hg5 (hn5.cong (cnt_add vars d.params)))
 have hS5 : ∀ (g : Nat) (o : Obj), w3.heap[g]? = some o → g ≠ bb → w5.heap[g]? = some o := fun g o h h1 => (hg5.block g (jK h) (fun e => h1 (Option.some.inj e))).trans h
 have K5 := hid (show KB (CB2 cb bb) w3 w5 from (KB.of_below ((Below.refl _ w3).drew)).trans (KB.of_map hg5 fun _ => .inr rfl))
 have EX5 := hid (hS5 _ _ EX3.out (by omega))
 clear hg5 hn5
 refine hK.out _ _ hS5 (fun jM => ?_)
 clear hS5
 clear hK K
 refine wpAnyH_done (by kernel_rfl) ?_ _
 clear H3 EX3
 go_upto_region 3 with fail
 refine wp_region_held_drew (S := fun (u : World) => (∀ (g : Nat) (o : Obj), w5.heap[g]? = some o → ¬ CB2 cb bb g → u.heap[g]? = some o) ∧ u.cell? ⟨cb, 3, none⟩ = some (.map (some bb))) (by kernel_rfl) (⟨fun g o h _ => h, jA ((H5.out.below ((Below.refl _ _).drew)).ck) 3 _ rfl⟩) (fun jM => ?_)
 refine wT 0 (.pointer (some ⟨cb, 0, none⟩)) rfl (Or.inl ⟨by rfl, fun w' hSw => by go_simp⟩) jM ?_
 refine wT 1 (.pointer (some ⟨cb, 0, none⟩)) rfl (Or.inl ⟨by rfl, fun w' hSw => by go_simp⟩) jM ?_
 refine wT 2 (.pointer (some ⟨cb, 3, none⟩)) rfl (Or.inl ⟨by rfl, fun w' hSw => by go_simp⟩) jM ?_
 refine wT 3 (.map (some bb)) rfl (Or.inl ⟨by rfl, fun w' hSw => by have h := hSw.2; go_simp⟩) jM ?_
 refine wT 4 (.pointer (some ⟨cb, 0, none⟩)) rfl (Or.inl ⟨by rfl, fun w' hSw => by go_simp⟩) jM ?_
 refine wT 5 (.func (.func 70) #[.pointer (some ⟨cb, 0, none⟩)] #[]) rfl (Or.inl ⟨by rfl, fun w' hSw => by go_simp⟩) jM ?_
 refine wT 6 (.pointer (some ⟨cb, 0, none⟩)) rfl (Or.inl ⟨by rfl, fun w' hSw => by go_simp⟩) jM ?_
 refine wT 7 (.func (.func 71) #[.pointer (some ⟨cb, 0, none⟩)] #[]) rfl (Or.inl ⟨by rfl, fun w' hSw => by go_simp⟩) jM ?_
 refine wT 8 (.agg #[.map (some bb), .func (.func 70) #[.pointer (some ⟨cb, 0, none⟩)] #[], .func (.func 71) #[.pointer (some ⟨cb, 0, none⟩)] #[]]) rfl (Or.inl ⟨by rfl, fun w' hSw => by go_simp⟩) jM ?_
 refine wT 9 (.pointer (some ⟨w.heap.size, 3, none⟩)) rfl (Or.inl ⟨by rfl, fun w' hSw => by go_simp⟩) jM ?_
 refine wT 10 (.agg #[.int .i64 k, .int .i64 p, .string sn, .int .i64 i, .slice q1 n1 c1, .slice q2 n2 c2, .slice q3 n3 c3]) rfl (Or.inl ⟨by rfl, fun w' hSw => by have x3 := jA (hSw.1 _ _ EX5.out (fun e => by rcases e with e | e <;> omega)) 3 _ rfl; have x4 := jA (hSw.1 _ _ EX5.out (fun e => by rcases e with e | e <;> omega)) 4 _ rfl; have x5 := jA (hSw.1 _ _ EX5.out (fun e => by rcases e with e | e <;> omega)) 5 _ rfl; have x6 := jA (hSw.1 _ _ EX5.out (fun e => by rcases e with e | e <;> omega)) 6 _ rfl; have x7 := jA (hSw.1 _ _ EX5.out (fun e => by rcases e with e | e <;> omega)) 7 _ rfl; have x8 := jA (hSw.1 _ _ EX5.out (fun e => by rcases e with e | e <;> omega)) 8 _ rfl; have x9 := jA (hSw.1 _ _ EX5.out (fun e => by rcases e with e | e <;> omega)) 9 _ rfl; go_simp⟩) jM ?_
 simp only [Act.put, jX, jY, jZ, JA, JB, JC]
 refine wpAnyH_ready (rs := [11]) (by kernel_rfl) (by simp) ?_
 refine AllReadyH.cons rfl (fun K hK => ?_) AllReadyH.nil
 go_simp
 have hws : Wst (CkInv cb tb kb bb nk m) (CkOwn cb) bb W0 (asked a rr d.pos) (vars ++ d.params) (n + d.params.length) (CkOwn cb (asked a rr d.pos) w5.drew) w5.drew w5.drew := ⟨H5.out.bel.drew, Nat.le_refl _, fun _ _ _ _ => rfl, fun _ h => .inl h, (H5.out.below ((Below.refl _ _).drew)).nam, (H5.out.below ((Below.refl _ _).drew)).ck, (H5.out.below ((Below.refl _ _).drew)).map⟩
 refine (walk_any (ck_told cb tb kb bb nk m W0 hc0 hb0 hcm hkm) f d.body _ _ (vars ++ d.params) (n + d.params.length) w5.drew HX.out (by rw [List.length_append]; omega) (by omega) hws).mono ?_
 rintro e w7 ⟨rfl, h7⟩
 have H7 := hid (show Dst W0 cb tb kb bb nk m (walkS (ckE m) (ckP m) f (asked a rr d.pos) (vars ++ d.params) d.body) (vars ++ d.params) (n + d.params.length + 2 * Sx.ew f d.body) w7 from ⟨h7.bel, h7.inv.1, h7.inv.2, h7.nam⟩)
 have hS7 : ∀ (g : Nat) (o : Obj), w5.heap[g]? = some o → ¬ CB2 cb bb g → w7.heap[g]? = some o := fun g o h h1 => (h7.stay g (jK h) (fun e => h1 (.inr e)) (fun e => h1 (.inl e))).trans h
 have hb5 := H5.out.bel
 have K7 := hid (show KB (CB2 cb bb) w5 w7 from ⟨h7.bel.os.trans hb5.os.symm, h7.bel.tape.trans hb5.tape.symm, h7.bel.output.trans hb5.output.symm, h7.size, fun g h h1 => h7.stay g h (fun e => h1 (.inr e)) (fun e => h1 (.inl e))⟩)
 have EX7 := hid (hS7 _ _ EX5.out (fun e => by rcases e with e | e <;> omega))
 clear h7 hws hb5
 refine hK.out _ _ ⟨hS7, jA H7.out.ck 3 _ rfl⟩ (fun jM => ?_)
 clear hS7
 clear hK K
 refine wpAnyH_done (by kernel_rfl) ?_ _
 clear H5 EX5
 go_upto_region 4 with fail
 refine wp_region_held_drew (S := fun (u : World) => ∀ (g : Nat) (o : Obj), w7.heap[g]? = some o → g ≠ bb → u.heap[g]? = some o) (by kernel_rfl) (fun g o h _ => h) (fun jM => ?_)
 refine wT 0 (.pointer (some ⟨cb, 0, none⟩)) rfl (Or.inl ⟨by rfl, fun w' hSw => by go_simp⟩) jM ?_
 refine wT 1 (.pointer (some ⟨cb, 0, none⟩)) rfl (Or.inl ⟨by rfl, fun w' hSw => by go_simp⟩) jM ?_
 refine wT 2 (.pointer (some ⟨cb, 3, none⟩)) rfl (Or.inl ⟨by rfl, fun w' hSw => by go_simp⟩) jM ?_
 refine wT 3 (.map (some bb)) rfl (Or.inl ⟨by rfl, fun w' hSw => by have h := jA (hSw _ _ H7.out.ck hcm) 3 _ rfl; go_simp⟩) jM ?_
 refine wT 4 (.pointer (some ⟨w.heap.size, 2, none⟩)) rfl (Or.inl ⟨by rfl, fun w' hSw => by go_simp⟩) jM ?_
 refine wT 5 (.slice q0 d.params.length c0) rfl (Or.inl ⟨by rfl, fun w' hSw => by have h := jA (hSw _ _ EX7.out (by omega)) 2 _ rfl; go_simp⟩) jM ?_
 simp only [Act.put, jX, jY, jZ, JA, JB, JC]
 refine wpAnyH_ready (rs := [6]) (by kernel_rfl) (by simp) ?_
 refine AllReadyH.cons rfl (fun K hK => ?_) AllReadyH.nil
 go_simp
 refine (dropAll_any w7.drew bb (n + d.params.length + 2 * Sx.ew f d.body) (cnt (vars ++ d.params)) _ d.params ((H7.out.below ((Below.refl _ _).drew)).nam) (jQ HR.out (H7.out.bel.drew)) (by omega) (cnt_small (by rw [List.length_append]; omega)) (by omega)).mono ?_
 rintro e w9 ⟨rfl, hg9, hn9⟩
 have H9 := hid ((H7.out.below ((Below.refl _ _).drew)).names hkm hb0 hg9 (hn9.cong (cnt_drop vars d.params)))
 have hS9 : ∀ (g : Nat) (o : Obj), w7.heap[g]? = some o → g ≠ bb → w9.heap[g]? = some o := fun g o h h1 => (hg9.block g (jK h) (fun e => h1 (Option.some.inj e))).trans h
 have K9 := hid (show KB (CB2 cb bb) w7 w9 from (KB.of_below ((Below.refl _ w7).drew)).trans (KB.of_map hg9 fun _ => .inr rfl))
 clear hg9 hn9
 refine hK.out _ _ hS9 (fun jM => ?_)
 clear hS9
 clear hK K
 refine wpAnyH_done (by kernel_rfl) ?_ _
 go_wp2_with fail
 refine bodyPost_end (v := .tuple #[]) (by simp [results, Try.results48, go_sem]) rfl ?_
 refine ⟨rfl, ?_, by rw [defS, HRR.out]; exact H9.out.more (by omega)⟩
 exact ((KB.of_below HB.out).trans (K3.out.weak fun _ _ e => .inl e)).trans ((K5.out.trans K7.out).trans K9.out)
end Go.Proofs.Ytgoacbomphlhjaa
