/-
  Several texts in one: UFits, ULives, USameW, UVarF.
-/
import Derived.Test.YtcblppojnailpaaDoorG13
import Derived.Test.YtcblppojnailpaaDoorG14
import Derived.Test.YtcblppojnailpaaDoorG12
namespace Go.Proofs.YtcblppojnailpaaDoor
open Go Go.RowKit
set_option linter.unusedVariables false
set_option linter.unusedSimpArgs false
/-- A row of rows of nodes. -/
def RowsR (w : World) (v : Value) (ll : List (List Ux.Nod)) : Prop := RowAt 1 (fun z l => RowAt 3 NodV w z l) w v ll
def fitB (ll : List (List Ux.Nod)) : Bool := (ll.all fun l => decide (l.length ≤ 9)) && decide (ll.length ≤ 12)
theorem fit_all {ll : List (List Ux.Nod)} (h : ∀ (i : Nat) (l : List Ux.Nod), ll[i]? = some l → l.length ≤ 9) : fitB ll = decide (ll.length ≤ 12) := by
 unfold fitB
 have : (ll.all fun l => decide (l.length ≤ 9)) = true := by
  rw [List.all_eq_true]
  intro l hl
  obtain ⟨i, hi⟩ := List.mem_iff_getElem?.1 hl
  simpa using h i l hi
 rw [this, Bool.true_and]
theorem fit_not {ll : List (List Ux.Nod)} {i : Nat} {l : List Ux.Nod} (h : ll[i]? = some l) (hl : 9 < l.length) : fitB ll = false := by
 unfold fitB
 have : (ll.all fun l => decide (l.length ≤ 9)) = false := by
  rw [List.all_eq_false]
  exact ⟨l, List.mem_of_getElem? h, by simpa using hl⟩
 rw [this, Bool.false_and]
theorem fits_any (ll : List (List Ux.Nod)) (v : Value) (w : World) (h : RowsR w v ll) :
 Calls Tryd.prog 10 #[v] w (fun e w' => e = .returned (.bool (fitB ll)) ∧ Below w.heap.size w w') := by
 obtain ⟨q, cp, rfl⟩ := (show RowAt 1 (fun z l => RowAt 3 NodV w z l) w v ll from h).len
 have HL := Lib.hid h
 clear h
 go_enter Tryd.func10, Tryd.ntmps10
 go_wp2_with fail
 go_loopw [2, 4, 7] (fun _ _ i wr => ∃ j : Nat, i = .int .i64 j ∧ j ≤ ll.length ∧ Hid (∀ (i : Nat) (l : List Ux.Nod), i < j → ll[i]? = some l → l.length ≤ 9) ∧ Hid (Below w.heap.size w wr)) (fun _ _ i _ => ll.length - (intOf i).toNat)
 case atStart => exact ⟨0, rfl, Nat.zero_le _, Lib.hid (fun i l hi => by omega), Lib.hid (Below.refl _ _)⟩
 case round =>
  obtain ⟨j, rfl, hj, HA, HB⟩ := hrel
  by_cases hlt : j < ll.length
  · obtain ⟨x, hx⟩ : ∃ x, ll[j]? = some x := ⟨_, List.getElem?_eq_getElem hlt⟩
    rcases (show RowAt 1 (fun z l => RowAt 3 NodV w z l) w (.slice q ll.length cp) ll from HL.out) with ⟨h0, _⟩ | ⟨g, of, c', hv, g1, g2, g3⟩
    · rw [h0] at hlt; simp at hlt
    injection hv with hq1 hqq hq2
    clear hqq
    subst hq1; subst hq2
    obtain ⟨z, hz, _, hcell⟩ := g3 j x hx
    obtain ⟨q2, c2, rfl⟩ := hz.len
    have x0 : wr.cell? ⟨g, of + j, none⟩ = some (.slice q2 x.length c2) := by
     have h1 := cell_up HB.out (hcell 0 (.slice q2 x.length c2) rfl)
     simpa using h1
    obtain ⟨xl, hxl⟩ : ∃ n, n = x.length := ⟨_, rfl⟩
    rw [← hxl] at x0
    have HXL := Lib.hid hxl
    have HX := Lib.hid hx
    have hk1 : (j : Int) < (ll.length : Int) := by omega
    have hk2 : (ll.length : Int) ≤ (cp : Int) := by omega
    clear g1 g3 hz hcell hxl hx
    by_cases hbig : 9 < xl
    · have d1 : decide ((9 : Int) < (xl : Int)) = true := by simp; omega
      go_wp2_with fail
      go_ret
      exact ⟨by rw [fit_not HX.out (by rw [← HXL.out]; exact hbig)]; rfl, HB.out⟩
    · have d1 : decide ((9 : Int) < (xl : Int)) = false := by simp; omega
      have HA2 : Hid (∀ (i : Nat) (l : List Ux.Nod), i < j + 1 → ll[i]? = some l → l.length ≤ 9) := Lib.hid (fun i l hi hl => by
       by_cases e : i < j
       · exact HA.out i l e hl
       · have : i = j := by omega
         subst this
         rw [HX.out] at hl
         injection hl with hl
         rw [← hl, ← HXL.out]; omega)
      go_wp2_with fail
      go_roundw
      case rel => exact ⟨j + 1, by go_num, by omega, HA2, HB⟩
      case measure => simp [intOf]; omega
  · obtain rfl : j = ll.length := by omega
    have hf := fit_all (ll := ll) fun i l hl => HA.out i l (List.getElem?_eq_some_iff.1 hl).1 hl
    by_cases h12 : ll.length ≤ 12
    · have d1 : decide ((ll.length : Int) ≤ 12) = true := by simp; omega
      rw [decide_eq_true h12] at hf
      go_wp2_with fail
      go_ret
      exact ⟨by rw [hf]; rfl, HB.out⟩
    · have d1 : decide ((ll.length : Int) ≤ 12) = false := by simp; omega
      rw [decide_eq_false h12] at hf
      go_wp2_with fail
      go_ret
      exact ⟨by rw [hf]; rfl, HB.out⟩
end Go.Proofs.YtcblppojnailpaaDoor
namespace Go.Proofs.YtcblppojnailpaaDoor
open Go Go.RowKit
set_option linter.unusedVariables false
set_option linter.unusedSimpArgs false
namespace Ux
def liInt : Ty := .a [73, 110, 116] []
def liA : Ty := .a [45, 62] [.v 0, liInt]
def liB : Ty := .a [45, 62] [.a [76, 105, 115, 116] [.v 1], .v 1]
def liL : Ty := .a [76, 105, 115, 116] [liInt]
def liS : Sub := fun n => if n = 0 then liL else liInt
theorem li_one : liA.app liS = liB.app liS := by simp [liA, liB, app_a, app_v, liS, liL, liInt]
theorem li_of {N : Sub} (h : liA.app N = liB.app N) : N 0 = liL ∧ liA.app N = .a [45, 62] [liL, liInt] := by
 unfold liA at h ⊢
 unfold liB at h
 simp only [app_a, app_v, List.map_cons, List.map_nil] at h ⊢
 injection h with _ h
 injection h with h1 h
 injection h with h2 _
 unfold liInt at h2
 simp only [app_a, List.map_nil] at h2
 rw [h1, ← h2]
 exact ⟨rfl, by simp [liL, liInt, app_a]⟩
theorem li_text : textT liL = [40, 76, 105, 115, 116, 32, 73, 110, 116, 41] := by
 unfold liL liInt
 rw [textT_cons, textR_cons, textR_nil, textT_nil]; rfl
theorem li_text2 : textT (.a [45, 62] [liL, liInt]) = [40, 45, 62, 32, 40, 76, 105, 115, 116, 32, 73, 110, 116, 41, 32, 73, 110, 116, 41] := by
 rw [textT_cons, textR_cons, textR_cons, textR_nil, li_text]
 unfold liInt
 rw [textT_nil]; rfl
theorem li_vs : (∀ n ∈ liA.vs, n < 1000000) ∧ ∀ n ∈ liB.vs, n < 1000000 := by
 unfold liA liB liInt
 simp [vs_a, vs_v]
theorem li_plain : Plain (.a [45, 62] [liL, liInt]) ∧ Plain liL := by
 have h1 : Plain liInt := plain_a ⟨by decide, by decide⟩ fun x hx => by cases hx
 have h2 : Plain liL := plain_a ⟨by decide, by decide⟩ fun x hx => by rw [List.mem_singleton.1 hx]; exact h1
 exact ⟨plain_a ⟨by decide, by decide⟩ fun x hx => by
  rcases List.mem_cons.1 hx with rfl | hx
  · exact h2
  · rw [List.mem_singleton.1 hx]; exact h1, h2⟩
end Ux
theorem li_okL : OkT Ux.liL := ⟨Ux.li_plain.2, (fun n h => by simp [Ux.liL, Ux.liInt, Ux.vs_a] at h), by simp [Ux.liL, Ux.liInt, Ux.sz_a]⟩
theorem li_okA : OkT (.a [45, 62] [Ux.liL, Ux.liInt]) := ⟨Ux.li_plain.1, (fun n h => by simp [Ux.liL, Ux.liInt, Ux.vs_a] at h), by simp [Ux.liL, Ux.liInt, Ux.sz_a]⟩
theorem li_sz : Ux.liA.sz + Ux.liB.sz ≤ 40000 := by
 have h : ∀ n, (Ux.Ty.v n).sz = 1 := fun n => by rw [Ux.Ty.sz]
 simp [Ux.liA, Ux.liB, Ux.liInt, Ux.sz_a, h]
theorem SubP.below {w w' : World} {b : Nat} {f : Ux.Map} (h : SubP w b f) (hb : Below w.heap.size w w') : SubP w' b f := by
 obtain ⟨L, h1, h2⟩ := h
 exact ⟨L, h1.keep (hb.block _ h1.lt) fun _ _ => trivial, fun n => ⟨(h2 n).1, fun t ht => by obtain ⟨v, a, c⟩ := (h2 n).2 t ht; exact ⟨v, a, tyP_below c hb⟩⟩⟩
theorem row_one {rep : Value → Ux.Ty → Prop} {w : World} {g : Nat} {T : TypeId} {a0 a1 a2 : Value} {x : Ux.Ty} (h : w.heap[g]? = some (.cells #[a0, a1, a2] T (0, 0))) (hx : rep (.agg #[a0, a1, a2]) x) : RowAt 3 rep w (.slice (some ⟨g, 0, none⟩) 1 1) [x] := by
 refine .inr ⟨g, 0, 1, rfl, Nat.le_refl _, by decide, fun i y hy => ?_⟩
 match i, hy with
 | 0, hy =>
   simp at hy; subst hy
   refine ⟨_, hx, rfl, fun j z hz => ?_⟩
   exact ent_cell h _ z (by simpa [Value.cells] using hz)
set_option maxHeartbeats 4000000 in
set_option maxRecDepth 100000 in
theorem lives_any (w : World) (htab : Lib.TabIs Tryd.prog w "internal/strconv.uint64pow10" .u64 Lib.pow10Tab) :
 Calls Tryd.prog 9 #[] w (fun e w' => e = .returned (.bool true) ∧ Below w.heap.size w w') := by
 have HTB := Lib.hid (fun (w' : World) (hb : Below w.heap.size w w') => (Lib.tabBelow_of_tabIs htab) w' hb)
 clear htab
 go_enter Tryd.func9, Tryd.ntmps9
 have hmm := @run_makeMap Tryd.prog
 go_upto_region 2 with fail
 clear hmm
 have HS := Lib.hid (sub_new (fun _ => False) w)
 have HB := Lib.hid (show Below w.heap.size w (w.alloc (.map #[] 0)) from (Below.refl _ _).alloc (Nat.le_refl _) _)
 have HSL := Lib.hid (show w.heap.size < (w.alloc (.map #[] 0)).heap.size by simp)
 generalize w.alloc (.map #[] 0) = w1 at HS HB HSL ⊢
 obtain ⟨sb, hsb⟩ : ∃ sb, sb = w.heap.size := ⟨_, rfl⟩
 rw [← hsb] at HS HSL ⊢
 have HSB := Lib.hid (show w.heap.size ≤ sb by omega)
 clear hsb
 go_wp2_with fail
 refine (var_any 0 w1).mono ?_
 rintro e w2 ⟨rfl, hb2⟩
 have HB2 := Lib.hid hb2; clear hb2
 go_wp2_with fail
 refine (of_any [73, 110, 116] (.slice none 0 0) [] w2.heap.size w2 (Nat.le_refl _) (.inl ⟨rfl, _, _, rfl⟩) (by simp)).mono ?_
 rintro e w3 ⟨r3, rfl, hb3, hh3⟩
 have HB3 := Lib.hid (HB2.out.trans (hb3.mono HB2.out.size))
 have HI3 := Lib.hid (show TyP w3 r3 Ux.liInt from hh3.now)
 clear hb3 hh3 HB2
 go_wp2_with fail
 refine (fn_any _ r3 (.v 0) Ux.liInt w3 (tyP_v.2 ⟨_, _, _, _, rfl⟩) HI3.out).mono ?_
 rintro e w4 ⟨r4, rfl, hb4, hh4⟩
 have HB4 := Lib.hid (HB3.out.trans (hb4.mono HB3.out.size))
 have HA4 := Lib.hid (show TyP w4 r4 Ux.liA from hh4.now)
 obtain ⟨a0, a1, aq, am, ac, rfl⟩ := tyP_sh hh4.now
 clear hb4 hh4 HB3 HI3
 go_upto_region 3 with fail
 have EA := Lib.hid (ent_new w4 #[.int .i64 a0, .string a1, .slice aq am ac] 30)
 have hb5 : Below w4.heap.size w4 (w4.alloc (.cells #[.int .i64 a0, .string a1, .slice aq am ac] 30)) := (Below.refl _ _).alloc (Nat.le_refl _) _
 have HA5 := Lib.hid (tyP_below HA4.out hb5)
 have HB5 := Lib.hid (HB4.out.trans (hb5.mono HB4.out.size))
 obtain ⟨ba, hba⟩ : ∃ ba, ba = w4.heap.size := ⟨_, rfl⟩
 rw [← hba] at EA ⊢
 generalize w4.alloc (.cells #[.int .i64 a0, .string a1, .slice aq am ac] 30) = w5 at EA HA5 HB5 ⊢
 clear hb5 HA4 HB4 hba
 go_wp2_with fail
 refine (var_any 1 w5).mono ?_
 rintro e w6 ⟨rfl, hb6⟩
 have EA6 := Lib.hid (ent_below EA.out hb6); have HA6 := Lib.hid (tyP_below HA5.out hb6); have HB6 := Lib.hid (HB5.out.trans (hb6.mono HB5.out.size))
 clear hb6 EA HA5 HB5
 go_wp2_with fail
 have E1 := ent_new w6 #[.int .i64 1, .string ⟨#[]⟩, .slice none 0 0] 30
 have hb7 : Below w6.heap.size w6 (w6.alloc (.cells #[.int .i64 1, .string ⟨#[]⟩, .slice none 0 0] 30)) := (Below.refl _ _).alloc (Nat.le_refl _) _
 have EA7 := Lib.hid (ent_below EA6.out hb7); have HA7 := Lib.hid (tyP_below HA6.out hb7); have HB7 := Lib.hid (HB6.out.trans (hb7.mono HB6.out.size))
 generalize w6.heap.size = b1 at E1 ⊢
 generalize w6.alloc (.cells #[.int .i64 1, .string ⟨#[]⟩, .slice none 0 0] 30) = w7 at E1 EA7 HA7 HB7 ⊢
 clear hb7 EA6 HA6 HB6
 refine (of_any [76, 105, 115, 116] (.slice (some ⟨b1, 0, none⟩) 1 1) [.v 1] w7.heap.size w7 (Nat.le_refl _) (row_one E1 fun u _ => tyP_v.2 ⟨_, _, _, _, rfl⟩) (by simp)).mono ?_
 clear E1
 rintro e w8 ⟨r8, rfl, hb8, hh8⟩
 have EA8 := Lib.hid (ent_below EA7.out hb8); have HA8 := Lib.hid (tyP_below HA7.out hb8); have HB8 := Lib.hid (HB7.out.trans (hb8.mono HB7.out.size))
 have HL8 := Lib.hid (show TyP w8 r8 (.a [76, 105, 115, 116] [.v 1]) from hh8.now)
 clear hb8 hh8 EA7 HA7 HB7
 go_wp2_with fail
 refine (var_any 1 w8).mono ?_
 rintro e w9 ⟨rfl, hb9⟩
 have EA9 := Lib.hid (ent_below EA8.out hb9); have HA9 := Lib.hid (tyP_below HA8.out hb9); have HB9 := Lib.hid (HB8.out.trans (hb9.mono HB8.out.size))
 have HL9 := Lib.hid (tyP_below HL8.out hb9)
 clear hb9 EA8 HA8 HB8 HL8
 go_wp2_with fail
 refine (fn_any r8 _ _ (.v 1) w9 HL9.out (tyP_v.2 ⟨_, _, _, _, rfl⟩)).mono ?_
 rintro e w10 ⟨r10, rfl, hb10, hh10⟩
 have EA10 := Lib.hid (ent_below EA9.out hb10); have HA10 := Lib.hid (tyP_below HA9.out hb10); have HB10 := Lib.hid (HB9.out.trans (hb10.mono HB9.out.size))
 have HC10 := Lib.hid (show TyP w10 r10 Ux.liB from hh10.now)
 obtain ⟨c0, c1, cq, cm, cc, rfl⟩ := tyP_sh hh10.now
 clear hb10 hh10 EA9 HA9 HB9 HL9
 go_upto_region 4 with fail
 have EC := Lib.hid (ent_new w10 #[.int .i64 c0, .string c1, .slice cq cm cc] 30)
 have hb11 : Below w10.heap.size w10 (w10.alloc (.cells #[.int .i64 c0, .string c1, .slice cq cm cc] 30)) := (Below.refl _ _).alloc (Nat.le_refl _) _
 have EA11 := Lib.hid (ent_below EA10.out hb11); have HA11 := Lib.hid (tyP_below HA10.out hb11); have HB11 := Lib.hid (HB10.out.trans (hb11.mono HB10.out.size))
 have HC11 := Lib.hid (tyP_below HC10.out hb11)
 generalize w10.heap.size = bc at EC ⊢
 generalize w10.alloc (.cells #[.int .i64 c0, .string c1, .slice cq cm cc] 30) = w11 at EC EA11 HA11 HB11 HC11 ⊢
 clear hb11 EA10 HA10 HB10 HC10
 have t0 := ent_cell EA11.out 0 _ rfl
 have t1 := ent_cell EA11.out 1 _ rfl
 have t2 := ent_cell EA11.out 2 _ rfl
 have c0' := ent_cell EC.out 0 _ rfl
 have c1' := ent_cell EC.out 1 _ rfl
 have c2' := ent_cell EC.out 2 _ rfl
 have HS11 := Lib.hid (HS.out.keep (HB11.out.block sb HSL.out) fun x hx => hx.elim)
 go_wp2_with fail
 refine (unify1_any sb Ux.liA Ux.liB _ _ w11 HS11.out HA11.out HC11.out li_sz).mono ?_
 rintro e w12 ⟨hc12, ⟨rfl, f', hmade, hsub, _⟩ | ⟨rfl, hnever, _⟩⟩
 · obtain ⟨N, hN⟩ := hmade.1.norm
   have h1 := Ux.li_of (Ux.made_one hmade hN)
   have HN0 := Lib.hid (show (Ux.Ty.v 0).app N = Ux.liL by rw [Ux.app_v]; exact h1.1)
   have HN1 := Lib.hid h1.2
   have HF := Lib.hid hmade.1
   have HNN := Lib.hid hN
   have HD := Lib.hid (made_dom hmade Ux.li_vs.1 Ux.li_vs.2)
   have HMP := Lib.hid (show ∃ es k, w11.heap[sb]? = some (.map es k) from HS11.out.p.map)
   have HA12 := Lib.hid (tyP_chg HMP.out hc12 HA11.out)
   have EA12 := Lib.hid (ent_chg EA11.out hc12 (fun e => by obtain ⟨es, k, h⟩ := HMP.out; rw [← e, EA11.out] at h; cases h))
   have HB12 := Lib.hid (show Below w.heap.size w w12 from (HB.out.trans (HB11.out.mono HB.out.size)).trans (hc12.below (by have := HB11.out.size; have := HB.out.size; omega) fun k hk => by rw [hk]; exact HSB.out))
   have HSU := Lib.hid hsub
   clear hc12 hmade hsub hN h1 t0 t1 t2 c0' c1' c2' HA11 HC11 EA11 EC HB11 HS11 HMP
   go_wp2_with fail
   refine (var_any 0 w12).mono ?_
   rintro e w13 ⟨rfl, hb13⟩
   have HB13 := Lib.hid (HB12.out.trans (hb13.mono HB12.out.size))
   have HA13 := Lib.hid (tyP_below HA12.out hb13); have EA13 := Lib.hid (ent_below EA12.out hb13)
   have HSU13 := Lib.hid (HSU.out.below hb13)
   clear hb13 HA12 EA12 HSU HB12
   go_wp2_with fail
   refine (apply_ok HF.out HNN.out (t := .v 0) HSU13.out (tyP_v.2 ⟨_, _, _, _, rfl⟩) HD.out (by rw [HN0.out]; exact li_okL)).mono ?_
   rintro e w14 ⟨r14, rfl, hb14, hh14⟩
   rw [HN0.out] at hh14
   have HT14 := Lib.hid hh14
   have HB14 := Lib.hid (HB13.out.trans (hb14.mono HB13.out.size))
   have HA14 := Lib.hid (tyP_below HA13.out hb14); have EA14 := Lib.hid (ent_below EA13.out hb14)
   have HSU14 := Lib.hid (HSU13.out.below hb14)
   clear hb14 hh14 HA13 EA13 HSU13 HB13
   go_wp2_with fail
   refine (text_ok li_okL r14 w14 HT14.out (HTB.out w14 HB14.out)).mono ?_
   rintro e w15 ⟨rfl, hb15⟩
   rw [Ux.li_text]
   have HB15 := Lib.hid (HB14.out.trans (hb15.mono HB14.out.size))
   have HA15 := Lib.hid (tyP_below HA14.out hb15); have EA15 := Lib.hid (ent_below EA14.out hb15)
   have HSU15 := Lib.hid (HSU14.out.below hb15)
   clear hb15 HA14 EA14 HSU14 HB14 HT14
   have t0 := ent_cell EA15.out 0 _ rfl
   have t1 := ent_cell EA15.out 1 _ rfl
   have t2 := ent_cell EA15.out 2 _ rfl
   go_wp2_with fail
   refine (apply_ok HF.out HNN.out (t := Ux.liA) HSU15.out HA15.out HD.out (by rw [HN1.out]; exact li_okA)).mono ?_
   rintro e w16 ⟨r16, rfl, hb16, hh16⟩
   rw [HN1.out] at hh16
   have HT16 := Lib.hid hh16
   have HB16 := Lib.hid (HB15.out.trans (hb16.mono HB15.out.size))
   clear hb16 hh16 t0 t1 t2 HA15 EA15 HSU15 HB15
   go_wp2_with fail
   refine (text_ok li_okA r16 w16 HT16.out (HTB.out w16 HB16.out)).mono ?_
   rintro e w17 ⟨rfl, hb17⟩
   rw [Ux.li_text2]
   have HB17 := Lib.hid (HB16.out.trans (hb17.mono HB16.out.size))
   clear hb17 HT16 HB16
   go_wp2_with fail
   go_ret
   exact ⟨rfl, HB17.out⟩
 · exact absurd Ux.li_one (hnever Ux.liS fun n t h => by cases h)
end Go.Proofs.YtcblppojnailpaaDoor
namespace Go.Proofs.YtcblppojnailpaaDoor
open Go Go.RowKit
set_option linter.unusedVariables false
set_option linter.unusedSimpArgs false
namespace Ux
def upW (n : Nat) : Ty := .v (n + 100)
theorem up_app {t : Ty} (h : ∀ n ∈ t.vs, n < 6) : putAll upW (varsT t) t = t.app upW := by
 rw [putAll_app _ _ (varsT_nodup t) (fun n hn m hm => by
  unfold upW at hm; rw [vs_v] at hm; simp at hm; subst hm
  intro h2
  have := h _ ((varsT_mem t _).1 h2); omega)]
 exact app_congr t fun n hn => by rw [if_pos ((varsT_mem t n).2 hn)]
theorem up_canon (t : Ty) : canon (t.app upW) = canon t := by
 refine variants (ρ := upW) (τ := fun n => .v (n - 100)) rfl ?_
 rw [app_app]
 refine Eq.trans (app_id t).symm (app_congr t fun n _ => ?_)
 unfold upW
 rw [app_v]; simp
theorem up_vs {t : Ty} (h : ∀ n ∈ t.vs, n < 6) : ∀ m ∈ (t.app upW).vs, 100 ≤ m ∧ m < 106 := by
 intro m hm
 obtain ⟨n, hn, hm⟩ := (vs_app _ m t).1 hm
 unfold upW at hm; rw [vs_v] at hm; simp at hm
 have := h n hn; omega
theorem up_plain {t : Ty} (h : Plain t) : Plain (t.app upW) := plain_app h fun n _ => plain_v _
theorem up_sz (t : Ty) : (t.app upW).sz = t.sz := sz_ren (fun n => n + 100) t
end Ux
/-- The map of the numbers of a list. -/
def FarAt (w : World) (b : Nat) (vl : List Nat) : Prop := ∃ Lm, MapK encInt (fun _ _ => True) w b Lm ∧ ∀ n : Nat, lookL (n : Int) Lm = if n ∈ vl then some (.bool true) else none
theorem FarAt.lt {w : World} {b : Nat} {vl : List Nat} (h : FarAt w b vl) : b < w.heap.size := by obtain ⟨Lm, h1, _⟩ := h; exact h1.lt
theorem FarAt.keep {w w' : World} {b : Nat} {vl : List Nat} (h : FarAt w b vl) (hb : w'.heap[b]? = w.heap[b]?) : FarAt w' b vl := by obtain ⟨Lm, h1, h2⟩ := h; exact ⟨Lm, h1.keep hb fun _ _ => trivial, h2⟩
theorem FarAt.below {w w' : World} {b : Nat} {vl : List Nat} (h : FarAt w b vl) (hb : Below w.heap.size w w') : FarAt w' b vl := h.keep (hb.block b h.lt)
theorem FarAt.look {w : World} {b : Nat} {vl : List Nat} (h : FarAt w b vl) (n : Nat) : (Instr.lookup 46 (.map (some b)) (.int .i64 (n : Int)) false).run Tryd.prog w = .ok (.bool (decide (n ∈ vl))) w := by
 obtain ⟨Lm, h1, h2⟩ := h
 have h3 := (h1.look lawI Tryd.underlying46 (z := .bool false) (by kernel_rfl) (n : Int) trivial).1
 rw [h2 n] at h3
 by_cases hn : n ∈ vl
 · rw [if_pos hn] at h3; rw [decide_eq_true hn]; exact h3
 · rw [if_neg hn] at h3; rw [decide_eq_false hn]; exact h3
theorem k_small (kk : Int) : ∃ K : Nat, wrap64 ((IntKind.u64.wrap kk).tmod 6) = (K : Int) ∧ K < 6 := by
 rw [IntKind.wrap_u64]
 have h0 : 0 ≤ kk % 18446744073709551616 := Int.emod_nonneg _ (by decide)
 rw [Int.tmod_eq_emod_of_nonneg h0]
 have h1 : 0 ≤ kk % 18446744073709551616 % 6 := Int.emod_nonneg _ (by decide)
 have h2 : kk % 18446744073709551616 % 6 < 6 := Int.emod_lt_of_pos _ (by decide)
 refine ⟨(kk % 18446744073709551616 % 6).toNat, ?_, by omega⟩
 rw [Int.toNat_of_nonneg h1]
 unfold wrap64
 omega
theorem never_swap {a b : Ux.Ty} (h : Ux.Never (fun _ => none) a b) : Ux.Never (fun _ => none) b a := fun σ hσ e => h σ hσ e.symm
theorem typ13 (l : List Ux.Nod) (v : Value) (w : World) (hl : RowAt 3 NodV w v l) (h : l.length ≤ 1000000) :
 Calls Tryd.prog 11 #[v, .int .i64 0] w fun e w' => ∃ tv, e = .returned (.tuple #[tv, .int .i64 ((Ux.typN 13 l).2 : Int)]) ∧ New TyP w w' tv (Ux.typN 13 l).1 ∧ Below w.heap.size w w' := lawTyp_any 13 l v w (by omega) hl h
set_option maxHeartbeats 4000000 in
set_option maxRecDepth 100000 in
theorem unifySame_walk (v : Value) (l : List Ux.Nod) (kk : Int) (w : World) (hl : RowAt 3 NodV w v l) (hk : -9223372036854775808 ≤ kk ∧ kk ≤ 9223372036854775807) (htab : Lib.TabIs Tryd.prog w "internal/strconv.uint64pow10" .u64 Lib.pow10Tab) :
 Calls Tryd.prog 5 #[v, .int .i64 kk] w (fun e w' => e = .returned (.bool true) ∧ Below w.heap.size w w') := by
 have HTB := Lib.hid (fun (w' : World) (hb : Below w.heap.size w w') => (Lib.tabBelow_of_tabIs htab) w' hb)
 have HLV := Lib.hid (fun (w' : World) (hb : Below w.heap.size w w') => lives_any w' ((Lib.tabBelow_of_tabIs htab) w' hb))
 have HKK := Lib.hid hk
 clear htab hk
 obtain ⟨lq, lc, rfl⟩ := hl.len
 obtain ⟨n0, hn0⟩ : ∃ n0, n0 = l.length := ⟨_, rfl⟩
 rw [← hn0] at hl ⊢
 have HN0 := Lib.hid hn0
 have HL := Lib.hid hl
 clear hl hn0
 go_enter Tryd.func5, Tryd.ntmps5
 go_wp2_with fail
 refine (HLV.out w (Below.refl _ _)).mono ?_
 rintro e w1 ⟨rfl, hb1⟩
 have HB1 := Lib.hid hb1
 clear hb1
 by_cases hbig : 30 < n0
 · have d1 : decide ((30 : Int) < (n0 : Int)) = true := by simp; omega
   go_wp2_with fail
   refine (HLV.out w1 HB1.out).mono ?_
   rintro e w2 ⟨rfl, hb2⟩
   have HB2 := Lib.hid (HB1.out.trans (hb2.mono HB1.out.size))
   clear hb2
   go_wp2_with fail
   go_ret
   exact ⟨rfl, HB2.out⟩
 have d1 : decide ((30 : Int) < (n0 : Int)) = false := by simp; omega
 go_wp2_with fail
 clear d1
 refine (typ13 l _ w1 (HL.out.mono HB1.out fun u x _ h => h) (by have := HN0.out; omega)).mono ?_
 rintro e w2 ⟨tv, rfl, hnew, hb2⟩
 have HB2 := Lib.hid (HB1.out.trans (hb2.mono HB1.out.size))
 have HTY := Lib.hid (Ux.typN_vs 13 l)
 have HOKT := Lib.hid (typN_ok 13 (l := l) (by have := HN0.out; omega))
 have HSZT := Lib.hid (show (Ux.typN 13 l).1.sz ≤ 61 by have h1 := Ux.typN_sz 13 l; have h2 := Ux.typN_le 13 l; have := HN0.out; omega)
 obtain ⟨t, ht⟩ : ∃ t, t = (Ux.typN 13 l).1 := ⟨_, rfl⟩
 rw [← ht] at hnew HTY HOKT HSZT
 obtain ⟨i5, s5, q5, m5, c5, rfl⟩ := tyP_sh hnew.now
 have HT2 := Lib.hid (show Hang TyP 0 w1.heap.size w2.heap.size w2 (.agg #[.int .i64 i5, .string s5, .slice q5 m5 c5]) t from fun u hu => hnew u fun b h1 h2 => hu b (.inr ⟨h1, h2⟩))
 have HS12 := Lib.hid hb2.size
 clear ht hnew hb2 hbig
 have hmm := @run_makeMap Tryd.prog
 go_upto_region 6 with fail
 clear hmm
 obtain ⟨P, hP⟩ : ∃ P, P = w2.heap.size := ⟨_, rfl⟩
 have E5 := Lib.hid (ent_alloc (ent_alloc (ent_new w2 #[.int .i64 i5, .string s5, .slice q5 m5 c5] 30) (.map #[] 0)) (.cells #[.int .i64 i5, .string s5, .slice q5 m5 c5] 30))
 have MK := Lib.hid ((MapK.made (enc := encInt) (V := fun _ _ => True) (w2.alloc (.cells #[.int .i64 i5, .string s5, .slice q5 m5 c5] 30))).keep (Below.heap_alloc ((w2.alloc (.cells #[.int .i64 i5, .string s5, .slice q5 m5 c5] 30)).alloc (.map #[] 0)) (.cells #[.int .i64 i5, .string s5, .slice q5 m5 c5] 30) (w2.alloc (.cells #[.int .i64 i5, .string s5, .slice q5 m5 c5] 30)).heap.size (by simp)) fun _ _ => trivial)
 have E8 := Lib.hid (ent_new ((w2.alloc (.cells #[.int .i64 i5, .string s5, .slice q5 m5 c5] 30)).alloc (.map #[] 0)) #[.int .i64 i5, .string s5, .slice q5 m5 c5] 30)
 have hz1 : (w2.alloc (.cells #[.int .i64 i5, .string s5, .slice q5 m5 c5] 30)).heap.size = w2.heap.size + 1 := by simp
 have hz2 : ((w2.alloc (.cells #[.int .i64 i5, .string s5, .slice q5 m5 c5] 30)).alloc (.map #[] 0)).heap.size = w2.heap.size + 1 + 1 := by simp
 have hz3 : (((w2.alloc (.cells #[.int .i64 i5, .string s5, .slice q5 m5 c5] 30)).alloc (.map #[] 0)).alloc (.cells #[.int .i64 i5, .string s5, .slice q5 m5 c5] 30)).heap.size = w2.heap.size + 3 := by simp
 have HW3 := Lib.hid (show Below w2.heap.size w2 (((w2.alloc (.cells #[.int .i64 i5, .string s5, .slice q5 m5 c5] 30)).alloc (.map #[] 0)).alloc (.cells #[.int .i64 i5, .string s5, .slice q5 m5 c5] 30)) from (((Below.refl _ _).alloc (Nat.le_refl _) _).alloc (by simp) _).alloc (by simp; omega) _)
 rw [hz1] at MK
 rw [hz2] at E8
 generalize (((w2.alloc (.cells #[.int .i64 i5, .string s5, .slice q5 m5 c5] 30)).alloc (.map #[] 0)).alloc (.cells #[.int .i64 i5, .string s5, .slice q5 m5 c5] 30)) = w3 at E5 MK E8 hz3 HW3 ⊢
 have HT3 := Lib.hid ((HT2.out.same (w' := w3) fun b hb => HW3.out.block b (by omega)).wide (Nat.zero_le P) (Nat.le_refl _) (Nat.le_refl _))
 have HBL := Lib.hid (show ∀ b, b < P → w3.heap[b]? = w2.heap[b]? from fun b hb => HW3.out.block b (by omega))
 have HB3 := Lib.hid (HB2.out.trans (HW3.out.mono HB2.out.size))
 have HP := Lib.hid (show w.heap.size ≤ P from by rw [hP]; exact HB2.out.size)
 have HU3 := Lib.hid (show Hang TyP P (P + 3) (P + 3) w3 (.agg #[.int .i64 i5, .string s5, .slice q5 m5 c5]) t from fun u hu => HT2.out u fun b hb => (hu b (.inl (by omega))).trans (HW3.out.block b (by omega)))
 rw [← hP] at E5 MK E8 hz3 HT2 ⊢
 have HZ3 := Lib.hid hz3
 clear hz1 hz2 hz3 HW3 HT3 hP HB2 HS12
 have t0 := ent_cell E5.out 0 _ rfl
 have t1 := ent_cell E5.out 1 _ rfl
 have t2 := ent_cell E5.out 2 _ rfl
 go_wp2_with fail
 refine (refVars_any t _ (.slice none 0 0) [] P (P + 3) w3 (by rw [HZ3.out]; omega) (by rw [HZ3.out]; exact Nat.le_refl _) HU3.out.now (fun u _ => .inl ⟨rfl, _, _, rfl⟩) (by have := HSZT.out; simp; omega)).mono ?_
 rintro e w4 ⟨rv, rfl, hb4, hh4⟩
 have hvt : Ux.firsts [] t.vs = Ux.varsT t := rfl
 rw [hvt] at hh4
 obtain ⟨vl, hvl⟩ : ∃ vl, vl = Ux.varsT t := ⟨_, rfl⟩
 rw [← hvl] at hh4
 have HVL := Lib.hid hvl
 have hvln : vl.length ≤ 61 := by
  have h1 := firsts_len t.vs []
  have h2 := vs_len t
  have h3 := HSZT.out
  rw [hvl]; unfold Ux.varsT; simp at h1; omega
 obtain ⟨lp, lc2, rfl⟩ := hh4.now.len
 obtain ⟨n1, hn1⟩ : ∃ n1, n1 = vl.length := ⟨_, rfl⟩
 rw [← hn1] at hh4 hvln ⊢
 have HN1 := Lib.hid hn1
 obtain ⟨N2, hN2⟩ : ∃ N2, N2 = w4.heap.size := ⟨_, rfl⟩
 rw [← hN2] at hh4
 have HNL := Lib.hid hh4
 have HZ4 := Lib.hid (show P + 3 ≤ w4.heap.size ∧ N2 ≤ w4.heap.size from ⟨by rw [← HZ3.out]; exact hb4.size, by omega⟩)
 have E54 := Lib.hid (ent_below E5.out hb4); have E84 := Lib.hid (ent_below E8.out hb4)
 have MK4 : Hid (∃ Lm, MapK encInt (fun _ _ => True) w4 (P + 1) Lm ∧ ∀ n : Nat, lookL (n : Int) Lm = if n ∈ vl.take 0 then some (.bool true) else none) := Lib.hid ⟨[], MK.out.keep (hb4.block _ (by rw [HZ3.out]; omega)) (fun _ _ => trivial), fun n => by simp [lookL_nil]⟩
 have HBL4 := Lib.hid (show ∀ b, b < P → w4.heap[b]? = w2.heap[b]? from fun b hb => (hb4.block b (by rw [HZ3.out]; omega)).trans (HBL.out b hb))
 have HB4 := Lib.hid (HB3.out.trans (hb4.mono HB3.out.size))
 have HU4 := Lib.hid (HU3.out.same (w' := w4) fun b hb => hb4.block b (by rw [HZ3.out]; omega))
 have HLO4 := Lib.hid (show P + 3 ≤ P + 3 ∧ P + 3 ≤ w4.heap.size from ⟨Nat.le_refl _, HZ4.out.1⟩)
 clear hb4 hh4 hvl hn1 hN2 hvt E5 E8 MK HBL HB3 HU3 HZ3 t0 t1 t2
 go_wp2_with fail
 go_loopw [31] (fun i wr => ∃ (j : Nat) (i8 : Int) (s8 : ByteArray) (q8 : Option Addr) (m8 c8 lo hi : Nat), i = .int .i64 j ∧ j ≤ n1 ∧ Hid (wr.heap[P]? = some (.cells #[.int .i64 i5, .string s5, .slice q5 m5 c5] 30 (0, 0))) ∧ Hid (wr.heap[P + 1 + 1]? = some (.cells #[.int .i64 i8, .string s8, .slice q8 m8 c8] 30 (0, 0))) ∧
  Hid (∃ Lm, MapK encInt (fun _ _ => True) wr (P + 1) Lm ∧ ∀ n : Nat, lookL (n : Int) Lm = if n ∈ vl.take j then some (.bool true) else none) ∧ Hid (∀ b, b < P → wr.heap[b]? = w2.heap[b]?) ∧ Hid (Hang TyP P lo hi wr (.agg #[.int .i64 i8, .string s8, .slice q8 m8 c8]) (Ux.putAll Ux.upW (vl.take j) t)) ∧ Hid (P + 3 ≤ lo ∧ hi ≤ wr.heap.size) ∧ Hid (P + 3 ≤ wr.heap.size ∧ N2 ≤ wr.heap.size) ∧ Hid (Hang NumsR P (P + 3) N2 wr (.slice lp n1 lc2) vl) ∧ Hid (Below w.heap.size w wr)) (fun i _ => n1 - (intOf i).toNat)
 case atStart => exact ⟨0, i5, s5, q5, m5, c5, _, _, rfl, Nat.zero_le _, E54, E84, MK4, HBL4, HU4, HLO4, HZ4, HNL, HB4⟩
 case round =>
  clear E54 E84 MK4 HBL4 HU4 HLO4 HZ4 HNL HB4
  obtain ⟨j, i8, s8, q8, m8, c8, lo, hi, rfl, hj, E5, E8, MK, HBL, HU, HLO, HZ, HNL, HB⟩ := hrel
  by_cases hlt : j < n1
  · obtain ⟨x, hx⟩ : ∃ x, vl[j]? = some x := ⟨_, List.getElem?_eq_getElem (by have := HN1.out; omega)⟩
    obtain ⟨g, of, lc', hlv, hlc, hlc2⟩ := nums_some HNL.out.now (by intro e; rw [e] at hx; cases hx)
    injection hlv with e1 ex e2
    clear ex
    subst e1; subst e2
    rw [← HN1.out] at hlc
    have x0 := nums_cell HNL.out.now hx
    have hx6 : x < 6 := HTY.out x ((Ux.varsT_mem t x).1 (by rw [← HVL.out]; exact List.mem_of_getElem? hx))
    have HTK : Hid (vl.take (j + 1) = vl.take j ++ [x]) := Lib.hid (by rw [List.take_add_one, hx]; rfl)
    have HSZ : Hid ((Ux.putAll Ux.upW (vl.take j) t).sz ≤ 50000000000) := Lib.hid (by
     have h := Ux.putAll_sz (w := Ux.upW) (c := 1) (Nat.le_refl _) (fun n => by unfold Ux.upW; rw [Ux.Ty.sz]; exact Nat.le_refl _) (l := vl.take j) (t := t) (Ux.take_nodup (by rw [HVL.out]; exact Ux.varsT_nodup t) j) (fun n hn m hm h2 => by
      unfold Ux.upW at hm; rw [Ux.vs_v] at hm; simp at hm; subst hm
      have := HTY.out _ ((Ux.varsT_mem t _).1 (by rw [← HVL.out]; exact List.mem_of_mem_take h2)); omega)
     have := HSZT.out; omega)
    have hj1 : (j : Int) < (n1 : Int) := by omega
    have hj2 : (n1 : Int) ≤ (lc2 : Int) := by omega
    have hj3 : (j : Int) ≤ 61 := by omega
    have hx1 : (x : Int) < 6 := by omega
    have hx2 : (0 : Int) ≤ (x : Int) := by omega
    have HX6 := Lib.hid hx6
    clear hx hx6
    have u0 := ent_cell E8.out 0 _ rfl
    have u1 := ent_cell E8.out 1 _ rfl
    have u2 := ent_cell E8.out 2 _ rfl
    go_wp2_with fail
    refine (put_any _ _ _ (.v (x + 100)) x P wr (by have := HZ.out; omega) HU.out.now (fun u _ => tyP_v.2 ⟨_, _, _, _, by rw [show ((x + 100 : Nat) : Int) = (x : Int) + 100 by omega]⟩) HSZ.out).mono ?_
    rintro e w5 ⟨rv, rfl, hb5, hh5⟩
    obtain ⟨d0, d1, rq, rn, rc, rfl⟩ := tyP_sh hh5.now
    have E85 := Lib.hid (ent_below E8.out hb5)
    have E55 := Lib.hid (ent_below E5.out hb5)
    have HB5 := Lib.hid (HB.out.trans (hb5.mono HB.out.size))
    have HD5 := Lib.hid hb5
    have HH5 := Lib.hid hh5
    clear hb5 hh5 u0 u1 u2 x0
    have u0 := ent_cell E85.out 0 _ rfl
    have u1 := ent_cell E85.out 1 _ rfl
    have u2 := ent_cell E85.out 2 _ rfl
    have uf := ent_free E85.out
    go_upto_region 10 with fail
    clear u0 u1 u2 uf
    have HK6 : Hid (∀ b, b ≠ P + 1 + 1 → (((w5.setCell ⟨P + 1 + 1, 0, none⟩ (.int .i64 d0)).setCell ⟨P + 1 + 1, 1, none⟩ (.string d1)).setCell ⟨P + 1 + 1, 2, none⟩ (.slice rq rn rc)).heap[b]? = w5.heap[b]?) := Lib.hid (fun b hb => ((Below.heap_setCell _ ⟨P + 1 + 1, 2, none⟩ _ b hb).trans (Below.heap_setCell _ ⟨P + 1 + 1, 1, none⟩ _ b hb)).trans (Below.heap_setCell _ ⟨P + 1 + 1, 0, none⟩ _ b hb))
    have HZ6 : Hid ((((w5.setCell ⟨P + 1 + 1, 0, none⟩ (.int .i64 d0)).setCell ⟨P + 1 + 1, 1, none⟩ (.string d1)).setCell ⟨P + 1 + 1, 2, none⟩ (.slice rq rn rc)).heap.size = w5.heap.size) := Lib.hid (by simp)
    have E86 := Lib.hid (ent_set3 E85.out (.int .i64 d0) (.string d1) (.slice rq rn rc))
    have HB6 := Lib.hid (below_set3 HB5.out (P + 1 + 1) (by have := HP.out; omega) (.int .i64 d0) (.string d1) (.slice rq rn rc))
    generalize (((w5.setCell ⟨P + 1 + 1, 0, none⟩ (.int .i64 d0)).setCell ⟨P + 1 + 1, 1, none⟩ (.string d1)).setCell ⟨P + 1 + 1, 2, none⟩ (.slice rq rn rc)) = w6 at HK6 HZ6 E86 HB6 ⊢
    obtain ⟨Lm, hmk, hlk⟩ := MK.out
    have hmk6 := hmk.keep ((HK6.out (P + 1) (by omega)).trans (HD5.out.block (P + 1) (by have := HZ.out; omega))) fun _ _ => trivial
    obtain ⟨w7, hup, hmk7, hgr7⟩ := hmk6.update lawI Tryd.underlying46 (x : Int) trivial (.bool true) (fun _ _ _ _ _ => trivial)
    replace hup : (Instr.mapUpdate 46 (.map (some (P + 1))) (.int .i64 (x : Int)) (.bool true)).run Tryd.prog w6 = .ok () w7 := hup
    have hc7 : Chg (· = P + 1) w6 w7 := Chg.grown hgr7 fun k hk => (Option.some.inj hk).symm
    have hs57 : wr.heap.size ≤ w7.heap.size := by have := HD5.out.size; have := HZ6.out; have := hc7.size; omega
    have MK7 : Hid (∃ Lm, MapK encInt (fun _ _ => True) w7 (P + 1) Lm ∧ ∀ n : Nat, lookL (n : Int) Lm = if n ∈ vl.take (j + 1) then some (.bool true) else none) := Lib.hid ⟨_, hmk7, fun n => by
     rw [lookL_set, HTK.out]
     by_cases e : n = x
     · rw [if_pos (by omega), if_pos (by simp [e])]
     · rw [if_neg (by omega), hlk n]
       by_cases h : n ∈ vl.take j
       · rw [if_pos h, if_pos (List.mem_append.2 (.inl h))]
       · rw [if_neg h, if_neg (fun h2 => (List.mem_append.1 h2).elim h fun h3 => e (List.mem_singleton.1 h3))]⟩
    have hk67 : ∀ b, b ≠ P + 1 + 1 → b ≠ P + 1 → b < w5.heap.size → w7.heap[b]? = w5.heap[b]? := fun b h1 h2 h3 => (hc7.block b (by rw [HZ6.out]; exact h3) h2).trans (HK6.out b h1)
    have HK7 := Lib.hid hk67
    have E57 := Lib.hid ((hk67 P (by omega) (by omega) (ent_lt E55.out)).trans E55.out)
    have E87 := Lib.hid (ent_chg E86.out hc7 (by omega))
    have HB7 := Lib.hid (HB6.out.trans (hc7.below HB6.out.size fun k hk => by have := HP.out; omega))
    have HL7 := Lib.hid (show ∀ b, b < P → w7.heap[b]? = w2.heap[b]? from fun b hb => (hk67 b (by omega) (by omega) (by have := HZ.out; have := HD5.out.size; omega)).trans ((HD5.out.block b (by have := HZ.out; omega)).trans (HBL.out b hb)))
    have HU7 := Lib.hid (HH5.out.same (w' := w7) fun b hb => hk67 b (by have := HZ.out; omega) (by have := HZ.out; omega) (by have := HZ.out; have := HD5.out.size; omega))
    have HN7 := Lib.hid (HNL.out.same (w' := w7) fun b hb => (hk67 b (by omega) (by omega) (by have := HZ.out; have := HD5.out.size; omega)).trans (HD5.out.block b (by have := HZ.out; omega)))
    have HZ7 := Lib.hid (show P + 3 ≤ w7.heap.size ∧ N2 ≤ w7.heap.size by have := HZ.out; omega)
    have HLO7 := Lib.hid (show P + 3 ≤ wr.heap.size ∧ w5.heap.size ≤ w7.heap.size by have := HZ.out; have := HZ6.out; have := hc7.size; omega)
    clear hmk hlk hmk6 hmk7 hgr7 hc7 hk67 hs57 E85 E55 HB5 HD5 HH5 HK6 HZ6 E86 HB6
    go_wp2_with fail
    clear hup
    go_roundw
    case rel => exact ⟨j + 1, d0, d1, rq, rn, rc, wr.heap.size, w5.heap.size, by go_num, by omega, E57, E87, MK7, HL7, Lib.hid (by rw [HTK.out, Ux.putAll_snoc]; exact HU7.out), HLO7, HZ7, HN7, HB7⟩
    case measure => simp [intOf]; omega
  · obtain rfl : j = n1 := by omega
    obtain ⟨u, hu⟩ : ∃ u, u = t.app Ux.upW := ⟨_, rfl⟩
    have hup : Ux.putAll Ux.upW (vl.take j) t = u := by rw [HN1.out, List.take_length, HVL.out, Ux.up_app HTY.out, hu]
    replace HU : Hid (Hang TyP P lo hi wr (.agg #[.int .i64 i8, .string s8, .slice q8 m8 c8]) u) := Lib.hid (by rw [← hup]; exact HU.out)
    have htv : ∀ n ∈ t.vs, n < 1000000 := fun n hn => by have := HTY.out n hn; omega
    have huv : ∀ n ∈ u.vs, n < 1000000 := fun n hn => by rw [hu] at hn; have := Ux.up_vs HTY.out n hn; omega
    have HSIG : Hid (∃ σ, t.app σ = u ∧ u.app σ = u) := Lib.hid (Ux.into_one (w := Ux.upW) (c := 100) hu (fun n hn => by have := HTY.out n hn; omega) (fun m hm => by rw [hu] at hm; exact (Ux.up_vs HTY.out m hm).1))
    have HONE : Hid (t.app HSIG.out.choose = u.app HSIG.out.choose) := Lib.hid (HSIG.out.choose_spec.1.trans HSIG.out.choose_spec.2.symm)
    have HFEW : Hid (t.sz + u.sz ≤ 40000) := Lib.hid (by rw [hu, Ux.up_sz]; have := HSZT.out; omega)
    have HPURE := Lib.hid (show ∀ f', Ux.Made (fun _ => none) f' t u → ∀ N, Ux.Norm f' N → (∀ n, f' n ≠ none → n < 1000000) ∧ OkT (t.app N) ∧ t.app N = u.app N ∧ Ux.canon (t.app N) = Ux.canon t from fun f' hm N hN => by
     obtain ⟨σ, h1, h2⟩ := HSIG.out
     have hs : Ux.Sol f' σ := (hm.2 σ).2 ⟨(fun n t h => by cases h), h1.trans h2.symm⟩
     refine ⟨made_dom hm htv huv, okT_norm hm hN hs htv huv htv ⟨by rw [h1, hu]; exact Ux.up_plain HOKT.out.plain, by rw [h1, hu, Ux.up_sz]; exact HOKT.out.sz⟩, Ux.made_one hm hN, ?_⟩
     rw [Ux.mg_canon (hN.most hm.1 hs) (Ux.made_one hm hN) h1, hu, Ux.up_canon])
    have HTN := Lib.hid (show TyP wr (.agg #[.int .i64 i5, .string s5, .slice q5 m5 c5]) t from HT2.out wr fun b hb => HBL.out b (by omega))
    have HUN := Lib.hid HU.out.now
    clear HU HNL hup htv huv hlt hj
    have hmm := @run_makeMap Tryd.prog
    go_upto_region 13 with fail
    clear hmm
    have hba : Below wr.heap.size wr (wr.alloc (.map #[] 0)) := (Below.refl _ _).alloc (Nat.le_refl _) _
    have hsn := sub_new (fun _ => False) wr
    have SN0 := Lib.hid (show SubAt (fun _ => False) (wr.alloc (.map #[] 0)).drew wr.heap.size (fun _ => none) from hsn.keep rfl fun _ _ => rfl)
    have E50 := Lib.hid (show (wr.alloc (.map #[] 0)).drew.heap[P]? = some (.cells #[.int .i64 i5, .string s5, .slice q5 m5 c5] 30 (0, 0)) from ent_below E5.out hba.drew)
    have E80 := Lib.hid (show (wr.alloc (.map #[] 0)).drew.heap[P + 1 + 1]? = some (.cells #[.int .i64 i8, .string s8, .slice q8 m8 c8] 30 (0, 0)) from ent_below E8.out hba.drew)
    have HT0 := Lib.hid (show TyP (wr.alloc (.map #[] 0)).drew _ t from tyP_below HTN.out hba.drew)
    have HU0 := Lib.hid (show TyP (wr.alloc (.map #[] 0)).drew _ u from tyP_below HUN.out hba.drew)
    have HB0 := Lib.hid (show Below w.heap.size w (wr.alloc (.map #[] 0)).drew from (HB.out.trans (hba.mono HB.out.size)).drew)
    have FA0 := Lib.hid (show FarAt (wr.alloc (.map #[] 0)).drew (P + 1) vl by
     obtain ⟨Lm, h1, h2⟩ := MK.out
     exact ⟨Lm, h1.keep (hba.block _ h1.lt) fun _ _ => trivial, fun n => by rw [h2 n, HN1.out, List.take_length]⟩)
    have HSB := Lib.hid (show w.heap.size ≤ wr.heap.size from HB.out.size)
    have HPS := Lib.hid (show P + 1 ≠ wr.heap.size by have := HZ.out; omega)
    obtain ⟨sb, hsb⟩ : ∃ sb, sb = wr.heap.size := ⟨_, rfl⟩
    clear hba hsn E5 E8 MK HB HBL HLO HZ HTN HUN
    refine wp_region_held_drew (S := fun (u : World) => u.heap[P]? = some (.cells #[.int .i64 i5, .string s5, .slice q5 m5 c5] 30 (0, 0)) ∧ u.heap[P + 1 + 1]? = some (.cells #[.int .i64 i8, .string s8, .slice q8 m8 c8] 30 (0, 0))) (by kernel_rfl) (⟨E50.out, E80.out⟩) (fun hHeld => ?_)
    rw [← hsb] at SN0 HSB HPS ⊢
    generalize (wr.alloc (.map #[] 0)).drew = wd0 at SN0 E50 E80 HT0 HU0 HB0 FA0 hHeld ⊢
    clear hsb
    refine wpAnyH_take (i := 0) (v := .map (some sb)) rfl (by kernel_rfl) (by kernel_rfl) (by kernel_rfl) (fun _ _ _ h => h) (Or.inl ⟨by rfl, fun w' hSw => by go_simp⟩) hHeld ?_
    refine wpAnyH_take (i := 1) (v := .agg #[.int .i64 i5, .string s5, .slice q5 m5 c5]) rfl (by kernel_rfl) (by kernel_rfl) (by kernel_rfl) (fun _ _ _ h => h) (Or.inl ⟨by rfl, fun w' hSw => by have h0 := ent_cell hSw.1 0 _ rfl; have h1 := ent_cell hSw.1 1 _ rfl; have h2 := ent_cell hSw.1 2 _ rfl; go_simp⟩) hHeld ?_
    refine wpAnyH_take (i := 2) (v := .agg #[.int .i64 i8, .string s8, .slice q8 m8 c8]) rfl (by kernel_rfl) (by kernel_rfl) (by kernel_rfl) (fun _ _ _ h => h) (Or.inl ⟨by rfl, fun w' hSw => by have h0 := ent_cell hSw.2 0 _ rfl; have h1 := ent_cell hSw.2 1 _ rfl; have h2 := ent_cell hSw.2 2 _ rfl; go_simp⟩) hHeld ?_
    try simp only [Act.put, List.getElem_toArray, List.getElem_cons_succ, List.getElem_cons_zero, List.setIfInBounds_toArray, List.set_cons_zero, List.set_cons_succ]
    refine wpAnyH_ready (rs := [3]) (by kernel_rfl) (by simp) ?_
    refine AllReadyH.cons rfl (fun K hK => ?_) AllReadyH.nil
    go_simp
    refine (unify1_any sb t u _ _ wd0 SN0.out HT0.out HU0.out HFEW.out).mono ?_
    rintro e wd1 ⟨hc, hor⟩
    rcases hor with ⟨rfl, f', hmade, hsub, _⟩ | ⟨rfl, hnever, _⟩
    rotate_left
    · exact absurd HONE.out (hnever HSIG.out.choose fun n t h => by cases h)
    obtain ⟨N, hN⟩ := hmade.1.norm
    have HMP := Lib.hid SN0.out.p.map
    have HT1 := Lib.hid (tyP_chg HMP.out hc HT0.out)
    have HU1 := Lib.hid (tyP_chg HMP.out hc HU0.out)
    have E51 := Lib.hid (ent_chg E50.out hc (fun e => by obtain ⟨es, k, h⟩ := HMP.out; rw [← e, E50.out] at h; cases h))
    have E81 := Lib.hid (ent_chg E80.out hc (fun e => by obtain ⟨es, k, h⟩ := HMP.out; rw [← e, E80.out] at h; cases h))
    have HB1 := Lib.hid (HB0.out.trans (hc.below HB0.out.size fun k hk => by rw [hk]; exact HSB.out))
    have SU1 := Lib.hid hsub
    have FA1 := Lib.hid (FA0.out.keep (hc.block _ FA0.out.lt HPS.out))
    have HPU := Lib.hid (HPURE.out f' hmade N hN)
    have HF := Lib.hid hmade.1; have HNN := Lib.hid hN
    clear hc hmade hsub hN HMP
    refine hK.out _ _ ⟨E51.out, E81.out⟩ (fun hHeld => ?_)
    clear hK K
    refine wpAnyH_take (i := 4) (v := .bool false) rfl (by kernel_rfl) (by kernel_rfl) (by kernel_rfl) (fun _ _ _ h => h) (Or.inl ⟨by rfl, fun w' hSw => by go_simp⟩) hHeld ?_
    simp only [Act.put, List.getElem_toArray, List.getElem_cons_succ, List.getElem_cons_zero, List.setIfInBounds_toArray, List.set_cons_zero, List.set_cons_succ]
    refine wpAnyH_take (i := 5) (v := .bool false) rfl (by kernel_rfl) (by kernel_rfl) (by kernel_rfl) (fun _ _ _ h => h) (Or.inl ⟨by rfl, fun w' hSw => by go_simp⟩) hHeld ?_
    simp only [Act.put, List.getElem_toArray, List.getElem_cons_succ, List.getElem_cons_zero, List.setIfInBounds_toArray, List.set_cons_zero, List.set_cons_succ]
    refine wpAnyH_take (i := 6) (v := .map (some sb)) rfl (by kernel_rfl) (by kernel_rfl) (by kernel_rfl) (fun _ _ _ h => h) (Or.inl ⟨by go_simp, fun w' hSw => by go_simp⟩) hHeld ?_
    simp only [Act.put, List.getElem_toArray, List.getElem_cons_succ, List.getElem_cons_zero, List.setIfInBounds_toArray, List.set_cons_zero, List.set_cons_succ]
    refine wpAnyH_take (i := 7) (v := .agg #[.int .i64 i5, .string s5, .slice q5 m5 c5]) rfl (by kernel_rfl) (by kernel_rfl) (by kernel_rfl) (fun _ _ _ h => h) (Or.inl ⟨by go_simp, fun w' hSw => by have h0 := ent_cell hSw.1 0 _ rfl; have h1 := ent_cell hSw.1 1 _ rfl; have h2 := ent_cell hSw.1 2 _ rfl; go_simp⟩) hHeld ?_
    simp only [Act.put, List.getElem_toArray, List.getElem_cons_succ, List.getElem_cons_zero, List.setIfInBounds_toArray, List.set_cons_zero, List.set_cons_succ]
    refine wpAnyH_take (i := 10) (v := .agg #[.int .i64 i5, .string s5, .slice q5 m5 c5]) rfl (by kernel_rfl) (by kernel_rfl) (by kernel_rfl) (fun _ _ _ h => h) (Or.inl ⟨by go_simp, fun w' hSw => by have h0 := ent_cell hSw.1 0 _ rfl; have h1 := ent_cell hSw.1 1 _ rfl; have h2 := ent_cell hSw.1 2 _ rfl; go_simp⟩) hHeld ?_
    simp only [Act.put, List.getElem_toArray, List.getElem_cons_succ, List.getElem_cons_zero, List.setIfInBounds_toArray, List.set_cons_zero, List.set_cons_succ]
    refine wpAnyH_ready (rs := [8]) (by kernel_rfl) (by simp) ?_
    refine AllReadyH.cons rfl (fun K hK => ?_) AllReadyH.nil
    go_simp
    refine (apply_ok HF.out HNN.out (t := t) SU1.out HT1.out HPU.out.1 HPU.out.2.1).mono ?_
    rintro e wd2 ⟨r2, rfl, hb, hr⟩
    have HR2 := Lib.hid hr; clear hr
    have E52 := Lib.hid (ent_below E51.out hb)
    have E82 := Lib.hid (ent_below E81.out hb)
    have HT2 := Lib.hid (tyP_below HT1.out hb)
    have HU2 := Lib.hid (tyP_below HU1.out hb)
    have SU2 := Lib.hid (SU1.out.below hb)
    have FA2 := Lib.hid (FA1.out.below hb)
    have HB2 := Lib.hid (HB1.out.trans (hb.mono HB1.out.size))
    clear hb E51 E81 HT1 HU1 SU1 FA1 HB1
    refine hK.out _ _ ⟨E52.out, E82.out⟩ (fun hHeld => ?_)
    clear hK K
    refine wpAnyH_ready (rs := [9]) (by kernel_rfl) (by simp) ?_
    refine AllReadyH.cons rfl (fun K hK => ?_) AllReadyH.nil
    go_simp
    refine (rcanon_ok HPU.out.2.1 r2 wd2 HR2.out).mono ?_
    rintro e wd3 ⟨r3, rfl, hb, hr⟩
    have HR3 := Lib.hid (show TyP wd3 r3 (Ux.canon t) by rw [← HPU.out.2.2.2]; exact hr); clear hr
    have E53 := Lib.hid (ent_below E52.out hb)
    have E83 := Lib.hid (ent_below E82.out hb)
    have HT3 := Lib.hid (tyP_below HT2.out hb)
    have HU3 := Lib.hid (tyP_below HU2.out hb)
    have SU3 := Lib.hid (SU2.out.below hb)
    have FA3 := Lib.hid (FA2.out.below hb)
    have HB3 := Lib.hid (HB2.out.trans (hb.mono HB2.out.size))
    clear hb E52 E82 HT2 HU2 SU2 FA2 HB2
    refine hK.out _ _ ⟨E53.out, E83.out⟩ (fun hHeld => ?_)
    clear hK K
    refine wpAnyH_ready (rs := [11]) (by kernel_rfl) (by simp) ?_
    refine AllReadyH.cons rfl (fun K hK => ?_) AllReadyH.nil
    go_simp
    refine (rcanon_ok HOKT.out _ wd3 HT3.out).mono ?_
    rintro e wd4 ⟨r4, rfl, hb, hr⟩
    have HX4 := Lib.hid hr; clear hr
    have HR4 := Lib.hid (tyP_below HR3.out hb)
    have E54 := Lib.hid (ent_below E53.out hb)
    have E84 := Lib.hid (ent_below E83.out hb)
    have HT4 := Lib.hid (tyP_below HT3.out hb)
    have HU4 := Lib.hid (tyP_below HU3.out hb)
    have SU4 := Lib.hid (SU3.out.below hb)
    have FA4 := Lib.hid (FA3.out.below hb)
    have HB4 := Lib.hid (HB3.out.trans (hb.mono HB3.out.size))
    clear hb E53 E83 HT3 HU3 SU3 FA3 HB3
    refine hK.out _ _ ⟨E54.out, E84.out⟩ (fun hHeld => ?_)
    clear hK K
    refine wpAnyH_ready (rs := [12]) (by kernel_rfl) (by simp) ?_
    refine AllReadyH.cons rfl (fun K hK => ?_) AllReadyH.nil
    go_simp
    refine (like_same (okT_canon HOKT.out) r3 r4 wd4 HR4.out HX4.out (HTB.out wd4 HB4.out)).mono ?_
    rintro e wd5 ⟨rfl, hb⟩
    have E55 := Lib.hid (ent_below E54.out hb)
    have E85 := Lib.hid (ent_below E84.out hb)
    have HT5 := Lib.hid (tyP_below HT4.out hb)
    have HU5 := Lib.hid (tyP_below HU4.out hb)
    have SU5 := Lib.hid (SU4.out.below hb)
    have FA5 := Lib.hid (FA4.out.below hb)
    have HB5 := Lib.hid (HB4.out.trans (hb.mono HB4.out.size))
    clear hb E54 E84 HT4 HU4 SU4 FA4 HB4
    refine hK.out _ _ ⟨E55.out, E85.out⟩ (fun hHeld => ?_)
    clear hK K
    refine wpAnyH_take (i := 13) (v := .bool false) rfl (by kernel_rfl) (by kernel_rfl) (by kernel_rfl) (fun _ _ _ h => h) (Or.inl ⟨by go_simp, fun w' hSw => by go_simp⟩) hHeld ?_
    simp only [Act.put, List.getElem_toArray, List.getElem_cons_succ, List.getElem_cons_zero, List.setIfInBounds_toArray, List.set_cons_zero, List.set_cons_succ]
    refine wpAnyH_take (i := 14) (v := .bool false) rfl (by kernel_rfl) (by kernel_rfl) (by kernel_rfl) (fun _ _ _ h => h) (Or.inl ⟨by rfl, fun w' hSw => by go_simp⟩) hHeld ?_
    simp only [Act.put, List.getElem_toArray, List.getElem_cons_succ, List.getElem_cons_zero, List.setIfInBounds_toArray, List.set_cons_zero, List.set_cons_succ]
    refine wpAnyH_take (i := 15) (v := .bool false) rfl (by kernel_rfl) (by kernel_rfl) (by kernel_rfl) (fun _ _ _ h => h) (Or.inl ⟨by rfl, fun w' hSw => by go_simp⟩) hHeld ?_
    simp only [Act.put, List.getElem_toArray, List.getElem_cons_succ, List.getElem_cons_zero, List.setIfInBounds_toArray, List.set_cons_zero, List.set_cons_succ]
    refine wpAnyH_take (i := 16) (v := .map (some sb)) rfl (by kernel_rfl) (by kernel_rfl) (by kernel_rfl) (fun _ _ _ h => h) (Or.inl ⟨by go_simp, fun w' hSw => by go_simp⟩) hHeld ?_
    simp only [Act.put, List.getElem_toArray, List.getElem_cons_succ, List.getElem_cons_zero, List.setIfInBounds_toArray, List.set_cons_zero, List.set_cons_succ]
    refine wpAnyH_take (i := 17) (v := .agg #[.int .i64 i5, .string s5, .slice q5 m5 c5]) rfl (by kernel_rfl) (by kernel_rfl) (by kernel_rfl) (fun _ _ _ h => h) (Or.inl ⟨by go_simp, fun w' hSw => by have h0 := ent_cell hSw.1 0 _ rfl; have h1 := ent_cell hSw.1 1 _ rfl; have h2 := ent_cell hSw.1 2 _ rfl; go_simp⟩) hHeld ?_
    simp only [Act.put, List.getElem_toArray, List.getElem_cons_succ, List.getElem_cons_zero, List.setIfInBounds_toArray, List.set_cons_zero, List.set_cons_succ]
    refine wpAnyH_take (i := 19) (v := .map (some sb)) rfl (by kernel_rfl) (by kernel_rfl) (by kernel_rfl) (fun _ _ _ h => h) (Or.inl ⟨by go_simp, fun w' hSw => by go_simp⟩) hHeld ?_
    simp only [Act.put, List.getElem_toArray, List.getElem_cons_succ, List.getElem_cons_zero, List.setIfInBounds_toArray, List.set_cons_zero, List.set_cons_succ]
    refine wpAnyH_take (i := 20) (v := .agg #[.int .i64 i8, .string s8, .slice q8 m8 c8]) rfl (by kernel_rfl) (by kernel_rfl) (by kernel_rfl) (fun _ _ _ h => h) (Or.inl ⟨by go_simp, fun w' hSw => by have h0 := ent_cell hSw.2 0 _ rfl; have h1 := ent_cell hSw.2 1 _ rfl; have h2 := ent_cell hSw.2 2 _ rfl; go_simp⟩) hHeld ?_
    simp only [Act.put, List.getElem_toArray, List.getElem_cons_succ, List.getElem_cons_zero, List.setIfInBounds_toArray, List.set_cons_zero, List.set_cons_succ]
    refine wpAnyH_ready (rs := [18]) (by kernel_rfl) (by simp) ?_
    refine AllReadyH.cons rfl (fun K hK => ?_) AllReadyH.nil
    go_simp
    refine (apply_ok HF.out HNN.out (t := t) SU5.out HT5.out HPU.out.1 HPU.out.2.1).mono ?_
    rintro e wd6 ⟨r6, rfl, hb, hr⟩
    have HR6 := Lib.hid hr; clear hr
    have E56 := Lib.hid (ent_below E55.out hb)
    have E86 := Lib.hid (ent_below E85.out hb)
    have HT6 := Lib.hid (tyP_below HT5.out hb)
    have HU6 := Lib.hid (tyP_below HU5.out hb)
    have SU6 := Lib.hid (SU5.out.below hb)
    have FA6 := Lib.hid (FA5.out.below hb)
    have HB6 := Lib.hid (HB5.out.trans (hb.mono HB5.out.size))
    clear hb E55 E85 HT5 HU5 SU5 FA5 HB5
    refine hK.out _ _ ⟨E56.out, E86.out⟩ (fun hHeld => ?_)
    clear hK K
    refine wpAnyH_ready (rs := [21]) (by kernel_rfl) (by simp) ?_
    refine AllReadyH.cons rfl (fun K hK => ?_) AllReadyH.nil
    go_simp
    refine (apply_ok HF.out HNN.out (t := u) SU6.out HU6.out HPU.out.1 (by rw [← HPU.out.2.2.1]; exact HPU.out.2.1)).mono ?_
    rintro e wd7 ⟨r7, rfl, hb, hr⟩
    have HX7 := Lib.hid (show TyP wd7 r7 (t.app N) by rw [HPU.out.2.2.1]; exact hr); clear hr
    have HR7 := Lib.hid (tyP_below HR6.out hb)
    have E57 := Lib.hid (ent_below E56.out hb)
    have E87 := Lib.hid (ent_below E86.out hb)
    have HT7 := Lib.hid (tyP_below HT6.out hb)
    have HU7 := Lib.hid (tyP_below HU6.out hb)
    have SU7 := Lib.hid (SU6.out.below hb)
    have FA7 := Lib.hid (FA6.out.below hb)
    have HB7 := Lib.hid (HB6.out.trans (hb.mono HB6.out.size))
    clear hb E56 E86 HT6 HU6 SU6 FA6 HB6
    refine hK.out _ _ ⟨E57.out, E87.out⟩ (fun hHeld => ?_)
    clear hK K
    refine wpAnyH_ready (rs := [22]) (by kernel_rfl) (by simp) ?_
    refine AllReadyH.cons rfl (fun K hK => ?_) AllReadyH.nil
    go_simp
    refine (like_same HPU.out.2.1 r6 r7 wd7 HR7.out HX7.out (HTB.out wd7 HB7.out)).mono ?_
    rintro e wd8 ⟨rfl, hb⟩
    have E58 := Lib.hid (ent_below E57.out hb)
    have E88 := Lib.hid (ent_below E87.out hb)
    have HT8 := Lib.hid (tyP_below HT7.out hb)
    have HU8 := Lib.hid (tyP_below HU7.out hb)
    have SU8 := Lib.hid (SU7.out.below hb)
    have FA8 := Lib.hid (FA7.out.below hb)
    have HB8 := Lib.hid (HB7.out.trans (hb.mono HB7.out.size))
    clear hb E57 E87 HT7 HU7 SU7 FA7 HB7
    refine hK.out _ _ ⟨E58.out, E88.out⟩ (fun hHeld => ?_)
    clear hK K
    refine wpAnyH_take (i := 23) (v := .bool false) rfl (by kernel_rfl) (by kernel_rfl) (by kernel_rfl) (fun _ _ _ h => h) (Or.inl ⟨by go_simp, fun w' hSw => by go_simp⟩) hHeld ?_
    simp only [Act.put, List.getElem_toArray, List.getElem_cons_succ, List.getElem_cons_zero, List.setIfInBounds_toArray, List.set_cons_zero, List.set_cons_succ]
    refine wpAnyH_take (i := 24) (v := .bool false) rfl (by kernel_rfl) (by kernel_rfl) (by kernel_rfl) (fun _ _ _ h => h) (Or.inl ⟨by rfl, fun w' hSw => by go_simp⟩) hHeld ?_
    simp only [Act.put, List.getElem_toArray, List.getElem_cons_succ, List.getElem_cons_zero, List.setIfInBounds_toArray, List.set_cons_zero, List.set_cons_succ]
    refine wpAnyH_done (by kernel_rfl) ?_ _
    clear hHeld
    obtain ⟨K, hK, hK6⟩ := k_small kk
    have HK := Lib.hid hK
    clear hK
    go_upto_region 16 with fail
    rw [HK.out]
    have HK6 := Lib.hid hK6
    have hK0 : (0 : Int) ≤ (K : Int) := by omega
    clear hK6
    have hlk := FA8.out.look K
    have t0 := ent_cell E58.out 0 _ rfl
    by_cases hin : K ∈ vl
    · rw [decide_eq_true hin] at hlk
      have HIN := Lib.hid hin
      clear hin
      by_cases hvar : (0 : Int) ≤ i5
      · have hd : decide ((0 : Int) ≤ i5) = true := by simp [hvar]
        go_wp2_with fail
        go_ret
        exact ⟨rfl, HB8.out⟩
      · have hd : decide ((0 : Int) ≤ i5) = false := by simp [hvar]
        have hlt5 : i5 < 0 := by omega
        have HNV : Hid (Ux.Never (fun _ => none) (.v K) t) := Lib.hid (by
         have hmem : K ∈ t.vs := (Ux.varsT_mem t K).1 (by rw [← HVL.out]; exact HIN.out)
         cases ht : t with
         | v m =>
           have h := HT8.out
           rw [ht] at h
           obtain ⟨_, _, _, _, h⟩ := tyP_v.1 h
           injection h with h
           simp at h
           omega
         | a nm xs => rw [ht] at hmem; exact Ux.never_in hmem)
        have hmm := @run_makeMap Tryd.prog
        have t1 := ent_cell E58.out 1 _ rfl
        have t2 := ent_cell E58.out 2 _ rfl
        go_upto_region 18 with fail
        clear hlk hd t0 t1 t2
        have hba : Below wd8.heap.size wd8 (wd8.alloc (.map #[] 0)) := (Below.refl _ _).alloc (Nat.le_refl _) _
        have SN9 := Lib.hid (sub_new (fun _ => False) wd8)
        have E59 := Lib.hid (ent_below E58.out hba)
        have HT9 := Lib.hid (tyP_below HT8.out hba)
        have HB9 := Lib.hid (HB8.out.trans (hba.mono HB8.out.size))
        have HS9 := Lib.hid (show w.heap.size ≤ wd8.heap.size from HB8.out.size)
        have t0 := ent_cell E59.out 0 _ rfl
        have t1 := ent_cell E59.out 1 _ rfl
        have t2 := ent_cell E59.out 2 _ rfl
        go_wp2_with fail
        clear t0 t1 t2 hba
        generalize wd8.alloc (.map #[] 0) = wd9 at SN9 E59 HT9 HB9 ⊢
        refine (unify1_any wd8.heap.size (.v K) t _ _ wd9 SN9.out (tyP_v.2 ⟨_, _, _, _, rfl⟩) HT9.out (by have h1 := HSZT.out; have h2 : (Ux.Ty.v K).sz = 1 := (by rw [Ux.Ty.sz]); omega)).mono ?_
        rintro e wd10 ⟨hc, hor⟩
        rcases hor with ⟨rfl, f'', hmade, _⟩ | ⟨rfl, _, hsn⟩
        · exfalso
          obtain ⟨σ, hσ⟩ := hmade.1.sol
          exact HNV.out σ (fun n t h => by cases h) ((hmade.2 σ).1 hσ).2
        have HMP := Lib.hid SN9.out.p.map
        have HT10 := Lib.hid (tyP_chg HMP.out hc HT9.out)
        have E510 := Lib.hid (ent_chg E59.out hc (fun e => by obtain ⟨es, k, h⟩ := HMP.out; rw [← e, E59.out] at h; cases h))
        have HB10 := Lib.hid (HB9.out.trans (hc.below HB9.out.size fun k hk => by rw [hk]; exact HS9.out))
        have hba : Below wd10.heap.size wd10 (wd10.alloc (.map #[] 0)) := (Below.refl _ _).alloc (Nat.le_refl _) _
        have SN11 := Lib.hid (sub_new (fun _ => False) wd10)
        have E511 := Lib.hid (ent_below E510.out hba)
        have HT11 := Lib.hid (tyP_below HT10.out hba)
        have HB11 := Lib.hid (HB10.out.trans (hba.mono HB10.out.size))
        have HS11 := Lib.hid (show w.heap.size ≤ wd10.heap.size from HB10.out.size)
        have t0 := ent_cell E511.out 0 _ rfl
        have t1 := ent_cell E511.out 1 _ rfl
        have t2 := ent_cell E511.out 2 _ rfl
        clear hc hsn HMP E510 HT10 HB10 E59 HT9 HB9 SN9
        go_wp2_with fail
        clear t0 t1 t2 hba
        generalize wd10.alloc (.map #[] 0) = wd11 at SN11 E511 HT11 HB11 ⊢
        refine (unify1_any wd10.heap.size t (.v K) _ _ wd11 SN11.out HT11.out (tyP_v.2 ⟨_, _, _, _, rfl⟩) (by have h1 := HSZT.out; have h2 : (Ux.Ty.v K).sz = 1 := (by rw [Ux.Ty.sz]); omega)).mono ?_
        rintro e wd12 ⟨hc, hor⟩
        rcases hor with ⟨rfl, f'', hmade, _⟩ | ⟨rfl, _, hsn⟩
        · exfalso
          obtain ⟨σ, hσ⟩ := hmade.1.sol
          exact never_swap HNV.out σ (fun n t h => by cases h) ((hmade.2 σ).1 hσ).2
        have HB12 := Lib.hid (HB11.out.trans (hc.below HB11.out.size fun k hk => by rw [hk]; exact HS11.out))
        clear hc hsn
        go_wp2_with fail
        go_ret
        exact ⟨rfl, HB12.out⟩
    · rw [decide_eq_false hin] at hlk
      clear hin
      go_wp2_with fail
      go_ret
      exact ⟨rfl, HB8.out⟩
end Go.Proofs.YtcblppojnailpaaDoor
namespace Go.Proofs.YtcblppojnailpaaDoor
open Go Go.RowKit
set_option linter.unusedVariables false
set_option linter.unusedSimpArgs false
/-- What the closure keeps: which numbers came, and their list. -/
def VarS (lo b3 b4 mb : Nat) (w : World) (acc : List Nat) : Prop :=
 w.heap[b4]? = some (.cells #[.map (some mb)] 75 (0, 0)) ∧ (∃ lv, w.heap[b3]? = some (.cells #[lv] 42 (0, 0)) ∧ w.ownsRow lo 3 1 lv (Ux.firsts [] acc).length (nums' (Ux.firsts [] acc))) ∧
  (∃ Lm, MapK encInt (fun _ _ => True) w mb Lm ∧ ∀ n : Nat, lookL (n : Int) Lm = if n ∈ acc then some (.agg #[]) else none) ∧ lo ≤ b3 ∧ lo ≤ b4 ∧ lo ≤ mb ∧ lo ≤ w.heap.size
/-- Blocks but the closure's, and those of numbers, stay. -/
def KeepV (b3 mb : Nat) (w w' : World) : Prop := w.heap.size ≤ w'.heap.size ∧ ∀ c o, w.heap[c]? = some o → c ≠ b3 → c ≠ mb → (∀ cs fr, o ≠ .cells cs 3 fr) → w'.heap[c]? = some o
theorem VarS.keep {lo b3 b4 mb : Nat} {w w' : World} {acc : List Nat} (h : VarS lo b3 b4 mb w acc) (hs : w.heap.size ≤ w'.heap.size) (hk : ∀ c o, w.heap[c]? = some o → (c = b3 ∨ c = b4 ∨ c = mb ∨ ∃ cs, o = .cells cs 3 (0, 0)) → w'.heap[c]? = some o) : VarS lo b3 b4 mb w' acc := by
 obtain ⟨h1, ⟨lv, h2, h3⟩, ⟨Lm, h4, h5⟩, l1, l2, l3, l4⟩ := h
 refine ⟨hk _ _ h1 (.inr (.inl rfl)), ⟨lv, hk _ _ h2 (.inl rfl), own_same h3 fun g hg => ?_⟩, ⟨Lm, ?_, h5⟩, l1, l2, l3, by omega⟩
 · rcases h3.2 with ⟨rfl, _⟩ | ⟨g', cap, cur, rfl, _, hg', _⟩
   · simp [Value.ownBlock] at hg
   · simp only [Value.ownBlock, Option.some.injEq] at hg
     subst hg
     rw [hk _ _ hg' (.inr (.inr (.inr ⟨_, rfl⟩))), hg']
 · obtain ⟨es, k, hm⟩ := h4.obj
   exact h4.keep ((hk _ _ hm (.inr (.inr (.inl rfl)))).trans hm.symm) fun _ _ => trivial
theorem VarS.below {lo b3 b4 mb : Nat} {w w' : World} {acc : List Nat} (h : VarS lo b3 b4 mb w acc) (hb : Below w.heap.size w w') : VarS lo b3 b4 mb w' acc := h.keep hb.size fun c o ho _ => ent_below ho hb
theorem firsts_snoc (acc : List Nat) (n : Nat) : Ux.firsts [] (acc ++ [n]) = if n ∈ acc then Ux.firsts [] acc else Ux.firsts [] acc ++ [n] := by
 rw [Ux.firsts_app, firsts_one]
 by_cases h : n ∈ acc
 · rw [if_pos h, if_pos (by simpa using (Ux.firsts_mem n acc []).2 (.inr h))]
 · rw [if_neg h, if_neg (by
    intro h2
    have := (Ux.firsts_mem n acc []).1 (by simpa using h2)
    simp at this
    exact h this)]
theorem VarS.look {lo b3 b4 mb : Nat} {w : World} {acc : List Nat} (h : VarS lo b3 b4 mb w acc) (n : Nat) : (Instr.lookup 75 (.map (some mb)) (.int .i64 (n : Int)) true).run Tryd.prog w = .ok (.tuple #[.agg #[], .bool (decide (n ∈ acc))]) w := by
 obtain ⟨h1, _, ⟨Lm, h4, h5⟩, _⟩ := h
 have h3 := (h4.look lawI Tryd.underlying75 (z := .agg #[]) (by kernel_rfl) (n : Int) trivial).2
 rw [h5 n] at h3
 by_cases hn : n ∈ acc
 · rw [if_pos hn] at h3; rw [decide_eq_true hn]; exact h3
 · rw [if_neg hn] at h3; rw [decide_eq_false hn]; exact h3
def FoundPost (lo b3 b4 mb : Nat) (acc : List Nat) (w : World) (e : Ending) (w' : World) : Prop := e = .returned (.tuple #[]) ∧ VarS lo b3 b4 mb w' acc ∧ Below lo w w' ∧ KeepV b3 mb w w'
set_option maxHeartbeats 4000000 in
set_option maxRecDepth 100000 in
theorem found_any (lo b3 b4 mb n : Nat) (acc : List Nat) (w : World) (h : VarS lo b3 b4 mb w acc) (hlen : acc.length ≤ 30000000000) :
 Calls Tryd.prog 39 #[.int .i64 (n : Int), .pointer (some ⟨b4, 0, none⟩), .pointer (some ⟨b3, 0, none⟩)] w (FoundPost lo b3 b4 mb (acc ++ [n]) w) := by
 have HV := Lib.hid h
 have hlk := h.look n
 obtain ⟨h1, ⟨lv, h2, h3⟩, h4, l1, l2, l3, l4⟩ := h
 obtain ⟨lp, lc, rfl⟩ := own_slice h3
 have H1 := Lib.hid h1; have H2 := Lib.hid h2; have H3 := Lib.hid h3; have H4 := Lib.hid h4
 have c1 := ent_cell h1 0 _ rfl
 clear h1 h2 h3 h4
 by_cases hin : n ∈ acc
 · rw [decide_eq_true hin] at hlk
   go_enter Tryd.func39, Tryd.ntmps39
   go_wp2_with fail
   refine bodyPost_end (v := .tuple #[]) (by simp [results, Tryd.results39, go_sem]) rfl ?_
   have hba : Below w.heap.size w (w.alloc (.cells #[] 77)) := (Below.refl _ _).alloc (Nat.le_refl _) _
   refine ⟨rfl, ?_, hba.mono l4, hba.size, fun c o ho _ _ _ => ent_below ho hba⟩
   obtain ⟨h1, ⟨lv, h2, h3⟩, ⟨Lm, h4, h5⟩, _⟩ := HV.out.below hba
   refine ⟨h1, ⟨lv, h2, by rw [firsts_snoc, if_pos hin]; exact h3⟩, ⟨Lm, h4, fun k => ?_⟩, l1, l2, l3, Nat.le_trans l4 hba.size⟩
   rw [h5 k]
   by_cases hk : k ∈ acc
   · rw [if_pos hk, if_pos (List.mem_append.2 (.inl hk))]
   · rw [if_neg hk, if_neg (fun h => (List.mem_append.1 h).elim hk fun h2 => hk (by rw [List.mem_singleton.1 h2]; exact hin))]
 · rw [decide_eq_false hin] at hlk
   have hba : Below w.heap.size w (w.alloc (.cells #[] 77)) := (Below.refl _ _).alloc (Nat.le_refl _) _
   obtain ⟨Lm, hm, h5⟩ := H4.out
   have hma := hm.keep (hba.block _ hm.lt) fun _ _ => trivial
   obtain ⟨w2, hup, hm2, hgr2⟩ := hma.update lawI Tryd.underlying75 (n : Int) trivial (.agg #[]) (fun _ _ _ _ _ => trivial)
   replace hup : (Instr.mapUpdate 75 (.map (some mb)) (.int .i64 (n : Int)) (.agg #[])).run Tryd.prog (w.alloc (.cells #[] 77)) = .ok () w2 := hup
   have hc2 : Chg (· = mb) (w.alloc (.cells #[] 77)) w2 := Chg.grown hgr2 fun k hk => (Option.some.inj hk).symm
   have hmm : ∃ es k, w.heap[mb]? = some (.map es k) := hm.obj
   have HMM := Lib.hid hmm
   have ne34 : b4 ≠ mb := fun e => by obtain ⟨es, k, h⟩ := hmm; rw [← e, H1.out] at h; cases h
   have ne33 : b3 ≠ mb := fun e => by obtain ⟨es, k, h⟩ := hmm; rw [← e, H2.out] at h; cases h
   have E42 := Lib.hid (ent_chg (ent_below H1.out hba) hc2 ne34)
   have E32 := Lib.hid (ent_chg (ent_below H2.out hba) hc2 ne33)
   have HO2 := Lib.hid (own_chg (own_kept H3.out hba) hc2 fun b hb e => by
    obtain ⟨es, k, h⟩ := hmm
    exact own_ne (own_kept H3.out hba) (ent_below h hba) (fun cs h => by cases h) (by rw [← e]; exact hb))
   have HM2 : Hid (∃ Lm, MapK encInt (fun _ _ => True) w2 mb Lm ∧ ∀ k : Nat, lookL (k : Int) Lm = if k ∈ acc ++ [n] then some (.agg #[]) else none) := Lib.hid ⟨_, hm2, fun k => by
    rw [lookL_set]
    by_cases e : k = n
    · rw [if_pos (by omega), if_pos (by simp [e])]
    · rw [if_neg (by omega), h5 k]
      by_cases h : k ∈ acc
      · rw [if_pos h, if_pos (List.mem_append.2 (.inl h))]
      · rw [if_neg h, if_neg (fun h2 => (List.mem_append.1 h2).elim h fun h3 => e (List.mem_singleton.1 h3))]⟩
   have HB2 := Lib.hid (show Below lo w w2 from (hba.mono l4).trans (hc2.below (by have := hba.size; omega) fun k hk => by rw [hk]; exact l3))
   have HK2 : Hid (KeepV b3 mb w w2) := Lib.hid ⟨HB2.out.size, fun c o ho _ h2 _ => ent_chg (ent_below ho hba) hc2 h2⟩
   have HL2 := Lib.hid (show w.heap.size ≤ w2.heap.size from HB2.out.size)
   have c1a := ent_cell (ent_below H1.out hba) 0 _ rfl
   have c32 := ent_cell E32.out 0 _ rfl
   have f32 := ent_free E32.out
   have hn1 : (Ux.firsts [] acc).length ≤ 30000000000 := by have := firsts_len acc []; simp at this; omega
   obtain ⟨n1, hn1e⟩ : ∃ n1, n1 = (Ux.firsts [] acc).length := ⟨_, rfl⟩
   rw [← hn1e] at HO2 E32 c32 hn1
   have HNE := Lib.hid hn1e
   clear hm h5 hma hm2 hgr2 hc2 hmm ne34 ne33 hn1e H3 H4 HV
   go_enter Tryd.func39, Tryd.ntmps39
   go_upto_region 3 with fail
   clear hup hlk c1 c1a
   go_wp2_with (at_builtin; refine wpList_append_new eltInt w2 rfl (.tmp 17) (.tmp 19) rfl lo (.slice lp n1 lc) n1 (nums' (Ux.firsts [] acc)) rfl HO2.out #[.int .i64 (n : Int)] 3 rfl rfl (by intro u hu; rw [List.mem_singleton.1 hu]; rfl) (by omega) (by have := HL2.out; omega) ?_)
   intro v4 w4 ho4 hc4 hl4
   obtain ⟨p4, c4, rfl⟩ := own_slice ho4
   have hb3o : (Value.slice lp n1 lc).ownBlock ≠ some b3 := own_ne HO2.out E32.out (fun cs e => by injection e with _ e _; cases e)
   have E34 := Lib.hid (ent_chg E32.out hc4 hb3o)
   have E44 := Lib.hid (ent_chg E42.out hc4 (own_ne HO2.out E42.out (fun cs e => by injection e with _ e _; cases e)))
   have HM4 : Hid (∃ Lm, MapK encInt (fun _ _ => True) w4 mb Lm ∧ ∀ k : Nat, lookL (k : Int) Lm = if k ∈ acc ++ [n] then some (.agg #[]) else none) := Lib.hid (by
    obtain ⟨Lm, h1, h2⟩ := HM2.out
    obtain ⟨es, k, h⟩ := h1.obj
    exact ⟨Lm, h1.keep (hc4.block _ h1.lt (own_ne HO2.out h (fun cs e => by cases e))) fun _ _ => trivial, h2⟩)
   have HB4 := Lib.hid (HB2.out.trans (hc4.below (by have := HL2.out; omega) fun k hk => (HO2.out.lt k hk).1))
   have HK4 : Hid (KeepV b3 mb w w4) := Lib.hid ⟨HB4.out.size, fun c o ho h1 h2 h3 => ent_chg (HK2.out.2 c o ho h1 h2 h3) hc4 fun e => (own_ne HO2.out (HK2.out.2 c o ho h1 h2 h3) (fun cs e => h3 cs (0, 0) e)) e⟩
   have HO4 := Lib.hid ho4
   have c34 := ent_cell E34.out 0 _ rfl
   have f34 := ent_free E34.out
   clear ho4 hc4 hl4 hb3o c32 f32
   go_wp2_with fail
   refine bodyPost_end (v := .tuple #[]) (by simp [results, Tryd.results39, go_sem]) rfl ?_
   have hne : ∀ {c : Nat} {o : Obj}, c ≠ b3 → w4.heap[c]? = some o → (w4.setCell ⟨b3, 0, none⟩ (.slice p4 (n1 + 1) c4)).heap[c]? = some o := fun h1 h2 => (Below.heap_setCell w4 ⟨b3, 0, none⟩ _ _ h1).trans h2
   have ne43 : b4 ≠ b3 := fun e => by have h := E44.out; rw [e, E34.out] at h; injection h with h; injection h with _ h _; cases h
   have nem3 : mb ≠ b3 := fun e => by obtain ⟨es, k, h⟩ := HMM.out; rw [e, H2.out] at h; cases h
   refine ⟨rfl, ⟨hne ne43 E44.out, ⟨_, (by have := ent_set E34.out 0 (.slice p4 (n1 + 1) c4); simpa using this), ?_⟩, ?_, l1, l2, l3, ?_⟩, HB4.out.setCell (p := ⟨b3, 0, none⟩) l1 _, ?_, fun c o ho h1 h2 h3 => hne h1 (HK4.out.2 c o ho h1 h2 h3)⟩
   · rw [firsts_snoc, if_neg hin, ← nums_snoc, List.length_append, ← HNE.out]
     exact own_same HO4.out fun k hk => Below.heap_setCell w4 ⟨b3, 0, none⟩ _ k (fun e => own_ne HO4.out E34.out (fun cs e => by injection e with _ e _; cases e) (by rw [hk, e]))
   · obtain ⟨Lm, h1, h2⟩ := HM4.out
     exact ⟨Lm, h1.keep (Below.heap_setCell w4 ⟨b3, 0, none⟩ _ mb nem3) fun _ _ => trivial, h2⟩
   · have := HB4.out.size; simp; omega
   · have := HK4.out.1; simpa using this
end Go.Proofs.YtcblppojnailpaaDoor
