/-
  Several texts in one: ULives, USameW, UVarF, UEvP, UEv, UVars.
-/
import Derived.Test.YtcblppojnailpaaDoorH14
import Derived.Test.YtcblppojnailpaaDoorH13
import Derived.Test.YtcblppojnailpaaDoorH02
namespace Go.Proofs.YtcblppojnailpaaDoor
open Go Go.RowKit
set_option linter.unusedVariables false
set_option linter.unusedSimpArgs false
namespace Ux
def liInt : Ty := .a [73, 110, 116] []
def liA : Ty := .a [45, 62] [.v 0, liInt]
def liB : Ty := .a [45, 62] [.a [76, 105, 115, 116] [.v 1], .v 1]
def liL : Ty := .a [76, 105, 115, 116] [liInt]
def liS : Sub := fun n => if n = 0 then liL else liInt
theorem li_one : liA.app liS = liB.app liS := by simp [liA, liB, app_a, app_v, liS, liL, liInt]
theorem li_of {N : Sub} (h : liA.app N = liB.app N) : N 0 = liL ∧ liA.app N = .a [45, 62] [liL, liInt] := by
 unfold liA at h ⊢
 unfold liB at h
 simp only [app_a, app_v, List.map_cons, List.map_nil] at h ⊢
 injection h with _ h
 injection h with h1 h
 injection h with h2 _
 unfold liInt at h2
 simp only [app_a, List.map_nil] at h2
 rw [h1, ← h2]
 exact ⟨rfl, by simp [liL, liInt, app_a]⟩
theorem li_text : textT liL = [40, 76, 105, 115, 116, 32, 73, 110, 116, 41] := by
 unfold liL liInt
 rw [textT_cons, textR_cons, textR_nil, textT_nil]; rfl
theorem li_text2 : textT (.a [45, 62] [liL, liInt]) = [40, 45, 62, 32, 40, 76, 105, 115, 116, 32, 73, 110, 116, 41, 32, 73, 110, 116, 41] := by
 rw [textT_cons, textR_cons, textR_cons, textR_nil, li_text]
 unfold liInt
 rw [textT_nil]; rfl
theorem li_vs : (∀ n ∈ liA.vs, n < 1000000) ∧ ∀ n ∈ liB.vs, n < 1000000 := by
 unfold liA liB liInt
 simp [vs_a, vs_v]
theorem li_plain : Plain (.a [45, 62] [liL, liInt]) ∧ Plain liL := by
 have h1 : Plain liInt := plain_a ⟨by decide, by decide⟩ fun x hx => by cases hx
 have h2 : Plain liL := plain_a ⟨by decide, by decide⟩ fun x hx => by rw [List.mem_singleton.1 hx]; exact h1
 exact ⟨plain_a ⟨by decide, by decide⟩ fun x hx => by
  rcases List.mem_cons.1 hx with rfl | hx
  · exact h2
  · rw [List.mem_singleton.1 hx]; exact h1, h2⟩
end Ux
theorem li_okL : OkT Ux.liL := ⟨Ux.li_plain.2, (fun n h => by simp [Ux.liL, Ux.liInt, Ux.vs_a] at h), by simp [Ux.liL, Ux.liInt, Ux.sz_a]⟩
theorem li_okA : OkT (.a [45, 62] [Ux.liL, Ux.liInt]) := ⟨Ux.li_plain.1, (fun n h => by simp [Ux.liL, Ux.liInt, Ux.vs_a] at h), by simp [Ux.liL, Ux.liInt, Ux.sz_a]⟩
theorem li_sz : Ux.liA.sz + Ux.liB.sz ≤ 40000 := by
 have h : ∀ n, (Ux.Ty.v n).sz = 1 := fun n => by rw [Ux.Ty.sz]
 simp [Ux.liA, Ux.liB, Ux.liInt, Ux.sz_a, h]
theorem SubP.below {w w' : World} {b : Nat} {f : Ux.Map} (h : SubP w b f) (hb : Below w.heap.size w w') : SubP w' b f := by
 obtain ⟨L, h1, h2⟩ := h
 exact ⟨L, h1.keep (hb.block _ h1.lt) fun _ _ => trivial, fun n => ⟨(h2 n).1, fun t ht => by obtain ⟨v, a, c⟩ := (h2 n).2 t ht; exact ⟨v, a, tyP_below c hb⟩⟩⟩
theorem row_one {rep : Value → Ux.Ty → Prop} {w : World} {g : Nat} {T : TypeId} {a0 a1 a2 : Value} {x : Ux.Ty} (h : w.heap[g]? = some (.cells #[a0, a1, a2] T (0, 0))) (hx : rep (.agg #[a0, a1, a2]) x) : RowAt 3 rep w (.slice (some ⟨g, 0, none⟩) 1 1) [x] := by
 refine .inr ⟨g, 0, 1, rfl, Nat.le_refl _, by decide, fun i y hy => ?_⟩
 match i, hy with
 | 0, hy =>
   simp at hy; subst hy
   refine ⟨_, hx, rfl, fun j z hz => ?_⟩
   exact ent_cell h _ z (by simpa [Value.cells] using hz)
set_option maxHeartbeats 4000000 in
set_option maxRecDepth 100000 in
theorem lives_any (w : World) (htab : Lib.TabIs Tryd.prog w "internal/strconv.uint64pow10" .u64 Lib.pow10Tab) :
 Calls Tryd.prog 9 #[] w (fun e w' => e = .returned (.bool true) ∧ Below w.heap.size w w') := by
 have HTB := Lib.hid (fun (w' : World) (hb : Below w.heap.size w w') => (Lib.tabBelow_of_tabIs htab) w' hb)
 clear htab
 go_enter Tryd.func9, Tryd.ntmps9
 have hmm := @run_makeMap Tryd.prog
 go_upto_region 2 with fail
 clear hmm
 have HS := Lib.hid (sub_new (fun _ => False) w)
 have HB := Lib.hid (show Below w.heap.size w (w.alloc (.map #[] 0)) from (Below.refl _ _).alloc (Nat.le_refl _) _)
 have HSL := Lib.hid (show w.heap.size < (w.alloc (.map #[] 0)).heap.size by simp)
 generalize w.alloc (.map #[] 0) = w1 at HS HB HSL ⊢
 obtain ⟨sb, hsb⟩ : ∃ sb, sb = w.heap.size := ⟨_, rfl⟩
 rw [← hsb] at HS HSL ⊢
 have HSB := Lib.hid (show w.heap.size ≤ sb by omega)
 clear hsb
 go_wp2_with fail
 refine (var_any 0 w1).mono ?_
 rintro e w2 ⟨rfl, hb2⟩
 have HB2 := Lib.hid hb2; clear hb2
 go_wp2_with fail
 refine (of_any [73, 110, 116] (.slice none 0 0) [] w2.heap.size w2 (Nat.le_refl _) (.inl ⟨rfl, _, _, rfl⟩) (by simp)).mono ?_
 rintro e w3 ⟨r3, rfl, hb3, hh3⟩
 have HB3 := Lib.hid (HB2.out.trans (hb3.mono HB2.out.size))
 have HI3 := Lib.hid (show TyP w3 r3 Ux.liInt from hh3.now)
 clear hb3 hh3 HB2
 go_wp2_with fail
 refine (fn_any _ r3 (.v 0) Ux.liInt w3 (tyP_v.2 ⟨_, _, _, _, rfl⟩) HI3.out).mono ?_
 rintro e w4 ⟨r4, rfl, hb4, hh4⟩
 have HB4 := Lib.hid (HB3.out.trans (hb4.mono HB3.out.size))
 have HA4 := Lib.hid (show TyP w4 r4 Ux.liA from hh4.now)
 obtain ⟨a0, a1, aq, am, ac, rfl⟩ := tyP_sh hh4.now
 clear hb4 hh4 HB3 HI3
 go_upto_region 3 with fail
 have EA := Lib.hid (ent_new w4 #[.int .i64 a0, .string a1, .slice aq am ac] 30)
 have hb5 : Below w4.heap.size w4 (w4.alloc (.cells #[.int .i64 a0, .string a1, .slice aq am ac] 30)) := (Below.refl _ _).alloc (Nat.le_refl _) _
 have HA5 := Lib.hid (tyP_below HA4.out hb5)
 have HB5 := Lib.hid (HB4.out.trans (hb5.mono HB4.out.size))
 obtain ⟨ba, hba⟩ : ∃ ba, ba = w4.heap.size := ⟨_, rfl⟩
 rw [← hba] at EA ⊢
 generalize w4.alloc (.cells #[.int .i64 a0, .string a1, .slice aq am ac] 30) = w5 at EA HA5 HB5 ⊢
 clear hb5 HA4 HB4 hba
 go_wp2_with fail
 refine (var_any 1 w5).mono ?_
 rintro e w6 ⟨rfl, hb6⟩
 have EA6 := Lib.hid (ent_below EA.out hb6); have HA6 := Lib.hid (tyP_below HA5.out hb6); have HB6 := Lib.hid (HB5.out.trans (hb6.mono HB5.out.size))
 clear hb6 EA HA5 HB5
 go_wp2_with fail
 have E1 := ent_new w6 #[.int .i64 1, .string ⟨#[]⟩, .slice none 0 0] 30
 have hb7 : Below w6.heap.size w6 (w6.alloc (.cells #[.int .i64 1, .string ⟨#[]⟩, .slice none 0 0] 30)) := (Below.refl _ _).alloc (Nat.le_refl _) _
 have EA7 := Lib.hid (ent_below EA6.out hb7); have HA7 := Lib.hid (tyP_below HA6.out hb7); have HB7 := Lib.hid (HB6.out.trans (hb7.mono HB6.out.size))
 generalize w6.heap.size = b1 at E1 ⊢
 generalize w6.alloc (.cells #[.int .i64 1, .string ⟨#[]⟩, .slice none 0 0] 30) = w7 at E1 EA7 HA7 HB7 ⊢
 clear hb7 EA6 HA6 HB6
 refine (of_any [76, 105, 115, 116] (.slice (some ⟨b1, 0, none⟩) 1 1) [.v 1] w7.heap.size w7 (Nat.le_refl _) (row_one E1 fun u _ => tyP_v.2 ⟨_, _, _, _, rfl⟩) (by simp)).mono ?_
 clear E1
 rintro e w8 ⟨r8, rfl, hb8, hh8⟩
 have EA8 := Lib.hid (ent_below EA7.out hb8); have HA8 := Lib.hid (tyP_below HA7.out hb8); have HB8 := Lib.hid (HB7.out.trans (hb8.mono HB7.out.size))
 have HL8 := Lib.hid (show TyP w8 r8 (.a [76, 105, 115, 116] [.v 1]) from hh8.now)
 clear hb8 hh8 EA7 HA7 HB7
 go_wp2_with fail
 refine (var_any 1 w8).mono ?_
 rintro e w9 ⟨rfl, hb9⟩
 have EA9 := Lib.hid (ent_below EA8.out hb9); have HA9 := Lib.hid (tyP_below HA8.out hb9); have HB9 := Lib.hid (HB8.out.trans (hb9.mono HB8.out.size))
 have HL9 := Lib.hid (tyP_below HL8.out hb9)
 clear hb9 EA8 HA8 HB8 HL8
 go_wp2_with fail
 refine (fn_any r8 _ _ (.v 1) w9 HL9.out (tyP_v.2 ⟨_, _, _, _, rfl⟩)).mono ?_
 rintro e w10 ⟨r10, rfl, hb10, hh10⟩
 have EA10 := Lib.hid (ent_below EA9.out hb10); have HA10 := Lib.hid (tyP_below HA9.out hb10); have HB10 := Lib.hid (HB9.out.trans (hb10.mono HB9.out.size))
 have HC10 := Lib.hid (show TyP w10 r10 Ux.liB from hh10.now)
 obtain ⟨c0, c1, cq, cm, cc, rfl⟩ := tyP_sh hh10.now
 clear hb10 hh10 EA9 HA9 HB9 HL9
 go_upto_region 4 with fail
 have EC := Lib.hid (ent_new w10 #[.int .i64 c0, .string c1, .slice cq cm cc] 30)
 have hb11 : Below w10.heap.size w10 (w10.alloc (.cells #[.int .i64 c0, .string c1, .slice cq cm cc] 30)) := (Below.refl _ _).alloc (Nat.le_refl _) _
 have EA11 := Lib.hid (ent_below EA10.out hb11); have HA11 := Lib.hid (tyP_below HA10.out hb11); have HB11 := Lib.hid (HB10.out.trans (hb11.mono HB10.out.size))
 have HC11 := Lib.hid (tyP_below HC10.out hb11)
 generalize w10.heap.size = bc at EC ⊢
 generalize w10.alloc (.cells #[.int .i64 c0, .string c1, .slice cq cm cc] 30) = w11 at EC EA11 HA11 HB11 HC11 ⊢
 clear hb11 EA10 HA10 HB10 HC10
 have t0 := ent_cell EA11.out 0 _ rfl
 have t1 := ent_cell EA11.out 1 _ rfl
 have t2 := ent_cell EA11.out 2 _ rfl
 have c0' := ent_cell EC.out 0 _ rfl
 have c1' := ent_cell EC.out 1 _ rfl
 have c2' := ent_cell EC.out 2 _ rfl
 have HS11 := Lib.hid (HS.out.keep (HB11.out.block sb HSL.out) fun x hx => hx.elim)
 go_wp2_with fail
 refine (unify1_any sb Ux.liA Ux.liB _ _ w11 HS11.out HA11.out HC11.out li_sz).mono ?_
 rintro e w12 ⟨hc12, ⟨rfl, f', hmade, hsub, _⟩ | ⟨rfl, hnever, _⟩⟩
 · obtain ⟨N, hN⟩ := hmade.1.norm
   have h1 := Ux.li_of (Ux.made_one hmade hN)
   have HN0 := Lib.hid (show (Ux.Ty.v 0).app N = Ux.liL by rw [Ux.app_v]; exact h1.1)
   have HN1 := Lib.hid h1.2
   have HF := Lib.hid hmade.1
   have HNN := Lib.hid hN
   have HD := Lib.hid (made_dom hmade Ux.li_vs.1 Ux.li_vs.2)
   have HMP := Lib.hid (show ∃ es k, w11.heap[sb]? = some (.map es k) from HS11.out.p.map)
   have HA12 := Lib.hid (tyP_chg HMP.out hc12 HA11.out)
   have EA12 := Lib.hid (ent_chg EA11.out hc12 (fun e => by obtain ⟨es, k, h⟩ := HMP.out; rw [← e, EA11.out] at h; cases h))
   have HB12 := Lib.hid (show Below w.heap.size w w12 from (HB.out.trans (HB11.out.mono HB.out.size)).trans (hc12.below (by have := HB11.out.size; have := HB.out.size; omega) fun k hk => by rw [hk]; exact HSB.out))
   have HSU := Lib.hid hsub
   clear hc12 hmade hsub hN h1 t0 t1 t2 c0' c1' c2' HA11 HC11 EA11 EC HB11 HS11 HMP
   go_wp2_with fail
   refine (var_any 0 w12).mono ?_
   rintro e w13 ⟨rfl, hb13⟩
   have HB13 := Lib.hid (HB12.out.trans (hb13.mono HB12.out.size))
   have HA13 := Lib.hid (tyP_below HA12.out hb13); have EA13 := Lib.hid (ent_below EA12.out hb13)
   have HSU13 := Lib.hid (HSU.out.below hb13)
   clear hb13 HA12 EA12 HSU HB12
   go_wp2_with fail
   refine (apply_ok HF.out HNN.out (t := .v 0) HSU13.out (tyP_v.2 ⟨_, _, _, _, rfl⟩) HD.out (by rw [HN0.out]; exact li_okL)).mono ?_
   rintro e w14 ⟨r14, rfl, hb14, hh14⟩
   rw [HN0.out] at hh14
   have HT14 := Lib.hid hh14
   have HB14 := Lib.hid (HB13.out.trans (hb14.mono HB13.out.size))
   have HA14 := Lib.hid (tyP_below HA13.out hb14); have EA14 := Lib.hid (ent_below EA13.out hb14)
   have HSU14 := Lib.hid (HSU13.out.below hb14)
   clear hb14 hh14 HA13 EA13 HSU13 HB13
   go_wp2_with fail
   refine (text_ok li_okL r14 w14 HT14.out (HTB.out w14 HB14.out)).mono ?_
   rintro e w15 ⟨rfl, hb15⟩
   rw [Ux.li_text]
   have HB15 := Lib.hid (HB14.out.trans (hb15.mono HB14.out.size))
   have HA15 := Lib.hid (tyP_below HA14.out hb15); have EA15 := Lib.hid (ent_below EA14.out hb15)
   have HSU15 := Lib.hid (HSU14.out.below hb15)
   clear hb15 HA14 EA14 HSU14 HB14 HT14
   have t0 := ent_cell EA15.out 0 _ rfl
   have t1 := ent_cell EA15.out 1 _ rfl
   have t2 := ent_cell EA15.out 2 _ rfl
   go_wp2_with fail
   refine (apply_ok HF.out HNN.out (t := Ux.liA) HSU15.out HA15.out HD.out (by rw [HN1.out]; exact li_okA)).mono ?_
   rintro e w16 ⟨r16, rfl, hb16, hh16⟩
   rw [HN1.out] at hh16
   have HT16 := Lib.hid hh16
   have HB16 := Lib.hid (HB15.out.trans (hb16.mono HB15.out.size))
   clear hb16 hh16 t0 t1 t2 HA15 EA15 HSU15 HB15
   go_wp2_with fail
   refine (text_ok li_okA r16 w16 HT16.out (HTB.out w16 HB16.out)).mono ?_
   rintro e w17 ⟨rfl, hb17⟩
   rw [Ux.li_text2]
   have HB17 := Lib.hid (HB16.out.trans (hb17.mono HB16.out.size))
   clear hb17 HT16 HB16
   go_wp2_with fail
   go_ret
   exact ⟨rfl, HB17.out⟩
 · exact absurd Ux.li_one (hnever Ux.liS fun n t h => by cases h)
end Go.Proofs.YtcblppojnailpaaDoor
namespace Go.Proofs.YtcblppojnailpaaDoor
open Go Go.RowKit
set_option linter.unusedVariables false
set_option linter.unusedSimpArgs false
namespace Ux
end Ux
/-- The map of the numbers of a list. -/
def FarAt (w : World) (b : Nat) (vl : List Nat) : Prop := ∃ Lm, MapK encInt (fun _ _ => True) w b Lm ∧ ∀ n : Nat, lookL (n : Int) Lm = if n ∈ vl then some (.bool true) else none
theorem FarAt.lt {w : World} {b : Nat} {vl : List Nat} (h : FarAt w b vl) : b < w.heap.size := by obtain ⟨Lm, h1, _⟩ := h; exact h1.lt
theorem FarAt.keep {w w' : World} {b : Nat} {vl : List Nat} (h : FarAt w b vl) (hb : w'.heap[b]? = w.heap[b]?) : FarAt w' b vl := by obtain ⟨Lm, h1, h2⟩ := h; exact ⟨Lm, h1.keep hb fun _ _ => trivial, h2⟩
theorem FarAt.below {w w' : World} {b : Nat} {vl : List Nat} (h : FarAt w b vl) (hb : Below w.heap.size w w') : FarAt w' b vl := h.keep (hb.block b h.lt)
theorem FarAt.look {w : World} {b : Nat} {vl : List Nat} (h : FarAt w b vl) (n : Nat) : (Instr.lookup 46 (.map (some b)) (.int .i64 (n : Int)) false).run Tryd.prog w = .ok (.bool (decide (n ∈ vl))) w := by
 obtain ⟨Lm, h1, h2⟩ := h
 have h3 := (h1.look lawI Tryd.underlying46 (z := .bool false) (by kernel_rfl) (n : Int) trivial).1
 rw [h2 n] at h3
 by_cases hn : n ∈ vl
 · rw [if_pos hn] at h3; rw [decide_eq_true hn]; exact h3
 · rw [if_neg hn] at h3; rw [decide_eq_false hn]; exact h3
theorem typ13 (l : List Ux.Nod) (v : Value) (w : World) (hl : RowAt 3 NodV w v l) (h : l.length ≤ 1000000) :
 Calls Tryd.prog 11 #[v, .int .i64 0] w fun e w' => ∃ tv, e = .returned (.tuple #[tv, .int .i64 ((Ux.typN 13 l).2 : Int)]) ∧ New TyP w w' tv (Ux.typN 13 l).1 ∧ Below w.heap.size w w' := lawTyp_any 13 l v w (by omega) hl h
end Go.Proofs.YtcblppojnailpaaDoor
namespace Go.Proofs.YtcblppojnailpaaDoor
open Go Go.RowKit
set_option linter.unusedVariables false
set_option linter.unusedSimpArgs false
/-- What the closure keeps: which numbers came, and their list. -/
def VarS (lo b3 b4 mb : Nat) (w : World) (acc : List Nat) : Prop :=
 w.heap[b4]? = some (.cells #[.map (some mb)] 75 (0, 0)) ∧ (∃ lv, w.heap[b3]? = some (.cells #[lv] 42 (0, 0)) ∧ w.ownsRow lo 3 1 lv (Ux.firsts [] acc).length (nums' (Ux.firsts [] acc))) ∧
  (∃ Lm, MapK encInt (fun _ _ => True) w mb Lm ∧ ∀ n : Nat, lookL (n : Int) Lm = if n ∈ acc then some (.agg #[]) else none) ∧ lo ≤ b3 ∧ lo ≤ b4 ∧ lo ≤ mb ∧ lo ≤ w.heap.size
/-- Blocks but the closure's, and those of numbers, stay. -/
def KeepV (b3 mb : Nat) (w w' : World) : Prop := w.heap.size ≤ w'.heap.size ∧ ∀ c o, w.heap[c]? = some o → c ≠ b3 → c ≠ mb → (∀ cs fr, o ≠ .cells cs 3 fr) → w'.heap[c]? = some o
theorem VarS.keep {lo b3 b4 mb : Nat} {w w' : World} {acc : List Nat} (h : VarS lo b3 b4 mb w acc) (hs : w.heap.size ≤ w'.heap.size) (hk : ∀ c o, w.heap[c]? = some o → (c = b3 ∨ c = b4 ∨ c = mb ∨ ∃ cs, o = .cells cs 3 (0, 0)) → w'.heap[c]? = some o) : VarS lo b3 b4 mb w' acc := by
 obtain ⟨h1, ⟨lv, h2, h3⟩, ⟨Lm, h4, h5⟩, l1, l2, l3, l4⟩ := h
 refine ⟨hk _ _ h1 (.inr (.inl rfl)), ⟨lv, hk _ _ h2 (.inl rfl), own_same h3 fun g hg => ?_⟩, ⟨Lm, ?_, h5⟩, l1, l2, l3, by omega⟩
 · rcases h3.2 with ⟨rfl, _⟩ | ⟨g', cap, cur, rfl, _, hg', _⟩
   · simp [Value.ownBlock] at hg
   · simp only [Value.ownBlock, Option.some.injEq] at hg
     subst hg
     rw [hk _ _ hg' (.inr (.inr (.inr ⟨_, rfl⟩))), hg']
 · obtain ⟨es, k, hm⟩ := h4.obj
   exact h4.keep ((hk _ _ hm (.inr (.inr (.inl rfl)))).trans hm.symm) fun _ _ => trivial
theorem VarS.below {lo b3 b4 mb : Nat} {w w' : World} {acc : List Nat} (h : VarS lo b3 b4 mb w acc) (hb : Below w.heap.size w w') : VarS lo b3 b4 mb w' acc := h.keep hb.size fun c o ho _ => ent_below ho hb
theorem firsts_snoc (acc : List Nat) (n : Nat) : Ux.firsts [] (acc ++ [n]) = if n ∈ acc then Ux.firsts [] acc else Ux.firsts [] acc ++ [n] := by
 rw [Ux.firsts_app, firsts_one]
 by_cases h : n ∈ acc
 · rw [if_pos h, if_pos (by simpa using (Ux.firsts_mem n acc []).2 (.inr h))]
 · rw [if_neg h, if_neg (by
    intro h2
    have := (Ux.firsts_mem n acc []).1 (by simpa using h2)
    simp at this
    exact h this)]
theorem VarS.look {lo b3 b4 mb : Nat} {w : World} {acc : List Nat} (h : VarS lo b3 b4 mb w acc) (n : Nat) : (Instr.lookup 75 (.map (some mb)) (.int .i64 (n : Int)) true).run Tryd.prog w = .ok (.tuple #[.agg #[], .bool (decide (n ∈ acc))]) w := by
 obtain ⟨h1, _, ⟨Lm, h4, h5⟩, _⟩ := h
 have h3 := (h4.look lawI Tryd.underlying75 (z := .agg #[]) (by kernel_rfl) (n : Int) trivial).2
 rw [h5 n] at h3
 by_cases hn : n ∈ acc
 · rw [if_pos hn] at h3; rw [decide_eq_true hn]; exact h3
 · rw [if_neg hn] at h3; rw [decide_eq_false hn]; exact h3
def FoundPost (lo b3 b4 mb : Nat) (acc : List Nat) (w : World) (e : Ending) (w' : World) : Prop := e = .returned (.tuple #[]) ∧ VarS lo b3 b4 mb w' acc ∧ Below lo w w' ∧ KeepV b3 mb w w'
set_option maxHeartbeats 4000000 in
set_option maxRecDepth 100000 in
theorem found_any (lo b3 b4 mb n : Nat) (acc : List Nat) (w : World) (h : VarS lo b3 b4 mb w acc) (hlen : acc.length ≤ 30000000000) :
 Calls Tryd.prog 39 #[.int .i64 (n : Int), .pointer (some ⟨b4, 0, none⟩), .pointer (some ⟨b3, 0, none⟩)] w (FoundPost lo b3 b4 mb (acc ++ [n]) w) := by
 have HV := Lib.hid h
 have hlk := h.look n
 obtain ⟨h1, ⟨lv, h2, h3⟩, h4, l1, l2, l3, l4⟩ := h
 obtain ⟨lp, lc, rfl⟩ := own_slice h3
 have H1 := Lib.hid h1; have H2 := Lib.hid h2; have H3 := Lib.hid h3; have H4 := Lib.hid h4
 have c1 := ent_cell h1 0 _ rfl
 clear h1 h2 h3 h4
 by_cases hin : n ∈ acc
 · rw [decide_eq_true hin] at hlk
   go_enter Tryd.func39, Tryd.ntmps39
   go_wp2_with fail
   refine bodyPost_end (v := .tuple #[]) (by simp [results, Tryd.results39, go_sem]) rfl ?_
   have hba : Below w.heap.size w (w.alloc (.cells #[] 77)) := (Below.refl _ _).alloc (Nat.le_refl _) _
   refine ⟨rfl, ?_, hba.mono l4, hba.size, fun c o ho _ _ _ => ent_below ho hba⟩
   obtain ⟨h1, ⟨lv, h2, h3⟩, ⟨Lm, h4, h5⟩, _⟩ := HV.out.below hba
   refine ⟨h1, ⟨lv, h2, by rw [firsts_snoc, if_pos hin]; exact h3⟩, ⟨Lm, h4, fun k => ?_⟩, l1, l2, l3, Nat.le_trans l4 hba.size⟩
   rw [h5 k]
   by_cases hk : k ∈ acc
   · rw [if_pos hk, if_pos (List.mem_append.2 (.inl hk))]
   · rw [if_neg hk, if_neg (fun h => (List.mem_append.1 h).elim hk fun h2 => hk (by rw [List.mem_singleton.1 h2]; exact hin))]
 · rw [decide_eq_false hin] at hlk
   have hba : Below w.heap.size w (w.alloc (.cells #[] 77)) := (Below.refl _ _).alloc (Nat.le_refl _) _
   obtain ⟨Lm, hm, h5⟩ := H4.out
   have hma := hm.keep (hba.block _ hm.lt) fun _ _ => trivial
   obtain ⟨w2, hup, hm2, hgr2⟩ := hma.update lawI Tryd.underlying75 (n : Int) trivial (.agg #[]) (fun _ _ _ _ _ => trivial)
   replace hup : (Instr.mapUpdate 75 (.map (some mb)) (.int .i64 (n : Int)) (.agg #[])).run Tryd.prog (w.alloc (.cells #[] 77)) = .ok () w2 := hup
   have hc2 : Chg (· = mb) (w.alloc (.cells #[] 77)) w2 := Chg.grown hgr2 fun k hk => (Option.some.inj hk).symm
   have hmm : ∃ es k, w.heap[mb]? = some (.map es k) := hm.obj
   have HMM := Lib.hid hmm
   have ne34 : b4 ≠ mb := fun e => by obtain ⟨es, k, h⟩ := hmm; rw [← e, H1.out] at h; cases h
   have ne33 : b3 ≠ mb := fun e => by obtain ⟨es, k, h⟩ := hmm; rw [← e, H2.out] at h; cases h
   have E42 := Lib.hid (ent_chg (ent_below H1.out hba) hc2 ne34)
   have E32 := Lib.hid (ent_chg (ent_below H2.out hba) hc2 ne33)
   have HO2 := Lib.hid (own_chg (own_kept H3.out hba) hc2 fun b hb e => by
    obtain ⟨es, k, h⟩ := hmm
    exact own_ne (own_kept H3.out hba) (ent_below h hba) (fun cs h => by cases h) (by rw [← e]; exact hb))
   have HM2 : Hid (∃ Lm, MapK encInt (fun _ _ => True) w2 mb Lm ∧ ∀ k : Nat, lookL (k : Int) Lm = if k ∈ acc ++ [n] then some (.agg #[]) else none) := Lib.hid ⟨_, hm2, fun k => by
    rw [lookL_set]
    by_cases e : k = n
    · rw [if_pos (by omega), if_pos (by simp [e])]
    · rw [if_neg (by omega), h5 k]
      by_cases h : k ∈ acc
      · rw [if_pos h, if_pos (List.mem_append.2 (.inl h))]
      · rw [if_neg h, if_neg (fun h2 => (List.mem_append.1 h2).elim h fun h3 => e (List.mem_singleton.1 h3))]⟩
   have HB2 := Lib.hid (show Below lo w w2 from (hba.mono l4).trans (hc2.below (by have := hba.size; omega) fun k hk => by rw [hk]; exact l3))
   have HK2 : Hid (KeepV b3 mb w w2) := Lib.hid ⟨HB2.out.size, fun c o ho _ h2 _ => ent_chg (ent_below ho hba) hc2 h2⟩
   have HL2 := Lib.hid (show w.heap.size ≤ w2.heap.size from HB2.out.size)
   have c1a := ent_cell (ent_below H1.out hba) 0 _ rfl
   have c32 := ent_cell E32.out 0 _ rfl
   have f32 := ent_free E32.out
   have hn1 : (Ux.firsts [] acc).length ≤ 30000000000 := by have := firsts_len acc []; simp at this; omega
   obtain ⟨n1, hn1e⟩ : ∃ n1, n1 = (Ux.firsts [] acc).length := ⟨_, rfl⟩
   rw [← hn1e] at HO2 E32 c32 hn1
   have HNE := Lib.hid hn1e
   clear hm h5 hma hm2 hgr2 hc2 hmm ne34 ne33 hn1e H3 H4 HV
   go_enter Tryd.func39, Tryd.ntmps39
   go_upto_region 3 with fail
   clear hup hlk c1 c1a
   go_wp2_with (at_builtin; refine wpList_append_new eltInt w2 rfl (.tmp 17) (.tmp 19) rfl lo (.slice lp n1 lc) n1 (nums' (Ux.firsts [] acc)) rfl HO2.out #[.int .i64 (n : Int)] 3 rfl rfl (by intro u hu; rw [List.mem_singleton.1 hu]; rfl) (by omega) (by have := HL2.out; omega) ?_)
   intro v4 w4 ho4 hc4 hl4
   obtain ⟨p4, c4, rfl⟩ := own_slice ho4
   have hb3o : (Value.slice lp n1 lc).ownBlock ≠ some b3 := own_ne HO2.out E32.out (fun cs e => by injection e with _ e _; cases e)
   have E34 := Lib.hid (ent_chg E32.out hc4 hb3o)
   have E44 := Lib.hid (ent_chg E42.out hc4 (own_ne HO2.out E42.out (fun cs e => by injection e with _ e _; cases e)))
   have HM4 : Hid (∃ Lm, MapK encInt (fun _ _ => True) w4 mb Lm ∧ ∀ k : Nat, lookL (k : Int) Lm = if k ∈ acc ++ [n] then some (.agg #[]) else none) := Lib.hid (by
    obtain ⟨Lm, h1, h2⟩ := HM2.out
    obtain ⟨es, k, h⟩ := h1.obj
    exact ⟨Lm, h1.keep (hc4.block _ h1.lt (own_ne HO2.out h (fun cs e => by cases e))) fun _ _ => trivial, h2⟩)
   have HB4 := Lib.hid (HB2.out.trans (hc4.below (by have := HL2.out; omega) fun k hk => (HO2.out.lt k hk).1))
   have HK4 : Hid (KeepV b3 mb w w4) := Lib.hid ⟨HB4.out.size, fun c o ho h1 h2 h3 => ent_chg (HK2.out.2 c o ho h1 h2 h3) hc4 fun e => (own_ne HO2.out (HK2.out.2 c o ho h1 h2 h3) (fun cs e => h3 cs (0, 0) e)) e⟩
   have HO4 := Lib.hid ho4
   have c34 := ent_cell E34.out 0 _ rfl
   have f34 := ent_free E34.out
   clear ho4 hc4 hl4 hb3o c32 f32
   go_wp2_with fail
   refine bodyPost_end (v := .tuple #[]) (by simp [results, Tryd.results39, go_sem]) rfl ?_
   have hne : ∀ {c : Nat} {o : Obj}, c ≠ b3 → w4.heap[c]? = some o → (w4.setCell ⟨b3, 0, none⟩ (.slice p4 (n1 + 1) c4)).heap[c]? = some o := fun h1 h2 => (Below.heap_setCell w4 ⟨b3, 0, none⟩ _ _ h1).trans h2
   have ne43 : b4 ≠ b3 := fun e => by have h := E44.out; rw [e, E34.out] at h; injection h with h; injection h with _ h _; cases h
   have nem3 : mb ≠ b3 := fun e => by obtain ⟨es, k, h⟩ := HMM.out; rw [e, H2.out] at h; cases h
   refine ⟨rfl, ⟨hne ne43 E44.out, ⟨_, (by have := ent_set E34.out 0 (.slice p4 (n1 + 1) c4); simpa using this), ?_⟩, ?_, l1, l2, l3, ?_⟩, HB4.out.setCell (p := ⟨b3, 0, none⟩) l1 _, ?_, fun c o ho h1 h2 h3 => hne h1 (HK4.out.2 c o ho h1 h2 h3)⟩
   · rw [firsts_snoc, if_neg hin, ← nums_snoc, List.length_append, ← HNE.out]
     exact own_same HO4.out fun k hk => Below.heap_setCell w4 ⟨b3, 0, none⟩ _ k (fun e => own_ne HO4.out E34.out (fun cs e => by injection e with _ e _; cases e) (by rw [hk, e]))
   · obtain ⟨Lm, h1, h2⟩ := HM4.out
     exact ⟨Lm, h1.keep (Below.heap_setCell w4 ⟨b3, 0, none⟩ _ mb nem3) fun _ _ => trivial, h2⟩
   · have := HB4.out.size; simp; omega
   · have := HK4.out.1; simpa using this
end Go.Proofs.YtcblppojnailpaaDoor
namespace Go.Proofs.YtcblppojnailpaaDoor
open Go Go.RowKit
set_option linter.unusedVariables false
set_option linter.unusedSimpArgs false
/-- The blocks of the lists, and of the first one. -/
def QE (Q : LKey → Prop) (a0 : Nat) (x : LKey) : Prop := x.1 = a0 ∨ ∃ q, Q q ∧ q.1 = x.1
structure EvC where
 lo : Nat
 b3 : Nat
 b4 : Nat
 mb : Nat
 a0 : Nat
 sb : Nat
structure EvI (c : EvC) (Q : LKey → Prop) (w1 : World) (seen : List (List Ux.Ty)) (fs : List Ux.Fr) (acc : List Nat) (vals : List Value) (ov : Value) (w : World) : Prop where
 own : w.ownsRow (c.a0 + 1) 28 1 ov fs.length vals
 fr : ∀ (i : Nat) (f : Ux.Fr), fs.reverse[i]? = some f → ∃ v, vals[i]? = some v ∧ RowQ (QE Q c.a0) (TyQ Q w1) w1 v f.2
 seenm : ∃ Ls, MapK encL (FreeQ Q) w c.sb Ls ∧ ∀ (x : LKey) (val : Value), lookL x Ls = some val → val = .agg #[] ∧ ∃ (xs : List Ux.Ty) (cap : Nat), xs ∈ seen ∧ RowQ Q (TyQ Q w1) w1 (.slice (some ⟨x.1, x.2.1, none⟩) x.2.2 cap) xs
 var : VarS c.lo c.b3 c.b4 c.mb w acc
 same : ∀ x, QE Q c.a0 x → w.heap[x.1]? = w1.heap[x.1]?
 a0c : ∃ cs, w1.heap[c.a0]? = some (.cells cs 30 (0, 0))
 ne : c.sb ≠ c.mb ∧ c.sb ≠ c.b3 ∧ c.sb ≠ c.b4
 low : c.lo ≤ c.a0 ∧ c.lo ≤ c.sb ∧ c.a0 < w1.heap.size ∧ c.sb < w1.heap.size ∧ w1.heap.size ≤ w.heap.size
 q : ∀ x, Q x → x.1 < c.lo
 below : Below c.lo w1 w
variable {c : EvC} {Q : LKey → Prop} {w1 : World} {seen : List (List Ux.Ty)} {fs : List Ux.Fr} {acc : List Nat} {vals : List Value} {ov : Value} {w w' : World}
theorem EvI.vlen (h : EvI c Q w1 seen fs acc vals ov w) : vals.length = fs.length := by have := h.own.1; simpa using this
theorem EvI.qlt (h : EvI c Q w1 seen fs acc vals ov w) {x : LKey} (hx : QE Q c.a0 x) : x.1 < w1.heap.size := by
 rcases hx with h1 | ⟨q, h1, h2⟩
 · have := h.low; omega
 · have := h.q q h1; have := h.low; omega
/-- While but blocks of R change. -/
theorem EvI.keep {R : Nat → Prop} (h : EvI c Q w1 seen fs acc vals ov w) (hc : Chg R w w') (hown : ∀ b, ov.ownBlock = some b → ¬ R b) (hsb : ¬ R c.sb) (hq : ∀ x, QE Q c.a0 x → ¬ R x.1) (hlo : ∀ b, R b → c.lo ≤ b) (hv : VarS c.lo c.b3 c.b4 c.mb w' acc) : EvI c Q w1 seen fs acc vals ov w' := by
 obtain ⟨Ls, hm, hL⟩ := h.seenm
 have hqq : ∀ x, QE Q c.a0 x → w'.heap[x.1]? = w.heap[x.1]? := fun x hx => hc.block _ (by have := h.qlt hx; have := h.low; omega) (hq x hx)
 exact ⟨own_chg h.own hc hown, h.fr, ⟨Ls, hm.keep (hc.block _ hm.lt hsb) (freeQ_keep fun x hx => hqq x (.inr ⟨x, hx, rfl⟩)), hL⟩, hv, fun x hx => (hqq x hx).trans (h.same x hx), h.a0c, h.ne, by have := h.low; have := hc.size; omega, h.q, h.below.trans (hc.below (by have := h.low; omega) hlo)⟩
theorem EvI.grow (h : EvI c Q w1 seen fs acc vals ov w) (hb : Below w.heap.size w w') : EvI c Q w1 seen fs acc vals ov w' :=
 h.keep (R := fun _ => False) (.of_below hb) (fun _ _ h => h) (fun h => h) (fun _ _ h => h) (fun _ h => h.elim) (h.var.below hb)
/-- What the closure leaves alone. -/
theorem KeepV.ent {lo b3 b4 mb : Nat} {acc : List Nat} (hk : KeepV b3 mb w w') (hv : VarS lo b3 b4 mb w acc) {g : Nat} {cs : Array Value} {T : TypeId} (h : w.heap[g]? = some (.cells cs T (0, 0))) (h1 : T ≠ 3) (h2 : T ≠ 42) : w'.heap[g]? = some (.cells cs T (0, 0)) := by
 obtain ⟨_, ⟨lv, hb3, _⟩, ⟨Lm, h4, _⟩, _⟩ := hv
 obtain ⟨es2, k2, h5⟩ := h4.obj
 refine hk.2 _ _ h (fun e => ?_) (fun e => ?_) (fun cs fr e => ?_)
 · rw [e, hb3] at h; injection h with h; injection h with _ h _; exact h2 h.symm
 · rw [e, h5] at h; cases h
 · injection e with _ e _; exact h1 e
theorem EvI.told (h : EvI c Q w1 seen fs acc vals ov w) {acc' : List Nat} (hv : VarS c.lo c.b3 c.b4 c.mb w' acc') (hb : Below c.lo w w') (hk : KeepV c.b3 c.mb w w') : EvI c Q w1 seen fs acc' vals ov w' := by
 obtain ⟨Ls, hm, hL⟩ := h.seenm
 obtain ⟨es, kk, hmo⟩ := hm.obj
 have hqq : ∀ x, QE Q c.a0 x → w'.heap[x.1]? = w.heap[x.1]? := fun x hx => by
  rcases hx with e | ⟨q, h1, h2⟩
  · obtain ⟨cs, ha⟩ := h.a0c
    have ha2 : w.heap[c.a0]? = some (.cells cs 30 (0, 0)) := by rw [← e, h.same x (.inl e), e]; exact ha
    rw [e, hk.ent h.var ha2 (by decide) (by decide), ha2]
  · exact hb.block _ (by have := h.q q h1; omega)
 refine ⟨own_same h.own fun g hg => ?_, h.fr, ⟨Ls, hm.keep ((hk.2 _ _ hmo h.ne.2.1 h.ne.1 (fun cs fr e => by cases e)).trans hmo.symm) (freeQ_keep fun x hx => hqq x (.inr ⟨x, hx, rfl⟩)), hL⟩, hv, fun x hx => (hqq x hx).trans (h.same x hx), h.a0c, h.ne, by have := h.low; have := hk.1; omega, h.q, h.below.trans hb⟩
 rcases h.own.2 with ⟨e, _⟩ | ⟨g', cap, cur, e, _, hg', _⟩
 · rw [e] at hg; simp [Value.ownBlock] at hg
 · rw [e] at hg
   simp only [Value.ownBlock, Option.some.injEq] at hg
   subst hg
   rw [hk.ent h.var hg' (by decide) (by decide), hg']
/-- The element that is on top. -/
theorem EvI.top {f : Ux.Fr} {r : List Ux.Fr} (h : EvI c Q w1 seen (f :: r) acc vals ov w) : ∃ (g : Nat) (cap : Nat) (cur : Array Value) (q : Option Addr) (cp : Nat), ov = .slice (some ⟨g, 0, none⟩) (r.length + 1) cap ∧ r.length + 1 ≤ cap ∧ (cap : Int) ≤ 9223372036854775807 ∧ c.a0 < g ∧ w.heap[g]? = some (.cells cur 28 (0, 0)) ∧ w.cell? ⟨g, r.length, none⟩ = some (.slice q f.2.length cp) ∧ vals[r.length]? = some (.slice q f.2.length cp) ∧ RowQ (QE Q c.a0) (TyQ Q w1) w1 (.slice q f.2.length cp) f.2 := by
 obtain ⟨v, hv, hr⟩ := h.fr r.length f (by simp)
 obtain ⟨q, cp, rfl⟩ := hr.len
 obtain ⟨p, cc, rfl⟩ := own_slice h.own
 obtain ⟨g, cur, rfl, hb, hg, hcap, hcap2, hgh, hcell⟩ := own_open h.own (by simp)
 exact ⟨g, cc, cur, q, cp, rfl, by simpa using hcap, hcap2, hb, hgh, ent_cell hgh _ _ (hcell _ _ hv), hv, hr⟩
theorem EvI.pop {o : List Ux.Ty} {r : List Ux.Fr} {g cap : Nat} (h : EvI c Q w1 seen ((o, []) :: r) acc vals (.slice (some ⟨g, 0, none⟩) (r.length + 1) cap) w) : EvI c Q w1 seen r acc (vals.take (r.length * 1)) (.slice (some ⟨g, 0, none⟩) r.length cap) w := by
 refine ⟨own_cut h.own (by simp), fun i f hi => ?_, h.seenm, h.var, h.same, h.a0c, h.ne, h.low, h.q, h.below⟩
 have hil : i < r.length := by have := (List.getElem?_eq_some_iff.1 hi).1; simpa using this
 obtain ⟨v, h1, h2⟩ := h.fr i f (by rw [List.reverse_cons, List.getElem?_append_left (by simpa using hil)]; exact hi)
 exact ⟨v, by rw [List.getElem?_take, if_pos (by omega)]; exact h1, h2⟩
theorem rowQ_tail {Q' : LKey → Prop} {gr of m cp : Nat} {p' : Option Addr} {x : Ux.Ty} {xs : List Ux.Ty} (hm : m = xs.length + 1) (h : RowQ (QE Q' c.a0) (TyQ Q' w1) w1 (.slice (some ⟨gr, of, none⟩) m cp) (x :: xs)) (hp : 0 < xs.length → p' = some ⟨gr, of + 3, none⟩) : RowQ (QE Q' c.a0) (TyQ Q' w1) w1 (.slice p' xs.length (cp - 1)) xs := by
 rcases h with ⟨h0, _⟩ | ⟨g', o', c', cs, T, hv, h1, h2, h3, h4, h5, h6⟩
 · cases h0
 · injection hv with e1 e2 e3
   injection e1 with e1
   injection e1 with e4 e5 _
   subst e3; subst e4; subst e5
   cases hr : xs with
   | nil => exact .inl ⟨rfl, _, _, rfl⟩
   | cons y r' =>
     rw [← hr]
     have hpos : 0 < xs.length := by rw [hr]; simp
     rw [hp hpos]
     simp only [List.length_cons] at h3
     refine .inr ⟨gr, of + 3, cp - 1, cs, T, rfl, by rw [hr]; simp, h2.imp id fun ⟨q, a, b⟩ => ⟨q, a, b⟩, by omega, by omega, h5, fun i x' hx => ?_⟩
     obtain ⟨u, hu, hs, hc⟩ := h6 (i + 1) x' (by simpa using hx)
     exact ⟨u, hu, hs, fun j z hz => by have := hc j z hz; rwa [show of + (i + 1) * 3 + j = of + 3 + i * 3 + j by omega] at this⟩
theorem EvI.adv {o xs : List Ux.Ty} {x : Ux.Ty} {r : List Ux.Fr} {g cap : Nat} {nv : Value} (h : EvI c Q w1 seen ((o, x :: xs) :: r) acc vals (.slice (some ⟨g, 0, none⟩) (r.length + 1) cap) w) (hn : RowQ (QE Q c.a0) (TyQ Q w1) w1 nv xs) (hg : c.a0 < g) {cur : Array Value} (hgh : w.heap[g]? = some (.cells cur 28 (0, 0))) : EvI c Q w1 seen ((o, xs) :: r) acc (vals.set r.length nv) (.slice (some ⟨g, 0, none⟩) (r.length + 1) cap) (w.setCell ⟨g, r.length, none⟩ nv) := by
 have hvl := h.vlen
 have hc := Chg.set (R := (· = g)) (w := w) (p := ⟨g, r.length, none⟩) rfl nv
 obtain ⟨Ls, hm, hL⟩ := h.seenm
 have hgq : ∀ x, QE Q c.a0 x → x.1 ≠ g := fun x hx => by
  rcases hx with e | ⟨q, h1, h2⟩
  · omega
  · have := h.q q h1; have := h.low; omega
 have hqq : ∀ x, QE Q c.a0 x → (w.setCell ⟨g, r.length, none⟩ nv).heap[x.1]? = w.heap[x.1]? := fun x hx => Below.heap_setCell w _ _ _ (hgq x hx)
 have hsb : c.sb ≠ g := fun e => by obtain ⟨es, k, hmo⟩ := hm.obj; rw [e, hgh] at hmo; cases hmo
 refine ⟨own_setAt h.own r.length nv (by rw [hvl]; simp), fun i f hi => ?_, ⟨Ls, hm.keep (Below.heap_setCell w _ _ _ hsb) (freeQ_keep fun x hx => hqq x (.inr ⟨x, hx, rfl⟩)), hL⟩, ?_, fun x hx => (hqq x hx).trans (h.same x hx), h.a0c, h.ne, by have := h.low; simpa using this, h.q, h.below.setCell (p := ⟨g, r.length, none⟩) (by have := h.low; show c.lo ≤ g; omega) _⟩
 · by_cases hin : i = r.length
   · subst hin
     rw [List.reverse_cons, List.getElem?_append_right (by simp)] at hi
     simp at hi
     subst hi
     exact ⟨nv, by rw [List.getElem?_set_self (by rw [hvl]; simp)], hn⟩
   · have hil : i < r.length := by have := (List.getElem?_eq_some_iff.1 hi).1; simp at this; omega
     rw [List.reverse_cons, List.getElem?_append_left (by simpa using hil)] at hi
     obtain ⟨v, h1, h2⟩ := h.fr i f (by rw [List.reverse_cons, List.getElem?_append_left (by simpa using hil)]; exact hi)
     exact ⟨v, by rw [List.getElem?_set_ne (fun e => hin e.symm)]; exact h1, h2⟩
 · refine h.var.keep (by simp) fun b ob hb hor => (Below.heap_setCell w _ _ _ fun e => ?_).trans hb
   have e' : b = g := e
   subst e'
   rw [hgh] at hb
   injection hb with hb
   obtain ⟨v1, ⟨lv, v2, _⟩, ⟨Lm, v4, _⟩, _⟩ := h.var
   rcases hor with e | e | e | ⟨cs, e⟩
   · rw [← e, hgh] at v2; injection v2 with v2; injection v2 with _ v2 _; cases v2
   · rw [← e, hgh] at v1; injection v1 with v1; injection v1 with _ v1 _; cases v1
   · obtain ⟨es, k, v5⟩ := v4.obj; rw [← e, hgh] at v5; cases v5
   · rw [e] at hb; injection hb with _ hb _; cases hb
theorem VarS.own {lo b3 b4 mb base n : Nat} {xs : List Value} (h : VarS lo b3 b4 mb w acc) (ho : w.ownsRow base 28 1 ov n xs) (hc : Chg (fun b => ov.ownBlock = some b) w w') : VarS lo b3 b4 mb w' acc := by
 refine h.keep hc.size fun b ob hb hor => (hc.block b (ent_lt hb) fun e => ?_).trans hb
 rcases ho.2 with ⟨e2, _⟩ | ⟨g', cap, cur, e2, _, hg', _⟩
 · rw [e2] at e; simp [Value.ownBlock] at e
 rw [e2] at e
 simp only [Value.ownBlock, Option.some.injEq] at e
 subst e
 rw [hg'] at hb
 injection hb with hb
 obtain ⟨v1, ⟨lv, v2, _⟩, ⟨Lm, v4, _⟩, _⟩ := h
 rcases hor with e | e | e | ⟨cs, e⟩
 · rw [← e, hg'] at v2; injection v2 with v2; injection v2 with _ v2 _; cases v2
 · rw [← e, hg'] at v1; injection v1 with v1; injection v1 with _ v1 _; cases v1
 · obtain ⟨es, k, v5⟩ := v4.obj; rw [← e, hg'] at v5; cases v5
 · rw [e] at hb; injection hb with _ hb _; cases hb
theorem EvI.push (h : EvI c Q w1 seen fs acc vals ov w) {xs : List Ux.Ty} {nv v' : Value} (hn : RowQ (QE Q c.a0) (TyQ Q w1) w1 nv xs) (ho : w'.ownsRow (c.a0 + 1) 28 1 v' (fs.length + 1) (vals ++ [nv])) (hc : Chg (fun b => ov.ownBlock = some b) w w') : EvI c Q w1 seen ((xs, xs) :: fs) acc (vals ++ [nv]) v' w' := by
 have hvl := h.vlen
 obtain ⟨Ls, hm, hL⟩ := h.seenm
 obtain ⟨es, k, hmo⟩ := hm.obj
 have hlt := h.own.lt
 have hqq : ∀ x, QE Q c.a0 x → w'.heap[x.1]? = w.heap[x.1]? := fun x hx => hc.block _ (by have := h.qlt hx; have := h.low; omega) fun e => by
  have h1 := (hlt _ e).1
  rcases hx with e2 | ⟨q, h2, h3⟩
  · omega
  · have := h.q q h2; have := h.low; omega
 refine ⟨ho, fun i f hi => ?_, ⟨Ls, hm.keep (hc.block _ hm.lt (own_ne h.own hmo fun cs e => by cases e)) (freeQ_keep fun x hx => hqq x (.inr ⟨x, hx, rfl⟩)), hL⟩, h.var.own h.own hc, fun x hx => (hqq x hx).trans (h.same x hx), h.a0c, h.ne, by have := h.low; have := hc.size; omega, h.q, h.below.trans (hc.below (by have := h.low; omega) fun b hb => by have := (hlt _ hb).1; have := h.low; omega)⟩
 by_cases hil : i < fs.length
 · rw [List.reverse_cons, List.getElem?_append_left (by simpa using hil)] at hi
   obtain ⟨v, h1, h2⟩ := h.fr i f hi
   exact ⟨v, by rw [List.getElem?_append_left (by omega)]; exact h1, h2⟩
 · have hin : i = fs.length := by have := (List.getElem?_eq_some_iff.1 hi).1; simp at this; omega
   subst hin
   rw [List.reverse_cons, List.getElem?_append_right (by simp)] at hi
   simp at hi
   subst hi
   exact ⟨nv, by rw [List.getElem?_append_right (by omega), hvl, Nat.sub_self]; rfl, hn⟩
theorem EvI.freeK (h : EvI c Q w1 seen fs acc vals ov w) {x : LKey} (hx : Q x) {xs : List Ux.Ty} {cap : Nat} (hr : RowQ Q (TyQ Q w1) w1 (.slice (some ⟨x.1, x.2.1, none⟩) x.2.2 cap) xs) (hne : xs ≠ []) : FreeQ Q w x := by
 rcases hr with ⟨h0, _⟩ | ⟨g, o, cc, cs, T, hv, _, _, _, _, h5, _⟩
 · exact absurd h0 hne
 · injection hv with e1 _ _
   injection e1 with e1
   injection e1 with e1 _ _
   exact ⟨hx, cs, T, by rw [h.same x (.inr ⟨x, hx, rfl⟩), e1]; exact h5⟩
theorem EvI.look (h : EvI c Q w1 seen fs acc vals ov w) (x : LKey) (hx : Q x) {xs : List Ux.Ty} {cap : Nat} (hr : RowQ Q (TyQ Q w1) w1 (.slice (some ⟨x.1, x.2.1, none⟩) x.2.2 cap) xs) (hne : xs ≠ []) :
 ∃ b, (b = true → xs ∈ seen) ∧ (Instr.lookup 118 (.map (some c.sb)) (encL x) true).run Tryd.prog w = .ok (.tuple #[.agg #[], .bool b]) w := by
 obtain ⟨Ls, hm, hL⟩ := h.seenm
 have hk := (hm.look (lawLQ Q) Tryd.underlying118 (z := .agg #[]) (by kernel_rfl) x (h.freeK hx hr hne)).2
 cases hl : lookL x Ls with
 | none => exact ⟨false, (fun e => by cases e), by rw [hl] at hk; exact hk⟩
 | some v =>
   obtain ⟨e, ys, cap', h1, h2⟩ := hL x v hl
   subst e
   exact ⟨true, fun _ => by rw [rowQ_one hr h2]; exact h1, by rw [hl] at hk; exact hk⟩
theorem EvI.mark (h : EvI c Q w1 seen fs acc vals ov w) (x : LKey) (hx : Q x) {xs : List Ux.Ty} {cap : Nat} (hr : RowQ Q (TyQ Q w1) w1 (.slice (some ⟨x.1, x.2.1, none⟩) x.2.2 cap) xs) (hne : xs ≠ []) :
 ∃ w', (Instr.mapUpdate 118 (.map (some c.sb)) (encL x) (.agg #[])).run Tryd.prog w = .ok () w' ∧ EvI c Q w1 (xs :: seen) fs acc vals ov w' ∧ Chg (· = c.sb) w w' := by
 obtain ⟨Ls, hm, hL⟩ := h.seenm
 obtain ⟨es, k, hmo⟩ := hm.obj
 obtain ⟨w', hup, hm2, hgr⟩ := hm.update (lawLQ Q) Tryd.underlying118 x (h.freeK hx hr hne) (.agg #[]) (freeQ_other hm.obj)
 have hc : Chg (· = c.sb) w w' := Chg.grown hgr fun b hb => (Option.some.inj hb).symm
 have hqs : ∀ x, QE Q c.a0 x → x.1 ≠ c.sb := fun x hx e => by
  rcases hx with e2 | ⟨q, h2, h3⟩
  · obtain ⟨cs, ha⟩ := h.a0c
    have h4 := h.same x (.inl e2)
    rw [e, hmo] at h4
    rw [← e2, e] at ha
    rw [ha] at h4; cases h4
  · have := h.q q h2; have := h.low; omega
 have hqq : ∀ x, QE Q c.a0 x → w'.heap[x.1]? = w.heap[x.1]? := fun x hx => hc.block _ (by have := h.qlt hx; have := h.low; omega) (hqs x hx)
 refine ⟨w', hup, ⟨own_chg h.own hc fun b hb e => own_ne h.own hmo (fun cs e => by cases e) (by rw [hb, e]), h.fr, ⟨_, hm2, fun y val hy => ?_⟩, ?_, fun x hx => (hqq x hx).trans (h.same x hx), h.a0c, h.ne, by have := h.low; have := hc.size; omega, h.q, h.below.trans (hc.below (by have := h.low; omega) fun b hb => by rw [hb]; exact h.low.2.1)⟩, hc⟩
 · rw [lookL_set] at hy
   by_cases e : y = x
   · rw [if_pos e] at hy
     injection hy with hy
     subst e
     exact ⟨hy.symm, xs, cap, List.mem_cons_self, hr⟩
   · rw [if_neg e] at hy
     obtain ⟨a, ys, cap', b1, b2⟩ := hL y val hy
     exact ⟨a, ys, cap', List.mem_cons_of_mem _ b1, b2⟩
 · refine h.var.keep hc.size fun b ob hb hor => ent_chg hb hc fun e => ?_
   rcases hor with e2 | e2 | e2 | ⟨cs, e2⟩
   · exact h.ne.2.1 (e.symm.trans e2)
   · exact h.ne.2.2 (e.symm.trans e2)
   · exact h.ne.1 (e.symm.trans e2)
   · rw [e, hmo] at hb; injection hb with hb; rw [e2] at hb; cases hb
end Go.Proofs.YtcblppojnailpaaDoor
namespace Go.Proofs.YtcblppojnailpaaDoor
open Go Go.RowKit
set_option linter.unusedVariables false
set_option linter.unusedSimpArgs false
def EvL (c : EvC) (Q : LKey → Prop) (w1 : World) (F : List Nat) (M k : Nat) (ov : Value) (w : World) : Prop :=
 ∃ (seen : List (List Ux.Ty)) (fs : List Ux.Fr) (acc : List Nat) (vals : List Value), EvI c Q w1 seen fs acc vals ov w ∧ Ux.EV F seen fs acc ∧ (fs.map fun f => fwt f.2).sum ≤ k ∧ acc.length + k ≤ M
theorem fr_len (fs : List Ux.Fr) : fs.length ≤ (fs.map fun f => fwt f.2).sum := by
 induction fs with
 | nil => simp
 | cons x r ih => simp only [List.length_cons, List.map_cons, List.sum_cons]; unfold fwt at *; omega
theorem fwt_cons (x : Ux.Ty) (xs : List Ux.Ty) : fwt (x :: xs) = fwt xs + 2 * x.sz := by unfold fwt; simp only [List.map_cons, List.sum_cons]; omega
theorem fwt_a (nm : List UInt8) (xs : List Ux.Ty) : fwt xs + 1 = 2 * (Ux.Ty.a nm xs).sz := by rw [Ux.sz_a]; unfold fwt; rw [twice_sum]; omega
theorem evStart {lo b3 b4 mb : Nat} {Q : LKey → Prop} {t : Ux.Ty} {ki : Int} {si : ByteArray} {qi : Option Addr} {ni ci : Nat} {w : World} (hV : VarS lo b3 b4 mb w []) (ht : TyQ Q w (.agg #[.int .i64 ki, .string si, .slice qi ni ci]) t) (hq : ∀ x, Q x → x.1 < lo) :
 EvI ⟨lo, b3, b4, mb, w.heap.size + 1 + 1, w.heap.size + 1⟩ Q ((((w.alloc (.cells #[.int .i64 ki, .string si, .slice qi ni ci] 30)).alloc (.map #[] 0)).alloc (.cells #[.int .i64 ki, .string si, .slice qi ni ci] 30)).alloc (.cells #[.slice (some ⟨w.heap.size + 1 + 1, 0, none⟩) 1 1] 28)) [] [([t], [t])] [] [.slice (some ⟨w.heap.size + 1 + 1, 0, none⟩) 1 1] (.slice (some ⟨w.heap.size + 1 + 1 + 1, 0, none⟩) 1 1) ((((w.alloc (.cells #[.int .i64 ki, .string si, .slice qi ni ci] 30)).alloc (.map #[] 0)).alloc (.cells #[.int .i64 ki, .string si, .slice qi ni ci] 30)).alloc (.cells #[.slice (some ⟨w.heap.size + 1 + 1, 0, none⟩) 1 1] 28)) := by
 have hz1 : (w.alloc (.cells #[.int .i64 ki, .string si, .slice qi ni ci] 30)).heap.size = w.heap.size + 1 := by simp
 have hz2 : ((w.alloc (.cells #[.int .i64 ki, .string si, .slice qi ni ci] 30)).alloc (.map #[] 0)).heap.size = w.heap.size + 1 + 1 := by simp
 have hz3 : (((w.alloc (.cells #[.int .i64 ki, .string si, .slice qi ni ci] 30)).alloc (.map #[] 0)).alloc (.cells #[.int .i64 ki, .string si, .slice qi ni ci] 30)).heap.size = w.heap.size + 1 + 1 + 1 := by simp
 have hz4 : ((((w.alloc (.cells #[.int .i64 ki, .string si, .slice qi ni ci] 30)).alloc (.map #[] 0)).alloc (.cells #[.int .i64 ki, .string si, .slice qi ni ci] 30)).alloc (.cells #[.slice (some ⟨w.heap.size + 1 + 1, 0, none⟩) 1 1] 28)).heap.size = w.heap.size + 1 + 1 + 1 + 1 := by simp
 have hb1 : Below w.heap.size w (w.alloc (.cells #[.int .i64 ki, .string si, .slice qi ni ci] 30)) := (Below.refl _ _).alloc (Nat.le_refl _) _
 have hb2 : Below w.heap.size w ((w.alloc (.cells #[.int .i64 ki, .string si, .slice qi ni ci] 30)).alloc (.map #[] 0)) := hb1.alloc (by rw [hz1]; omega) _
 have hb3 : Below w.heap.size w (((w.alloc (.cells #[.int .i64 ki, .string si, .slice qi ni ci] 30)).alloc (.map #[] 0)).alloc (.cells #[.int .i64 ki, .string si, .slice qi ni ci] 30)) := hb2.alloc (by rw [hz2]; omega) _
 have hb : Below w.heap.size w ((((w.alloc (.cells #[.int .i64 ki, .string si, .slice qi ni ci] 30)).alloc (.map #[] 0)).alloc (.cells #[.int .i64 ki, .string si, .slice qi ni ci] 30)).alloc (.cells #[.slice (some ⟨w.heap.size + 1 + 1, 0, none⟩) 1 1] 28)) := hb3.alloc (by rw [hz3]; omega) _
 have hl4 : lo ≤ w.heap.size := by obtain ⟨_, _, _, _, _, _, l⟩ := hV; exact l
 have hlow : b3 < w.heap.size ∧ b4 < w.heap.size ∧ mb < w.heap.size := by
  obtain ⟨h1, ⟨lv, h2, _⟩, ⟨Lm, h4, _⟩, _⟩ := hV
  exact ⟨ent_lt h2, ent_lt h1, h4.lt⟩
 have ea : ((((w.alloc (.cells #[.int .i64 ki, .string si, .slice qi ni ci] 30)).alloc (.map #[] 0)).alloc (.cells #[.int .i64 ki, .string si, .slice qi ni ci] 30)).alloc (.cells #[.slice (some ⟨w.heap.size + 1 + 1, 0, none⟩) 1 1] 28)).heap[w.heap.size + 1 + 1]? = some (.cells #[.int .i64 ki, .string si, .slice qi ni ci] 30 (0, 0)) := by
  have h := ent_alloc (ent_new ((w.alloc (.cells #[.int .i64 ki, .string si, .slice qi ni ci] 30)).alloc (.map #[] 0)) #[.int .i64 ki, .string si, .slice qi ni ci] 30) (.cells #[.slice (some ⟨w.heap.size + 1 + 1, 0, none⟩) 1 1] 28)
  rw [hz2] at h; exact h
 have hmk : MapK encL (FreeQ Q) ((((w.alloc (.cells #[.int .i64 ki, .string si, .slice qi ni ci] 30)).alloc (.map #[] 0)).alloc (.cells #[.int .i64 ki, .string si, .slice qi ni ci] 30)).alloc (.cells #[.slice (some ⟨w.heap.size + 1 + 1, 0, none⟩) 1 1] 28)) (w.heap.size + 1) [] := by
  have h := (MapK.made (enc := encL) (V := FreeQ Q) (w.alloc (.cells #[.int .i64 ki, .string si, .slice qi ni ci] 30))).keep (w' := ((((w.alloc (.cells #[.int .i64 ki, .string si, .slice qi ni ci] 30)).alloc (.map #[] 0)).alloc (.cells #[.int .i64 ki, .string si, .slice qi ni ci] 30)).alloc (.cells #[.slice (some ⟨w.heap.size + 1 + 1, 0, none⟩) 1 1] 28))) ((Below.heap_alloc (((w.alloc (.cells #[.int .i64 ki, .string si, .slice qi ni ci] 30)).alloc (.map #[] 0)).alloc (.cells #[.int .i64 ki, .string si, .slice qi ni ci] 30)) _ _ (by rw [hz3, hz1]; omega)).trans (Below.heap_alloc ((w.alloc (.cells #[.int .i64 ki, .string si, .slice qi ni ci] 30)).alloc (.map #[] 0)) _ _ (by rw [hz2, hz1]; omega))) (fun x hx => ⟨hx.1, by
   obtain ⟨cs, T, e⟩ := hx.2
   exact ⟨cs, T, ent_alloc (ent_alloc e _) _⟩⟩)
  rw [hz1] at h; exact h
 have hown := World.ownsRow_lit (base := w.heap.size + 1 + 1 + 1) (e := 28) (size := 1) (((w.alloc (.cells #[.int .i64 ki, .string si, .slice qi ni ci] 30)).alloc (.map #[] 0)).alloc (.cells #[.int .i64 ki, .string si, .slice qi ni ci] 30)) #[.slice (some ⟨w.heap.size + 1 + 1, 0, none⟩) 1 1] 1 (by rw [hz3]; exact Nat.le_refl _) (by unfold maxLen; omega) rfl
 rw [hz3] at hown
 refine ⟨hown, fun i f hi => ?_, ⟨[], hmk, fun x val h => by cases h⟩, hV.below hb, fun x _ => rfl, ⟨_, ea⟩, ⟨?_, ?_, ?_⟩, ⟨?_, ?_, ?_, ?_, Nat.le_refl _⟩, hq, Below.refl _ _⟩
 · have hi0 : i = 0 := by have := (List.getElem?_eq_some_iff.1 hi).1; simp at this; omega
   subst hi0
   simp at hi
   subst hi
   refine ⟨_, rfl, .inr ⟨w.heap.size + 1 + 1, 0, 1, _, _, rfl, by simp, .inl rfl, Nat.le_refl _, by decide, ea, fun i y hy => ?_⟩⟩
   have hi0 : i = 0 := by have := (List.getElem?_eq_some_iff.1 hy).1; simp at this; omega
   subst hi0
   simp at hy
   subst hy
   exact ⟨_, tyQ_keep ht fun x hx => hb.block _ (by have := hq x hx; omega), rfl, fun j z hz => by rw [Nat.zero_mul, Nat.add_zero, Nat.zero_add]; exact hz⟩
 all_goals dsimp only; omega
set_option maxHeartbeats 4000000 in
set_option maxRecDepth 100000 in
theorem each_any (lo b3 b4 mb : Nat) (Q : LKey → Prop) (t : Ux.Ty) (v : Value) (w : World) (hV : VarS lo b3 b4 mb w []) (ht : TyQ Q w v t) (hq : ∀ x, Q x → x.1 < lo) (hsz : t.sz ≤ 10000000000) :
 Calls Tryd.prog 38 #[v, .func (.func 39) #[] #[.pointer (some ⟨b4, 0, none⟩), .pointer (some ⟨b3, 0, none⟩)]] w (fun e w' => e = .returned (.tuple #[]) ∧ ∃ acc, VarS lo b3 b4 mb w' acc ∧ Ux.firsts [] acc = Ux.varsT t ∧ Below lo w w') := by
 obtain ⟨ki, si, qi, ni, ci, rfl⟩ := tyQ_sh ht
 have HSZ := Lib.hid hsz
 have HI0 := Lib.hid (evStart hV ht hq)
 have hl4 : lo ≤ w.heap.size := by obtain ⟨_, _, _, _, _, _, l⟩ := hV; exact l
 have HL4 := Lib.hid hl4
 clear hV ht hq hsz hl4
 have hmm := @run_makeMap Tryd.prog
 go_enter Tryd.func38, Tryd.ntmps38
 go_upto_region 3 with fail
 clear hmm
 have HB0 := Lib.hid (show Below lo w ((((w.alloc (.cells #[.int .i64 ki, .string si, .slice qi ni ci] 30)).alloc (.map #[] 0)).alloc (.cells #[.int .i64 ki, .string si, .slice qi ni ci] 30)).alloc (.cells #[.slice (some ⟨w.heap.size + 1 + 1, 0, none⟩) 1 1] 28)) from ((((Below.refl lo w).alloc HL4.out _).alloc (by have := HL4.out; simp; omega) _).alloc (by have := HL4.out; simp; omega) _).alloc (by have := HL4.out; simp; omega) _)
 obtain ⟨c, hc⟩ : ∃ c : EvC, c = ⟨lo, b3, b4, mb, w.heap.size + 1 + 1, w.heap.size + 1⟩ := ⟨_, rfl⟩
 have HC := Lib.hid (show c.lo = lo ∧ c.b3 = b3 ∧ c.b4 = b4 ∧ c.mb = mb by rw [hc]; exact ⟨rfl, rfl, rfl, rfl⟩)
 have hcsb : w.heap.size + 1 = c.sb := by rw [hc]
 rw [← hc] at HI0
 clear hc
 generalize ((((w.alloc (.cells #[.int .i64 ki, .string si, .slice qi ni ci] 30)).alloc (.map #[] 0)).alloc (.cells #[.int .i64 ki, .string si, .slice qi ni ci] 30)).alloc (.cells #[.slice (some ⟨w.heap.size + 1 + 1, 0, none⟩) 1 1] 28)) = w1 at HI0 HB0 ⊢
 rw [hcsb] at HI0 ⊢
 have HL0 : Hid (EvL c Q w1 (Ux.varsT t) (2 * t.sz + 1) (2 * t.sz + 1) (.slice (some ⟨c.sb + 1 + 1, 0, none⟩) 1 1) w1) := Lib.hid ⟨_, _, _, _, HI0.out, Ux.EV.start t, by simp [fwt]; omega, by simp⟩
 clear HI0 hcsb
 go_loopg [5] (2 * t.sz + 1) (fun k ov wr => Hid (EvL c Q w1 (Ux.varsT t) (2 * t.sz + 1) k ov wr))
 case atStart => exact HL0
 case round =>
  clear HL0
  obtain ⟨seen, fs, acc, vals, hI, hE, hk, hM⟩ := hrel.out
  clear hrel
  have HI := Lib.hid hI; have HE := Lib.hid hE; have HK := Lib.hid hk; have HM := Lib.hid hM
  cases fs with
  | nil =>
    obtain ⟨p, cc, rfl⟩ := own_slice hI.own
    clear hI hE hk hM
    have l0 : ([] : List Ux.Fr).length = 0 := rfl
    rw [l0]
    go_wp2_with fail
    refine bodyPost_end (v := .tuple #[]) (by simp [results, Tryd.results38, go_sem]) rfl ?_
    have hc := HC.out
    have hv := HI.out.var
    rw [hc.1, hc.2.1, hc.2.2.1, hc.2.2.2] at hv
    have hb := HI.out.below
    rw [hc.1] at hb
    exact ⟨rfl, acc, hv, HE.out.done, HB0.out.trans hb⟩
  | cons f r =>
    obtain ⟨o, rest⟩ := f
    obtain ⟨g, cap, cur, q, cp, rfl, hcap, hcap2, hag, hgh, hcell, hval, hrow⟩ := hI.top
    have HROW := Lib.hid hrow; have HGH := Lib.hid hgh; have HAG := Lib.hid hag
    clear hI hE hk hM hrow hval
    have hfree := ent_free hgh
    obtain ⟨n0, hn0⟩ : ∃ n0, n0 = r.length := ⟨_, rfl⟩
    have HN0 := Lib.hid hn0
    rw [← hn0] at hcap hcell ⊢
    clear hn0 hgh hag
    have hcap1 : (n0 : Int) + 1 ≤ (cap : Int) := by omega
    dsimp only at hcell HROW
    cases rest with
    | nil =>
      have l0 : ([] : List Ux.Ty).length = 0 := rfl
      rw [l0] at hcell
      go_wp2_with fail
      clear hcell hfree
      go_roundg (gk - 1)
      case measure => have h := HK.out; simp only [List.map_cons, List.sum_cons] at h; unfold fwt at h; omega
      case rel =>
       have hp := HI.out.pop
       rw [← HN0.out] at hp
       exact Lib.hid ⟨_, _, _, _, hp, HE.out.pop, by have h := HK.out; simp only [List.map_cons, List.sum_cons] at h; unfold fwt at h ⊢; simp at h; omega, by have := HM.out; have h := HK.out; simp only [List.map_cons, List.sum_cons] at h; unfold fwt at h; omega⟩
    | cons x xs =>
      rw [List.length_cons] at hcell HROW
      rcases HROW.out with ⟨h0, _⟩ | ⟨gr, of, rc, cs, TT, hv, _, hqm, hrc, hrc2, hgr, hcells⟩
      · cases h0
      injection hv with e1 e2 e3
      subst e1; subst e3
      clear e2
      rw [List.length_cons] at hrc
      obtain ⟨ux, hux, _, hcx⟩ := hcells 0 x rfl
      obtain ⟨xi, xs0, xq, xn, xc, rfl⟩ := tyQ_sh hux
      have hqe : QE Q c.a0 (gr, of, 0) := hqm.imp id fun ⟨q, a, b⟩ => ⟨q, a, b⟩
      have HXC := Lib.hid (fun (w' : World) (h : w'.heap[gr]? = w1.heap[gr]?) => (⟨by rw [cell_of (h.trans hgr)]; simpa using hcx 0 (.int .i64 xi) rfl, by rw [cell_of (h.trans hgr)]; simpa using hcx 1 (.string xs0) rfl, by rw [cell_of (h.trans hgr)]; simpa using hcx 2 (.slice xq xn xc) rfl⟩ : w'.cell? ⟨gr, of, none⟩ = some (.int .i64 xi) ∧ w'.cell? ⟨gr, of + 1, none⟩ = some (.string xs0) ∧ w'.cell? ⟨gr, of + 2, none⟩ = some (.slice xq xn xc)))
      have HUX := Lib.hid hux
      obtain ⟨p9, hp9, hst⟩ := slice_tail gr of xs.length cp (by omega) hrc2
      have HST := Lib.hid hst
      have HRT := Lib.hid (rowQ_tail (c := c) rfl HROW.out hp9)
      have HSM := Lib.hid (HI.out.same _ hqe)
      obtain ⟨x0, x1, x2⟩ := HXC.out wr HSM.out
      clear hux hcx hcells hgr hst hp9 hqe hqm
      have hrl2 : (((xs.length + 1 : Nat) : Int) == 0) = false := by simp; omega
      have hr0 : (0 : Int) < ((xs.length + 1 : Nat) : Int) := by omega
      go_upto_region 8 with fail
      clear x0 x1 x2 hrl2 hr0
      have hba : Below wr.heap.size wr (wr.alloc (.cells #[.int .i64 xi, .string xs0, .slice xq xn xc] 30)) := (Below.refl _ _).alloc (Nat.le_refl _) _
      have HIa := Lib.hid (HI.out.grow hba)
      have ETa := Lib.hid (ent_new wr #[.int .i64 xi, .string xs0, .slice xq xn xc] 30)
      have HGa := Lib.hid (ent_below HGH.out hba)
      obtain ⟨tb, htb⟩ : ∃ tb, tb = wr.heap.size := ⟨_, rfl⟩
      have HTG := Lib.hid (show tb ≠ g by have := ent_lt HGH.out; omega)
      rw [← htb] at ETa ⊢
      have ha := ent_cell HGa.out n0 _ (by have := hcell; rw [cell_of HGH.out] at this; exact this)
      have hfa := ent_free HGa.out
      generalize (wr.alloc (.cells #[.int .i64 xi, .string xs0, .slice xq xn xc] 30)) = wa at HIa ETa HGa ha hfa ⊢
      clear hba htb hcell hfree HGH HI
      have hst := HST.out
      go_upto_region 9 with fail
      clear hst ha hfa
      have HIb := Lib.hid (show EvI c Q w1 seen ((o, xs) :: r) acc (vals.set r.length (.slice p9 xs.length (cp - 1))) (.slice (some ⟨g, 0, none⟩) (n0 + 1) cap) (wa.setCell ⟨g, n0, none⟩ (.slice p9 xs.length (cp - 1))) by
       rw [HN0.out]
       have h := HIa.out
       exact h.adv HRT.out HAG.out HGa.out)
      have ETb := Lib.hid (ent_other ETa.out g n0 (.slice p9 xs.length (cp - 1)) HTG.out)
      generalize wa.setCell ⟨g, n0, none⟩ (.slice p9 xs.length (cp - 1)) = wb at HIb ETb ⊢
      clear ETa HGa HIa
      generalize vals.set r.length (.slice p9 xs.length (cp - 1)) = vals2 at HIb
      have t0 := ent_cell ETb.out 0 _ rfl
      have t1 := ent_cell ETb.out 1 _ rfl
      have t2 := ent_cell ETb.out 2 _ rfl
      go_wp2_with fail
      refine (isVar_any _ _ _ _).mono ?_
      rintro e wc ⟨rfl, hbc⟩
      have HIc := Lib.hid (HIb.out.grow hbc)
      have ETc := Lib.hid (ent_below ETb.out hbc)
      clear hbc HIb ETb t0 t1 t2
      have t0 := ent_cell ETc.out 0 _ rfl
      have t1 := ent_cell ETc.out 1 _ rfl
      have t2 := ent_cell ETc.out 2 _ rfl
      cases x with
      | v n =>
        obtain ⟨_, _, _, _, hx⟩ := tyQ_v.1 HUX.out
        injection hx with hx
        simp at hx
        obtain ⟨rfl, _⟩ := hx
        have hdec : decide ((0 : Int) ≤ (n : Int)) = true := by simp
        rw [hdec]
        have hcf : ∀ args w, (callFunc 39 args).run Tryd.prog w = .ok (.enter 39 args) w := fun args w => by kernel_rfl
        have hfd := found_any c.lo c.b3 c.b4 c.mb n acc wc HIc.out.var (by have := HM.out; have := HSZ.out; omega)
        rw [HC.out.2.1, HC.out.2.2.1] at hfd
        have HFD := Lib.hid hfd
        clear hfd
        go_wp2_with fail
        refine HFD.out.mono ?_
        rintro e wd ⟨rfl, f1, f2, f3⟩
        have HId := Lib.hid (HIc.out.told (acc' := acc ++ [n]) (by rw [HC.out.2.1, HC.out.2.2.1]; exact f1) f2 (by rw [HC.out.2.1]; exact f3))
        clear f1 f2 f3 t0 t1 t2 hcf HFD
        go_wp2_with fail
        go_roundg (gk - 1)
        case measure => have h := HK.out; simp only [List.map_cons, List.sum_cons, fwt_cons] at h; unfold fwt at h; omega
        case rel => exact Lib.hid ⟨_, _, _, _, HId.out, HE.out.var, by have h := HK.out; have h2 := Ux.sz_pos (.v n); simp only [List.map_cons, List.sum_cons, fwt_cons] at h ⊢; omega, by have := HM.out; have h := HK.out; simp only [List.map_cons, List.sum_cons, fwt_cons] at h; unfold fwt at h; simp; omega⟩
      | a nm ys =>
        obtain ⟨kx, av, hkx, hx, hav⟩ := tyQ_a.1 HUX.out
        injection hx with hx
        simp at hx
        obtain ⟨rfl, rfl, rfl⟩ := hx
        have hdec : decide ((0 : Int) ≤ xi) = false := by simp; omega
        rw [hdec]
        by_cases hys : ys = []
        · subst hys
          obtain ⟨pz, cz, hz⟩ := hav.len
          have l0 : ([] : List Ux.Ty).length = 0 := rfl
          rw [l0] at hz
          injection hz with _ hz _
          subst hz
          clear hav
          go_wp2_with fail
          clear t0 t1 t2
          go_roundg (gk - 1)
          case measure => have h := HK.out; simp only [List.map_cons, List.sum_cons, fwt_cons] at h; unfold fwt at h; omega
          case rel => exact Lib.hid ⟨_, _, _, _, HIc.out, HE.out.skip (.inr rfl), by have h := HK.out; have h2 := Ux.sz_pos (.a nm []); simp only [List.map_cons, List.sum_cons, fwt_cons] at h ⊢; omega, by have := HM.out; have h := HK.out; simp only [List.map_cons, List.sum_cons, fwt_cons] at h; unfold fwt at h; omega⟩
        have hav2 := hav
        rcases hav2 with ⟨h0, _⟩ | ⟨g2, o2, c2, cs2, T2, hv2, _, hq2, hc2, hc22, _, _⟩
        · exact absurd h0 hys
        injection hv2 with e1 e2 e3
        subst e1; subst e2; subst e3
        have HAV := Lib.hid hav
        have HYS := Lib.hid hys
        have HQ2 := Lib.hid hq2
        have hpos := List.length_pos_iff.2 hys
        obtain ⟨m, hm⟩ : ∃ m, m = ys.length := ⟨_, rfl⟩
        rw [← hm] at hpos hc2 HAV HQ2 t2 ETc ⊢
        have HMM := Lib.hid hm
        clear hav hq2 hys hm
        have hp1 : (0 : Int) < (m : Int) := by omega
        go_upto_region 12 with fail
        go_wp2_with fail
        refine (listOf_any g2 o2 m xc hpos hc2 hc22 wc).mono ?_
        rintro e wd ⟨rfl, hbd⟩
        have HId := Lib.hid (HIc.out.grow hbd)
        have ETd := Lib.hid (ent_below ETc.out hbd)
        clear hbd HIc ETc t0 t1 t2
        obtain ⟨b, hbs, hlk⟩ := HId.out.look (g2, o2, m) HQ2.out HAV.out HYS.out
        replace hlk : (Instr.lookup 118 (.map (some c.sb)) (.agg #[.pointer (some ⟨g2, o2, none⟩), .int .i64 (m : Int)]) true).run Tryd.prog wd = .ok (.tuple #[.agg #[], .bool b]) wd := hlk
        have HBS := Lib.hid hbs
        clear hbs
        cases b with
        | true =>
          go_wp2_with fail
          clear hlk
          have hba : Below wd.heap.size wd (wd.alloc (.cells #[] 77)) := (Below.refl _ _).alloc (Nat.le_refl _) _
          have HIe := Lib.hid (HId.out.grow hba)
          go_roundg (gk - 1)
          case measure => have h := HK.out; simp only [List.map_cons, List.sum_cons, fwt_cons] at h; unfold fwt at h; omega
          case rel => exact Lib.hid ⟨_, _, _, _, HIe.out, HE.out.skip (.inl (HBS.out trivial)), by have h := HK.out; have h2 := Ux.sz_pos (.a nm ys); simp only [List.map_cons, List.sum_cons, fwt_cons] at h ⊢; omega, by have := HM.out; have h := HK.out; simp only [List.map_cons, List.sum_cons, fwt_cons] at h; unfold fwt at h; omega⟩
        | false =>
          go_upto_region 14 with fail
          clear hlk
          have hba : Below wd.heap.size wd (wd.alloc (.cells #[] 77)) := (Below.refl _ _).alloc (Nat.le_refl _) _
          have HIe := Lib.hid (HId.out.grow hba)
          have ETe := Lib.hid (ent_below ETd.out hba)
          generalize wd.alloc (.cells #[] 77) = we at HIe ETe ⊢
          clear hba HId ETd
          have t2 := ent_cell ETe.out 2 _ rfl
          go_wp2_with fail
          refine (listOf_any g2 o2 m xc hpos hc2 hc22 we).mono ?_
          rintro e wf ⟨rfl, hbf⟩
          have HIf := Lib.hid (HIe.out.grow hbf)
          have ETf := Lib.hid (ent_below ETe.out hbf)
          clear hbf HIe ETe t2
          obtain ⟨wg, hup, hig, hcg⟩ := HIf.out.mark (g2, o2, m) HQ2.out HAV.out HYS.out
          replace hup : (Instr.mapUpdate 118 (.map (some c.sb)) (.agg #[.pointer (some ⟨g2, o2, none⟩), .int .i64 (m : Int)]) (.agg #[])).run Tryd.prog wf = .ok () wg := hup
          have HIg := Lib.hid hig
          have ETg := Lib.hid (ent_chg ETf.out hcg (fun e => by obtain ⟨Ls, hm, _⟩ := HIf.out.seenm; obtain ⟨es, k, hmo⟩ := hm.obj; rw [← e, ETf.out] at hmo; cases hmo))
          clear hig hcg HIf ETf
          go_upto_region 15 with fail
          clear hup
          have t2 := ent_cell ETg.out 2 _ rfl
          have hog := HIg.out.own
          have hn0l : ((o, xs) :: r).length = n0 + 1 := by rw [List.length_cons, ← HN0.out]
          rw [hn0l] at hog
          have HOG := Lib.hid hog
          have hsg := HIg.out.low
          have hn0b : n0 + 1 ≤ 30000000000 := by
           have h1 := fr_len ((o, Ux.Ty.a nm ys :: xs) :: r)
           have h2 := HK.out
           have h3 := HM.out
           have h4 := HSZ.out
           rw [List.length_cons, ← HN0.out] at h1
           omega
          clear hog hn0l
          go_wp2_with (at_builtin; refine wpList_append_new eltFr wg rfl (.tmp 68) (.tmp 71) rfl (c.a0 + 1) (.slice (some ⟨g, 0, none⟩) (n0 + 1) cap) (n0 + 1) vals2 rfl HOG.out #[.slice (some ⟨g2, o2, none⟩) m xc] 28 rfl rfl (by intro u hu; rw [List.mem_singleton.1 hu]; rfl) (by omega) (by omega) ?_)
          intro v4 w4 ho4 hc4 hl4
          have HI4 := Lib.hid (HIg.out.push (xs := ys) (nv := .slice (some ⟨g2, o2, none⟩) m xc) (v' := v4) (by have h := HAV.out; exact h.mono (fun x hx => ⟨.inr ⟨x, hx, rfl⟩, rfl⟩) fun u x _ hu => hu) (by rw [List.length_cons, ← HN0.out]; exact ho4) hc4)
          obtain ⟨p4, c4, rfl⟩ := own_slice ho4
          clear ho4 hc4 hl4 t2 hsg hn0b
          go_wp2_with fail
          go_roundg (gk - 1)
          case measure => have h := HK.out; simp only [List.map_cons, List.sum_cons, fwt_cons] at h; unfold fwt at h; omega
          case rel => exact Lib.hid ⟨_, _, _, _, HI4.out, HE.out.push, by have h := HK.out; have h2 := fwt_a nm ys; simp only [List.map_cons, List.sum_cons, fwt_cons] at h ⊢; omega, by have := HM.out; have h := HK.out; simp only [List.map_cons, List.sum_cons, fwt_cons] at h; unfold fwt at h; omega⟩
end Go.Proofs.YtcblppojnailpaaDoor
namespace Go.Proofs.YtcblppojnailpaaDoor
open Go Go.RowKit
set_option linter.unusedVariables false
set_option linter.unusedSimpArgs false
set_option maxHeartbeats 4000000 in
set_option maxRecDepth 100000 in
theorem vars_any (t : Ux.Ty) (v : Value) (w : World) (ht : TyP w v t) (hsz : t.sz ≤ 10000000000) :
 Calls Tryd.prog 19 #[v] w (fun e w' => ∃ r, e = .returned r ∧ Below w.heap.size w w' ∧ New NumsR w w' r (Ux.varsT t)) := by
 obtain ⟨ki, si, qi, ni, ci, rfl⟩ := tyP_sh ht
 obtain ⟨U, h1, _, h3⟩ := tyP_Q t _ ht
 have HU := Lib.hid h1
 have HQ := Lib.hid (show ∀ x, x ∈ U → x.1 < w.heap.size from fun x hx => by obtain ⟨cs, T, e⟩ := h3 x hx; exact ent_lt e)
 have HSZ := Lib.hid hsz
 clear ht h1 h3 hsz
 have hmm := @run_makeMap Tryd.prog
 go_enter Tryd.func19, Tryd.ntmps19
 go_upto_region 3 with fail
 clear hmm
 have hz1 : (w.alloc (.cells #[.int .i64 ki, .string si, .slice qi ni ci] 30)).heap.size = w.heap.size + 1 := by simp
 have hz2 : ((w.alloc (.cells #[.int .i64 ki, .string si, .slice qi ni ci] 30)).alloc (.cells #[.slice none 0 0] 42)).heap.size = w.heap.size + 1 + 1 := by simp
 have hz3 : (((w.alloc (.cells #[.int .i64 ki, .string si, .slice qi ni ci] 30)).alloc (.cells #[.slice none 0 0] 42)).alloc (.map #[] 0)).heap.size = w.heap.size + 1 + 1 + 1 := by simp
 have hz4 : ((((w.alloc (.cells #[.int .i64 ki, .string si, .slice qi ni ci] 30)).alloc (.cells #[.slice none 0 0] 42)).alloc (.map #[] 0)).alloc (.cells #[.map (some (w.heap.size + 1 + 1))] 75)).heap.size = w.heap.size + 1 + 1 + 1 + 1 := by simp
 have hb1 : Below w.heap.size w (w.alloc (.cells #[.int .i64 ki, .string si, .slice qi ni ci] 30)) := (Below.refl _ _).alloc (Nat.le_refl _) _
 have hb2 : Below w.heap.size w ((w.alloc (.cells #[.int .i64 ki, .string si, .slice qi ni ci] 30)).alloc (.cells #[.slice none 0 0] 42)) := hb1.alloc (by rw [hz1]; omega) _
 have hb3 : Below w.heap.size w (((w.alloc (.cells #[.int .i64 ki, .string si, .slice qi ni ci] 30)).alloc (.cells #[.slice none 0 0] 42)).alloc (.map #[] 0)) := hb2.alloc (by rw [hz2]; omega) _
 have hb : Below w.heap.size w ((((w.alloc (.cells #[.int .i64 ki, .string si, .slice qi ni ci] 30)).alloc (.cells #[.slice none 0 0] 42)).alloc (.map #[] 0)).alloc (.cells #[.map (some (w.heap.size + 1 + 1))] 75)) := hb3.alloc (by rw [hz3]; omega) _
 have e1 := ent_alloc (ent_alloc (ent_alloc (ent_new w #[.int .i64 ki, .string si, .slice qi ni ci] 30) (.cells #[.slice none 0 0] 42)) (.map #[] 0)) (.cells #[.map (some (w.heap.size + 1 + 1))] 75)
 have e2 := ent_alloc (ent_alloc (ent_new (w.alloc (.cells #[.int .i64 ki, .string si, .slice qi ni ci] 30)) #[.slice none 0 0] 42) (.map #[] 0)) (.cells #[.map (some (w.heap.size + 1 + 1))] 75)
 rw [hz1] at e2
 have e3 := (MapK.made (enc := encInt) (V := fun _ _ => True) ((w.alloc (.cells #[.int .i64 ki, .string si, .slice qi ni ci] 30)).alloc (.cells #[.slice none 0 0] 42))).keep (w' := ((((w.alloc (.cells #[.int .i64 ki, .string si, .slice qi ni ci] 30)).alloc (.cells #[.slice none 0 0] 42)).alloc (.map #[] 0)).alloc (.cells #[.map (some (w.heap.size + 1 + 1))] 75))) (Below.heap_alloc (((w.alloc (.cells #[.int .i64 ki, .string si, .slice qi ni ci] 30)).alloc (.cells #[.slice none 0 0] 42)).alloc (.map #[] 0)) _ _ (by rw [hz3, hz2]; omega)) fun _ _ => trivial
 rw [hz2] at e3
 have e4 := ent_new (((w.alloc (.cells #[.int .i64 ki, .string si, .slice qi ni ci] 30)).alloc (.cells #[.slice none 0 0] 42)).alloc (.map #[] 0)) #[.map (some (w.heap.size + 1 + 1))] 75
 rw [hz3] at e4
 have HV : Hid (VarS w.heap.size (w.heap.size + 1) (w.heap.size + 1 + 1 + 1) (w.heap.size + 1 + 1) ((((w.alloc (.cells #[.int .i64 ki, .string si, .slice qi ni ci] 30)).alloc (.cells #[.slice none 0 0] 42)).alloc (.map #[] 0)).alloc (.cells #[.map (some (w.heap.size + 1 + 1))] 75)) []) := Lib.hid ⟨e4, ⟨_, e2, own_none _ _ _ _ (by rw [hz4]; omega)⟩, ⟨[], e3, fun n => by simp [lookL_nil]⟩, by omega, by omega, by omega, by rw [hz4]; omega⟩
 have HT := Lib.hid (tyQ_keep HU.out fun x hx => hb.block _ (HQ.out x hx))
 have HB := Lib.hid hb
 have HZ := Lib.hid hz4
 have E1 := Lib.hid e1
 clear hz1 hz2 hz3 hz4 hb1 hb2 hb3 hb e1 e2 e3 e4
 generalize ((((w.alloc (.cells #[.int .i64 ki, .string si, .slice qi ni ci] 30)).alloc (.cells #[.slice none 0 0] 42)).alloc (.map #[] 0)).alloc (.cells #[.map (some (w.heap.size + 1 + 1))] 75)) = w1 at HV HT HB HZ E1 ⊢
 have t0 := ent_cell E1.out 0 _ rfl
 have t1 := ent_cell E1.out 1 _ rfl
 have t2 := ent_cell E1.out 2 _ rfl
 go_wp2_with fail
 refine (each_any w.heap.size (w.heap.size + 1) (w.heap.size + 1 + 1 + 1) (w.heap.size + 1 + 1) (· ∈ U) t _ w1 HV.out HT.out HQ.out HSZ.out).mono ?_
 rintro e w2 ⟨rfl, acc, hv, hf, hb2⟩
 obtain ⟨v1, ⟨lv, v2, v3⟩, v4, _⟩ := hv
 obtain ⟨lp, lc, rfl⟩ := own_slice v3
 rw [hf] at v2 v3
 have c0 := ent_cell v2 0 _ rfl
 have HO := Lib.hid v3
 have HB2 := Lib.hid (HB.out.trans hb2)
 clear v1 v2 v3 v4 hf hb2 t0 t1 t2
 go_wp2_with fail
 go_ret
 refine ⟨_, rfl, HB2.out, fun u hu => nums_row HO.out rfl fun b hb1 hb2 => hu b hb1 hb2⟩
end Go.Proofs.YtcblppojnailpaaDoor
