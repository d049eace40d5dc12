/-
  ScopeKnown: its walk.
-/
import Derived.Test.YtgoacbomphlhjaaG23
import Derived.Test.YtgoacbomphlhjaaG24
namespace Go.Proofs.Ytgoacbomphlhjaa
open Go Go.RowKit
set_option linter.unusedVariables false
set_option linter.unusedSimpArgs false
def knownT : List (Nm × Int) := [([40, 100, 101, 102, 32, 109, 97, 105, 110, 32, 40, 41, 32, 49, 41], -1),
 ([40, 100, 101, 102, 32, 109, 97, 105, 110, 32, 40, 41, 32, 40, 108, 101, 116, 32, 40, 40, 120, 32, 120, 41, 41, 32, 120, 41, 41], -1),
 ([40, 100, 101, 102, 32, 109, 97, 105, 110, 32, 40, 41, 32, 40, 40, 102, 110, 32, 40, 120, 41, 32, 120, 41, 32, 120, 41, 41], 25),
 ([40, 100, 101, 102, 32, 109, 97, 105, 110, 32, 40, 41, 32, 40, 108, 101, 116, 32, 40, 40, 120, 32, 49, 41, 41, 32, 121, 41, 41], 26),
 ([40, 100, 101, 102, 32, 109, 97, 105, 110, 32, 40, 41, 32, 40, 99, 97, 115, 101, 32, 49, 32, 40, 120, 32, 120, 41, 32, 40, 95, 32, 120, 41, 41, 41], 30),
 ([40, 100, 101, 102, 32, 109, 97, 105, 110, 32, 40, 41, 32, 40, 102, 32, 40, 103, 32, 49, 41, 41, 41], 14),
 ([40, 100, 101, 102, 32, 102, 32, 40, 120, 41, 32, 40, 102, 32, 121, 41, 41, 32, 40, 100, 101, 102, 32, 109, 97, 105, 110, 32, 40, 41, 32, 122, 41], 14),
 ([40, 100, 101, 102, 32, 109, 97, 105, 110, 32, 40, 41, 32, 40, 78, 105, 108, 41, 41], -2),
 ([40, 100, 101, 102, 32, 109, 97, 105, 110, 32, 40, 41, 32, 78, 105, 108, 41], 13),
 ([40, 100, 101, 102, 32, 109, 97, 105, 110, 32, 40, 41, 32, 40, 84, 114, 117, 101, 32, 49, 41, 41], 13),
 ([40, 100, 97, 116, 97, 32, 84, 32, 40, 41, 32, 40, 65, 41, 32, 40, 66, 41, 41, 32, 40, 100, 101, 102, 32, 109, 97, 105, 110, 32, 40, 41, 32, 40, 99, 97, 115, 101, 32, 65, 32, 40, 66, 32, 49, 41, 32, 40, 40, 65, 32, 50, 41, 32, 51, 41, 41, 41], 48),
 ([40, 100, 97, 116, 97, 32, 84, 32, 40, 41, 32, 40, 65, 32, 84, 41, 41, 32, 40, 100, 101, 102, 32, 109, 97, 105, 110, 32, 40, 41, 32, 40, 65, 41, 41], -2),
 ([40, 100, 97, 116, 97, 32, 84, 32, 40, 41, 32, 40, 65, 32, 84, 41, 41, 32, 40, 100, 101, 102, 32, 109, 97, 105, 110, 32, 40, 41, 32, 65, 41], 31),
 ([40, 100, 97, 116, 97, 32, 84, 32, 40, 97, 41, 32, 40, 65, 32, 97, 41, 32, 40, 66, 32, 98, 41, 41, 32, 40, 100, 101, 102, 32, 109, 97, 105, 110, 32, 40, 41, 32, 49, 41], 21),
 ([40, 100, 97, 116, 97, 32, 84, 32, 40, 41, 32, 40, 65, 32, 40, 85, 41, 41, 41, 32, 40, 100, 101, 102, 32, 109, 97, 105, 110, 32, 40, 41, 32, 49, 41], -2),
 ([40, 100, 97, 116, 97, 32, 84, 32, 40, 41, 32, 40, 65, 32, 85, 41, 41, 32, 40, 100, 101, 102, 32, 109, 97, 105, 110, 32, 40, 41, 32, 49, 41], 14),
 ([40, 100, 97, 116, 97, 32, 84, 32, 40, 41, 32, 40, 65, 41, 41, 32, 40, 100, 97, 116, 97, 32, 84, 32, 40, 41, 32, 40, 66, 41, 41, 32, 40, 100, 101, 102, 32, 109, 97, 105, 110, 32, 40, 41, 32, 120, 41], 16),
 ([40, 100, 101, 102, 32, 102, 32, 40, 41, 32, 49, 41, 32, 40, 100, 101, 102, 32, 102, 32, 40, 41, 32, 50, 41], 13),
 ([40, 100, 101, 102, 32, 102, 32, 40, 41, 32, 49, 41], 0),
 ([], 0)]
def knownOk (x : Nm × Int) : Bool := decide (x.1.length ≤ 1000) && decide (-2 ≤ x.2) && decide (x.2 ≤ 1000) && match Px.program x.1 with | .done p => decide (x.2 ≠ -2) && decide (progS p = x.2) | _ => decide (x.2 = -2)
set_option maxRecDepth 1000000 in
theorem known_all : knownT.all knownOk = true := by kernel_rfl
theorem known_at {k : Nat} {s : Nm} {t : Int} (h : knownT[k]? = some (s, t)) : knownOk (s, t) = true := List.all_eq_true.1 known_all _ (List.mem_of_getElem? h)
def knownC : Array Value := #[.string ⟨#[40, 100, 101, 102, 32, 109, 97, 105, 110, 32, 40, 41, 32, 49, 41]⟩, .int .i64 (-1), .string ⟨#[40, 100, 101, 102, 32, 109, 97, 105, 110, 32, 40, 41, 32, 40, 108, 101, 116, 32, 40, 40, 120, 32, 120, 41, 41, 32, 120, 41, 41]⟩, .int .i64 (-1), .string ⟨#[40, 100, 101, 102, 32, 109, 97, 105, 110, 32, 40, 41, 32, 40, 40, 102, 110, 32, 40, 120, 41, 32, 120, 41, 32, 120, 41, 41]⟩, .int .i64 25, .string ⟨#[40, 100, 101, 102, 32, 109, 97, 105, 110, 32, 40, 41, 32, 40, 108, 101, 116, 32, 40, 40, 120, 32, 49, 41, 41, 32, 121, 41, 41]⟩, .int .i64 26, .string ⟨#[40, 100, 101, 102, 32, 109, 97, 105, 110, 32, 40, 41, 32, 40, 99, 97, 115, 101, 32, 49, 32, 40, 120, 32, 120, 41, 32, 40, 95, 32, 120, 41, 41, 41]⟩, .int .i64 30, .string ⟨#[40, 100, 101, 102, 32, 109, 97, 105, 110, 32, 40, 41, 32, 40, 102, 32, 40, 103, 32, 49, 41, 41, 41]⟩, .int .i64 14, .string ⟨#[40, 100, 101, 102, 32, 102, 32, 40, 120, 41, 32, 40, 102, 32, 121, 41, 41, 32, 40, 100, 101, 102, 32, 109, 97, 105, 110, 32, 40, 41, 32, 122, 41]⟩, .int .i64 14, .string ⟨#[40, 100, 101, 102, 32, 109, 97, 105, 110, 32, 40, 41, 32, 40, 78, 105, 108, 41, 41]⟩, .int .i64 (-2), .string ⟨#[40, 100, 101, 102, 32, 109, 97, 105, 110, 32, 40, 41, 32, 78, 105, 108, 41]⟩, .int .i64 13, .string ⟨#[40, 100, 101, 102, 32, 109, 97, 105, 110, 32, 40, 41, 32, 40, 84, 114, 117, 101, 32, 49, 41, 41]⟩, .int .i64 13, .string ⟨#[40, 100, 97, 116, 97, 32, 84, 32, 40, 41, 32, 40, 65, 41, 32, 40, 66, 41, 41, 32, 40, 100, 101, 102, 32, 109, 97, 105, 110, 32, 40, 41, 32, 40, 99, 97, 115, 101, 32, 65, 32, 40, 66, 32, 49, 41, 32, 40, 40, 65, 32, 50, 41, 32, 51, 41, 41, 41]⟩, .int .i64 48, .string ⟨#[40, 100, 97, 116, 97, 32, 84, 32, 40, 41, 32, 40, 65, 32, 84, 41, 41, 32, 40, 100, 101, 102, 32, 109, 97, 105, 110, 32, 40, 41, 32, 40, 65, 41, 41]⟩, .int .i64 (-2), .string ⟨#[40, 100, 97, 116, 97, 32, 84, 32, 40, 41, 32, 40, 65, 32, 84, 41, 41, 32, 40, 100, 101, 102, 32, 109, 97, 105, 110, 32, 40, 41, 32, 65, 41]⟩, .int .i64 31, .string ⟨#[40, 100, 97, 116, 97, 32, 84, 32, 40, 97, 41, 32, 40, 65, 32, 97, 41, 32, 40, 66, 32, 98, 41, 41, 32, 40, 100, 101, 102, 32, 109, 97, 105, 110, 32, 40, 41, 32, 49, 41]⟩, .int .i64 21, .string ⟨#[40, 100, 97, 116, 97, 32, 84, 32, 40, 41, 32, 40, 65, 32, 40, 85, 41, 41, 41, 32, 40, 100, 101, 102, 32, 109, 97, 105, 110, 32, 40, 41, 32, 49, 41]⟩, .int .i64 (-2), .string ⟨#[40, 100, 97, 116, 97, 32, 84, 32, 40, 41, 32, 40, 65, 32, 85, 41, 41, 32, 40, 100, 101, 102, 32, 109, 97, 105, 110, 32, 40, 41, 32, 49, 41]⟩, .int .i64 14, .string ⟨#[40, 100, 97, 116, 97, 32, 84, 32, 40, 41, 32, 40, 65, 41, 41, 32, 40, 100, 97, 116, 97, 32, 84, 32, 40, 41, 32, 40, 66, 41, 41, 32, 40, 100, 101, 102, 32, 109, 97, 105, 110, 32, 40, 41, 32, 120, 41]⟩, .int .i64 16, .string ⟨#[40, 100, 101, 102, 32, 102, 32, 40, 41, 32, 49, 41, 32, 40, 100, 101, 102, 32, 102, 32, 40, 41, 32, 50, 41]⟩, .int .i64 13, .string ⟨#[40, 100, 101, 102, 32, 102, 32, 40, 41, 32, 49, 41]⟩, .int .i64 0, .string ⟨#[]⟩, .int .i64 0]
theorem knownC_is : knownC = (knownT.flatMap fun x => [Value.string ⟨x.1.toArray⟩, .int .i64 x.2]).toArray := by rfl
theorem flat2 {α : Type} (f g : α → Value) : ∀ (l : List α) (k : Nat) (x : α), l[k]? = some x → (l.flatMap fun x => [f x, g x])[k * 2]? = some (f x) ∧ (l.flatMap fun x => [f x, g x])[k * 2 + 1]? = some (g x)
 | [], k, x, h => by simp at h
 | a :: r, 0, x, h => by simp at h; subst h; exact ⟨rfl, rfl⟩
 | a :: r, k + 1, x, h => by
   have := flat2 f g r k x (by simpa using h)
   rw [List.flatMap_cons, show (k + 1) * 2 = k * 2 + 2 from by omega]
   exact ⟨by rw [List.getElem?_append_right (by simp)]; simpa using this.1, by rw [List.getElem?_append_right (by simp)]; simpa [show k * 2 + 2 + 1 - 2 = k * 2 + 1 from by omega] using this.2⟩
theorem knownC_at {k : Nat} {s : Nm} {t : Int} (h : knownT[k]? = some (s, t)) : knownC[k * 2]? = some (.string ⟨s.toArray⟩) ∧ knownC[k * 2 + 1]? = some (.int .i64 t) := by
 rw [knownC_is]
 simpa using flat2 (fun x : Nm × Int => Value.string ⟨x.1.toArray⟩) (fun x => .int .i64 x.2) knownT k (s, t) h
set_option maxHeartbeats 8000000 in
set_option maxRecDepth 100000 in
theorem scopeKnown_walk (w : World) (a : Int) (ha : (Lit.int .u8 a).wf = true) :
 Calls Try.prog 6 #[.int .u8 a] w fun e w' => e = .returned (.bool true) ∧ Below w.heap.size w w' := by
 have hab := bounds_u8 ha
 obtain ⟨m, rfl⟩ : ∃ m : Nat, a = (m : Int) := ⟨a.toNat, by omega⟩
 have hm : m < 256 := by omega
 have hk : m % 20 < 20 := Nat.mod_lt _ (by omega)
 obtain ⟨k, hkm⟩ : ∃ k, m % 20 = k := ⟨_, rfl⟩
 rw [hkm] at hk
 obtain ⟨⟨s, t⟩, hst⟩ : ∃ x, knownT[k]? = some x := ⟨_, List.getElem?_eq_getElem (show k < knownT.length from hk)⟩
 have HOK := Lib.hid (known_at hst)
 have HC := Lib.hid (knownC_at hst)
 clear hst ha hab
 have hmod : ((m : Int)).tmod 20 = (k : Int) := by rw [Int.tmod_eq_emod_of_nonneg (by omega)]; omega
 go_enter Try.func6, Try.ntmps6
 go_wp2_with fail
 refine (lives_any _).mono ?_
 rintro e w1 ⟨rfl, hb1⟩
 have HB1 := Lib.hid hb1; clear hb1
 go_upto_region 3 with fail
 go_cut [3] (fun v wx => v = .slice (some ⟨w1.heap.size, 0, none⟩) 20 20 ∧ Hid (wx.heap[w1.heap.size]? = some (.cells knownC 61 (0, 0))) ∧ Hid (Below w1.heap.size w1 wx))
 case first =>
  go_wp2_with fail
  go_meet
  exact ⟨rfl, Lib.hid (ent_new w1 knownC 61), Lib.hid ((Below.refl _ _).alloc (Nat.le_refl _) _)⟩
 case rest =>
 obtain ⟨rfl, HEK, HB2⟩ := hcut
 have z0 := ent_cell HEK.out (k * 2) _ HC.out.1; have z1 := ent_cell HEK.out (k * 2 + 1) _ HC.out.2
 have E4 := Lib.hid (ent_new wc #[.string ⟨s.toArray⟩, .int .i64 t] 61)
 have HB4 := Lib.hid ((HB1.out.trans (HB2.out.mono HB1.out.size)).trans (((Below.refl _ wc).alloc (Nat.le_refl _) (.cells #[.string ⟨s.toArray⟩, .int .i64 t] 61)).mono (Nat.le_trans HB1.out.size HB2.out.size)))
 have y0 := ent_cell E4.out 0 _ rfl; have y1 := ent_cell E4.out 1 _ rfl
 have hok := HOK.out
 unfold knownOk at hok
 simp only [Bool.and_eq_true, decide_eq_true_eq] at hok
 obtain ⟨⟨⟨hs1, ht1⟩, ht2⟩, hmt⟩ := hok
 have HMT := Lib.hid hmt
 clear hmt HOK HC HEK
 have hkk : (k : Int) < 20 := by omega
 go_wp2_with fail
 clear y0 y1 z0 z1
 refine (RProgram_any s _ (by omega)).mono ?_
 rintro e w3 ⟨hb3, v, pp, kk, rfl, hsh, hres⟩
 have HB5 := Lib.hid (HB4.out.trans (hb3.mono HB4.out.size))
 have E5 := Lib.hid (ent_below E4.out hb3)
 clear E4 HB4 HB2 HB1 hb3
 obtain ⟨gb, hgb⟩ : ∃ g, wc.heap.size = g := ⟨_, rfl⟩
 rw [hgb] at E5 ⊢
 have hmt := HMT.out
 generalize hout : Px.program s = out at *
 cases out with
 | lex q =>
   obtain ⟨rfl, rfl⟩ := hres
   obtain ⟨q1, n1, c1, q2, n2, c2, rfl⟩ := hsh
   obtain rfl : t = -2 := by simpa using hmt
   have y1 := ent_cell (ent_alloc E5.out (.cells #[.slice q1 n1 c1, .slice q2 n2 c2] 27)) 1 _ rfl
   go_wp2_with fail
   go_ret
   exact ⟨rfl, HB5.out.alloc HB5.out.size _⟩
 | parse q =>
   obtain ⟨rfl, rfl⟩ := hres
   obtain ⟨q1, n1, c1, q2, n2, c2, rfl⟩ := hsh
   obtain rfl : t = -2 := by simpa using hmt
   have y1 := ent_cell (ent_alloc E5.out (.cells #[.slice q1 n1 c1, .slice q2 n2 c2] 27)) 1 _ rfl
   go_wp2_with fail
   go_ret
   exact ⟨rfl, HB5.out.alloc HB5.out.size _⟩
 | done p =>
 obtain ⟨rfl, rfl, hnew⟩ := hres
 simp only [Bool.and_eq_true, decide_eq_true_eq] at hmt
 obtain ⟨htn, hpt⟩ := hmt
 clear hsh
 obtain ⟨q1, c1, q2, c2, rfl⟩ := progAt_sh hnew.now
 have HP := Lib.hid (new_alloc hnew (.cells #[.slice q1 p.datas.length c1, .slice q2 p.defs.length c2] 27))
 have HB6 := Lib.hid (HB5.out.alloc HB5.out.size (.cells #[.slice q1 p.datas.length c1, .slice q2 p.defs.length c2] 27))
 have EX := Lib.hid (ent_new w3 #[.slice q1 p.datas.length c1, .slice q2 p.defs.length c2] 27)
 have E6 := Lib.hid (ent_alloc E5.out (.cells #[.slice q1 p.datas.length c1, .slice q2 p.defs.length c2] 27))
 have HW := Lib.hid (Px.program_wt s p hout)
 clear hnew hout E5 HB5
 have y1 := ent_cell E6.out 1 _ rfl
 have e0 := ent_cell EX.out 0 _ rfl; have e1 := ent_cell EX.out 1 _ rfl
 have ht3 : (t == -2) = false := beq_eq_false_iff_ne.2 htn
 go_wp2_with fail
 clear e0 e1 y1
 refine (Check_any p _ _ HP.out (by have := HW.out; omega)).mono ?_
 rintro e w5 ⟨rfl, hb5⟩
 have HB7 := Lib.hid (HB6.out.trans (hb5.mono HB6.out.size))
 have E7 := Lib.hid (ent_below E6.out hb5)
 clear hb5 HP EX E6 HB6 HW
 rw [hpt]
 have y1 := ent_cell E7.out 1 _ rfl
 by_cases hq : t = -1
 · subst hq
   rw [show checkNo (-1) = 0 from by decide]
   clear E7
   go_wp2_with fail
   go_ret
   exact ⟨rfl, HB7.out⟩
 · have hq2 : (t == -1) = false := beq_eq_false_iff_ne.2 hq
   rw [show checkNo t = 4 from by rw [checkNo, if_neg hq]]
   clear E7
   go_wp2_with fail
   go_ret
   exact ⟨rfl, HB7.out⟩
end Go.Proofs.Ytgoacbomphlhjaa
