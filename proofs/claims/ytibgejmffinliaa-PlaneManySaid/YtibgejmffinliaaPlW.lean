/-
  Points as words; the law's lives and is; the document's functions.
-/
import Derived.Test.YtibgejmffinliaaPlL
import Derived.Below
import Derived.Deep.QuietTactic
import Derived.BigQuiet
namespace Go.Proofs.Ytibgejmffinliaa
open Go Go.RowKit
set_option linter.unusedVariables false
set_option linter.unusedSimpArgs false

namespace Pl
/-- A point as a number. -/
def wordP (p : Pt) : Int := p.1 % 4294967296 * 4294967296 + p.2 % 4294967296
end Pl

theorem cvre_any {p : Pl.Pt} (hp : Pl.IsP p) (w : World) : Calls Try.prog 20 #[cv p] w fun e w' => e = .returned (.int .i64 p.1) ∧ w' = w := by
  have h := re_any (cv_CI hp) w
  rwa [Pl.pm_part hp.1.1 hp.1.2] at h
theorem cvim_any {p : Pl.Pt} (hp : Pl.IsP p) (w : World) : Calls Try.prog 19 #[cv p] w fun e w' => e = .returned (.int .i64 p.2) ∧ w' = w := by
  have h := im_any (cv_CI hp) w
  rwa [Pl.pm_part hp.2.1 hp.2.2] at h

theorem lives_any (w : World) : Calls Try.prog 8 #[] w fun e w' => e = .returned (.bool true) ∧ w' = w := by
  have a : Pl.IsP (Pl.ofP 1 2) := Pl.ofP_is _ _
  have b : Pl.IsP (Pl.ofP 3 4) := Pl.ofP_is _ _
  have m1 : (Pl.mulP (Pl.ofP 1 2) (Pl.ofP 3 4)).1 = -5 := by decide
  have m2 : (Pl.mulP (Pl.ofP 1 2) (Pl.ofP 3 4)).2 = 10 := by decide
  have hm := Pl.mulP_is (Pl.ofP 1 2) (Pl.ofP 3 4)
  have ra := cvre_any hm
  have rb := cvim_any hm
  rw [m1] at ra
  rw [m2] at rb
  go_enter Try.func8, Try.ntmps8
  go_wp2_with (first | (refine (of_any _ _ _).mono ?_; intro e w' hh; obtain ⟨rfl, rfl⟩ := hh) | (refine (mul_any a b _).mono ?_; intro e w' hh; obtain ⟨rfl, rfl⟩ := hh) | (refine (ra _).mono ?_; intro e w' hh; obtain ⟨rfl, rfl⟩ := hh) | (refine (rb _).mono ?_; intro e w' hh; obtain ⟨rfl, rfl⟩ := hh))
  go_ret
  exact ⟨rfl, rfl⟩

theorem is_any {p : Pl.Pt} (hp : Pl.IsP p) (a b : Int) (w : World) : Calls Try.prog 15 #[cv p, .int .i64 a, .int .i64 b] w fun e w' => e = .returned (.bool (decide (p = (a, b)))) ∧ w' = w := by
  obtain ⟨x, y⟩ := p
  have ra := cvre_any hp
  have rb := cvim_any hp
  simp only at ra rb
  go_enter Try.func15, Try.ntmps15
  by_cases hx : x = a
  · subst hx
    go_wp2_with (first | (refine (ra _).mono ?_; intro e w' hh; obtain ⟨rfl, rfl⟩ := hh) | (refine (rb _).mono ?_; intro e w' hh; obtain ⟨rfl, rfl⟩ := hh))
    go_ret
    refine ⟨congrArg (fun b => Ending.returned (.bool b)) ?_, rfl⟩
    by_cases hy : y = b
    · subst hy; simp
    · have : (y == b) = false := by simpa using hy
      simp [hy, this]
  · go_wp2_with (first | (refine (ra _).mono ?_; intro e w' hh; obtain ⟨rfl, rfl⟩ := hh) | (refine (rb _).mono ?_; intro e w' hh; obtain ⟨rfl, rfl⟩ := hh))
    go_ret
    refine ⟨congrArg (fun b => Ending.returned (.bool b)) ?_, rfl⟩
    simp [hx]

theorem u64_join (x y : Int) (h1 : 0 ≤ x) (h2 : x < 4294967296) (h3 : 0 ≤ y) (h4 : y < 4294967296) : bits .or .u64 (x * 4294967296) y = x * 4294967296 + y := by
  obtain ⟨X, rfl⟩ := Int.eq_ofNat_of_zero_le h1
  obtain ⟨Y, rfl⟩ := Int.eq_ofNat_of_zero_le h3
  have hX : X * 4294967296 < 18446744073709551616 := by omega
  have hY : Y < 18446744073709551616 := by omega
  have := u64_or_nat (X * 4294967296) Y hX hY
  have e : ((X * 4294967296 : Nat) : Int) = (X : Int) * 4294967296 := Int.natCast_mul _ _
  rw [e] at this
  have hj := nat_join 32 (X * 4294967296) Y (by have : (2 : Nat) ^ 32 = 4294967296 := by decide
                                                rw [this]; exact Nat.mul_mod_left _ _) (by have : (2 : Nat) ^ 32 = 4294967296 := by decide
                                                                                           rw [this]; omega)
  rw [this, hj, Int.natCast_add, e]

theorem word_any {p : Pl.Pt} (hp : Pl.IsP p) (w : World) : Calls Try.prog 14 #[cv p] w fun e w' => e = .returned (.int .u64 (Pl.wordP p)) ∧ w' = w := by
  have ra := cvre_any hp
  have rb := cvim_any hp
  have hj := u64_join (p.1 % 4294967296) (p.2 % 4294967296) (by omega) (by omega) (by omega) (by omega)
  go_enter Try.func14, Try.ntmps14
  go_wp2_with (first | (refine (ra _).mono ?_; intro e w' hh; obtain ⟨rfl, rfl⟩ := hh) | (refine (rb _).mono ?_; intro e w' hh; obtain ⟨rfl, rfl⟩ := hh))
  go_ret
  exact ⟨rfl, rfl⟩

/-- The point of a number. -/
def fromP (x : Int) : Pl.Pt := Pl.ofP (wrap64 (wrap32 (x / 4294967296))) (wrap64 (wrap32 x))
theorem fromword_any (x : Int) (h1 : 0 ≤ x) (h2 : x < 18446744073709551616) (w : World) : Calls Try.prog 13 #[.int .u64 x] w fun e w' =>
    e = .returned (.tuple (if Pl.wordP (fromP x) = x then #[cv (fromP x), .int .i64 0] else #[.complex .f64 0 0, .int .i64 12])) ∧ w' = w := by
  have hof := of_any (wrap64 (wrap32 (x / 4294967296))) (wrap64 (wrap32 x))
  rw [show Pl.ofP (wrap64 (wrap32 (x / 4294967296))) (wrap64 (wrap32 x)) = fromP x from rfl] at hof
  have hp : Pl.IsP (fromP x) := Pl.ofP_is _ _
  generalize fromP x = p at *
  have hwd := word_any hp
  go_enter Try.func13, Try.ntmps13
  by_cases hw : Pl.wordP p = x
  · rw [if_pos hw]
    rw [hw] at hwd
    clear hw
    go_wp2_with (first | (refine (hof _).mono ?_; intro e w' hh; obtain ⟨rfl, rfl⟩ := hh) | (refine (hwd _).mono ?_; intro e w' hh; obtain ⟨rfl, rfl⟩ := hh))
    go_ret2
    exact ⟨rfl, rfl⟩
  · rw [if_neg hw]
    generalize Pl.wordP p = y at *
    go_wp2_with (first | (refine (hof _).mono ?_; intro e w' hh; obtain ⟨rfl, rfl⟩ := hh) | (refine (hwd _).mono ?_; intro e w' hh; obtain ⟨rfl, rfl⟩ := hh))
    all_goals go_ret2
    all_goals exact ⟨rfl, rfl⟩

theorem tmod_pos (n : Int) (h : 0 ≤ n) : n.tmod 16777216 = n % 16777216 := Int.tmod_eq_emod_of_nonneg h
theorem tmod_neg (n : Int) (h : ¬ 0 ≤ n) : n.tmod 16777216 = -((-n) % 16777216) := by
  have e : n = -(-n) := by omega
  rw [e, Int.neg_tmod, Int.tmod_eq_emod_of_nonneg (by omega)]
  omega
theorem refpart_any (n : Int) (w : World) : Calls Try.prog 9 #[.int .i64 n] w fun e w' => e = .returned (.int .i64 (Pl.pm n)) ∧ w' = w := by
  have hpm : Pl.pm n = (n + 8388608) % 16777216 - 8388608 := rfl
  have ht : (0 ≤ n ∧ n.tmod 16777216 = n % 16777216) ∨ (n < 0 ∧ n.tmod 16777216 = -((-n) % 16777216)) := by
    by_cases h : 0 ≤ n
    · exact .inl ⟨h, tmod_pos n h⟩
    · exact .inr ⟨by omega, tmod_neg n h⟩
  generalize Pl.pm n = m at hpm ⊢
  have ht := Lib.hid ht
  go_enter Try.func9, Try.ntmps9
  go_wp2
  all_goals go_ret
  all_goals refine ⟨congrArg (fun x => Ending.returned (Value.int .i64 x)) (?_ : _ = m), rfl⟩
  all_goals (have ht := ht.out; generalize n.tmod 16777216 = T at *; try unfold wrap64 at *)
  all_goals omega

theorem refadd_any (a b c d : Int) (ha : -8388608 ≤ a ∧ a < 8388608) (hb : -8388608 ≤ b ∧ b < 8388608) (hc : -8388608 ≤ c ∧ c < 8388608) (hd : -8388608 ≤ d ∧ d < 8388608) (w : World) :
    Calls Try.prog 11 #[.int .i64 a, .int .i64 b, .int .i64 c, .int .i64 d] w fun e w' => e = .returned (.tuple #[.int .i64 (Pl.pm (a + c)), .int .i64 (Pl.pm (b + d))]) ∧ w' = w := by
  have e1 : wrap64 (a + c) = a + c := by unfold wrap64; omega
  have e2 : wrap64 (b + d) = b + d := by unfold wrap64; omega
  clear ha hb hc hd
  go_enter Try.func11, Try.ntmps11
  go_wp2_with (first | (refine (refpart_any _ _).mono ?_; intro e w' hh; obtain ⟨rfl, rfl⟩ := hh))
  go_ret2
  exact ⟨rfl, rfl⟩
theorem refmul_any (a b c d : Int) (ha : -8388608 ≤ a ∧ a < 8388608) (hb : -8388608 ≤ b ∧ b < 8388608) (hc : -8388608 ≤ c ∧ c < 8388608) (hd : -8388608 ≤ d ∧ d < 8388608) (w : World) :
    Calls Try.prog 12 #[.int .i64 a, .int .i64 b, .int .i64 c, .int .i64 d] w fun e w' => e = .returned (.tuple #[.int .i64 (Pl.pm (a * c - b * d)), .int .i64 (Pl.pm (a * d + b * c))]) ∧ w' = w := by
  have p1 := Pl.prod_bound ha.1 ha.2 hc.1 hc.2
  have p2 := Pl.prod_bound hb.1 hb.2 hd.1 hd.2
  have p3 := Pl.prod_bound ha.1 ha.2 hd.1 hd.2
  have p4 := Pl.prod_bound hb.1 hb.2 hc.1 hc.2
  have e1 : wrap64 (a * c) = a * c := by unfold wrap64; omega
  have e2 : wrap64 (b * d) = b * d := by unfold wrap64; omega
  have e3 : wrap64 (a * d) = a * d := by unfold wrap64; omega
  have e4 : wrap64 (b * c) = b * c := by unfold wrap64; omega
  have e5 : wrap64 (a * c - b * d) = a * c - b * d := by unfold wrap64; omega
  have e6 : wrap64 (a * d + b * c) = a * d + b * c := by unfold wrap64; omega
  clear ha hb hc hd p1 p2 p3 p4
  go_enter Try.func12, Try.ntmps12
  go_wp2_with (first | (refine (refpart_any _ _).mono ?_; intro e w' hh; obtain ⟨rfl, rfl⟩ := hh))
  go_ret2
  exact ⟨rfl, rfl⟩
theorem refword_any (a b : Int) (ha : -8388608 ≤ a ∧ a < 8388608) (hb : -8388608 ≤ b ∧ b < 8388608) (w : World) :
    Calls Try.prog 18 #[.int .i64 a, .int .i64 b] w fun e w' => e = .returned (.int .u64 (Pl.wordP (a, b))) ∧ w' = w := by
  have hpm : Pl.wordP (a, b) = a % 4294967296 * 4294967296 + b % 4294967296 := rfl
  generalize Pl.wordP (a, b) = m at hpm ⊢
  have ha := Lib.hid ha
  have hb := Lib.hid hb
  go_enter Try.func18, Try.ntmps18
  go_wp2
  all_goals go_ret
  all_goals refine ⟨congrArg (fun x => Ending.returned (Value.int .u64 x)) (?_ : _ = m), rfl⟩
  all_goals (have ha := ha.out; have hb := hb.out; try unfold wrap64 at *)
  all_goals omega

theorem order_fl {a b : Int} (ha : -8388608 ≤ a ∧ a < 8388608) (hb : -8388608 ≤ b ∧ b < 8388608) : (FloatKind.f64).format.order (Pl.fl a) (Pl.fl b) = some (compare a b) := by
  have e53 : (2 : Nat) ^ 53 = 9007199254740992 := by decide
  exact Pl.fi_order (Pl.fi_fl a (by omega)) (Pl.fi_fl b (by omega))
theorem run_eql_cv {p q : Pl.Pt} (hp : Pl.IsP p) (hq : Pl.IsP q) (h : p = q) (w : World) : (binOp .eql 26 (cv p) (cv q)).run Try.prog w = .ok (.bool true) w := by
  subst h
  unfold cv
  rw [run_eql_complex, order_fl hp.1 hp.1, order_fl hp.2 hp.2, Pl.cmp_eq, Pl.cmp_eq]
  rfl
theorem run_neq_cv {p q : Pl.Pt} (hp : Pl.IsP p) (hq : Pl.IsP q) (h : p = q) (w : World) : (binOp .neq 26 (cv p) (cv q)).run Try.prog w = .ok (.bool false) w := by
  subst h
  unfold cv
  rw [run_neq_complex, order_fl hp.1 hp.1, order_fl hp.2 hp.2, Pl.cmp_eq, Pl.cmp_eq]
  rfl
theorem guard_cv (op : BinOp) (x y : Operand) (p : Pl.Pt) (v : Value) (w : World) : (eqGuard op 26 x y (cv p) v).run Try.prog w = .ok () w := by
  unfold cv
  rw [eqGuard_at_complex]
  rfl
theorem ent_cell {w : World} {g : Nat} {cs : Array Value} {T : TypeId} {fr : Nat × Nat} (h : w.heap[g]? = some (.cells cs T fr)) (j : Nat) (v : Value) (hv : cs[j]? = some v) : w.cell? ⟨g, j, none⟩ = some v := by
  simp only [World.cell?, h]; simpa using hv
theorem ent_new (w : World) (cs : Array Value) (T : TypeId) : (w.alloc (.cells cs T)).heap[w.heap.size]? = some (.cells cs T (0, 0)) := heap_alloc_new w _
theorem below_dn {B : Nat} {a w : World} (h : Below B a w) (n : Nat) : Below B a (w.drewN n) := h.trans ⟨rfl, rfl, rfl, Nat.le_refl _, fun _ _ => rfl⟩
theorem pm_wrap (x : Int) : Pl.pm (wrap64 x) = Pl.pm x := Pl.pm_eq ⟨-((x + 9223372036854775808) / 18446744073709551616) * 1099511627776, by unfold wrap64; omega⟩

end Go.Proofs.Ytibgejmffinliaa
