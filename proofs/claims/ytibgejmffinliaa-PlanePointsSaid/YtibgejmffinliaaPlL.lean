/-
  The program's part, whole, Of, Re, Im, Add, Mul; the document's Part, Add, Mul.
-/
import Derived.Test.YtibgejmffinliaaRows
import Derived.Test.YtibgejmffinliaaPlP
import Derived.WalkKit
import Derived.WalkSpells
import Derived.WalkLawsBesides
import Derived.Laws.BitsAllLaws
import Derived.Laws.Externs
import Derived.Lib.Hide
namespace Go.Proofs.Ytibgejmffinliaa
open Go Go.RowKit
set_option linter.unusedVariables false
set_option linter.unusedSimpArgs false

theorem i64_mask (n : Int) : bits .and .i64 n 16777215 = n % 16777216 := by
  have h127 : (BitVec.ofInt 64 16777215).toNat = 2 ^ 24 - 1 := by decide
  have key : (BitVec.ofInt 64 n &&& BitVec.ofInt 64 16777215).toNat = (n % ((2 ^ 64 : Nat) : Int)).toNat % 2 ^ 24 := by
    rw [BitVec.toNat_and, BitVec.toNat_ofInt, h127, Nat.and_two_pow_sub_one_eq_mod]
  show IntKind.i64.wrap ((BitVec.ofInt 64 n &&& BitVec.ofInt 64 16777215).toNat : Nat) = n % 16777216
  rw [key, IntKind.wrap_i64]
  omega

theorem part_any (n : Int) (w : World) : Calls Try.prog 21 #[.int .i64 n] w fun e w' => e = .returned (.int .i64 (Pl.pm n)) ∧ w' = w := by
  go_enter Try.func21, Try.ntmps21
  go_wp2
  go_ret
  refine ⟨?_, rfl⟩
  rw [i64_mask]
  show Ending.returned (.int .i64 (wrap64 (wrap64 (n + 8388608) % 16777216 - 8388608))) = _
  have e : wrap64 (wrap64 (n + 8388608) % 16777216 - 8388608) = Pl.pm n := by unfold wrap64 Pl.pm; omega
  rw [e]

theorem and_abs (x : Nat) (h : x < 2 ^ 64) : bits .andNot .u64 (x : Int) 9223372036854775808 = ((x % 2 ^ 63 : Nat) : Int) := by
  have := u64_andNot_nat x 9223372036854775808 (by omega) (by decide)
  rw [show ((9223372036854775808 : Nat) : Int) = 9223372036854775808 by rfl] at this
  rw [this]
  congr 1
  exact Nat.and_two_pow_sub_one_eq_mod x 63

theorem call_bits (x : Nat) (w : World) : (callFunc 25 #[.float .f64 x]).run Try.prog w = .ok (.value (.int .u64 x)) w := by
  rw [run_callFunc_extern (e := Extern.MathFloatBits.float64bits) Try.func25 (by kernel_rfl) (by kernel_rfl) (by kernel_rfl) (by kernel_rfl)]
  rfl
theorem call_frombits (x : Int) (w : World) : (callFunc 24 #[.int .u64 x]).run Try.prog w = .ok (.value (.float .f64 x.toNat)) w := by
  rw [run_callFunc_extern (e := Extern.MathFloatBits.float64frombits) Try.func24 (by kernel_rfl) (by kernel_rfl) (by kernel_rfl) (by kernel_rfl)]
  rfl

theorem abs_any (x : Nat) (h : x < 2 ^ 64) (w : World) : Calls Try.prog 23 #[.float .f64 x] w fun e w' => e = .returned (.float .f64 (x % 2 ^ 63)) ∧ w' = w := by
  have h1 := call_bits x
  have h2 := call_frombits
  have h3 := and_abs x h
  go_enter Try.func23, Try.ntmps23
  go_wp2
  go_ret
  exact ⟨rfl, rfl⟩

theorem whole_any (x : Nat) (n : Int) (hx : Pl.FI x n) (h : x < 2 ^ 64) (hn : n.natAbs < 2 ^ 53) (w : World) : Calls Try.prog 22 #[.float .f64 x] w fun e w' => e = .returned (.int .i64 n) ∧ w' = w := by
  have h1 : (Ieee.double.order (x % 2 ^ 63) 4890909195324358656 == some Ordering.lt) = true := by
    rw [Pl.order_great (Pl.fi_abs hx) (by omega)]; rfl
  have h1' : ((FloatKind.f64).format.order (x % 2 ^ 63) 4890909195324358656 == some Ordering.lt) = true := h1
  have h2 : floatToIntVal .f64 x .i64 = some n := by
    unfold floatToIntVal
    have := Pl.fi_toInt hx
    have e : (FloatKind.f64.decode x).toInt .zero = some n := this
    rw [e]
    have hb : IntKind.i64.min ≤ n ∧ n ≤ IntKind.i64.max := by
      have a : IntKind.i64.min = -9223372036854775808 := by decide
      have b : IntKind.i64.max = 9223372036854775807 := by decide
      rw [a, b]; omega
    exact if_pos hb
  have h3 := fun v : World => run_convert_float_int (P := Try.prog) v 46 2 .f64 .i64 x n (by kernel_rfl) (by kernel_rfl) h2
  go_enter Try.func22, Try.ntmps22
  go_wp2_with (first | (refine (abs_any x h _).mono ?_; intro e w' hh; obtain ⟨rfl, rfl⟩ := hh))
  go_ret
  exact ⟨rfl, rfl⟩

/-- A point as a value. -/
def cv (p : Pl.Pt) : Value := .complex .f64 (Pl.fl p.1) (Pl.fl p.2)
theorem cv_of (a b : Int) : cv (a, b) = .complex .f64 (floatOfInt .f64 a) (floatOfInt .f64 b) := rfl

theorem of_any (a b : Int) (w : World) : Calls Try.prog 10 #[.int .i64 a, .int .i64 b] w fun e w' => e = .returned (cv (Pl.ofP a b)) ∧ w' = w := by
  go_enter Try.func10, Try.ntmps10
  go_wp2_with (first | (refine (part_any a _).mono ?_; intro e w' hh; obtain ⟨rfl, rfl⟩ := hh) | (refine (part_any b _).mono ?_; intro e w' hh; obtain ⟨rfl, rfl⟩ := hh))
  go_ret
  exact ⟨rfl, rfl⟩

/-- A complex number whose parts are whole. -/
def CI (x y : Nat) (a b : Int) : Prop := (Pl.FI x a ∧ x < 2 ^ 64 ∧ a.natAbs < 2 ^ 53) ∧ Pl.FI y b ∧ y < 2 ^ 64 ∧ b.natAbs < 2 ^ 53

theorem re_any {x y : Nat} {a b : Int} (h : CI x y a b) (w : World) : Calls Try.prog 20 #[.complex .f64 x y] w fun e w' => e = .returned (.int .i64 (Pl.pm a)) ∧ w' = w := by
  go_enter Try.func20, Try.ntmps20
  go_wp2_with (first | (refine (whole_any x a h.1.1 h.1.2.1 h.1.2.2 _).mono ?_; intro e w' hh; obtain ⟨rfl, rfl⟩ := hh) | (refine (part_any a _).mono ?_; intro e w' hh; obtain ⟨rfl, rfl⟩ := hh))
  go_ret
  exact ⟨rfl, rfl⟩
theorem im_any {x y : Nat} {a b : Int} (h : CI x y a b) (w : World) : Calls Try.prog 19 #[.complex .f64 x y] w fun e w' => e = .returned (.int .i64 (Pl.pm b)) ∧ w' = w := by
  go_enter Try.func19, Try.ntmps19
  go_wp2_with (first | (refine (whole_any y b h.2.1 h.2.2.1 h.2.2.2 _).mono ?_; intro e w' hh; obtain ⟨rfl, rfl⟩ := hh) | (refine (part_any b _).mono ?_; intro e w' hh; obtain ⟨rfl, rfl⟩ := hh))
  go_ret
  exact ⟨rfl, rfl⟩

theorem fl_lt (n : Int) : Pl.fl n < 2 ^ 64 := Ieee.Format.nearest_lt Ieee.double _ _ _
theorem cv_CI {p : Pl.Pt} (h : Pl.IsP p) : CI (Pl.fl p.1) (Pl.fl p.2) p.1 p.2 := by
  obtain ⟨⟨h1, h2⟩, h3, h4⟩ := h
  have e53 : (2 : Nat) ^ 53 = 9007199254740992 := by decide
  have a : p.1.natAbs < 2 ^ 53 := by omega
  have b : p.2.natAbs < 2 ^ 53 := by omega
  exact ⟨⟨Pl.fi_fl _ a, fl_lt _, a⟩, Pl.fi_fl _ b, fl_lt _, b⟩

theorem CI.add {x y z u : Nat} {a b c d : Int} (h : CI x y a b) (g : CI z u c d) (h1 : (a + c).natAbs < 2 ^ 53) (h2 : (b + d).natAbs < 2 ^ 53) :
    ∃ r s, cSumBits .add .f64 x y z u = some (r, s) ∧ CI r s (a + c) (b + d) := by
  obtain ⟨r, hr, fr⟩ := Pl.fi_add h.1.1 g.1.1 h1
  obtain ⟨s, hs, fs⟩ := Pl.fi_add h.2.1 g.2.1 h2
  have er : floatBits .add .f64 x z = some r := hr
  have es : floatBits .add .f64 y u = some s := hs
  refine ⟨r, s, by simp [cSumBits, er, es], ⟨fr, Ieee.Format.add_lt _ hr, h1⟩, fs, Ieee.Format.add_lt _ hs, h2⟩

theorem CI.mul {x y z u : Nat} {a b c d : Int} (h : CI x y a b) (g : CI z u c d)
    (k1 : (a * c).natAbs < 2 ^ 52) (k2 : (b * d).natAbs < 2 ^ 52) (k3 : (a * d).natAbs < 2 ^ 52) (k4 : (b * c).natAbs < 2 ^ 52) :
    ∃ r s, cMulBits x y z u = some (r, s) ∧ CI r s (a * c - b * d) (a * d + b * c) := by
  have e53 : (2 : Nat) ^ 53 = 2 ^ 52 + 2 ^ 52 := by decide
  obtain ⟨p1, q1, f1⟩ := Pl.fi_mul h.1.1 g.1.1 (by omega)
  obtain ⟨p2, q2, f2⟩ := Pl.fi_mul h.2.1 g.2.1 (by omega)
  obtain ⟨p3, q3, f3⟩ := Pl.fi_mul h.1.1 g.2.1 (by omega)
  obtain ⟨p4, q4, f4⟩ := Pl.fi_mul h.2.1 g.1.1 (by omega)
  have n1 : (a * c - b * d).natAbs < 2 ^ 53 := by omega
  have n2 : (a * d + b * c).natAbs < 2 ^ 53 := by omega
  obtain ⟨r, hr, fr⟩ := Pl.fi_sub f1 f2 n1
  obtain ⟨s, hs, fs⟩ := Pl.fi_add f3 f4 n2
  have e1 : floatBits .mul .f64 x z = some p1 := q1
  have e2 : floatBits .mul .f64 y u = some p2 := q2
  have e3 : floatBits .mul .f64 x u = some p3 := q3
  have e4 : floatBits .mul .f64 y z = some p4 := q4
  have er : floatBits .sub .f64 p1 p2 = some r := hr
  have es : floatBits .add .f64 p3 p4 = some s := hs
  exact ⟨r, s, by simp [cMulBits, e1, e2, e3, e4, er, es], ⟨fr, Ieee.Format.sub_lt _ hr, n1⟩, fs, Ieee.Format.add_lt _ hs, n2⟩

theorem add_any {p q : Pl.Pt} (hp : Pl.IsP p) (hq : Pl.IsP q) (w : World) : Calls Try.prog 16 #[cv p, cv q] w fun e w' => e = .returned (cv (Pl.addP p q)) ∧ w' = w := by
  have e53 : (2 : Nat) ^ 53 = 9007199254740992 := by decide
  obtain ⟨r, s, hrs, H⟩ := (cv_CI hp).add (cv_CI hq) (by obtain ⟨⟨a1, a2⟩, _⟩ := hp; obtain ⟨⟨b1, b2⟩, _⟩ := hq; omega) (by obtain ⟨_, a1, a2⟩ := hp; obtain ⟨_, b1, b2⟩ := hq; omega)
  have hb := fun v : World => run_complex_sum (P := Try.prog) v .add (Or.inl rfl) 26 .f64 _ _ _ _ r s hrs
  go_enter Try.func16, Try.ntmps16
  unfold cv
  go_wp2_with (first | (refine (re_any H _).mono ?_; intro e w' hh; obtain ⟨rfl, rfl⟩ := hh) | (refine (im_any H _).mono ?_; intro e w' hh; obtain ⟨rfl, rfl⟩ := hh) | (refine (of_any _ _ _).mono ?_; intro e w' hh; obtain ⟨rfl, rfl⟩ := hh))
  go_ret
  refine ⟨?_, rfl⟩
  have e : Pl.ofP (Pl.pm (p.1 + q.1)) (Pl.pm (p.2 + q.2)) = Pl.addP p q := by simp [Pl.ofP, Pl.addP, Pl.pm_pm]
  exact congrArg (fun x => Ending.returned (cv x)) e

theorem mul_any {p q : Pl.Pt} (hp : Pl.IsP p) (hq : Pl.IsP q) (w : World) : Calls Try.prog 17 #[cv p, cv q] w fun e w' => e = .returned (cv (Pl.mulP p q)) ∧ w' = w := by
  have e52 : (2 : Nat) ^ 52 = 4503599627370496 := by decide
  obtain ⟨⟨a1, a2⟩, a3, a4⟩ := id hp
  obtain ⟨⟨b1, b2⟩, b3, b4⟩ := id hq
  obtain ⟨r, s, hrs, H⟩ := (cv_CI hp).mul (cv_CI hq) (by have := Pl.prod_bound a1 a2 b1 b2; omega) (by have := Pl.prod_bound a3 a4 b3 b4; omega) (by have := Pl.prod_bound a1 a2 b3 b4; omega) (by have := Pl.prod_bound a3 a4 b1 b2; omega)
  clear a1 a2 a3 a4 b1 b2 b3 b4
  have hb := fun v : World => run_complex_mul (P := Try.prog) v 26 _ _ _ _ r s hrs
  go_enter Try.func17, Try.ntmps17
  unfold cv
  go_wp2_with (first | (refine (re_any H _).mono ?_; intro e w' hh; obtain ⟨rfl, rfl⟩ := hh) | (refine (im_any H _).mono ?_; intro e w' hh; obtain ⟨rfl, rfl⟩ := hh) | (refine (of_any _ _ _).mono ?_; intro e w' hh; obtain ⟨rfl, rfl⟩ := hh))
  go_ret
  refine ⟨?_, rfl⟩
  have e : Pl.ofP (Pl.pm (p.1 * q.1 - p.2 * q.2)) (Pl.pm (p.1 * q.2 + p.2 * q.1)) = Pl.mulP p q := by simp [Pl.ofP, Pl.mulP, Pl.pm_pm]
  exact congrArg (fun x => Ending.returned (cv x)) e

end Go.Proofs.Ytibgejmffinliaa
