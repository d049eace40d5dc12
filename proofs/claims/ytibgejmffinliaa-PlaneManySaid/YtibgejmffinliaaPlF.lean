/-
  Whole numbers as words of floats: a sum, a difference, a product of whole numbers below 2^53 is exact. No project text.
-/
import Derived.Laws.FloatArith
namespace Go.Proofs.Ytibgejmffinliaa
namespace Pl
open Ieee

/-- The word b stands for the whole number n. -/
def FI (b : Nat) (n : Int) : Prop := ∃ (s : Bool) (k : Nat), double.read b = .number s (n.natAbs * 2 ^ k) (-(k : Int)) ∧ (n ≠ 0 → s = decide (n < 0))

theorem log2_mul_pow (N k : Nat) (hN : N ≠ 0) : (N * 2 ^ k).log2 = N.log2 + k := by
  have h1 : 0 < 2 ^ k := Nat.two_pow_pos _
  have hn : N * 2 ^ k ≠ 0 := Nat.mul_ne_zero hN (by omega)
  refine (Nat.log2_eq_iff hn).2 ⟨?_, ?_⟩
  · rw [Nat.pow_add]; exact Nat.mul_le_mul_right _ (Nat.log2_self_le hN)
  · have := Nat.lt_log2_self (n := N)
    have e : N.log2 + k + 1 = (N.log2 + 1) + k := by omega
    rw [e, Nat.pow_add]; exact Nat.mul_lt_mul_of_pos_right this h1

theorem cut_exact (way : Toward) (hw : way = .even ∨ way = .zero) (neg : Bool) (A d : Nat) : way.cut neg (A * 2 ^ d) d = A := by
  by_cases hA : A = 0
  · subst hA
    rcases hw with rfl | rfl <;> simp [Toward.cut]
  · have hl : min d ((A * 2 ^ d).log2 + 2) = d := by rw [log2_mul_pow A d hA]; omega
    have hp : 0 < 2 ^ d := Nat.two_pow_pos _
    unfold Toward.cut
    rw [hl]
    simp only [Nat.one_shiftLeft, Nat.mul_div_cancel _ hp, Nat.mul_mod_left]
    rcases hw with rfl | rfl
    · have h1 : ¬ 2 ^ d < 0 := by omega
      have h2 : ¬ 2 ^ d = 0 := by omega
      simp
    · simp

theorem read_word_small (neg : Bool) : double.read (double.word neg 0) = .number neg 0 (-(1074 : Nat) : Int) := by
  cases neg <;> rfl

theorem read_word (neg : Bool) (E f : Nat) (hf : f < 2 ^ 52) (h1 : 1 ≤ E) (h2 : E < 2047) :
    double.read (double.word neg (E * 2 ^ 52 + f)) = .number neg (2 ^ 52 + f) (-1074 + (E - 1 : Nat)) := by
  have hsw : double.signWeight = 9223372036854775808 := by decide
  have hb : double.binade = 4503599627370496 := by decide
  have hi : double.infRung = 2047 * 4503599627370496 := by decide
  have hp : double.leastPlace = -1074 := by decide
  have e52 : (2 : Nat) ^ 52 = 4503599627370496 := by decide
  rw [e52] at *
  have hr : E * 4503599627370496 + f < 9223372036854775808 := by omega
  have hw : double.word neg (E * 4503599627370496 + f) % double.signWeight = E * 4503599627370496 + f := by
    unfold Format.word; rw [hsw]; cases neg <;> simp <;> omega
  have hn : (double.word neg (E * 4503599627370496 + f) / double.signWeight % 2 == 1) = neg := by
    unfold Format.word; rw [hsw]; cases neg
    · have : (E * 4503599627370496 + f) / 9223372036854775808 = 0 := by omega
      simp [this]
    · have : (9223372036854775808 + (E * 4503599627370496 + f)) / 9223372036854775808 = 1 := by omega
      simp [this]
  unfold Format.read
  simp only [hw, hn, hb, hi, hp]
  have c1 : ¬ (E * 4503599627370496 + f < 4503599627370496) := by omega
  have c2 : E * 4503599627370496 + f < 2047 * 4503599627370496 := by omega
  have m1 : (E * 4503599627370496 + f) % 4503599627370496 = f := by omega
  have m2 : (E * 4503599627370496 + f) / 4503599627370496 = E := by omega
  rw [if_neg c1, if_pos c2, m1, m2]

theorem rung_aux0 (T K : Nat) (h3 : T ≤ 4836865999795912704) (h1 : 4503599627370496 ≤ K) (h2 : K < 9007199254740992) :
    min (T + K) 9218868437227405312 = T + 4503599627370496 + (K - 4503599627370496) := by
  omega

theorem rung_aux (l K : Nat) (h : l ≤ 52) (h1 : 4503599627370496 ≤ K) (h2 : K < 9007199254740992) :
    min ((l + 1022) * 4503599627370496 + K) (2047 * 4503599627370496) = (l + 1023) * 4503599627370496 + (K - 4503599627370496) := by
  have h3 : (l + 1022) * 4503599627370496 ≤ 1074 * 4503599627370496 := Nat.mul_le_mul_right _ (by omega)
  have h4 : (l + 1022 + 1) * 4503599627370496 = (l + 1022) * 4503599627370496 + 4503599627370496 := by
    rw [Nat.add_mul, Nat.one_mul]
  have e : (2047 : Nat) * 4503599627370496 = 9218868437227405312 := by decide
  have e2 : (1074 : Nat) * 4503599627370496 = 4836865999795912704 := by decide
  rw [e2] at h3
  have h5 := rung_aux0 ((l + 1022) * 4503599627370496) K h3 h1 h2
  rw [e, h5, ← h4]

theorem fi_nearest (s : Bool) (n : Int) (k : Nat) (hn : n.natAbs < 2 ^ 53) (hs : n ≠ 0 → s = decide (n < 0)) :
    FI (double.nearest s (n.natAbs * 2 ^ k) (-(k : Int))) n := by
  by_cases h0 : n = 0
  · subst h0
    refine ⟨s, 1074, ?_, fun h => absurd rfl h⟩
    unfold Format.nearest
    simp only [Int.natAbs_zero, Nat.zero_mul, if_true]
    exact read_word_small s
  · generalize hN : n.natAbs = N at *
    have hN0 : N ≠ 0 := by omega
    have hl := log2_mul_pow N k hN0
    have hle : 2 ^ N.log2 ≤ N := Nat.log2_self_le hN0
    have hlt : N < 2 ^ (N.log2 + 1) := Nat.lt_log2_self
    generalize N.log2 = l at *
    have hl52 : l ≤ 52 := by
      rcases Nat.lt_or_ge l 53 with h | h
      · omega
      · have := Nat.pow_le_pow_right (n := 2) (by decide) h
        omega
    have hm : N * 2 ^ k ≠ 0 := Nat.mul_ne_zero hN0 (by have := Nat.two_pow_pos k; omega)
    have hlast : max (-(k : Int) + ((N * 2 ^ k).log2 : Nat) - (double.fractionBits : Nat)) double.leastPlace = (l : Int) - 52 := by
      rw [hl]
      have hp : double.leastPlace = -1074 := by decide
      have hf : double.fractionBits = 52 := rfl
      rw [hp, hf]; omega
    have hkept : Toward.even.cut s ((N * 2 ^ k) <<< (-(k : Int) - ((l : Int) - 52)).toNat) (((l : Int) - 52) - -(k : Int)).toNat = N * 2 ^ (52 - l) := by
      rcases Nat.lt_or_ge (52 - l) k with hk | hk
      · have e1 : (-(k : Int) - ((l : Int) - 52)).toNat = 0 := by omega
        have e2 : (((l : Int) - 52) - -(k : Int)).toNat = k - (52 - l) := by omega
        have e3 : N * 2 ^ k = N * 2 ^ (52 - l) * 2 ^ (k - (52 - l)) := by
          rw [Nat.mul_assoc, ← Nat.pow_add]; congr 2; omega
        rw [e1, e2, Nat.shiftLeft_zero, e3]
        exact cut_exact .even (Or.inl rfl) s _ _
      · have e1 : (-(k : Int) - ((l : Int) - 52)).toNat = (52 - l) - k := by omega
        have e2 : (((l : Int) - 52) - -(k : Int)).toNat = 0 := by omega
        have e3 : (N * 2 ^ k) <<< ((52 - l) - k) = N * 2 ^ (52 - l) := by
          rw [Nat.shiftLeft_eq, Nat.mul_assoc, ← Nat.pow_add]; congr 2; omega
        rw [e1, e2, e3]
        have := cut_exact .even (Or.inl rfl) s (N * 2 ^ (52 - l)) 0
        simpa using this
    have hk1 : 2 ^ 52 ≤ N * 2 ^ (52 - l) := by
      have : 2 ^ l * 2 ^ (52 - l) ≤ N * 2 ^ (52 - l) := Nat.mul_le_mul_right _ hle
      rw [← Nat.pow_add] at this
      have e : l + (52 - l) = 52 := by omega
      rwa [e] at this
    have hk2 : N * 2 ^ (52 - l) < 2 ^ 53 := by
      have : N * 2 ^ (52 - l) < 2 ^ (l + 1) * 2 ^ (52 - l) := Nat.mul_lt_mul_of_pos_right hlt (Nat.two_pow_pos _)
      rw [← Nat.pow_add] at this
      have e : l + 1 + (52 - l) = 53 := by omega
      rwa [e] at this
    have hr : double.nearest s (N * 2 ^ k) (-(k : Int)) = double.word s ((l + 1023) * 2 ^ 52 + (N * 2 ^ (52 - l) - 2 ^ 52)) := by
      unfold Format.nearest
      rw [if_neg hm]
      simp only [hlast, hkept]
      have hb : double.binade = 2 ^ 52 := by decide
      have hp : double.leastPlace = -1074 := by decide
      have hi : double.infRung = 2047 * 2 ^ 52 := by decide
      rw [hb, hp, hi]
      have e1 : (((l : Int) - 52) - -1074).toNat = l + 1022 := by omega
      rw [e1]
      refine congrArg (double.word s) ?_
      generalize N * 2 ^ (52 - l) = K at *
      have e52 : (2 : Nat) ^ 52 = 4503599627370496 := by decide
      have e53 : (2 : Nat) ^ 53 = 9007199254740992 := by decide
      rw [e53] at hk2
      rw [e52] at hk1 ⊢
      exact rung_aux l K hl52 hk1 hk2
    rw [hr]
    refine ⟨s, 52 - l, ?_, hs⟩
    have e52 : (2 : Nat) ^ 52 = 4503599627370496 := by decide
    have e53 : (2 : Nat) ^ 53 = 9007199254740992 := by decide
    rw [read_word s (l + 1023) _ (by omega) (by omega) (by omega), hN]
    have a1 : 2 ^ 52 + (N * 2 ^ (52 - l) - 2 ^ 52) = N * 2 ^ (52 - l) := by omega
    have a2 : (-1074 : Int) + ((l + 1023 - 1 : Nat) : Int) = -((52 - l : Nat) : Int) := by omega
    rw [a1, a2]

theorem signed_eq (s : Bool) (n : Int) (k u : Nat) (hs : n ≠ 0 → s = decide (n < 0)) :
    signed s (n.natAbs * 2 ^ k) u = n * 2 ^ (k + u) := by
  unfold signed
  rw [Nat.shiftLeft_eq, Nat.mul_assoc, ← Nat.pow_add]
  have hc : ((n.natAbs * 2 ^ (k + u) : Nat) : Int) = (n.natAbs : Int) * 2 ^ (k + u) := by
    rw [Int.natCast_mul]; congr 1
  by_cases h0 : n = 0
  · subst h0; simp
  · rw [hs h0, hc]
    by_cases hneg : n < 0
    · have : (n.natAbs : Int) = -n := by omega
      simp only [hneg, decide_true, if_true, this, Int.neg_mul, Int.neg_neg]
    · have : (n.natAbs : Int) = n := by omega
      simp only [hneg, decide_false, this]; simp

theorem fi_toInt {b : Nat} {n : Int} (h : FI b n) : (double.read b).toInt .zero = some n := by
  obtain ⟨s, k, hr, hs⟩ := h
  rw [hr]
  unfold Datum.toInt Datum.integral
  have e1 : (-(k : Int)).toNat = 0 := by omega
  have e2 : (-(-(k : Int))).toNat = k := by omega
  simp only [e1, e2, Nat.shiftLeft_zero]
  rw [cut_exact .zero (Or.inr rfl)]
  have := signed_eq s n 0 0 hs
  simpa using this

theorem cmp_lt {a b : Int} (h : a < b) : compare a b = .lt := by
  simp [compare, compareOfLessAndEq, h]

theorem cmp_eq (a : Int) : compare a a = .eq := by
  simp [compare, compareOfLessAndEq]

theorem cmp_gt {a b : Int} (h : b < a) : compare a b = .gt := by
  have h1 : ¬ a < b := by omega
  have h2 : ¬ a = b := by omega
  simp [compare, compareOfLessAndEq, h1, h2]

theorem order_arith (A B : Int) (p : Nat) : compare (A * 2 ^ p) (B * 2 ^ p) = compare A B := by
  have hp : (0 : Int) < 2 ^ p := by
    have := Nat.two_pow_pos p
    have e : ((2 ^ p : Nat) : Int) = 2 ^ p := by simp
    omega
  rcases Int.lt_trichotomy A B with h | h | h
  · rw [cmp_lt h, cmp_lt (Int.mul_lt_mul_of_pos_right h hp)]
  · subst h; rw [cmp_eq, cmp_eq]
  · rw [cmp_gt h, cmp_gt (Int.mul_lt_mul_of_pos_right h hp)]

theorem fi_order {x y : Nat} {a b : Int} (hx : FI x a) (hy : FI y b) : double.order x y = some (compare a b) := by
  obtain ⟨s, k, hr, hs⟩ := hx
  obtain ⟨t, j, hq, ht⟩ := hy
  unfold Format.order
  rw [hr, hq]
  unfold Datum.order
  simp only
  rw [signed_eq s a k _ hs, signed_eq t b j _ ht]
  have e : k + (-(k : Int) - min (-(k : Int)) (-(j : Int))).toNat = max k j := by omega
  have e' : j + (-(j : Int) - min (-(k : Int)) (-(j : Int))).toNat = max k j := by omega
  rw [e, e', order_arith]

theorem fi_add {x y : Nat} {a b : Int} (hx : FI x a) (hy : FI y b) (hb : (a + b).natAbs < 2 ^ 53) : ∃ r, double.add x y = some r ∧ FI r (a + b) := by
  obtain ⟨s, k, hr, hs⟩ := hx
  obtain ⟨t, j, hq, ht⟩ := hy
  unfold Format.add
  rw [hr, hq]
  unfold Datum.sum
  simp only
  rw [signed_eq s a k _ hs, signed_eq t b j _ ht]
  have e : k + (-(k : Int) - min (-(k : Int)) (-(j : Int))).toNat = max k j := by omega
  have e' : j + (-(j : Int) - min (-(k : Int)) (-(j : Int))).toNat = max k j := by omega
  have e2 : min (-(k : Int)) (-(j : Int)) = -((max k j : Nat) : Int) := by omega
  rw [e, e', ← Int.add_mul, e2]
  generalize max k j = K
  have hp : (0 : Int) < 2 ^ K := by
    have := Nat.two_pow_pos K
    have e : ((2 ^ K : Nat) : Int) = 2 ^ K := by simp
    omega
  have hna : ((a + b) * 2 ^ K).natAbs = (a + b).natAbs * 2 ^ K := by rw [Int.natAbs_mul]; congr 1
  rw [hna]
  refine ⟨_, rfl, ?_⟩
  unfold Format.write
  refine fi_nearest _ _ _ hb fun h0 => ?_
  have hne : ¬ (a + b) * 2 ^ K = 0 := fun h => by
    rcases Int.mul_eq_zero.1 h with h | h <;> omega
  rw [if_neg hne]
  by_cases hlt : a + b < 0
  · have := Int.mul_lt_mul_of_pos_right hlt hp
    simp only [Int.zero_mul] at this
    simp [hlt, this]
  · have := Int.mul_nonneg (Int.not_lt.1 hlt) (Int.le_of_lt hp)
    simp [hlt, Int.not_lt.2 this]

theorem fi_opp {y : Nat} {b : Int} (hy : FI y b) : ∃ (t : Bool) (j : Nat), double.read y = .number t (b.natAbs * 2 ^ j) (-(j : Int)) ∧ ((-b) ≠ 0 → (!t) = decide (-b < 0)) := by
  obtain ⟨t, j, hq, ht⟩ := hy
  refine ⟨t, j, hq, fun h => ?_⟩
  have h' : b ≠ 0 := by omega
  rw [ht h']
  by_cases hb : b < 0
  · have h2 : ¬ (-b < 0) := by omega
    rw [decide_eq_true hb, decide_eq_false h2]; rfl
  · have h2 : -b < 0 := by omega
    rw [decide_eq_false hb, decide_eq_true h2]; rfl

theorem fi_sub {x y : Nat} {a b : Int} (hx : FI x a) (hy : FI y b) (hb : (a - b).natAbs < 2 ^ 53) : ∃ r, double.sub x y = some r ∧ FI r (a - b) := by
  obtain ⟨s, k, hr, hs⟩ := hx
  obtain ⟨t, j, hq, ht⟩ := fi_opp hy
  have hn : b.natAbs = (-b).natAbs := by omega
  rw [hn] at hq
  unfold Format.sub
  rw [hr, hq]
  unfold Datum.opposite Datum.sum
  simp only
  rw [signed_eq s a k _ hs, signed_eq (!t) (-b) j _ ht]
  have e : k + (-(k : Int) - min (-(k : Int)) (-(j : Int))).toNat = max k j := by omega
  have e' : j + (-(j : Int) - min (-(k : Int)) (-(j : Int))).toNat = max k j := by omega
  have e2 : min (-(k : Int)) (-(j : Int)) = -((max k j : Nat) : Int) := by omega
  rw [e, e', ← Int.add_mul, e2, ← Int.sub_eq_add_neg]
  generalize max k j = K
  have hp : (0 : Int) < 2 ^ K := by
    have := Nat.two_pow_pos K
    have e : ((2 ^ K : Nat) : Int) = 2 ^ K := by simp
    omega
  have hna : ((a - b) * 2 ^ K).natAbs = (a - b).natAbs * 2 ^ K := by rw [Int.natAbs_mul]; congr 1
  rw [hna]
  refine ⟨_, rfl, ?_⟩
  unfold Format.write
  refine fi_nearest _ _ _ hb fun h0 => ?_
  have hne : ¬ (a - b) * 2 ^ K = 0 := fun h => by
    rcases Int.mul_eq_zero.1 h with h | h <;> omega
  rw [if_neg hne]
  by_cases hlt : a - b < 0
  · have := Int.mul_lt_mul_of_pos_right hlt hp
    simp only [Int.zero_mul] at this
    simp [hlt, this]
  · have := Int.mul_nonneg (Int.not_lt.1 hlt) (Int.le_of_lt hp)
    simp [hlt, Int.not_lt.2 this]

theorem fi_mul {x y : Nat} {a b : Int} (hx : FI x a) (hy : FI y b) (hb : (a * b).natAbs < 2 ^ 53) : ∃ r, double.mul x y = some r ∧ FI r (a * b) := by
  obtain ⟨s, k, hr, hs⟩ := hx
  obtain ⟨t, j, hq, ht⟩ := hy
  unfold Format.mul
  rw [hr, hq]
  unfold Datum.product
  have e : a.natAbs * 2 ^ k * (b.natAbs * 2 ^ j) = (a * b).natAbs * 2 ^ (k + j) := by
    rw [Int.natAbs_mul, Nat.pow_add]; ac_rfl
  have e2 : -(k : Int) + -(j : Int) = -((k + j : Nat) : Int) := by omega
  refine ⟨_, rfl, ?_⟩
  rw [e, e2]
  unfold Format.write
  refine fi_nearest _ _ _ hb fun h0 => ?_
  have ha : a ≠ 0 := fun h => h0 (by rw [h]; simp)
  have hb' : b ≠ 0 := fun h => h0 (by rw [h]; simp)
  rw [hs ha, ht hb']
  by_cases h1 : a < 0 <;> by_cases h2 : b < 0
  · have : ¬ a * b < 0 := by have := Int.mul_pos_of_neg_of_neg h1 h2; omega
    simp [h1, h2, this]
  · have : a * b < 0 := Int.mul_neg_of_neg_of_pos h1 (by omega)
    simp [h1, h2, this]
  · have : a * b < 0 := Int.mul_neg_of_pos_of_neg (by omega) h2
    simp [h1, h2, this]
  · have : ¬ a * b < 0 := by have := Int.mul_pos (by omega : (0 : Int) < a) (by omega : (0 : Int) < b); omega
    simp [h1, h2, this]

/-- The word of a whole number. -/
def fl (n : Int) : Nat := double.nearest (n < 0) n.natAbs 0

theorem fi_fl (n : Int) (h : n.natAbs < 2 ^ 53) : FI (fl n) n := by
  have := fi_nearest (decide (n < 0)) n 0 h (fun _ => rfl)
  simpa [fl] using this

theorem fi_abs {b : Nat} {n : Int} (h : FI b n) : FI (b % 2 ^ 63) n.natAbs := by
  obtain ⟨s, k, hr, hs⟩ := h
  refine ⟨false, k, ?_, fun _ => ?_⟩
  · have hsw : double.signWeight = 2 ^ 63 := by decide
    have h2 : b % 2 ^ 63 % 2 ^ 63 = b % 2 ^ 63 := Nat.mod_mod _ _
    have h3 : b % 2 ^ 63 / 2 ^ 63 = 0 := Nat.div_eq_of_lt (Nat.mod_lt _ (by decide))
    unfold Format.read at hr ⊢
    rw [hsw] at hr ⊢
    rw [h2, h3]
    simp only at hr ⊢
    split at hr
    · rename_i c; rw [if_pos c]; injection hr with e1 e2 e3; simp [e2, e3]
    · rename_i c
      split at hr
      · rename_i c2; rw [if_neg c, if_pos c2]; injection hr with e1 e2 e3; simp [e2, e3]
      · split at hr <;> cases hr
  · simp

theorem order_great {b : Nat} {n : Int} (h : FI b n) (hn : n.natAbs < 2 ^ 53) : double.order b 0x43E0000000000000 = some .lt := by
  obtain ⟨s, k, hr, hs⟩ := h
  have hg : double.read 0x43E0000000000000 = .number false (2 ^ 52) 11 := by decide
  unfold Format.order
  rw [hr, hg]
  unfold Datum.order
  simp only
  rw [signed_eq s n k _ hs]
  have e : k + (-(k : Int) - min (-(k : Int)) 11).toNat = k := by omega
  have e' : (11 - min (-(k : Int)) 11).toNat = 11 + k := by omega
  rw [e, e']
  have hs2 : signed false (2 ^ 52) (11 + k) = (2 ^ 63 : Int) * 2 ^ k := by
    unfold signed
    rw [Nat.shiftLeft_eq, Nat.pow_add]
    have : ((2 ^ 52 * (2 ^ 11 * 2 ^ k) : Nat) : Int) = (2 ^ 63 : Int) * 2 ^ k := by
      rw [← Nat.mul_assoc, Int.natCast_mul]; congr 1
    simpa using this
  rw [hs2, order_arith]
  congr 1
  refine cmp_lt ?_
  have e53 : (2 : Nat) ^ 53 = 9007199254740992 := by decide
  have e63 : (2 : Int) ^ 63 = 9223372036854775808 := by decide
  omega

end Pl
end Go.Proofs.Ytibgejmffinliaa
