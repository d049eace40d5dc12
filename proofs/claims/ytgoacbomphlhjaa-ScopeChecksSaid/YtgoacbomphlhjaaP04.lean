/-
  Several texts in one: RefD, RefE, RefT, RLeaf.
-/
import Derived.Test.YtgoacbomphlhjaaP00
import Derived.Test.YtgoacbomphlhjaaP03
import Derived.BigRegion
import Derived.Deep.RegionWith
import Derived.Lib.Strings
import Derived.Deep.QuietTactic
import Derived.BigQuiet
import Derived.WalkSmall
import Derived.Test.YtgoacbomphlhjaaP01
import Derived.Test.YtgoacbomphlhjaaP02
set_option linter.unusedVariables false
set_option linter.unusedSimpArgs false
namespace Go.Proofs.Ytgoacbomphlhjaa
open Go.Lib (hid)
open List renaming getElem_toArray → jX, getElem_cons_succ → jY, getElem_cons_zero → jZ, setIfInBounds_toArray → JA, set_cons_zero → JB, set_cons_succ → JC
open Go Go.RowKit
theorem str_cut (l : List UInt8) (a b : Nat) : (ByteArray.mk l.toArray).extract a b = ⟨((l.drop a).take (b - a)).toArray⟩ := by
 apply ByteArray.ext
 have h := Lib.extract_data (ByteArray.mk l.toArray) a b
 apply Array.toList_inj.1
 rw [h]
theorem mem_sym (c : UInt8) : memB c symL = true ↔ c.toNat = 95 ∨ c.toNat = 43 ∨ c.toNat = 45 ∨ c.toNat = 42 ∨ c.toNat = 47 ∨ c.toNat = 37 ∨ c.toNat = 61 ∨ c.toNat = 60 := by
 simp [memB, symL]; omega
theorem two_at (l : List UInt8) (a : Nat) (h : a + 1 < l.length) : (l.drop a).take 2 = [Lx.at0 l a, Lx.at0 l (a + 1)] := by
 rw [Lx.drop_at l a (by omega), Lx.drop_at l (a + 1) h]; rfl
theorem u8_of (c : UInt8) (n : UInt8) (h : c.toNat = n.toNat) : c = n := UInt8.toNat_inj.1 h
set_option maxHeartbeats 2000000 in
set_option maxRecDepth 100000 in
theorem one_open (l : List UInt8) (a : Nat) (w : World) (ha : a < l.length) (hm : l.length ≤ 1000000) (hc : (Lx.at0 l a).toNat = 40) :
 Calls Try.prog 37 #[.string ⟨l.toArray⟩, .int .i64 a] w fun e w' => e = .returned (.tuple #[.agg #[.int .i64 0, .int .i64 a, .string ⟨((l.drop a).take 1).toArray⟩, .int .i64 0], .bool true]) ∧ Below w.heap.size w w' := by
 have e := str_at l a (jV l a ha)
 have q40 : (((Lx.at0 l a).toNat : Int) == 40) = true := by simp [hc]
 have f40 : ((((ByteArray.mk l.toArray)[a]'(jV l a ha)).toNat : Int) == 40) = true := by rw [e]; simp [hc]
 have hx := str_cut l a (a + 1)
 rw [Nat.add_sub_cancel_left] at hx
 rw [← hx]
 clear hx
 clear e hc
 go_enter Try.func37, Try.ntmps37
 go_wp2
 exact bodyPost_ret (v := .tuple #[.agg #[.int .i64 0, .int .i64 a, .string ((ByteArray.mk l.toArray).extract a (a + 1)), .int .i64 0], .bool true]) (by simp [results, Try.results37, go_sem]) rfl ⟨rfl, ((Below.refl _ _).alloc (Nat.le_refl _) _).alloc (by simp) _⟩
set_option maxHeartbeats 2000000 in
set_option maxRecDepth 100000 in
theorem one_shut (l : List UInt8) (a : Nat) (w : World) (ha : a < l.length) (hm : l.length ≤ 1000000) (hc : (Lx.at0 l a).toNat = 41) :
 Calls Try.prog 37 #[.string ⟨l.toArray⟩, .int .i64 a] w fun e w' => e = .returned (.tuple #[.agg #[.int .i64 1, .int .i64 a, .string ⟨((l.drop a).take 1).toArray⟩, .int .i64 0], .bool true]) ∧ Below w.heap.size w w' := by
 have e := str_at l a (jV l a ha)
 have q40 : (((Lx.at0 l a).toNat : Int) == 40) = false := by simp; omega
 have f40 : ((((ByteArray.mk l.toArray)[a]'(jV l a ha)).toNat : Int) == 40) = false := by rw [e]; simp; omega
 have q41 : (((Lx.at0 l a).toNat : Int) == 41) = true := by simp [hc]
 have f41 : ((((ByteArray.mk l.toArray)[a]'(jV l a ha)).toNat : Int) == 41) = true := by rw [e]; simp [hc]
 have hx := str_cut l a (a + 1)
 rw [Nat.add_sub_cancel_left] at hx
 rw [← hx]
 clear hx
 clear e hc
 go_enter Try.func37, Try.ntmps37
 go_wp2
 exact bodyPost_ret (v := .tuple #[.agg #[.int .i64 1, .int .i64 a, .string ((ByteArray.mk l.toArray).extract a (a + 1)), .int .i64 0], .bool true]) (by simp [results, Try.results37, go_sem]) rfl ⟨rfl, ((Below.refl _ _).alloc (Nat.le_refl _) _).alloc (by simp) _⟩
set_option maxHeartbeats 2000000 in
set_option maxRecDepth 100000 in
theorem one_arrow (l : List UInt8) (a : Nat) (w : World) (ha : a < l.length) (hm : l.length ≤ 1000000) (h1 : a + 1 < l.length) (hc : (Lx.at0 l a).toNat = 45) (hn : (Lx.at0 l (a + 1)).toNat = 62) :
 Calls Try.prog 37 #[.string ⟨l.toArray⟩, .int .i64 a] w fun e w' => e = .returned (.tuple #[.agg #[.int .i64 5, .int .i64 a, .string ⟨((l.drop a).take 2).toArray⟩, .int .i64 0], .bool true]) ∧ Below w.heap.size w w' := by
 have e := str_at l a (jV l a ha)
 have e1 := str_at l (a + 1) (jV l (a + 1) h1)
 have q40 : (((Lx.at0 l a).toNat : Int) == 40) = false := by simp; omega
 have f40 : ((((ByteArray.mk l.toArray)[a]'(jV l a ha)).toNat : Int) == 40) = false := by rw [e]; simp; omega
 have q41 : (((Lx.at0 l a).toNat : Int) == 41) = false := by simp; omega
 have f41 : ((((ByteArray.mk l.toArray)[a]'(jV l a ha)).toNat : Int) == 41) = false := by rw [e]; simp; omega
 have q45 : (((Lx.at0 l a).toNat : Int) == 45) = true := by simp [hc]
 have f45 : ((((ByteArray.mk l.toArray)[a]'(jV l a ha)).toNat : Int) == 45) = true := by rw [e]; simp [hc]
 have r62 : (((Lx.at0 l (a + 1)).toNat : Int) == 62) = true := by simp [hn]
 have g62 : ((((ByteArray.mk l.toArray)[a + 1]'(jV l (a + 1) h1)).toNat : Int) == 62) = true := by rw [e1]; simp [hn]
 have ht : (l.drop a).take 2 = [45, 62] := by rw [two_at l a h1, u8_of _ 45 hc, u8_of _ 62 hn]
 rw [ht]
 clear e e1 hc hn ht
 go_enter Try.func37, Try.ntmps37
 go_wp2
 exact bodyPost_ret (v := .tuple #[.agg #[.int .i64 5, .int .i64 a, .string ⟨#[45, 62]⟩, .int .i64 0], .bool true]) (by simp [results, Try.results37, go_sem]) rfl ⟨rfl, ((Below.refl _ _).alloc (Nat.le_refl _) _).alloc (by simp) _⟩
set_option maxHeartbeats 2000000 in
set_option maxRecDepth 100000 in
theorem one_num_pos_ok (l : List UInt8) (a : Nat) (w : World) (ha : a < l.length) (hm : l.length ≤ 1000000) (hd : Lx.jT (Lx.at0 l a) = true) (h18 : ¬ 18 < Lx.cnt Lx.jT (l.drop a)) (hw : Lx.wordB (Lx.at0 l (a + Lx.cnt Lx.jT (l.drop a))) = false) :
 Calls Try.prog 37 #[.string ⟨l.toArray⟩, .int .i64 a] w fun e w' => e = .returned (.tuple #[.agg #[.int .i64 2, .int .i64 a, .string ⟨((l.drop a).take (Lx.cnt Lx.jT (l.drop a))).toArray⟩, .int .i64 ((Lx.natV ((l.drop a).take (Lx.cnt Lx.jT (l.drop a))) 0 : Nat) : Int)], .bool true]) ∧ Below w.heap.size w w' := by
 have e := str_at l a (jV l a ha)
 have hc := (Lx.digit_bd _ hd)
 have q40 : (((Lx.at0 l a).toNat : Int) == 40) = false := by simp; omega
 have f40 : ((((ByteArray.mk l.toArray)[a]'(jV l a ha)).toNat : Int) == 40) = false := by rw [e]; simp; omega
 have q41 : (((Lx.at0 l a).toNat : Int) == 41) = false := by simp; omega
 have f41 : ((((ByteArray.mk l.toArray)[a]'(jV l a ha)).toNat : Int) == 41) = false := by rw [e]; simp; omega
 have q45 : (((Lx.at0 l a).toNat : Int) == 45) = false := by simp; omega
 have f45 : ((((ByteArray.mk l.toArray)[a]'(jV l a ha)).toNat : Int) == 45) = false := by rw [e]; simp; omega
 have HC := hid (number_pos_ok l a (w.alloc (.cells #[.int .i64 0, .int .i64 0, .string ⟨#[]⟩, .int .i64 0] 70) |>.alloc (.cells #[.int .i64 0, .int .i64 a, .string ((ByteArray.mk l.toArray).extract a (a + 1)), .int .i64 0] 70)) ha hm hd h18 hw)
 have hle := Lx.cnt_le Lx.jT (l.drop a)
 rw [List.length_drop] at hle
 have hx := str_cut l a (a + (Lx.cnt Lx.jT (l.drop a)))
 rw [Nat.add_sub_cancel_left] at hx
 rw [← hx]
 clear hx
 generalize Lx.natV ((l.drop a).take (Lx.cnt Lx.jT (l.drop a))) 0 = V at *
 generalize hNN : Lx.cnt Lx.jT (l.drop a) = N at *
 have HD := hid hd
 clear e hc hd hNN h18 hw
 go_enter Try.func37, Try.ntmps37
 go_wp2_with fail
 refine (in_digits _ _).mono ?_; rintro e w1 ⟨rfl, rfl⟩
 rw [str_at l a (jV l a ha), HD.out]
 go_wp2_with fail
 refine HC.out.mono ?_; rintro e w1 ⟨rfl, rfl⟩
 go_wp2_with fail
 exact bodyPost_ret (v := .tuple #[.agg #[.int .i64 2, .int .i64 a, .string ((ByteArray.mk l.toArray).extract a (a + N)), .int .i64 (V : Int)], .bool true]) (by simp [results, Try.results37, go_sem]) rfl ⟨rfl, ((Below.refl _ _).alloc (Nat.le_refl _) _).alloc (by simp) _⟩
set_option maxHeartbeats 2000000 in
set_option maxRecDepth 100000 in
theorem one_num_pos_bad (l : List UInt8) (a : Nat) (w : World) (ha : a < l.length) (hm : l.length ≤ 1000000) (hd : Lx.jT (Lx.at0 l a) = true) (hbad : 18 < Lx.cnt Lx.jT (l.drop a) ∨ Lx.wordB (Lx.at0 l (a + Lx.cnt Lx.jT (l.drop a))) = true) :
 Calls Try.prog 37 #[.string ⟨l.toArray⟩, .int .i64 a] w fun e w' => e = .returned (.tuple #[.agg #[.int .i64 2, .int .i64 a, .string ((ByteArray.mk l.toArray).extract a a), .int .i64 0], .bool false]) ∧ Below w.heap.size w w' := by
 have e := str_at l a (jV l a ha)
 have hc := (Lx.digit_bd _ hd)
 have q40 : (((Lx.at0 l a).toNat : Int) == 40) = false := by simp; omega
 have f40 : ((((ByteArray.mk l.toArray)[a]'(jV l a ha)).toNat : Int) == 40) = false := by rw [e]; simp; omega
 have q41 : (((Lx.at0 l a).toNat : Int) == 41) = false := by simp; omega
 have f41 : ((((ByteArray.mk l.toArray)[a]'(jV l a ha)).toNat : Int) == 41) = false := by rw [e]; simp; omega
 have q45 : (((Lx.at0 l a).toNat : Int) == 45) = false := by simp; omega
 have f45 : ((((ByteArray.mk l.toArray)[a]'(jV l a ha)).toNat : Int) == 45) = false := by rw [e]; simp; omega
 have HC := hid (number_pos_bad l a (w.alloc (.cells #[.int .i64 0, .int .i64 0, .string ⟨#[]⟩, .int .i64 0] 70) |>.alloc (.cells #[.int .i64 0, .int .i64 a, .string ((ByteArray.mk l.toArray).extract a (a + 1)), .int .i64 0] 70)) ha hm hd hbad)
 have hle := Lx.cnt_le Lx.jT (l.drop a)
 rw [List.length_drop] at hle
 generalize hNN : Lx.cnt Lx.jT (l.drop a) = N at *
 have HD := hid hd
 clear e hc hd hNN hbad
 go_enter Try.func37, Try.ntmps37
 go_wp2_with fail
 refine (in_digits _ _).mono ?_; rintro e w1 ⟨rfl, rfl⟩
 rw [str_at l a (jV l a ha), HD.out]
 go_wp2_with fail
 refine HC.out.mono ?_; rintro e w1 ⟨rfl, rfl⟩
 go_wp2_with fail
 exact bodyPost_ret (v := .tuple #[.agg #[.int .i64 2, .int .i64 a, .string ((ByteArray.mk l.toArray).extract a a), .int .i64 0], .bool false]) (by simp [results, Try.results37, go_sem]) rfl ⟨rfl, ((Below.refl _ _).alloc (Nat.le_refl _) _).alloc (by simp) _⟩
set_option maxHeartbeats 2000000 in
set_option maxRecDepth 100000 in
theorem one_num_neg_ok (l : List UInt8) (a : Nat) (w : World) (ha : a < l.length) (hm : l.length ≤ 1000000) (h1 : a + 1 < l.length) (hc : (Lx.at0 l a).toNat = 45) (hd : Lx.jT (Lx.at0 l (a + 1)) = true) (h18 : ¬ 18 < Lx.cnt Lx.jT (l.drop (a + 1))) (hw : Lx.wordB (Lx.at0 l ((a + 1) + Lx.cnt Lx.jT (l.drop (a + 1)))) = false) :
 Calls Try.prog 37 #[.string ⟨l.toArray⟩, .int .i64 a] w fun e w' => e = .returned (.tuple #[.agg #[.int .i64 2, .int .i64 a, .string ⟨((l.drop a).take (1 + Lx.cnt Lx.jT (l.drop (a + 1)))).toArray⟩, .int .i64 (-((Lx.natV ((l.drop (a + 1)).take (Lx.cnt Lx.jT (l.drop (a + 1)))) 0 : Nat) : Int))], .bool true]) ∧ Below w.heap.size w w' := by
 have e := str_at l a (jV l a ha)
 have e1 := str_at l (a + 1) (jV l (a + 1) h1)
 have hn := (Lx.digit_bd _ hd)
 have q40 : (((Lx.at0 l a).toNat : Int) == 40) = false := by simp; omega
 have f40 : ((((ByteArray.mk l.toArray)[a]'(jV l a ha)).toNat : Int) == 40) = false := by rw [e]; simp; omega
 have q41 : (((Lx.at0 l a).toNat : Int) == 41) = false := by simp; omega
 have f41 : ((((ByteArray.mk l.toArray)[a]'(jV l a ha)).toNat : Int) == 41) = false := by rw [e]; simp; omega
 have q45 : (((Lx.at0 l a).toNat : Int) == 45) = true := by simp [hc]
 have f45 : ((((ByteArray.mk l.toArray)[a]'(jV l a ha)).toNat : Int) == 45) = true := by rw [e]; simp [hc]
 have r62 : (((Lx.at0 l (a + 1)).toNat : Int) == 62) = false := by simp; omega
 have g62 : ((((ByteArray.mk l.toArray)[a + 1]'(jV l (a + 1) h1)).toNat : Int) == 62) = false := by rw [e1]; simp; omega
 have fd : Lx.jT (Lx.at0 l a) = false := by rw [u8_of _ 45 hc]; rfl
 have HC := hid (number_neg_ok l a (w.alloc (.cells #[.int .i64 0, .int .i64 0, .string ⟨#[]⟩, .int .i64 0] 70) |>.alloc (.cells #[.int .i64 0, .int .i64 a, .string ((ByteArray.mk l.toArray).extract a (a + 1)), .int .i64 0] 70)) ha hm hc hd h18 hw)
 have hle := Lx.cnt_le Lx.jT (l.drop (a + 1))
 rw [List.length_drop] at hle
 have hx := str_cut l a (a + (1 + Lx.cnt Lx.jT (l.drop (a + 1))))
 rw [Nat.add_sub_cancel_left] at hx
 rw [← hx]
 clear hx
 generalize Lx.natV ((l.drop (a + 1)).take (Lx.cnt Lx.jT (l.drop (a + 1)))) 0 = V at *
 generalize hNN : Lx.cnt Lx.jT (l.drop (a + 1)) = N at *
 have HD := hid hd
 clear e e1 hn hc hd hNN h18 hw
 have FD := hid fd
 clear fd
 go_enter Try.func37, Try.ntmps37
 go_wp2_with fail
 refine (in_digits _ _).mono ?_; rintro e w1 ⟨rfl, rfl⟩
 rw [str_at l a (jV l a ha), FD.out]
 go_wp2_with fail
 refine (in_digits _ _).mono ?_; rintro e w1 ⟨rfl, rfl⟩
 rw [str_at l (a + 1) (jV l (a + 1) h1), HD.out]
 go_wp2_with fail
 refine HC.out.mono ?_; rintro e w1 ⟨rfl, rfl⟩
 go_wp2_with fail
 exact bodyPost_ret (v := .tuple #[.agg #[.int .i64 2, .int .i64 a, .string ((ByteArray.mk l.toArray).extract a (a + (1 + N))), .int .i64 (-(V : Int))], .bool true]) (by simp [results, Try.results37, go_sem]) rfl ⟨rfl, ((Below.refl _ _).alloc (Nat.le_refl _) _).alloc (by simp) _⟩
set_option maxHeartbeats 2000000 in
set_option maxRecDepth 100000 in
theorem one_num_neg_bad (l : List UInt8) (a : Nat) (w : World) (ha : a < l.length) (hm : l.length ≤ 1000000) (h1 : a + 1 < l.length) (hc : (Lx.at0 l a).toNat = 45) (hd : Lx.jT (Lx.at0 l (a + 1)) = true) (hbad : 18 < Lx.cnt Lx.jT (l.drop (a + 1)) ∨ Lx.wordB (Lx.at0 l ((a + 1) + Lx.cnt Lx.jT (l.drop (a + 1)))) = true) :
 Calls Try.prog 37 #[.string ⟨l.toArray⟩, .int .i64 a] w fun e w' => e = .returned (.tuple #[.agg #[.int .i64 2, .int .i64 a, .string ((ByteArray.mk l.toArray).extract a a), .int .i64 0], .bool false]) ∧ Below w.heap.size w w' := by
 have e := str_at l a (jV l a ha)
 have e1 := str_at l (a + 1) (jV l (a + 1) h1)
 have hn := (Lx.digit_bd _ hd)
 have q40 : (((Lx.at0 l a).toNat : Int) == 40) = false := by simp; omega
 have f40 : ((((ByteArray.mk l.toArray)[a]'(jV l a ha)).toNat : Int) == 40) = false := by rw [e]; simp; omega
 have q41 : (((Lx.at0 l a).toNat : Int) == 41) = false := by simp; omega
 have f41 : ((((ByteArray.mk l.toArray)[a]'(jV l a ha)).toNat : Int) == 41) = false := by rw [e]; simp; omega
 have q45 : (((Lx.at0 l a).toNat : Int) == 45) = true := by simp [hc]
 have f45 : ((((ByteArray.mk l.toArray)[a]'(jV l a ha)).toNat : Int) == 45) = true := by rw [e]; simp [hc]
 have r62 : (((Lx.at0 l (a + 1)).toNat : Int) == 62) = false := by simp; omega
 have g62 : ((((ByteArray.mk l.toArray)[a + 1]'(jV l (a + 1) h1)).toNat : Int) == 62) = false := by rw [e1]; simp; omega
 have fd : Lx.jT (Lx.at0 l a) = false := by rw [u8_of _ 45 hc]; rfl
 have HC := hid (number_neg_bad l a (w.alloc (.cells #[.int .i64 0, .int .i64 0, .string ⟨#[]⟩, .int .i64 0] 70) |>.alloc (.cells #[.int .i64 0, .int .i64 a, .string ((ByteArray.mk l.toArray).extract a (a + 1)), .int .i64 0] 70)) ha hm hc hd hbad)
 have hle := Lx.cnt_le Lx.jT (l.drop (a + 1))
 rw [List.length_drop] at hle
 generalize hNN : Lx.cnt Lx.jT (l.drop (a + 1)) = N at *
 have HD := hid hd
 clear e e1 hn hc hd hNN hbad
 have FD := hid fd
 clear fd
 go_enter Try.func37, Try.ntmps37
 go_wp2_with fail
 refine (in_digits _ _).mono ?_; rintro e w1 ⟨rfl, rfl⟩
 rw [str_at l a (jV l a ha), FD.out]
 go_wp2_with fail
 refine (in_digits _ _).mono ?_; rintro e w1 ⟨rfl, rfl⟩
 rw [str_at l (a + 1) (jV l (a + 1) h1), HD.out]
 go_wp2_with fail
 refine HC.out.mono ?_; rintro e w1 ⟨rfl, rfl⟩
 go_wp2_with fail
 exact bodyPost_ret (v := .tuple #[.agg #[.int .i64 2, .int .i64 a, .string ((ByteArray.mk l.toArray).extract a a), .int .i64 0], .bool false]) (by simp [results, Try.results37, go_sem]) rfl ⟨rfl, ((Below.refl _ _).alloc (Nat.le_refl _) _).alloc (by simp) _⟩
set_option maxHeartbeats 2000000 in
set_option maxRecDepth 100000 in
theorem one_small (l : List UInt8) (a : Nat) (w : World) (ha : a < l.length) (hm : l.length ≤ 1000000) (hb : Lx.smallB (Lx.at0 l a) = true) :
 Calls Try.prog 37 #[.string ⟨l.toArray⟩, .int .i64 a] w fun e w' => e = .returned (.tuple #[.agg #[.int .i64 3, .int .i64 a, .string ⟨((l.drop a).take (Lx.cnt Lx.wordB (l.drop a))).toArray⟩, .int .i64 0], .bool true]) ∧ Below w.heap.size w w' := by
 have e := str_at l a (jV l a ha)
 have hc := Lx.small_not _ hb
 have hdg := hc.1
 have hr : 97 ≤ (Lx.at0 l a).toNat ∧ (Lx.at0 l a).toNat ≤ 122 := by simpa [Lx.smallB] using hb
 have q40 : (((Lx.at0 l a).toNat : Int) == 40) = false := by simp; omega
 have f40 : ((((ByteArray.mk l.toArray)[a]'(jV l a ha)).toNat : Int) == 40) = false := by rw [e]; simp; omega
 have q41 : (((Lx.at0 l a).toNat : Int) == 41) = false := by simp; omega
 have f41 : ((((ByteArray.mk l.toArray)[a]'(jV l a ha)).toNat : Int) == 41) = false := by rw [e]; simp; omega
 have q45 : (((Lx.at0 l a).toNat : Int) == 45) = false := by simp; omega
 have f45 : ((((ByteArray.mk l.toArray)[a]'(jV l a ha)).toNat : Int) == 45) = false := by rw [e]; simp; omega
 have htk := take_any l insideL a
 have hfun : (fun c => memB c insideL) = Lx.wordB := funext mem_inside
 have HT := fun w => hid (htk w (by omega) hm (by decide) (by decide))
 rw [hfun] at HT
 clear htk hfun
 have hle := Lx.cnt_le Lx.wordB (l.drop a)
 rw [List.length_drop] at hle
 have hx := str_cut l a (a + (Lx.cnt Lx.wordB (l.drop a)))
 rw [Nat.add_sub_cancel_left] at hx
 rw [← hx]
 clear hx
 generalize hNN : Lx.cnt Lx.wordB (l.drop a) = N at *
 clear hNN
 have HDG := hid hdg; have HBB := hid hb
 clear e hc hdg hb hr
 go_enter Try.func37, Try.ntmps37
 go_wp2_with fail
 refine (in_digits _ _).mono ?_; rintro e w1 ⟨rfl, rfl⟩
 rw [str_at l a (jV l a ha), HDG.out]
 go_wp2_with fail
 refine (in_small _ _).mono ?_; rintro e w1 ⟨rfl, rfl⟩
 rw [HBB.out]
 go_wp2_with fail
 have s4 : (a : Int) + (N : Int) ≤ (l.length : Int) := by omega
 have s2 : (0 : Int) ≤ (a : Int) + (N : Int) := by omega
 have s6 : (a : Int) ≤ (a : Int) + (N : Int) := by omega
 have s3 : ((a : Int) + (N : Int)).toNat = a + N := by omega
 have s1 : IntKind.i64.wrap ((a : Int) + (N : Int)) = (a : Int) + (N : Int) := IntWalk.i64_in _ (by omega)
 clear hle
 go_region_with (go_at_call 66; refine ((HT _).out).mono ?_; rintro e w1 ⟨rfl, rfl⟩)
 clear s1 s2 s3 s6 s4
 go_wp2
 exact bodyPost_ret (v := .tuple #[.agg #[.int .i64 3, .int .i64 a, .string ((ByteArray.mk l.toArray).extract a (a + N)), .int .i64 0], .bool true]) (by simp [results, Try.results37, go_sem]) rfl ⟨rfl, (((Below.refl _ _).alloc (Nat.le_refl _) _).alloc (by simp) _).drew⟩
set_option maxHeartbeats 2000000 in
set_option maxRecDepth 100000 in
theorem one_great (l : List UInt8) (a : Nat) (w : World) (ha : a < l.length) (hm : l.length ≤ 1000000) (hb : Lx.greatB (Lx.at0 l a) = true) :
 Calls Try.prog 37 #[.string ⟨l.toArray⟩, .int .i64 a] w fun e w' => e = .returned (.tuple #[.agg #[.int .i64 4, .int .i64 a, .string ⟨((l.drop a).take (Lx.cnt Lx.wordB (l.drop a))).toArray⟩, .int .i64 0], .bool true]) ∧ Below w.heap.size w w' := by
 have e := str_at l a (jV l a ha)
 have hc := Lx.great_not _ hb
 have hdg := hc.1
 have hr : 65 ≤ (Lx.at0 l a).toNat ∧ (Lx.at0 l a).toNat ≤ 90 := by simpa [Lx.greatB] using hb
 have q40 : (((Lx.at0 l a).toNat : Int) == 40) = false := by simp; omega
 have f40 : ((((ByteArray.mk l.toArray)[a]'(jV l a ha)).toNat : Int) == 40) = false := by rw [e]; simp; omega
 have q41 : (((Lx.at0 l a).toNat : Int) == 41) = false := by simp; omega
 have f41 : ((((ByteArray.mk l.toArray)[a]'(jV l a ha)).toNat : Int) == 41) = false := by rw [e]; simp; omega
 have q45 : (((Lx.at0 l a).toNat : Int) == 45) = false := by simp; omega
 have f45 : ((((ByteArray.mk l.toArray)[a]'(jV l a ha)).toNat : Int) == 45) = false := by rw [e]; simp; omega
 have htk := take_any l insideL a
 have hfun : (fun c => memB c insideL) = Lx.wordB := funext mem_inside
 have HT := fun w => hid (htk w (by omega) hm (by decide) (by decide))
 rw [hfun] at HT
 clear htk hfun
 have hle := Lx.cnt_le Lx.wordB (l.drop a)
 rw [List.length_drop] at hle
 have hx := str_cut l a (a + (Lx.cnt Lx.wordB (l.drop a)))
 rw [Nat.add_sub_cancel_left] at hx
 rw [← hx]
 clear hx
 generalize hNN : Lx.cnt Lx.wordB (l.drop a) = N at *
 clear hNN
 have HDG := hid hdg; have HBB := hid hb
 have HSM := hid hc.2.1
 clear e hc hdg hb hr
 go_enter Try.func37, Try.ntmps37
 go_wp2_with fail
 refine (in_digits _ _).mono ?_; rintro e w1 ⟨rfl, rfl⟩
 rw [str_at l a (jV l a ha), HDG.out]
 go_wp2_with fail
 refine (in_small _ _).mono ?_; rintro e w1 ⟨rfl, rfl⟩
 rw [HSM.out]
 go_wp2_with fail
 refine (in_great _ _).mono ?_; rintro e w1 ⟨rfl, rfl⟩
 rw [HBB.out]
 go_wp2_with fail
 have s4 : (a : Int) + (N : Int) ≤ (l.length : Int) := by omega
 have s2 : (0 : Int) ≤ (a : Int) + (N : Int) := by omega
 have s6 : (a : Int) ≤ (a : Int) + (N : Int) := by omega
 have s3 : ((a : Int) + (N : Int)).toNat = a + N := by omega
 have s1 : IntKind.i64.wrap ((a : Int) + (N : Int)) = (a : Int) + (N : Int) := IntWalk.i64_in _ (by omega)
 clear hle
 go_region_with (go_at_call 66; refine ((HT _).out).mono ?_; rintro e w1 ⟨rfl, rfl⟩)
 clear s1 s2 s3 s6 s4
 go_wp2
 exact bodyPost_ret (v := .tuple #[.agg #[.int .i64 4, .int .i64 a, .string ((ByteArray.mk l.toArray).extract a (a + N)), .int .i64 0], .bool true]) (by simp [results, Try.results37, go_sem]) rfl ⟨rfl, (((Below.refl _ _).alloc (Nat.le_refl _) _).alloc (by simp) _).drew⟩
set_option maxHeartbeats 2000000 in
set_option maxRecDepth 100000 in
theorem one_sym (l : List UInt8) (a : Nat) (w : World) (ha : a < l.length) (hm : l.length ≤ 1000000) (hs : memB (Lx.at0 l a) symL = true) (h45 : (Lx.at0 l a).toNat ≠ 45) :
 Calls Try.prog 37 #[.string ⟨l.toArray⟩, .int .i64 a] w fun e w' => e = .returned (.tuple #[.agg #[.int .i64 5, .int .i64 a, .string ⟨((l.drop a).take 1).toArray⟩, .int .i64 0], .bool true]) ∧ Below w.heap.size w w' := by
 have e := str_at l a (jV l a ha)
 have hc := (mem_sym _).1 hs
 have HSY := hid hs
 have q40 : (((Lx.at0 l a).toNat : Int) == 40) = false := by simp; omega
 have f40 : ((((ByteArray.mk l.toArray)[a]'(jV l a ha)).toNat : Int) == 40) = false := by rw [e]; simp; omega
 have q41 : (((Lx.at0 l a).toNat : Int) == 41) = false := by simp; omega
 have f41 : ((((ByteArray.mk l.toArray)[a]'(jV l a ha)).toNat : Int) == 41) = false := by rw [e]; simp; omega
 have q45 : (((Lx.at0 l a).toNat : Int) == 45) = false := by simp; omega
 have f45 : ((((ByteArray.mk l.toArray)[a]'(jV l a ha)).toNat : Int) == 45) = false := by rw [e]; simp; omega
 have hdg : Lx.jT (Lx.at0 l a) = false := by unfold Lx.jT; simp; omega
 have hsl : Lx.smallB (Lx.at0 l a) = false := by unfold Lx.smallB; simp; omega
 have hgl : Lx.greatB (Lx.at0 l a) = false := by unfold Lx.greatB; simp; omega
 have HDG := hid hdg; have HSL := hid hsl; have HGL := hid hgl
 clear hdg hsl hgl
 clear hs
 have hx := str_cut l a (a + 1)
 rw [Nat.add_sub_cancel_left] at hx
 rw [← hx]
 clear hx
 clear e hc
 go_enter Try.func37, Try.ntmps37
 go_wp2_with fail
 refine (in_digits _ _).mono ?_; rintro e w1 ⟨rfl, rfl⟩
 rw [str_at l a (jV l a ha), HDG.out]
 go_wp2_with fail
 refine (in_small _ _).mono ?_; rintro e w1 ⟨rfl, rfl⟩
 rw [HSL.out]
 go_wp2_with fail
 refine (in_great _ _).mono ?_; rintro e w1 ⟨rfl, rfl⟩
 rw [HGL.out]
 go_wp2_with fail
 refine (in_sym _ _).mono ?_; rintro e w1 ⟨rfl, rfl⟩
 rw [HSY.out]
 go_wp2_with fail
 exact bodyPost_ret (v := .tuple #[.agg #[.int .i64 5, .int .i64 a, .string ((ByteArray.mk l.toArray).extract a (a + 1)), .int .i64 0], .bool true]) (by simp [results, Try.results37, go_sem]) rfl ⟨rfl, ((Below.refl _ _).alloc (Nat.le_refl _) _).alloc (by simp) _⟩
set_option maxHeartbeats 2000000 in
set_option maxRecDepth 100000 in
theorem one_dash_end (l : List UInt8) (a : Nat) (w : World) (ha : a < l.length) (hm : l.length ≤ 1000000) (hc : (Lx.at0 l a).toNat = 45) (h1 : ¬ a + 1 < l.length) :
 Calls Try.prog 37 #[.string ⟨l.toArray⟩, .int .i64 a] w fun e w' => e = .returned (.tuple #[.agg #[.int .i64 5, .int .i64 a, .string ⟨((l.drop a).take 1).toArray⟩, .int .i64 0], .bool true]) ∧ Below w.heap.size w w' := by
 have e := str_at l a (jV l a ha)
 have hs := (mem_sym (Lx.at0 l a)).2 (by omega)
 have HSY := hid hs
 have q40 : (((Lx.at0 l a).toNat : Int) == 40) = false := by simp; omega
 have f40 : ((((ByteArray.mk l.toArray)[a]'(jV l a ha)).toNat : Int) == 40) = false := by rw [e]; simp; omega
 have q41 : (((Lx.at0 l a).toNat : Int) == 41) = false := by simp; omega
 have f41 : ((((ByteArray.mk l.toArray)[a]'(jV l a ha)).toNat : Int) == 41) = false := by rw [e]; simp; omega
 have q45 : (((Lx.at0 l a).toNat : Int) == 45) = true := by simp [hc]
 have f45 : ((((ByteArray.mk l.toArray)[a]'(jV l a ha)).toNat : Int) == 45) = true := by rw [e]; simp [hc]
 have hdg : Lx.jT (Lx.at0 l a) = false := by unfold Lx.jT; simp; omega
 have hsl : Lx.smallB (Lx.at0 l a) = false := by unfold Lx.smallB; simp; omega
 have hgl : Lx.greatB (Lx.at0 l a) = false := by unfold Lx.greatB; simp; omega
 have HDG := hid hdg; have HSL := hid hsl; have HGL := hid hgl
 clear hdg hsl hgl
 clear hs
 have h1' : ¬ ((a : Int) + 1 < (l.length : Int)) := by omega
 have hx := str_cut l a (a + 1)
 rw [Nat.add_sub_cancel_left] at hx
 rw [← hx]
 clear hx
 clear e hc
 go_enter Try.func37, Try.ntmps37
 go_wp2_with fail
 refine (in_digits _ _).mono ?_; rintro e w1 ⟨rfl, rfl⟩
 rw [str_at l a (jV l a ha), HDG.out]
 go_wp2_with fail
 refine (in_small _ _).mono ?_; rintro e w1 ⟨rfl, rfl⟩
 rw [HSL.out]
 go_wp2_with fail
 refine (in_great _ _).mono ?_; rintro e w1 ⟨rfl, rfl⟩
 rw [HGL.out]
 go_wp2_with fail
 refine (in_sym _ _).mono ?_; rintro e w1 ⟨rfl, rfl⟩
 rw [HSY.out]
 go_wp2_with fail
 exact bodyPost_ret (v := .tuple #[.agg #[.int .i64 5, .int .i64 a, .string ((ByteArray.mk l.toArray).extract a (a + 1)), .int .i64 0], .bool true]) (by simp [results, Try.results37, go_sem]) rfl ⟨rfl, ((Below.refl _ _).alloc (Nat.le_refl _) _).alloc (by simp) _⟩
set_option maxHeartbeats 2000000 in
set_option maxRecDepth 100000 in
theorem one_dash_in (l : List UInt8) (a : Nat) (w : World) (ha : a < l.length) (hm : l.length ≤ 1000000) (hc : (Lx.at0 l a).toNat = 45) (h1 : a + 1 < l.length) (hn : (Lx.at0 l (a + 1)).toNat ≠ 62) (hnd : Lx.jT (Lx.at0 l (a + 1)) = false) :
 Calls Try.prog 37 #[.string ⟨l.toArray⟩, .int .i64 a] w fun e w' => e = .returned (.tuple #[.agg #[.int .i64 5, .int .i64 a, .string ⟨((l.drop a).take 1).toArray⟩, .int .i64 0], .bool true]) ∧ Below w.heap.size w w' := by
 have e := str_at l a (jV l a ha)
 have e1 := str_at l (a + 1) (jV l (a + 1) h1)
 have hs := (mem_sym (Lx.at0 l a)).2 (by omega)
 have HSY := hid hs; have HNX := hid hnd
 have q40 : (((Lx.at0 l a).toNat : Int) == 40) = false := by simp; omega
 have f40 : ((((ByteArray.mk l.toArray)[a]'(jV l a ha)).toNat : Int) == 40) = false := by rw [e]; simp; omega
 have q41 : (((Lx.at0 l a).toNat : Int) == 41) = false := by simp; omega
 have f41 : ((((ByteArray.mk l.toArray)[a]'(jV l a ha)).toNat : Int) == 41) = false := by rw [e]; simp; omega
 have q45 : (((Lx.at0 l a).toNat : Int) == 45) = true := by simp [hc]
 have f45 : ((((ByteArray.mk l.toArray)[a]'(jV l a ha)).toNat : Int) == 45) = true := by rw [e]; simp [hc]
 have r62 : (((Lx.at0 l (a + 1)).toNat : Int) == 62) = false := by simp; omega
 have g62 : ((((ByteArray.mk l.toArray)[a + 1]'(jV l (a + 1) h1)).toNat : Int) == 62) = false := by rw [e1]; simp; omega
 have hdg : Lx.jT (Lx.at0 l a) = false := by unfold Lx.jT; simp; omega
 have hsl : Lx.smallB (Lx.at0 l a) = false := by unfold Lx.smallB; simp; omega
 have hgl : Lx.greatB (Lx.at0 l a) = false := by unfold Lx.greatB; simp; omega
 have HDG := hid hdg; have HSL := hid hsl; have HGL := hid hgl
 clear hdg hsl hgl
 clear hs hn e1 hnd
 have hx := str_cut l a (a + 1)
 rw [Nat.add_sub_cancel_left] at hx
 rw [← hx]
 clear hx
 clear e hc
 go_enter Try.func37, Try.ntmps37
 go_wp2_with fail
 refine (in_digits _ _).mono ?_; rintro e w1 ⟨rfl, rfl⟩
 rw [str_at l a (jV l a ha), HDG.out]
 go_wp2_with fail
 refine (in_digits _ _).mono ?_; rintro e w1 ⟨rfl, rfl⟩
 rw [str_at l (a + 1) (jV l (a + 1) h1), HNX.out]
 go_wp2_with fail
 refine (in_small _ _).mono ?_; rintro e w1 ⟨rfl, rfl⟩
 rw [HSL.out]
 go_wp2_with fail
 refine (in_great _ _).mono ?_; rintro e w1 ⟨rfl, rfl⟩
 rw [HGL.out]
 go_wp2_with fail
 refine (in_sym _ _).mono ?_; rintro e w1 ⟨rfl, rfl⟩
 rw [HSY.out]
 go_wp2_with fail
 exact bodyPost_ret (v := .tuple #[.agg #[.int .i64 5, .int .i64 a, .string ((ByteArray.mk l.toArray).extract a (a + 1)), .int .i64 0], .bool true]) (by simp [results, Try.results37, go_sem]) rfl ⟨rfl, ((Below.refl _ _).alloc (Nat.le_refl _) _).alloc (by simp) _⟩
set_option maxHeartbeats 2000000 in
set_option maxRecDepth 100000 in
theorem one_none (l : List UInt8) (a : Nat) (w : World) (ha : a < l.length) (hm : l.length ≤ 1000000) (h40 : (Lx.at0 l a).toNat ≠ 40) (h41 : (Lx.at0 l a).toNat ≠ 41) (h45 : (Lx.at0 l a).toNat ≠ 45) (hd : Lx.jT (Lx.at0 l a) = false) (hsm : Lx.smallB (Lx.at0 l a) = false) (hgr : Lx.greatB (Lx.at0 l a) = false) (hs : memB (Lx.at0 l a) symL = false) :
 Calls Try.prog 37 #[.string ⟨l.toArray⟩, .int .i64 a] w fun e w' => e = .returned (.tuple #[.agg #[.int .i64 0, .int .i64 a, .string ⟨((l.drop a).take 1).toArray⟩, .int .i64 0], .bool false]) ∧ Below w.heap.size w w' := by
 have e := str_at l a (jV l a ha)
 have HDG := hid hd; have HSL := hid hsm; have HGL := hid hgr; have HSY := hid hs
 have hc := h40
 have f40 : ((((ByteArray.mk l.toArray)[a]'(jV l a ha)).toNat : Int) == 40) = false := by rw [e]; simp; omega
 have q41 : (((Lx.at0 l a).toNat : Int) == 41) = false := by simp; omega
 have f41 : ((((ByteArray.mk l.toArray)[a]'(jV l a ha)).toNat : Int) == 41) = false := by rw [e]; simp; omega
 have q45 : (((Lx.at0 l a).toNat : Int) == 45) = false := by simp; omega
 have f45 : ((((ByteArray.mk l.toArray)[a]'(jV l a ha)).toNat : Int) == 45) = false := by rw [e]; simp; omega
 clear hd hsm hgr hs
 have hx := str_cut l a (a + 1)
 rw [Nat.add_sub_cancel_left] at hx
 rw [← hx]
 clear hx
 clear e hc
 go_enter Try.func37, Try.ntmps37
 go_wp2_with fail
 refine (in_digits _ _).mono ?_; rintro e w1 ⟨rfl, rfl⟩
 rw [str_at l a (jV l a ha), HDG.out]
 go_wp2_with fail
 refine (in_small _ _).mono ?_; rintro e w1 ⟨rfl, rfl⟩
 rw [HSL.out]
 go_wp2_with fail
 refine (in_great _ _).mono ?_; rintro e w1 ⟨rfl, rfl⟩
 rw [HGL.out]
 go_wp2_with fail
 refine (in_sym _ _).mono ?_; rintro e w1 ⟨rfl, rfl⟩
 rw [HSY.out]
 go_wp2_with fail
 exact bodyPost_ret (v := .tuple #[.agg #[.int .i64 0, .int .i64 a, .string ((ByteArray.mk l.toArray).extract a (a + 1)), .int .i64 0], .bool false]) (by simp [results, Try.results37, go_sem]) rfl ⟨rfl, ((Below.refl _ _).alloc (Nat.le_refl _) _).alloc (by simp) _⟩
end Go.Proofs.Ytgoacbomphlhjaa

namespace Go.Proofs.Ytgoacbomphlhjaa
open Go.Lib (hid)
open List renaming getElem_toArray → jX, getElem_cons_succ → jY, getElem_cons_zero → jZ, setIfInBounds_toArray → JA, set_cons_zero → JB, set_cons_succ → JC
open Go Go.RowKit
def OnePost (l : List UInt8) (a : Nat) (w : World) (e : Ending) (w' : World) : Prop :=
 Below w.heap.size w w' ∧
 (((Lx.tokAt (l.drop a)).2 = 0 ∧ ∃ (k p : Int) (s : ByteArray) (i : Int), e = .returned (.tuple #[.agg #[.int .i64 k, .int .i64 p, .string s, .int .i64 i], .bool false])) ∨
  ((Lx.tokAt (l.drop a)).2 ≠ 0 ∧ ∃ t : Lx.Tok, t = Lx.mkTok a (Lx.tokAt (l.drop a)).1 ((l.drop a).take (Lx.tokAt (l.drop a)).2) ∧
     e = .returned (.tuple #[.agg #[.int .i64 t.kind, .int .i64 t.pos, .string ⟨t.text.toArray⟩, .int .i64 t.int], .bool true])))
theorem post_bad {l : List UInt8} {a : Nat} {w : World} {f : FuncId} {args : Array Value} {k p i : Int} {s : ByteArray} (h0 : (Lx.tokAt (l.drop a)).2 = 0)
 (h : Calls Try.prog f args w fun e w' => e = .returned (.tuple #[.agg #[.int .i64 k, .int .i64 p, .string s, .int .i64 i], .bool false]) ∧ Below w.heap.size w w') : Calls Try.prog f args w (OnePost l a w) :=
 h.mono fun _ _ ⟨he, hb⟩ => ⟨hb, .inl ⟨h0, k, p, s, i, he⟩⟩
theorem post_good {l : List UInt8} {a : Nat} {w : World} {f : FuncId} {args : Array Value} (K : Int) (n : Nat) (iv : Int) (ht : Lx.tokAt (l.drop a) = (K, n)) (hn : n ≠ 0) (hi : (Lx.mkTok a K ((l.drop a).take n)).int = iv)
 (h : Calls Try.prog f args w fun e w' => e = .returned (.tuple #[.agg #[.int .i64 K, .int .i64 a, .string ⟨((l.drop a).take n).toArray⟩, .int .i64 iv], .bool true]) ∧ Below w.heap.size w w') : Calls Try.prog f args w (OnePost l a w) :=
 h.mono fun _ _ ⟨he, hb⟩ => ⟨hb, .inr ⟨by rw [ht]; exact hn, _, rfl, by rw [ht, he, ← hi]; rfl⟩⟩
theorem mk_plain (a : Nat) (K : Int) (T : List UInt8) (h : K ≠ 2) : (Lx.mkTok a K T).int = 0 := by simp [Lx.mkTok, h]
theorem num_cases (r : List UInt8) (o m : Nat) : (18 < m ∨ Lx.wordB (Lx.at0 r (o + m)) = true) ∧ Lx.num r o m = (0, 0) ∨ (¬ 18 < m ∧ Lx.wordB (Lx.at0 r (o + m)) = false) ∧ Lx.num r o m = (2, o + m) := by
 unfold Lx.num
 by_cases h : 18 < m
 · left; exact ⟨.inl h, by simp [h]⟩
 · cases hw : Lx.wordB (Lx.at0 r (o + m))
   · right; exact ⟨⟨h, rfl⟩, by simp [h]⟩
   · left; exact ⟨.inr rfl, by simp⟩
theorem one_any (l : List UInt8) (a : Nat) (w : World) (ha : a < l.length) (hm : l.length ≤ 1000000) :
 Calls Try.prog 37 #[.string ⟨l.toArray⟩, .int .i64 a] w (OnePost l a w) := by
 have hte := Lx.tokAt_eq l a
 by_cases h45 : (Lx.at0 l a).toNat = 45
 · rw [if_pos h45] at hte
   have hs45 : Lx.one (Lx.at0 l a) = (5, 1) := by
    rw [u8_of _ 45 h45]; rfl
   by_cases h1 : a + 1 < l.length
   · by_cases h62 : (Lx.at0 l (a + 1)).toNat = 62
     · rw [if_pos h62] at hte
       exact post_good 5 2 0 hte (by omega) (mk_plain _ _ _ (by omega)) (one_arrow l a w ha hm h1 h45 h62)
     · rw [if_neg h62] at hte
       cases hd : Lx.jT (Lx.at0 l (a + 1))
       · rw [if_neg (by simp [hd]), hs45] at hte
         exact post_good 5 1 0 hte (by omega) (mk_plain _ _ _ (by omega)) (one_dash_in l a w ha hm h45 h1 h62 hd)
       · rw [if_pos hd] at hte
         have hat : Lx.at0 (l.drop a) (1 + Lx.cnt Lx.jT (l.drop (a + 1))) = Lx.at0 l (a + 1 + Lx.cnt Lx.jT (l.drop (a + 1))) := by rw [Lx.at0_drop, ← Nat.add_assoc]
         rcases num_cases (l.drop a) 1 (Lx.cnt Lx.jT (l.drop (a + 1))) with ⟨hb, he⟩ | ⟨⟨h18, hw⟩, he⟩
         · rw [hat] at hb
           rw [he] at hte
           exact post_bad (by rw [hte]) (one_num_neg_bad l a w ha hm h1 h45 hd hb)
         · rw [hat] at hw
           rw [he] at hte
           refine post_good 2 _ _ hte (by omega) ?_ (one_num_neg_ok l a w ha hm h1 h45 hd h18 hw)
           have e : (l.drop a).take (1 + Lx.cnt Lx.jT (l.drop (a + 1))) = Lx.at0 l a :: (l.drop (a + 1)).take (Lx.cnt Lx.jT (l.drop (a + 1))) := by
            rw [Lx.drop_at l a ha, Nat.add_comm, List.take_succ_cons]
           rw [e]
           show (if (2 : Int) = 2 then Lx.numV _ else 0) = _
           rw [if_pos rfl, Lx.numV, if_pos (by simpa [Lx.at0] using h45)]
           rfl
   · have h0 : Lx.at0 l (a + 1) = 0 := Lx.at0_out l _ (by omega)
     rw [h0, if_neg (by decide), if_neg (by decide), hs45] at hte
     exact post_good 5 1 0 hte (by omega) (mk_plain _ _ _ (by omega)) (one_dash_end l a w ha hm h45 h1)
 · rw [if_neg h45] at hte
   cases hd : Lx.jT (Lx.at0 l a)
   · rw [if_neg (by simp [hd])] at hte
     cases hs : Lx.smallB (Lx.at0 l a)
     · rw [if_neg (by simp [hs])] at hte
       cases hg : Lx.greatB (Lx.at0 l a)
       · rw [if_neg (by simp [hg])] at hte
         by_cases h40 : (Lx.at0 l a).toNat = 40
         · have e : Lx.one (Lx.at0 l a) = (0, 1) := by rw [u8_of _ 40 h40]; rfl
           rw [e] at hte
           exact post_good 0 1 0 hte (by omega) (mk_plain _ _ _ (by omega)) (one_open l a w ha hm h40)
         · by_cases h41 : (Lx.at0 l a).toNat = 41
           · have e : Lx.one (Lx.at0 l a) = (1, 1) := by rw [u8_of _ 41 h41]; rfl
             rw [e] at hte
             exact post_good 1 1 0 hte (by omega) (mk_plain _ _ _ (by omega)) (one_shut l a w ha hm h41)
           · cases hy : memB (Lx.at0 l a) symL
             · have hx : ¬ _ := fun h => by rw [(mem_sym (Lx.at0 l a)).2 h] at hy; exact absurd hy (by decide)
               have e : Lx.one (Lx.at0 l a) = (0, 0) := by
                unfold Lx.one Lx.single
                rw [if_neg h40, if_neg h41, if_neg hx]; rfl
               rw [e] at hte
               exact post_bad (by rw [hte]) (one_none l a w ha hm h40 h41 h45 hd hs hg hy)
             · have e : Lx.one (Lx.at0 l a) = (5, 1) := by
                unfold Lx.one Lx.single
                rw [if_neg h40, if_neg h41, if_pos ((mem_sym _).1 hy)]; rfl
               rw [e] at hte
               exact post_good 5 1 0 hte (by omega) (mk_plain _ _ _ (by omega)) (one_sym l a w ha hm hy h45)
       · rw [if_pos hg] at hte
         have hc : Lx.cnt Lx.wordB (l.drop a) = Lx.cnt Lx.wordB (l.drop (a + 1)) + 1 := (Lx.cnt_step Lx.wordB l a Lx.word0 (by unfold Lx.wordB; rw [hg]; simp)).2
         rw [← hc] at hte
         exact post_good 4 _ 0 hte (by omega) (mk_plain _ _ _ (by omega)) (one_great l a w ha hm hg)
     · rw [if_pos hs] at hte
       have hc : Lx.cnt Lx.wordB (l.drop a) = Lx.cnt Lx.wordB (l.drop (a + 1)) + 1 := (Lx.cnt_step Lx.wordB l a Lx.word0 (by unfold Lx.wordB; rw [hs]; simp)).2
       rw [← hc] at hte
       exact post_good 3 _ 0 hte (by omega) (mk_plain _ _ _ (by omega)) (one_small l a w ha hm hs)
   · rw [if_pos hd] at hte
     have hat : Lx.at0 (l.drop a) (0 + Lx.cnt Lx.jT (l.drop a)) = Lx.at0 l (a + Lx.cnt Lx.jT (l.drop a)) := by rw [Lx.at0_drop, Nat.zero_add]
     rcases num_cases (l.drop a) 0 (Lx.cnt Lx.jT (l.drop a)) with ⟨hb, he⟩ | ⟨⟨h18, hw⟩, he⟩
     · rw [hat] at hb
       rw [he] at hte
       exact post_bad (by rw [hte]) (one_num_pos_bad l a w ha hm hd hb)
     · rw [hat] at hw
       rw [he, Nat.zero_add] at hte
       have hp := (Lx.cnt_step Lx.jT l a Lx.digit0 hd).2
       refine post_good 2 _ _ hte (by omega) ?_ (one_num_pos_ok l a w ha hm hd h18 hw)
       show (if (2 : Int) = 2 then Lx.numV _ else 0) = _
       rw [if_pos rfl, Lx.numV, if_neg]
       rw [Lx.take_at0 _ _ _ (by omega), Lx.at0_drop]
       simpa using h45
end Go.Proofs.Ytgoacbomphlhjaa

namespace Go.Proofs.Ytgoacbomphlhjaa
open Go.Lib (hid)
open List renaming getElem_toArray → jX, getElem_cons_succ → jY, getElem_cons_zero → jZ, setIfInBounds_toArray → JA, set_cons_zero → JB, set_cons_succ → JC
open Go Go.RowKit
/-- What Tokens answers of a text. -/
def TkCase (l : List UInt8) (ts : List Lx.Tok) (p c : Int) : Prop :=
 (4096 < l.length ∧ ts = [] ∧ p = 4096 ∧ c = 2) ∨ (l.length ≤ 4096 ∧ (∃ q, (Lx.toks (l.length + 1) 0 l).2 = some q ∧ ts = [] ∧ p = q ∧ c = 2)) ∨ (l.length ≤ 4096 ∧ (Lx.toks (l.length + 1) 0 l) = (ts, none) ∧ p = -1 ∧ c = 0)
theorem refSkip_int (l : List UInt8) (i : Int) (w : World) (h : 0 ≤ i) (ha : i ≤ l.length) (hm : l.length ≤ 1000000) :
 Calls Try.prog 36 #[.string ⟨l.toArray⟩, .int .i64 i] w fun e w' => e = .returned (.int .i64 ((i.toNat + Lx.skipC false (l.drop i.toNat) : Nat) : Int)) ∧ w = w' := by
 obtain ⟨k, rfl⟩ := Int.eq_ofNat_of_zero_le h
 rw [Int.toNat_natCast]
 exact refSkip_any l k w (by omega) hm
def RtPost (l : List UInt8) (w : World) (e : Ending) (w' : World) : Prop :=
 ∃ (v : Value) (ts : List Lx.Tok) (p c : Int), e = .returned (.tuple #[v, .int .i64 p]) ∧ Below w.heap.size w w' ∧ w'.ownsRow w.heap.size 70 4 v ts.length (toksCells ts) ∧ TkCase l ts p c
set_option maxHeartbeats 2000000 in
set_option maxRecDepth 100000 in
theorem refTokens_any (l : List UInt8) (w : World) (hm : l.length ≤ 1000000) :
 Calls Try.prog 18 #[.string ⟨l.toArray⟩] w (RtPost l w) := by
 go_enter Try.func18, Try.ntmps18
 by_cases hlong : 4096 < l.length
 · have hl : (4096 : Int) < (l.length : Int) := by omega
   go_wp2_with fail
   go_ret2
   exact ⟨_, [], 4096, 2, rfl, Below.refl _ _, World.ownsRow_nil _ _ _ _, .inl ⟨hlong, rfl, rfl, rfl⟩⟩
 · have hl : ¬ (4096 : Int) < (l.length : Int) := by omega
   have HR0 := hid (tkR_start l)
   go_wp2_with fail
   refine (refSkip_int l 0 _ (by omega) (by omega) hm).mono ?_; rintro e w1 ⟨rfl, rfl⟩
   have h00 : (0 : Int).toNat = 0 := rfl
   rw [h00, Nat.zero_add]
   clear h00
   go_wp2_with fail
   go_loopw [4, 5] (fun v i wr => ∃ (E A : Nat) (done : List Lx.Tok), i = .int .i64 A ∧ Hid (E + Lx.skipC false (l.drop E) = A) ∧ Hid (TkR l done E) ∧ E ≤ l.length ∧ done.length ≤ E ∧ Below w.heap.size w wr ∧ Hid (wr.ownsRow w.heap.size 70 4 v done.length (toksCells done))) (fun _ i _ => l.length - (intOf i).toNat)
   case atStart => exact ⟨0, _, [], rfl, hid (by rw [List.drop_zero, Nat.zero_add]), HR0, by omega, by simp, Below.refl _ _, hid (World.ownsRow_nil _ _ _ _)⟩
   case round =>
    obtain ⟨E, A, done, rfl, hA, hR, hE, hd, hb, ho⟩ := hrel
    obtain ⟨hAl, hEA, hend, hbad, hmore⟩ := tk_step hR.out hE hA.out
    have HB := hid hb
    have hsz := hb.size
    have HEND := hid hend; have HBAD := hid hbad; have HMORE := hid hmore
    clear hb hend hbad hmore
    by_cases hlt : A < l.length
    · go_wp2_with fail
      refine (one_any l A _ hlt hm).mono ?_
      rintro e w2 ⟨hb2, ⟨h0, k, p, s, i, rfl⟩ | ⟨h0, t, ht, rfl⟩⟩
      · have HB2 := hid (HB.out.trans (hb2.mono hsz))
        have hs2 := HB2.out.size
        have HBD := hid (HBAD.out hlt h0)
        clear hb2 h0
        go_wp2_with fail
        go_ret2
        exact ⟨_, [], A, 2, rfl, HB2.out.alloc hs2 _, World.ownsRow_nil _ _ _ _, .inr (.inl ⟨by omega, A, HBD.out, rfl, rfl, rfl⟩)⟩
      · have hown2 := jJ ho.out hb2
        have HB2 := hid (HB.out.trans (hb2.mono hsz))
        have hs2 := HB2.out.size
        have hmore := HMORE.out hlt h0
        have hle := Lx.tokAt_le (l.drop A)
        rw [List.length_drop] at hle
        have hlen : t.text.length = (Lx.tokAt (l.drop A)).2 := by rw [ht]; show ((l.drop A).take _).length = _; rw [List.length_take, List.length_drop]; omega
        rw [← ht, ← hlen] at hmore
        have hpos : t.pos = A := by rw [ht]; rfl
        have hlt1 : 0 < t.text.length := by omega
        have hle1 : A + t.text.length ≤ l.length := by omega
        obtain ⟨i0, hi, hz0, hz1, hz2⟩ := info_parts info70
        have HI1 := hid hz1; have HI2 := hid hz2; have HI0 := hid hz0; have HI := hid hi
        have Hown2 := hid hown2; have HM := hid hmore; have HTT := hid ht; have HP := hid hpos; have HLN := hid hlen
        have hdl : done.length ≤ 4096 := by omega
        clear hi hz0 hz1 hz2 hb2 hown2 h0 hmore hle hlen ht hpos
        go_wp2_with (at_builtin; refine wpList_append_own _ rfl (.tmp 26) (.tmp 28) 66 rfl w.heap.size 70 i0 (.agg #[.int .i64 0, .int .i64 0, .string ⟨#[]⟩, .int .i64 0]) 4 40 Try.underlying66 HI.out HI0.out HI1.out HI2.out rfl (by decide) _ done.length _ rfl ((Hown2.out.alloc _).alloc _) ⟨w2.heap.size + 1, 0, none⟩ 1 1 [.int .i64 t.kind, .int .i64 t.pos, .string ⟨t.text.toArray⟩, .int .i64 t.int] rfl rfl ?c1 ?c2 ?c3 ?c4 ?c5 ?_)
        case c1 =>
         intro j u h
         have h' := four_at (w2.alloc (.cells #[.int .i64 t.kind, .int .i64 t.pos, .string ⟨t.text.toArray⟩, .int .i64 t.int] 70)) _ _ _ _ 70 j u h
         rw [show (w2.alloc (.cells #[.int .i64 t.kind, .int .i64 t.pos, .string ⟨t.text.toArray⟩, .int .i64 t.int] 70)).heap.size = w2.heap.size + 1 by simp] at h'
         exact h'
        case c2 => exact four_one _ _ _ _
        case c3 => unfold maxLen; omega
        case c4 => omega
        case c5 => simp; omega
        intro v' w3 hown3 hgr _
        have c0 : ((w2.alloc (.cells #[.int .i64 t.kind, .int .i64 t.pos, .string ⟨t.text.toArray⟩, .int .i64 t.int] 70)).alloc (.cells #[.int .i64 t.kind, .int .i64 t.pos, .string ⟨t.text.toArray⟩, .int .i64 t.int] 70)).cell? ⟨w2.heap.size, 2, none⟩ = some (.string ⟨t.text.toArray⟩) := by
         rw [World.cell?_alloc_past _ _ _ (by simp), World.cell?_alloc_mark]; rfl
        have c2 := hgr.cell c0 (by intro e; have := (Hown2.out.lt w2.heap.size e.symm).2; simp at this)
        have hB3 := ((HB2.out.alloc hs2 (.cells #[.int .i64 t.kind, .int .i64 t.pos, .string ⟨t.text.toArray⟩, .int .i64 t.int] 70)).alloc (by simp; omega) (.cells #[.int .i64 t.kind, .int .i64 t.pos, .string ⟨t.text.toArray⟩, .int .i64 t.int] 70)).grown hgr (by simp; omega) (fun kk hkk => (Hown2.out.lt kk hkk).1)
        have hcs : toksCells done ++ [.int .i64 t.kind, .int .i64 t.pos, .string ⟨t.text.toArray⟩, .int .i64 t.int] = toksCells (done ++ [t]) := by simp [toksCells, tokCells]
        rw [hcs] at hown3
        have HB3 := hid hB3; have HO3 := hid hown3
        clear hgr hB3 hown3 c0 hcs
        go_wp2_with fail
        refine (refSkip_int l _ _ (by omega) (by omega) hm).mono ?_; rintro e w4 ⟨rfl, rfl⟩
        have hto : ((A : Int) + (t.text.length : Int)).toNat = A + t.text.length := by omega
        rw [hto]
        have hsl := Lx.skipC_le false (l.drop (A + t.text.length))
        rw [List.length_drop] at hsl
        generalize hA' : A + t.text.length + Lx.skipC false (l.drop (A + t.text.length)) = A'
        have hA'2 : A < A' := by omega
        have hA'3 : A' ≤ l.length := by omega
        have HA' := hid hA'
        clear hto hsl hA'
        go_wp2_with fail
        go_roundw
        case rel => exact ⟨A + t.text.length, A', done ++ [t], rfl, HA', HM, hle1, by rw [List.length_append, List.length_singleton]; omega, HB3.out, hid (by rw [List.length_append]; exact HO3.out)⟩
        case measure => simp [intOf]; omega
    · obtain rfl : A = l.length := by omega
      have HED := hid (HEND.out rfl)
      go_wp2_with fail
      go_ret2
      exact ⟨_, done, -1, 0, rfl, HB.out, ho.out, .inr (.inr ⟨by omega, HED.out, rfl, rfl⟩)⟩
end Go.Proofs.Ytgoacbomphlhjaa

namespace Go.Proofs.Ytgoacbomphlhjaa
open Go.Lib (hid)
open List renaming getElem_toArray → jX, getElem_cons_succ → jY, getElem_cons_zero → jZ, setIfInBounds_toArray → JA, set_cons_zero → JB, set_cons_succ → JC
open Go Go.RowKit
/-- A node as a value; lv: its list. -/
def nV (n : Px.Node) (lv : Value) : Value := .agg #[.int .i64 n.tok.kind, .int .i64 n.tok.pos, .string ⟨n.tok.text.toArray⟩, .int .i64 n.tok.int, .bool (Px.jS n), lv]
def NdAt : Nat → World → Value → Px.Node → Prop
 | 0, _, _, _ => False
 | k + 1, u, v, n => ∃ lv, v = nV n lv ∧ RowAt 6 (NdAt k u) u lv n.list
theorem NdAt.below : ∀ {k : Nat} {w w' : World} {v : Value} {n : Px.Node}, NdAt k w v n → Below w.heap.size w w' → NdAt k w' v n := by
 intro k
 induction k with
 | zero => intro w w' v n h; exact h.elim
 | succ k ih =>
   intro w w' v n ⟨lv, hv, hr⟩ hb
   exact ⟨lv, hv, hr.mono hb (fun u x _ hu => ih hu hb)⟩
set_option maxHeartbeats 1000000 in
theorem token_any (n : Px.Node) (lv : Value) (K : Int) (w : World) : Calls Try.prog 38 #[nV n lv, .int .i64 K] w fun e w' => e = .returned (.bool (!Px.jS n && n.tok.kind == K)) ∧ Below w.heap.size w w' := by
 go_enter Try.func38, Try.ntmps38
 unfold nV
 have hb : Below w.heap.size w (w.alloc (.cells #[.int .i64 n.tok.kind, .int .i64 n.tok.pos, .string ⟨n.tok.text.toArray⟩, .int .i64 n.tok.int, .bool (Px.jS n), lv] 73)) := (Below.refl _ _).alloc (Nat.le_refl _) _
 have HB := hid hb
 clear hb
 generalize Px.jS n = b at *
 cases b with
 | true =>
   go_wp2_with fail
   go_ret
   exact ⟨rfl, HB.out⟩
 | false =>
   go_wp2_with fail
   go_ret
   exact ⟨rfl, HB.out⟩
/-- The place that size tells; below 0: none. -/
def sizeP (n : Px.Node) (least most : Nat) : Int := match Px.nodes n least most with | .error p => (p : Int) | .ok _ => -1
set_option maxHeartbeats 2000000 in
theorem size_any (k : Nat) (n : Px.Node) (v : Value) (least most : Nat) (w : World) (hn : NdAt k w v n) (h1 : least ≤ 1000) (h2 : most ≤ 1000) :
 Calls Try.prog 39 #[v, .int .i64 least, .int .i64 most] w fun e w' => e = .returned (.int .i64 (sizeP n least most)) ∧ Below w.heap.size w w' := by
 cases k with
 | zero => exact hn.elim
 | succ k =>
 obtain ⟨lv, rfl, hr⟩ := hn
 go_enter Try.func39, Try.ntmps39
 unfold nV
 have hb : Below w.heap.size w (w.alloc (.cells #[.int .i64 n.tok.kind, .int .i64 n.tok.pos, .string ⟨n.tok.text.toArray⟩, .int .i64 n.tok.int, .bool (Px.jS n), lv] 73)) := (Below.refl _ _).alloc (Nat.le_refl _) _
 have HB := hid hb
 clear hb
 obtain ⟨q, c, rfl⟩ := hr.len
 have HR := hid hr
 clear hr
 have hsz : sizeP n least most = if Px.jS n = true then (if n.list.length < least then (n.tok.pos : Int) else match n.list[most]? with | some m => (m.tok.pos : Int) | none => -1) else (n.tok.pos : Int) := by
  unfold sizeP Px.nodes Px.hold Px.Node.pos
  by_cases hl : Px.jS n = true
  · rw [if_pos hl, if_pos hl]
    by_cases hs : n.list.length < least
    · rw [if_pos hs, if_pos hs]
    · rw [if_neg hs, if_neg hs]
      cases n.list[most]? <;> rfl
  · rw [if_neg hl, if_neg hl]
 have HS := hid hsz
 clear hsz
 cases hb : Px.jS n with
 | false =>
   rw [hb] at HS
   go_wp2_with fail
   go_ret
   exact ⟨by rw [HS.out]; simp, by rw [← hb]; exact HB.out⟩
 | true =>
   rw [hb] at HS HB
   have hs := HS.out
   rw [if_pos rfl] at hs
   by_cases hlt : n.list.length < least
   · have hli : (n.list.length : Int) < (least : Int) := by omega
     rw [if_pos hlt] at hs
     clear HS
     go_wp2_with fail
     go_ret
     exact ⟨(by first | rfl | exact congrArg (fun z => Ending.returned (.int .i64 z)) hs.symm), HB.out⟩
   · have hli : ¬ (n.list.length : Int) < (least : Int) := by omega
     rw [if_neg hlt] at hs
     by_cases hgt : most < n.list.length
     · have hgi : (most : Int) < (n.list.length : Int) := by omega
       obtain ⟨m, hm⟩ : ∃ m, n.list[most]? = some m := ⟨_, List.getElem?_eq_getElem hgt⟩
       rw [hm] at hs
       dsimp only at hs
       rcases HR.out with ⟨h0, _⟩ | ⟨g, o, c', hv, g1, g2, g3⟩
       · rw [h0] at hgt; simp at hgt
       · injection hv with hq _ hc
         subst hq; subst hc
         obtain ⟨u, hu, _, hcell⟩ := g3 most m hm
         cases k with
         | zero => exact hu.elim
         | succ k =>
           obtain ⟨kv, rfl, _⟩ := hu
           have hc1 : (w.alloc (.cells #[.int .i64 n.tok.kind, .int .i64 n.tok.pos, .string ⟨n.tok.text.toArray⟩, .int .i64 n.tok.int, .bool true, .slice (some ⟨g, o, none⟩) n.list.length c] 73)).cell? ⟨g, o + most * 6 + 1, none⟩ = some (.int .i64 m.tok.pos) := by
            have e := hcell 1 (.int .i64 m.tok.pos) rfl
            exact (HB.out.cell (World.block_lt_of_cell? _ _ e)).trans e
           clear HS HR g3 hcell hm
           go_wp2_with fail
           go_ret
           exact ⟨(by first | rfl | exact congrArg (fun z => Ending.returned (.int .i64 z)) hs.symm), HB.out⟩
     · have hgi : ¬ (most : Int) < (n.list.length : Int) := by omega
       have hm : n.list[most]? = none := List.getElem?_eq_none (by omega)
       rw [hm] at hs
       clear HS
       go_wp2_with fail
       go_ret
       exact ⟨(by first | rfl | exact congrArg (fun z => Ending.returned (.int .i64 z)) hs.symm), HB.out⟩
namespace Px
open Lx (Tok)
def resL : List (List UInt8) := [[100, 97, 116, 97], [100, 101, 102], [102, 110], [108, 101, 116], [99, 97, 115, 101], [99, 112, 120], [114, 101], [105, 109], [99, 97, 100, 100], [99, 109, 117, 108]]
def resB (s : List UInt8) : Bool := resL.contains s
theorem good_kind {n : Node} (h : NodeGood n) (hl : jS n = false) (s : List UInt8) (ht : n.tok.text = s) (hp : ¬ Plain s) : n.tok.kind = (Lx.tokAt s).1 := by
 cases h with
 | leaf t ho h0 h1 =>
   have e : t.text = s := ht
   have h2 : t.kind ≠ 2 := fun h2 => hp (by rw [← e]; exact (ho.num h2).2)
   have hw := (ho.word h0 h1 h2).is [] Lx.ends_nil
   rw [List.append_nil, e] at hw
   rw [hw]; rfl
 | list t l ho h0 hm =>
   unfold jS at hl
   have : (Node.mk t l 0).tok.kind = 0 := h0
   rw [this] at hl; simp at hl
theorem good_takes {n : Node} (h : NodeGood n) (hl : jS n = false) : n.takes = takesOf n.tok.text := by
 cases h with
 | leaf t ho h0 h1 => rfl
 | list t l ho h0 hm =>
   unfold jS at hl
   have : (Node.mk t l 0).tok.kind = 0 := h0
   rw [this] at hl; simp at hl
theorem good_takes_list {n : Node} (h : NodeGood n) (hl : jS n = true) : n.takes = 0 := by
 cases h with
 | leaf t ho h0 h1 =>
   unfold jS at hl
   have : (Node.mk t [] (takesOf t.text)).tok.kind = t.kind := rfl
   rw [this] at hl
   exact absurd (by simpa using hl) h0
 | list t l ho h0 hm => rfl
theorem good_list {n : Node} (h : NodeGood n) (hl : jS n = false) : n.list = [] := by
 cases h with
 | leaf t ho h0 h1 => rfl
 | list t l ho h0 hm =>
   unfold jS at hl
   have : (Node.mk t l 0).tok.kind = 0 := h0
   rw [this] at hl; simp at hl
theorem takes_words (s : List UInt8) (h : takesOf s ≠ 0) : s ∈ ([[43], [45], [42], [47], [37], [61], [60], [99, 112, 120], [99, 97, 100, 100], [99, 109, 117, 108], [114, 101], [105, 109]] : List (List UInt8)) := by
 unfold takesOf at h
 simp only [List.mem_cons, List.not_mem_nil, or_false]
 split at h
 · rename_i h1
   rcases h1 with h | h | h | h | h | h | h | h | h | h <;> simp [h]
 · split at h
   · rename_i h1
     rcases h1 with h | h <;> simp [h]
   · exact absurd rfl h
/-- An operation's arguments, as the document counts them. -/
def takesR (n : Node) : Nat := if jS n || (n.tok.kind != 3 && n.tok.kind != 5) then 0 else takesOf n.tok.text
theorem takesR_eq {n : Node} (h : NodeGood n) : takesR n = n.takes := by
 unfold takesR
 cases hl : jS n with
 | true => rw [good_takes_list h hl]; rfl
 | false =>
   rw [good_takes h hl, Bool.false_or]
   by_cases ht : takesOf n.tok.text = 0
   · rw [ht]; simp
   · have hw := takes_words _ ht
     have hk : n.tok.kind = 3 ∨ n.tok.kind = 5 := by
      simp only [List.mem_cons, List.not_mem_nil, or_false] at hw
      rcases hw with e | e | e | e | e | e | e | e | e | e | e | e
      all_goals
       have := good_kind h hl _ e (by unfold Plain; decide)
       rw [this]
       first | exact .inl rfl | exact .inr rfl
     have hb : (n.tok.kind != 3 && n.tok.kind != 5) = false := by
      rcases hk with e | e <;> rw [e] <;> rfl
     rw [hb]; rfl
/-- May a node be a name, as the document asks. -/
def nameR (n : Node) : Bool := (!jS n && n.tok.kind == 3) && !resB n.tok.text
theorem nameR_eq {n : Node} (h : NodeGood n) : nameR n = isNameB n := by
 unfold nameR isNameB Node.text
 cases hl : jS n with
 | true =>
   have : n.tok.kind = 0 := by unfold jS at hl; simpa using hl
   rw [this]; simp
 | false =>
   by_cases hk : n.tok.kind = 3
   · rw [good_takes h hl, hk]
     simp only [Bool.not_false, Bool.true_and, BEq.rfl, Bool.and_true]
     by_cases ht : takesOf n.tok.text = 0
     · rw [ht]
       unfold resB resL
       simp only [List.contains_cons, List.contains_nil, Bool.or_false, BEq.rfl, Bool.and_true]
       have n1 : (n.tok.text == [99, 112, 120]) = false := by rw [beq_eq_false_iff_ne]; intro e; rw [e] at ht; exact absurd ht (by decide)
       have n2 : (n.tok.text == [114, 101]) = false := by rw [beq_eq_false_iff_ne]; intro e; rw [e] at ht; exact absurd ht (by decide)
       have n3 : (n.tok.text == [105, 109]) = false := by rw [beq_eq_false_iff_ne]; intro e; rw [e] at ht; exact absurd ht (by decide)
       have n4 : (n.tok.text == [99, 97, 100, 100]) = false := by rw [beq_eq_false_iff_ne]; intro e; rw [e] at ht; exact absurd ht (by decide)
       have n5 : (n.tok.text == [99, 109, 117, 108]) = false := by rw [beq_eq_false_iff_ne]; intro e; rw [e] at ht; exact absurd ht (by decide)
       rw [n1, n2, n3, n4, n5]
       simp [Bool.or_assoc]
     · have hw := takes_words _ ht
       have ht' : (takesOf n.tok.text == 0) = false := by rw [beq_eq_false_iff_ne]; exact ht
       rw [ht', Bool.and_false]
       simp only [List.mem_cons, List.not_mem_nil, or_false] at hw
       rcases hw with e | e | e | e | e | e | e | e | e | e | e | e
       all_goals
        first
        | (exfalso
           have := good_kind h hl _ e (by unfold Plain; decide)
           rw [hk] at this
           exact absurd this (by decide))
        | (rw [e]; rfl)
   · have : (n.tok.kind == 3) = false := by rw [beq_eq_false_iff_ne]; exact hk
     rw [this]; simp
end Px
theorem resAt (w : World) (T : TypeId) (k : Nat) (s : List UInt8) (h : Px.resL[k]? = some s) : (w.alloc (.cells #[.string ⟨#[100, 97, 116, 97]⟩, .string ⟨#[100, 101, 102]⟩, .string ⟨#[102, 110]⟩, .string ⟨#[108, 101, 116]⟩, .string ⟨#[99, 97, 115, 101]⟩, .string ⟨#[99, 112, 120]⟩, .string ⟨#[114, 101]⟩, .string ⟨#[105, 109]⟩, .string ⟨#[99, 97, 100, 100]⟩, .string ⟨#[99, 109, 117, 108]⟩] T)).cell? ⟨w.heap.size, k, none⟩ = some (.string ⟨s.toArray⟩) := by
 have hk : k < 10 := (List.getElem?_eq_some_iff.1 h).1
 rw [World.cell?_alloc_mark]
 match k, hk, h with
 | 0, _, h => cases h; rfl
 | 1, _, h => cases h; rfl
 | 2, _, h => cases h; rfl
 | 3, _, h => cases h; rfl
 | 4, _, h => cases h; rfl
 | 5, _, h => cases h; rfl
 | 6, _, h => cases h; rfl
 | 7, _, h => cases h; rfl
 | 8, _, h => cases h; rfl
 | 9, _, h => cases h; rfl
theorem res_take (k : Nat) (s x : List UInt8) (h : Px.resL[k]? = some x) (hn : (Px.resL.take k).contains s = false) : (Px.resL.take (k + 1)).contains s = (x == s) := by
 rw [List.take_add_one, h, Option.toList_some, List.contains_append, hn]
 by_cases e : x = s
 · subst e; simp
 · have e2 : ¬ s = x := fun h => e h.symm
   simp [e, e2]
set_option maxHeartbeats 1000000 in
theorem reserved_any (s : List UInt8) (w : World) : Calls Try.prog 67 #[.string ⟨s.toArray⟩] w fun e w' => e = .returned (.bool (Px.resB s)) ∧ Below w.heap.size w w' := by
 go_enter Try.func67, Try.ntmps67
 have hb : Below w.heap.size w (w.alloc (.cells #[.string ⟨#[100, 97, 116, 97]⟩, .string ⟨#[100, 101, 102]⟩, .string ⟨#[102, 110]⟩, .string ⟨#[108, 101, 116]⟩, .string ⟨#[99, 97, 115, 101]⟩, .string ⟨#[99, 112, 120]⟩, .string ⟨#[114, 101]⟩, .string ⟨#[105, 109]⟩, .string ⟨#[99, 97, 100, 100]⟩, .string ⟨#[99, 109, 117, 108]⟩] 9)) := (Below.refl _ _).alloc (Nat.le_refl _) _
 have HB := hid hb
 have hat := resAt w 9
 have HAT := hid hat
 clear hb hat
 go_wp2_with fail
 go_loopw [4] (fun i wr => wr = w.alloc (.cells #[.string ⟨#[100, 97, 116, 97]⟩, .string ⟨#[100, 101, 102]⟩, .string ⟨#[102, 110]⟩, .string ⟨#[108, 101, 116]⟩, .string ⟨#[99, 97, 115, 101]⟩, .string ⟨#[99, 112, 120]⟩, .string ⟨#[114, 101]⟩, .string ⟨#[105, 109]⟩, .string ⟨#[99, 97, 100, 100]⟩, .string ⟨#[99, 109, 117, 108]⟩] 9) ∧ ∃ k : Nat, i = .int .i64 k ∧ k ≤ 10 ∧ (Px.resL.take k).contains s = false) (fun i _ => (10 - intOf i).toNat)
 case atStart => exact ⟨rfl, 0, rfl, by omega, rfl⟩
 case round =>
  obtain ⟨rfl, k, rfl, hk, hno⟩ := hrel
  by_cases hlt : k < 10
  · obtain ⟨x, hx⟩ : ∃ x, Px.resL[k]? = some x := ⟨_, List.getElem?_eq_getElem hlt⟩
    have hc := HAT.out k x hx
    have ht := res_take k s x hx hno
    have HT := hid ht
    clear ht
    by_cases he : x = s
    · subst he
      go_wp2_with fail
      go_ret
      refine ⟨?_, HB.out⟩
      have h1 : Px.resB x = true := by
       unfold Px.resB
       rw [List.contains_iff_mem]
       exact List.mem_of_getElem? hx
      show Ending.returned (.bool true) = _
      rw [h1]
    · have hne : (x == s) = false := by rw [beq_eq_false_iff_ne]; exact he
      have hne2 : ¬ (⟨x.toArray⟩ : ByteArray) = ⟨s.toArray⟩ := by intro e; exact he (by injection e with e; simpa using e)
      go_wp2_with fail
      go_roundw
      case rel => exact ⟨by trivial, k + 1, by go_num, by omega, by rw [HT.out]; exact hne⟩
      case measure => simp [intOf]; omega
  · have hk10 : k = 10 := by omega
    subst hk10
    go_wp2_with fail
    go_ret
    refine ⟨?_, HB.out⟩
    show Ending.returned (.bool false) = _
    have h1 : Px.resB s = false := hno
    rw [h1]
end Go.Proofs.Ytgoacbomphlhjaa
