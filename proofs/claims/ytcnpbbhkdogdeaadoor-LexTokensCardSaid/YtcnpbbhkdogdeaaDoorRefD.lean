/-
  The document's answers, layer 1: One.
-/
import Derived.Test.YtcnpbbhkdogdeaaDoorRefC
import Derived.Test.YtcnpbbhkdogdeaaDoorPlacePure
import Derived.BigRegion
import Derived.Deep.RegionWith
import Derived.Lib.Strings
namespace Go.Proofs.YtcnpbbhkdogdeaaDoor
open Go Go.RowKit

theorem str_cut (l : List UInt8) (a b : Nat) : (ByteArray.mk l.toArray).extract a b = ⟨((l.drop a).take (b - a)).toArray⟩ := by
  apply ByteArray.ext
  have h := Lib.extract_data (ByteArray.mk l.toArray) a b
  apply Array.toList_inj.1
  rw [h]

theorem mem_sym (c : UInt8) : memB c symL = true ↔ c.toNat = 95 ∨ c.toNat = 43 ∨ c.toNat = 45 ∨ c.toNat = 42 ∨ c.toNat = 47 ∨ c.toNat = 37 ∨ c.toNat = 61 ∨ c.toNat = 60 := by
  simp [memB, symL]; omega

theorem two_at (l : List UInt8) (a : Nat) (h : a + 1 < l.length) : (l.drop a).take 2 = [Lx.at0 l a, Lx.at0 l (a + 1)] := by
  rw [Lx.drop_at l a (by omega), Lx.drop_at l (a + 1) h]; rfl

theorem u8_of (c : UInt8) (n : UInt8) (h : c.toNat = n.toNat) : c = n := UInt8.toNat_inj.1 h

set_option maxHeartbeats 2000000 in
set_option maxRecDepth 100000 in
theorem one_open (l : List UInt8) (a : Nat) (w : World) (ha : a < l.length) (hm : l.length ≤ 1000000) (hc : (Lx.at0 l a).toNat = 40) :
    Calls Tryd.prog 18 #[.string ⟨l.toArray⟩, .int .i64 a] w fun e w' => e = .returned (.tuple #[.agg #[.int .i64 0, .int .i64 a, .string ⟨((l.drop a).take 1).toArray⟩, .int .i64 0], .bool true]) ∧ Below w.heap.size w w' := by
  have e := str_at l a (str_lt l a ha)
  have q40 : (((Lx.at0 l a).toNat : Int) == 40) = true := by simp [hc]
  have f40 : ((((ByteArray.mk l.toArray)[a]'(str_lt l a ha)).toNat : Int) == 40) = true := by rw [e]; simp [hc]
  have hx := str_cut l a (a + 1)
  rw [Nat.add_sub_cancel_left] at hx
  rw [← hx]
  clear hx
  clear e hc
  go_enter Tryd.func18, Tryd.ntmps18
  go_wp2
  exact bodyPost_ret (v := .tuple #[.agg #[.int .i64 0, .int .i64 a, .string ((ByteArray.mk l.toArray).extract a (a + 1)), .int .i64 0], .bool true]) (by simp [results, Tryd.results18, go_sem]) rfl ⟨rfl, ((Below.refl _ _).alloc (Nat.le_refl _) _).alloc (by simp) _⟩

set_option maxHeartbeats 2000000 in
set_option maxRecDepth 100000 in
theorem one_shut (l : List UInt8) (a : Nat) (w : World) (ha : a < l.length) (hm : l.length ≤ 1000000) (hc : (Lx.at0 l a).toNat = 41) :
    Calls Tryd.prog 18 #[.string ⟨l.toArray⟩, .int .i64 a] w fun e w' => e = .returned (.tuple #[.agg #[.int .i64 1, .int .i64 a, .string ⟨((l.drop a).take 1).toArray⟩, .int .i64 0], .bool true]) ∧ Below w.heap.size w w' := by
  have e := str_at l a (str_lt l a ha)
  have q40 : (((Lx.at0 l a).toNat : Int) == 40) = false := by simp; omega
  have f40 : ((((ByteArray.mk l.toArray)[a]'(str_lt l a ha)).toNat : Int) == 40) = false := by rw [e]; simp; omega
  have q41 : (((Lx.at0 l a).toNat : Int) == 41) = true := by simp [hc]
  have f41 : ((((ByteArray.mk l.toArray)[a]'(str_lt l a ha)).toNat : Int) == 41) = true := by rw [e]; simp [hc]
  have hx := str_cut l a (a + 1)
  rw [Nat.add_sub_cancel_left] at hx
  rw [← hx]
  clear hx
  clear e hc
  go_enter Tryd.func18, Tryd.ntmps18
  go_wp2
  exact bodyPost_ret (v := .tuple #[.agg #[.int .i64 1, .int .i64 a, .string ((ByteArray.mk l.toArray).extract a (a + 1)), .int .i64 0], .bool true]) (by simp [results, Tryd.results18, go_sem]) rfl ⟨rfl, ((Below.refl _ _).alloc (Nat.le_refl _) _).alloc (by simp) _⟩

set_option maxHeartbeats 2000000 in
set_option maxRecDepth 100000 in
theorem one_arrow (l : List UInt8) (a : Nat) (w : World) (ha : a < l.length) (hm : l.length ≤ 1000000) (h1 : a + 1 < l.length) (hc : (Lx.at0 l a).toNat = 45) (hn : (Lx.at0 l (a + 1)).toNat = 62) :
    Calls Tryd.prog 18 #[.string ⟨l.toArray⟩, .int .i64 a] w fun e w' => e = .returned (.tuple #[.agg #[.int .i64 5, .int .i64 a, .string ⟨((l.drop a).take 2).toArray⟩, .int .i64 0], .bool true]) ∧ Below w.heap.size w w' := by
  have e := str_at l a (str_lt l a ha)
  have e1 := str_at l (a + 1) (str_lt l (a + 1) h1)
  have q40 : (((Lx.at0 l a).toNat : Int) == 40) = false := by simp; omega
  have f40 : ((((ByteArray.mk l.toArray)[a]'(str_lt l a ha)).toNat : Int) == 40) = false := by rw [e]; simp; omega
  have q41 : (((Lx.at0 l a).toNat : Int) == 41) = false := by simp; omega
  have f41 : ((((ByteArray.mk l.toArray)[a]'(str_lt l a ha)).toNat : Int) == 41) = false := by rw [e]; simp; omega
  have q45 : (((Lx.at0 l a).toNat : Int) == 45) = true := by simp [hc]
  have f45 : ((((ByteArray.mk l.toArray)[a]'(str_lt l a ha)).toNat : Int) == 45) = true := by rw [e]; simp [hc]
  have r62 : (((Lx.at0 l (a + 1)).toNat : Int) == 62) = true := by simp [hn]
  have g62 : ((((ByteArray.mk l.toArray)[a + 1]'(str_lt l (a + 1) h1)).toNat : Int) == 62) = true := by rw [e1]; simp [hn]
  have ht : (l.drop a).take 2 = [45, 62] := by rw [two_at l a h1, u8_of _ 45 hc, u8_of _ 62 hn]
  rw [ht]
  clear e e1 hc hn ht
  go_enter Tryd.func18, Tryd.ntmps18
  go_wp2
  exact bodyPost_ret (v := .tuple #[.agg #[.int .i64 5, .int .i64 a, .string ⟨#[45, 62]⟩, .int .i64 0], .bool true]) (by simp [results, Tryd.results18, go_sem]) rfl ⟨rfl, ((Below.refl _ _).alloc (Nat.le_refl _) _).alloc (by simp) _⟩

set_option maxHeartbeats 2000000 in
set_option maxRecDepth 100000 in
theorem one_num_pos_ok (l : List UInt8) (a : Nat) (w : World) (ha : a < l.length) (hm : l.length ≤ 1000000) (hd : Lx.digitB (Lx.at0 l a) = true) (h18 : ¬ 18 < Lx.cnt Lx.digitB (l.drop a)) (hw : Lx.wordB (Lx.at0 l (a + Lx.cnt Lx.digitB (l.drop a))) = false) :
    Calls Tryd.prog 18 #[.string ⟨l.toArray⟩, .int .i64 a] w fun e w' => e = .returned (.tuple #[.agg #[.int .i64 2, .int .i64 a, .string ⟨((l.drop a).take (Lx.cnt Lx.digitB (l.drop a))).toArray⟩, .int .i64 ((Lx.natV ((l.drop a).take (Lx.cnt Lx.digitB (l.drop a))) 0 : Nat) : Int)], .bool true]) ∧ Below w.heap.size w w' := by
  have e := str_at l a (str_lt l a ha)
  have hc := (Lx.digit_bd _ hd)
  have q40 : (((Lx.at0 l a).toNat : Int) == 40) = false := by simp; omega
  have f40 : ((((ByteArray.mk l.toArray)[a]'(str_lt l a ha)).toNat : Int) == 40) = false := by rw [e]; simp; omega
  have q41 : (((Lx.at0 l a).toNat : Int) == 41) = false := by simp; omega
  have f41 : ((((ByteArray.mk l.toArray)[a]'(str_lt l a ha)).toNat : Int) == 41) = false := by rw [e]; simp; omega
  have q45 : (((Lx.at0 l a).toNat : Int) == 45) = false := by simp; omega
  have f45 : ((((ByteArray.mk l.toArray)[a]'(str_lt l a ha)).toNat : Int) == 45) = false := by rw [e]; simp; omega
  have HC := Lib.hid (number_pos_ok l a (w.alloc (.cells #[.int .i64 0, .int .i64 0, .string ⟨#[]⟩, .int .i64 0] 33) |>.alloc (.cells #[.int .i64 0, .int .i64 a, .string ((ByteArray.mk l.toArray).extract a (a + 1)), .int .i64 0] 33)) ha hm hd h18 hw)
  have hle := Lx.cnt_le Lx.digitB (l.drop a)
  rw [List.length_drop] at hle
  have hx := str_cut l a (a + (Lx.cnt Lx.digitB (l.drop a)))
  rw [Nat.add_sub_cancel_left] at hx
  rw [← hx]
  clear hx
  generalize Lx.natV ((l.drop a).take (Lx.cnt Lx.digitB (l.drop a))) 0 = V at *
  generalize hNN : Lx.cnt Lx.digitB (l.drop a) = N at *
  have HD := Lib.hid hd
  clear e hc hd hNN h18 hw
  go_enter Tryd.func18, Tryd.ntmps18
  go_wp2_with fail
  refine (in_digits _ _).mono ?_; rintro e w1 ⟨rfl, rfl⟩
  rw [str_at l a (str_lt l a ha), HD.out]
  go_wp2_with fail
  refine HC.out.mono ?_; rintro e w1 ⟨rfl, rfl⟩
  go_wp2_with fail
  exact bodyPost_ret (v := .tuple #[.agg #[.int .i64 2, .int .i64 a, .string ((ByteArray.mk l.toArray).extract a (a + N)), .int .i64 (V : Int)], .bool true]) (by simp [results, Tryd.results18, go_sem]) rfl ⟨rfl, ((Below.refl _ _).alloc (Nat.le_refl _) _).alloc (by simp) _⟩

set_option maxHeartbeats 2000000 in
set_option maxRecDepth 100000 in
theorem one_num_pos_bad (l : List UInt8) (a : Nat) (w : World) (ha : a < l.length) (hm : l.length ≤ 1000000) (hd : Lx.digitB (Lx.at0 l a) = true) (hbad : 18 < Lx.cnt Lx.digitB (l.drop a) ∨ Lx.wordB (Lx.at0 l (a + Lx.cnt Lx.digitB (l.drop a))) = true) :
    Calls Tryd.prog 18 #[.string ⟨l.toArray⟩, .int .i64 a] w fun e w' => e = .returned (.tuple #[.agg #[.int .i64 2, .int .i64 a, .string ((ByteArray.mk l.toArray).extract a a), .int .i64 0], .bool false]) ∧ Below w.heap.size w w' := by
  have e := str_at l a (str_lt l a ha)
  have hc := (Lx.digit_bd _ hd)
  have q40 : (((Lx.at0 l a).toNat : Int) == 40) = false := by simp; omega
  have f40 : ((((ByteArray.mk l.toArray)[a]'(str_lt l a ha)).toNat : Int) == 40) = false := by rw [e]; simp; omega
  have q41 : (((Lx.at0 l a).toNat : Int) == 41) = false := by simp; omega
  have f41 : ((((ByteArray.mk l.toArray)[a]'(str_lt l a ha)).toNat : Int) == 41) = false := by rw [e]; simp; omega
  have q45 : (((Lx.at0 l a).toNat : Int) == 45) = false := by simp; omega
  have f45 : ((((ByteArray.mk l.toArray)[a]'(str_lt l a ha)).toNat : Int) == 45) = false := by rw [e]; simp; omega
  have HC := Lib.hid (number_pos_bad l a (w.alloc (.cells #[.int .i64 0, .int .i64 0, .string ⟨#[]⟩, .int .i64 0] 33) |>.alloc (.cells #[.int .i64 0, .int .i64 a, .string ((ByteArray.mk l.toArray).extract a (a + 1)), .int .i64 0] 33)) ha hm hd hbad)
  have hle := Lx.cnt_le Lx.digitB (l.drop a)
  rw [List.length_drop] at hle
  generalize hNN : Lx.cnt Lx.digitB (l.drop a) = N at *
  have HD := Lib.hid hd
  clear e hc hd hNN hbad
  go_enter Tryd.func18, Tryd.ntmps18
  go_wp2_with fail
  refine (in_digits _ _).mono ?_; rintro e w1 ⟨rfl, rfl⟩
  rw [str_at l a (str_lt l a ha), HD.out]
  go_wp2_with fail
  refine HC.out.mono ?_; rintro e w1 ⟨rfl, rfl⟩
  go_wp2_with fail
  exact bodyPost_ret (v := .tuple #[.agg #[.int .i64 2, .int .i64 a, .string ((ByteArray.mk l.toArray).extract a a), .int .i64 0], .bool false]) (by simp [results, Tryd.results18, go_sem]) rfl ⟨rfl, ((Below.refl _ _).alloc (Nat.le_refl _) _).alloc (by simp) _⟩

set_option maxHeartbeats 2000000 in
set_option maxRecDepth 100000 in
theorem one_num_neg_ok (l : List UInt8) (a : Nat) (w : World) (ha : a < l.length) (hm : l.length ≤ 1000000) (h1 : a + 1 < l.length) (hc : (Lx.at0 l a).toNat = 45) (hd : Lx.digitB (Lx.at0 l (a + 1)) = true) (h18 : ¬ 18 < Lx.cnt Lx.digitB (l.drop (a + 1))) (hw : Lx.wordB (Lx.at0 l ((a + 1) + Lx.cnt Lx.digitB (l.drop (a + 1)))) = false) :
    Calls Tryd.prog 18 #[.string ⟨l.toArray⟩, .int .i64 a] w fun e w' => e = .returned (.tuple #[.agg #[.int .i64 2, .int .i64 a, .string ⟨((l.drop a).take (1 + Lx.cnt Lx.digitB (l.drop (a + 1)))).toArray⟩, .int .i64 (-((Lx.natV ((l.drop (a + 1)).take (Lx.cnt Lx.digitB (l.drop (a + 1)))) 0 : Nat) : Int))], .bool true]) ∧ Below w.heap.size w w' := by
  have e := str_at l a (str_lt l a ha)
  have e1 := str_at l (a + 1) (str_lt l (a + 1) h1)
  have hn := (Lx.digit_bd _ hd)
  have q40 : (((Lx.at0 l a).toNat : Int) == 40) = false := by simp; omega
  have f40 : ((((ByteArray.mk l.toArray)[a]'(str_lt l a ha)).toNat : Int) == 40) = false := by rw [e]; simp; omega
  have q41 : (((Lx.at0 l a).toNat : Int) == 41) = false := by simp; omega
  have f41 : ((((ByteArray.mk l.toArray)[a]'(str_lt l a ha)).toNat : Int) == 41) = false := by rw [e]; simp; omega
  have q45 : (((Lx.at0 l a).toNat : Int) == 45) = true := by simp [hc]
  have f45 : ((((ByteArray.mk l.toArray)[a]'(str_lt l a ha)).toNat : Int) == 45) = true := by rw [e]; simp [hc]
  have r62 : (((Lx.at0 l (a + 1)).toNat : Int) == 62) = false := by simp; omega
  have g62 : ((((ByteArray.mk l.toArray)[a + 1]'(str_lt l (a + 1) h1)).toNat : Int) == 62) = false := by rw [e1]; simp; omega
  have fd : Lx.digitB (Lx.at0 l a) = false := by rw [u8_of _ 45 hc]; rfl
  have HC := Lib.hid (number_neg_ok l a (w.alloc (.cells #[.int .i64 0, .int .i64 0, .string ⟨#[]⟩, .int .i64 0] 33) |>.alloc (.cells #[.int .i64 0, .int .i64 a, .string ((ByteArray.mk l.toArray).extract a (a + 1)), .int .i64 0] 33)) ha hm hc hd h18 hw)
  have hle := Lx.cnt_le Lx.digitB (l.drop (a + 1))
  rw [List.length_drop] at hle
  have hx := str_cut l a (a + (1 + Lx.cnt Lx.digitB (l.drop (a + 1))))
  rw [Nat.add_sub_cancel_left] at hx
  rw [← hx]
  clear hx
  generalize Lx.natV ((l.drop (a + 1)).take (Lx.cnt Lx.digitB (l.drop (a + 1)))) 0 = V at *
  generalize hNN : Lx.cnt Lx.digitB (l.drop (a + 1)) = N at *
  have HD := Lib.hid hd
  clear e e1 hn hc hd hNN h18 hw
  have FD := Lib.hid fd
  clear fd
  go_enter Tryd.func18, Tryd.ntmps18
  go_wp2_with fail
  refine (in_digits _ _).mono ?_; rintro e w1 ⟨rfl, rfl⟩
  rw [str_at l a (str_lt l a ha), FD.out]
  go_wp2_with fail
  refine (in_digits _ _).mono ?_; rintro e w1 ⟨rfl, rfl⟩
  rw [str_at l (a + 1) (str_lt l (a + 1) h1), HD.out]
  go_wp2_with fail
  refine HC.out.mono ?_; rintro e w1 ⟨rfl, rfl⟩
  go_wp2_with fail
  exact bodyPost_ret (v := .tuple #[.agg #[.int .i64 2, .int .i64 a, .string ((ByteArray.mk l.toArray).extract a (a + (1 + N))), .int .i64 (-(V : Int))], .bool true]) (by simp [results, Tryd.results18, go_sem]) rfl ⟨rfl, ((Below.refl _ _).alloc (Nat.le_refl _) _).alloc (by simp) _⟩

set_option maxHeartbeats 2000000 in
set_option maxRecDepth 100000 in
theorem one_num_neg_bad (l : List UInt8) (a : Nat) (w : World) (ha : a < l.length) (hm : l.length ≤ 1000000) (h1 : a + 1 < l.length) (hc : (Lx.at0 l a).toNat = 45) (hd : Lx.digitB (Lx.at0 l (a + 1)) = true) (hbad : 18 < Lx.cnt Lx.digitB (l.drop (a + 1)) ∨ Lx.wordB (Lx.at0 l ((a + 1) + Lx.cnt Lx.digitB (l.drop (a + 1)))) = true) :
    Calls Tryd.prog 18 #[.string ⟨l.toArray⟩, .int .i64 a] w fun e w' => e = .returned (.tuple #[.agg #[.int .i64 2, .int .i64 a, .string ((ByteArray.mk l.toArray).extract a a), .int .i64 0], .bool false]) ∧ Below w.heap.size w w' := by
  have e := str_at l a (str_lt l a ha)
  have e1 := str_at l (a + 1) (str_lt l (a + 1) h1)
  have hn := (Lx.digit_bd _ hd)
  have q40 : (((Lx.at0 l a).toNat : Int) == 40) = false := by simp; omega
  have f40 : ((((ByteArray.mk l.toArray)[a]'(str_lt l a ha)).toNat : Int) == 40) = false := by rw [e]; simp; omega
  have q41 : (((Lx.at0 l a).toNat : Int) == 41) = false := by simp; omega
  have f41 : ((((ByteArray.mk l.toArray)[a]'(str_lt l a ha)).toNat : Int) == 41) = false := by rw [e]; simp; omega
  have q45 : (((Lx.at0 l a).toNat : Int) == 45) = true := by simp [hc]
  have f45 : ((((ByteArray.mk l.toArray)[a]'(str_lt l a ha)).toNat : Int) == 45) = true := by rw [e]; simp [hc]
  have r62 : (((Lx.at0 l (a + 1)).toNat : Int) == 62) = false := by simp; omega
  have g62 : ((((ByteArray.mk l.toArray)[a + 1]'(str_lt l (a + 1) h1)).toNat : Int) == 62) = false := by rw [e1]; simp; omega
  have fd : Lx.digitB (Lx.at0 l a) = false := by rw [u8_of _ 45 hc]; rfl
  have HC := Lib.hid (number_neg_bad l a (w.alloc (.cells #[.int .i64 0, .int .i64 0, .string ⟨#[]⟩, .int .i64 0] 33) |>.alloc (.cells #[.int .i64 0, .int .i64 a, .string ((ByteArray.mk l.toArray).extract a (a + 1)), .int .i64 0] 33)) ha hm hc hd hbad)
  have hle := Lx.cnt_le Lx.digitB (l.drop (a + 1))
  rw [List.length_drop] at hle
  generalize hNN : Lx.cnt Lx.digitB (l.drop (a + 1)) = N at *
  have HD := Lib.hid hd
  clear e e1 hn hc hd hNN hbad
  have FD := Lib.hid fd
  clear fd
  go_enter Tryd.func18, Tryd.ntmps18
  go_wp2_with fail
  refine (in_digits _ _).mono ?_; rintro e w1 ⟨rfl, rfl⟩
  rw [str_at l a (str_lt l a ha), FD.out]
  go_wp2_with fail
  refine (in_digits _ _).mono ?_; rintro e w1 ⟨rfl, rfl⟩
  rw [str_at l (a + 1) (str_lt l (a + 1) h1), HD.out]
  go_wp2_with fail
  refine HC.out.mono ?_; rintro e w1 ⟨rfl, rfl⟩
  go_wp2_with fail
  exact bodyPost_ret (v := .tuple #[.agg #[.int .i64 2, .int .i64 a, .string ((ByteArray.mk l.toArray).extract a a), .int .i64 0], .bool false]) (by simp [results, Tryd.results18, go_sem]) rfl ⟨rfl, ((Below.refl _ _).alloc (Nat.le_refl _) _).alloc (by simp) _⟩

set_option maxHeartbeats 2000000 in
set_option maxRecDepth 100000 in
theorem one_small (l : List UInt8) (a : Nat) (w : World) (ha : a < l.length) (hm : l.length ≤ 1000000) (hb : Lx.smallB (Lx.at0 l a) = true) :
    Calls Tryd.prog 18 #[.string ⟨l.toArray⟩, .int .i64 a] w fun e w' => e = .returned (.tuple #[.agg #[.int .i64 3, .int .i64 a, .string ⟨((l.drop a).take (Lx.cnt Lx.wordB (l.drop a))).toArray⟩, .int .i64 0], .bool true]) ∧ Below w.heap.size w w' := by
  have e := str_at l a (str_lt l a ha)
  have hc := Lx.small_not _ hb
  have hdg := hc.1
  have hr : 97 ≤ (Lx.at0 l a).toNat ∧ (Lx.at0 l a).toNat ≤ 122 := by simpa [Lx.smallB] using hb
  have q40 : (((Lx.at0 l a).toNat : Int) == 40) = false := by simp; omega
  have f40 : ((((ByteArray.mk l.toArray)[a]'(str_lt l a ha)).toNat : Int) == 40) = false := by rw [e]; simp; omega
  have q41 : (((Lx.at0 l a).toNat : Int) == 41) = false := by simp; omega
  have f41 : ((((ByteArray.mk l.toArray)[a]'(str_lt l a ha)).toNat : Int) == 41) = false := by rw [e]; simp; omega
  have q45 : (((Lx.at0 l a).toNat : Int) == 45) = false := by simp; omega
  have f45 : ((((ByteArray.mk l.toArray)[a]'(str_lt l a ha)).toNat : Int) == 45) = false := by rw [e]; simp; omega
  have htk := take_any l insideL a
  have hfun : (fun c => memB c insideL) = Lx.wordB := funext mem_inside
  have HT := fun w => Lib.hid (htk w (by omega) hm (by decide) (by decide))
  rw [hfun] at HT
  clear htk hfun
  have hle := Lx.cnt_le Lx.wordB (l.drop a)
  rw [List.length_drop] at hle
  have hx := str_cut l a (a + (Lx.cnt Lx.wordB (l.drop a)))
  rw [Nat.add_sub_cancel_left] at hx
  rw [← hx]
  clear hx
  generalize hNN : Lx.cnt Lx.wordB (l.drop a) = N at *
  clear hNN
  have HDG := Lib.hid hdg; have HBB := Lib.hid hb
  clear e hc hdg hb hr
  go_enter Tryd.func18, Tryd.ntmps18
  go_wp2_with fail
  refine (in_digits _ _).mono ?_; rintro e w1 ⟨rfl, rfl⟩
  rw [str_at l a (str_lt l a ha), HDG.out]
  go_wp2_with fail
  refine (in_small _ _).mono ?_; rintro e w1 ⟨rfl, rfl⟩
  rw [HBB.out]
  go_wp2_with fail
  have s4 : (a : Int) + (N : Int) ≤ (l.length : Int) := by omega
  have s2 : (0 : Int) ≤ (a : Int) + (N : Int) := by omega
  have s6 : (a : Int) ≤ (a : Int) + (N : Int) := by omega
  have s3 : ((a : Int) + (N : Int)).toNat = a + N := by omega
  have s1 : IntKind.i64.wrap ((a : Int) + (N : Int)) = (a : Int) + (N : Int) := IntWalk.i64_in _ (by omega)
  clear hle
  go_region_with (go_at_call 30; refine ((HT _).out).mono ?_; rintro e w1 ⟨rfl, rfl⟩)
  clear s1 s2 s3 s6 s4
  go_wp2
  exact bodyPost_ret (v := .tuple #[.agg #[.int .i64 3, .int .i64 a, .string ((ByteArray.mk l.toArray).extract a (a + N)), .int .i64 0], .bool true]) (by simp [results, Tryd.results18, go_sem]) rfl ⟨rfl, (((Below.refl _ _).alloc (Nat.le_refl _) _).alloc (by simp) _).drew⟩

set_option maxHeartbeats 2000000 in
set_option maxRecDepth 100000 in
theorem one_great (l : List UInt8) (a : Nat) (w : World) (ha : a < l.length) (hm : l.length ≤ 1000000) (hb : Lx.greatB (Lx.at0 l a) = true) :
    Calls Tryd.prog 18 #[.string ⟨l.toArray⟩, .int .i64 a] w fun e w' => e = .returned (.tuple #[.agg #[.int .i64 4, .int .i64 a, .string ⟨((l.drop a).take (Lx.cnt Lx.wordB (l.drop a))).toArray⟩, .int .i64 0], .bool true]) ∧ Below w.heap.size w w' := by
  have e := str_at l a (str_lt l a ha)
  have hc := Lx.great_not _ hb
  have hdg := hc.1
  have hr : 65 ≤ (Lx.at0 l a).toNat ∧ (Lx.at0 l a).toNat ≤ 90 := by simpa [Lx.greatB] using hb
  have q40 : (((Lx.at0 l a).toNat : Int) == 40) = false := by simp; omega
  have f40 : ((((ByteArray.mk l.toArray)[a]'(str_lt l a ha)).toNat : Int) == 40) = false := by rw [e]; simp; omega
  have q41 : (((Lx.at0 l a).toNat : Int) == 41) = false := by simp; omega
  have f41 : ((((ByteArray.mk l.toArray)[a]'(str_lt l a ha)).toNat : Int) == 41) = false := by rw [e]; simp; omega
  have q45 : (((Lx.at0 l a).toNat : Int) == 45) = false := by simp; omega
  have f45 : ((((ByteArray.mk l.toArray)[a]'(str_lt l a ha)).toNat : Int) == 45) = false := by rw [e]; simp; omega
  have htk := take_any l insideL a
  have hfun : (fun c => memB c insideL) = Lx.wordB := funext mem_inside
  have HT := fun w => Lib.hid (htk w (by omega) hm (by decide) (by decide))
  rw [hfun] at HT
  clear htk hfun
  have hle := Lx.cnt_le Lx.wordB (l.drop a)
  rw [List.length_drop] at hle
  have hx := str_cut l a (a + (Lx.cnt Lx.wordB (l.drop a)))
  rw [Nat.add_sub_cancel_left] at hx
  rw [← hx]
  clear hx
  generalize hNN : Lx.cnt Lx.wordB (l.drop a) = N at *
  clear hNN
  have HDG := Lib.hid hdg; have HBB := Lib.hid hb
  have HSM := Lib.hid hc.2.1
  clear e hc hdg hb hr
  go_enter Tryd.func18, Tryd.ntmps18
  go_wp2_with fail
  refine (in_digits _ _).mono ?_; rintro e w1 ⟨rfl, rfl⟩
  rw [str_at l a (str_lt l a ha), HDG.out]
  go_wp2_with fail
  refine (in_small _ _).mono ?_; rintro e w1 ⟨rfl, rfl⟩
  rw [HSM.out]
  go_wp2_with fail
  refine (in_great _ _).mono ?_; rintro e w1 ⟨rfl, rfl⟩
  rw [HBB.out]
  go_wp2_with fail
  have s4 : (a : Int) + (N : Int) ≤ (l.length : Int) := by omega
  have s2 : (0 : Int) ≤ (a : Int) + (N : Int) := by omega
  have s6 : (a : Int) ≤ (a : Int) + (N : Int) := by omega
  have s3 : ((a : Int) + (N : Int)).toNat = a + N := by omega
  have s1 : IntKind.i64.wrap ((a : Int) + (N : Int)) = (a : Int) + (N : Int) := IntWalk.i64_in _ (by omega)
  clear hle
  go_region_with (go_at_call 30; refine ((HT _).out).mono ?_; rintro e w1 ⟨rfl, rfl⟩)
  clear s1 s2 s3 s6 s4
  go_wp2
  exact bodyPost_ret (v := .tuple #[.agg #[.int .i64 4, .int .i64 a, .string ((ByteArray.mk l.toArray).extract a (a + N)), .int .i64 0], .bool true]) (by simp [results, Tryd.results18, go_sem]) rfl ⟨rfl, (((Below.refl _ _).alloc (Nat.le_refl _) _).alloc (by simp) _).drew⟩

set_option maxHeartbeats 2000000 in
set_option maxRecDepth 100000 in
theorem one_sym (l : List UInt8) (a : Nat) (w : World) (ha : a < l.length) (hm : l.length ≤ 1000000) (hs : memB (Lx.at0 l a) symL = true) (h45 : (Lx.at0 l a).toNat ≠ 45) :
    Calls Tryd.prog 18 #[.string ⟨l.toArray⟩, .int .i64 a] w fun e w' => e = .returned (.tuple #[.agg #[.int .i64 5, .int .i64 a, .string ⟨((l.drop a).take 1).toArray⟩, .int .i64 0], .bool true]) ∧ Below w.heap.size w w' := by
  have e := str_at l a (str_lt l a ha)
  have hc := (mem_sym _).1 hs
  have HSY := Lib.hid hs
  have q40 : (((Lx.at0 l a).toNat : Int) == 40) = false := by simp; omega
  have f40 : ((((ByteArray.mk l.toArray)[a]'(str_lt l a ha)).toNat : Int) == 40) = false := by rw [e]; simp; omega
  have q41 : (((Lx.at0 l a).toNat : Int) == 41) = false := by simp; omega
  have f41 : ((((ByteArray.mk l.toArray)[a]'(str_lt l a ha)).toNat : Int) == 41) = false := by rw [e]; simp; omega
  have q45 : (((Lx.at0 l a).toNat : Int) == 45) = false := by simp; omega
  have f45 : ((((ByteArray.mk l.toArray)[a]'(str_lt l a ha)).toNat : Int) == 45) = false := by rw [e]; simp; omega
  have hdg : Lx.digitB (Lx.at0 l a) = false := by unfold Lx.digitB; simp; omega
  have hsl : Lx.smallB (Lx.at0 l a) = false := by unfold Lx.smallB; simp; omega
  have hgl : Lx.greatB (Lx.at0 l a) = false := by unfold Lx.greatB; simp; omega
  have HDG := Lib.hid hdg; have HSL := Lib.hid hsl; have HGL := Lib.hid hgl
  clear hdg hsl hgl
  clear hs
  have hx := str_cut l a (a + 1)
  rw [Nat.add_sub_cancel_left] at hx
  rw [← hx]
  clear hx
  clear e hc
  go_enter Tryd.func18, Tryd.ntmps18
  go_wp2_with fail
  refine (in_digits _ _).mono ?_; rintro e w1 ⟨rfl, rfl⟩
  rw [str_at l a (str_lt l a ha), HDG.out]
  go_wp2_with fail
  refine (in_small _ _).mono ?_; rintro e w1 ⟨rfl, rfl⟩
  rw [HSL.out]
  go_wp2_with fail
  refine (in_great _ _).mono ?_; rintro e w1 ⟨rfl, rfl⟩
  rw [HGL.out]
  go_wp2_with fail
  refine (in_sym _ _).mono ?_; rintro e w1 ⟨rfl, rfl⟩
  rw [HSY.out]
  go_wp2_with fail
  exact bodyPost_ret (v := .tuple #[.agg #[.int .i64 5, .int .i64 a, .string ((ByteArray.mk l.toArray).extract a (a + 1)), .int .i64 0], .bool true]) (by simp [results, Tryd.results18, go_sem]) rfl ⟨rfl, ((Below.refl _ _).alloc (Nat.le_refl _) _).alloc (by simp) _⟩

set_option maxHeartbeats 2000000 in
set_option maxRecDepth 100000 in
theorem one_dash_end (l : List UInt8) (a : Nat) (w : World) (ha : a < l.length) (hm : l.length ≤ 1000000) (hc : (Lx.at0 l a).toNat = 45) (h1 : ¬ a + 1 < l.length) :
    Calls Tryd.prog 18 #[.string ⟨l.toArray⟩, .int .i64 a] w fun e w' => e = .returned (.tuple #[.agg #[.int .i64 5, .int .i64 a, .string ⟨((l.drop a).take 1).toArray⟩, .int .i64 0], .bool true]) ∧ Below w.heap.size w w' := by
  have e := str_at l a (str_lt l a ha)
  have hs := (mem_sym (Lx.at0 l a)).2 (by omega)
  have HSY := Lib.hid hs
  have q40 : (((Lx.at0 l a).toNat : Int) == 40) = false := by simp; omega
  have f40 : ((((ByteArray.mk l.toArray)[a]'(str_lt l a ha)).toNat : Int) == 40) = false := by rw [e]; simp; omega
  have q41 : (((Lx.at0 l a).toNat : Int) == 41) = false := by simp; omega
  have f41 : ((((ByteArray.mk l.toArray)[a]'(str_lt l a ha)).toNat : Int) == 41) = false := by rw [e]; simp; omega
  have q45 : (((Lx.at0 l a).toNat : Int) == 45) = true := by simp [hc]
  have f45 : ((((ByteArray.mk l.toArray)[a]'(str_lt l a ha)).toNat : Int) == 45) = true := by rw [e]; simp [hc]
  have hdg : Lx.digitB (Lx.at0 l a) = false := by unfold Lx.digitB; simp; omega
  have hsl : Lx.smallB (Lx.at0 l a) = false := by unfold Lx.smallB; simp; omega
  have hgl : Lx.greatB (Lx.at0 l a) = false := by unfold Lx.greatB; simp; omega
  have HDG := Lib.hid hdg; have HSL := Lib.hid hsl; have HGL := Lib.hid hgl
  clear hdg hsl hgl
  clear hs
  have h1' : ¬ ((a : Int) + 1 < (l.length : Int)) := by omega
  have hx := str_cut l a (a + 1)
  rw [Nat.add_sub_cancel_left] at hx
  rw [← hx]
  clear hx
  clear e hc
  go_enter Tryd.func18, Tryd.ntmps18
  go_wp2_with fail
  refine (in_digits _ _).mono ?_; rintro e w1 ⟨rfl, rfl⟩
  rw [str_at l a (str_lt l a ha), HDG.out]
  go_wp2_with fail
  refine (in_small _ _).mono ?_; rintro e w1 ⟨rfl, rfl⟩
  rw [HSL.out]
  go_wp2_with fail
  refine (in_great _ _).mono ?_; rintro e w1 ⟨rfl, rfl⟩
  rw [HGL.out]
  go_wp2_with fail
  refine (in_sym _ _).mono ?_; rintro e w1 ⟨rfl, rfl⟩
  rw [HSY.out]
  go_wp2_with fail
  exact bodyPost_ret (v := .tuple #[.agg #[.int .i64 5, .int .i64 a, .string ((ByteArray.mk l.toArray).extract a (a + 1)), .int .i64 0], .bool true]) (by simp [results, Tryd.results18, go_sem]) rfl ⟨rfl, ((Below.refl _ _).alloc (Nat.le_refl _) _).alloc (by simp) _⟩

set_option maxHeartbeats 2000000 in
set_option maxRecDepth 100000 in
theorem one_dash_in (l : List UInt8) (a : Nat) (w : World) (ha : a < l.length) (hm : l.length ≤ 1000000) (hc : (Lx.at0 l a).toNat = 45) (h1 : a + 1 < l.length) (hn : (Lx.at0 l (a + 1)).toNat ≠ 62) (hnd : Lx.digitB (Lx.at0 l (a + 1)) = false) :
    Calls Tryd.prog 18 #[.string ⟨l.toArray⟩, .int .i64 a] w fun e w' => e = .returned (.tuple #[.agg #[.int .i64 5, .int .i64 a, .string ⟨((l.drop a).take 1).toArray⟩, .int .i64 0], .bool true]) ∧ Below w.heap.size w w' := by
  have e := str_at l a (str_lt l a ha)
  have e1 := str_at l (a + 1) (str_lt l (a + 1) h1)
  have hs := (mem_sym (Lx.at0 l a)).2 (by omega)
  have HSY := Lib.hid hs; have HNX := Lib.hid hnd
  have q40 : (((Lx.at0 l a).toNat : Int) == 40) = false := by simp; omega
  have f40 : ((((ByteArray.mk l.toArray)[a]'(str_lt l a ha)).toNat : Int) == 40) = false := by rw [e]; simp; omega
  have q41 : (((Lx.at0 l a).toNat : Int) == 41) = false := by simp; omega
  have f41 : ((((ByteArray.mk l.toArray)[a]'(str_lt l a ha)).toNat : Int) == 41) = false := by rw [e]; simp; omega
  have q45 : (((Lx.at0 l a).toNat : Int) == 45) = true := by simp [hc]
  have f45 : ((((ByteArray.mk l.toArray)[a]'(str_lt l a ha)).toNat : Int) == 45) = true := by rw [e]; simp [hc]
  have r62 : (((Lx.at0 l (a + 1)).toNat : Int) == 62) = false := by simp; omega
  have g62 : ((((ByteArray.mk l.toArray)[a + 1]'(str_lt l (a + 1) h1)).toNat : Int) == 62) = false := by rw [e1]; simp; omega
  have hdg : Lx.digitB (Lx.at0 l a) = false := by unfold Lx.digitB; simp; omega
  have hsl : Lx.smallB (Lx.at0 l a) = false := by unfold Lx.smallB; simp; omega
  have hgl : Lx.greatB (Lx.at0 l a) = false := by unfold Lx.greatB; simp; omega
  have HDG := Lib.hid hdg; have HSL := Lib.hid hsl; have HGL := Lib.hid hgl
  clear hdg hsl hgl
  clear hs hn e1 hnd
  have hx := str_cut l a (a + 1)
  rw [Nat.add_sub_cancel_left] at hx
  rw [← hx]
  clear hx
  clear e hc
  go_enter Tryd.func18, Tryd.ntmps18
  go_wp2_with fail
  refine (in_digits _ _).mono ?_; rintro e w1 ⟨rfl, rfl⟩
  rw [str_at l a (str_lt l a ha), HDG.out]
  go_wp2_with fail
  refine (in_digits _ _).mono ?_; rintro e w1 ⟨rfl, rfl⟩
  rw [str_at l (a + 1) (str_lt l (a + 1) h1), HNX.out]
  go_wp2_with fail
  refine (in_small _ _).mono ?_; rintro e w1 ⟨rfl, rfl⟩
  rw [HSL.out]
  go_wp2_with fail
  refine (in_great _ _).mono ?_; rintro e w1 ⟨rfl, rfl⟩
  rw [HGL.out]
  go_wp2_with fail
  refine (in_sym _ _).mono ?_; rintro e w1 ⟨rfl, rfl⟩
  rw [HSY.out]
  go_wp2_with fail
  exact bodyPost_ret (v := .tuple #[.agg #[.int .i64 5, .int .i64 a, .string ((ByteArray.mk l.toArray).extract a (a + 1)), .int .i64 0], .bool true]) (by simp [results, Tryd.results18, go_sem]) rfl ⟨rfl, ((Below.refl _ _).alloc (Nat.le_refl _) _).alloc (by simp) _⟩

set_option maxHeartbeats 2000000 in
set_option maxRecDepth 100000 in
theorem one_none (l : List UInt8) (a : Nat) (w : World) (ha : a < l.length) (hm : l.length ≤ 1000000) (h40 : (Lx.at0 l a).toNat ≠ 40) (h41 : (Lx.at0 l a).toNat ≠ 41) (h45 : (Lx.at0 l a).toNat ≠ 45) (hd : Lx.digitB (Lx.at0 l a) = false) (hsm : Lx.smallB (Lx.at0 l a) = false) (hgr : Lx.greatB (Lx.at0 l a) = false) (hs : memB (Lx.at0 l a) symL = false) :
    Calls Tryd.prog 18 #[.string ⟨l.toArray⟩, .int .i64 a] w fun e w' => e = .returned (.tuple #[.agg #[.int .i64 0, .int .i64 a, .string ⟨((l.drop a).take 1).toArray⟩, .int .i64 0], .bool false]) ∧ Below w.heap.size w w' := by
  have e := str_at l a (str_lt l a ha)
  have HDG := Lib.hid hd; have HSL := Lib.hid hsm; have HGL := Lib.hid hgr; have HSY := Lib.hid hs
  have hc := h40
  have f40 : ((((ByteArray.mk l.toArray)[a]'(str_lt l a ha)).toNat : Int) == 40) = false := by rw [e]; simp; omega
  have q41 : (((Lx.at0 l a).toNat : Int) == 41) = false := by simp; omega
  have f41 : ((((ByteArray.mk l.toArray)[a]'(str_lt l a ha)).toNat : Int) == 41) = false := by rw [e]; simp; omega
  have q45 : (((Lx.at0 l a).toNat : Int) == 45) = false := by simp; omega
  have f45 : ((((ByteArray.mk l.toArray)[a]'(str_lt l a ha)).toNat : Int) == 45) = false := by rw [e]; simp; omega
  clear hd hsm hgr hs
  have hx := str_cut l a (a + 1)
  rw [Nat.add_sub_cancel_left] at hx
  rw [← hx]
  clear hx
  clear e hc
  go_enter Tryd.func18, Tryd.ntmps18
  go_wp2_with fail
  refine (in_digits _ _).mono ?_; rintro e w1 ⟨rfl, rfl⟩
  rw [str_at l a (str_lt l a ha), HDG.out]
  go_wp2_with fail
  refine (in_small _ _).mono ?_; rintro e w1 ⟨rfl, rfl⟩
  rw [HSL.out]
  go_wp2_with fail
  refine (in_great _ _).mono ?_; rintro e w1 ⟨rfl, rfl⟩
  rw [HGL.out]
  go_wp2_with fail
  refine (in_sym _ _).mono ?_; rintro e w1 ⟨rfl, rfl⟩
  rw [HSY.out]
  go_wp2_with fail
  exact bodyPost_ret (v := .tuple #[.agg #[.int .i64 0, .int .i64 a, .string ((ByteArray.mk l.toArray).extract a (a + 1)), .int .i64 0], .bool false]) (by simp [results, Tryd.results18, go_sem]) rfl ⟨rfl, ((Below.refl _ _).alloc (Nat.le_refl _) _).alloc (by simp) _⟩

end Go.Proofs.YtcnpbbhkdogdeaaDoor
