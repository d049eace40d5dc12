/-
  The document's answers, layer 1: In, Take, Skip.
-/
import Derived.Test.YtcnpbbhkdogdeaaDoorOwn
namespace Go.Proofs.YtcnpbbhkdogdeaaDoor
open Go Go.RowKit

theorem Lx.at0_in (l : List UInt8) (k : Nat) (h : k < l.length) : Lx.at0 l k ∈ l := by
  unfold Lx.at0; rw [List.getD_eq_getElem?_getD, List.getElem?_eq_getElem h]; exact List.getElem_mem h

def memB (c : UInt8) (l : List UInt8) : Bool := l.any fun x => x.toNat == c.toNat
theorem memB_at (c : UInt8) (l : List UInt8) (j : Nat) (hj : j < l.length) (h : (Lx.at0 l j).toNat = c.toNat) : memB c l = true := by
  rw [memB, List.any_eq_true]; exact ⟨Lx.at0 l j, Lx.at0_in l j hj, by simp [h]⟩
theorem memB_none (c : UInt8) (l : List UInt8) (h : ∀ j, j < l.length → (Lx.at0 l j).toNat ≠ c.toNat) : memB c l = false := by
  rw [memB, List.any_eq_false]
  intro x hx
  obtain ⟨j, hj, rfl⟩ := List.getElem_of_mem hx
  have := h j hj
  simp [Lx.at0, List.getD_eq_getElem?_getD, List.getElem?_eq_getElem hj] at this
  simpa using this

theorem str_at (l : List UInt8) (k : Nat) (h : k < (ByteArray.mk l.toArray).size) : (ByteArray.mk l.toArray)[k]'h = Lx.at0 l k := by
  have h' : k < l.length := by simpa [ByteArray.size] using h
  unfold Lx.at0
  rw [List.getD_eq_getElem?_getD, List.getElem?_eq_getElem h']
  rfl
theorem str_lt (l : List UInt8) (k : Nat) (h : k < l.length) : k < (ByteArray.mk l.toArray).size := by simpa [ByteArray.size] using h

set_option maxHeartbeats 400000 in
theorem in_any (c : UInt8) (l : List UInt8) (w : World) (hm : l.length ≤ 1000000) :
    Calls Tryd.prog 28 #[.int .u8 c.toNat, .string ⟨l.toArray⟩] w fun e w' => e = .returned (.bool (memB c l)) ∧ w = w' := by
  go_enter Tryd.func28, Tryd.ntmps28
  go_wp2_with fail
  go_loop [5] (fun i => ∃ k : Nat, k ≤ l.length ∧ i = .int .i64 k ∧ Hid (∀ j, j < k → (Lx.at0 l j).toNat ≠ c.toNat)) (fun i => l.length - (intOf i).toNat)
  case atStart => exact ⟨0, by omega, rfl, fun j h => absurd h (by omega)⟩
  case round =>
    obtain ⟨k, hk, rfl, hno⟩ := hrel
    by_cases hlt : k < l.length
    · have e := str_at l k (str_lt l k hlt)
      by_cases h : (Lx.at0 l k).toNat = c.toNat
      · have h1 : ((((ByteArray.mk l.toArray)[k]'(str_lt l k hlt)).toNat : Int) == (c.toNat : Int)) = true := by rw [e]; simp [h]
        have HM := Lib.hid (memB_at c l k hlt h)
        clear e h
        go_wp2
        go_ret
        exact ⟨ret_bool HM.out.symm, rfl⟩
      · have h1 : ((((ByteArray.mk l.toArray)[k]'(str_lt l k hlt)).toNat : Int) == (c.toNat : Int)) = false := by rw [e]; simp; omega
        have HN : Hid (∀ j, j < k + 1 → (Lx.at0 l j).toNat ≠ c.toNat) := fun j hj => by
          by_cases hjk : j = k
          · subst hjk; exact h
          · exact hno.out j (by omega)
        clear e h
        go_wp2
        go_round
        case rel => exact ⟨k + 1, by omega, by go_num, HN⟩
        case measure => simp [intOf]; omega
    · obtain rfl : k = l.length := by omega
      have HM := Lib.hid (memB_none c l hno.out)
      clear hno
      go_wp2
      go_ret
      exact ⟨ret_bool HM.out.symm, rfl⟩

def digitsL : List UInt8 := [48, 49, 50, 51, 52, 53, 54, 55, 56, 57]
def smallL : List UInt8 := [97, 98, 99, 100, 101, 102, 103, 104, 105, 106, 107, 108, 109, 110, 111, 112, 113, 114, 115, 116, 117, 118, 119, 120, 121, 122]
def greatL : List UInt8 := [65, 66, 67, 68, 69, 70, 71, 72, 73, 74, 75, 76, 77, 78, 79, 80, 81, 82, 83, 84, 85, 86, 87, 88, 89, 90]
def insideL : List UInt8 := [97, 98, 99, 100, 101, 102, 103, 104, 105, 106, 107, 108, 109, 110, 111, 112, 113, 114, 115, 116, 117, 118, 119, 120, 121, 122, 65, 66, 67, 68, 69, 70, 71, 72, 73, 74, 75, 76, 77, 78, 79, 80, 81, 82, 83, 84, 85, 86, 87, 88, 89, 90, 48, 49, 50, 51, 52, 53, 54, 55, 56, 57, 39]
def blankL : List UInt8 := [32, 10, 9, 13]
def symL : List UInt8 := [95, 43, 45, 42, 47, 37, 61, 60]
theorem mem_digits (c : UInt8) : memB c digitsL = Lx.digitB c := by rw [Bool.eq_iff_iff]; simp [memB, digitsL, Lx.digitB]; omega
theorem mem_small (c : UInt8) : memB c smallL = Lx.smallB c := by rw [Bool.eq_iff_iff]; simp [memB, smallL, Lx.smallB]; omega
theorem mem_great (c : UInt8) : memB c greatL = Lx.greatB c := by rw [Bool.eq_iff_iff]; simp [memB, greatL, Lx.greatB]; omega
theorem mem_blank (c : UInt8) : memB c blankL = Lx.blankB c := by rw [Bool.eq_iff_iff]; simp [memB, blankL, Lx.blankB]; omega
theorem mem_inside (c : UInt8) : memB c insideL = Lx.wordB c := by
  have e : insideL = smallL ++ (greatL ++ (digitsL ++ [39])) := rfl
  have h39 : memB c [39] = (c.toNat == 39) := by rw [Bool.eq_iff_iff]; simp [memB]; omega
  have ha : ∀ a b : List UInt8, memB c (a ++ b) = (memB c a || memB c b) := fun a b => by simp [memB]
  rw [e, ha, ha, ha, mem_small, mem_great, mem_digits, h39]
  unfold Lx.wordB
  cases Lx.smallB c <;> cases Lx.greatB c <;> cases Lx.digitB c <;> simp

/-- At the document's sets. -/
theorem in_digits (c : UInt8) (w : World) : Calls Tryd.prog 28 #[.int .u8 c.toNat, .string ⟨#[48, 49, 50, 51, 52, 53, 54, 55, 56, 57]⟩] w fun e w' => e = .returned (.bool (Lx.digitB c)) ∧ w = w' := by
  rw [← mem_digits]; exact in_any c digitsL w (by decide)
theorem in_small (c : UInt8) (w : World) : Calls Tryd.prog 28 #[.int .u8 c.toNat, .string ⟨smallL.toArray⟩] w fun e w' => e = .returned (.bool (Lx.smallB c)) ∧ w = w' := by
  rw [← mem_small]; exact in_any c smallL w (by decide)
theorem in_great (c : UInt8) (w : World) : Calls Tryd.prog 28 #[.int .u8 c.toNat, .string ⟨greatL.toArray⟩] w fun e w' => e = .returned (.bool (Lx.greatB c)) ∧ w = w' := by
  rw [← mem_great]; exact in_any c greatL w (by decide)
theorem in_inside (c : UInt8) (w : World) : Calls Tryd.prog 28 #[.int .u8 c.toNat, .string ⟨insideL.toArray⟩] w fun e w' => e = .returned (.bool (Lx.wordB c)) ∧ w = w' := by
  rw [← mem_inside]; exact in_any c insideL w (by decide)
theorem in_blank (c : UInt8) (w : World) : Calls Tryd.prog 28 #[.int .u8 c.toNat, .string ⟨#[32, 10, 9, 13]⟩] w fun e w' => e = .returned (.bool (Lx.blankB c)) ∧ w = w' := by
  rw [← mem_blank]; exact in_any c blankL w (by decide)
theorem in_sym (c : UInt8) (w : World) : Calls Tryd.prog 28 #[.int .u8 c.toNat, .string ⟨symL.toArray⟩] w fun e w' => e = .returned (.bool (memB c symL)) ∧ w = w' :=
  in_any c symL w (by decide)
end Go.Proofs.YtcnpbbhkdogdeaaDoor
