/-
  Several texts in one: PJoin.
-/
import Derived.Test.YtdgmijnoohplgaaGreatDoorGRead
namespace Go.Proofs.YtdgmijnoohplgaaGreatDoor
open Go Go.RowKit
set_option linter.unusedVariables false
set_option linter.unusedSimpArgs false

def glue : List (List UInt8) → List UInt8
  | [] => []
  | x :: r => x ++ r.flatMap fun y => 32 :: y
theorem glue_snoc (l : List (List UInt8)) (x : List UInt8) (h : l ≠ []) : glue (l ++ [x]) = glue l ++ 32 :: x := by
  cases l with
  | nil => exact absurd rfl h
  | cons a r => simp [glue, List.flatMap_append]
theorem glue_take {l : List (List UInt8)} {k : Nat} {x : List UInt8} (h : l[k]? = some x) : glue (l.take (k + 1)) = if k = 0 then x else glue (l.take k) ++ 32 :: x := by
  have hk : k < l.length := (List.getElem?_eq_some_iff.1 h).1
  rw [List.take_add_one, h]
  cases k with
  | zero => simp [glue]
  | succ k => rw [if_neg (by omega)]; exact glue_snoc _ _ (by intro e; have := congrArg List.length e; rw [List.length_take] at this; simp only [List.length_nil] at this; omega)
def joined (l : List (List UInt8)) : List UInt8 := 40 :: (glue l ++ [41])
theorem sum_text {w : World} (a b : List UInt8) (h : a.length + b.length ≤ 4000000) : (Op.stringOp .add ⟨a.toArray⟩ ⟨b.toArray⟩).run Tryz.prog w = .ok (.string ⟨(a ++ b).toArray⟩) w := by
  refine (run_string_add_sum (P := Tryz.prog) w ⟨a.toArray⟩ ⟨b.toArray⟩ (by simp [ByteArray.size]; omega)).trans ?_
  congr 2
theorem glue_le (l : List (List UInt8)) : ∀ k, (glue (l.take k)).length ≤ (glue l).length := by
  intro k
  cases l with
  | nil => simp
  | cons a r =>
    cases k with
    | zero => simp [glue]
    | succ k =>
      simp only [List.take_succ_cons, glue, List.length_append]
      refine Nat.add_le_add_left ?_ _
      induction r generalizing k with
      | nil => simp
      | cons b r ih => cases k with
        | zero => simp
        | succ k => simp only [List.take_succ_cons, List.flatMap_cons, List.length_append]; exact Nat.add_le_add_left (ih k) _

set_option maxHeartbeats 1000000 in
set_option maxRecDepth 100000 in
theorem join_any (v : Value) (l : List (List UInt8)) (w : World) (h : RowAt 1 (StrAt w) w v l) (hn : (glue l).length ≤ 900000) :
    Calls Tryz.prog 26 #[v] w fun e w' => e = .returned (.string ⟨(joined l).toArray⟩) ∧ w' = w := by
  obtain ⟨p, c, rfl⟩ := h.len
  have H := Lib.hid h; have HN := Lib.hid hn
  clear h hn
  go_enter Tryz.func26, Tryz.ntmps26
  go_wp2_with fail
  go_loopw [3, 4] (fun v i wr => wr = w ∧ ∃ k : Nat, i = .int .i64 k ∧ k ≤ l.length ∧ v = .string ⟨(40 :: glue (l.take k)).toArray⟩) (fun _ i _ => l.length - (intOf i).toNat)
  case atStart => exact ⟨rfl, 0, rfl, Nat.zero_le _, by simp [glue]⟩
  case round =>
    obtain ⟨rfl, k, rfl, hk, rfl⟩ := hrel
    have hle : (40 :: glue (l.take k)).length ≤ 900001 := by have := glue_le l k; have := HN.out; simp only [List.length_cons]; omega
    have HLE := Lib.hid hle
    by_cases hlt : k < l.length
    · obtain ⟨x, hx⟩ : ∃ x, l[k]? = some x := ⟨_, List.getElem?_eq_getElem hlt⟩
      have ht := glue_take hx
      have hle2 := glue_le l (k + 1)
      have hxs : x.length ≤ 900000 := by
        have := HN.out
        rw [ht] at hle2; split at hle2
        · omega
        · simp only [List.length_append, List.length_cons] at hle2; omega
      rcases H.out with ⟨rfl, _⟩ | ⟨g, o, c', hv, h1, h2, h3⟩
      · simp at hlt
      injection hv with hp _ hc
      subst hp; subst hc
      obtain ⟨u, hu, _, hcell⟩ := h3 k x hx
      have hu' : u = .string ⟨x.toArray⟩ := hu
      subst hu'
      have hc0 := hcell 0 (.string ⟨x.toArray⟩) rfl
      have HX := Lib.hid hx
      clear hcell h3 hx
      obtain ⟨T, hT⟩ : ∃ T, T = 40 :: glue (l.take k) := ⟨_, rfl⟩
      have HT := Lib.hid hT
      rw [← hT] at hle ⊢
      clear hT
      by_cases hk0 : k = 0
      · subst hk0
        have hc1 : wr.cell? ⟨g, o, none⟩ = some (.string ⟨x.toArray⟩) := by simpa using hc0
        have hs := sum_text (w := wr) T x (by omega)
        have hres : T ++ x = 40 :: glue (l.take 1) := by rw [HT.out]; rw [if_pos rfl] at ht; rw [ht]; simp [glue]
        clear ht hle2 hc0
        go_wp2_with fail
        exact ⟨⟨trivial, 1, rfl, by omega, rfl⟩, by simp [intOf]; omega⟩
      · have hs0 := sum_text (w := wr) T [32] (by simp only [List.length_singleton]; omega)
        have hs := sum_text (w := wr) (T ++ [32]) x (by simp only [List.length_append, List.length_singleton]; omega)
        have hres : T ++ [32] ++ x = 40 :: glue (l.take (k + 1)) := by rw [HT.out, ht, if_neg hk0]; simp
        have hk1 : (0 : Int) < (k : Int) := by omega
        have hc1 : wr.cell? ⟨g, o + k, none⟩ = some (.string ⟨x.toArray⟩) := by simpa using hc0
        clear ht hle2 hc0
        go_wp2_with fail
        exact ⟨⟨trivial, k + 1, rfl, by omega, rfl⟩, by simp [intOf]; omega⟩
    · obtain rfl : k = l.length := by omega
      obtain ⟨T, hT⟩ : ∃ T, T = 40 :: glue (l.take l.length) := ⟨_, rfl⟩
      have hj : T ++ [41] = joined l := by rw [hT, List.take_length]; rfl
      rw [← hT] at hle ⊢
      have hs := sum_text (w := wr) T [41] (by simp only [List.length_singleton]; omega)
      rw [hj] at hs
      clear hT hj HLE
      go_wp2_with fail
      go_ret
      exact ⟨rfl, rfl⟩
end Go.Proofs.YtdgmijnoohplgaaGreatDoor
