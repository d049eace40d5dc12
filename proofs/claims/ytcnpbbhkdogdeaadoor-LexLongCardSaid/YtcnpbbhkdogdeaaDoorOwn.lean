/-
  Bytes in memory of the call's own.
-/
import Derived.Test.YtcnpbbhkdogdeaaDoorLives
namespace Go.Proofs.YtcnpbbhkdogdeaaDoor
open Go Go.RowKit

def byteV (c : UInt8) : Value := .int .u8 c.toNat

theorem at0_set (l : List UInt8) (i j : Nat) (x : UInt8) (hi : i < l.length) : Lx.at0 (l.set i x) j = if i = j then x else Lx.at0 l j := by
  unfold Lx.at0
  rw [List.getD_eq_getElem?_getD, List.getD_eq_getElem?_getD, List.getElem?_set]
  by_cases h : i = j
  · subst h; simp [hi]
  · simp [h]

theorem at0_get (l : List UInt8) (j : Nat) (h : j < l.length) : (l.map byteV)[j]? = some (.int .u8 (Lx.at0 l j).toNat) := by
  rw [List.getElem?_map, List.getElem?_eq_getElem h]
  simp [byteV, Lx.at0, List.getD_eq_getElem?_getD, List.getElem?_eq_getElem h]

theorem bytesAt_own {w : World} {base e g n cap : Nat} {l : List UInt8} (h : w.ownsRow base e 1 (.slice (some ⟨g, 0, none⟩) n cap) n (l.map byteV)) : BytesAt w g 0 l ∧ l.length = n := by
  have hl : l.length = n := by have := h.1; simpa using this
  refine ⟨fun j hj => ?_, hl⟩
  have := World.ownsRow.cellAt h j (by omega)
  rw [Nat.zero_add, this]; exact at0_get l j hj

/-- An owned slice, nil or not, is a slice of bytes. -/
theorem sliceAt_own {w : World} {base e n : Nat} {v : Value} {l : List UInt8} (h : w.ownsRow base e 1 v n (l.map byteV)) (hs : n ≤ 100000) (hcap : ∀ g cap, v = .slice (some ⟨g, 0, none⟩) n cap → cap ≤ 4611686018427387904) : SliceAt w v l := by
  have hl : l.length = n := by have := h.1; simpa using this
  rcases h.2 with ⟨rfl, rfl⟩ | ⟨g, cap, cur, rfl, hb, hh, hn, hm, hsz, htk⟩
  · exact .inl ⟨none, 0, rfl, List.eq_nil_of_length_eq_zero hl⟩
  · refine .inr ⟨g, 0, cap, by rw [hl], by omega, hcap g cap rfl, (bytesAt_own h).1⟩

theorem madeBytes (n : Nat) : (madeCells (Value.int .u8 0).cells (n * 1)).toList = (List.replicate n (0 : UInt8)).map byteV := by
  unfold madeCells
  simp [Value.cells, byteV, Nat.mod_one]
  rw [List.map_const', List.length_range]

theorem info5 : (Tryd.prog.info? 5).map (fun i => (i.zero, i.size, i.bytes)) = some (some (.int .u8 0), 1, 1) := by kernel_rfl

/-- A list's value is a slice of that length. -/
theorem own_len {w : World} {base e size n : Nat} {v : Value} {xs : List Value} (h : w.ownsRow base e size v n xs) : ∃ p cap, v = .slice p n cap := by
  rcases h.2 with ⟨rfl, rfl⟩ | ⟨g, cap, cur, rfl, _⟩
  · exact ⟨none, 0, rfl⟩
  · exact ⟨_, cap, rfl⟩

namespace Lx
theorem skip_all (r : List UInt8) : (∀ j, j + 1 < r.length → (at0 r j).toNat ≠ 10) → skipC true r = r.length := by
  induction r with
  | nil => intro _; rfl
  | cons c r ih =>
    intro h
    rw [skipC, List.length_cons]
    by_cases hc : c.toNat = 10
    · have hr : r = [] := by
        cases r with
        | nil => rfl
        | cons d r => exact absurd hc (h 0 (by simp))
      subst hr
      rw [if_pos hc]; rfl
    · rw [if_neg hc, ih (fun j hj => by have := h (j + 1) (by simpa using hj); simpa [at0] using this)]
end Lx
end Go.Proofs.YtcnpbbhkdogdeaaDoor
