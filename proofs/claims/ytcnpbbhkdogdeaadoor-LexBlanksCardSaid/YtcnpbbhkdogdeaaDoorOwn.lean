/-
  Bytes in memory of the call's own.
-/
import Derived.Test.YtcnpbbhkdogdeaaDoorLives
import Derived.Lib.ConvBytes
namespace Go.Proofs.YtcnpbbhkdogdeaaDoor
open Go Go.RowKit

def byteV (c : UInt8) : Value := .int .u8 c.toNat

theorem at0_set (l : List UInt8) (i j : Nat) (x : UInt8) (hi : i < l.length) : Lx.at0 (l.set i x) j = if i = j then x else Lx.at0 l j := by
  unfold Lx.at0
  rw [List.getD_eq_getElem?_getD, List.getD_eq_getElem?_getD, List.getElem?_set]
  by_cases h : i = j
  · subst h; simp [hi]
  · simp [h]

theorem at0_get (l : List UInt8) (j : Nat) (h : j < l.length) : (l.map byteV)[j]? = some (.int .u8 (Lx.at0 l j).toNat) := by
  rw [List.getElem?_map, List.getElem?_eq_getElem h]
  simp [byteV, Lx.at0, List.getD_eq_getElem?_getD, List.getElem?_eq_getElem h]

theorem bytesAt_own {w : World} {base e g n cap : Nat} {l : List UInt8} (h : w.ownsRow base e 1 (.slice (some ⟨g, 0, none⟩) n cap) n (l.map byteV)) : BytesAt w g 0 l ∧ l.length = n := by
  have hl : l.length = n := by have := h.1; simpa using this
  refine ⟨fun j hj => ?_, hl⟩
  have := World.ownsRow.cellAt h j (by omega)
  rw [Nat.zero_add, this]; exact at0_get l j hj

/-- An owned slice, nil or not, is a slice of bytes. -/
theorem sliceAt_own {w : World} {base e n : Nat} {v : Value} {l : List UInt8} (h : w.ownsRow base e 1 v n (l.map byteV)) : SliceAt w v l := by
  have hl : l.length = n := by have := h.1; simpa using this
  rcases h.2 with ⟨rfl, rfl⟩ | ⟨g, cap, cur, rfl, hb, hh, hn, hm, hsz, htk⟩
  · exact .inl ⟨none, 0, rfl, List.eq_nil_of_length_eq_zero hl⟩
  · refine .inr ⟨g, 0, cap, by rw [hl], by omega, by unfold maxLen at hm; omega, (bytesAt_own h).1⟩

theorem madeBytes (n : Nat) : (madeCells (Value.int .u8 0).cells (n * 1)).toList = (List.replicate n (0 : UInt8)).map byteV := by
  unfold madeCells
  simp [Value.cells, byteV, Nat.mod_one]
  rw [List.map_const', List.length_range]

theorem info5 : (Tryd.prog.info? 5).map (fun i => (i.zero, i.size, i.bytes)) = some (some (.int .u8 0), 1, 1) := by kernel_rfl

/-- A list's value is a slice of that length. -/
theorem own_len {w : World} {base e size n : Nat} {v : Value} {xs : List Value} (h : w.ownsRow base e size v n xs) : ∃ p cap, v = .slice p n cap := by
  rcases h.2 with ⟨rfl, rfl⟩ | ⟨g, cap, cur, rfl, _⟩
  · exact ⟨none, 0, rfl⟩
  · exact ⟨_, cap, rfl⟩

/-- '[]byte(s)' in its new block. -/
theorem bytesWorld_at (w : World) (e : TypeId) (l : List UInt8) : BytesAt (Lib.bytesWorld w e ⟨l.toArray⟩) w.heap.size 0 l := fun j hj => by
  rw [Nat.zero_add, Lib.bytesWorld_cell _ _ _ _ (by simpa [ByteArray.size] using hj)]
  rfl
theorem tokens_of_text (w : World) (l : List UInt8) (hl : l.length ≤ 1000000) : Calls Tryd.prog 10 #[.slice (some ⟨w.heap.size, 0, none⟩) l.length (grownCap w l.length 0 5)] (Lib.bytesWorld w 5 ⟨l.toArray⟩) (TkPost l (Lib.bytesWorld w 5 ⟨l.toArray⟩)) :=
  tokens_some l w.heap.size 0 _ _ (grownCap_ge _ _ _ _) (by have := grownCap_le_maxLen w l.length 0 5 (by unfold maxLen; omega); unfold maxLen at this; omega) (bytesWorld_at w _ l)
theorem conv_text (w : World) (l : List UInt8) : (convert 9 22 (.string ⟨l.toArray⟩)).run Tryd.prog w = .ok (.slice (some ⟨w.heap.size, 0, none⟩) l.length (grownCap w l.length 0 5)) (Lib.bytesWorld w 5 ⟨l.toArray⟩) :=
  Lib.run_convert_string_bytes (P := Tryd.prog) w 9 22 5 ⟨l.toArray⟩ Tryd.underlying9 Tryd.underlying22 Tryd.underlying5

theorem byte_of (c : Int) (h : (Lit.int .u8 c).wf = true) : ∃ u : UInt8, c = (u.toNat : Int) := by
  have hb : 0 ≤ c ∧ c ≤ 255 := by simpa [Lit.wf, IntKind.min, IntKind.max, IntKind.bits, IntKind.signed] using h
  refine ⟨UInt8.ofNat c.toNat, ?_⟩
  rw [UInt8.toNat_ofNat']; omega

/-- The cells of a list of tokens, its pointer a variable. -/
theorem own_cells {w : World} {base : Nat} {p : Option Addr} {cap : Nat} {ts : List Lx.Tok} (h : w.ownsRow base 33 4 (.slice p ts.length cap) ts.length (toksCells ts)) (k : Nat) (t : Lx.Tok) (hk : ts[k]? = some t) :
    ∃ g, p = some ⟨g, 0, none⟩ ∧ g < w.heap.size ∧ w.cell? ⟨g, k * 4, none⟩ = some (.int .i64 t.kind) ∧ w.cell? ⟨g, k * 4 + 1, none⟩ = some (.int .i64 t.pos) ∧ w.cell? ⟨g, k * 4 + 2, none⟩ = some (.string ⟨t.text.toArray⟩) ∧ w.cell? ⟨g, k * 4 + 3, none⟩ = some (.int .i64 t.int) := by
  obtain ⟨g, cap', he, _, hg, _, _, hc⟩ := own_toks h (by intro e; subst e; simp at hk)
  injection he with he1
  exact ⟨g, he1, hg, hc k t hk⟩

namespace Lx
theorem skip_all (r : List UInt8) : (∀ j, j + 1 < r.length → (at0 r j).toNat ≠ 10) → skipC true r = r.length := by
  induction r with
  | nil => intro _; rfl
  | cons c r ih =>
    intro h
    rw [skipC, List.length_cons]
    by_cases hc : c.toNat = 10
    · have hr : r = [] := by
        cases r with
        | nil => rfl
        | cons d r => exact absurd hc (h 0 (by simp))
      subst hr
      rw [if_pos hc]; rfl
    · rw [if_neg hc, ih (fun j hj => by have := h (j + 1) (by simpa using hj); simpa [at0] using this)]
end Lx
end Go.Proofs.YtcnpbbhkdogdeaaDoor
