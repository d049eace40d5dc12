/-
  lives: the chapter's example holds. And how a list of tokens is read.
-/
import Derived.Test.YtcnpbbhkdogdeaaDoorTokens
import Derived.Lib.SlBytesConst
namespace Go.Proofs.YtcnpbbhkdogdeaaDoor
open Go Go.RowKit

/-- The slice of an owned list of tokens that is not empty, cell by cell. -/
theorem own_toks {w : World} {base : Nat} {v : Value} {ts : List Lx.Tok} (h : w.ownsRow base 33 4 v ts.length (toksCells ts)) (hne : ts ≠ []) :
    ∃ g cap, v = .slice (some ⟨g, 0, none⟩) ts.length cap ∧ base ≤ g ∧ g < w.heap.size ∧ ts.length ≤ cap ∧ (cap : Int) ≤ 9223372036854775807 ∧
      ∀ i t, ts[i]? = some t → w.cell? ⟨g, i * 4, none⟩ = some (.int .i64 t.kind) ∧ w.cell? ⟨g, i * 4 + 1, none⟩ = some (.int .i64 t.pos) ∧ w.cell? ⟨g, i * 4 + 2, none⟩ = some (.string ⟨t.text.toArray⟩) ∧ w.cell? ⟨g, i * 4 + 3, none⟩ = some (.int .i64 t.int) := by
  obtain ⟨hlen, h0 | ⟨g, cap, cur, rfl, hb, hh, hn, hm, hsz, htk⟩⟩ := h
  · exact absurd (List.eq_nil_of_length_eq_zero h0.2) hne
  · refine ⟨g, cap, rfl, hb, ?_, hn, by unfold maxLen at hm; omega, ?_⟩
    · rcases Nat.lt_or_ge g w.heap.size with h' | h'
      · exact h'
      · rw [Array.getElem?_eq_none h'] at hh; exact absurd hh (by simp)
    · have key : ∀ k u, (toksCells ts)[k]? = some u → w.cell? ⟨g, k, none⟩ = some u := by
        intro k u hk
        have := World.ownsRow.cells (w := w) (base := base) (e := 33) (size := 4) (v := .slice (some ⟨g, 0, none⟩) ts.length cap) (n := ts.length) (xs := toksCells ts) ⟨hlen, .inr ⟨g, cap, cur, rfl, hb, hh, hn, hm, hsz, htk⟩⟩ (g := g) rfl k u hk
        have e : (⟨g, 0, none⟩ : Addr).add k = ⟨g, k, none⟩ := by unfold Addr.add; split <;> simp_all
        rwa [e] at this
      have part : ∀ (ts : List Lx.Tok) i t, ts[i]? = some t → ∀ j, j < 4 → (toksCells ts)[i * 4 + j]? = (tokCells t)[j]? := by
        intro ts
        induction ts with
        | nil => intro i t h; simp at h
        | cons a r ih =>
          intro i t h j hj
          have e : toksCells (a :: r) = tokCells a ++ toksCells r := by simp [toksCells]
          have hl : (tokCells a).length = 4 := rfl
          cases i with
          | zero =>
            simp at h; subst h
            rw [e, List.getElem?_append_left (by omega)]; simp
          | succ i =>
            simp at h
            rw [e, List.getElem?_append_right (by omega), hl]
            have := ih i t h j hj
            rw [← this]; congr 1; omega
      intro i t h
      refine ⟨?_, ?_, ?_, ?_⟩
      · exact key _ _ (by have := part ts i t h 0 (by omega); simpa [tokCells] using this)
      · exact key _ _ (by have := part ts i t h 1 (by omega); simpa [tokCells] using this)
      · exact key _ _ (by have := part ts i t h 2 (by omega); simpa [tokCells] using this)
      · exact key _ _ (by have := part ts i t h 3 (by omega); simpa [tokCells] using this)

theorem lives_toks : Lx.toks 7 0 [40, 102, 32, 45, 51, 41] = ([⟨0, 0, [40], 0⟩, ⟨3, 1, [102], 0⟩, ⟨2, 3, [45, 51], -3⟩, ⟨1, 5, [41], 0⟩], none) := by rfl

set_option maxHeartbeats 1000000 in
set_option maxRecDepth 100000 in
theorem lives_any (w : World) : Calls Tryd.prog 9 #[] w fun e w' => e = .returned (.bool true) ∧ Below w.heap.size w w' := by
  have kc := fun (w : World) (C : Array Value) (n c : Nat) => Lib.run_convert_bytes_const (P := Tryd.prog) w 22 5 C n c Tryd.underlying22 Tryd.underlying5
  go_enter Tryd.func9, Tryd.ntmps9
  go_wp2_with fail
  clear kc
  refine (tokens_some [40, 102, 32, 45, 51, 41] w.heap.size 0 6 _ (by decide) (by omega) ?_).mono ?_
  · intro j hj
    rw [World.cell?_alloc_mark, Nat.zero_add]
    have hj6 : j < 6 := hj
    obtain rfl | rfl | rfl | rfl | rfl | rfl : j = 0 ∨ j = 1 ∨ j = 2 ∨ j = 3 ∨ j = 4 ∨ j = 5 := by omega
    all_goals rfl
  · rintro e w1 ⟨v, ts, p, c, rfl, hB, hown, hcase⟩
    obtain ⟨rfl, rfl, rfl⟩ : ts = [⟨0, 0, [40], 0⟩, ⟨3, 1, [102], 0⟩, ⟨2, 3, [45, 51], -3⟩, ⟨1, 5, [41], 0⟩] ∧ p = -1 ∧ c = 0 := by
      rcases hcase with ⟨h, _⟩ | ⟨_, q, h, _⟩ | ⟨_, h, hp, hc⟩
      · exact absurd h (by decide)
      · rw [show ([40, 102, 32, 45, 51, 41] : List UInt8).length + 1 = 7 from rfl, lives_toks] at h; simp at h
      · rw [show ([40, 102, 32, 45, 51, 41] : List UInt8).length + 1 = 7 from rfl, lives_toks] at h
        simp at h
        exact ⟨h.symm, hp, hc⟩
    obtain ⟨g, cap, rfl, hg1, hg2, hcap, hcm, hcell⟩ := own_toks hown (by simp)
    have c1 := (hcell 1 _ rfl).2.2.1
    have c2 := (hcell 2 _ rfl).2.2.2
    have c3 := (hcell 2 _ rfl).2.1
    clear hcell hown hcase
    have HB := Lib.hid hB; clear hB
    go_wp2
    go_ret
    exact ⟨rfl, ((Below.refl _ _).alloc (Nat.le_refl _) _).trans (HB.out.mono (by simp))⟩
end Go.Proofs.YtcnpbbhkdogdeaaDoor
