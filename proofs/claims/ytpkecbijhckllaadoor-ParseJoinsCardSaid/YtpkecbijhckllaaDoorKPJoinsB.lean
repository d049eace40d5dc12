/-
 Where a text is wrong: a place within it.
-/
import Derived.Test.YtpkecbijhckllaaDoorKPJoinsPure
namespace Go.Proofs.YtpkecbijhckllaaDoor
set_option linter.unusedVariables false
set_option linter.unusedSimpArgs false
namespace Px
open Lx (tk)
theorem self_sim (M : Nat) : ∀ (ts : List Lx.Tok), (∀ t ∈ ts, NumPlain t) → (∀ t ∈ ts, t.pos ≤ M) → All2 (TSim (fun p q => q = p ∧ p ≤ M)) ts ts
 | [], _, _ => .nil
 | t :: ts, h, hp => .cons ⟨rfl, ⟨rfl, hp t (by simp)⟩, rfl, fun hk => ⟨h t (by simp) hk, h t (by simp) hk⟩, fun _ => rfl⟩ (self_sim M ts (fun u hu => h u (by simp [hu])) (fun u hu => hp u (by simp [hu])))
theorem program_parse_le {l : List UInt8} {k : Nat} (h : program l = .parse k) : k ≤ 4096 := by
 have hl : l.length ≤ 4096 := by
  by_cases hl : 4096 < l.length
  · unfold program parsed at h; rw [if_pos hl] at h; cases h
  · omega
 have hpl := toks_plain (l.length + 1) 0 l
 have hpos := Lx.toks_mem (l.length + 1) 0 l
 rw [program_tk _ hl] at h
 have htk : Lx.toks (l.length + 1) 0 l = tk 0 l := rfl
 rw [htk] at hpl hpos
 cases ht : tk 0 l with
 | mk ts o =>
  rw [ht] at h hpl hpos
  cases o with
  | some p => cases h
  | none =>
   simp only at h hpl hpos
   have hs := prog_sim (ρ := fun p q => q = p ∧ p ≤ 4096) l.length l.length ⟨rfl, hl⟩ (ts.length + 1) 0 ts ts (self_sim 4096 ts hpl (fun t hm => by have := hpos t hm; omega))
   cases hp : prog l.length (ts.length + 1) 0 ts with
   | error p =>
    rw [hp] at h hs
    simp only [Outcome.parse.injEq] at h
    subst h
    exact hs.2
   | ok x => rw [hp] at h; cases h
theorem program_lex_le {l : List UInt8} {k : Nat} (h : program l = .lex k) : k ≤ 4096 := by
 by_cases hl : 4096 < l.length
 · unfold program parsed at h
   rw [if_pos hl] at h
   simp only [Outcome.lex.injEq] at h
   omega
 · have ht := lex_toks (by omega) h
   have := (Lx.toks_place (l.length + 1) 0 l k ht).2
   omega
theorem program_size {l : List UInt8} {x : Prog} (h : program l = .done x) : x.size ≤ 100 := by
 have hl : l.length ≤ 4096 := by
  by_cases hl : 4096 < l.length
  · unfold program parsed at h; rw [if_pos hl] at h; cases h
  · omega
 rw [program_tk _ hl] at h
 cases ht : tk 0 l with
 | mk ts o =>
  rw [ht] at h
  cases o with
  | some p => cases h
  | none =>
   simp only at h
   cases hp : prog l.length (ts.length + 1) 0 ts with
   | error p => rw [hp] at h; cases h
   | ok q =>
    rw [hp] at h
    simp only [Outcome.done.injEq] at h
    subst h
    have := prog_size _ _ _ _ _ (by omega) hp
    omega
end Px
end Go.Proofs.YtpkecbijhckllaaDoor
