/-
 The program of two texts, one behind the other.
-/
import Derived.Test.YtpkecbijhckllaaDoorKPShW
namespace Go.Proofs.YtpkecbijhckllaaDoor
set_option linter.unusedVariables false
set_option linter.unusedSimpArgs false
namespace Px
open Lx (tk)
theorem program_tk (l : List UInt8) (h : l.length ≤ 4096) : program l = match tk 0 l with
 | (_, some q) => .lex q
 | (ts, none) => match prog l.length (ts.length + 1) 0 ts with
  | .error p => .parse p
  | .ok x => .done x := by
 unfold program parsed
 rw [if_neg (by omega)]
 have e : Lx.toks (l.length + 1) 0 l = tk 0 l := rfl
 rw [e]
 cases tk 0 l with
 | mk ts o =>
  cases o with
  | some q => rfl
  | none =>
   simp only
   cases prog l.length (ts.length + 1) 0 ts <;> rfl
theorem lex_toks {b : List UInt8} {i : Nat} (hb : b.length ≤ 4096) (h : program b = .lex i) : (tk 0 b).2 = some i := by
 rw [program_tk _ hb] at h
 cases hb2 : tk 0 b with
 | mk tb ob =>
  rw [hb2] at h
  cases ob with
  | some q => simp only [Outcome.lex.injEq] at h; subst h; rfl
  | none =>
   simp only at h
   cases hp : prog b.length (tb.length + 1) 0 tb with
   | error p => rw [hp] at h; cases h
   | ok x => rw [hp] at h; cases h
section
variable {a b : List UInt8} (hl : a.length + b.length ≤ 2000)
include hl
theorem joins_first {i : Nat} (h : program a = .lex i) : program (a ++ 10 :: b) = .lex i := by
 rw [program_tk _ (by omega)] at h
 rw [program_tk _ (by simp only [List.length_append, List.length_cons]; omega), Lx.tk_join]
 cases ha : tk 0 a with
 | mk ta oa =>
  rw [ha] at h
  cases oa with
  | some q => simp only [Outcome.lex.injEq] at h; subst h; rfl
  | none =>
   simp only at h
   cases hp : prog a.length (ta.length + 1) 0 ta with
   | error p => rw [hp] at h; cases h
   | ok x => rw [hp] at h; cases h
theorem joins_second {i : Nat} (ha : ∀ q, program a ≠ .lex q) (h : program b = .lex i) : program (a ++ 10 :: b) = .lex (a.length + 1 + i) := by
 have hb := lex_toks (by omega) h
 have hs := Lx.tk_shift (a.length + 1) b
 rw [program_tk _ (by simp only [List.length_append, List.length_cons]; omega), Lx.tk_join]
 cases hta : tk 0 a with
 | mk ta oa =>
  cases oa with
  | some q => exact absurd (by rw [program_tk _ (by omega), hta]) (ha q)
  | none =>
   simp only [Nat.zero_add]
   rw [hs, hb]
   simp only [Option.map_some]
   congr 1; omega
/-- Neither has a byte that begins no token. -/
theorem joins_toks (ha : ∀ q, program a ≠ .lex q) (hb : ∀ q, program b ≠ .lex q) : (tk 0 a).2 = none ∧ (tk 0 b).2 = none ∧ tk 0 (a ++ 10 :: b) = ((tk 0 a).1 ++ ((tk 0 b).1.map (Lx.shift (a.length + 1))), none) := by
 have h1 : (tk 0 a).2 = none := by
  cases hta : tk 0 a with
  | mk ta oa =>
   cases oa with
   | some q => exact absurd (by rw [program_tk _ (by omega), hta]) (ha q)
   | none => rfl
 have h2 : (tk 0 b).2 = none := by
  cases htb : tk 0 b with
  | mk tb ob =>
   cases ob with
   | some q => exact absurd (by rw [program_tk _ (by omega), htb]) (hb q)
   | none => rfl
 refine ⟨h1, h2, ?_⟩
 rw [Lx.tk_join, h1]
 simp only [Nat.zero_add]
 rw [Lx.tk_shift (a.length + 1) b, h2]; rfl
theorem joins_wrong {i : Nat} (h : program a = .parse i) (hi : i < a.length) (hb : ∀ q, program b ≠ .lex q) : program (a ++ 10 :: b) = .parse i := by
 obtain ⟨h1, h2, h3⟩ := joins_toks hl (fun q e => by rw [e] at h; cases h) hb
 rw [program_tk _ (by omega)] at h
 rw [program_tk _ (by simp only [List.length_append, List.length_cons]; omega), h3]
 cases hta : tk 0 a with
 | mk ta oa =>
  rw [hta] at h h1
  simp only at h1
  subst h1
  simp only at h ⊢
  cases hp : prog a.length (ta.length + 1) 0 ta with
  | ok x => rw [hp] at h; cases h
  | error p =>
   rw [hp] at h
   simp only [Outcome.parse.injEq] at h
   subst h
   have := prog_bad a.length (a ++ 10 :: b).length ((tk 0 b).1.map (Lx.shift (a.length + 1))) (ta.length + 1) 0 ta p (by omega) hp (by omega) (((tk 0 b).1.map (Lx.shift (a.length + 1))).length + 1) (by omega)
   rw [← Nat.add_assoc, ← List.length_append] at this
   rw [this]
theorem joins_parts {x : Prog} (h : program a = .done x) (hb : ∀ q, program b ≠ .lex q) (hc : x.size + b.count 40 ≤ 100) :
 match program b with
 | .lex _ => False
 | .parse k => program (a ++ 10 :: b) = .parse (a.length + 1 + k)
 | .done y => ∃ z, program (a ++ 10 :: b) = .done z ∧ showProg 50 z = showProg 50 (x.add y) := by
 obtain ⟨h1, h2, h3⟩ := joins_toks hl (fun q e => by rw [e] at h; cases h) hb
 have hop : opens (tk 0 b).1 ≤ b.count 40 := Lx.opens_toks _ _ b
 have hpl : ∀ t ∈ (tk 0 b).1, NumPlain t := toks_plain _ _ b
 rw [program_tk _ (by omega)] at h
 rw [program_tk b (by omega), program_tk (a ++ 10 :: b) (by simp only [List.length_append, List.length_cons]; omega), h3]
 cases hta : tk 0 a with
 | mk ta oa =>
  cases htb : tk 0 b with
  | mk tb ob =>
   rw [hta] at h h1
   rw [htb] at h2 hop hpl
   simp only at h1 h2 hop hpl
   subst h1; subst h2
   simp only at h ⊢
   cases hp : prog a.length (ta.length + 1) 0 ta with
   | error p => rw [hp] at h; cases h
   | ok x' =>
    rw [hp] at h
    simp only [Outcome.done.injEq] at h
    subst h
    have hus : opens (tb.map (Lx.shift (a.length + 1))) = opens tb := shift_opens _ tb
    obtain ⟨g', hg', he⟩ := prog_app a.length (a ++ 10 :: b).length (tb.map (Lx.shift (a.length + 1))) (ta.length + 1) 0 ta x' (by omega) hp ((tb.map (Lx.shift (a.length + 1))).length + 1) (by omega)
    rw [← Nat.add_assoc, ← List.length_append, Nat.zero_add] at he
    rw [he, prog_count (a ++ 10 :: b).length g' ((tb.map (Lx.shift (a.length + 1))).length + 1) x'.size 0 _ hg' (by omega) (by rw [hus]; omega) (by rw [hus]; omega)]
    have hsim := prog_sim (ρ := fun p q => q = p + (a.length + 1)) b.length (a ++ 10 :: b).length (by simp; omega) (tb.length + 1) 0 tb _ (shift_sim (a.length + 1) tb hpl)
    rw [List.length_map]
    cases e1 : prog b.length (tb.length + 1) 0 tb <;> cases e2 : prog (a ++ 10 :: b).length (tb.length + 1) 0 (tb.map (Lx.shift (a.length + 1))) <;> rw [e1, e2] at hsim <;> try exact hsim.elim
    · rename_i p q
      have : q = p + (a.length + 1) := hsim
      subst this
      simp only
      congr 1; omega
    · rename_i y z
      have hs : SimProg _ y z := hsim
      refine ⟨_, rfl, ?_⟩
      refine showProg_add 50 x' z y (showProg_sim 50 _ _ hs) ?_ ?_
      · exact hs.datas.mapEq (fun u v huv => by rw [showData_sim 50 u v huv])
      · exact hs.defs.mapEq (fun u v huv => by rw [showDef_sim 50 u v huv])
end
end Px
end Go.Proofs.YtpkecbijhckllaaDoor
