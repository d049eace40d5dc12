/-
 What is shown of a program is read back: a program that is alike.
-/
import Derived.Test.YtpkecbijhckllaaDoorKPReadB
import Derived.Test.YtpkecbijhckllaaDoorKPJoinsPure
namespace Go.Proofs.YtpkecbijhckllaaDoor
set_option linter.unusedVariables false
set_option linter.unusedSimpArgs false
namespace Px
open Lx (tk mkTok)
structure PartD (n : Node) (d : Data) : Prop where
 room : Room 0 n
 good : NodeGood n
 fits : ∃ k, Fits k n
 head : word n = [100, 97, 116, 97]
 read : data 50 n = .ok d
structure PartF (n : Node) (d : Def) : Prop where
 room : Room 0 n
 good : NodeGood n
 fits : ∃ k, Fits k n
 head : word n = [100, 101, 102]
 read : defn 50 n = .ok d
theorem prog_parts (stop : Nat) : ∀ (f c : Nat) (ts : List Lx.Tok) (q : Prog), (∀ t ∈ ts, TOk t) → prog stop f c ts = .ok q →
 ∃ nd nf, All2 PartD nd q.datas ∧ All2 PartF nf q.defs := by
 intro f
 induction f with
 | zero => intro c ts q _ h; cases h; exact ⟨[], [], .nil, .nil⟩
 | succ f ih =>
  intro c ts q ht h
  cases ts with
  | nil => rw [prog_nil] at h; cases h; exact ⟨[], [], .nil, .nil⟩
  | cons t ts =>
   rw [prog_cons] at h
   cases hn : node stop (2 * (t :: ts).length + 2) 0 (t :: ts) with
   | error p => rw [hn] at h; cases h
   | ok x =>
    obtain ⟨n, ts'⟩ := x
    rw [hn] at h
    simp only at h
    obtain ⟨g1, g2⟩ := (node_good stop _ 0 (t :: ts) ht).1 _ _ hn
    have g3 := (node_room stop _ 0 (t :: ts)).1 _ _ hn
    have g4 := (node_fits stop _ 0 (t :: ts)).1 _ _ hn
    by_cases hc : c = 100
    · rw [if_pos hc] at h; cases h
    · rw [if_neg hc] at h
      by_cases k1 : word n = [100, 97, 116, 97]
      · rw [if_pos k1] at h
        cases hd : data 50 n with
        | error p => rw [hd] at h; cases h
        | ok d =>
         rw [hd] at h
         simp only at h
         cases hr : prog stop f (c + 1) ts' with
         | error p => rw [hr] at h; cases h
         | ok q' =>
          rw [hr] at h
          simp only [Except.ok.injEq] at h
          subst h
          obtain ⟨nd, nf, h1, h2⟩ := ih _ _ _ g2 hr
          exact ⟨n :: nd, nf, .cons ⟨g3, g1, ⟨_, g4⟩, k1, hd⟩ h1, h2⟩
      · rw [if_neg k1] at h
        by_cases k2 : word n = [100, 101, 102]
        · rw [if_pos k2] at h
          cases hd : defn 50 n with
          | error p => rw [hd] at h; cases h
          | ok d =>
           rw [hd] at h
           simp only at h
           cases hr : prog stop f (c + 1) ts' with
           | error p => rw [hr] at h; cases h
           | ok q' =>
            rw [hr] at h
            simp only [Except.ok.injEq] at h
            subst h
            obtain ⟨nd, nf, h1, h2⟩ := ih _ _ _ g2 hr
            exact ⟨nd, n :: nf, h1, .cons ⟨g3, g1, ⟨_, g4⟩, k2, hd⟩ h2⟩
        · rw [if_neg k2] at h; cases h
theorem part_read {n : Node} {s : List UInt8} (h : Back 0 n s) (p : Nat) (r : List UInt8) (us : List Lx.Tok) (hu : tk (p + s.length + 1) r = (us, none)) :
 ∃ t ts m, tk p (s ++ 10 :: r) = (t :: (ts ++ us), none) ∧ Sim (fun _ _ => True) n m ∧ ∀ stop f, 2 * (ts.length + 1) ≤ f → node stop f 0 (t :: (ts ++ us)) = .ok (m, us) := by
 obtain ⟨ts, m, e1, e2, e3, e4⟩ := h p (10 :: r) (Lx.ends_10 r)
 cases ts with
 | nil => simp at e3
 | cons t ts =>
  refine ⟨t, ts, m, ?_, e2, fun stop f hf => e4 stop f us (by simpa using hf)⟩
  rw [e1, Lx.tk_10, hu]; rfl
theorem defs_back : ∀ (nf : List Node) (fs : List Def), All2 PartF nf fs → ∀ p : Nat, ∃ ts fs', tk p (fs.map fun d => showDef 50 d ++ [10]).flatten = (ts, none) ∧ All2 (SimDef (fun _ _ => True)) fs fs' ∧
 ∀ stop g c, ts.length < g → c + fs.length ≤ 100 → prog stop g c ts = .ok ⟨[], fs'⟩ := by
 intro nf fs h
 induction h with
 | nil => intro p; exact ⟨[], [], rfl, .nil, fun stop g c _ _ => prog_nil _ _ _⟩
 | @cons n d nf fs h1 h2 ih =>
  intro p
  obtain ⟨k, hk⟩ := h1.fits
  have hb := canon_back k n 0 _ hk h1.good h1.room (defn_canon 50 n d h1.good (h1.good.all hk) h1.head h1.read)
  obtain ⟨us, fs', f1, f2, f3⟩ := ih (p + (showDef 50 d).length + 1)
  obtain ⟨t, ts, m, e1, e2, e3⟩ := part_read hb p _ us f1
  have hd := defn_sim 50 e2
  rw [h1.read] at hd
  cases hm : defn 50 m with
  | error q => rw [hm] at hd; exact hd.elim
  | ok d' =>
   rw [hm] at hd
   refine ⟨t :: (ts ++ us), d' :: fs', ?_, .cons hd f2, fun stop g c hg hc => ?_⟩
   · rw [List.map_cons, List.flatten_cons, List.append_assoc]; exact e1
   · rw [List.length_cons, List.length_append] at hg
     rw [List.length_cons] at hc
     obtain ⟨g, rfl⟩ : ∃ j, g = j + 1 := ⟨g - 1, by omega⟩
     have w1 : word m ≠ [100, 97, 116, 97] := by
      have := word_iff e2.word [100, 97, 116, 97] (fun x hx => hx.2.1)
      rw [ne_eq, this, h1.head]; decide
     have w2 : word m = [100, 101, 102] := by rw [word_iff e2.word _ (fun x hx => hx.2.2.1)]; exact h1.head
     rw [prog_cons, e3 stop _ (by rw [List.length_cons, List.length_append]; omega)]
     simp only
     rw [if_neg (by omega), if_neg w1, if_pos w2, hm]
     simp only
     rw [f3 stop g (c + 1) (by omega) (by omega)]
theorem datas_back (T : List UInt8) (S : List Def → Prop) (N : Nat) (HT : ∀ p : Nat, ∃ ts fs', tk p T = (ts, none) ∧ S fs' ∧ ∀ stop g c, ts.length < g → c + N ≤ 100 → prog stop g c ts = .ok ⟨[], fs'⟩) :
 ∀ (nd : List Node) (ds : List Data), All2 PartD nd ds → ∀ p : Nat, ∃ ts ds' fs', tk p ((ds.map fun d => showData 50 d ++ [10]).flatten ++ T) = (ts, none) ∧ All2 (SimData (fun _ _ => True)) ds ds' ∧ S fs' ∧
 ∀ stop g c, ts.length < g → c + (ds.length + N) ≤ 100 → prog stop g c ts = .ok ⟨ds', fs'⟩ := by
 intro nd ds h
 induction h with
 | nil =>
  intro p
  obtain ⟨ts, fs', h1, h2, h3⟩ := HT p
  exact ⟨ts, [], fs', h1, .nil, h2, fun stop g c hg hc => h3 stop g c hg (by simpa using hc)⟩
 | @cons n d nd ds h1 h2 ih =>
  intro p
  obtain ⟨k, hk⟩ := h1.fits
  have hb := canon_back k n 0 _ hk h1.good h1.room (data_canon 50 n d h1.good h1.head h1.read)
  obtain ⟨us, ds', fs', f1, f2, f2', f3⟩ := ih (p + (showData 50 d).length + 1)
  obtain ⟨t, ts, m, e1, e2, e3⟩ := part_read hb p _ us f1
  have hd := data_sim 50 e2
  rw [h1.read] at hd
  cases hm : data 50 m with
  | error q => rw [hm] at hd; exact hd.elim
  | ok d' =>
   rw [hm] at hd
   refine ⟨t :: (ts ++ us), d' :: ds', fs', ?_, .cons hd f2, f2', fun stop g c hg hc => ?_⟩
   · rw [List.map_cons, List.flatten_cons, List.append_assoc, List.append_assoc]; exact e1
   · rw [List.length_cons, List.length_append] at hg
     rw [List.length_cons] at hc
     obtain ⟨g, rfl⟩ : ∃ j, g = j + 1 := ⟨g - 1, by omega⟩
     have w1 : word m = [100, 97, 116, 97] := by rw [word_iff e2.word _ (fun x hx => hx.2.1)]; exact h1.head
     rw [prog_cons, e3 stop _ (by rw [List.length_cons, List.length_append]; omega)]
     simp only
     rw [if_neg (by omega), if_pos w1, hm]
     simp only
     rw [f3 stop g (c + 1) (by omega) (by omega)]
/-- What is shown of a text's program is a text of the same program, but for the places. -/
theorem program_again (l : List UInt8) (q : Prog) (h : program l = .done q) (hs : (showProg 50 q).length ≤ 4096) :
 ∃ q', program (showProg 50 q) = .done q' ∧ showProg 50 q' = showProg 50 q := by
 have hl : l.length ≤ 4096 := by
  by_cases hl : 4096 < l.length
  · unfold program parsed at h; rw [if_pos hl] at h; cases h
  · omega
 have hok := toks_ok (l.length + 1) 0 l
 rw [program_tk _ hl] at h
 have htk : Lx.toks (l.length + 1) 0 l = tk 0 l := rfl
 rw [htk] at hok
 cases ht : tk 0 l with
 | mk ts o =>
  rw [ht] at h hok
  cases o with
  | some p => cases h
  | none =>
   simp only at h hok
   cases hp : prog l.length (ts.length + 1) 0 ts with
   | error p => rw [hp] at h; cases h
   | ok q0 =>
    rw [hp] at h
    simp only [Outcome.done.injEq] at h
    subst h
    obtain ⟨nd, nf, h1, h2⟩ := prog_parts _ _ _ _ _ hok hp
    have hsz := prog_size _ _ _ _ _ (by omega) hp
    obtain ⟨us, ds', fs', e1, e2, e3, e4⟩ := datas_back _ (All2 (SimDef (fun _ _ => True)) q0.defs) q0.defs.length (defs_back nf q0.defs h2) nd q0.datas h1 0
    refine ⟨⟨ds', fs'⟩, ?_, showProg_sim (ρ := fun _ _ => True) 50 q0 ⟨ds', fs'⟩ ⟨e2, e3⟩⟩
    rw [program_tk _ hs]
    have e5 : tk 0 (showProg 50 q0) = (us, none) := e1
    rw [e5]
    simp only
    rw [e4 _ _ 0 (Nat.lt_succ_self _) (by unfold Prog.size at hsz; omega)]
theorem joined_head (l : List (List UInt8)) (r : List UInt8) : joined l ++ r ≠ [63] := by
 intro e
 have := congrArg List.head? e
 simp [joined] at this
theorem showProg_no (q : Prog) : showProg 50 q ≠ [63] := by
 obtain ⟨ds, fs⟩ := q
 cases ds with
 | cons d ds =>
  show ((d :: ds).map fun d => showData 50 d ++ [10]).flatten ++ _ ≠ [63]
  rw [List.map_cons, List.flatten_cons, List.append_assoc, List.append_assoc]
  exact joined_head _ _
 | nil =>
  cases fs with
  | nil => simp [showProg]
  | cons d fs =>
   show (([] : List Data).map fun d => showData 50 d ++ [10]).flatten ++ ((d :: fs).map fun d => showDef 50 d ++ [10]).flatten ≠ [63]
   rw [List.map_nil, List.flatten_nil, List.nil_append, List.map_cons, List.flatten_cons, List.append_assoc]
   exact joined_head _ _
end Px
end Go.Proofs.YtpkecbijhckllaaDoor
