/-
  Groups, found along a path: steps that leave; what stands at the end. No project text.
-/
import Derived.Test.YtjefnmcalmcciaaTar
namespace Go.Proofs.Ytjefnmcalmcciaa
namespace Gr
set_option linter.unusedVariables false
set_option linter.unusedSimpArgs false

section
variable {g : List (List Nat)} {s : St} {P : List Step} {x : Step}

theorem under_snoc {P : List Step} {x : Step} {i k : Nat} (h : Under P i k) (h2 : i + 1 = P.length → k + 1 < x.place) : Under (P ++ [x]) i k := by
  intro y hy
  rcases snoc_some hy with hy | ⟨hi, rfl⟩
  · exact h y hy
  · exact h2 hi

/-- The last step leaves, and its thing leads back to one ahead of it. -/
theorem Inv.keep (h : Inv g s) (hP : s.path = P ++ [x]) (hd : ∀ l, g[x.thing]? = some l → x.done = l.length) (hne : s.low x.thing ≠ x.place) : Inv g ⟨s.low, s.first, P, s.opn⟩ := by
  have hxp : s.path[P.length]? = some x := by rw [hP]; simp
  have hx1 := (h.step _ x hxp).1
  have hx2 := (h.step _ x hxp).2.1
  have hlow1 := (h.lowOpen _ _ hx2).1
  have hlow2 := (h.lowOpen _ _ hx2).2.1
  obtain ⟨_, _, z, hz1, hz2⟩ := h.lowOpen _ _ hx2
  have hlt : s.low x.thing < x.place := by omega
  have hP0 : P ≠ [] := by
    rintro rfl
    have := h.one x (by rw [hP]; rfl)
    omega
  have hpos := List.length_pos_iff.2 hP0
  have up : ∀ {i : Nat} {y : Step}, P[i]? = some y → s.path[i]? = some y := fun {i y} hy => by rw [hP]; exact snoc_left hy
  have utop : ∀ k, Under s.path P.length k := fun k y hy => by have := some_lt hy; rw [hP] at this; simp at this
  have xall : ∀ (k u : Nat), s.opn[k]? = some u → Star g u x.thing := fun k u hu => h.back _ x hxp k u hu (utop k)
  refine ⟨h.good, h.small, h.nodup, h.lt, h.lowOpen, h.lowElse, h.setl, ?_, ?_, ?_, ?_, ?_, ?_, ?_, ?_⟩
  all_goals (simp only [])
  · intro i y hy; exact h.step i y (up hy)
  · intro i y y2 hy hy2; exact h.incr i y y2 (up hy) (up hy2)
  · intro y hy; exact h.one y (up hy)
  · intro e; exact absurd e hP0
  · intro i y hy k u hu hun
    by_cases hi : i + 1 = P.length
    · by_cases hk : k + 1 < x.place
      · exact h.back i y (up hy) k u hu (by rw [hP]; exact under_snoc hun fun _ => hk)
      · refine (xall k u hu).trans (hz2.trans ?_)
        exact h.back i y (up hy) _ z hz1 (by
          rw [hP]
          refine under_snoc (fun q hq => ?_) fun _ => by omega
          have := some_lt hq; omega)
    · exact h.back i y (up hy) k u hu (by rw [hP]; exact under_snoc hun fun e => absurd e hi)
  · intro i y hy; exact h.forth i y (up hy)
  · intro k u hu l hl e v hv hdone
    refine h.seen k u hu l hl e v hv fun i y hy hyt => ?_
    rw [hP] at hy
    rcases snoc_some hy with hy | ⟨rfl, rfl⟩
    · exact hdone i y hy hyt
    · subst hyt
      rw [hd l hl]; exact some_lt hv
  · intro i y hy k u hu hlt2 hun
    by_cases hi : i + 1 = P.length
    · by_cases hk : k + 1 < x.place
      · rcases h.least i y (up hy) k u hu hlt2 (by rw [hP]; exact under_snoc hun fun _ => hk) with h1 | ⟨h1, _⟩
        · exact .inl h1
        · rw [hP] at h1; simp at h1; omega
      · have hle : s.low x.thing ≤ s.low u := by
          by_cases hkx : k + 1 = x.place
          · have : u = x.thing := by
              rw [show k = x.place - 1 by omega, hx2] at hu
              exact (Option.some.inj hu).symm
            subst this; exact Nat.le_refl _
          · rcases h.least _ x hxp k u hu (by omega) (utop k) with h1 | ⟨_, l, on, ko, h2, h3, _⟩
            · exact h1
            · have := some_lt h3
              rw [hd l h2] at this; omega
        obtain ⟨hpl, l, hl, hld⟩ := h.incr i y x (up hy) (by rw [hi]; exact hxp)
        refine .inr ⟨hi.symm, l, x.thing, x.place - 1, hl, hld, hx2, by omega, hle⟩
    · rcases h.least i y (up hy) k u hu hlt2 (by rw [hP]; exact under_snoc hun fun e => absurd e hi) with h1 | ⟨h1, _⟩
      · exact .inl h1
      · have := some_lt hy; rw [hP] at h1; simp at h1; omega

def IsMin (S : List Nat) (m : Nat) : Prop := m ∈ S ∧ ∀ x ∈ S, m ≤ x

/-- What is settled with the last step. -/
theorem Inv.group (h : Inv g s) (hP : s.path = P ++ [x]) (hd : ∀ l, g[x.thing]? = some l → x.done = l.length) (he : s.low x.thing = x.place) :
    ∀ v, Mut g x.thing v ↔ v ∈ s.opn.drop (x.place - 1) := by
  have hxp : s.path[P.length]? = some x := by rw [hP]; simp
  have hx1 := (h.step _ x hxp).1
  have hx2 := (h.step _ x hxp).2.1
  have utop : ∀ k, Under s.path P.length k := fun k y hy => by have := some_lt hy; rw [hP] at this; simp at this
  have xall : ∀ (k u : Nat), s.opn[k]? = some u → Star g u x.thing := fun k u hu => h.back _ x hxp k u hu (utop k)
  have hxS : x.thing ∈ s.opn.drop (x.place - 1) := List.mem_iff_getElem?.2 ⟨0, by rw [List.getElem?_drop]; exact hx2⟩
  -- what things of the group hang on
  have out : ∀ u v, u ∈ s.opn.drop (x.place - 1) → Hang g u v → v ∈ s.opn.drop (x.place - 1) ∨ s.low v = big := by
    intro u v hu hv
    obtain ⟨j, hj⟩ := List.mem_iff_getElem?.1 hu
    rw [List.getElem?_drop] at hj
    obtain ⟨l, hl, hvl⟩ := hv
    obtain ⟨e, hve⟩ := List.mem_iff_getElem?.1 hvl
    have hle : s.low x.thing ≤ s.low u := by
      by_cases hj0 : j = 0
      · subst hj0
        rw [Nat.add_zero, hx2] at hj
        rw [Option.some.inj hj]; exact Nat.le_refl _
      · rcases h.least _ x hxp _ u hj (by omega) (utop _) with h1 | ⟨_, l, on, ko, h2, h3, _⟩
        · exact h1
        · have := some_lt h3
          rw [hd l h2] at this; omega
    rcases h.seen _ u hj l hl e v hve (fun i y hy hyt => by
      by_cases hi : i = P.length
      · subst hi
        rw [hxp] at hy
        obtain rfl := Option.some.inj hy
        subst hyt
        rw [hd l hl]; exact some_lt hve
      · exfalso
        -- a step ahead of the last one lies ahead of its place
        have hil : i < P.length := by have := some_lt hy; rw [hP] at this; simp at this; omega
        have key : ∀ (d : Nat) (j : Nat) (q : Step), j + d = P.length → s.path[j]? = some q → q.place ≤ x.place := by
          intro d
          induction d with
          | zero => intro j q hj hq; rw [show j = P.length by omega, hxp] at hq; rw [Option.some.inj hq]; exact Nat.le_refl _
          | succ d ih =>
            intro j q hj hq
            obtain ⟨q2, hq2⟩ : ∃ q2, s.path[j + 1]? = some q2 := ⟨_, List.getElem?_eq_getElem (by rw [hP]; simp; omega)⟩
            have h1 := ih (j + 1) q2 (by omega) hq2
            have h2 := (h.incr j q q2 hq hq2).1
            omega
        obtain ⟨q2, hq2⟩ : ∃ q2, s.path[i + 1]? = some q2 := ⟨_, List.getElem?_eq_getElem (by rw [hP]; simp; omega)⟩
        have h1 := key (P.length - (i + 1)) (i + 1) q2 (by omega) hq2
        have h2 := (h.incr i y q2 hy hq2).1
        have h3 := (h.step i y hy).2.1
        rw [hyt] at h3
        have h4 : y.place - 1 = x.place - 1 + j := nodup_at h.nodup h3 hj
        have h5 := (h.step i y hy).1
        omega) with h1 | ⟨kv, h1, h2⟩
    · exact .inr h1
    · left
      refine List.mem_iff_getElem?.2 ⟨kv - (x.place - 1), ?_⟩
      rw [List.getElem?_drop, show x.place - 1 + (kv - (x.place - 1)) = kv by omega]; exact h1
  have notset : ∀ u, u ∈ s.opn → s.low u ≠ big := fun u hu e => by have := (h.lowLt hu).2; omega
  -- closed: what is settled reaches what is settled
  have clos : ∀ {a b : Nat}, Reach g a b → a < g.length → s.low a = big → s.low b = big := by
    intro a b hr
    induction hr with
    | one hh => intro ha hb; exact (h.setl _ ha hb).1 _ hh
    | step hh _ ih => intro ha hb; exact ih (h.good.hang hh).2 ((h.setl _ ha hb).1 _ hh)
  have xopn : x.thing ∈ s.opn := List.mem_of_getElem? hx2
  intro v
  constructor
  · intro hm
    rcases mut_star.1 hm with ⟨hs1, hs2⟩
    -- along the way
    have key : ∀ {a b : Nat}, Reach g a b → a ∈ s.opn.drop (x.place - 1) → Star g b x.thing → b ∈ s.opn.drop (x.place - 1) := by
      intro a b hr
      induction hr with
      | one hh =>
        intro ha hb
        rcases out _ _ ha hh with h1 | h1
        · exact h1
        · rcases hb with rfl | hb
          · exact absurd h1 (notset _ xopn)
          · exact absurd (clos hb (h.good.hang hh).2 h1) (notset _ xopn)
      | step hh hr2 ih =>
        intro ha hb
        rcases out _ _ ha hh with h1 | h1
        · exact ih h1 hb
        · have h2 := clos hr2 (h.good.hang hh).2 h1
          rcases hb with rfl | hb
          · exact absurd h2 (notset _ xopn)
          · exact absurd (clos hb (h.good.reach hr2).2 h2) (notset _ xopn)
    rcases hs1 with rfl | hs1
    · exact hxS
    · exact key hs1 hxS hs2
  · intro hv
    obtain ⟨j, hj⟩ := List.mem_iff_getElem?.1 hv
    rw [List.getElem?_drop] at hj
    exact mut_star.2 ⟨h.forth _ x hxp _ v hj (by omega), xall _ v hj⟩

noncomputable def St.settle (s : St) (P : List Step) (p m : Nat) : St :=
  ⟨fun k => if k ∈ s.opn.drop (p - 1) then big else s.low k, fun k => if k ∈ s.opn.drop (p - 1) then m else s.first k, P, s.opn.take (p - 1)⟩

theorem Inv.settle (h : Inv g s) (hP : s.path = P ++ [x]) (hd : ∀ l, g[x.thing]? = some l → x.done = l.length) (he : s.low x.thing = x.place) {m : Nat} (hm : IsMin (s.opn.drop (x.place - 1)) m) :
    Inv g (s.settle P x.place m) := by
  have hgrp := h.group hP hd he
  have hxp : s.path[P.length]? = some x := by rw [hP]; simp
  have hx1 := (h.step _ x hxp).1
  have hx2 := (h.step _ x hxp).2.1
  have up : ∀ {i : Nat} {y : Step}, P[i]? = some y → s.path[i]? = some y := fun {i y} hy => by rw [hP]; exact snoc_left hy
  have utop : ∀ k, Under s.path P.length k := fun k y hy => by have := some_lt hy; rw [hP] at this; simp at this
  -- places ahead
  have pl : ∀ (i : Nat) (y : Step), P[i]? = some y → y.place < x.place := by
    intro i y hy
    have key : ∀ (d : Nat) (j : Nat) (q : Step), j + d = P.length → s.path[j]? = some q → q.place ≤ x.place := by
      intro d
      induction d with
      | zero => intro j q hj hq; rw [show j = P.length by omega, hxp] at hq; rw [Option.some.inj hq]; exact Nat.le_refl _
      | succ d ih =>
        intro j q hj hq
        obtain ⟨q2, hq2⟩ : ∃ q2, s.path[j + 1]? = some q2 := ⟨_, List.getElem?_eq_getElem (by rw [hP]; simp; omega)⟩
        have h1 := ih (j + 1) q2 (by omega) hq2
        have h2 := (h.incr j q q2 hq hq2).1
        omega
    have hil := some_lt hy
    obtain ⟨q2, hq2⟩ : ∃ q2, s.path[i + 1]? = some q2 := ⟨_, List.getElem?_eq_getElem (by rw [hP]; simp; omega)⟩
    have h1 := key (P.length - (i + 1)) (i + 1) q2 (by omega) hq2
    have h2 := (h.incr i y q2 (up hy) hq2).1
    omega
  have tk : ∀ {k u : Nat}, (s.opn.take (x.place - 1))[k]? = some u → s.opn[k]? = some u ∧ k < x.place - 1 := by
    intro k u hu
    rw [List.getElem?_take] at hu
    by_cases hk : k < x.place - 1
    · rw [if_pos hk] at hu; exact ⟨hu, hk⟩
    · rw [if_neg hk] at hu; cases hu
  have tk2 : ∀ {k u : Nat}, s.opn[k]? = some u → k < x.place - 1 → (s.opn.take (x.place - 1))[k]? = some u := by
    intro k u hu hk; rw [List.getElem?_take, if_pos hk]; exact hu
  have notS : ∀ {k u : Nat}, s.opn[k]? = some u → k < x.place - 1 → u ∉ s.opn.drop (x.place - 1) := by
    intro k u hu hk hc
    obtain ⟨j, hj⟩ := List.mem_iff_getElem?.1 hc
    rw [List.getElem?_drop] at hj
    have := nodup_at h.nodup hu hj
    omega
  have hSlt : ∀ v ∈ s.opn.drop (x.place - 1), v < g.length := fun v hv => h.lt v (List.mem_of_mem_drop hv)
  -- what the group hangs on
  have notset : ∀ u, u ∈ s.opn → s.low u ≠ big := fun u hu e => by have := (h.lowLt hu).2; omega
  have out : ∀ u v, u ∈ s.opn.drop (x.place - 1) → Hang g u v → v ∈ s.opn.drop (x.place - 1) ∨ s.low v = big := by
    intro u v hu hv
    -- as before: by what is seen
    obtain ⟨j, hj⟩ := List.mem_iff_getElem?.1 hu
    rw [List.getElem?_drop] at hj
    obtain ⟨l, hl, hvl⟩ := hv
    obtain ⟨e, hve⟩ := List.mem_iff_getElem?.1 hvl
    have hle : s.low x.thing ≤ s.low u := by
      by_cases hj0 : j = 0
      · subst hj0
        rw [Nat.add_zero, hx2] at hj
        rw [Option.some.inj hj]; exact Nat.le_refl _
      · rcases h.least _ x hxp _ u hj (by omega) (utop _) with h1 | ⟨_, l, on, ko, h2, h3, _⟩
        · exact h1
        · have := some_lt h3
          rw [hd l h2] at this; omega
    rcases h.seen _ u hj l hl e v hve (fun i y hy hyt => by
      rw [hP] at hy
      rcases snoc_some hy with hy | ⟨rfl, rfl⟩
      · exfalso
        have h2 := pl i y hy
        have h3 := (h.step i y (up hy)).2.1
        rw [hyt] at h3
        have h4 : y.place - 1 = x.place - 1 + j := nodup_at h.nodup h3 hj
        have h5 : 1 ≤ y.place := (h.step i y (up hy)).1
        omega
      · subst hyt
        rw [hd l hl]; exact some_lt hve) with h1 | ⟨kv, h1, h2⟩
    · exact .inr h1
    · left
      refine List.mem_iff_getElem?.2 ⟨kv - (x.place - 1), ?_⟩
      rw [List.getElem?_drop, show x.place - 1 + (kv - (x.place - 1)) = kv by omega]; exact h1
  unfold St.settle
  refine ⟨h.good, h.small, ?_, ?_, ?_, ?_, ?_, ?_, ?_, ?_, ?_, ?_, ?_, ?_, ?_⟩
  all_goals (simp only [])
  · exact h.nodup.sublist (List.take_sublist _ _)
  · intro t ht; exact h.lt t (List.mem_of_mem_take ht)
  · intro k u hu
    obtain ⟨hu1, hk⟩ := tk hu
    rw [if_neg (notS hu1 hk)]
    obtain ⟨h1, h2, v, h3, h4⟩ := h.lowOpen k u hu1
    exact ⟨h1, h2, v, tk2 h3 (by omega), h4⟩
  · intro t ht hn
    by_cases hS : t ∈ s.opn.drop (x.place - 1)
    · rw [if_pos hS]; exact .inr rfl
    · rw [if_neg hS]
      refine h.lowElse t ht fun hc => ?_
      rw [← List.take_append_drop (x.place - 1) s.opn] at hc
      rcases List.mem_append.1 hc with hc | hc
      · exact hn hc
      · exact hS hc
  · intro t ht hb
    by_cases hS : t ∈ s.opn.drop (x.place - 1)
    · rw [if_pos hS]
      refine ⟨fun k hk => ?_, ?_⟩
      · rcases out t k hS hk with h1 | h1
        · rw [if_pos h1]
        · split <;> first | rfl | exact h1
      · have hmt := (hgrp t).2 hS
        refine ⟨hSlt m hm.1, hmt.symm.trans ((hgrp m).2 hm.1), fun k hk => hm.2 k ((hgrp k).1 (hmt.trans hk))⟩
    · rw [if_neg hS] at hb ⊢
      obtain ⟨h1, h2⟩ := h.setl t ht hb
      refine ⟨fun k hk => ?_, h2⟩
      split
      · rfl
      · exact h1 k hk
  · intro i y hy
    obtain ⟨h1, h2, h3⟩ := h.step i y (up hy)
    have := pl i y hy
    exact ⟨h1, tk2 h2 (by omega), h3⟩
  · intro i y y2 hy hy2; exact h.incr i y y2 (up hy) (up hy2)
  · intro y hy; exact h.one y (up hy)
  · intro e
    subst e
    have := h.one x (by rw [hP]; rfl)
    rw [this]; rfl
  · intro i y hy k u hu hun
    obtain ⟨hu1, hk⟩ := tk hu
    exact h.back i y (up hy) k u hu1 (by rw [hP]; exact under_snoc hun fun _ => by omega)
  · intro i y hy k u hu
    exact h.forth i y (up hy) k u (tk hu).1
  · intro k u hu l hl e v hv hdone
    obtain ⟨hu1, hk⟩ := tk hu
    rcases h.seen k u hu1 l hl e v hv (fun i y hy hyt => by
      rw [hP] at hy
      rcases snoc_some hy with hy | ⟨rfl, rfl⟩
      · exact hdone i y hy hyt
      · exfalso
        rw [hyt] at hx2
        have := nodup_at h.nodup hu1 hx2
        omega) with h1 | ⟨kv, h1, h2⟩
    · left
      split
      · rfl
      · exact h1
    · by_cases hkv : kv < x.place - 1
      · refine .inr ⟨kv, tk2 h1 hkv, ?_⟩
        rw [if_neg (notS hu1 hk)]; exact h2
      · left
        rw [if_pos (List.mem_iff_getElem?.2 ⟨kv - (x.place - 1), by rw [List.getElem?_drop, show x.place - 1 + (kv - (x.place - 1)) = kv by omega]; exact h1⟩)]
  · intro i y hy k u hu hlt2 hun
    obtain ⟨hu1, hk⟩ := tk hu
    have hy2 := (h.step i y (up hy)).2.1
    have := pl i y hy
    have := (h.step i y (up hy)).1
    rw [if_neg (notS hu1 hk), if_neg (notS hy2 (by omega))]
    rcases h.least i y (up hy) k u hu1 hlt2 (by rw [hP]; exact under_snoc hun fun _ => by omega) with h1 | ⟨h1, _⟩
    · exact .inl h1
    · have := some_lt hy; rw [hP] at h1; simp at h1; omega

/-- When the path is gone through, all that was come to is settled. -/
theorem Inv.done (h : Inv g s) (hp : s.path = []) : ∀ t, t < g.length → s.low t ≠ 0 → IsLeast g t (s.first t) := by
  intro t ht h0
  rcases h.lowElse t ht (by rw [h.nil hp]; simp) with h1 | h1
  · exact absurd h1 h0
  · exact (h.setl t ht h1).2
end

/-- How much is left to do: for each thing that was not come to, and each step of the path. -/
def sumN : List Nat → Nat
  | [] => 0
  | a :: r => a + sumN r
theorem sumN_append (a b : List Nat) : sumN (a ++ b) = sumN a + sumN b := by
  induction a with
  | nil => simp [sumN]
  | cons x r ih => simp [sumN, ih]; omega
def left (g : List (List Nat)) (s : St) : Nat :=
  sumN ((List.range g.length).map fun t => if s.low t = 0 then (g.getD t []).length + 2 else 0) + sumN (s.path.map fun x => (g.getD x.thing []).length - x.done + 1)
theorem sumN_map_le {f f' : Nat → Nat} : ∀ (l : List Nat), (∀ x ∈ l, f' x ≤ f x) → sumN (l.map f') ≤ sumN (l.map f)
  | [], _ => Nat.le_refl _
  | a :: r, h => by
    have := sumN_map_le r (fun x hx => h x (by simp [hx]))
    have := h a (by simp)
    simp [sumN]; omega
theorem sumN_map_drop {f f' : Nat → Nat} {t d : Nat} : ∀ (l : List Nat), (∀ x ∈ l, f' x ≤ f x) → t ∈ l → f' t + d ≤ f t → sumN (l.map f') + d ≤ sumN (l.map f)
  | [], _, h, _ => by cases h
  | a :: r, h, ht, hd => by
    simp only [List.map_cons, sumN]
    have ha := h a (by simp)
    by_cases e : a = t
    · subst e
      have := sumN_map_le r (fun x hx => h x (by simp [hx]))
      omega
    · have := sumN_map_drop r (fun x hx => h x (by simp [hx])) (by rcases List.mem_cons.1 ht with h1 | h1; exact absurd h1.symm e; exact h1) hd
      omega
theorem left_enter {g : List (List Nat)} {s : St} {t : Nat} (ht : t < g.length) (h0 : s.low t = 0) : left g (s.enter t) < left g s := by
  unfold left St.enter
  simp only [List.map_append, sumN_append, List.map_cons, List.map_nil, sumN]
  have := sumN_map_drop (f := fun u => if s.low u = 0 then (g.getD u []).length + 2 else 0) (f' := fun u => if upd s.low t (s.opn.length + 1) u = 0 then (g.getD u []).length + 2 else 0) (t := t) (d := (g.getD t []).length + 2) (List.range g.length) (fun x _ => by
    by_cases e : x = t
    · subst e; simp [upd_same]
    · simp [upd_ne _ _ e]) (List.mem_range.2 ht) (by simp [upd_same, h0])
  omega
theorem left_edge {g : List (List Nat)} {s : St} {P : List Step} {x : Step} {on : Nat} {l : List Nat} (hP : s.path = P ++ [x]) (hl : g[x.thing]? = some l) (hd : x.done < l.length) (h0 : s.low x.thing ≠ 0) (h1 : s.low on ≠ 0) : left g (s.edge P x on) < left g s := by
  have hg : g.getD x.thing [] = l := by rw [List.getD_eq_getElem?_getD, hl]; rfl
  unfold left St.edge
  simp only [hP, List.map_append, sumN_append, List.map_cons, List.map_nil, sumN, hg]
  have := sumN_map_le (f := fun u => if s.low u = 0 then (g.getD u []).length + 2 else 0) (f' := fun u => if upd s.low x.thing (min (s.low x.thing) (s.low on)) u = 0 then (g.getD u []).length + 2 else 0) (List.range g.length) (fun u _ => by
    by_cases e : u = x.thing
    · subst e
      rw [upd_same, if_neg (by omega)]; omega
    · simp [upd_ne _ _ e])
  omega
theorem left_keep {g : List (List Nat)} {s : St} {P : List Step} {x : Step} (hP : s.path = P ++ [x]) : left g ⟨s.low, s.first, P, s.opn⟩ < left g s := by
  unfold left
  simp only [hP, List.map_append, sumN_append, List.map_cons, List.map_nil, sumN]
  omega
theorem left_settle {g : List (List Nat)} {s : St} {P : List Step} {x : Step} (hP : s.path = P ++ [x]) (p m : Nat) : left g (s.settle P p m) < left g s := by
  unfold left St.settle
  simp only [hP, List.map_append, sumN_append, List.map_cons, List.map_nil, sumN]
  have := sumN_map_le (f := fun u => if s.low u = 0 then (g.getD u []).length + 2 else 0) (f' := fun u => if (if u ∈ s.opn.drop (p - 1) then big else s.low u) = 0 then (g.getD u []).length + 2 else 0) (List.range g.length) (fun u _ => by
    by_cases e : u ∈ s.opn.drop (p - 1)
    · rw [if_pos e, if_neg (by simp [big])]; omega
    · rw [if_neg e]; exact Nat.le_refl _)
  omega
end Gr
end Go.Proofs.Ytjefnmcalmcciaa
