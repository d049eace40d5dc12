/-
  Groups in turn: of those that wait for none the least one. No project text.
-/
import Derived.Test.YtjefnmcalmcciaaHp
namespace Go.Proofs.Ytjefnmcalmcciaa
namespace Gr
set_option linter.unusedVariables false
set_option linter.unusedSimpArgs false

/-- Of each thing the least one of its group. -/
def Fst (g : List (List Nat)) (f : Nat → Nat) : Prop := ∀ t, t < g.length → IsLeast g t (f t)
section
variable {g : List (List Nat)} {f : Nat → Nat}
theorem Fst.lt (h : Fst g f) {t : Nat} (ht : t < g.length) : f t < g.length := (h t ht).1
theorem Fst.mut (h : Fst g f) {t : Nat} (ht : t < g.length) : Mut g t (f t) := (h t ht).2.1
theorem Fst.le (h : Fst g f) {t : Nat} (ht : t < g.length) : f t ≤ t := (h t ht).2.2 t (.refl _ _)
theorem Fst.eq (h : Fst g f) {s t : Nat} (hs : s < g.length) (ht : t < g.length) (hm : Mut g s t) : f s = f t :=
  Nat.le_antisymm ((h s hs).2.2 _ (hm.trans (h.mut ht))) ((h t ht).2.2 _ (hm.symm.trans (h.mut hs)))
theorem Fst.mut_iff (h : Fst g f) {s t : Nat} (hs : s < g.length) (ht : t < g.length) : Mut g s t ↔ f s = f t :=
  ⟨h.eq hs ht, fun e => (h.mut hs).trans (e ▸ (h.mut ht).symm)⟩
theorem Fst.idem (h : Fst g f) {t : Nat} (ht : t < g.length) : f (f t) = f t := (h.eq ht (h.lt ht) (h.mut ht)).symm
/-- A group, by the first ones. -/
theorem grp_fst (h : Fst g f) {r : Nat} (hr : r < g.length) (e : f r = r) : grp g r = (List.range g.length).filter fun t => f t = r := by
  unfold grp
  apply List.filter_congr
  intro t ht
  rw [Bool.eq_iff_iff, dec_iff, decide_eq_true_iff, h.mut_iff hr (List.mem_range.1 ht), e]
  exact ⟨fun h => h.symm, fun h => h.symm⟩
end

/-- How often groups wait for those that did not come yet. -/
def waitsOf (n : Nat) (us : Nat → List Nat) (R : List Nat) (a : Nat) : Nat := sumN ((List.range n).map fun b => if b ∈ R then 0 else (us b).count a)
theorem sumN_congr {f f' : Nat → Nat} : ∀ (l : List Nat), (∀ x ∈ l, f' x = f x) → sumN (l.map f') = sumN (l.map f)
  | [], _ => rfl
  | a :: r, h => by
    have := sumN_congr r (fun x hx => h x (by simp [hx]))
    have := h a (by simp)
    simp [sumN]; omega
theorem sumN_zero {f : Nat → Nat} : ∀ {l : List Nat}, sumN (l.map f) = 0 → ∀ x ∈ l, f x = 0
  | [], _, x, hx => by cases hx
  | a :: r, h, x, hx => by
    simp only [List.map_cons, sumN] at h
    rcases List.mem_cons.1 hx with rfl | hx
    · omega
    · exact sumN_zero (l := r) (by omega) x hx
theorem sumN_all {f : Nat → Nat} : ∀ {l : List Nat}, (∀ x ∈ l, f x = 0) → sumN (l.map f) = 0
  | [], _ => rfl
  | a :: r, h => by
    have := sumN_all (l := r) (fun x hx => h x (by simp [hx]))
    have := h a (by simp)
    simp [sumN]; omega
theorem sumN_one {f f' : Nat → Nat} {t d : Nat} : ∀ (l : List Nat), l.Nodup → (∀ x ∈ l, x ≠ t → f' x = f x) → t ∈ l → f t = f' t + d → sumN (l.map f) = sumN (l.map f') + d
  | [], _, _, h, _ => by cases h
  | a :: r, hn, h, ht, hd => by
    simp only [List.map_cons, sumN]
    have hn2 := List.nodup_cons.1 hn
    by_cases e : a = t
    · subst e
      have := sumN_congr (f := f) (f' := f') r (fun x hx => h x (by simp [hx]) (fun e => hn2.1 (e ▸ hx)))
      omega
    · have := sumN_one r hn2.2 (fun x hx => h x (by simp [hx])) (by rcases List.mem_cons.1 ht with h1 | h1; exact absurd h1.symm e; exact h1) hd
      have := h a (by simp) e
      omega
theorem waitsOf_come {n : Nat} {us : Nat → List Nat} {R : List Nat} {r : Nat} (hr : r < n) (hn : r ∉ R) (a : Nat) : waitsOf n us R a = waitsOf n us (R ++ [r]) a + (us r).count a := by
  unfold waitsOf
  refine sumN_one (t := r) _ List.nodup_range (fun x _ hx => ?_) (List.mem_range.2 hr) ?_
  · by_cases h : x ∈ R
    · simp [h]
    · simp [h, hx]
  · simp [hn]

/-- Who waits for whom: each group once for each time that one of its things hangs on one of the other's. -/
def Users (g : List (List Nat)) (f : Nat → Nat) (us : Nat → List Nat) : Prop := ∀ a b, a ∈ us b ↔ ∃ t on, Hang g t on ∧ f t = a ∧ f on = b ∧ a ≠ b

/-- What stands while groups come: R came; of the last one so many that wait for it were told. -/
structure Kn (g : List (List Nat)) (f : Nat → Nat) (us : Nat → List Nat) (w : Nat → Nat) (H : List Nat) (R : List Nat) (more : List Nat) : Prop where
  good : Good g
  fst : Fst g f
  users : Users g f us
  part : Part g (R.map (grp g))
  rep : ∀ r ∈ R, r < g.length ∧ f r = r
  nodup : R.Nodup
  waits : ∀ a, w a = waitsOf g.length us R a + more.count a
  closed : ∀ r ∈ R, ∀ b, r ∈ us b → b ∈ R
  heap : IsHeap H H.length
  rdy : ∀ a, H.count a = if a < g.length ∧ f a = a ∧ a ∉ R ∧ w a = 0 then 1 else 0
  ahead : ∀ a ∈ more, a < g.length ∧ f a = a ∧ a ∉ R

section
variable {g : List (List Nat)} {f : Nat → Nat} {us : Nat → List Nat} {w : Nat → Nat} {H R more : List Nat}
theorem Users.rep (hg : Good g) (hf : Fst g f) (hu : Users g f us) {a b : Nat} (h : a ∈ us b) : a < g.length ∧ f a = a ∧ b < g.length ∧ f b = b := by
  obtain ⟨t, on, h1, rfl, rfl, _⟩ := (hu a b).1 h
  obtain ⟨ht, ho⟩ := hg.hang h1
  exact ⟨hf.lt ht, hf.idem ht, hf.lt ho, hf.idem ho⟩
theorem Kn.flat (h : Kn g f us w H R more) {k : Nat} : k ∈ (R.map (grp g)).flatten ↔ k < g.length ∧ f k ∈ R := by
  constructor
  · intro hk
    obtain ⟨l, hl, hkl⟩ := List.mem_flatten.1 hk
    obtain ⟨r, hr, rfl⟩ := List.mem_map.1 hl
    obtain ⟨h1, h2⟩ := mem_grp.1 hkl
    obtain ⟨h3, h4⟩ := h.rep r hr
    have := h.fst.eq h3 h1 h2
    exact ⟨h1, by rw [← this, h4]; exact hr⟩
  · intro ⟨h1, h2⟩
    exact List.mem_flatten.2 ⟨_, List.mem_map.2 ⟨_, h2, rfl⟩, mem_grp.2 ⟨h1, (h.fst.mut h1).symm⟩⟩
/-- One that may come waits for none. -/
theorem Kn.ready (h : Kn g f us w H R []) {j : Nat} (hj : j < g.length) (hn : j ∉ (R.map (grp g)).flatten) (hr : Ready g (R.map (grp g)).flatten j) : f j ∈ H := by
  have hfn : f j ∉ R := fun hc => hn (h.flat.2 ⟨hj, hc⟩)
  have hw : w (f j) = 0 := by
    rw [h.waits]
    have : waitsOf g.length us R (f j) = 0 := by
      refine sumN_all fun b _ => ?_
      by_cases hb : b ∈ R
      · simp [hb]
      · rw [if_neg hb]
        refine List.count_eq_zero.2 fun hc => ?_
        obtain ⟨t, on, h1, h2, h3, h4⟩ := (h.users _ _).1 hc
        obtain ⟨ht, ho⟩ := h.good.hang h1
        have hm : Mut g j t := (h.fst.mut_iff hj ht).2 h2.symm
        rcases hr on (hm.reach (.one h1)) with h5 | h5
        · have := h.fst.eq hj ho h5
          exact h4 (by rw [← h3, ← this])
        · have := (h.flat.1 h5).2
          exact hb (h3 ▸ this)
    simpa using this
  have := h.rdy (f j)
  rw [if_pos ⟨h.fst.lt hj, h.fst.idem hj, hfn, hw⟩] at this
  exact List.count_pos_iff.1 (by omega)
/-- The least one that waits for none comes next. -/
theorem Kn.next (h : Kn g f us w H R []) {r : Nat} {H' : List Nat} (hp : Popped H r H') : r < g.length ∧ f r = r ∧ r ∉ R ∧ w r = 0 ∧ Next g (R.map (grp g)).flatten r := by
  have hc : 1 ≤ H.count r := List.count_pos_iff.2 hp.2.2.2.1
  have hr := h.rdy r
  obtain ⟨h1, h2, h3, h4⟩ : r < g.length ∧ f r = r ∧ r ∉ R ∧ w r = 0 := by
    refine Classical.byContradiction fun hn => ?_
    rw [if_neg hn] at hr; omega
  refine ⟨h1, h2, h3, h4, h1, fun hc => h3 (by have := (h.flat.1 hc).2; rwa [h2] at this), ?_, ?_⟩
  · have hu : ∀ b, r ∈ us b → b ∈ R := by
      intro b hb
      have hbl := (Users.rep h.good h.fst h.users hb).2.2.1
      rw [h.waits] at h4
      have h5 : waitsOf g.length us R r = 0 := by omega
      have h6 := sumN_zero h5 b (List.mem_range.2 hbl)
      by_cases hbR : b ∈ R
      · exact hbR
      · rw [if_neg hbR] at h6
        exact absurd hb (List.count_eq_zero.1 h6)
    have key : ∀ {t k : Nat}, Reach g t k → (Mut g r t ∨ t ∈ (R.map (grp g)).flatten) → (Mut g r k ∨ k ∈ (R.map (grp g)).flatten) := by
      have one : ∀ {t k : Nat}, Hang g t k → (Mut g r t ∨ t ∈ (R.map (grp g)).flatten) → (Mut g r k ∨ k ∈ (R.map (grp g)).flatten) := by
        intro t k hh ht
        obtain ⟨htl, hkl⟩ := h.good.hang hh
        rcases ht with ht | ht
        · by_cases e : f k = r
          · exact .inl ((h.fst.mut_iff h1 hkl).2 (by rw [e]; exact h2))
          · have e2 : f t = r := by rw [← h.fst.eq h1 htl ht]; exact h2
            exact .inr (h.flat.2 ⟨hkl, hu (f k) ((h.users _ _).2 ⟨t, k, hh, e2, rfl, fun e3 => e e3.symm⟩)⟩)
        · exact .inr (h.part.closed' h.good ht hh)
      intro t k hr
      induction hr with
      | one hh => exact one hh
      | step hh _ ih => intro ht; exact ih (one hh ht)
    intro k hk
    exact key hk (.inl (.refl _ _))
  · intro j hj hjD hjr
    have h5 := h.ready (by omega) hjD hjr
    have h6 := hp.2.2.1 _ h5
    have := h.fst.le (show j < g.length by omega)
    omega
/-- It comes; what waits for it is not told yet. -/
theorem Kn.come (h : Kn g f us w H R []) {r : Nat} {H' : List Nat} (hp : Popped H r H') : Kn g f us w H' (R ++ [r]) (us r) := by
  obtain ⟨h1, h2, h3, h4, h5⟩ := h.next hp
  have hu : ∀ b, r ∈ us b → b ∈ R := by
    intro b hb
    have hbl := (Users.rep h.good h.fst h.users hb).2.2.1
    rw [h.waits] at h4
    have h5 : waitsOf g.length us R r = 0 := by omega
    have h6 := sumN_zero h5 b (List.mem_range.2 hbl)
    by_cases hbR : b ∈ R
    · exact hbR
    · rw [if_neg hbR] at h6
      exact absurd hb (List.count_eq_zero.1 h6)
  refine ⟨h.good, h.fst, h.users, ?_, ?_, ?_, ?_, ?_, hp.1, ?_, ?_⟩
  · rw [List.map_append, List.map_cons, List.map_nil]
    exact h.part.snoc h5
  · intro q hq
    rcases List.mem_append.1 hq with hq | hq
    · exact h.rep q hq
    · rw [List.mem_singleton.1 hq]; exact ⟨h1, h2⟩
  · rw [List.nodup_append]
    exact ⟨h.nodup, by simp, fun a ha b hb e => by simp at hb; subst hb; exact h3 (e ▸ ha)⟩
  · intro a
    rw [h.waits, waitsOf_come h1 h3 a]; simp
  · intro q hq b hb
    rcases List.mem_append.1 hq with hq | hq
    · exact List.mem_append.2 (.inl (h.closed q hq b hb))
    · rw [List.mem_singleton.1 hq] at hb
      exact List.mem_append.2 (.inl (hu b hb))
  · intro a
    have e1 := h.rdy a
    have e2 := hp.2.2.2.2 a
    by_cases e : r = a
    · subst e
      rw [if_pos rfl] at e2
      rw [if_pos ⟨h1, h2, h3, h4⟩] at e1
      rw [if_neg (fun hc => hc.2.2.1 (by simp))]; omega
    · rw [if_neg e] at e2
      rw [← Nat.add_zero (H'.count a), ← e2, e1]
      have : (a ∉ R ++ [r]) ↔ a ∉ R := by simp [Ne.symm e]
      simp only [this]
  · intro a ha
    obtain ⟨ha1, ha2, _, _⟩ := Users.rep h.good h.fst h.users ha
    refine ⟨ha1, ha2, fun hc => ?_⟩
    rcases List.mem_append.1 hc with hc | hc
    · exact h3 (h.closed a hc r ha)
    · rw [List.mem_singleton.1 hc] at ha
      obtain ⟨_, _, _, _, _, h6⟩ := (h.users _ _).1 ha
      exact h6 rfl
/-- One that waits is told. -/
theorem Kn.tell {u : Nat} (h : Kn g f us w H R (u :: more)) : 1 ≤ w u ∧ ∀ H', (if w u - 1 = 0 then Pushed H u H' else H' = H) → Kn g f us (upd w u (w u - 1)) H' R more := by
  have hw : 1 ≤ w u := by rw [h.waits u]; simp; omega
  refine ⟨hw, fun H' hH => ?_⟩
  obtain ⟨hu1, hu2, hu3⟩ := h.ahead u (by simp)
  have hwa : ∀ a, upd w u (w u - 1) a = waitsOf g.length us R a + more.count a := by
    intro a
    by_cases e : a = u
    · subst e
      rw [upd_same, h.waits a]; simp
    · rw [upd_ne _ _ e, h.waits a, List.count_cons]
      have : (u == a) = false := by simpa using Ne.symm e
      simp [this]
  refine ⟨h.good, h.fst, h.users, h.part, h.rep, h.nodup, hwa, h.closed, ?_, ?_, fun a ha => h.ahead a (by simp [ha])⟩
  · split at hH
    · exact hH.1
    · subst hH; exact h.heap
  · intro a
    have e1 := h.rdy a
    by_cases e : a = u
    · subst e
      rw [upd_same]
      rw [if_neg (fun hc => by have := hc.2.2.2; omega)] at e1
      split at hH
      · rename_i h0
        rw [hH.2.2 a, if_pos rfl, e1, if_pos ⟨hu1, hu2, hu3, h0⟩]
      · rename_i h0
        subst hH
        rw [e1, if_neg (fun hc => h0 hc.2.2.2)]
    · rw [upd_ne _ _ e, ← e1]
      split at hH
      · rw [hH.2.2 a, if_neg (Ne.symm e)]; rfl
      · subst hH; rfl
/-- When none may come, all came. -/
theorem Kn.done (h : Kn g f us w [] R []) : IsGroups g (R.map (grp g)) := by
  refine ⟨h.part, fun i hi => Classical.byContradiction fun hn => ?_⟩
  obtain ⟨j, hj, hjn, hjr⟩ := exists_next h.good h.part hi hn
  have := h.ready hj hjn hjr
  cases this
theorem Kn.len (h : Kn g f us w H R more) : R.length ≤ g.length := nodup_le _ _ h.nodup fun r hr => (h.rep r hr).1
theorem Kn.start (hg : Good g) (hf : Fst g f) (hu : Users g f us) (hw : ∀ a, w a = waitsOf g.length us [] a) (hh : IsHeap H H.length) (hc : ∀ a, H.count a = if a < g.length ∧ f a = a ∧ w a = 0 then 1 else 0) : Kn g f us w H [] [] :=
  ⟨hg, hf, hu, Part.nil g, (fun r hr => by cases hr), List.nodup_nil, (fun a => by rw [hw]; simp), (fun r hr => by cases hr), hh, (fun a => by rw [hc]; simp), (fun a ha => by cases ha)⟩
end

/-- Of the things ahead of k all on which they hang were gone through, of k the first e. -/
def Went (g : List (List Nat)) (k e t on : Nat) : Prop := ∃ l, g[t]? = some l ∧ ((t < k ∧ on ∈ l) ∨ (t = k ∧ on ∈ l.take e))
structure Tn (g : List (List Nat)) (f : Nat → Nat) (us : Nat → List Nat) (w : Nat → Nat) (k e : Nat) : Prop where
  users : ∀ a b, a ∈ us b ↔ ∃ t on, Went g k e t on ∧ f t = a ∧ f on = b ∧ a ≠ b
  waits : ∀ a, w a = waitsOf g.length us [] a
  len : ∀ b, (us b).length ≤ sumN ((g.take k).map List.length) + e
section
variable {g : List (List Nat)} {f : Nat → Nat} {us : Nat → List Nat} {w : Nat → Nat} {k e : Nat}
theorem Tn.start : Tn g f (fun _ => []) (fun _ => 0) 0 0 := by
  refine ⟨fun a b => ⟨(fun h => by cases h), ?_⟩, fun a => ?_, fun b => by simp⟩
  · rintro ⟨t, on, ⟨l, _, h | h⟩, _⟩
    · omega
    · have := h.2; simp at this
  · symm; exact sumN_all fun x _ => by simp
theorem went_succ {l : List Nat} (hl : g[k]? = some l) {on : Nat} (hon : l[e]? = some on) (t v : Nat) : Went g k (e + 1) t v ↔ Went g k e t v ∨ (t = k ∧ v = on) := by
  have he := some_lt hon
  have e1 : l[e] = on := by rw [List.getElem?_eq_getElem he] at hon; exact Option.some.inj hon
  constructor
  · rintro ⟨l', hl', h | ⟨rfl, h⟩⟩
    · exact .inl ⟨l', hl', .inl h⟩
    · rw [hl] at hl'
      obtain rfl := Option.some.inj hl'
      rw [List.take_succ_eq_append_getElem he] at h
      rcases List.mem_append.1 h with h | h
      · exact .inl ⟨l, hl, .inr ⟨rfl, h⟩⟩
      · exact .inr ⟨rfl, by rw [List.mem_singleton.1 h, e1]⟩
  · rintro (⟨l', hl', h | ⟨rfl, h⟩⟩ | ⟨rfl, rfl⟩)
    · exact ⟨l', hl', .inl h⟩
    · rw [hl] at hl'
      obtain rfl := Option.some.inj hl'
      exact ⟨l, hl, .inr ⟨rfl, by rw [List.take_succ_eq_append_getElem he]; exact List.mem_append.2 (.inl h)⟩⟩
    · exact ⟨l, hl, .inr ⟨rfl, by rw [List.take_succ_eq_append_getElem he, e1]; simp⟩⟩
theorem Tn.same (h : Tn g f us w k e) {l : List Nat} (hl : g[k]? = some l) {on : Nat} (hon : l[e]? = some on) (hf : f on = f k) : Tn g f us w k (e + 1) := by
  refine ⟨fun a b => ?_, h.waits, fun b => by have := h.len b; omega⟩
  rw [h.users a b]
  constructor
  · rintro ⟨t, v, h1, h2⟩
    exact ⟨t, v, (went_succ hl hon t v).2 (.inl h1), h2⟩
  · rintro ⟨t, v, h1, h2, h3, h4⟩
    rcases (went_succ hl hon t v).1 h1 with h1 | ⟨rfl, rfl⟩
    · exact ⟨t, v, h1, h2, h3, h4⟩
    · exact absurd (h2.symm.trans (hf.symm.trans h3)) h4
theorem Tn.other (h : Tn g f us w k e) {l : List Nat} (hl : g[k]? = some l) {on : Nat} (hon : l[e]? = some on) (hf : f on ≠ f k) (hlt : f on < g.length) : Tn g f (upd us (f on) (us (f on) ++ [f k])) (upd w (f k) (w (f k) + 1)) k (e + 1) := by
  refine ⟨fun a b => ?_, fun a => ?_, fun b => ?_⟩
  · have e1 : a ∈ upd us (f on) (us (f on) ++ [f k]) b ↔ a ∈ us b ∨ (b = f on ∧ a = f k) := by
      by_cases hb : b = f on
      · subst hb; rw [upd_same]; simp
      · rw [upd_ne _ _ hb]; simp [hb]
    rw [e1, h.users a b]
    constructor
    · rintro (⟨t, v, h1, h2⟩ | ⟨rfl, rfl⟩)
      · exact ⟨t, v, (went_succ hl hon t v).2 (.inl h1), h2⟩
      · exact ⟨k, on, (went_succ hl hon _ _).2 (.inr ⟨rfl, rfl⟩), rfl, rfl, Ne.symm hf⟩
    · rintro ⟨t, v, h1, h2, h3, h4⟩
      rcases (went_succ hl hon t v).1 h1 with h1 | ⟨rfl, rfl⟩
      · exact .inl ⟨t, v, h1, h2, h3, h4⟩
      · exact .inr ⟨h3.symm, h2.symm⟩
  · have key : waitsOf g.length (upd us (f on) (us (f on) ++ [f k])) [] a = waitsOf g.length us [] a + if f k = a then 1 else 0 := by
      unfold waitsOf
      refine sumN_one (t := f on) _ List.nodup_range (fun x _ hx => ?_) (List.mem_range.2 hlt) ?_
      · simp [upd_ne _ _ hx]
      · simp only [List.not_mem_nil, if_false, upd_same, List.count_append, List.count_singleton, beq_iff_eq]
    rw [key]
    by_cases ha : a = f k
    · subst ha; rw [upd_same, if_pos rfl, h.waits]
    · rw [upd_ne _ _ ha, if_neg (Ne.symm ha), h.waits]; rfl
  · by_cases hb : b = f on
    · subst hb; rw [upd_same]; have := h.len (f on); simp only [List.length_append, List.length_singleton]; omega
    · rw [upd_ne _ _ hb]; have := h.len b; omega
theorem Tn.over (h : Tn g f us w k e) {l : List Nat} (hl : g[k]? = some l) (he : e = l.length) : Tn g f us w (k + 1) 0 := by
  subst he
  refine ⟨fun a b => ?_, h.waits, fun b => ?_⟩
  · rw [h.users a b]
    have e1 : ∀ t v, Went g k l.length t v ↔ Went g (k + 1) 0 t v := by
      intro t v
      constructor
      · rintro ⟨l', hl', ⟨h1, h2⟩ | ⟨rfl, h2⟩⟩
        · exact ⟨l', hl', .inl ⟨by omega, h2⟩⟩
        · rw [hl] at hl'
          obtain rfl := Option.some.inj hl'
          rw [List.take_length] at h2
          exact ⟨l, hl, .inl ⟨by omega, h2⟩⟩
      · rintro ⟨l', hl', ⟨h1, h2⟩ | ⟨_, h2⟩⟩
        · by_cases ht : t = k
          · subst ht
            rw [hl] at hl'
            obtain rfl := Option.some.inj hl'
            exact ⟨l, hl, .inr ⟨rfl, by rw [List.take_length]; exact h2⟩⟩
          · exact ⟨l', hl', .inl ⟨by omega, h2⟩⟩
        · simp at h2
    constructor
    · rintro ⟨t, v, h1, h2⟩; exact ⟨t, v, (e1 t v).1 h1, h2⟩
    · rintro ⟨t, v, h1, h2⟩; exact ⟨t, v, (e1 t v).2 h1, h2⟩
  · have := h.len b
    have hk := some_lt hl
    have e2 : g[k] = l := by rw [List.getElem?_eq_getElem hk] at hl; exact Option.some.inj hl
    rw [List.take_succ_eq_append_getElem hk, List.map_append, sumN_append, e2]
    simp only [List.map_cons, List.map_nil, sumN]; omega
theorem Tn.done (h : Tn g f us w g.length 0) : Users g f us := by
  intro a b
  rw [h.users a b]
  constructor
  · rintro ⟨t, v, ⟨l, hl, ⟨h1, h2⟩ | ⟨_, h2⟩⟩, h3⟩
    · exact ⟨t, v, ⟨l, hl, h2⟩, h3⟩
    · simp at h2
  · rintro ⟨t, v, ⟨l, hl, h2⟩, h3⟩
    exact ⟨t, v, ⟨l, hl, .inl ⟨some_lt hl, h2⟩⟩, h3⟩
end
end Gr
end Go.Proofs.Ytjefnmcalmcciaa
