/-
  Groups, found along a path: what stands at each step. No project text.
-/
import Derived.Test.YtjefnmcalmcciaaGr
namespace Go.Proofs.Ytjefnmcalmcciaa
namespace Gr
set_option linter.unusedVariables false
set_option linter.unusedSimpArgs false

theorem nodup_le : ∀ (n : Nat) (l : List Nat), l.Nodup → (∀ x ∈ l, x < n) → l.length ≤ n := by
  intro n
  induction n with
  | zero =>
    intro l _ h
    cases l with
    | nil => simp
    | cons a r => exact absurd (h a (by simp)) (by omega)
  | succ n ih =>
    intro l hn h
    by_cases hm : n ∈ l
    · have h1 := List.length_erase_of_mem hm
      have h2 := ih (l.erase n) (hn.erase n) (fun x hx => by
        have := (hn.mem_erase_iff).1 hx
        have := h x this.2
        omega)
      omega
    · have := ih l hn (fun x hx => by
        have h1 := h x hx
        have : x ≠ n := fun e => hm (e ▸ hx)
        omega)
      omega

theorem snoc_some {α : Type} {P : List α} {s : α} {i : Nat} {x : α} (h : (P ++ [s])[i]? = some x) : P[i]? = some x ∨ (i = P.length ∧ x = s) := by
  rw [List.getElem?_append] at h
  by_cases hi : i < P.length
  · rw [if_pos hi] at h; exact .inl h
  · rw [if_neg hi] at h
    obtain ⟨h1, h2⟩ := List.getElem?_eq_some_iff.1 h
    simp at h1
    refine .inr ⟨by omega, ?_⟩
    subst h2; simp
theorem snoc_left {α : Type} {P : List α} {s : α} {i : Nat} {x : α} (h : P[i]? = some x) : (P ++ [s])[i]? = some x := by
  rw [List.getElem?_append_left (List.getElem?_eq_some_iff.1 h).1]; exact h
theorem snoc_last {α : Type} (P : List α) (s : α) : (P ++ [s])[P.length]? = some s := by simp
theorem some_lt {α : Type} {P : List α} {i : Nat} {x : α} (h : P[i]? = some x) : i < P.length := (List.getElem?_eq_some_iff.1 h).1

structure Step where
  thing : Nat
  place : Nat
  done : Nat

structure St where
  low : Nat → Nat
  first : Nat → Nat
  path : List Step
  opn : List Nat

def upd {α : Type} (f : Nat → α) (i : Nat) (x : α) : Nat → α := fun k => if k = i then x else f k
theorem upd_same {α : Type} (f : Nat → α) (i : Nat) (x : α) : upd f i x i = x := if_pos rfl
theorem upd_ne {α : Type} (f : Nat → α) {i k : Nat} (x : α) (h : k ≠ i) : upd f i x k = f k := if_neg h

def big : Nat := 9223372036854775807
def IsLeast (g : List (List Nat)) (t m : Nat) : Prop := m < g.length ∧ Mut g t m ∧ ∀ k, Mut g t k → m ≤ k

/-- A place that lies ahead of the next step's. -/
def Under (path : List Step) (i k : Nat) : Prop := ∀ s, path[i + 1]? = some s → k + 1 < s.place

structure Inv (g : List (List Nat)) (s : St) : Prop where
  good : Good g
  small : g.length < big
  nodup : s.opn.Nodup
  lt : ∀ t ∈ s.opn, t < g.length
  lowOpen : ∀ (k t : Nat), s.opn[k]? = some t → 1 ≤ s.low t ∧ s.low t ≤ k + 1 ∧ ∃ u, s.opn[s.low t - 1]? = some u ∧ Star g t u
  lowElse : ∀ t, t < g.length → t ∉ s.opn → s.low t = 0 ∨ s.low t = big
  setl : ∀ t, t < g.length → s.low t = big → (∀ k, Hang g t k → s.low k = big) ∧ IsLeast g t (s.first t)
  step : ∀ (i : Nat) (x : Step), s.path[i]? = some x → 1 ≤ x.place ∧ s.opn[x.place - 1]? = some x.thing ∧ ∃ l : List Nat, g[x.thing]? = some l ∧ x.done ≤ l.length
  incr : ∀ (i : Nat) (x y : Step), s.path[i]? = some x → s.path[i + 1]? = some y → x.place < y.place ∧ ∃ l : List Nat, g[x.thing]? = some l ∧ l[x.done]? = some y.thing
  one : ∀ x : Step, s.path[0]? = some x → x.place = 1
  nil : s.path = [] → s.opn = []
  back : ∀ (i : Nat) (x : Step), s.path[i]? = some x → ∀ (k u : Nat), s.opn[k]? = some u → Under s.path i k → Star g u x.thing
  forth : ∀ (i : Nat) (x : Step), s.path[i]? = some x → ∀ (k u : Nat), s.opn[k]? = some u → x.place ≤ k + 1 → Star g x.thing u
  seen : ∀ (k u : Nat), s.opn[k]? = some u → ∀ l : List Nat, g[u]? = some l → ∀ e v, l[e]? = some v → (∀ (i : Nat) (x : Step), s.path[i]? = some x → x.thing = u → e < x.done) →
    s.low v = big ∨ ∃ kv, s.opn[kv]? = some v ∧ s.low u ≤ kv + 1
  least : ∀ (i : Nat) (x : Step), s.path[i]? = some x → ∀ (k u : Nat), s.opn[k]? = some u → x.place < k + 1 → Under s.path i k →
    s.low x.thing ≤ s.low u ∨ (s.path.length = i + 1 ∧ ∃ (l : List Nat) (on ko : Nat), g[x.thing]? = some l ∧ l[x.done]? = some on ∧ s.opn[ko]? = some on ∧ x.place < ko + 1 ∧ s.low on ≤ s.low u)

theorem Inv.len {g : List (List Nat)} {s : St} (h : Inv g s) : s.opn.length ≤ g.length := nodup_le _ _ h.nodup h.lt
theorem Inv.placeGe {g : List (List Nat)} {s : St} (h : Inv g s) : ∀ (i : Nat) (x : Step), s.path[i]? = some x → i + 1 ≤ x.place := by
  intro i
  induction i with
  | zero => intro x hx; exact (h.step 0 x hx).1
  | succ i ih =>
    intro x hx
    have hlt := some_lt hx
    obtain ⟨y, hy⟩ : ∃ y, s.path[i]? = some y := ⟨_, List.getElem?_eq_getElem (by omega)⟩
    have := ih y hy
    have := (h.incr i y x hy hx).1
    omega
theorem Inv.pathLen {g : List (List Nat)} {s : St} (h : Inv g s) : s.path.length ≤ s.opn.length := by
  rcases Nat.eq_zero_or_pos s.path.length with h0 | h0
  · omega
  · obtain ⟨y, hy⟩ : ∃ y, s.path[s.path.length - 1]? = some y := ⟨_, List.getElem?_eq_getElem (by omega)⟩
    have h1 := h.placeGe _ y hy
    have h2 := some_lt (h.step _ y hy).2.1
    omega
theorem Inv.lowLt {g : List (List Nat)} {s : St} (h : Inv g s) {t : Nat} (ht : t ∈ s.opn) : 1 ≤ s.low t ∧ s.low t < big := by
  obtain ⟨k, hk⟩ := List.mem_iff_getElem?.1 ht
  have h1 := h.lowOpen k t hk
  have h2 := some_lt hk
  have h3 := h.len
  have h4 := h.small
  exact ⟨h1.1, by omega⟩
theorem Inv.zero {g : List (List Nat)} {s : St} (h : Inv g s) {t : Nat} (ht : s.low t = 0) : t ∉ s.opn := fun hm => by
  have := (h.lowLt hm).1; omega

theorem Inv.start {g : List (List Nat)} (hg : Good g) (hs : g.length < big) (first : Nat → Nat) : Inv g ⟨fun _ => 0, first, [], []⟩ := by
  refine ⟨hg, hs, ?_, ?_, ?_, ?_, ?_, ?_, ?_, ?_, ?_, ?_, ?_, ?_, ?_⟩
  all_goals (simp only [])
  · exact List.nodup_nil
  · intro t h; cases h
  · intro k t h; simp at h
  · intro t _ _; exact .inl trivial
  · intro t _ h; simp [big] at h
  · intro i x h; simp at h
  · intro i x y h; simp at h
  · intro x h; simp at h
  · intro _; trivial
  · intro i x h; simp at h
  · intro i x h; simp at h
  · intro k u h; simp at h
  · intro i x h; simp at h

def St.enter (s : St) (t : Nat) : St := ⟨upd s.low t (s.opn.length + 1), s.first, s.path ++ [⟨t, s.opn.length + 1, 0⟩], s.opn ++ [t]⟩

theorem nodup_at {l : List Nat} (h : l.Nodup) {i j x : Nat} (hi : l[i]? = some x) (hj : l[j]? = some x) : i = j := by
  obtain ⟨h1, e1⟩ := List.getElem?_eq_some_iff.1 hi
  obtain ⟨h2, e2⟩ := List.getElem?_eq_some_iff.1 hj
  exact (List.getElem_inj h).1 (e1.trans e2.symm)

/-- A thing is come to: the first one, or one on which the path's last one hangs. -/
theorem Inv.enter {g : List (List Nat)} {s : St} (h : Inv g s) {t : Nat} (ht : t < g.length) (h0 : s.low t = 0)
    (hp : s.path = [] ∨ ∃ P x l, s.path = P ++ [x] ∧ g[x.thing]? = some l ∧ l[x.done]? = some t) : Inv g (s.enter t) := by
  have hno : t ∉ s.opn := h.zero h0
  obtain ⟨lt, hlt⟩ : ∃ l, g[t]? = some l := ⟨_, List.getElem?_eq_getElem ht⟩
  have hlow : ∀ u, u ∈ s.opn → upd s.low t (s.opn.length + 1) u = s.low u := fun u hu => upd_ne _ _ (fun e => hno (e ▸ hu))
  -- the last step reaches the new thing, and all reach it
  have hlast : ∀ x : Step, s.path[s.path.length - 1]? = some x → Hang g x.thing t := by
    intro x hx
    rcases hp with hp | ⟨P, y, l, e, h1, h2⟩
    · rw [hp] at hx; simp at hx
    · rw [e] at hx
      simp at hx
      subst hx
      exact ⟨l, h1, List.mem_of_getElem? h2⟩
  have under_last : ∀ k, Under s.path (s.path.length - 1) k := fun k y hy => by have := some_lt hy; omega
  have all_to : ∀ (k u : Nat), s.opn[k]? = some u → Star g u t := by
    intro k u hu
    have hne : s.path ≠ [] := fun e => by rw [h.nil e] at hu; simp at hu
    have hpos := List.length_pos_iff.2 hne
    obtain ⟨x, hx⟩ : ∃ x, s.path[s.path.length - 1]? = some x := ⟨_, List.getElem?_eq_getElem (by omega)⟩
    exact (h.back _ x hx k u hu (under_last k)).trans (.one (hlast x hx))
  have path_to : ∀ (i : Nat) (x : Step), s.path[i]? = some x → Star g x.thing t := fun i x hx => all_to _ _ (h.step i x hx).2.1
  have place_le : ∀ (i : Nat) (x : Step), s.path[i]? = some x → x.place ≤ s.opn.length := fun i x hx => by
    have h1 := some_lt (h.step i x hx).2.1
    have h2 := (h.step i x hx).1
    omega
  unfold St.enter
  refine ⟨h.good, h.small, ?_, ?_, ?_, ?_, ?_, ?_, ?_, ?_, ?_, ?_, ?_, ?_, ?_⟩
  all_goals (simp only [])
  · rw [List.nodup_append]
    exact ⟨h.nodup, by simp, fun a ha b hb e => by simp at hb; subst hb; exact hno (e ▸ ha)⟩
  · intro u hu
    rcases List.mem_append.1 hu with hu | hu
    · exact h.lt u hu
    · simp at hu; omega
  · intro k u hu
    rcases snoc_some hu with hu | ⟨rfl, rfl⟩
    · rw [hlow u (List.mem_of_getElem? hu)]
      obtain ⟨h1, h2, v, h3, h4⟩ := h.lowOpen k u hu
      exact ⟨h1, h2, v, snoc_left h3, h4⟩
    · rw [upd_same]
      exact ⟨by omega, by omega, u, by simp, .refl _ _⟩
  · intro u hu hm
    have h1 : u ∉ s.opn := fun x => hm (List.mem_append.2 (.inl x))
    have h2 : u ≠ t := fun e => hm (List.mem_append.2 (.inr (by simp [e])))
    rw [upd_ne _ _ h2]
    exact h.lowElse u hu h1
  · intro u hu hb
    by_cases e : u = t
    · subst e
      rw [upd_same] at hb
      have := h.len; have := h.small
      have : s.opn.length + 1 ≤ g.length := by
        have := nodup_le g.length (s.opn ++ [u]) (by
          rw [List.nodup_append]
          exact ⟨h.nodup, by simp, fun a ha b hb e => by simp at hb; subst hb; exact hno (e ▸ ha)⟩) (fun x hx => by
          rcases List.mem_append.1 hx with hx | hx
          · exact h.lt x hx
          · simp at hx; omega)
        simpa using this
      omega
    · rw [upd_ne _ _ e] at hb
      obtain ⟨h1, h2⟩ := h.setl u hu hb
      refine ⟨fun k hk => ?_, h2⟩
      have := h1 k hk
      rw [upd_ne _ _ (fun e => by subst e; rw [h0] at this; simp [big] at this)]; exact this
  · intro i x hx
    rcases snoc_some hx with hx | ⟨rfl, rfl⟩
    · obtain ⟨h1, h2, h3⟩ := h.step i x hx
      exact ⟨h1, snoc_left h2, h3⟩
    · exact ⟨by simp, by simp, lt, hlt, by simp⟩
  · intro i x y hx hy
    rcases snoc_some hy with hy | ⟨hi, rfl⟩
    · have hi := some_lt hy
      rcases snoc_some hx with hx | ⟨rfl, rfl⟩
      · exact h.incr i x y hx hy
      · omega
    · rcases snoc_some hx with hx | ⟨rfl, rfl⟩
      · refine ⟨by have := place_le i x hx; simp; omega, ?_⟩
        rcases hp with hp | ⟨P, z, l, e, h1, h2⟩
        · rw [hp] at hx; simp at hx
        · have : i = P.length := by rw [e] at hi; simp at hi; exact hi
          subst this
          rw [e] at hx
          simp at hx
          subst hx
          exact ⟨l, h1, h2⟩
      · omega
  · intro x hx
    rcases snoc_some hx with hx | ⟨hi, rfl⟩
    · exact h.one x hx
    · have : s.path = [] := List.eq_nil_of_length_eq_zero hi.symm
      simp [h.nil this]
  · intro e; simp at e
  · intro i x hx k u hu hun
    rcases snoc_some hx with hx | ⟨rfl, rfl⟩
    · have hi := some_lt hx
      rcases snoc_some hu with hu | ⟨rfl, rfl⟩
      · refine h.back i x hx k u hu fun y hy => hun y (snoc_left hy)
      · exfalso
        by_cases hi2 : i + 1 < s.path.length
        · obtain ⟨y, hy⟩ : ∃ y, s.path[i + 1]? = some y := ⟨_, List.getElem?_eq_getElem hi2⟩
          have := hun y (snoc_left hy)
          have := place_le _ y hy
          omega
        · have e : i + 1 = s.path.length := by omega
          have := hun ⟨u, s.opn.length + 1, 0⟩ (by rw [e]; simp)
          simp at this
    · rcases snoc_some hu with hu | ⟨rfl, rfl⟩
      · exact all_to k u hu
      · exact .refl _ _
  · intro i x hx k u hu hle
    rcases snoc_some hx with hx | ⟨rfl, rfl⟩
    · rcases snoc_some hu with hu | ⟨rfl, rfl⟩
      · exact h.forth i x hx k u hu hle
      · exact path_to i x ‹s.path[i]? = some x›
    · rcases snoc_some hu with hu | ⟨rfl, rfl⟩
      · have := some_lt hu; simp at hle; omega
      · exact .refl _ _
  · intro k u hu l hl e v hv hdone
    rcases snoc_some hu with hu | ⟨rfl, rfl⟩
    · have hm := List.mem_of_getElem? hu
      rcases h.seen k u hu l hl e v hv (fun i x hx hxt => hdone i x (snoc_left hx) hxt) with h1 | ⟨kv, h1, h2⟩
      · left
        rw [upd_ne _ _ (fun e => by subst e; rw [h0] at h1; simp [big] at h1)]; exact h1
      · exact .inr ⟨kv, snoc_left h1, by rw [hlow u hm]; exact h2⟩
    · have := hdone s.path.length ⟨u, s.opn.length + 1, 0⟩ (by simp) rfl
      simp at this
  · intro i x hx k u hu hlt2 hun
    rcases snoc_some hx with hx | ⟨rfl, rfl⟩
    · have hi := some_lt hx
      have hxm : x.thing ∈ s.opn := List.mem_of_getElem? (h.step i x hx).2.1
      rcases snoc_some hu with hu | ⟨rfl, rfl⟩
      · rw [hlow u (List.mem_of_getElem? hu), hlow _ hxm]
        rcases h.least i x hx k u hu hlt2 (fun y hy => hun y (snoc_left hy)) with h1 | ⟨h1, l, on, ko, h2, h3, h4, _⟩
        · exact .inl h1
        · -- the next one was not come to
          exfalso
          rcases hp with hp | ⟨P, z, l', e, h5, h6⟩
          · rw [hp] at hx; simp at hx
          · have : i = P.length := by rw [e] at h1; simp at h1; omega
            subst this
            rw [e] at hx
            simp at hx
            subst hx
            rw [h5] at h2
            obtain rfl := Option.some.inj h2
            rw [h6] at h3
            obtain rfl := Option.some.inj h3
            exact hno (List.mem_of_getElem? h4)
      · exfalso
        by_cases hi2 : i + 1 < s.path.length
        · obtain ⟨y, hy⟩ : ∃ y, s.path[i + 1]? = some y := ⟨_, List.getElem?_eq_getElem hi2⟩
          have := hun y (snoc_left hy)
          have := place_le _ y hy
          omega
        · have e : i + 1 = s.path.length := by omega
          have := hun ⟨u, s.opn.length + 1, 0⟩ (by rw [e]; simp)
          simp at this
    · rcases snoc_some hu with hu | ⟨rfl, rfl⟩
      · have := some_lt hu; simp at hlt2; omega
      · simp at hlt2

/-- The last step goes past one on which its thing hangs. -/
def St.edge (s : St) (P : List Step) (x : Step) (on : Nat) : St := ⟨upd s.low x.thing (min (s.low x.thing) (s.low on)), s.first, P ++ [⟨x.thing, x.place, x.done + 1⟩], s.opn⟩

theorem path_uniq {g : List (List Nat)} {s : St} (h : Inv g s) {i j : Nat} {x y : Step} (hx : s.path[i]? = some x) (hy : s.path[j]? = some y) (e : x.thing = y.thing) : i = j := by
  have key : ∀ (d i : Nat) (x y : Step), s.path[i]? = some x → s.path[i + (d + 1)]? = some y → x.place < y.place := by
    intro d
    induction d with
    | zero => intro i x y hx hy; exact (h.incr i x y hx hy).1
    | succ d ih =>
      intro i x y hx hy
      have hl := some_lt hy
      obtain ⟨z, hz⟩ : ∃ z, s.path[i + 1]? = some z := ⟨_, List.getElem?_eq_getElem (by omega)⟩
      have h1 := (h.incr i x z hx hz).1
      have h2 := ih (i + 1) z y hz (by rw [show i + 1 + (d + 1) = i + (d + 1 + 1) by omega]; exact hy)
      omega
  have hp : x.place = y.place := by
    have h1 := (h.step i x hx).2.1
    have h2 := (h.step j y hy).2.1
    rw [e] at h1
    have := nodup_at h.nodup h1 h2
    have := (h.step i x hx).1
    have := (h.step j y hy).1
    omega
  rcases Nat.lt_trichotomy i j with hlt | he | hlt
  · have := key (j - i - 1) i x y hx (by rw [show i + (j - i - 1 + 1) = j by omega]; exact hy)
    omega
  · exact he
  · have := key (i - j - 1) j y x hy (by rw [show j + (i - j - 1 + 1) = i by omega]; exact hx)
    omega

theorem Inv.edge {g : List (List Nat)} {s : St} (h : Inv g s) {P : List Step} {x : Step} (hP : s.path = P ++ [x]) {l : List Nat} {on : Nat} (hl : g[x.thing]? = some l) (hon : l[x.done]? = some on) (h0 : s.low on ≠ 0) : Inv g (s.edge P x on) := by
  have hxp : s.path[P.length]? = some x := by rw [hP]; simp
  have hxs : 1 ≤ x.place ∧ s.opn[x.place - 1]? = some x.thing := ⟨(h.step _ x hxp).1, (h.step _ x hxp).2.1⟩
  have hxm : x.thing ∈ s.opn := List.mem_of_getElem? hxs.2
  have hhang : Hang g x.thing on := ⟨l, hl, List.mem_of_getElem? hon⟩
  have honlt : on < g.length := (h.good.hang hhang).2
  have hxlow : 1 ≤ s.low x.thing ∧ s.low x.thing ≤ x.place - 1 + 1 := ⟨(h.lowOpen _ _ hxs.2).1, (h.lowOpen _ _ hxs.2).2.1⟩
  have hlen := h.len
  have hsm := h.small
  have hxk := some_lt hxs.2
  -- what on is
  have hcase : s.low on = big ∨ ∃ ko, s.opn[ko]? = some on ∧ s.low on ≤ ko + 1 := by
    by_cases hm : on ∈ s.opn
    · obtain ⟨ko, hko⟩ := List.mem_iff_getElem?.1 hm
      exact .inr ⟨ko, hko, (h.lowOpen ko on hko).2.1⟩
    · rcases h.lowElse on honlt hm with h1 | h1
      · exact absurd h1 h0
      · exact .inl h1
  have hmin1 : 1 ≤ min (s.low x.thing) (s.low on) := by omega
  have hle : ∀ u, upd s.low x.thing (min (s.low x.thing) (s.low on)) u ≤ s.low u := fun u => by
    by_cases e : u = x.thing
    · subst e; rw [upd_same]; omega
    · rw [upd_ne _ _ e]; exact Nat.le_refl _
  -- steps of the new path
  have hstep : ∀ (i : Nat) (y : Step), (P ++ [(⟨x.thing, x.place, x.done + 1⟩ : Step)])[i]? = some y → ∃ z, s.path[i]? = some z ∧ z.thing = y.thing ∧ z.place = y.place ∧ (z = y ∨ (i = P.length ∧ z = x ∧ y.done = x.done + 1)) := by
    intro i y hy
    rcases snoc_some hy with hy | ⟨rfl, rfl⟩
    · exact ⟨y, by rw [hP]; exact snoc_left hy, rfl, rfl, .inl rfl⟩
    · exact ⟨x, hxp, rfl, rfl, .inr ⟨rfl, rfl, rfl⟩⟩
  have hstep2 : ∀ (i : Nat) (z : Step), s.path[i]? = some z → ∃ y : Step, (P ++ [(⟨x.thing, x.place, x.done + 1⟩ : Step)])[i]? = some y ∧ z.thing = y.thing ∧ z.place = y.place ∧ z.done ≤ y.done := by
    intro i z hz
    rw [hP] at hz
    rcases snoc_some hz with hz | ⟨rfl, rfl⟩
    · exact ⟨z, snoc_left hz, rfl, rfl, Nat.le_refl _⟩
    · exact ⟨_, snoc_last _ _, rfl, rfl, by simp⟩
  have hunder : ∀ i k, Under (P ++ [(⟨x.thing, x.place, x.done + 1⟩ : Step)]) i k → Under s.path i k := by
    intro i k hu z hz
    obtain ⟨y, hy, _, e, _⟩ := hstep2 _ z hz
    rw [e]; exact hu y hy
  have hdl : x.done < l.length := some_lt hon
  unfold St.edge
  refine ⟨h.good, h.small, h.nodup, h.lt, ?_, ?_, ?_, ?_, ?_, ?_, ?_, ?_, ?_, ?_, ?_⟩
  all_goals (simp only [])
  · intro k u hu
    by_cases e : u = x.thing
    · subst e
      rw [upd_same]
      obtain ⟨h1, h2, v, h3, h4⟩ := h.lowOpen k _ hu
      refine ⟨hmin1, by omega, ?_⟩
      by_cases hc : s.low x.thing ≤ s.low on
      · rw [Nat.min_eq_left hc]; exact ⟨v, h3, h4⟩
      · rw [Nat.min_eq_right (by omega)]
        rcases hcase with h5 | ⟨ko, h5, h6⟩
        · have := some_lt hu; omega
        · obtain ⟨_, _, v', h7, h8⟩ := h.lowOpen ko on h5
          exact ⟨v', h7, (Star.one hhang).trans h8⟩
    · rw [upd_ne _ _ e]; exact h.lowOpen k u hu
  · intro t ht hm
    rw [upd_ne _ _ (fun e : t = x.thing => hm (by rw [e]; exact hxm))]; exact h.lowElse t ht hm
  · intro t ht hb
    have e : t ≠ x.thing := fun e => by
      subst e
      rw [upd_same] at hb
      have := hxlow.2
      omega
    rw [upd_ne _ _ e] at hb
    obtain ⟨h1, h2⟩ := h.setl t ht hb
    refine ⟨fun k hk => ?_, h2⟩
    have h3 := h1 k hk
    rw [upd_ne _ _ (fun e => by subst e; have := (h.lowLt hxm).2; omega)]; exact h3
  · intro i y hy
    obtain ⟨z, hz, e1, e2, hz2⟩ := hstep i y hy
    obtain ⟨h1, h2, l', h3, h4⟩ := h.step i z hz
    rw [← e1, ← e2]
    refine ⟨h1, h2, l', h3, ?_⟩
    rcases hz2 with rfl | ⟨_, rfl, h5⟩
    · exact h4
    · rw [hl] at h3
      obtain rfl := Option.some.inj h3
      omega
  · intro i y y2 hy hy2
    obtain ⟨z, hz, e1, e2, hz2⟩ := hstep i y hy
    obtain ⟨z2, hz3, e3, e4, _⟩ := hstep _ y2 hy2
    obtain ⟨h1, h2⟩ := h.incr i z z2 hz hz3
    rw [← e1, ← e2, ← e3, ← e4]
    refine ⟨h1, ?_⟩
    rcases hz2 with rfl | ⟨h5, _, _⟩
    · exact h2
    · have := some_lt hy2; simp at this; omega
  · intro y hy
    obtain ⟨z, hz, e1, e2, hz2⟩ := hstep 0 y hy
    rw [← e2]; exact h.one z hz
  · intro e; simp at e
  · intro i y hy k u hu hun
    obtain ⟨z, hz, e1, e2, hz2⟩ := hstep i y hy
    rw [← e1]
    exact h.back i z hz k u hu (hunder i k hun)
  · intro i y hy k u hu hle2
    obtain ⟨z, hz, e1, e2, hz2⟩ := hstep i y hy
    rw [← e1]
    exact h.forth i z hz k u hu (by omega)
  · intro k u hu l' hl' e v hv hdone
    by_cases hnew : u = x.thing ∧ e = x.done
    · obtain ⟨rfl, rfl⟩ := hnew
      rw [hl] at hl'
      obtain rfl := Option.some.inj hl'
      rw [hon] at hv
      obtain rfl := Option.some.inj hv
      rcases hcase with h5 | ⟨ko, h5, h6⟩
      · left
        rw [upd_ne _ _ (fun e => by rw [e] at h5; have := (h.lowLt hxm).2; omega)]; exact h5
      · refine .inr ⟨ko, h5, ?_⟩
        rw [upd_same]; omega
    · rcases h.seen k u hu l' hl' e v hv (fun i z hz hzt => by
        obtain ⟨y, hy, e1, e2, _⟩ := hstep2 i z hz
        have h1 := hdone i y hy (by rw [← e1]; exact hzt)
        rw [hP] at hz
        rcases snoc_some hz with hz | ⟨rfl, rfl⟩
        · rw [show y = z by have := snoc_left (s := (⟨x.thing, x.place, x.done + 1⟩ : Step)) hz; rw [hy] at this; exact Option.some.inj this] at h1
          exact h1
        · rw [snoc_last] at hy
          obtain rfl := Option.some.inj hy
          simp only [] at h1
          have : e ≠ z.done := fun e2 => hnew ⟨hzt.symm, e2⟩
          omega) with h1 | ⟨kv, h1, h2⟩
      · left
        rw [upd_ne _ _ (fun e => by rw [e] at h1; have := (h.lowLt hxm).2; omega)]; exact h1
      · exact .inr ⟨kv, h1, Nat.le_trans (hle u) h2⟩
  · intro i y hy k u hu hlt hun
    obtain ⟨z, hz, e1, e2, hz2⟩ := hstep i y hy
    have hun' := hunder i k hun
    have hune : u ≠ x.thing := fun e => by
      subst e
      -- the last step's own place isn't behind it, nor under it
      have hk : k = x.place - 1 := nodup_at h.nodup hu hxs.2
      by_cases hi : i = P.length
      · subst hi
        rw [hxp] at hz
        obtain rfl := Option.some.inj hz
        have h3 := hxs.1
        clear hcase hxlow hmin1
        omega
      · have hzl := some_lt hz
        have hil : i < P.length := by rw [hP] at hzl; simp at hzl; omega
        -- places up to the last one rise
        have key : ∀ (d : Nat) (j : Nat) (q : Step), j + d = P.length → s.path[j]? = some q → q.place ≤ x.place := by
          intro d
          induction d with
          | zero => intro j q hj hq; rw [show j = P.length by omega, hxp] at hq; rw [Option.some.inj hq]; exact Nat.le_refl _
          | succ d ih =>
            intro j q hj hq
            obtain ⟨q2, hq2⟩ : ∃ q2, s.path[j + 1]? = some q2 := ⟨_, List.getElem?_eq_getElem (by rw [hP]; simp; omega)⟩
            have h1 := ih (j + 1) q2 (by omega) hq2
            have h2 := (h.incr j q q2 hq hq2).1
            omega
        obtain ⟨q2, hq2⟩ : ∃ q2, s.path[i + 1]? = some q2 := ⟨_, List.getElem?_eq_getElem (by rw [hP]; simp; omega)⟩
        have h1 := key (P.length - (i + 1)) (i + 1) q2 (by omega) hq2
        have h2 := hun' q2 hq2
        have h3 := hxs.1
        clear hcase hxlow hmin1
        omega
    rw [upd_ne _ _ hune]
    have hold := h.least i z hz k u hu (by omega) hun'
    rcases hz2 with rfl | ⟨rfl, rfl, h5⟩
    · -- an elder step
      by_cases hi : i = P.length
      · -- can't be: the last one was turned
        subst hi
        rw [snoc_last] at hy
        rw [hxp] at hz
        have e := (Option.some.inj hz).trans (Option.some.inj hy).symm
        have : x.done = x.done + 1 := congrArg Step.done e
        omega
      · rcases hold with h1 | ⟨h1, _⟩
        · exact .inl (Nat.le_trans (hle _) h1)
        · rw [hP] at h1; simp at h1; omega
    · rw [← e1, upd_same]
      left
      rcases hold with h1 | ⟨_, l', on', ko, h2, h3, _, _, h6⟩
      · omega
      · rw [hl] at h2
        obtain rfl := Option.some.inj h2
        rw [hon] at h3
        obtain rfl := Option.some.inj h3
        omega
end Gr
end Go.Proofs.Ytjefnmcalmcciaa
