/-
  Several texts in one: UGr, UGrL, UGrD, UGSt.
-/
import Derived.Test.YtcblppojnailpaaDoorH04
namespace Go.Proofs.YtcblppojnailpaaDoor
namespace Ux
set_option linter.unusedVariables false
set_option linter.unusedSimpArgs false
/-- n parts; D: what each was made of; rep: the part that stands for all made one with it; kids: of each the parts of what it is of, if they have numbers. -/
structure Gr where
 n : Nat
 D : Nat → Ty
 rep : Nat → Nat
 kids : Nat → Option (List Nat)
structure GInv (f : Map) (g : Gr) : Prop where
 free : ∀ i, i < g.n → ∀ v, g.D i = .v v → f v = none
 uniq : ∀ i j, i < g.n → j < g.n → ∀ v, g.D i = .v v → g.D j = .v v → i = j
 rlt : ∀ i, i < g.n → g.rep i < g.n
 rr : ∀ i, i < g.n → g.rep (g.rep i) = g.rep i
 kid : ∀ i, i < g.n → ∀ (nm : List UInt8) (xs : List Ty) (ks : List Nat), g.D i = .a nm xs → g.kids i = some ks → ks.length = xs.length ∧ ∀ (k : Nat) (x : Ty) (c : Nat), xs[k]? = some x → ks[k]? = some c → c < g.n ∧ ∀ σ, Sol f σ → (g.D c).app σ = x.app σ
/-- What makes all that was made one so. -/
def KS (f : Map) (g : Gr) (σ : Sub) : Prop := Sol f σ ∧ ∀ i, i < g.n → (g.D i).app σ = (g.D (g.rep i)).app σ
/-- One by what was made one, and by pairs that wait. -/
inductive Eqv (g : Gr) (P : List (Nat × Nat)) : Nat → Nat → Prop
 | rep {x y} : g.rep x = g.rep y → Eqv g P x y
 | pair {x y} : (x, y) ∈ P → Eqv g P x y
 | symm {x y} : Eqv g P x y → Eqv g P y x
 | trans {x y z} : Eqv g P x y → Eqv g P y z → Eqv g P x z
/-- Parts that were made one are so part by part. -/
def Cong (g : Gr) (P : List (Nat × Nat)) : Prop :=
 ∀ i, i < g.n → g.rep i ≠ i → ∀ (nm : List UInt8) (xs : List Ty), g.D i = .a nm xs → ∃ (ys : List Ty) (ks ks' : List Nat), g.D (g.rep i) = .a nm ys ∧ ys.length = xs.length ∧ g.kids i = some ks ∧ g.kids (g.rep i) = some ks' ∧ ∀ (k c c' : Nat), ks[k]? = some c → ks'[k]? = some c' → Eqv g P c c'
theorem eqv_nil {g : Gr} {x y : Nat} (h : Eqv g [] x y) : g.rep x = g.rep y := by
 induction h with
 | rep h => exact h
 | pair h => cases h
 | symm _ ih => exact ih.symm
 | trans _ _ h1 h2 => exact h1.trans h2
/-- No part is in itself: what a part is of stands lower. -/
structure Ranked (g : Gr) (rk : Nat → Nat) : Prop where
 kids : ∀ i, i < g.n → ∀ nm xs, g.D (g.rep i) = .a nm xs → ∃ ks, g.kids (g.rep i) = some ks ∧ ∀ c ∈ ks, c < g.n ∧ rk (g.rep c) < rk (g.rep i)
/-- What a part comes to. -/
def termN (g : Gr) : Nat → Nat → Ty
 | 0, _ => .v 0
 | k + 1, i => match g.D (g.rep i) with
   | .v n => .v n
   | .a nm _ => .a nm (((g.kids (g.rep i)).getD []).map (termN g k))
theorem termN_stays {f : Map} {g : Gr} {rk : Nat → Nat} (hg : GInv f g) (hr : Ranked g rk) : ∀ (k i : Nat), i < g.n → rk (g.rep i) < k → ∀ j, k ≤ j → termN g j i = termN g k i := by
 intro k
 induction k with
 | zero => intro i _ h; omega
 | succ k ih =>
   intro i hi hk j hj
   obtain ⟨j, rfl⟩ : ∃ m, j = m + 1 := ⟨j - 1, by omega⟩
   rw [termN, termN]
   cases hD : g.D (g.rep i) with
   | v n => rfl
   | a nm xs =>
     obtain ⟨ks, h1, h2⟩ := hr.kids i hi nm xs hD
     simp only [h1, Option.getD_some]
     congr 1
     exact List.map_congr_left fun c hc => ih c (h2 c hc).1 (by have := (h2 c hc).2; omega) j (by omega)
theorem termN_rep {f : Map} {g : Gr} (hg : GInv f g) (k i : Nat) (hi : i < g.n) : termN g k (g.rep i) = termN g k i := by
 cases k with
 | zero => rfl
 | succ k => rw [termN, termN, hg.rr i hi]
theorem termN_one {f : Map} {g : Gr} (hg : GInv f g) (k i j : Nat) (h : g.rep i = g.rep j) : termN g k i = termN g k j := by
 cases k with
 | zero => rfl
 | succ k => rw [termN, termN, h]
theorem list_ext_get {α : Type} {l m : List α} (hl : l.length = m.length) (h : ∀ (k : Nat) (x y : α), l[k]? = some x → m[k]? = some y → x = y) : l = m := by
 refine List.ext_getElem hl (fun k h1 h2 => h k _ _ (List.getElem?_eq_getElem h1) (List.getElem?_eq_getElem h2))
structure Tells (f : Map) (g : Gr) (f' : Map) : Prop where
 old : ∀ n t, f n = some t → f' n = some t
 new : ∀ i, i < g.n → ∀ n, g.D i = .v n → g.rep i ≠ i → f' n = some (g.D (g.rep i))
 only : ∀ n t, f' n = some t → f n = some t ∨ ∃ i, i < g.n ∧ g.D i = .v n ∧ g.rep i ≠ i ∧ t = g.D (g.rep i)
/-- What makes the map's variables stand for what they do makes all one that was made one. -/
theorem tells_one {f f' : Map} {g : Gr} {rk : Nat → Nat} (hg : GInv f g) (hc : Cong g []) (hr : Ranked g rk) (ht : Tells f g f') {σ : Sub} (hσ : Sol f' σ) : KS f g σ := by
 have hf : Sol f σ := fun n t h => hσ n t (ht.old n t h)
 refine ⟨hf, ?_⟩
 have key : ∀ k i, i < g.n → rk (g.rep i) < k → (g.D i).app σ = (g.D (g.rep i)).app σ := by
  intro k
  induction k with
  | zero => intro i _ h; omega
  | succ k ih =>
    intro i hi hk
    by_cases hroot : g.rep i = i
    · rw [hroot]
    · cases hD : g.D i with
      | v n => rw [app_v]; exact hσ n _ (ht.new i hi n hD hroot)
      | a nm xs =>
        obtain ⟨ys, ks, ks', h1, h2, h3, h4, h5⟩ := hc i hi hroot nm xs hD
        obtain ⟨h6, h7⟩ := hg.kid i hi nm xs ks hD h3
        obtain ⟨h8, h9⟩ := hg.kid (g.rep i) (hg.rlt i hi) nm ys ks' h1 h4
        obtain ⟨ks2, h10, h11⟩ := hr.kids i hi nm ys h1
        rw [h4] at h10
        cases h10
        rw [h1, app_a, app_a]
        congr 1
        refine list_ext_get (by simp [h2]) (fun m x y hx hy => ?_)
        rw [List.getElem?_map, Option.map_eq_some_iff] at hx hy
        obtain ⟨x', hx, rfl⟩ := hx
        obtain ⟨y', hy, rfl⟩ := hy
        obtain ⟨c, hcc⟩ : ∃ c, ks[m]? = some c := ⟨_, List.getElem?_eq_getElem (by rw [h6]; exact (List.getElem?_eq_some_iff.1 hx).1)⟩
        obtain ⟨c', hcc'⟩ : ∃ c, ks'[m]? = some c := ⟨_, List.getElem?_eq_getElem (by rw [h8]; exact (List.getElem?_eq_some_iff.1 hy).1)⟩
        have e1 := h7 m x' c hx hcc
        have e2 := h9 m y' c' hy hcc'
        have e3 := eqv_nil (h5 m c c' hcc hcc')
        have e4 := h11 c' (List.mem_of_getElem? hcc')
        rw [← e1.2 σ hf, ← e2.2 σ hf, ih c e1.1 (by rw [e3]; omega), ih c' e2.1 (by omega), e3]
 exact fun i hi => key _ i hi (Nat.lt_succ_self _)
theorem tells_sol {f f' : Map} {g : Gr} (ht : Tells f g f') {σ : Sub} (h : KS f g σ) : Sol f' σ := by
 intro n t hn
 rcases ht.only n t hn with h1 | ⟨i, hi, h1, _, rfl⟩
 · exact h.1 n t h1
 · have := h.2 i hi
   rw [h1, app_v] at this
   exact this
theorem tells_fine {f f' : Map} {g : Gr} {rk : Nat → Nat} (hf : Fine f) (hg : GInv f g) (hc : Cong g []) (hr : Ranked g rk) (ht : Tells f g f') : Fine f' := by
 obtain ⟨N, hN⟩ := hf.norm
 obtain ⟨B, hB⟩ : ∃ B : Nat, ∀ i, i < g.n → rk (g.rep i) < B := by
  have key : ∀ m : Nat, ∃ B : Nat, ∀ i, i < m → rk (g.rep i) < B := by
   intro m
   induction m with
   | zero => exact ⟨0, fun i h => by omega⟩
   | succ m ih =>
     obtain ⟨B, h⟩ := ih
     refine ⟨max B (rk (g.rep m) + 1), fun i hi => ?_⟩
     by_cases e : i = m
     · subst e; omega
     · have := h i (by omega); omega
  exact key g.n
 obtain ⟨T, hT⟩ : ∃ T : Nat → Ty, T = termN g B := ⟨_, rfl⟩
 have hTv : ∀ i, i < g.n → ∀ n, g.D (g.rep i) = .v n → T i = .v n := by
  intro i hi n h
  rw [hT]
  obtain ⟨b, rfl⟩ : ∃ b, B = b + 1 := ⟨B - 1, by have := hB i hi; omega⟩
  rw [termN, h]
 have hTa : ∀ i, i < g.n → ∀ nm xs ks, g.D (g.rep i) = .a nm xs → g.kids (g.rep i) = some ks → T i = .a nm (ks.map T) := by
  intro i hi nm xs ks h hk
  have h0 := termN_stays hg hr B i hi (hB i hi) (B + 1) (by omega)
  rw [hT, ← h0, termN, h]
  simp only [hk, Option.getD_some]
 have hT1 : ∀ i j, g.rep i = g.rep j → T i = T j := fun i j h => by rw [hT]; exact termN_one hg B i j h
 -- what free variables stand for
 obtain ⟨β, hβ⟩ : ∃ β : Sub, (∀ i, i < g.n → ∀ n, g.D i = .v n → β n = T i) := by
  classical
  refine ⟨fun n => if h : ∃ i, i < g.n ∧ g.D i = .v n then T (Classical.choose h) else .v n, fun i hi n hD => ?_⟩
  have h : ∃ i, i < g.n ∧ g.D i = .v n := ⟨i, hi, hD⟩
  have h2 := Classical.choose_spec h
  simp only [dif_pos h]
  rw [hg.uniq _ i h2.1 hi n h2.2 hD]
 have hs : Sol f (fun n => (N n).app β) := by
  intro n t hn
  show (N n).app β = _
  rw [hN n, hn]
  show (t.app N).app β = _
  rw [app_app]
 have hfree : ∀ n, f n = none → (N n).app β = β n := by
  intro n hn
  rw [hN n, hn]
  show (Ty.v n).app β = _
  rw [app_v]
 have hall : ∀ k i, i < g.n → rk (g.rep i) < k → (g.D i).app (fun n => (N n).app β) = T i := by
  intro k
  induction k with
  | zero => intro i _ h; omega
  | succ k ih =>
    intro i hi hk
    cases hD : g.D i with
    | v n => rw [app_v, hfree n (hg.free i hi n hD)]; exact hβ i hi n hD
    | a nm xs =>
      have hroot : ∃ (ys : List Ty) (ks ks' : List Nat), g.D (g.rep i) = .a nm ys ∧ ys.length = xs.length ∧ g.kids i = some ks ∧ g.kids (g.rep i) = some ks' ∧ ∀ (m c c' : Nat), ks[m]? = some c → ks'[m]? = some c' → g.rep c = g.rep c' := by
       by_cases e : g.rep i = i
       · obtain ⟨ks, h1, h2⟩ := hr.kids i hi nm xs (by rw [e]; exact hD)
         exact ⟨xs, ks, ks, by rw [e]; exact hD, rfl, by rw [e] at h1; exact h1, h1, fun m c c' h3 h4 => by rw [h3] at h4; cases h4; rfl⟩
       · obtain ⟨ys, ks, ks', h1, h2, h3, h4, h5⟩ := hc i hi e nm xs hD
         exact ⟨ys, ks, ks', h1, h2, h3, h4, fun m c c' h6 h7 => eqv_nil (h5 m c c' h6 h7)⟩
      obtain ⟨ys, ks, ks', h1, h2, h3, h4, h5⟩ := hroot
      obtain ⟨h6, h7⟩ := hg.kid i hi nm xs ks hD h3
      obtain ⟨h8, _⟩ := hg.kid (g.rep i) (hg.rlt i hi) nm ys ks' h1 h4
      obtain ⟨ks2, h10, h11⟩ := hr.kids i hi nm ys h1
      rw [h4] at h10
      cases h10
      rw [hTa i hi nm ys ks' h1 h4, app_a]
      congr 1
      refine list_ext_get (by simp; omega) (fun m x y hx hy => ?_)
      rw [List.getElem?_map, Option.map_eq_some_iff] at hx hy
      obtain ⟨x', hx, rfl⟩ := hx
      obtain ⟨c', hc', rfl⟩ := hy
      obtain ⟨c, hcc⟩ : ∃ c, ks[m]? = some c := ⟨_, List.getElem?_eq_getElem (by rw [h6]; exact (List.getElem?_eq_some_iff.1 hx).1)⟩
      have e1 := h7 m x' c hx hcc
      have e3 := h5 m c c' hcc hc'
      have e4 := h11 c' (List.mem_of_getElem? hc')
      rw [← e1.2 _ hs, ih c e1.1 (by rw [e3]; omega), hT1 c c' e3]
 have hall' := fun i hi => hall _ i hi (Nat.lt_succ_self (rk (g.rep i)))
 refine ⟨?_, _, tells_sol ht ⟨hs, fun i hi => ?_⟩⟩
 · classical
   obtain ⟨r, hrr⟩ := hf.down
   refine ⟨fun n => if f n = none then (if f' n = none then 0 else 1) else r n + 2, fun n m hn => ?_⟩
   simp only
   rcases ht.only n _ hn with h1 | ⟨i, hi, h1, h2, h3⟩
   · have h4 := hrr n m h1
     rw [if_neg (show ¬ f n = none by rw [h1]; simp)]
     split
     · split <;> omega
     · omega
   · have h5 : f n = none := hg.free i hi n h1
     have h6 : f m = none := hg.free (g.rep i) (hg.rlt i hi) m h3.symm
     have h7 : f' m = none := by
      cases h : f' m with
      | none => rfl
      | some t =>
        rcases ht.only m t h with h8 | ⟨j, hj, h8, h9, _⟩
        · rw [h6] at h8; cases h8
        · have := hg.uniq j (g.rep i) hj (hg.rlt i hi) m h8 h3.symm
          subst this
          exact absurd (hg.rr i hi) h9
     simp only [h5, h6, h7, hn, if_true]
     simp
 · rw [hall' i hi, hall' (g.rep i) (hg.rlt i hi)]
   exact hT1 i (g.rep i) (hg.rr i hi).symm
end Ux
end Go.Proofs.YtcblppojnailpaaDoor
namespace Go.Proofs.YtcblppojnailpaaDoor
namespace Ux
set_option linter.unusedVariables false
set_option linter.unusedSimpArgs false
/-- Part i, that stands for itself, is made one with j. -/
def link (g : Gr) (i j : Nat) : Gr := { g with rep := fun x => if g.rep x = i then j else g.rep x }
/-- What the parts S are of has numbers. -/
def setK (g : Gr) (S : Nat → Prop) [DecidablePred S] (ks : List Nat) : Gr := { g with kids := fun x => if S x then some ks else g.kids x }
theorem Eqv.mono {g g' : Gr} {P P' : List (Nat × Nat)} {x y : Nat} (h : Eqv g P x y) (h1 : ∀ x y, g.rep x = g.rep y → Eqv g' P' x y) (h2 : ∀ x y, (x, y) ∈ P → Eqv g' P' x y) : Eqv g' P' x y := by
 induction h with
 | rep h => exact h1 _ _ h
 | pair h => exact h2 _ _ h
 | symm _ ih => exact ih.symm
 | trans _ _ a b => exact a.trans b
theorem link_says {f : Map} {g : Gr} (h : GInv f g) {i j : Nat} (hi : i < g.n) (hj : j < g.n) (ri : g.rep i = i) (rj : g.rep j = j) (σ : Sub) : KS f (link g i j) σ ↔ KS f g σ ∧ (g.D i).app σ = (g.D j).app σ := by
 constructor
 · rintro ⟨h1, h2⟩
   have h3 : (g.D i).app σ = (g.D j).app σ := by
    have := h2 i hi
    simp only [link, ri, if_true] at this
    exact this
   refine ⟨⟨h1, fun x hx => ?_⟩, h3⟩
   have := h2 x hx
   simp only [link] at this
   by_cases e : g.rep x = i
   · rw [if_pos e] at this; rw [e, h3]; exact this
   · rw [if_neg e] at this; exact this
 · rintro ⟨⟨h1, h2⟩, h3⟩
   refine ⟨h1, fun x hx => ?_⟩
   show (g.D x).app σ = (g.D (if g.rep x = i then j else g.rep x)).app σ
   by_cases e : g.rep x = i
   · rw [if_pos e, ← h3, ← e]; exact h2 x hx
   · rw [if_neg e]; exact h2 x hx
theorem link_rep {g : Gr} {i j x y : Nat} (h : g.rep x = g.rep y) : (link g i j).rep x = (link g i j).rep y := by simp only [link, h]
theorem link_two {g : Gr} {i j x y : Nat} (rj : g.rep j = j) (hx : g.rep x = i) (hy : g.rep y = j) : (link g i j).rep x = (link g i j).rep y := by
 simp only [link, hx, hy, if_true]
 split <;> rfl
/-- A pair whose parts are one already says nothing. -/
theorem cong_skip {g : Gr} {P : List (Nat × Nat)} {x y : Nat} (h : Cong g ((x, y) :: P)) (e : g.rep x = g.rep y) : Cong g P := by
 intro i hi hr nm xs hD
 obtain ⟨ys, ks, ks', h1, h2, h3, h4, h5⟩ := h i hi hr nm xs hD
 refine ⟨ys, ks, ks', h1, h2, h3, h4, fun k c c' hc hc' => (h5 k c c' hc hc').mono (fun _ _ h => .rep h) (fun a b hab => ?_)⟩
 rcases List.mem_cons.1 hab with h | h
 · cases h; exact .rep e
 · exact .pair h
/-- A variable made one with something. -/
theorem cong_var {f : Map} {g : Gr} {P : List (Nat × Nat)} {x y i j v : Nat} (hg : GInv f g) (h : Cong g ((x, y) :: P)) (hi : i < g.n) (hj : j < g.n) (ri : g.rep i = i) (rj : g.rep j = j) (hij : i ≠ j) (hD : g.D i = .v v) (hxy : (g.rep x = i ∧ g.rep y = j) ∨ (g.rep x = j ∧ g.rep y = i)) : Cong (link g i j) P := by
 have hp : (link g i j).rep x = (link g i j).rep y := by
  rcases hxy with ⟨a, b⟩ | ⟨a, b⟩
  · exact link_two rj a b
  · exact (link_two rj b a).symm
 intro c hc hr nm xs hDc
 have hci : c ≠ i := fun e => by subst e; rw [show (link g c j).D c = g.D c from rfl, hD] at hDc; cases hDc
 have hrc : g.rep c ≠ c := by
  intro e
  apply hr
  show (if g.rep c = i then j else g.rep c) = c
  rw [e, if_neg hci]
 obtain ⟨ys, ks, ks', h1, h2, h3, h4, h5⟩ := h c hc hrc nm xs hDc
 have hri : g.rep c ≠ i := fun e => by rw [e, hD] at h1; cases h1
 have e : (link g i j).rep c = g.rep c := by show (if g.rep c = i then j else g.rep c) = g.rep c; rw [if_neg hri]
 refine ⟨ys, ks, ks', by rw [e]; exact h1, h2, h3, by rw [e]; exact h4, fun k d d' hd hd' => (h5 k d d' hd hd').mono (fun _ _ h => .rep (link_rep h)) (fun a b hab => ?_)⟩
 rcases List.mem_cons.1 hab with h | h
 · cases h; exact .rep hp
 · exact .pair h
/-- Two parts that have names made one: their parts wait. -/
theorem cong_app {f : Map} {g : Gr} {P : List (Nat × Nat)} {x y i j : Nat} {nm : List UInt8} {xs ys : List Ty} {ks ks' : List Nat} (hg : GInv f g) (h : Cong g ((x, y) :: P)) (hi : i < g.n) (hj : j < g.n) (ri : g.rep i = i) (rj : g.rep j = j) (hij : i ≠ j)
 (hDi : g.D i = .a nm xs) (hDj : g.D j = .a nm ys) (hl : ys.length = xs.length) (ki : g.kids i = some ks) (kj : g.kids j = some ks') (hx : g.rep x = i) (hy : g.rep y = j) (P' : List (Nat × Nat)) (hP : ∀ p ∈ P, p ∈ P') (hP' : ∀ (k c c' : Nat), ks[k]? = some c → ks'[k]? = some c' → (c, c') ∈ P') : Cong (link g i j) P' := by
 have hp : (link g i j).rep x = (link g i j).rep y := link_two rj hx hy
 have lift : ∀ a b, Eqv g ((x, y) :: P) a b → Eqv (link g i j) P' a b := fun a b hab => hab.mono (fun _ _ h => .rep (link_rep h)) (fun a b hab => by
  rcases List.mem_cons.1 hab with h | h
  · cases h; exact .rep hp
  · exact .pair (hP _ h))
 intro c hc hr nm' zs hDc
 by_cases hci : c = i
 · subst hci
   have hDc' : g.D c = .a nm' zs := hDc
   rw [hDi] at hDc'
   cases hDc'
   have e : (link g c j).rep c = j := by show (if g.rep c = c then j else g.rep c) = j; rw [if_pos ri]
   exact ⟨ys, ks, ks', by rw [e]; exact hDj, hl, ki, by rw [e]; exact kj, fun k d d' hd hd' => .pair (hP' k d d' hd hd')⟩
 · have hrc : g.rep c ≠ c := by
    intro e
    apply hr
    show (if g.rep c = i then j else g.rep c) = c
    rw [e, if_neg hci]
   obtain ⟨us, ls, ls', h1, h2, h3, h4, h5⟩ := h c hc hrc nm' zs hDc
   by_cases hri : g.rep c = i
   · rw [hri, hDi] at h1
     cases h1
     rw [hri, ki] at h4
     cases h4
     have e : (link g i j).rep c = j := by show (if g.rep c = i then j else g.rep c) = j; rw [if_pos hri]
     refine ⟨ys, ls, ks', by rw [e]; exact hDj, by omega, h3, by rw [e]; exact kj, fun k d d' hd hd' => ?_⟩
     have h6 := (hg.kid i hi nm xs ks hDi ki).1
     have h7 := (hg.kid j hj nm ys ks' hDj kj).1
     have hk : k < ks.length := by have := (List.getElem?_eq_some_iff.1 hd').1; omega
     obtain ⟨m, hm⟩ : ∃ m, ks[k]? = some m := ⟨_, List.getElem?_eq_getElem hk⟩
     exact (lift _ _ (h5 k d m hd hm)).trans (.pair (hP' k m d' hm hd'))
   · have e : (link g i j).rep c = g.rep c := by show (if g.rep c = i then j else g.rep c) = g.rep c; rw [if_neg hri]
     exact ⟨us, ls, ls', by rw [e]; exact h1, h2, h3, by rw [e]; exact h4, fun k d d' hd hd' => lift _ _ (h5 k d d' hd hd')⟩
/-- What makes two types with names one makes all that they are of one. -/
theorem app_parts {f : Map} {g : Gr} {i j : Nat} {nm : List UInt8} {xs ys : List Ty} {ks ks' : List Nat} (hg : GInv f g) (hi : i < g.n) (hj : j < g.n) (hDi : g.D i = .a nm xs) (hDj : g.D j = .a nm ys) (hl : ys.length = xs.length) (ki : g.kids i = some ks) (kj : g.kids j = some ks') {σ : Sub} (hσ : Sol f σ) :
 (g.D i).app σ = (g.D j).app σ ↔ ∀ (k c c' : Nat), ks[k]? = some c → ks'[k]? = some c' → (g.D c).app σ = (g.D c').app σ := by
 obtain ⟨h1, h2⟩ := hg.kid i hi nm xs ks hDi ki
 obtain ⟨h3, h4⟩ := hg.kid j hj nm ys ks' hDj kj
 rw [hDi, hDj, app_a, app_a]
 constructor
 · intro h k c c' hc hc'
   injection h with _ h
   obtain ⟨x, hx⟩ : ∃ x, xs[k]? = some x := ⟨_, List.getElem?_eq_getElem (by rw [← h1]; exact (List.getElem?_eq_some_iff.1 hc).1)⟩
   obtain ⟨y, hy⟩ : ∃ y, ys[k]? = some y := ⟨_, List.getElem?_eq_getElem (by rw [← h3]; exact (List.getElem?_eq_some_iff.1 hc').1)⟩
   rw [(h2 k x c hx hc).2 σ hσ, (h4 k y c' hy hc').2 σ hσ]
   have e := congrArg (fun l : List Ty => l[k]?) h
   simp only [List.getElem?_map, hx, hy, Option.map_some, Option.some.injEq] at e
   exact e
 · intro h
   congr 1
   refine list_ext_get (by simp [hl]) (fun k u w hu hw => ?_)
   rw [List.getElem?_map, Option.map_eq_some_iff] at hu hw
   obtain ⟨x, hx, rfl⟩ := hu
   obtain ⟨y, hy, rfl⟩ := hw
   obtain ⟨c, hc⟩ : ∃ c, ks[k]? = some c := ⟨_, List.getElem?_eq_getElem (by rw [h1]; exact (List.getElem?_eq_some_iff.1 hx).1)⟩
   obtain ⟨c', hc'⟩ : ∃ c, ks'[k]? = some c := ⟨_, List.getElem?_eq_getElem (by rw [h3]; exact (List.getElem?_eq_some_iff.1 hy).1)⟩
   rw [← (h2 k x c hx hc).2 σ hσ, ← (h4 k y c' hy hc').2 σ hσ]
   exact h k c c' hc hc'
/-- A part that is, made one, in itself: nothing makes that so. -/
theorem no_ring {f : Map} {g : Gr} (hg : GInv f g) {σ : Sub} (hσ : KS f g σ) (way : Nat → Nat) (n : Nat) (hw : ∀ k, k ≤ n → way k < g.n) (step : ∀ k, k ≤ n → ∃ nm xs ks c, g.D (way k) = .a nm xs ∧ g.kids (way k) = some ks ∧ c ∈ ks ∧ g.rep c = (if k = n then way 0 else way (k + 1))) : False := by
 have one : ∀ k, k ≤ n → ((g.D (if k = n then way 0 else way (k + 1))).app σ).sz < ((g.D (way k)).app σ).sz := by
  intro k hk
  obtain ⟨nm, xs, ks, c, h1, h2, h3, h4⟩ := step k hk
  obtain ⟨m, hm⟩ := List.mem_iff_getElem?.1 h3
  obtain ⟨h5, h6⟩ := hg.kid (way k) (hw k hk) nm xs ks h1 h2
  obtain ⟨x, hx⟩ : ∃ x, xs[m]? = some x := ⟨_, List.getElem?_eq_getElem (by rw [← h5]; exact (List.getElem?_eq_some_iff.1 hm).1)⟩
  have h7 := h6 m x c hx hm
  rw [← h4, ← hσ.2 c h7.1, h7.2 σ hσ.1, h1, app_a, sz_a]
  have := sum_ge Ty.sz (List.mem_map.2 ⟨x, List.mem_of_getElem? hx, rfl⟩ : x.app σ ∈ xs.map (Ty.app σ))
  omega
 have down : ∀ k, k ≤ n → ((g.D (way k)).app σ).sz + k ≤ ((g.D (way 0)).app σ).sz := by
  intro k
  induction k with
  | zero => intro _; omega
  | succ k ih =>
    intro hk
    have h1 := ih (by omega)
    have h2 := one k (by omega)
    rw [if_neg (by omega)] at h2
    omega
 have h1 := one n (Nat.le_refl _)
 rw [if_pos rfl] at h1
 have h2 := down n (Nat.le_refl _)
 omega
end Ux
end Go.Proofs.YtcblppojnailpaaDoor
namespace Go.Proofs.YtcblppojnailpaaDoor
namespace Ux
set_option linter.unusedVariables false
set_option linter.unusedSimpArgs false
/-- More parts, more numbers; nothing else. -/
structure Ext (g g' : Gr) : Prop where
 n : g.n ≤ g'.n
 D : ∀ x, x < g.n → g'.D x = g.D x
 rep : ∀ x, x < g.n → g'.rep x = g.rep x
 kids : ∀ x ks, x < g.n → g.kids x = some ks → g'.kids x = some ks
theorem Ext.refl (g : Gr) : Ext g g := ⟨Nat.le_refl _, fun _ _ => rfl, fun _ _ => rfl, fun _ _ _ h => h⟩
theorem Ext.trans {a b c : Gr} (h : Ext a b) (k : Ext b c) : Ext a c :=
 ⟨Nat.le_trans h.n k.n, fun x hx => (k.D x (Nat.lt_of_lt_of_le hx h.n)).trans (h.D x hx), fun x hx => (k.rep x (Nat.lt_of_lt_of_le hx h.n)).trans (h.rep x hx), fun x ks hx e => k.kids x ks (Nat.lt_of_lt_of_le hx h.n) (h.kids x ks hx e)⟩
/-- Parts' parts have numbers that there are. -/
def KLt (g : Gr) : Prop := ∀ x ks, x < g.n → g.kids x = some ks → ∀ c ∈ ks, c < g.n
/-- A list of parts each behind those that are in it. -/
def LOk (g : Gr) (L : List Nat) : Prop := ∀ (k x : Nat), L[k]? = some x → x < g.n ∧ g.rep x = x ∧ ∀ nm xs, g.D x = .a nm xs → ∃ ks, g.kids x = some ks ∧ ∀ c ∈ ks, ∃ m, m < k ∧ L[m]? = some (g.rep c)
theorem LOk.ext {g g' : Gr} {L : List Nat} (h : LOk g L) (e : Ext g g') (hk : KLt g) : LOk g' L := by
 intro k x hx
 obtain ⟨h1, h2, h3⟩ := h k x hx
 refine ⟨Nat.lt_of_lt_of_le h1 e.n, by rw [e.rep x h1, h2], fun nm xs hD => ?_⟩
 rw [e.D x h1] at hD
 obtain ⟨ks, h4, h5⟩ := h3 nm xs hD
 refine ⟨ks, e.kids x ks h1 h4, fun c hc => ?_⟩
 obtain ⟨m, h6, h7⟩ := h5 c hc
 exact ⟨m, h6, by rw [e.rep c (hk x ks h1 h4 c hc)]; exact h7⟩
/-- The way into parts, the last one first: what of each was not gone into. -/
def WOk (g : Gr) (L : List Nat) : Option Nat → List (Nat × List Nat) → Prop
 | _, [] => True
 | above, (p, rest) :: W => p < g.n ∧ g.rep p = p ∧ (∀ nm xs, g.D p = .a nm xs → ∃ ks don, g.kids p = some ks ∧ ks = don ++ rest ∧ ∀ c ∈ don, g.rep c ∈ L ∨ some (g.rep c) = above) ∧ (∀ v, g.D p = .v v → rest = []) ∧
    (∀ q, above = some q → ∃ nm xs ks c, g.D p = .a nm xs ∧ g.kids p = some ks ∧ c ∈ ks ∧ g.rep c = q) ∧ WOk g L (some p) W
theorem WOk.ext {g g' : Gr} {L : List Nat} (e : Ext g g') (hk : KLt g) : ∀ {W : List (Nat × List Nat)} {o : Option Nat}, WOk g L o W → WOk g' L o W
 | [], o, _ => trivial
 | (p, rest) :: W, o, h => by
   obtain ⟨h1, h2, h3, h4, h5, h6⟩ := h
   refine ⟨Nat.lt_of_lt_of_le h1 e.n, by rw [e.rep p h1, h2], fun nm xs hD => ?_, fun v hD => h4 v (by rw [← e.D p h1]; exact hD), fun q hq => ?_, h6.ext e hk⟩
   · rw [e.D p h1] at hD
     obtain ⟨ks, don, h7, h8, h9⟩ := h3 nm xs hD
     refine ⟨ks, don, e.kids p ks h1 h7, h8, fun c hc => ?_⟩
     rw [e.rep c (hk p ks h1 h7 c (by rw [h8]; exact List.mem_append.2 (.inl hc)))]
     exact h9 c hc
   · obtain ⟨nm, xs, ks, c, h7, h8, h9, h10⟩ := h5 q hq
     exact ⟨nm, xs, ks, c, by rw [e.D p h1]; exact h7, e.kids p ks h1 h8, h9, by rw [e.rep c (hk p ks h1 h8 c h9)]; exact h10⟩
theorem WOk.more {g : Gr} {L L' : List Nat} (hL : ∀ x ∈ L, x ∈ L') : ∀ {W : List (Nat × List Nat)} {o : Option Nat}, WOk g L o W → WOk g L' o W
 | [], o, _ => trivial
 | (p, rest) :: W, o, h => by
   obtain ⟨h1, h2, h3, h4, h5, h6⟩ := h
   refine ⟨h1, h2, fun nm xs hD => ?_, h4, h5, h6.more hL⟩
   obtain ⟨ks, don, h7, h8, h9⟩ := h3 nm xs hD
   exact ⟨ks, don, h7, h8, fun c hc => (h9 c hc).imp (hL _) id⟩
/-- What stood on the way is gone through. -/
theorem WOk.gone {g : Gr} {L : List Nat} {p : Nat} : ∀ {W : List (Nat × List Nat)}, WOk g L (some p) W → WOk g (L ++ [p]) none W
 | [], _ => trivial
 | (q, rest) :: W, h => by
   obtain ⟨h1, h2, h3, h4, h5, h6⟩ := h
   refine ⟨h1, h2, fun nm xs hD => ?_, h4, (fun q hq => by cases hq), h6.more (fun x hx => List.mem_append.2 (.inl hx))⟩
   obtain ⟨ks, don, h7, h8, h9⟩ := h3 nm xs hD
   refine ⟨ks, don, h7, h8, fun c hc => .inl ?_⟩
   rcases h9 c hc with h | h
   · exact List.mem_append.2 (.inl h)
   · cases h; exact List.mem_append.2 (.inr (by simp))
/-- Gone through: it comes behind what is in it. -/
theorem dfs_pop {g : Gr} {L : List Nat} {p : Nat} {W : List (Nat × List Nat)} (hL : LOk g L) (h : WOk g L none ((p, []) :: W)) : LOk g (L ++ [p]) ∧ WOk g (L ++ [p]) none W := by
 obtain ⟨h1, h2, h3, h4, h5, h6⟩ := h
 refine ⟨fun k x hx => ?_, h6.gone⟩
 by_cases hk : k < L.length
 · rw [List.getElem?_append_left hk] at hx
   obtain ⟨a, b, c⟩ := hL k x hx
   refine ⟨a, b, fun nm xs hD => ?_⟩
   obtain ⟨ks, d, e⟩ := c nm xs hD
   refine ⟨ks, d, fun y hy => ?_⟩
   obtain ⟨m, hm, hl⟩ := e y hy
   exact ⟨m, hm, by rw [List.getElem?_append_left (by omega)]; exact hl⟩
 · rw [List.getElem?_append_right (by omega)] at hx
   have hk0 : k = L.length := by
    have := (List.getElem?_eq_some_iff.1 hx).1
    simp at this
    omega
   subst hk0
   simp at hx
   subst hx
   refine ⟨h1, h2, fun nm xs hD => ?_⟩
   obtain ⟨ks, don, h7, h8, h9⟩ := h3 nm xs hD
   rw [List.append_nil] at h8
   subst h8
   refine ⟨ks, h7, fun c hc => ?_⟩
   rcases h9 c hc with h | h
   · obtain ⟨m, hm⟩ := List.mem_iff_getElem?.1 h
     have hml := (List.getElem?_eq_some_iff.1 hm).1
     exact ⟨m, hml, by rw [List.getElem?_append_left hml]; exact hm⟩
   · cases h
/-- What is in it was gone through already. -/
theorem dfs_skip {g : Gr} {L : List Nat} {p c : Nat} {rest : List Nat} {W : List (Nat × List Nat)} (h : WOk g L none ((p, c :: rest) :: W)) (hc : g.rep c ∈ L) : WOk g L none ((p, rest) :: W) := by
 obtain ⟨h1, h2, h3, h4, h5, h6⟩ := h
 refine ⟨h1, h2, fun nm xs hD => ?_, fun v hD => (by cases h4 v hD), h5, h6⟩
 obtain ⟨ks, don, h7, h8, h9⟩ := h3 nm xs hD
 refine ⟨ks, don ++ [c], h7, by rw [h8]; simp, fun y hy => ?_⟩
 rcases List.mem_append.1 hy with hy | hy
 · exact h9 y hy
 · simp at hy; subst hy; exact .inl hc
/-- It is gone into. -/
theorem dfs_push {g : Gr} {L : List Nat} {p c : Nat} {rest ks' : List Nat} {W : List (Nat × List Nat)} (hg : KLt g) (hrr : ∀ x, x < g.n → g.rep (g.rep x) = g.rep x ∧ g.rep x < g.n) (h : WOk g L none ((p, c :: rest) :: W)) (hD : ∃ nm xs, g.D p = .a nm xs)
 (hk : ∀ nm xs, g.D (g.rep c) = .a nm xs → g.kids (g.rep c) = some ks') (hv : ∀ v, g.D (g.rep c) = .v v → ks' = []) : WOk g L none ((g.rep c, ks') :: (p, rest) :: W) := by
 obtain ⟨h1, h2, h3, h4, h5, h6⟩ := h
 obtain ⟨nm, xs, hD⟩ := hD
 obtain ⟨ks, don, h7, h8, h9⟩ := h3 nm xs hD
 have hc : c < g.n := hg p ks h1 h7 c (by rw [h8]; simp)
 refine ⟨(hrr c hc).2, (hrr c hc).1, fun nm' xs' hD' => ⟨ks', [], hk nm' xs' hD', rfl, (fun y hy => by cases hy)⟩, hv, (fun q hq => by cases hq), h1, h2, fun nm' xs' hD' => ?_, (fun v hD' => by rw [hD] at hD'; cases hD'), fun q hq => ?_, h6⟩
 · refine ⟨ks, don ++ [c], h7, by rw [h8]; simp, fun y hy => ?_⟩
   rcases List.mem_append.1 hy with hy | hy
   · exact (h9 y hy).imp id (fun e => by cases e)
   · simp at hy; subst hy; exact .inr rfl
 · cases hq
   exact ⟨nm, xs, ks, c, hD, h7, by rw [h8]; simp, rfl⟩
/-- A part of the way comes to one that stands on it: it is in itself. -/
theorem dfs_ring {f : Map} {g : Gr} (hg : GInv f g) {L : List Nat} {p c : Nat} {rest : List Nat} {W : List (Nat × List Nat)} (h : WOk g L none ((p, c :: rest) :: W)) (hD : ∃ nm xs, g.D p = .a nm xs) (hc : g.rep c ∈ ((p, c :: rest) :: W).map (·.1)) {σ : Sub} (hσ : KS f g σ) : False := by
 obtain ⟨nm, xs, hD⟩ := hD
 obtain ⟨m, hm⟩ := List.mem_iff_getElem?.1 hc
 have hml := (List.getElem?_eq_some_iff.1 hm).1
 rw [List.length_map] at hml
 have at_ : ∀ (V : List (Nat × List Nat)) (o : Option Nat), WOk g L o V → ∀ k, k < V.length → ∃ q, (V.map (·.1))[k]? = some q ∧ q < g.n ∧ (∀ r, (if k = 0 then o else (V.map (·.1))[k - 1]?) = some r → ∃ nm xs ks c, g.D q = .a nm xs ∧ g.kids q = some ks ∧ c ∈ ks ∧ g.rep c = r) := by
  intro V
  induction V with
  | nil => intro o _ k hk; simp at hk
  | cons x V ih =>
    intro o h k hk
    obtain ⟨q, rs⟩ := x
    obtain ⟨a1, a2, a3, a4, a5, a6⟩ := h
    cases k with
    | zero => exact ⟨q, rfl, a1, fun r hr => a5 r (by simpa using hr)⟩
    | succ k =>
      obtain ⟨q', b1, b2, b3⟩ := ih (some q) a6 k (by simp at hk; omega)
      refine ⟨q', by simpa using b1, b2, fun r hr => b3 r ?_⟩
      rw [if_neg (by omega)] at hr
      cases k with
      | zero => simpa using hr
      | succ k => rw [if_neg (by omega)]; simpa using hr
 obtain ⟨V, hV⟩ : ∃ V, V = (p, c :: rest) :: W := ⟨_, rfl⟩
 have h0 := h
 rw [← hV] at hm hml h
 refine no_ring hg hσ (fun k => ((V.map (·.1))[m - k]?).getD 0) m (fun k hk => ?_) (fun k hk => ?_)
 · obtain ⟨q, b1, b2, _⟩ := at_ V none h (m - k) (by omega)
   simp only [b1, Option.getD_some]
   exact b2
 · obtain ⟨q, b1, b2, b3⟩ := at_ V none h (m - k) (by omega)
   simp only [b1, Option.getD_some]
   by_cases e : k = m
   · subst e
     rw [Nat.sub_self] at b1
     rw [hV] at b1
     simp at b1
     subst b1
     obtain ⟨_, _, h3, _⟩ := h0
     obtain ⟨ks, don, h7, h8, h9⟩ := h3 nm xs hD
     refine ⟨nm, xs, ks, c, hD, h7, by rw [h8]; simp, ?_⟩
     rw [if_pos rfl, Nat.sub_zero, hm]
     rfl
   · obtain ⟨q2, c1, c2, _⟩ := at_ V none h (m - (k + 1)) (by omega)
     obtain ⟨nm', xs', ks', c', d1, d2, d3, d4⟩ := b3 q2 (by rw [if_neg (by omega), show m - k - 1 = m - (k + 1) by omega]; exact c1)
     exact ⟨nm', xs', ks', c', d1, d2, d3, by rw [if_neg e, c1]; exact d4⟩
/-- Each part is one of the first two, or in one that was there before it. -/
def Par (g : Gr) (a b : Nat) : Prop := ∀ i, i < g.n → i = a ∨ i = b ∨ ∃ y ks nm xs, y < i ∧ g.kids y = some ks ∧ i ∈ ks ∧ g.D y = .a nm xs
theorem all_in {f : Map} {g : Gr} (hg : GInv f g) (hc : Cong g []) {L : List Nat} (hL : LOk g L) {a b : Nat} (hp : Par g a b) (ha : g.rep a ∈ L) (hb : g.rep b ∈ L) : ∀ i, i < g.n → g.rep i ∈ L := by
 intro i
 induction i using Nat.strongRecOn with
 | ind i ih =>
 intro hi
 rcases hp i hi with rfl | rfl | ⟨y, ks, nm, xs, h1, h2, h3, h4⟩
 · exact ha
 · exact hb
 · have hy := ih y h1 (by omega)
   obtain ⟨k, hk⟩ := List.mem_iff_getElem?.1 hy
   obtain ⟨_, h5, h6⟩ := hL k _ hk
   by_cases e : g.rep y = y
   · rw [e] at h6
     obtain ⟨ks', h7, h8⟩ := h6 nm xs h4
     rw [h2] at h7
     cases h7
     obtain ⟨m, _, hm⟩ := h8 i h3
     exact List.mem_of_getElem? hm
   · obtain ⟨ys, ls, ls', c1, c2, c3, c4, c5⟩ := hc y (by omega) e nm xs h4
     rw [h2] at c3
     cases c3
     obtain ⟨ks', h7, h8⟩ := h6 nm ys c1
     rw [c4] at h7
     cases h7
     obtain ⟨j, hj⟩ := List.mem_iff_getElem?.1 h3
     have hl1 := (hg.kid y (by omega) nm xs ks h4 h2).1
     have hl2 := (hg.kid (g.rep y) (hg.rlt y (by omega)) nm ys ls' c1 c4).1
     obtain ⟨c', hc'⟩ : ∃ c', ls'[j]? = some c' := ⟨_, List.getElem?_eq_getElem (by have := (List.getElem?_eq_some_iff.1 hj).1; omega)⟩
     rw [eqv_nil (c5 j i c' hj hc')]
     obtain ⟨m, _, hm⟩ := h8 c' (List.mem_of_getElem? hc')
     exact List.mem_of_getElem? hm
theorem ranked_of {f : Map} {g : Gr} (hg : GInv f g) (hk : KLt g) {L : List Nat} (hn : L.Nodup) (hL : LOk g L) (hall : ∀ i, i < g.n → g.rep i ∈ L) : Ranked g (fun x => L.idxOf x) := by
 refine ⟨fun i hi nm xs hD => ?_⟩
 obtain ⟨k, hkk⟩ := List.mem_iff_getElem?.1 (hall i hi)
 obtain ⟨h1, h2, h3⟩ := hL k _ hkk
 obtain ⟨ks, h4, h5⟩ := h3 nm xs hD
 have at_ : ∀ (m x : Nat), L[m]? = some x → L.idxOf x = m := by
  intro m x hm
  obtain ⟨h6, h7⟩ := List.getElem?_eq_some_iff.1 hm
  rw [← h7]
  exact List.Nodup.idxOf_getElem hn m h6
 refine ⟨ks, h4, fun c hc => ⟨hk _ ks h1 h4 c hc, ?_⟩⟩
 obtain ⟨m, h6, h7⟩ := h5 c hc
 show L.idxOf (g.rep c) < L.idxOf (g.rep i)
 rw [at_ m _ h7, at_ k _ hkk]
 exact h6
end Ux
end Go.Proofs.YtcblppojnailpaaDoor
namespace Go.Proofs.YtcblppojnailpaaDoor
open Go Go.RowKit
set_option linter.unusedVariables false
set_option linter.unusedSimpArgs false
/-- A part: its type's value, its type, with which it was made one, its state. -/
structure Prt where
 k : Int
 s : ByteArray
 q : Option Addr
 m : Nat
 c : Nat
 D : Ux.Ty
 tt : Nat
 st : Nat
def Prt.ag (p : Prt) : Value := .agg #[.int .i64 p.k, .string p.s, .slice p.q p.m p.c]
def Prt.cells (p : Prt) : List Value := [.int .i64 p.k, .string p.s, .slice p.q p.m p.c, .int .i64 p.tt, .int .i64 p.st]
def pcells (ps : List Prt) : List Value := ps.flatMap Prt.cells
theorem pcells_at : ∀ {ps : List Prt} {i : Nat} {p : Prt} (j : Nat), ps[i]? = some p → j < 5 → (pcells ps)[i * 5 + j]? = p.cells[j]?
 | [], _, _, _, h, _ => by cases h
 | p :: r, 0, q, j, h, hj => by
   simp only [List.getElem?_cons_zero, Option.some.injEq] at h
   subst h
   unfold pcells
   rw [List.flatMap_cons, Nat.zero_mul, Nat.zero_add, List.getElem?_append_left (by simpa [Prt.cells] using hj)]
 | p :: r, i + 1, q, j, h, hj => by
   have := pcells_at (ps := r) (i := i) (p := q) j (by simpa using h) hj
   unfold pcells at this ⊢
   rw [List.flatMap_cons, List.getElem?_append_right (by simp [Prt.cells]; omega)]
   have e : (i + 1) * 5 + j - p.cells.length = i * 5 + j := by simp [Prt.cells]; omega
   rw [e]; exact this
theorem pcells_app (ps : List Prt) (p : Prt) : pcells (ps ++ [p]) = pcells ps ++ p.cells := by simp [pcells]
theorem pcells_set (f : Prt → Prt) (j : Nat) (v : Value) (hj : j < 5) (hf : ∀ p : Prt, (f p).cells = p.cells.set j v) : ∀ {ps : List Prt} {i : Nat} {p : Prt}, ps[i]? = some p → (pcells ps).set (i * 5 + j) v = pcells (ps.set i (f p))
 | [], _, _, h => by cases h
 | p :: r, 0, q, h => by
   simp only [List.getElem?_cons_zero, Option.some.injEq] at h
   subst h
   unfold pcells
   rw [List.flatMap_cons, List.set_cons_zero, List.flatMap_cons, hf, Nat.zero_mul, Nat.zero_add, List.set_append_left _ _ (by simpa [Prt.cells] using hj)]
 | p :: r, i + 1, q, h => by
   have := pcells_set f j v hj hf (ps := r) (i := i) (p := q) (by simpa using h)
   unfold pcells at this ⊢
   have e : (i + 1) * 5 + j - p.cells.length = i * 5 + j := by simp [Prt.cells]; omega
   rw [List.flatMap_cons, List.set_append_right _ _ (by simp [Prt.cells]; omega), List.set_cons_succ, List.flatMap_cons, ← this, e]
/-- What a type's part is made of. -/
def NumOf (f : Ux.Map) (y D : Ux.Ty) : Prop := match y with
 | .v n => Ux.Ends f n D
 | .a nm xs => D = .a nm xs
theorem NumOf.sol {f : Ux.Map} {y D : Ux.Ty} (h : NumOf f y D) {σ : Ux.Sub} (hσ : Ux.Sol f σ) : D.app σ = y.app σ := by
 cases y with
 | v n => rw [Ux.app_v]; exact ((show Ux.Ends f n D from h).sol hσ).symm
 | a nm xs => rw [show D = .a nm xs from h]
def kidsOf (kl : LKey → Option (List Nat)) (p : Prt) : Option (List Nat) := if p.m = 0 then some [] else match p.q with
 | some a => kl (a.block, a.off, p.m)
 | none => none
def mkGr (ps : List Prt) (kl : LKey → Option (List Nat)) (rep : Nat → Nat) : Ux.Gr := ⟨ps.length, fun i => match ps[i]? with | some p => p.D | none => .v 0, rep, fun i => match ps[i]? with | some p => kidsOf kl p | none => none⟩
structure GCx where
 y0 : Nat
 z0 : Nat
 z1 : Nat
 z2 : Nat
 gb : Nat
 vb : Nat
 lb : Nat
 fc : Nat
 fb : Nat
 sc : Nat
 sb : Nat
 U : List LKey
 f : Ux.Map
/-- Blocks that the graph's lists keep away from: those below y0, from z0 on to z1, and one. -/
abbrev Fz (c : GCx) (b : Nat) : Prop := b < c.y0 ∨ (c.z0 ≤ b ∧ b < c.z1) ∨ b = c.z2
structure GCx.Ok (c : GCx) : Prop where
 low : c.gb < c.y0 ∧ c.vb < c.y0 ∧ c.lb < c.y0 ∧ c.fc < c.y0 ∧ c.fb < c.y0 ∧ c.sc < c.y0 ∧ c.sb < c.y0
 ne : c.vb ≠ c.lb ∧ c.vb ≠ c.fb ∧ c.lb ≠ c.fb ∧ c.sb ≠ c.vb ∧ c.sb ≠ c.lb ∧ c.sb ≠ c.fb
 neg : c.gb ≠ c.vb ∧ c.gb ≠ c.lb ∧ c.gb ≠ c.fb ∧ c.gb ≠ c.sb ∧ c.gb ≠ c.fc ∧ c.gb ≠ c.sc
 nec : c.fc ≠ c.vb ∧ c.fc ≠ c.lb ∧ c.fc ≠ c.fb ∧ c.sc ≠ c.vb ∧ c.sc ≠ c.lb ∧ c.sc ≠ c.fb
 u : ∀ x ∈ c.U, Fz c x.1 ∧ x.1 ≠ c.gb ∧ x.1 ≠ c.vb ∧ x.1 ≠ c.lb ∧ x.1 ≠ c.fb
 few : llen c.U ≤ 100000
 fine : Ux.Fine c.f
/-- A list of numbers in a block of its own. -/
def IntsAt (c : GCx) (w : World) (v : Value) (ks : List Nat) : Prop :=
 ∃ (b cap : Nat) (cur : Array Value), v = .slice (some ⟨b, 0, none⟩) ks.length cap ∧ ¬ Fz c b ∧ ks.length ≤ cap ∧ (cap : Int) ≤ 9223372036854775807 ∧ w.heap[b]? = some (.cells cur 3 (0, 0)) ∧ ∀ (j cc : Nat), ks[j]? = some cc → cur[j]? = some (Value.int .i64 (cc : Int))
theorem IntsAt.keep {c : GCx} {w w' : World} {v : Value} {ks : List Nat} (h : IntsAt c w v ks) (hk : ∀ b cur, ¬ Fz c b → w.heap[b]? = some (.cells cur 3 (0, 0)) → w'.heap[b]? = w.heap[b]?) : IntsAt c w' v ks := by
 obtain ⟨b, cap, cur, h1, h2, h3, h4, h5, h6⟩ := h
 exact ⟨b, cap, cur, h1, h2, h3, h4, (hk b cur h2 h5).trans h5, h6⟩
def LKF (c : GCx) : Value := .func (.func 52) #[] #[.pointer (some ⟨c.fc, 0, none⟩), .pointer (some ⟨c.sc, 0, none⟩)]
structure GSt (c : GCx) (e : Nat) (w : World) (ps : List Prt) (kl : LKey → Option (List Nat)) (rep : Nat → Nat) (pv : Value) : Prop where
 gcell : w.heap[c.gb]? = some (.cells #[LKF c, pv, .map (some c.vb), .map (some c.lb)] 101 (0, 0))
 own : w.ownsRow c.y0 104 5 pv ps.length (pcells ps)
 ty : ∀ p ∈ ps, TyQ (· ∈ c.U) w p.ag p.D
 free : ∀ p ∈ ps, ∀ v, p.D = .v v → c.f v = none ∧ p.m = 0
 vars : ∃ L, MapK encInt (fun _ _ => True) w c.vb L ∧ (∀ (v : Nat) (val : Value), lookL (v : Int) L = some val → ∃ (i : Nat) (p : Prt), val = Value.int .i64 (i : Int) ∧ ps[i]? = some p ∧ p.D = .v v) ∧ ∀ (i : Nat) (p : Prt) (v : Nat), ps[i]? = some p → p.D = .v v → lookL (v : Int) L = some (Value.int .i64 (i : Int))
 lists : ∃ L, MapK encL (FreeQ (· ∈ c.U)) w c.lb L ∧ (∀ (x : LKey) (val : Value), lookL x L = some val → ∃ ks, kl x = some ks ∧ IntsAt c w val ks) ∧ ∀ x, lookL x L = none → kl x = none
 cont : ∀ x ks, kl x = some ks → x ∈ c.U ∧ 0 < x.2.2 ∧ ks.length = x.2.2 ∧ ∀ (xs : List Ux.Ty) (p : Nat), RowQ (· ∈ c.U) (TyQ (· ∈ c.U) w) w (.slice (some ⟨x.1, x.2.1, none⟩) x.2.2 p) xs → ∀ (k : Nat) (y : Ux.Ty) (cc : Nat), xs[k]? = some y → ks[k]? = some cc → ∃ pc, ps[cc]? = some pc ∧ NumOf c.f y pc.D
 look : LkS (· ∈ c.U) c.f c.fc c.fb c.sc c.sb w
 size : c.y0 ≤ w.heap.size ∧ c.z1 ≤ w.heap.size ∧ c.z2 < w.heap.size
 pz : ∀ b, pv.ownBlock = some b → ¬ Fz c b
 cnt : ∃ ls : List LKey, ls.Nodup ∧ (∀ x ∈ ls, x ∈ c.U) ∧ (∀ x, kl x ≠ none ↔ x ∈ ls) ∧ ps.length ≤ e + llen ls
 tree : ∃ d : Nat → Nat, ∀ (i : Nat) (p : Prt), ps[i]? = some p → p.tt < ps.length ∧ (p.tt ≠ i → d p.tt < d i) ∧ rep p.tt = rep i ∧ (rep i = i ↔ p.tt = i)
 outr : ∀ x, ps.length ≤ x → rep x = x
/-- What a graph's calls change. -/
def GKeep (c : GCx) (pv : Value) (b : Nat) : Prop := b = c.gb ∨ b = c.vb ∨ b = c.lb ∨ b = c.fb ∨ pv.ownBlock = some b
theorem llen_sub : ∀ {ls U : List LKey}, ls.Nodup → (∀ x ∈ ls, x ∈ U) → llen ls ≤ llen U := by
 intro ls
 induction ls with
 | nil => intro U _ _; simp [llen]
 | cons x r ih =>
   intro U hn hs
   have hx := hs x (by simp)
   rw [List.nodup_cons] at hn
   have h1 := ih (U := U.erase x) hn.2 fun y hy => (List.mem_erase_of_ne (fun (e : y = x) => hn.1 (by rw [← e]; exact hy))).2 (hs y (by simp [hy]))
   have h2 : llen U = x.2.2 + llen (U.erase x) := by
    have := List.perm_cons_erase hx
    have h3 := this.map (fun x : LKey => x.2.2)
    have h4 := h3.sum_nat
    simp only [List.map_cons, List.sum_cons] at h4
    exact h4
   have h3 : llen (x :: r) = x.2.2 + llen r := by simp [llen]
   omega
section
variable {c : GCx} {e : Nat} {w w' : World} {ps : List Prt} {kl : LKey → Option (List Nat)} {rep : Nat → Nat} {pv : Value}
theorem GSt.few (h : GSt c e w ps kl rep pv) (hc : c.Ok) : ps.length ≤ e + 10000000000 := by
 obtain ⟨ls, h1, h2, _, h4⟩ := h.cnt
 have := llen_sub h1 h2
 have := hc.few
 omega
/-- What the lists' numbers are, in another world. -/
def ListsAt (c : GCx) (kl : LKey → Option (List Nat)) (w : World) : Prop := ∃ L, MapK encL (FreeQ (· ∈ c.U)) w c.lb L ∧ (∀ (x : LKey) (val : Value), lookL x L = some val → ∃ ks, kl x = some ks ∧ IntsAt c w val ks) ∧ ∀ x, lookL x L = none → kl x = none
theorem GSt.keepL (h : GSt c e w ps kl rep pv) (hc : c.Ok) {R : Nat → Prop} (hch : Chg R w w') (hR : ∀ b, R b → b = c.fb ∨ (¬ Fz c b ∧ pv.ownBlock ≠ some b)) (hl : ListsAt c kl w') (hlk : LkS (· ∈ c.U) c.f c.fc c.fb c.sc c.sb w') : GSt c e w' ps kl rep pv := by
 obtain ⟨l1, l2, l3, l4, l5, l6, l7⟩ := hc.low
 obtain ⟨n1, n2, n3, n4, n5, n6⟩ := hc.ne
 obtain ⟨g1, g2, g3, g4, g5, g6⟩ := hc.neg
 have hlow : ∀ b, Fz c b → b ≠ c.fb → ¬ R b := fun b h1 h2 hr => (hR b hr).elim h2 fun h => h.1 h1
 have hq : ∀ x, x ∈ c.U → w'.heap[x.1]? = w.heap[x.1]? := fun x hx => hch.block _ (by have := (hc.u x hx).1; have := h.size; omega) (hlow _ (hc.u x hx).1 (hc.u x hx).2.2.2.2)
 obtain ⟨L, v1, v2, v3⟩ := h.vars
 refine ⟨ent_chg h.gcell hch (hlow _ (.inl l1) g3), own_chg h.own hch fun b hb hr => ?_, fun p hp => tyQ_keep (h.ty p hp) hq, h.free, ⟨L, v1.keep (hch.block _ v1.lt (hlow _ (.inl l2) n2)) fun _ _ => trivial, v2, v3⟩, hl, fun x ks hk => ?_, hlk, (by have := h.size; have := hch.size; omega), h.pz, h.cnt, h.tree, h.outr⟩
 · rcases hR b hr with e | ⟨_, e⟩
   · have := (h.own.lt b hb).1; omega
   · exact e hb
 · obtain ⟨a1, a2, a3, a4⟩ := h.cont x ks hk
   refine ⟨a1, a2, a3, fun xs p hrow => a4 xs p (hrow.mono (fun y hy => ⟨hy, (hq y hy).symm⟩) fun u y _ hu => tyQ_keep hu fun z hz => (hq z hz).symm)⟩
theorem GSt.listsAt (h : GSt c e w ps kl rep pv) (hc : c.Ok) {R : Nat → Prop} (hch : Chg R w w') (h1 : ¬ R c.lb) (hq : ∀ x, x ∈ c.U → ¬ R x.1) (hi : ∀ b cur, ¬ Fz c b → w.heap[b]? = some (.cells cur 3 (0, 0)) → ¬ R b) : ListsAt c kl w' := by
 obtain ⟨M, m1, m2, m3⟩ := h.lists
 refine ⟨M, m1.keep (hch.block _ m1.lt h1) (freeQ_keep fun x hx => hch.block _ (by have := (hc.u x hx).1; have := h.size; omega) (hq x hx)), fun x val hv => ?_, m3⟩
 obtain ⟨ks, a, b⟩ := m2 x val hv
 exact ⟨ks, a, b.keep fun b cur hb hcur => hch.block _ (ent_lt hcur) (hi b cur hb hcur)⟩
/-- All stays but what its look may change. -/
theorem GSt.keep (h : GSt c e w ps kl rep pv) (hc : c.Ok) {R : Nat → Prop} (hch : Chg R w w') (hR : ∀ b, R b → b = c.fb ∨ (¬ Fz c b ∧ pv.ownBlock ≠ some b ∧ ∀ cur, w.heap[b]? ≠ some (Obj.cells cur 3 (0, 0)))) (hlk : LkS (· ∈ c.U) c.f c.fc c.fb c.sc c.sb w') : GSt c e w' ps kl rep pv :=
 h.keepL hc hch (fun b hb => (hR b hb).imp id fun h => ⟨h.1, h.2.1⟩) (h.listsAt hc hch (fun hr => (hR _ hr).elim (fun e => hc.ne.2.2.1 e) fun h => by have := hc.low; omega) (fun x hx hr => (hR _ hr).elim (fun e => (hc.u x hx).2.2.2.2 e) fun h => by have := (hc.u x hx).1; omega) fun b cur hb hcur hr => (hR _ hr).elim (fun e => by have := hc.low; omega) fun h => h.2.2 cur hcur) hlk
theorem GSt.below (h : GSt c e w ps kl rep pv) (hc : c.Ok) (hb : Below w.heap.size w w') : GSt c e w' ps kl rep pv := h.keep hc (R := fun _ => False) (.of_below hb) (fun _ h => h.elim) (h.look.keep hb)
theorem GSt.inv (h : GSt c e w ps kl rep pv) : Ux.GInv c.f (mkGr ps kl rep) := by
 have hget : ∀ i, i < ps.length → ∃ p, ps[i]? = some p ∧ (mkGr ps kl rep).D i = p.D ∧ (mkGr ps kl rep).kids i = kidsOf kl p := fun i hi => by
  refine ⟨ps[i], List.getElem?_eq_getElem hi, ?_, ?_⟩ <;> simp only [mkGr, List.getElem?_eq_getElem hi]
 obtain ⟨L, v1, v2, v3⟩ := h.vars
 obtain ⟨d, hd⟩ := h.tree
 have root : ∀ k i, d i ≤ k → i < ps.length → rep i < ps.length ∧ rep (rep i) = rep i := by
  intro k
  induction k with
  | zero =>
    intro i hk hi
    obtain ⟨t1, t2, t3, t4⟩ := hd i _ (List.getElem?_eq_getElem hi)
    have : ps[i].tt = i := Classical.byContradiction fun hne => by have := t2 hne; omega
    have hr := t4.2 this
    rw [hr]; exact ⟨hi, hr⟩
  | succ k ih =>
    intro i hk hi
    obtain ⟨t1, t2, t3, t4⟩ := hd i _ (List.getElem?_eq_getElem hi)
    by_cases hne : ps[i].tt = i
    · have hr := t4.2 hne
      rw [hr]; exact ⟨hi, hr⟩
    · have := ih ps[i].tt (by have := t2 hne; omega) t1
      rw [t3] at this; exact this
 refine ⟨fun i hi v hv => ?_, fun i j hi hj v hiv hjv => ?_, fun i hi => (root _ i (Nat.le_refl _) hi).1, fun i hi => (root _ i (Nat.le_refl _) hi).2, fun i hi nm xs ks hD hk => ?_⟩
 · obtain ⟨p, p1, p2, p3⟩ := hget i hi
   exact (h.free p (List.mem_of_getElem? p1) v (p2 ▸ hv)).1
 · obtain ⟨p, p1, p2, p3⟩ := hget i hi
   obtain ⟨q, q1, q2, q3⟩ := hget j hj
   have a := v3 i p v p1 (p2 ▸ hiv)
   have b := v3 j q v q1 (q2 ▸ hjv)
   rw [a] at b; simp only [Option.some.injEq, Value.int.injEq, true_and] at b; omega
 · obtain ⟨p, p1, p2, p3⟩ := hget i hi
   rw [p2] at hD; rw [p3] at hk
   have ht := h.ty p (List.mem_of_getElem? p1)
   rw [hD] at ht
   obtain ⟨k', av, _, e, hrow⟩ := tyQ_a.1 ht
   simp only [Prt.ag, Value.agg.injEq, Array.mk.injEq, List.cons.injEq, and_true] at e
   obtain ⟨_, _, rfl⟩ := e
   obtain ⟨_, _, e⟩ := hrow.len
   injection e with _ hml _
   unfold kidsOf at hk
   by_cases hm : p.m = 0
   · rw [if_pos hm] at hk; injection hk with hk; subst hk
     have : xs = [] := List.eq_nil_of_length_eq_zero (by omega)
     subst this
     exact ⟨rfl, fun k x c hx => by cases hx⟩
   · rw [if_neg hm] at hk
     have hrow0 := hrow
     rcases hrow with ⟨rfl, _⟩ | ⟨g, o, c', cs, T, e1, hne, hr⟩
     · exact absurd hml hm
     · injection e1 with e1 _ _
       rw [e1] at hk hrow0
       have hk' : kl (g, o, p.m) = some ks := hk
       obtain ⟨_, _, a3, a4⟩ := h.cont _ _ hk'
       refine ⟨by rw [a3]; exact hml, fun k x cc hx hc => ?_⟩
       obtain ⟨pc, b1, b2⟩ := a4 xs p.c hrow0 k x cc hx hc
       refine ⟨(List.getElem?_eq_some_iff.1 b1).1, fun σ hσ => ?_⟩
       have hD : (mkGr ps kl rep).D cc = pc.D := by simp only [mkGr, b1]
       rw [hD]
       exact b2.sol hσ
theorem LkS.chg {Q : LKey → Prop} {f : Ux.Map} {fc fb sc sb : Nat} {w w' : World} {R : Nat → Prop} (h : LkS Q f fc fb sc sb w) (hc : Chg R w w') (h1 : ¬ R fc ∧ ¬ R fb ∧ ¬ R sc ∧ ¬ R sb) (hq : ∀ x, Q x → ¬ R x.1) : LkS Q f fc fb sc sb w' := by
 have hl := h.low
 obtain ⟨a1, a2, a3, a4, a5, a6, a7⟩ := h
 have hqq : ∀ x, Q x → w'.heap[x.1]? = w.heap[x.1]? := fun x hx => hc.block _ (a7 x hx).1 (hq x hx)
 exact ⟨ent_chg a1 hc h1.1, ent_chg a2 hc h1.2.2.1, a3.keep (hc.block _ hl.2.2.2 h1.2.2.2) hqq, a4.keep (hc.block _ hl.2.1 h1.2.1) hqq, a5, a6, fun x hx => ⟨by have := (a7 x hx).1; have := hc.size; omega, (a7 x hx).2⟩⟩
theorem GSt.outl (h : GSt c e w ps kl rep pv) (hc : c.Ok) {b : Nat} (hb : Fz c b) : pv.ownBlock ≠ some b := fun e => h.pz b e hb
/-- A part more. -/
theorem GSt.push {pv' : Value} {p : Prt} (h : GSt c e w ps kl rep pv) (hc : c.Ok) (hch : Chg (fun b => b = c.gb ∨ b = c.vb ∨ pv.ownBlock = some b) w w') (hg : w'.heap[c.gb]? = some (.cells #[LKF c, pv', .map (some c.vb), .map (some c.lb)] 101 (0, 0)))
 (ho : w'.ownsRow c.y0 104 5 pv' (ps.length + 1) (pcells ps ++ p.cells)) (hloc : pv'.ownBlock = pv.ownBlock ∨ ∀ g, pv'.ownBlock = some g → w.heap.size ≤ g) (htt : p.tt = ps.length) (hty : TyQ (· ∈ c.U) w p.ag p.D) (hfree : ∀ v, p.D = .v v → c.f v = none ∧ p.m = 0)
 (hvars : ∃ L, MapK encInt (fun _ _ => True) w' c.vb L ∧ (∀ (v : Nat) (val : Value), lookL (v : Int) L = some val → ∃ (i : Nat) (q : Prt), val = Value.int .i64 (i : Int) ∧ (ps ++ [p])[i]? = some q ∧ q.D = .v v) ∧ ∀ (i : Nat) (q : Prt) (v : Nat), (ps ++ [p])[i]? = some q → q.D = .v v → lookL (v : Int) L = some (Value.int .i64 (i : Int))) :
 GSt c (e + 1) w' (ps ++ [p]) kl rep pv' := by
 obtain ⟨l1, l2, l3, l4, l5, l6, l7⟩ := hc.low
 obtain ⟨n1, n2, n3, n4, n5, n6⟩ := hc.ne
 obtain ⟨g1, g2, g3, g4, g5, g6⟩ := hc.neg
 obtain ⟨e1, e2, e3, e4, e5, e6⟩ := hc.nec
 have hlow : ∀ b, Fz c b → b ≠ c.gb → b ≠ c.vb → ¬ (b = c.gb ∨ b = c.vb ∨ pv.ownBlock = some b) := fun b h1 h2 h3 hr => by
  rcases hr with hr | hr | hr
  · exact h2 hr
  · exact h3 hr
  · exact h.outl hc h1 hr
 have hqn : ∀ x, x ∈ c.U → ¬ (x.1 = c.gb ∨ x.1 = c.vb ∨ pv.ownBlock = some x.1) := fun x hx => hlow _ (hc.u x hx).1 (hc.u x hx).2.1 (hc.u x hx).2.2.1
 have hq : ∀ x, x ∈ c.U → w'.heap[x.1]? = w.heap[x.1]? := fun x hx => hch.block _ (by have := (hc.u x hx).1; have := h.size; omega) (hqn x hx)
 obtain ⟨M, m1, m2, m3⟩ := h.lists
 obtain ⟨ls, c1, c2, c3, c4⟩ := h.cnt
 obtain ⟨d, hd⟩ := h.tree
 have hpre : ∀ (i : Nat) (q : Prt), ps[i]? = some q → (ps ++ [p])[i]? = some q := fun i q hi => by rw [List.getElem?_append_left (List.getElem?_eq_some_iff.1 hi).1]; exact hi
 have hin : ∀ (i : Nat) (q : Prt), (ps ++ [p])[i]? = some q → ps[i]? = some q ∨ (i = ps.length ∧ q = p) := fun i q hi => by
  rcases Nat.lt_or_ge i ps.length with hlt | hge
  · rw [List.getElem?_append_left hlt] at hi; exact .inl hi
  · rw [List.getElem?_append_right hge] at hi
    have : i = ps.length := by
     rcases Nat.lt_or_ge ps.length i with hl | hl
     · rw [List.getElem?_eq_none (by simp; omega)] at hi; cases hi
     · omega
    subst this
    simp only [Nat.sub_self, List.getElem?_cons_zero, Option.some.injEq] at hi
    exact .inr ⟨rfl, hi.symm⟩
 refine ⟨hg, by rw [pcells_app, List.length_append]; exact ho, fun q hq' => ?_, fun q hq' v hv => ?_, hvars, ⟨M, m1.keep (hch.block _ m1.lt (hlow _ (.inl l3) g2.symm n1.symm)) (freeQ_keep hq), fun x val hv => ?_, m3⟩, fun x ks hk => ?_, h.look.chg hch ⟨hlow _ (.inl l4) g5.symm e1, hlow _ (.inl l5) g3.symm n2.symm, hlow _ (.inl l6) g6.symm e4, hlow _ (.inl l7) g4.symm n4⟩ hqn, (by have := h.size; have := hch.size; omega), (fun b hb => hloc.elim (fun e => h.pz b (e ▸ hb)) fun hh => by have := hh b hb; have := h.size; omega), ⟨ls, c1, c2, c3, by rw [List.length_append]; simp; omega⟩, ⟨fun i => if i = ps.length then 0 else d i, fun i q hi => ?_⟩, fun x hx => h.outr x (by rw [List.length_append] at hx; omega)⟩
 · rcases List.mem_append.1 hq' with hq' | hq'
   · exact tyQ_keep (h.ty q hq') hq
   · rw [List.mem_singleton.1 hq']; exact tyQ_keep hty hq
 · rcases List.mem_append.1 hq' with hq' | hq'
   · exact h.free q hq' v hv
   · rw [List.mem_singleton.1 hq'] at hv ⊢; exact hfree v hv
 · obtain ⟨ks, a, b⟩ := m2 x val hv
   refine ⟨ks, a, b.keep fun b cur hb hcur => hch.block _ (ent_lt hcur) fun hr => ?_⟩
   rcases hr with hr | hr | hr
   · omega
   · omega
   · exact own_ne h.own hcur (fun cs e => by injection e with _ e _; cases e) hr
 · obtain ⟨a1, a2, a3, a4⟩ := h.cont x ks hk
   refine ⟨a1, a2, a3, fun xs pp hrow k y cc hy hcc => ?_⟩
   obtain ⟨pc, b1, b2⟩ := a4 xs pp (hrow.mono (fun y hy => ⟨hy, (hq y hy).symm⟩) fun u y _ hu => tyQ_keep hu fun z hz => (hq z hz).symm) k y cc hy hcc
   exact ⟨pc, hpre _ _ b1, b2⟩
 · rw [List.length_append]
   rcases hin i q hi with hi' | ⟨rfl, rfl⟩
   · obtain ⟨t1, t2, t3, t4⟩ := hd i q hi'
     have hlt := (List.getElem?_eq_some_iff.1 hi').1
     exact ⟨by simp; omega, fun hne => by dsimp only; rw [if_neg (by omega), if_neg (by omega)]; exact t2 hne, t3, t4⟩
   · have hr := h.outr _ (Nat.le_refl ps.length)
     exact ⟨by simp [htt], fun hne => absurd htt hne, by rw [htt], by rw [htt, hr]⟩
end
end Go.Proofs.YtcblppojnailpaaDoor
