/-
  Several texts in one: UTy, UBase, ULeaf, UTyp, UMap.
-/
import Derived.Lib.Hide
import Derived.Test.YtcblppojnailpaaDoorRows
import Derived.WalkKit
import Derived.WalkSpells
import Derived.Below
import Derived.Maps.AppendAt
import Derived.Deep.DeepCutAuto
import Derived.Maps.OwnSet
import Derived.LaidEql
import Derived.WideKeyRuns
import Derived.Laws.StructEq
import Derived.KernelRfl
namespace Go.Proofs.YtcblppojnailpaaDoor
namespace Ux
set_option linter.unusedVariables false
set_option linter.unusedSimpArgs false
inductive Ty where
 | v (n : Nat)
 | a (nm : List UInt8) (xs : List Ty)
abbrev Sub := Nat → Ty
mutual
def Ty.app (σ : Sub) : Ty → Ty
 | .v n => σ n
 | .a nm xs => .a nm (Ty.apps σ xs)
def Ty.apps (σ : Sub) : List Ty → List Ty
 | [] => []
 | x :: r => Ty.app σ x :: Ty.apps σ r
end
mutual
def Ty.sz : Ty → Nat
 | .v _ => 1
 | .a _ xs => 1 + Ty.szs xs
def Ty.szs : List Ty → Nat
 | [] => 0
 | x :: r => Ty.sz x + Ty.szs r
end
mutual
/-- All variables, as often as they come. -/
def Ty.vs : Ty → List Nat
 | .v n => [n]
 | .a _ xs => Ty.vss xs
def Ty.vss : List Ty → List Nat
 | [] => []
 | x :: r => Ty.vs x ++ Ty.vss r
end
theorem apps_map (σ : Sub) : ∀ l : List Ty, Ty.apps σ l = l.map (Ty.app σ)
 | [] => by rw [Ty.apps]; rfl
 | x :: r => by rw [Ty.apps, apps_map σ r]; rfl
theorem szs_sum : ∀ l : List Ty, Ty.szs l = (l.map Ty.sz).sum
 | [] => by rw [Ty.szs]; rfl
 | x :: r => by rw [Ty.szs, szs_sum r]; rfl
theorem vss_flat : ∀ l : List Ty, Ty.vss l = l.flatMap Ty.vs
 | [] => by rw [Ty.vss]; rfl
 | x :: r => by rw [Ty.vss, vss_flat r]; rfl
theorem app_a (σ : Sub) (nm : List UInt8) (xs : List Ty) : (Ty.a nm xs).app σ = .a nm (xs.map (Ty.app σ)) := by rw [Ty.app, apps_map]
theorem app_v (σ : Sub) (n : Nat) : (Ty.v n).app σ = σ n := by rw [Ty.app]
theorem sz_a (nm : List UInt8) (xs : List Ty) : (Ty.a nm xs).sz = 1 + (xs.map Ty.sz).sum := by rw [Ty.sz, szs_sum]
theorem vs_a (nm : List UInt8) (xs : List Ty) : (Ty.a nm xs).vs = xs.flatMap Ty.vs := by rw [Ty.vs, vss_flat]
theorem vs_v (n : Nat) : (Ty.v n).vs = [n] := by rw [Ty.vs]
theorem sum_ge {α : Type} (g : α → Nat) {l : List α} {x : α} (h : x ∈ l) : g x ≤ (l.map g).sum := by
 induction l with
 | nil => cases h
 | cons y r ih =>
   rw [List.map_cons, List.sum_cons]
   rcases List.mem_cons.1 h with rfl | h
   · omega
   · have := ih h; omega
theorem sz_pos : ∀ t : Ty, 1 ≤ t.sz
 | .v n => by rw [Ty.sz]; omega
 | .a nm xs => by rw [sz_a]; omega
/-- A law for all types, by their parts. -/
theorem Ty.ind {P : Ty → Prop} (hv : ∀ n, P (.v n)) (ha : ∀ nm xs, (∀ x ∈ xs, P x) → P (.a nm xs)) (t : Ty) : P t := by
 have key : ∀ k (t : Ty), t.sz ≤ k → P t := by
  intro k
  induction k with
  | zero => intro t h; have := sz_pos t; omega
  | succ k ih =>
    intro t h
    cases t with
    | v n => exact hv n
    | a nm xs =>
      rw [sz_a] at h
      exact ha nm xs (fun x hx => ih x (by have := sum_ge Ty.sz hx; omega))
 exact key t.sz t (Nat.le_refl _)
theorem app_congr {σ τ : Sub} : ∀ t : Ty, (∀ n ∈ t.vs, σ n = τ n) → t.app σ = t.app τ := by
 intro t
 induction t using Ty.ind with
 | hv n => intro h; rw [app_v, app_v]; exact h n (by rw [vs_v]; simp)
 | ha nm xs ih =>
   intro h
   rw [app_a, app_a]
   congr 1
   exact List.map_congr_left fun x hx => ih x hx (fun n hn => h n (by rw [vs_a]; exact List.mem_flatMap.2 ⟨x, hx, hn⟩))
theorem app_id : ∀ t : Ty, t.app Ty.v = t := by
 intro t
 induction t using Ty.ind with
 | hv n => rw [app_v]
 | ha nm xs ih =>
   rw [app_a]
   congr 1
   conv => rhs; rw [← List.map_id xs]
   exact List.map_congr_left fun x hx => ih x hx
theorem app_app (σ τ : Sub) : ∀ t : Ty, (t.app τ).app σ = t.app (fun n => (τ n).app σ) := by
 intro t
 induction t using Ty.ind with
 | hv n => rw [app_v, app_v]
 | ha nm xs ih =>
   rw [app_a, app_a, app_a, List.map_map]
   congr 1
   exact List.map_congr_left fun x hx => ih x hx
theorem vs_app (σ : Sub) (m : Nat) : ∀ t : Ty, m ∈ (t.app σ).vs ↔ ∃ n ∈ t.vs, m ∈ (σ n).vs := by
 intro t
 induction t using Ty.ind with
 | hv n => rw [app_v, vs_v]; simp
 | ha nm xs ih =>
   rw [app_a, vs_a, vs_a]
   simp only [List.mem_flatMap, List.mem_map]
   constructor
   · rintro ⟨_, ⟨x, hx, rfl⟩, hm⟩
     obtain ⟨n, h1, h2⟩ := (ih x hx).1 hm
     exact ⟨n, ⟨x, hx, h1⟩, h2⟩
   · rintro ⟨n, ⟨x, hx, h1⟩, h2⟩
     exact ⟨_, ⟨x, hx, rfl⟩, (ih x hx).2 ⟨n, h1, h2⟩⟩
theorem sz_var (σ : Sub) {n : Nat} : ∀ {t : Ty}, n ∈ t.vs → (σ n).sz ≤ (t.app σ).sz := by
 intro t
 induction t using Ty.ind with
 | hv m => intro h; rw [vs_v] at h; simp at h; subst h; rw [app_v]; exact Nat.le_refl _
 | ha nm xs ih =>
   intro h
   rw [vs_a] at h
   obtain ⟨x, hx, hn⟩ := List.mem_flatMap.1 h
   rw [app_a, sz_a]
   have h1 := ih x hx hn
   have h2 := sum_ge Ty.sz (List.mem_map.2 ⟨x, hx, rfl⟩ : x.app σ ∈ xs.map (Ty.app σ))
   omega
theorem sz_var_lt (σ : Sub) {n : Nat} {nm : List UInt8} {xs : List Ty} (h : n ∈ (Ty.a nm xs).vs) : (σ n).sz < ((Ty.a nm xs).app σ).sz := by
 rw [vs_a] at h
 obtain ⟨x, hx, hn⟩ := List.mem_flatMap.1 h
 rw [app_a, sz_a]
 have h1 := sz_var σ hn
 have h2 := sum_ge Ty.sz (List.mem_map.2 ⟨x, hx, rfl⟩ : x.app σ ∈ xs.map (Ty.app σ))
 omega
/-! ### What variables stand for: a partial map; what makes all of it so. -/
abbrev Map := Nat → Option Ty
def Sol (f : Map) (σ : Sub) : Prop := ∀ n t, f n = some t → σ n = t.app σ
/-- Variables stand for variables without end nowhere; and something makes all of it so. -/
structure Fine (f : Map) : Prop where
 down : ∃ r : Nat → Nat, ∀ n m, f n = some (.v m) → r m < r n
 sol : ∃ σ, Sol f σ
/-- As a law for types and variables: what holds of all that a variable stands for holds of it. -/
theorem Fine.ind {f : Map} (h : Fine f) {P : Nat → Prop} (step : ∀ n, (∀ t, f n = some t → ∀ m ∈ t.vs, P m) → P n) (n : Nat) : P n := by
 obtain ⟨r, hr⟩ := h.down
 obtain ⟨σ, hσ⟩ := h.sol
 have key : ∀ k j n, (σ n).sz ≤ k → r n ≤ j → P n := by
  intro k
  induction k with
  | zero => intro j n h1; have := sz_pos (σ n); omega
  | succ k ihk =>
    intro j
    induction j with
    | zero =>
      intro n h1 h2
      refine step n (fun t ht m hm => ?_)
      cases t with
      | v m' => have := hr n m' ht; omega
      | a nm xs =>
        have h3 := sz_var_lt σ hm
        rw [← hσ n _ ht] at h3
        exact ihk (r m) m (by omega) (Nat.le_refl _)
    | succ j ihj =>
      intro n h1 h2
      refine step n (fun t ht m hm => ?_)
      cases t with
      | v m' =>
        rw [vs_v] at hm
        simp at hm
        subst hm
        have h3 := hr n m ht
        have h4 := hσ n _ ht
        rw [app_v] at h4
        exact ihj m (by rw [← h4]; exact h1) (by omega)
      | a nm xs =>
        have h3 := sz_var_lt σ hm
        rw [← hσ n _ ht] at h3
        exact ihk (r m) m (by omega) (Nat.le_refl _)
 exact key _ _ n (Nat.le_refl _) (Nat.le_refl _)
/-- A substitution is what a map says, again and again. -/
def Norm (f : Map) (N : Sub) : Prop := ∀ n, N n = match f n with | some t => t.app N | none => .v n
theorem Norm.sol {f : Map} {N : Sub} (h : Norm f N) : Sol f N := fun n t ht => by rw [h n, ht]
theorem Norm.most {f : Map} {N σ : Sub} (hf : Fine f) (h : Norm f N) (hσ : Sol f σ) : ∀ n, σ n = (N n).app σ := by
 refine hf.ind (fun n ih => ?_)
 rw [h n]
 cases ht : f n with
 | none => rw [app_v]
 | some t =>
   rw [hσ n t ht]
   show t.app σ = (t.app N).app σ
   rw [app_app]
   exact app_congr t (fun m hm => ih t ht m hm)
/-- What a map says, so many times. -/
def goN (f : Map) : Nat → Sub
 | 0 => Ty.v
 | k + 1 => fun n => match f n with | some t => t.app (goN f k) | none => .v n
theorem goN_succ (f : Map) (k n : Nat) : goN f (k + 1) n = match f n with | some t => t.app (goN f k) | none => .v n := rfl
/-- From some number on it says no more. -/
theorem goN_stays {f : Map} (hf : Fine f) : ∀ n, ∃ K, ∀ k, K ≤ k → goN f k n = goN f K n := by
 refine hf.ind (fun n ih => ?_)
 cases ht : f n with
 | none =>
   refine ⟨1, fun k hk => ?_⟩
   obtain ⟨j, rfl⟩ : ∃ j, k = j + 1 := ⟨k - 1, by omega⟩
   rw [goN_succ, goN_succ, ht]
 | some t =>
   have key : ∀ l : List Nat, (∀ m ∈ l, ∃ K, ∀ k, K ≤ k → goN f k m = goN f K m) → ∃ K, ∀ m ∈ l, ∀ k, K ≤ k → goN f k m = goN f K m := by
    intro l
    induction l with
    | nil => intro _; exact ⟨0, fun m hm => by cases hm⟩
    | cons x r ihr =>
      intro h
      obtain ⟨K1, h1⟩ := h x (by simp)
      obtain ⟨K2, h2⟩ := ihr (fun m hm => h m (by simp [hm]))
      refine ⟨max K1 K2, fun m hm k hk => ?_⟩
      rcases List.mem_cons.1 hm with rfl | hm
      · rw [h1 k (by omega), h1 (max K1 K2) (by omega)]
      · rw [h2 m hm k (by omega), h2 m hm (max K1 K2) (by omega)]
   obtain ⟨K, hK⟩ := key t.vs (fun m hm => ih t ht m hm)
   refine ⟨K + 1, fun k hk => ?_⟩
   obtain ⟨j, rfl⟩ : ∃ j, k = j + 1 := ⟨k - 1, by omega⟩
   rw [goN_succ, goN_succ, ht]
   exact app_congr t (fun m hm => hK m hm j (by omega))
theorem Fine.norm {f : Map} (hf : Fine f) : ∃ N, Norm f N := by
 have hc := fun n => Classical.choose_spec (goN_stays hf n)
 refine ⟨fun n => goN f (Classical.choose (goN_stays hf n)) n, fun n => ?_⟩
 have h1 := hc n (Classical.choose (goN_stays hf n) + 1 + (match f n with | some t => (t.vs.map fun m => Classical.choose (goN_stays hf m)).sum | none => 0)) (by omega)
 refine h1.symm.trans ?_
 cases ht : f n with
 | none =>
   show goN f (_ + 1 + 0) n = .v n
   rw [Nat.add_zero, goN_succ, ht]
 | some t =>
   show goN f (_ + 1 + (t.vs.map fun m => Classical.choose (goN_stays hf m)).sum) n = t.app _
   rw [Nat.add_right_comm, goN_succ, ht]
   refine app_congr t (fun m hm => ?_)
   refine hc m _ ?_
   have := sum_ge (fun m => Classical.choose (goN_stays hf m)) hm
   omega
end Ux
end Go.Proofs.YtcblppojnailpaaDoor
namespace Go.Proofs.YtcblppojnailpaaDoor
open Go Go.RowKit
set_option linter.unusedVariables false
set_option linter.unusedSimpArgs false
theorem grown_below {B : Nat} {w w' : World} (h : Below B w w') (hB : w.heap.size ≤ B) (row : Option Nat) : w.grownBy w' row := ⟨h.os, h.tape, h.output, h.size, fun k hk _ => h.block k (by omega)⟩
theorem own_kept {w w' : World} {base : Nat} {e : TypeId} {size : Nat} {v : Value} {n : Nat} {xs : List Value} (h : w.ownsRow base e size v n xs) (hb : Below w.heap.size w w') : w'.ownsRow base e size v n xs := by
 refine h.kept (grown_below hb (Nat.le_refl _) (some w.heap.size)) ?_
 cases hv : v.ownBlock with
 | none => exact .inl rfl
 | some k => exact .inr (by have := (h.lt k hv).2; simp; omega)
/-- Values that stand for parts, one by one. -/
def Reps {α : Type} (rep : Value → α → Prop) : List Value → List α → Prop
 | [], [] => True
 | v :: vs, x :: xs => rep v x ∧ Reps rep vs xs
 | _, _ => False
theorem Reps.len {α : Type} {rep : Value → α → Prop} : ∀ {vs : List Value} {xs : List α}, Reps rep vs xs → vs.length = xs.length
 | [], [], _ => rfl
 | _ :: _, _ :: _, h => by simp [Reps.len h.2]
 | [], _ :: _, h => h.elim
 | _ :: _, [], h => h.elim
theorem Reps.snoc {α : Type} {rep : Value → α → Prop} {v : Value} {x : α} (hx : rep v x) : ∀ {vs : List Value} {xs : List α}, Reps rep vs xs → Reps rep (vs ++ [v]) (xs ++ [x])
 | [], [], _ => ⟨hx, trivial⟩
 | _ :: _, _ :: _, h => ⟨h.1, Reps.snoc hx h.2⟩
 | [], _ :: _, h => h.elim
 | _ :: _, [], h => h.elim
theorem Reps.mono {α : Type} {rep rep' : Value → α → Prop} (hr : ∀ v x, rep v x → rep' v x) : ∀ {vs : List Value} {xs : List α}, Reps rep vs xs → Reps rep' vs xs
 | [], [], _ => trivial
 | _ :: vs, _ :: xs, h => ⟨hr _ _ h.1, Reps.mono hr h.2⟩
 | [], _ :: _, h => h.elim
 | _ :: _, [], h => h.elim
theorem Reps.at {α : Type} {rep : Value → α → Prop} : ∀ {vs : List Value} {xs : List α} {i : Nat} {x : α}, Reps rep vs xs → xs[i]? = some x → ∃ v, vs[i]? = some v ∧ rep v x
 | [], [], _, _, _, h => by simp at h
 | v :: _, _ :: _, 0, _, h, hx => by simp at hx; subst hx; exact ⟨v, rfl, h.1⟩
 | _ :: _, _ :: _, _ + 1, _, h, hx => by simp at hx; simpa using Reps.at h.2 hx
 | [], _ :: _, _, _, h, _ => h.elim
 | _ :: _, [], _, _, h, _ => h.elim
def cellsOf (vs : List Value) : List Value := vs.flatMap fun v => v.cells.toList
theorem cellsOf_len (sz : Nat) : ∀ {vs : List Value}, (∀ v ∈ vs, v.cells.size = sz) → (cellsOf vs).length = vs.length * sz
 | [], _ => by simp [cellsOf]
 | v :: vs, h => by
   have e : cellsOf (v :: vs) = v.cells.toList ++ cellsOf vs := by simp [cellsOf]
   rw [e, List.length_append, Array.length_toList, h v (by simp), cellsOf_len sz (fun u hu => h u (by simp [hu])), List.length_cons, Nat.add_mul]; omega
theorem cellsOf_at (sz : Nat) : ∀ {vs : List Value} {i j : Nat} {v c : Value}, (∀ v ∈ vs, v.cells.size = sz) → vs[i]? = some v → v.cells[j]? = some c → (cellsOf vs)[i * sz + j]? = some c
 | [], _, _, _, _, _, h, _ => by simp at h
 | u :: vs, 0, j, v, c, hs, h, hc => by
   simp at h; subst h
   have e : cellsOf (u :: vs) = u.cells.toList ++ cellsOf vs := by simp [cellsOf]
   have hj : j < u.cells.size := (Array.getElem?_eq_some_iff.1 hc).1
   rw [e, Nat.zero_mul, Nat.zero_add, List.getElem?_append_left (by simpa using hj)]; simpa using hc
 | u :: vs, i + 1, j, v, c, hs, h, hc => by
   simp at h
   have e : cellsOf (u :: vs) = u.cells.toList ++ cellsOf vs := by simp [cellsOf]
   have hu := hs u (by simp)
   rw [e, List.getElem?_append_right (by rw [Array.length_toList, hu, Nat.add_mul]; omega), Array.length_toList, hu]
   have := cellsOf_at sz (fun x hx => hs x (by simp [hx])) h hc
   rw [← this]; congr 1; rw [Nat.add_mul]; omega
/-- A list of parts as a slice of elements of sz cells. -/
def RowAt {α : Type} (sz : Nat) (rep : Value → α → Prop) (w : World) (v : Value) (xs : List α) : Prop :=
 (xs = [] ∧ ∃ p c, v = .slice p 0 c) ∨
   ∃ g o c, v = .slice (some ⟨g, o, none⟩) xs.length c ∧ xs.length ≤ c ∧ (c : Int) ≤ 9223372036854775807 ∧
    ∀ i x, xs[i]? = some x → ∃ u, rep u x ∧ u.cells.size = sz ∧ ∀ j z, u.cells[j]? = some z → w.cell? ⟨g, o + i * sz + j, none⟩ = some z
theorem RowAt.len {α : Type} {sz : Nat} {rep : Value → α → Prop} {w : World} {v : Value} {xs : List α} (h : RowAt sz rep w v xs) : ∃ p c, v = .slice p xs.length c := by
 rcases h with ⟨rfl, p, c, rfl⟩ | ⟨g, o, c, h, _⟩
 · exact ⟨p, c, rfl⟩
 · exact ⟨_, c, h⟩
theorem RowAt.mono {α : Type} {sz : Nat} {rep rep' : Value → α → Prop} {w w' : World} {v : Value} {xs : List α} (h : RowAt sz rep w v xs) (hb : Below w.heap.size w w') (hr : ∀ u x, x ∈ xs → rep u x → rep' u x) : RowAt sz rep' w' v xs := by
 rcases h with h | ⟨g, o, c, h1, h2, h3, h4⟩
 · exact .inl h
 · refine .inr ⟨g, o, c, h1, h2, h3, fun i x hx => ?_⟩
   obtain ⟨u, a, b, d⟩ := h4 i x hx
   refine ⟨u, hr u x (List.mem_of_getElem? hx) a, b, fun j z hz => ?_⟩
   have := d j z hz
   rw [hb.cell (World.block_lt_of_cell? w _ this)]; exact this
/-- What the new blocks of a call hold: it stays while they stay. -/
def New {α : Type} (rep : World → Value → α → Prop) (w w' : World) (v : Value) (x : α) : Prop :=
 ∀ u : World, (∀ b, w.heap.size ≤ b → b < w'.heap.size → u.heap[b]? = w'.heap[b]?) → rep u v x
theorem New.now {α : Type} {rep : World → Value → α → Prop} {w w' : World} {v : Value} {x : α} (h : New rep w w' v x) : rep w' v x := h w' fun _ _ _ => rfl
/-- A part that stays while the blocks from lo to hi stay, a list's own block not among them. -/
def Kept {α : Type} (rep : World → Value → α → Prop) (base : Nat) (w : World) (ob : Option Nat) (v : Value) (x : α) : Prop :=
 ∃ lo hi, base ≤ lo ∧ hi ≤ w.heap.size ∧ (∀ g, ob = some g → g < lo ∨ hi ≤ g) ∧ ∀ u : World, (∀ b, lo ≤ b → b < hi → u.heap[b]? = w.heap[b]?) → rep u v x
theorem Kept.since {α : Type} {rep : World → Value → α → Prop} {base : Nat} {w w' : World} {ob ob' : Option Nat} {v : Value} {x : α} (h : Kept rep base w ob v x) (hs : w.heap.size ≤ w'.heap.size)
 (hk : ∀ b, base ≤ b → b < w.heap.size → ob ≠ some b → w'.heap[b]? = w.heap[b]?) (ho : ob' = ob ∨ ∀ g, ob' = some g → w.heap.size ≤ g) : Kept rep base w' ob' v x := by
 obtain ⟨lo, hi, h0, h1, h2, h3⟩ := h
 refine ⟨lo, hi, h0, by omega, fun g hg => ?_, fun u hu => h3 u fun b hb1 hb2 => ?_⟩
 · rcases ho with rfl | ho
   · exact h2 g hg
   · have := ho g hg; omega
 · rw [hu b hb1 hb2]
   exact hk b (by omega) (by omega) (fun e => by have := h2 b e; omega)
theorem Kept.step {α : Type} {rep : World → Value → α → Prop} {base : Nat} {w w' : World} {ob ob' : Option Nat} {v : Value} {x : α} (h : Kept rep base w ob v x) (hs : w.heap.size ≤ w'.heap.size)
 (hk : ∀ b, b < w.heap.size → ob ≠ some b → w'.heap[b]? = w.heap[b]?) (ho : ob' = ob ∨ ∀ g, ob' = some g → w.heap.size ≤ g) : Kept rep base w' ob' v x :=
 h.since hs (fun b _ => hk b) ho
theorem Kept.below {α : Type} {rep : World → Value → α → Prop} {base : Nat} {w w' : World} {ob : Option Nat} {v : Value} {x : α} (h : Kept rep base w ob v x) (hb : Below w.heap.size w w') : Kept rep base w' ob v x :=
 h.step hb.size (fun b hb1 _ => hb.block b hb1) (.inl rfl)
theorem New.kept {α : Type} {rep : World → Value → α → Prop} {base : Nat} {w w' : World} {ob : Option Nat} {v : Value} {x : α} (h : New rep w w' v x) (hb : base ≤ w.heap.size) (ho : ∀ g, ob = some g → g < w.heap.size) : Kept rep base w' ob v x :=
 ⟨w.heap.size, w'.heap.size, hb, Nat.le_refl _, fun g hg => .inl (ho g hg), h⟩
/-- A list of the call's own, its parts made since: what the call hands back. -/
theorem New.row {α : Type} {sz : Nat} {rep : World → Value → α → Prop} {w0 w : World} {E n : Nat} {v : Value} {vs : List Value} {xs : List α} (h : w.ownsRow w0.heap.size E sz v n (cellsOf vs)) (hn : n = xs.length)
 (hr : Reps (Kept rep w0.heap.size w v.ownBlock) vs xs) (hs : ∀ v ∈ vs, v.cells.size = sz) : New (fun u => RowAt sz (rep u) u) w0 w v xs := by
 intro u hu
 subst hn
 rcases h.2 with ⟨rfl, hn⟩ | ⟨g, cap, cur, rfl, hb, hg, hc1, hc2, hc3, hc4⟩
 · exact .inl ⟨List.eq_nil_of_length_eq_zero hn, none, 0, rfl⟩
 · refine .inr ⟨g, 0, cap, rfl, hc1, by unfold maxLen at hc2; omega, fun i x hx => ?_⟩
   obtain ⟨y, hy, lo, hi, h0, h1, _, h3⟩ := hr.at hx
   refine ⟨y, h3 u fun b hb1 hb2 => hu b (by omega) (by omega), hs y (List.mem_of_getElem? hy), fun j z hz => ?_⟩
   have hcell := World.ownsRow.cells h (g := g) rfl (i * sz + j) z (cellsOf_at sz hs hy hz)
   have e : (⟨g, 0, none⟩ : Addr).add (i * sz + j) = ⟨g, 0 + i * sz + j, none⟩ := by unfold Addr.add; split <;> simp_all
   rw [e] at hcell
   have hlt : g < w.heap.size := (Array.getElem?_eq_some_iff.1 hg).1
   rw [World.cell?_of_block (w := w) (hu g hb hlt)]; exact hcell
theorem run_append_loc (w : World) (base : Nat) (t ty e : TypeId) (i : TypeInfo) (z : Value) (size bytes : Nat) (ht : Tryd.prog.underlying t = some (.slice e)) (hi : Tryd.prog.info? e = some i) (hz : i.zero = some z)
 (hsize : i.size = size) (hby : i.bytes = bytes) (hzs : z.cells.size = size) (hsz : 0 < size)
 (v : Value) (n : Nat) (xs : List Value) (hown : w.ownsRow base e size v n xs)
 (a : Addr) (m c : Nat) (hm : 0 < m) (news : List Value) (hl : news.length = m * size) (hnews : ∀ j u, news[j]? = some u → w.cell? (a.add j) = some u) (h1 : ∀ u ∈ news, u.oneCell' = true)
 (h63 : n + m ≤ maxLen) (hbytes : (n + m) * bytes ≤ 140737488355328) (hbase : base ≤ w.heap.size) :
 ∃ v' w', (Builtin.append_ #[t, t] ty #[v, .slice (some a) m c]).run Tryd.prog w = .ok v' w' ∧ w'.ownsRow base e size v' (n + m) (xs ++ news) ∧ w.grownBy w' v.ownBlock ∧
  (v'.ownBlock = v.ownBlock ∨ ∀ g, v'.ownBlock = some g → w.heap.size ≤ g) := by
 obtain ⟨v', w', hr, h2, h3, _⟩ := run_append_own (P := Tryd.prog) w base t ty e i z size bytes ht hi hz hsize hby hzs hsz v n xs hown a m c news hl hnews h1 h63 hbytes hbase
 refine ⟨v', w', hr, h2, h3, ?_⟩
 subst hsize
 subst hby
 have hsmall : n + m ≤ 9223372036854775807 := by simp only [maxLen] at h63; omega
 rcases hown.2 with ⟨rfl, rfl⟩ | ⟨g, cap, cur, rfl, hbg, hg, hnc, hcm, hcs, htake⟩
 · have hr' := run_append_nil (P := Tryd.prog) w t ty e i z ht hi hz a m c news hl hnews (by omega) (by omega) (by have hb := hbytes; simp only [Nat.zero_add] at hb; omega)
   rw [hr] at hr'
   injection hr' with hv _
   subst hv
   exact .inr fun g hg => by simp only [Value.ownBlock, Option.some.injEq] at hg; omega
 · by_cases hroom : n + m ≤ cap
   · have hfit : n * i.size + news.length ≤ cur.size := by rw [hl, hcs, ← Nat.add_mul]; exact Nat.mul_le_mul_right _ hroom
     have hr' := run_append_room (P := Tryd.prog) w t ty e i ht hi g n cap cur hg a m c news hl hnews h1 hroom hfit
     rw [hr] at hr'
     injection hr' with hv _
     subst hv
     exact .inl rfl
   · have holds : ∀ j u, xs[j]? = some u → w.cell? ((⟨g, 0, none⟩ : Addr).add j) = some u := hown.cells (g := g) rfl
     have hr' := run_append_grow (P := Tryd.prog) w t ty e i z ht hi hz ⟨g, 0, none⟩ n cap xs hown.1 holds a m c news hl hnews (by omega) (by omega) (growslice_fits (by omega) hbytes)
     rw [hr] at hr'
     injection hr' with hv _
     subst hv
     exact .inr fun g hg => by simp only [Value.ownBlock, Option.some.injEq] at hg; omega
theorem wpList_append_loc (w : World) {ops : Array Oper} {rest : List Oper} {o : Oper} {a : Act} {Q : Exit → Act → World → Prop} (hgd : o.guard = none) (s x : Operand) (t : TypeId)
 (ho : o.op = .call { callee := .builtin .append, args := #[s, x], argTypes := #[t, t] })
 (base : Nat) (e : TypeId) (i : TypeInfo) (z : Value) (size bytes : Nat) (ht : Tryd.prog.underlying t = some (.slice e)) (hi : Tryd.prog.info? e = some i) (hz : i.zero = some z)
 (hsize : i.size = size) (hby : i.bytes = bytes) (hzs : z.cells.size = size) (hsz : 0 < size)
 (v : Value) (n : Nat) (xs : List Value) (hs : a.eval s = v) (hown : w.ownsRow base e size v n xs)
 (ad : Addr) (m c : Nat) (news : List Value) (hx : a.eval x = .slice (some ad) m c) (hm : 0 < m) (hl : news.length = m * size) (hnews : ∀ j u, news[j]? = some u → w.cell? (ad.add j) = some u) (h1 : ∀ u ∈ news, u.oneCell' = true)
 (h63 : n + m ≤ maxLen) (hbytes : (n + m) * bytes ≤ 140737488355328) (hbase : base ≤ w.heap.size)
 (h : ∀ v' w', w'.ownsRow base e size v' (n + m) (xs ++ news) → w.grownBy w' v.ownBlock → (v'.ownBlock = v.ownBlock ∨ ∀ g, v'.ownBlock = some g → w.heap.size ≤ g) → wpList Tryd.prog ops Q rest (a.put o.dst v') w') : wpList Tryd.prog ops Q (o :: rest) a w := by
 refine wpList_plain hgd fun K hK => ?_
 obtain ⟨v', w', hr, h2, h3, h4⟩ := run_append_loc w base t o.type e i z size bytes ht hi hz hsize hby hzs hsz v n xs hown ad m c hm news hl hnews h1 h63 hbytes hbase
 unfold Oper.wp execOp
 simp only [ho, resolve, invoke, builtin, Sem.run_bind, Sem.run_pure, Result.andThen_ok, List.map_toArray, List.map_cons, List.map_nil, hs, hx, hr]
 exact hK _ _ (h v' w' h2 h3 h4)
theorem ent_cell {w : World} {g : Nat} {cs : Array Value} {T : TypeId} {fr : Nat × Nat} (h : w.heap[g]? = some (.cells cs T fr)) (j : Nat) (v : Value) (hv : cs[j]? = some v) : w.cell? ⟨g, j, none⟩ = some v := by
 simp only [World.cell?, h]; simpa using hv
theorem ent_free {w : World} {g : Nat} {cs : Array Value} {T : TypeId} (h : w.heap[g]? = some (.cells cs T (0, 0))) (o : Nat) : w.frozen? ⟨g, o, none⟩ = false := by
 simp only [World.frozen?, h]; simp
theorem ent_new (w : World) (cs : Array Value) (T : TypeId) : (w.alloc (.cells cs T)).heap[w.heap.size]? = some (.cells cs T (0, 0)) := heap_alloc_new w _
theorem ent_lt {w : World} {g : Nat} {o : Obj} (h : w.heap[g]? = some o) : g < w.heap.size := (Array.getElem?_eq_some_iff.1 h).1
theorem ent_alloc {w : World} {g : Nat} {o : Obj} (h : w.heap[g]? = some o) (o' : Obj) : (w.alloc o').heap[g]? = some o := (Below.heap_alloc w o' g (ent_lt h)).trans h
theorem ent_below {w w' : World} {g : Nat} {o : Obj} (h : w.heap[g]? = some o) (hb : Below w.heap.size w w') : w'.heap[g]? = some o := (hb.block g (ent_lt h)).trans h
theorem ent_set {w : World} {g : Nat} {cs : Array Value} {T : TypeId} (h : w.heap[g]? = some (.cells cs T (0, 0))) (j : Nat) (v : Value) : (w.setCell ⟨g, j, none⟩ v).heap[g]? = some (.cells (cs.setIfInBounds j v) T (0, 0)) := heap_setCell_same w g j _ _ _ h
theorem ent_other {w : World} {g : Nat} {o : Obj} (h : w.heap[g]? = some o) (b j : Nat) (v : Value) (hne : g ≠ b) : (w.setCell ⟨b, j, none⟩ v).heap[g]? = some o := (Below.heap_setCell w ⟨b, j, none⟩ v g hne).trans h
theorem New.later {α : Type} {rep : World → Value → α → Prop} {w w1 w2 w' : World} {v : Value} {x : α} (h : New rep w1 w2 v x) (h0 : w.heap.size ≤ w1.heap.size) (hs : w2.heap.size ≤ w'.heap.size)
 (hk : ∀ b, w1.heap.size ≤ b → b < w2.heap.size → w'.heap[b]? = w2.heap[b]?) : New rep w w' v x :=
 fun u hu => h u fun b hb1 hb2 => (hu b (by omega) (by omega)).trans (hk b hb1 hb2)
/-- The blocks from lo on stay as they were. -/
def Stay (lo : Nat) (w w' : World) : Prop := w.heap.size ≤ w'.heap.size ∧ ∀ b, lo ≤ b → b < w.heap.size → w'.heap[b]? = w.heap[b]?
theorem Stay.refl (lo : Nat) (w : World) : Stay lo w w := ⟨Nat.le_refl _, fun _ _ _ => rfl⟩
theorem Stay.below {lo : Nat} {w w' w'' : World} (h : Stay lo w w') (hb : Below w'.heap.size w' w'') : Stay lo w w'' :=
 ⟨Nat.le_trans h.1 hb.size, fun b h1 h2 => (hb.block b (Nat.lt_of_lt_of_le h2 h.1)).trans (h.2 b h1 h2)⟩
theorem Stay.alloc {lo : Nat} {w w' : World} (h : Stay lo w w') (o : Obj) : Stay lo w (w'.alloc o) := h.below ((Below.refl _ _).alloc (Nat.le_refl _) o)
theorem Stay.set {lo : Nat} {w w' : World} (h : Stay lo w w') (g j : Nat) (v : Value) (hg : g < lo) : Stay lo w (w'.setCell ⟨g, j, none⟩ v) :=
 ⟨by simpa using h.1, fun b h1 h2 => (Below.heap_setCell w' ⟨g, j, none⟩ v b (by simp; omega)).trans (h.2 b h1 h2)⟩
theorem Stay.drew {lo : Nat} {w w' : World} (h : Stay lo w w') : Stay lo w w'.drew := h
theorem New.stay {α : Type} {rep : World → Value → α → Prop} {w w1 w2 w' : World} {v : Value} {x : α} (h : New rep w1 w2 v x) (h0 : w.heap.size ≤ w1.heap.size) (hs : Stay w1.heap.size w2 w') : New rep w w' v x :=
 h.later h0 hs.1 hs.2
theorem undrew {w w' : World} (h : Below w.drew.heap.size w.drew w') : Below w.heap.size w w' := ⟨h.os, h.tape, h.output, h.size, h.block⟩
/-- A part that stays while the blocks from lo to hi stay; those that may change (S) are not among them. -/
def KeptS {α : Type} (rep : World → Value → α → Prop) (base : Nat) (w : World) (S : Nat → Prop) (v : Value) (x : α) : Prop :=
 ∃ lo hi, base ≤ lo ∧ hi ≤ w.heap.size ∧ (∀ g, S g → g < lo ∨ hi ≤ g) ∧ ∀ u : World, (∀ b, lo ≤ b → b < hi → u.heap[b]? = w.heap[b]?) → rep u v x
theorem KeptS.step {α : Type} {rep : World → Value → α → Prop} {base : Nat} {w w' : World} {S S' : Nat → Prop} {v : Value} {x : α} (h : KeptS rep base w S v x) (hs : w.heap.size ≤ w'.heap.size)
 (hk : ∀ b, b < w.heap.size → base ≤ b → ¬ S b → w'.heap[b]? = w.heap[b]?) (ho : ∀ g, S' g → S g ∨ w.heap.size ≤ g) : KeptS rep base w' S' v x := by
 obtain ⟨lo, hi, h0, h1, h2, h3⟩ := h
 refine ⟨lo, hi, h0, by omega, fun g hg => ?_, fun u hu => h3 u fun b hb1 hb2 => ?_⟩
 · rcases ho g hg with hg | hg
   · exact h2 g hg
   · omega
 · rw [hu b hb1 hb2]
   exact hk b (by omega) (by omega) (fun e => by have := h2 b e; omega)
theorem KeptS.below {α : Type} {rep : World → Value → α → Prop} {base : Nat} {w w' : World} {S : Nat → Prop} {v : Value} {x : α} (h : KeptS rep base w S v x) (hb : Below w.heap.size w w') : KeptS rep base w' S v x :=
 h.step hb.size (fun b hb1 _ _ => hb.block b hb1) (fun _ h => .inl h)
theorem own_type_ne {w : World} {base base' n n' size size' : Nat} {e e' : TypeId} {v v' : Value} {xs xs' : List Value} (h : w.ownsRow base e size v n xs) (h' : w.ownsRow base' e' size' v' n' xs') (hT : e ≠ e') (b : Nat) (hb : v.ownBlock = some b) : v'.ownBlock ≠ some b := by
 intro hb'
 rcases h.2 with ⟨rfl, _⟩ | ⟨g, cap, cur, rfl, _, hg, _⟩
 · simp [Value.ownBlock] at hb
 · rcases h'.2 with ⟨rfl, _⟩ | ⟨g', cap', cur', rfl, _, hg', _⟩
   · simp [Value.ownBlock] at hb'
   · simp only [Value.ownBlock, Option.some.injEq] at hb hb'
     subst hb; subst hb'
     rw [hg] at hg'
     simp only [Option.some.injEq, Obj.cells.injEq] at hg'
     exact hT hg'.2.1
theorem step_append_loc {w : World} {ops : Array Oper} {o : Oper} {a : Act} {K : Act → World → Prop} {Q : Exit → Act → World → Prop} {X : Prop} (hgd : o.guard = none) (s x : Operand) (t : TypeId)
 (ho : o.op = .call { callee := .builtin .append, args := #[s, x], argTypes := #[t, t] })
 (base : Nat) (e : TypeId) (i : TypeInfo) (z : Value) (size bytes : Nat) (ht : Tryd.prog.underlying t = some (.slice e)) (hi : Tryd.prog.info? e = some i) (hz : i.zero = some z)
 (hsize : i.size = size) (hby : i.bytes = bytes) (hzs : z.cells.size = size) (hsz : 0 < size)
 (v : Value) (n : Nat) (xs : List Value) (hs : a.eval s = v) (hown : w.ownsRow base e size v n xs)
 (ad : Addr) (m c : Nat) (news : List Value) (hx : a.eval x = .slice (some ad) m c) (hm : 0 < m) (hl : news.length = m * size) (hnews : ∀ j u, news[j]? = some u → w.cell? (ad.add j) = some u) (h1 : ∀ u ∈ news, u.oneCell' = true)
 (h63 : n + m ≤ maxLen) (hbytes : (n + m) * bytes ≤ 140737488355328) (hbase : base ≤ w.heap.size)
 (h : ∀ v' w', w'.ownsRow base e size v' (n + m) (xs ++ news) → w.grownBy w' v.ownBlock → (v'.ownBlock = v.ownBlock ∨ ∀ g, v'.ownBlock = some g → w.heap.size ≤ g) → K (a.put o.dst v') w') :
 if Region.wanted o (yielded ops a.tmps) = true then Oper.wp Tryd.prog o a w K Q else X := by
 have hw : Region.wanted o (yielded ops a.tmps) = true := by simp [Region.wanted, hgd]
 rw [if_pos hw]
 obtain ⟨v', w', hr, h2, h3, h4⟩ := run_append_loc w base t o.type e i z size bytes ht hi hz hsize hby hzs hsz v n xs hown ad m c hm news hl hnews h1 h63 hbytes hbase
 unfold Oper.wp execOp
 simp only [ho, resolve, invoke, builtin, Sem.run_bind, Sem.run_pure, Result.andThen_ok, List.map_toArray, List.map_cons, List.map_nil, hs, hx, hr]
 exact h v' w' h2 h3 h4
theorem own_slice {w : World} {base e size n : Nat} {v : Value} {xs : List Value} (h : w.ownsRow base e size v n xs) : ∃ p cap, v = .slice p n cap := by
 rcases h.2 with ⟨rfl, rfl⟩ | ⟨g, cap, cur, rfl, _⟩
 · exact ⟨none, 0, rfl⟩
 · exact ⟨_, cap, rfl⟩
theorem row_vals {α : Type} {sz : Nat} {rep : Value → α → Prop} {w : World} {g : Nat} : ∀ (xs : List α) (o : Nat), (∀ i x, xs[i]? = some x → ∃ u, rep u x ∧ u.cells.size = sz ∧ ∀ j z, u.cells[j]? = some z → w.cell? ⟨g, o + i * sz + j, none⟩ = some z) →
 ∃ vs, Reps rep vs xs ∧ (∀ u ∈ vs, u.cells.size = sz) ∧ ∀ j z, (cellsOf vs)[j]? = some z → w.cell? ⟨g, o + j, none⟩ = some z
 | [], o, _ => ⟨[], trivial, by simp, by simp [cellsOf]⟩
 | x :: xs, o, h => by
   obtain ⟨u, hu1, hu2, hu3⟩ := h 0 x (by simp)
   obtain ⟨vs, hv1, hv2, hv3⟩ := row_vals xs (o + sz) (fun i y hy => by
    obtain ⟨u, a, b, c⟩ := h (i + 1) y (by simpa using hy)
    refine ⟨u, a, b, fun j z hz => ?_⟩
    rw [← c j z hz]
    have e : o + sz + i * sz + j = o + (i + 1) * sz + j := by rw [Nat.add_mul]; omega
    rw [e])
   refine ⟨u :: vs, ⟨hu1, hv1⟩, fun z hz => ?_, fun j z hz => ?_⟩
   · rcases List.mem_cons.1 hz with rfl | hz
     · exact hu2
     · exact hv2 _ hz
   · have e : cellsOf (u :: vs) = u.cells.toList ++ cellsOf vs := by simp [cellsOf]
     rw [e] at hz
     by_cases hj : j < u.cells.size
     · rw [List.getElem?_append_left (by simpa using hj)] at hz
       have := hu3 j z (by simpa using hz)
       simpa using this
     · rw [List.getElem?_append_right (by simpa using hj), Array.length_toList, hu2] at hz
       rw [hu2] at hj
       have h5 := hv3 _ z hz
       have e2 : o + sz + (j - sz) = o + j := by omega
       rw [e2] at h5; exact h5
theorem Reps.append {α : Type} {rep : Value → α → Prop} : ∀ {vs us : List Value} {xs ys : List α}, Reps rep vs xs → Reps rep us ys → Reps rep (vs ++ us) (xs ++ ys)
 | [], _, [], _, _, h => h
 | _ :: _, _, _ :: _, _, h, k => ⟨h.1, Reps.append h.2 k⟩
 | [], _, _ :: _, _, h, _ => h.elim
 | _ :: _, _, [], _, h, _ => h.elim
theorem Reps.all {α : Type} {rep : Value → α → Prop} {q : Value → Prop} (hq : ∀ u x, rep u x → q u) : ∀ {vs : List Value} {xs : List α}, Reps rep vs xs → ∀ u ∈ vs, q u
 | [], [], _, _, h => by cases h
 | v :: vs, x :: xs, h, u, hu => by
   rcases List.mem_cons.1 hu with rfl | hu
   · exact hq _ _ h.1
   · exact Reps.all hq h.2 u hu
 | [], _ :: _, h, _, _ => h.elim
 | _ :: _, [], h, _, _ => h.elim
theorem cellsOf_append (a b : List Value) : cellsOf (a ++ b) = cellsOf a ++ cellsOf b := by simp [cellsOf]
/-- An own row stays while its block does. -/
theorem own_same {w w' : World} {base e size n : Nat} {v : Value} {xs : List Value} (h : w.ownsRow base e size v n xs) (hk : ∀ k, v.ownBlock = some k → w'.heap[k]? = w.heap[k]?) : w'.ownsRow base e size v n xs := by
 refine ⟨h.1, ?_⟩
 rcases h.2 with h2 | ⟨g, cap, cur, rfl, hb, hg, hc⟩
 · exact .inl h2
 · exact .inr ⟨g, cap, cur, rfl, hb, by rw [hk g rfl]; exact hg, hc⟩
theorem run_append_zero (w : World) (base : Nat) (t ty e : TypeId) (i : TypeInfo) (size : Nat) (ht : Tryd.prog.underlying t = some (.slice e)) (hi : Tryd.prog.info? e = some i)
 (v : Value) (n : Nat) (xs : List Value) (hown : w.ownsRow base e size v n xs) (q : Option Addr) (c : Nat) : (Builtin.append_ #[t, t] ty #[v, .slice q 0 c]).run Tryd.prog w = .ok v w := by
 have hfc : ∀ q : Option Addr, (Builtin.firstCells i.size 0 (.slice q 0 c)).run Tryd.prog w = .ok #[] w := by
  intro q
  cases q <;> simp [Builtin.firstCells, loadCells, loadCellsFrom]
 rcases hown.2 with ⟨rfl, rfl⟩ | ⟨g, cap, cur, rfl, hbg, hg, hnc, hcm, hcs, htake⟩
 · simp [Builtin.append_, run_underlying ht, sizeOf, typeInfo, hi, Builtin.lenOf, hfc]
 · simp [Builtin.append_, run_underlying ht, sizeOf, typeInfo, hi, Builtin.lenOf, hfc, hnc, storeCells]
theorem ent_drew {w : World} {g : Nat} {o : Option Obj} (h : Hid (w.heap[g]? = o)) : Hid (w.drew.heap[g]? = o) := h
theorem cell_up {w W : World} (h : Below w.heap.size w W) {a : Addr} {z : Value} (hz : w.cell? a = some z) : W.cell? a = some z := (h.cell (World.block_lt_of_cell? w _ hz)).trans hz
/-- A list lies where no text is laid in: where it begins can be told from where others do. -/
def Free (w : World) (v : Value) : Prop := ∀ g o m c, v = .slice (some ⟨g, o, none⟩) m c → 0 < m → ∃ cs T, w.heap[g]? = some (.cells cs T (0, 0))
theorem Free.keep {w w' : World} {v : Value} (h : Free w v) (hk : ∀ b, b < w.heap.size → w'.heap[b]? = w.heap[b]?) : Free w' v := by
 intro g o m c hv hm
 obtain ⟨cs, T, hg⟩ := h g o m c hv hm
 exact ⟨cs, T, (hk g (Array.getElem?_eq_some_iff.1 hg).1).trans hg⟩
/-- A type's value (f: so deep, less one, at most). A name of its own has a variable's number below 0. -/
def TyAt : Nat → World → Value → Ux.Ty → Prop
 | 0, _, _, _ => False
 | _ + 1, _, v, .v n => ∃ s q m c, v = .agg #[.int .i64 n, .string s, .slice q m c]
 | f + 1, u, v, .a nm xs => ∃ (k : Int) (av : Value), k < 0 ∧ v = .agg #[.int .i64 k, .string ⟨nm.toArray⟩, av] ∧ RowAt 3 (TyAt f u) u av xs ∧ Free u av
theorem tyAt_below : ∀ {f : Nat} {w w' : World} {v : Value} {t : Ux.Ty}, TyAt f w v t → Below w.heap.size w w' → TyAt f w' v t
 | 0, _, _, _, _, h, _ => h.elim
 | _ + 1, _, _, _, .v _, h, _ => h
 | f + 1, _, _, _, .a _ _, ⟨k, av, h1, h2, h3, h4⟩, hb => ⟨k, av, h1, h2, h3.mono hb fun _ _ _ h => tyAt_below h hb, h4.keep hb.block⟩
theorem tyAt_sh {f : Nat} {w : World} {v : Value} {t : Ux.Ty} (h : TyAt f w v t) : ∃ k s q m c, v = .agg #[.int .i64 k, .string s, .slice q m c] := by
 cases f with
 | zero => exact h.elim
 | succ f =>
   cases t with
   | v n => obtain ⟨s, q, m, c, rfl⟩ := h; exact ⟨_, s, q, m, c, rfl⟩
   | a nm xs =>
     obtain ⟨k, av, _, rfl, h3, _⟩ := h
     obtain ⟨q, c, rfl⟩ := h3.len
     exact ⟨k, _, q, _, c, rfl⟩
end Go.Proofs.YtcblppojnailpaaDoor
namespace Go.Proofs.YtcblppojnailpaaDoor
open Go Go.RowKit
set_option linter.unusedVariables false
set_option linter.unusedSimpArgs false
theorem isVar_any (k : Int) (s q : Value) (w : World) : Calls Tryd.prog 50 #[.agg #[.int .i64 k, s, q]] w (fun e w' => e = .returned (.bool (decide (0 ≤ k))) ∧ Below w.heap.size w w') := by
 go_enter Tryd.func50, Tryd.ntmps50
 have EP := Lib.hid (ent_new w #[.int .i64 k, s, q] 30)
 have HB := Lib.hid (show Below w.heap.size w (w.alloc (.cells #[.int .i64 k, s, q] 30)) from (Below.refl _ _).alloc (Nat.le_refl _) _)
 go_upto_region 1 with fail
 generalize w.alloc (.cells #[.int .i64 k, s, q] 30) = w1 at EP HB ⊢
 have y0 := ent_cell EP.out 0 _ rfl
 go_wp2_with fail
 go_ret
 exact ⟨rfl, HB.out⟩
theorem var_any (k : Int) (w : World) : Calls Tryd.prog 28 #[.int .i64 k] w (fun e w' => e = .returned (.agg #[.int .i64 k, .string ⟨#[]⟩, .slice none 0 0]) ∧ Below w.heap.size w w') := by
 go_enter Tryd.func28, Tryd.ntmps28
 go_wp2_with fail
 have EP := Lib.hid (ent_new w #[.int .i64 k, .string ⟨#[]⟩, .slice none 0 0] 30)
 have HB := Lib.hid (show Below w.heap.size w (w.alloc (.cells #[.int .i64 k, .string ⟨#[]⟩, .slice none 0 0] 30)) from (Below.refl _ _).alloc (Nat.le_refl _) _)
 generalize w.alloc (.cells #[.int .i64 k, .string ⟨#[]⟩, .slice none 0 0] 30) = w1 at EP HB ⊢
 have r0 := ent_cell EP.out 0 _ rfl
 have r1 := ent_cell EP.out 1 _ rfl
 have r2 := ent_cell EP.out 2 _ rfl
 refine bodyPost_ret (v := .agg #[.int .i64 k, .string ⟨#[]⟩, .slice none 0 0]) (by simp [results, Tryd.results28, go_sem, r0, r1, r2]) rfl ?_
 exact ⟨rfl, HB.out⟩
namespace Ux
def hasT (t : Ty) (n : Nat) : Bool := t.vs.contains n
def hasL (xs : List Ty) (n : Nat) : Bool := xs.any fun x => hasT x n
theorem hasT_v (m n : Nat) : hasT (.v m) n = decide (m = n) := by
 unfold hasT; rw [vs_v]
 by_cases h : m = n
 · subst h; simp
 · simp [h, Ne.symm h]
theorem hasT_a (nm : List UInt8) (xs : List Ty) (n : Nat) : hasT (.a nm xs) n = hasL xs n := by
 unfold hasT hasL; rw [vs_a]
 induction xs with
 | nil => rfl
 | cons x r ih => rw [List.any_cons, ← ih, List.flatMap_cons]; simp [hasT]
theorem hasL_take {xs : List Ty} {k : Nat} {x : Ty} (h : xs[k]? = some x) (n : Nat) : hasL (xs.take (k + 1)) n = (hasL (xs.take k) n || hasT x n) := by
 unfold hasL; rw [List.take_add_one, h]; simp
theorem hasL_of_take {xs : List Ty} {k n : Nat} (h : hasL (xs.take k) n = true) : hasL xs n = true := by
 unfold hasL at h ⊢
 rw [List.any_eq_true] at h ⊢
 obtain ⟨x, h1, h2⟩ := h
 exact ⟨x, List.mem_of_mem_take h1, h2⟩
end Ux
def HasC (f : Nat) : Prop := ∀ (t : Ux.Ty) (v : Value) (n : Nat) (w : World), TyAt f w v t → Calls Tryd.prog 34 #[v, .int .i64 n] w (fun e w' => e = .returned (.bool (Ux.hasT t n)) ∧ Below w.heap.size w w')
set_option maxHeartbeats 4000000 in
theorem has_step (f : Nat) (ih : HasC f) : HasC (f + 1) := by
 intro t v n w ht
 cases t with
 | v m =>
   obtain ⟨s, q, j, c, rfl⟩ := ht
   rw [Ux.hasT_v]
   go_enter Tryd.func34, Tryd.ntmps34
   have EP := Lib.hid (ent_new w #[.int .i64 m, .string s, .slice q j c] 30)
   have HB := Lib.hid (show Below w.heap.size w (w.alloc (.cells #[.int .i64 m, .string s, .slice q j c] 30)) from (Below.refl _ _).alloc (Nat.le_refl _) _)
   go_upto_region 1 with fail
   generalize w.alloc (.cells #[.int .i64 m, .string s, .slice q j c] 30) = w1 at EP HB ⊢
   have y0 := ent_cell EP.out 0 _ rfl
   have hm : (0 : Int) ≤ (m : Int) := by omega
   by_cases h : m = n
   · subst h
     go_wp2_with fail
     go_ret
     exact ⟨by simp, HB.out⟩
   · have hne : ¬ ((m : Int) = (n : Int)) := by omega
     go_wp2_with fail
     go_ret
     exact ⟨by simp [h, hne], HB.out⟩
 | a nm xs =>
   obtain ⟨k, av, hk, rfl, hx, _⟩ := ht
   rw [Ux.hasT_a]
   obtain ⟨q, cp, rfl⟩ := hx.len
   have HX := Lib.hid hx
   go_enter Tryd.func34, Tryd.ntmps34
   have EP := Lib.hid (ent_new w #[.int .i64 k, .string ⟨nm.toArray⟩, .slice q xs.length cp] 30)
   have HB := Lib.hid (show Below w.heap.size w (w.alloc (.cells #[.int .i64 k, .string ⟨nm.toArray⟩, .slice q xs.length cp] 30)) from (Below.refl _ _).alloc (Nat.le_refl _) _)
   go_upto_region 1 with fail
   generalize w.alloc (.cells #[.int .i64 k, .string ⟨nm.toArray⟩, .slice q xs.length cp] 30) = w1 at EP HB ⊢
   have y0 := ent_cell EP.out 0 _ rfl
   go_wp2_with fail
   go_loopw [4, 5] (fun _ i wr => ∃ j : Nat, i = .int .i64 j ∧ j ≤ xs.length ∧ Hid (Ux.hasL (xs.take j) n = false) ∧ Hid (wr.heap[w.heap.size]? = some (.cells #[.int .i64 k, .string ⟨nm.toArray⟩, .slice q xs.length cp] 30 (0, 0))) ∧ Hid (Below w.heap.size w wr)) (fun _ i _ => xs.length - (intOf i).toNat)
   case atStart => exact ⟨0, rfl, Nat.zero_le _, Lib.hid rfl, EP, HB⟩
   case round =>
    clear EP HB y0
    obtain ⟨j, rfl, hj, HN, EP, HB⟩ := hrel
    have y2 := ent_cell EP.out 2 _ rfl
    have hs1 := ent_lt EP.out
    by_cases hlt : j < xs.length
    · obtain ⟨x, hx1⟩ : ∃ x, xs[j]? = some x := ⟨_, List.getElem?_eq_getElem hlt⟩
      rcases HX.out with ⟨h0, _⟩ | ⟨g, of, c', hv, g1, g2, g3⟩
      · rw [h0] at hlt; simp at hlt
      injection hv with hq1 _ hq2
      subst hq1; subst hq2
      obtain ⟨u, hu, _, hcell⟩ := g3 j x hx1
      have HU := Lib.hid hu
      obtain ⟨a0, a1, uq, un, uc, rfl⟩ := tyAt_sh hu
      have HCL := Lib.hid (fun (w' : World) (h : Below w.heap.size wr w') =>
       have up : ∀ j' z, (Value.agg #[.int .i64 a0, .string a1, .slice uq un uc]).cells[j']? = some z → w'.cell? ⟨g, of + j * 3 + j', none⟩ = some z := fun j' z hz => cell_up (HB.out.trans h) (hcell j' z hz)
       (show w'.cell? ⟨g, of + j * 3, none⟩ = some (.int .i64 a0) ∧ w'.cell? ⟨g, of + j * 3 + 1, none⟩ = some (.string a1) ∧ w'.cell? ⟨g, of + j * 3 + 2, none⟩ = some (.slice uq un uc) from ⟨up 0 _ rfl, up 1 _ rfl, up 2 _ rfl⟩))
      have hk1 : (j : Int) < (xs.length : Int) := by omega
      have hk2 : (xs.length : Int) ≤ (cp : Int) := by omega
      have hk3 := g2
      have HT := Lib.hid (Ux.hasL_take hx1 n)
      have HJ := Lib.hid (fun (h : Ux.hasL (xs.take (j + 1)) n = true) => Ux.hasL_of_take h)
      obtain ⟨x0, x1, x2⟩ := HCL.out wr (Below.refl _ _)
      clear g1 g2 g3 hcell hu hx hx1
      go_wp2_with fail
      refine (ih x _ n wr (tyAt_below HU.out HB.out)).mono ?_
      rintro e w2 ⟨rfl, hb2⟩
      replace EP := Lib.hid (ent_below EP.out hb2)
      have HB2 := Lib.hid (HB.out.trans (hb2.mono HB.out.size))
      clear hb2 HCL x0 x1 x2 y2
      cases hc : Ux.hasT x n with
      | true =>
        have HC := Lib.hid (show Ux.hasL xs n = true from HJ.out (by rw [HT.out, hc, Bool.or_true]))
        go_wp2_with fail
        go_ret
        exact ⟨by rw [HC.out]; rfl, HB2.out⟩
      | false =>
        have HC := Lib.hid (show Ux.hasL (xs.take (j + 1)) n = false by rw [HT.out, hc, HN.out]; rfl)
        go_wp2_with fail
        go_roundw
        case rel => exact ⟨j + 1, by go_num, by omega, HC, EP, HB2⟩
        case measure => simp [intOf]; omega
    · obtain rfl : j = xs.length := by omega
      go_wp2_with fail
      go_ret
      have := HN.out
      rw [List.take_length] at this
      exact ⟨by rw [this]; rfl, HB.out⟩
theorem refHas_any : ∀ f, HasC f
 | 0 => fun t v n w h => h.elim
 | f + 1 => has_step f (refHas_any f)
end Go.Proofs.YtcblppojnailpaaDoor
namespace Go.Proofs.YtcblppojnailpaaDoor
open Go Go.RowKit
set_option linter.unusedVariables false
set_option linter.unusedSimpArgs false
theorem tyAt_sz : ∀ {f : Nat} {w : World} {v : Value} {t : Ux.Ty}, TyAt f w v t → ∀ g, t.sz ≤ g → TyAt g w v t
 | 0, _, _, _, h, _, _ => h.elim
 | f + 1, w, v, t, h, 0, hg => by have := Ux.sz_pos t; omega
 | f + 1, w, v, .v n, h, g + 1, _ => h
 | f + 1, w, v, .a nm xs, h, g + 1, hg => by
   obtain ⟨k, av, h1, h2, h3, h4⟩ := h
   rw [Ux.sz_a] at hg
   exact ⟨k, av, h1, h2, h3.mono (Below.refl _ _) fun u x hx hu => tyAt_sz hu g (by have := Ux.sum_ge Ux.Ty.sz hx; omega), h4⟩
/-- A type's value. -/
def TyP (w : World) (v : Value) (t : Ux.Ty) : Prop := ∃ f, TyAt f w v t
theorem tyP_v {w : World} {v : Value} {n : Nat} : TyP w v (.v n) ↔ ∃ s q m c, v = .agg #[.int .i64 n, .string s, .slice q m c] := by
 constructor
 · rintro ⟨f, h⟩
   cases f with
   | zero => exact h.elim
   | succ f => exact h
 · intro h; exact ⟨1, h⟩
theorem tyP_a {w : World} {v : Value} {nm : List UInt8} {xs : List Ux.Ty} : TyP w v (.a nm xs) ↔ ∃ (k : Int) (av : Value), k < 0 ∧ v = .agg #[.int .i64 k, .string ⟨nm.toArray⟩, av] ∧ RowAt 3 (TyP w) w av xs ∧ Free w av := by
 constructor
 · rintro ⟨f, h⟩
   cases f with
   | zero => exact h.elim
   | succ f =>
     obtain ⟨k, av, h1, h2, h3, h4⟩ := h
     exact ⟨k, av, h1, h2, h3.mono (Below.refl _ _) fun u x _ hu => ⟨f, hu⟩, h4⟩
 · rintro ⟨k, av, h1, h2, h3, h4⟩
   refine ⟨(xs.map Ux.Ty.sz).sum + 1, k, av, h1, h2, h3.mono (Below.refl _ _) (fun u x hx hu => ?_), h4⟩
   obtain ⟨f, hf⟩ := hu
   exact tyAt_sz hf _ (Ux.sum_ge Ux.Ty.sz hx)
theorem tyP_below {w w' : World} {v : Value} {t : Ux.Ty} (h : TyP w v t) (hb : Below w.heap.size w w') : TyP w' v t := let ⟨f, hf⟩ := h; ⟨f, tyAt_below hf hb⟩
theorem tyP_sh {w : World} {v : Value} {t : Ux.Ty} (h : TyP w v t) : ∃ k s q m c, v = .agg #[.int .i64 k, .string s, .slice q m c] := let ⟨_, hf⟩ := h; tyAt_sh hf
/-- A type stays while what there is stays. -/
theorem tyP_keep {w u : World} (hk : ∀ b, b < w.heap.size → u.heap[b]? = w.heap[b]?) : ∀ (t : Ux.Ty) (v : Value), TyP w v t → TyP u v t := by
 intro t
 induction t using Ux.Ty.ind with
 | hv n => intro v h; exact tyP_v.2 (tyP_v.1 h)
 | ha nm xs ih =>
   intro v h
   obtain ⟨k, av, h1, h2, h3, h4⟩ := tyP_a.1 h
   refine tyP_a.2 ⟨k, av, h1, h2, ?_, h4.keep hk⟩
   rcases h3 with h | ⟨g, o, c, e1, e2, e3, e4⟩
   · exact .inl h
   · refine .inr ⟨g, o, c, e1, e2, e3, fun i x hx => ?_⟩
     obtain ⟨y, a, b, d⟩ := e4 i x hx
     refine ⟨y, ih x (List.mem_of_getElem? hx) _ a, b, fun j z hz => ?_⟩
     have hd := d j z hz
     rw [World.cell?_of_block (w := w) (hk _ (World.block_lt_of_cell? w _ hd))]
     exact hd
/-- A value hangs by blocks below base, and by those from lo on to hi. -/
def Hang {α : Type} (rep : World → Value → α → Prop) (base lo hi : Nat) (w : World) (v : Value) (x : α) : Prop :=
 ∀ u : World, (∀ b, b < base ∨ (lo ≤ b ∧ b < hi) → u.heap[b]? = w.heap[b]?) → rep u v x
theorem Hang.now {α : Type} {rep : World → Value → α → Prop} {base lo hi : Nat} {w : World} {v : Value} {x : α} (h : Hang rep base lo hi w v x) : rep w v x := h w fun _ _ => rfl
theorem Hang.same {α : Type} {rep : World → Value → α → Prop} {base lo hi : Nat} {w w' : World} {v : Value} {x : α} (h : Hang rep base lo hi w v x) (hk : ∀ b, b < base ∨ (lo ≤ b ∧ b < hi) → w'.heap[b]? = w.heap[b]?) : Hang rep base lo hi w' v x :=
 fun u hu => h u fun b hb => (hu b hb).trans (hk b hb)
theorem Hang.wide {α : Type} {rep : World → Value → α → Prop} {base base' lo lo' hi hi' : Nat} {w : World} {v : Value} {x : α} (h : Hang rep base lo hi w v x) (hb : base ≤ base') (hl : lo' ≤ lo) (hh : hi ≤ hi') : Hang rep base' lo' hi' w v x :=
 fun u hu => h u fun b hb => hu b (by omega)
/-- What is there hangs by what there is. -/
theorem tyP_hang {w : World} {v : Value} {t : Ux.Ty} (h : TyP w v t) (lo hi : Nat) : Hang TyP w.heap.size lo hi w v t := by
 exact fun u hu => tyP_keep (fun b hb => hu b (.inl hb)) t v h
theorem refHas_ty (t : Ux.Ty) (v : Value) (n : Nat) (w : World) (h : TyP w v t) : Calls Tryd.prog 34 #[v, .int .i64 n] w (fun e w' => e = .returned (.bool (Ux.hasT t n)) ∧ Below w.heap.size w w') :=
 let ⟨f, hf⟩ := h; refHas_any f t v n w hf
/-- A list of the call's own, of types that hang by what was there at first, and by blocks that aren't the list's. -/
def KeptH {α : Type} (rep : World → Value → α → Prop) (base low : Nat) (w : World) (ob : Option Nat) (v : Value) (x : α) : Prop :=
 ∃ lo hi, low ≤ lo ∧ hi ≤ w.heap.size ∧ (∀ g, ob = some g → g < lo ∨ hi ≤ g) ∧ Hang rep base lo hi w v x
theorem KeptH.step {α : Type} {rep : World → Value → α → Prop} {base low : Nat} {w w' : World} {ob ob' : Option Nat} {v : Value} {x : α} (h : KeptH rep base low w ob v x) (hs : w.heap.size ≤ w'.heap.size) (h0 : base ≤ w.heap.size)
 (hk : ∀ b, b < base ∨ low ≤ b → b < w.heap.size → ob ≠ some b → w'.heap[b]? = w.heap[b]?) (hgb : ∀ g, ob = some g → base ≤ g) (ho : ob' = ob ∨ ∀ g, ob' = some g → w.heap.size ≤ g) : KeptH rep base low w' ob' v x := by
 obtain ⟨lo, hi, h1, h2, h3, h4⟩ := h
 refine ⟨lo, hi, h1, by omega, fun g hg => ?_, h4.same fun b hb => ?_⟩
 · rcases ho with e | ho
   · exact h3 g (e ▸ hg)
   · have := ho g hg; omega
 · rcases hb with hb | hb
   · exact hk b (.inl hb) (by omega) (fun e => by have := hgb b e; omega)
   · exact hk b (.inr (by omega)) (by omega) (fun e => by have := h3 b e; omega)
/-- Such a list, read in a later world. -/
theorem rowH {α : Type} {sz : Nat} {rep : World → Value → α → Prop} {w u : World} {base low E n : Nat} {v : Value} {vs : List Value} {xs : List α} (h : w.ownsRow low E sz v n (cellsOf vs)) (hn : n = xs.length)
 (hr : Reps (KeptH rep base low w v.ownBlock) vs xs) (hs : ∀ v ∈ vs, v.cells.size = sz) (hu : ∀ b, b < base ∨ (low ≤ b ∧ b < w.heap.size) → u.heap[b]? = w.heap[b]?) : RowAt sz (rep u) u v xs := by
 subst hn
 rcases h.2 with ⟨rfl, hn⟩ | ⟨g, cap, cur, rfl, hb, hg, hc1, hc2, hc3, hc4⟩
 · exact .inl ⟨List.eq_nil_of_length_eq_zero hn, none, 0, rfl⟩
 · refine .inr ⟨g, 0, cap, rfl, hc1, by unfold maxLen at hc2; omega, fun i x hx => ?_⟩
   obtain ⟨y, hy, lo, hi, h0, h1, _, h3⟩ := hr.at hx
   refine ⟨y, h3 u fun b hb1 => hu b (by omega), hs y (List.mem_of_getElem? hy), fun j z hz => ?_⟩
   have hcell := World.ownsRow.cells h (g := g) rfl (i * sz + j) z (cellsOf_at sz hs hy hz)
   have e : (⟨g, 0, none⟩ : Addr).add (i * sz + j) = ⟨g, 0 + i * sz + j, none⟩ := by unfold Addr.add; split <;> simp_all
   rw [e] at hcell
   have hlt : g < w.heap.size := (Array.getElem?_eq_some_iff.1 hg).1
   rw [World.cell?_of_block (w := w) (hu g (.inr ⟨hb, hlt⟩))]; exact hcell
end Go.Proofs.YtcblppojnailpaaDoor
namespace Go.Proofs.YtcblppojnailpaaDoor
open Go Go.RowKit
set_option linter.unusedVariables false
set_option linter.unusedSimpArgs false
set_option linter.unusedSectionVars false
section
variable {κ : Type} [DecidableEq κ]
def findL (x : κ) : List (κ × Value) → Nat → Option (Nat × Value)
 | [], _ => none
 | p :: r, i => if x = p.1 then some (i, p.2) else findL x r (i + 1)
def lookL (x : κ) (L : List (κ × Value)) : Option Value := (findL x L 0).map (·.2)
def setL (x : κ) (v : Value) : List (κ × Value) → List (κ × Value)
 | [] => [(x, v)]
 | p :: r => if x = p.1 then (x, v) :: r else p :: setL x v r
theorem findL_shift (x : κ) : ∀ (L : List (κ × Value)) (i : Nat), findL x L i = (findL x L 0).map fun p => (p.1 + i, p.2)
 | [], _ => rfl
 | p :: r, i => by
   unfold findL
   by_cases h : x = p.1
   · rw [if_pos h, if_pos h]; simp
   · rw [if_neg h, if_neg h, findL_shift x r (i + 1), findL_shift x r (0 + 1)]
     cases findL x r 0 with
     | none => rfl
     | some q => simp [Nat.add_assoc, Nat.add_comm 1 i]
theorem lookL_nil (x : κ) : lookL x [] = none := rfl
theorem lookL_cons (x : κ) (p : κ × Value) (r : List (κ × Value)) : lookL x (p :: r) = if x = p.1 then some p.2 else lookL x r := by
 unfold lookL
 rw [findL]
 by_cases h : x = p.1
 · rw [if_pos h, if_pos h]; rfl
 · rw [if_neg h, if_neg h, findL_shift x r (0 + 1)]
   cases findL x r 0 <;> rfl
theorem lookL_set (x y : κ) (v : Value) : ∀ L : List (κ × Value), lookL y (setL x v L) = if y = x then some v else lookL y L
 | [] => by rw [setL, lookL_cons, lookL_nil]
 | p :: r => by
   rw [setL]
   by_cases h : x = p.1
   · rw [if_pos h, lookL_cons, lookL_cons]
     dsimp only
     by_cases h2 : y = x
     · rw [if_pos h2, if_pos h2]
     · rw [if_neg h2, if_neg h2, if_neg (by rw [← h]; exact h2)]
   · rw [if_neg h, lookL_cons, lookL_cons, lookL_set x y v r]
     by_cases h2 : y = p.1
     · rw [if_pos h2, if_pos h2, if_neg (by rw [h2]; exact Ne.symm h)]
     · rw [if_neg h2, if_neg h2]
theorem setL_mem {x : κ} {v : Value} : ∀ {L : List (κ × Value)} {p : κ × Value}, p ∈ setL x v L → p.1 = x ∨ p ∈ L
 | [], p, h => by rw [setL, List.mem_singleton] at h; subst h; exact .inl rfl
 | q :: r, p, h => by
   rw [setL] at h
   split at h
   · rcases List.mem_cons.1 h with rfl | h
     · exact .inl rfl
     · exact .inr (List.mem_cons_of_mem _ h)
   · rcases List.mem_cons.1 h with rfl | h
     · exact .inr (by simp)
     · rcases setL_mem h with h | h
       · exact .inl h
       · exact .inr (List.mem_cons_of_mem _ h)
/-- What keys of a type are, by what stands for them: how they are compared. -/
structure KeyLaw (P : Program) (kt : TypeId) (enc : κ → Value) (V : World → κ → Prop) : Prop where
 check : ∀ w e x, (Instr.checkKey e 10000 kt (enc x)).run P w = .ok () w
 bits : ∀ x, Instr.sameBits 10000 (enc x) (enc x) = true
 find : ∀ w x (es : List MapEntry) (L : List (κ × Value)), es.map (fun e => (e.key, e.val)) = L.map (fun p => (enc p.1, p.2)) → V w x → (∀ p ∈ L, V w p.1) → (Instr.findKey kt (enc x) es).run P w = .ok (findL x L 0) w
/-- Block b is a map with these entries. -/
def MapK (enc : κ → Value) (V : World → κ → Prop) (w : World) (b : Nat) (L : List (κ × Value)) : Prop :=
 ∃ es clock, w.heap[b]? = some (.map es clock) ∧ es.toList.map (fun e => (e.key, e.val)) = L.map (fun p => (enc p.1, p.2)) ∧ ∀ p ∈ L, V w p.1
variable {enc : κ → Value} {V : World → κ → Prop} {P : Program} {kt : TypeId}
theorem MapK.lt {w : World} {b : Nat} {L : List (κ × Value)} (h : MapK enc V w b L) : b < w.heap.size := by
 obtain ⟨es, clock, hb, _⟩ := h
 exact (Array.getElem?_eq_some_iff.1 hb).1
theorem MapK.made (w : World) : MapK enc V (w.alloc (.map #[] 0)) w.heap.size [] := ⟨#[], 0, (MapKept.heap_alloc w _).1, rfl, fun _ h => by cases h⟩
theorem MapK.keep {w w' : World} {b : Nat} {L : List (κ × Value)} (h : MapK enc V w b L) (hk : w'.heap[b]? = w.heap[b]?) (hv : ∀ x, V w x → V w' x) : MapK enc V w' b L := by
 obtain ⟨es, clock, hb, h1, h2⟩ := h
 exact ⟨es, clock, hk.trans hb, h1, fun p hp => hv _ (h2 p hp)⟩
theorem MapK.look {w : World} {b : Nat} {L : List (κ × Value)} (h : MapK enc V w b L) (K : KeyLaw P kt enc V) {t e : TypeId} (ht : P.underlying t = some (.map kt e)) {z : Value} (hz : (zeroValue e).run P w = .ok z w) (x : κ) (hx : V w x) :
 (Instr.lookup t (.map (some b)) (enc x) false).run P w = .ok ((lookL x L).getD z) w ∧ (Instr.lookup t (.map (some b)) (enc x) true).run P w = .ok (.tuple #[(lookL x L).getD z, .bool (lookL x L).isSome]) w := by
 obtain ⟨es, clock, hb, h1, h2⟩ := h
 have hf := K.find w x es.toList L h1 hx h2
 unfold lookL
 cases hl : findL x L 0 with
 | none =>
   rw [hl] at hf
   constructor <;> simp [Instr.lookup, run_underlying ht, MapKept.run_getObj_map hb, K.check, hf, hz, Result.andThen]
 | some q =>
   rw [hl] at hf
   constructor <;> simp [Instr.lookup, run_underlying ht, MapKept.run_getObj_map hb, K.check, hf, Result.andThen]
theorem findL_none {x : κ} : ∀ {L : List (κ × Value)}, findL x L 0 = none → ∀ v, setL x v L = L ++ [(x, v)]
 | [], _, v => rfl
 | p :: r, h, v => by
   unfold findL at h
   by_cases e : x = p.1
   · rw [if_pos e] at h; cases h
   · rw [if_neg e, findL_shift] at h
     rw [setL, if_neg e, findL_none (by cases hf : findL x r 0 with | none => rfl | some q => rw [hf] at h; cases h) v, List.cons_append]
theorem findL_some {x : κ} : ∀ {L : List (κ × Value)} {i : Nat} {u : Value}, findL x L 0 = some (i, u) → L[i]? = some (x, u) ∧ ∀ v, setL x v L = L.set i (x, v)
 | [], i, u, h => by cases h
 | p :: r, i, u, h => by
   unfold findL at h
   by_cases e : x = p.1
   · rw [if_pos e] at h
     cases h
     exact ⟨by rw [e]; rfl, fun v => by rw [setL, if_pos e]; rfl⟩
   · rw [if_neg e, findL_shift] at h
     cases hf : findL x r 0 with
     | none => rw [hf] at h; cases h
     | some q =>
       obtain ⟨j, y⟩ := q
       rw [hf] at h
       simp only [Option.map_some, Option.some.injEq, Prod.mk.injEq] at h
       obtain ⟨rfl, rfl⟩ := h
       obtain ⟨h1, h2⟩ := findL_some hf
       exact ⟨by simpa using h1, fun v => by rw [setL, if_neg e, h2 v]; rfl⟩
theorem MapK.update {w : World} {b : Nat} {L : List (κ × Value)} (h : MapK enc V w b L) (K : KeyLaw P kt enc V) {t e : TypeId} (ht : P.underlying t = some (.map kt e)) (x : κ) (hx : V w x) (v : Value) (hV : ∀ w' y, (∀ c, c ≠ b → w'.heap[c]? = w.heap[c]?) → (∃ es k, w'.heap[b]? = some (.map es k)) → V w y → V w' y) :
 ∃ w', (Instr.mapUpdate t (.map (some b)) (enc x) v).run P w = .ok () w' ∧ MapK enc V w' b (setL x v L) ∧ w.grownBy w' (some b) := by
 obtain ⟨es, clock, hb, h1, h2⟩ := h
 have hlt : b < w.heap.size := (Array.getElem?_eq_some_iff.1 hb).1
 have hf := K.find w x es.toList L h1 hx h2
 have hset : ∀ o' : Obj, ({ w with heap := w.heap.setIfInBounds b o' } : World).heap[b]? = some o' ∧ ∀ r', r' ≠ b → ({ w with heap := w.heap.setIfInBounds b o' } : World).heap[r']? = w.heap[r']? := fun o' => MapKept.heap_set hb
 have hgrow : ∀ o' : Obj, w.grownBy { w with heap := w.heap.setIfInBounds b o' } (some b) := fun o' => ⟨rfl, rfl, rfl, by simp, fun c hc hne => (hset o').2 c (fun e => hne (by rw [e]))⟩
 cases hl : findL x L 0 with
 | none =>
   rw [hl] at hf
   refine ⟨{ w with heap := w.heap.setIfInBounds b (.map (es.push { key := enc x, val := v, born := clock }) (clock + 1)) }, ?_, ⟨_, _, (hset _).1, ?_, fun p hp => ?_⟩, hgrow _⟩
   · simp [Instr.mapUpdate, run_underlying ht, MapKept.run_getObj_map hb, K.check, hf, MapKept.run_setObj_map _ hb, Result.andThen]
   · rw [findL_none hl, Array.toList_push, List.map_append, List.map_append, h1]; rfl
   · rcases setL_mem hp with e | hp
     · rw [e]; exact hV _ _ (hset _).2 ⟨_, _, (hset _).1⟩ hx
     · exact hV _ _ (hset _).2 ⟨_, _, (hset _).1⟩ (h2 p hp)
 | some q =>
   obtain ⟨i, u⟩ := q
   rw [hl] at hf
   obtain ⟨g1, g2⟩ := findL_some hl
   have hkey : (es.toList.map (fun e => (e.key, e.val)))[i]? = some (enc x, u) := by rw [h1, List.getElem?_map, g1]; rfl
   rw [List.getElem?_map] at hkey
   obtain ⟨e0, he0, hk0⟩ := Option.map_eq_some_iff.1 hkey
   have hk1 : e0.key = enc x := congrArg Prod.fst hk0
   rw [Array.getElem?_toList] at he0
   refine ⟨{ w with heap := w.heap.setIfInBounds b (.map (es.modify i fun e => { e with key := enc x, val := v }) clock) }, ?_, ⟨_, _, (hset _).1, ?_, fun p hp => ?_⟩, hgrow _⟩
   · simp [Instr.mapUpdate, run_underlying ht, MapKept.run_getObj_map hb, K.check, hf, MapKept.run_setObj_map _ hb, Result.andThen, Instr.keyThatStays, he0, hk1, K.bits]
   · rw [g2]
     apply List.ext_getElem?
     intro j
     have hj := congrArg (fun l => l[j]?) h1
     simp only [List.getElem?_map, Array.getElem?_toList] at hj
     simp only [List.getElem?_map, Array.getElem?_toList, Array.getElem?_modify, List.getElem?_set]
     by_cases hij : i = j
     · subst hij
       rw [if_pos rfl, he0]
       have hL : i < L.length := (List.getElem?_eq_some_iff.1 g1).1
       simp [hL]
     · rw [if_neg hij, if_neg hij]; exact hj
   · rcases setL_mem hp with e | hp
     · rw [e]; exact hV _ _ (hset _).2 ⟨_, _, (hset _).1⟩ hx
     · exact hV _ _ (hset _).2 ⟨_, _, (hset _).1⟩ (h2 p hp)
end
/-- Integers as keys. -/
def encInt (n : Int) : Value := .int .i64 n
theorem findNow_int {q : IntKind} (x : Int) : ∀ (es : List MapEntry) (L : List (Int × Value)) (i : Nat), es.map (fun e => (e.key, e.val)) = L.map (fun p => (encInt p.1, p.2)) → Instr.findNow (.int q) (encInt x) es i = some (findL x L i)
 | [], [], i, _ => rfl
 | [], _ :: _, _, h => by simp at h
 | _ :: _, [], _, h => by simp at h
 | e :: es, p :: L, i, h => by
   simp only [List.map_cons, List.cons.injEq, Prod.mk.injEq] at h
   obtain ⟨⟨h1, h2⟩, h3⟩ := h
   rw [Instr.findNow, findL, h1, h2]
   by_cases hx : x = p.1
   · rw [if_pos hx]; simp [encInt, Instr.sameNow, hx]
   · rw [if_neg hx]
     have : Instr.sameNow (.int q) (encInt x) (encInt p.1) = some false := by simp [encInt, Instr.sameNow, hx]
     rw [this]
     exact findNow_int x es L (i + 1) h3
theorem lawInt {P : Program} {kt : TypeId} (hk : P.underlying kt = some (.int .i64)) : KeyLaw P kt encInt (fun _ _ => True) where
 check w e x := MapKept.run_checkKey hk (by simp [MapKept.IsKey, encInt]) e 9999
 bits x := by simp [Instr.sameBits, encInt]
 find w x es L h _ _ := MapKept.run_findKey hk (findNow_int x es L 0 h)
/-- Lists as keys: where one begins, and how long it is. -/
abbrev LKey := Nat × Nat × Nat
def encL (x : LKey) : Value := .agg #[.pointer (some ⟨x.1, x.2.1, none⟩), .int .i64 x.2.2]
/-- An address in memory that no text is laid in. -/
def FreeL (w : World) (x : LKey) : Prop := ∃ cs T, w.heap[x.1]? = some (.cells cs T (0, 0))
theorem ptrPart (w : World) (a : Addr) (v : Value) : (part 115 #[.pointer (some a), v] 0).run Tryd.prog w = .ok (.pointer (some a)) w := by
 have h := Tryd.isAgg115
 simp [part, h]
theorem intPart (w : World) (v u : Value) : (part 3 #[v, u] 1).run Tryd.prog w = .ok u w := by
 have h := Tryd.isAgg3
 simp [part, h]
theorem checkPtr (w : World) (e : Bool) (n : Nat) (a : Addr) : (Instr.checkKey e (n + 1) 115 (.pointer (some a))).run Tryd.prog w = .ok () w := by
 rw [Instr.checkKey]
 simp [run_underlying Tryd.underlying115]
theorem checkInt (w : World) (e : Bool) (n : Nat) (k : Int) : (Instr.checkKey e (n + 1) 3 (.int .i64 k)).run Tryd.prog w = .ok () w := by
 rw [Instr.checkKey]
 simp [run_underlying Tryd.underlying3]
theorem checkL (w : World) (e : Bool) (n : Nat) (x : LKey) : (Instr.checkKey e (n + 2) 120 (encL x)).run Tryd.prog w = .ok () w := by
 rw [show n + 2 = (n + 1) + 1 from rfl, Instr.checkKey]
 simp only [Sem.run_bind, run_underlying Tryd.underlying120, Result.andThen_ok, encL]
 rw [← Array.forIn_toList]
 simp [ptrPart, intPart, checkPtr, checkInt]
theorem eqPtr (w : World) (n : Nat) (a b : Addr) (ha : ∃ cs T, w.heap[a.block]? = some (.cells cs T (0, 0))) (hb : ∃ cs T, w.heap[b.block]? = some (.cells cs T (0, 0))) :
 (Op.equalIn (n + 1) 115 (.pointer (some a)) (.pointer (some b))).run Tryd.prog w = .ok (decide (a = b)) w := by
 obtain ⟨c1, t1, h1⟩ := ha
 obtain ⟨c2, t2, h2⟩ := hb
 have hz := Tryd.sizeOf30
 by_cases h : a = b
 · subst h
   simp [Op.equalIn, run_underlying Tryd.underlying115, hz, run_sameAddr_same]
 · simp [Op.equalIn, run_underlying Tryd.underlying115, hz, run_sameAddr_other w h h1 h2, h]
theorem eqL (w : World) (x y : LKey) (hx : FreeL w x) (hy : FreeL w y) : (Op.equal 120 (encL x) (encL y)).run Tryd.prog w = .ok (decide (x = y)) w := by
 have hS : Tryd.prog.underlying 120 = some (.struct (Tryd.prog.fieldsOf 120)) := by kernel_rfl
 have hp : Tryd.prog.stoodInHeld 120 = false := by kernel_rfl
 unfold Op.equal Op.maxDepth encL
 rw [show (10000 : Nat) = 9998 + 1 + 1 from rfl, run_equalIn_agg w (9998 + 1) 120 _ _ hS hp]
 simp only [Program.fieldsOf, Tryd.underlying120]
 have h1 := eqPtr w 9998 ⟨x.1, x.2.1, none⟩ ⟨y.1, y.2.1, none⟩ hx hy
 have h2 := run_equalIn_int (P := Tryd.prog) w 9998 3 .i64 .i64 x.2.2 y.2.2 Tryd.underlying3
 obtain ⟨xg, xo, xc⟩ := x
 obtain ⟨yg, yo, yc⟩ := y
 simp only [Op.eqFields, ptrPart, intPart, Sem.run_bind, Result.andThen_ok, h1, h2, Sem.run_ite, Sem.run_pure]
 have hc : ((xc : Int) = (yc : Int)) ↔ xc = yc := by omega
 by_cases e1 : xg = yg <;> by_cases e2 : xo = yo <;> by_cases e3 : xc = yc <;> simp [e1, e2, e3, hc]
theorem askL (w : World) (x : LKey) (hx : FreeL w x) : ∀ (es : List MapEntry) (L : List (LKey × Value)) (i : Nat), es.map (fun e => (e.key, e.val)) = L.map (fun p => (encL p.1, p.2)) → (∀ p ∈ L, FreeL w p.1) → (Instr.findAsking 120 (encL x) es i).run Tryd.prog w = .ok (findL x L i) w
 | [], [], i, _, _ => by simp [Instr.findAsking, findL]
 | [], _ :: _, _, h, _ => by simp at h
 | _ :: _, [], _, h, _ => by simp at h
 | e :: es, p :: L, i, h, hL => by
   simp only [List.map_cons, List.cons.injEq, Prod.mk.injEq] at h
   obtain ⟨⟨h1, h2⟩, h3⟩ := h
   rw [Instr.findAsking, findL, h1, h2]
   simp only [Sem.run_bind, eqL w x p.1 hx (hL p (by simp)), Result.andThen_ok, Sem.run_ite]
   by_cases hxp : x = p.1
   · simp [hxp]
   · rw [if_neg (by simpa using hxp), if_neg hxp]
     exact askL w x hx es L (i + 1) h3 (fun q hq => hL q (by simp [hq]))
theorem lawL : KeyLaw Tryd.prog 120 encL FreeL where
 check w e x := checkL w e 9998 x
 bits x := by simp [Instr.sameBits, encL]
 find w x es L h hx hL := by
  rw [run_findKey_eq w (by simp [Tryd.underlying120])]
  exact askL w x hx es L 0 h hL
end Go.Proofs.YtcblppojnailpaaDoor
