/-
  Several texts in one: USzB, UTwo.
-/
import Derived.Test.YthphilkihmnglaaDoorG13
import Derived.Test.YthphilkihmnglaaDoorG14
namespace Go.Proofs.YthphilkihmnglaaDoor
namespace Ux
set_option linter.unusedVariables false
set_option linter.unusedSimpArgs false
open Classical in
mutual
/-- A variable wherever T stood. -/
noncomputable def Ty.rpl (T : Ty) : Ty → Ty
 | .v n => if Ty.v n = T then .v 0 else .v n
 | .a nm xs => if Ty.a nm xs = T then .v 0 else .a nm (Ty.rpls T xs)
noncomputable def Ty.rpls (T : Ty) : List Ty → List Ty
 | [] => []
 | x :: r => Ty.rpl T x :: Ty.rpls T r
end
theorem rpls_map (T : Ty) : ∀ l : List Ty, Ty.rpls T l = l.map (Ty.rpl T)
 | [] => by rw [Ty.rpls]; rfl
 | x :: r => by rw [Ty.rpls, rpls_map T r]; rfl
theorem rpl_self (T : Ty) : Ty.rpl T T = .v 0 := by
 cases T with
 | v n => rw [Ty.rpl, if_pos rfl]
 | a nm xs => rw [Ty.rpl, if_pos rfl]
theorem rpl_a {T : Ty} {nm : List UInt8} {xs : List Ty} (h : Ty.a nm xs ≠ T) : Ty.rpl T (.a nm xs) = .a nm (xs.map (Ty.rpl T)) := by rw [Ty.rpl, if_neg h, rpls_map]
theorem rpl_app {P : Ty → Prop} (hP : ∀ nm xs, P (.a nm xs) → ∀ x ∈ xs, P x) {N : Sub} {T : Ty} (hT : ∀ nm xs, P (.a nm xs) → (Ty.a nm xs).app N ≠ T) : ∀ t : Ty, P t → Ty.rpl T (t.app N) = t.app fun m => Ty.rpl T (N m) := by
 intro t
 induction t using Ty.ind with
 | hv n => intro _; rw [app_v, app_v]
 | ha nm xs ih =>
   intro h
   have h1 := hT nm xs h
   rw [app_a] at h1 ⊢
   rw [rpl_a h1, app_a, List.map_map]
   congr 1
   exact List.map_congr_left fun x hx => ih x hx (hP nm xs h x hx)
/-- What makes all of E one. -/
def AllOne (E : List (Ty × Ty)) (σ : Sub) : Prop := ∀ p ∈ E, p.1.app σ = p.2.app σ
theorem range_of {E : List (Ty × Ty)} {N : Sub} (hs : AllOne E N) (hm : ∀ σ, AllOne E σ → ∀ n, σ n = (N n).app σ) {P : Ty → Prop} (hP : ∀ nm xs, P (.a nm xs) → ∀ x ∈ xs, P x) (hE : ∀ p ∈ E, P p.1 ∧ P p.2) {n : Nat} {nm : List UInt8} {xs : List Ty} (hn : N n = .a nm xs) : ∃ nm' ys, P (.a nm' ys) ∧ (Ty.a nm' ys).app N = N n := by
 refine Classical.byContradiction fun hno => ?_
 have hT : ∀ nm' ys, P (.a nm' ys) → (Ty.a nm' ys).app N ≠ N n := fun nm' ys h e => hno ⟨nm', ys, h, e⟩
 have hσ : AllOne E fun m => Ty.rpl (N n) (N m) := fun p hp => by
  rw [← rpl_app hP hT _ (hE p hp).1, ← rpl_app hP hT _ (hE p hp).2, hs p hp]
 have h := hm _ hσ n
 simp only [rpl_self] at h
 rw [hn, app_a] at h
 cases h
theorem rgsum_mul {xs : List Ty} {g : Ty → Nat} {c : Nat} (h : ∀ x ∈ xs, g x ≤ x.sz * c) : (xs.map g).sum ≤ (xs.map Ty.sz).sum * c := by
 induction xs with
 | nil => simp
 | cons x r ih =>
   simp only [List.map_cons, List.sum_cons]
   have h1 := h x (by simp)
   have h2 := ih fun y hy => h y (by simp [hy])
   rw [Nat.add_mul]; omega
theorem rgapp_sz {σ : Sub} {c : Nat} (hc : 1 ≤ c) : ∀ t : Ty, (∀ n ∈ t.vs, (σ n).sz ≤ c) → (t.app σ).sz ≤ t.sz * c := by
 intro t
 induction t using Ty.ind with
 | hv n => intro h; rw [app_v, show (Ty.v n).sz = 1 by rw [Ty.sz]]; have := h n (by rw [vs_v]; simp); omega
 | ha nm xs ih =>
   intro h
   rw [app_a, sz_a, sz_a, List.map_map, Nat.add_mul]
   have h1 := rgsum_mul (xs := xs) (g := Ty.sz ∘ Ty.app σ) (c := c) fun x hx => ih x hx fun n hn => h n (by rw [vs_a]; exact List.mem_flatMap.2 ⟨x, hx, hn⟩)
   omega
theorem rgsz_in {σ : Sub} : ∀ t : Ty, ∀ n ∈ t.vs, (σ n).sz ≤ (t.app σ).sz := by
 intro t
 induction t using Ty.ind with
 | hv m => intro n hn; rw [vs_v] at hn; simp at hn; subst hn; rw [app_v]; exact Nat.le_refl _
 | ha nm xs ih =>
   intro n hn
   rw [vs_a] at hn
   obtain ⟨x, hx, hn⟩ := List.mem_flatMap.1 hn
   have h1 := ih x hx n hn
   rw [app_a, sz_a, List.map_map]
   have h2 := sum_ge (Ty.sz ∘ Ty.app σ) hx
   simp only [Function.comp] at h2
   show _ ≤ 1 + (xs.map (Ty.sz ∘ Ty.app σ)).sum
   omega
theorem rgfilter_lt {p q : Nat → Bool} : ∀ {l : List Nat} {n : Nat}, (∀ m, p m = true → q m = true) → n ∈ l → q n = true → p n = false → (l.filter p).length < (l.filter q).length
 | [], n, _, h, _, _ => by cases h
 | x :: r, n, hpq, h, hq, hp => by
   have hle : (r.filter p).length ≤ (r.filter q).length := by
    clear h
    induction r with
    | nil => simp
    | cons y r ih =>
      rw [List.filter_cons, List.filter_cons]
      by_cases h1 : p y = true
      · rw [if_pos h1, if_pos (hpq y h1)]; simpa using ih
      · rw [if_neg h1]; split
        · simp; omega
        · exact ih
   rw [List.filter_cons, List.filter_cons]
   rcases List.mem_cons.1 h with rfl | h
   · rw [if_neg (by rw [hp]; simp), if_pos hq]; simp; omega
   · have ih := rgfilter_lt hpq h hq hp
     by_cases h1 : p x = true
     · rw [if_pos h1, if_pos (hpq x h1)]; simpa using ih
     · rw [if_neg h1]; split
       · simp; omega
       · exact ih
theorem range_le {E : List (Ty × Ty)} {N : Sub} (hs : AllOne E N) (hm : ∀ σ, AllOne E σ → ∀ n, σ n = (N n).app σ) {S K : Nat} (hS : 1 ≤ S) (hE : ∀ p ∈ E, (p.1.sz ≤ S ∧ ∀ m ∈ p.1.vs, m < K) ∧ (p.2.sz ≤ S ∧ ∀ m ∈ p.2.vs, m < K)) (n : Nat) (hn : n < K) : (N n).sz ≤ S ^ K := by
 have key : ∀ k n, n < K → (N n).sz ≤ k → (N n).sz ≤ S ^ ((List.range K).filter fun m => decide ((N m).sz ≤ (N n).sz)).length := by
  intro k
  induction k with
  | zero => intro n _ h; have := sz_pos (N n); omega
  | succ k ih =>
    intro n hn hk
    cases hc : N n with
    | v m => rw [show (Ty.v m).sz = 1 by rw [Ty.sz]]; exact Nat.pow_pos hS
    | a nm xs =>
      rw [← hc]
      obtain ⟨nm', ys, ⟨hp1, hp2⟩, h2⟩ := range_of hs hm (P := fun t => t.sz ≤ S ∧ ∀ m ∈ t.vs, m < K) (fun nm xs h x hx => ⟨by have h1 := h.1; rw [sz_a] at h1; have := sum_ge Ty.sz hx; omega, fun m hm => h.2 m (by rw [vs_a]; exact List.mem_flatMap.2 ⟨x, hx, hm⟩)⟩) hE hc
      have hlt : ∀ m ∈ (Ty.a nm' ys).vs, (N m).sz < (N n).sz := fun m hm => by
       rw [← h2, app_a, sz_a]
       rw [vs_a] at hm
       obtain ⟨y, hy, hm⟩ := List.mem_flatMap.1 hm
       have h3 := rgsz_in (σ := N) y m hm
       have h4 := sum_ge Ty.sz (List.mem_map.2 ⟨y, hy, rfl⟩ : y.app N ∈ ys.map (Ty.app N))
       omega
      obtain ⟨c, hcnt⟩ : ∃ c, c = ((List.range K).filter fun m => decide ((N m).sz ≤ (N n).sz)).length := ⟨_, rfl⟩
      have hpos : 1 ≤ c := by
       rw [hcnt]
       exact List.length_pos_of_mem (List.mem_filter.2 ⟨List.mem_range.2 hn, by simp⟩)
      have hle : ∀ m ∈ (Ty.a nm' ys).vs, (N m).sz ≤ S ^ (c - 1) := fun m hm => by
       have h5 := ih m (hp2 m hm) (by have := hlt m hm; omega)
       refine Nat.le_trans h5 (Nat.pow_le_pow_right hS ?_)
       have h6 := rgfilter_lt (p := fun q => decide ((N q).sz ≤ (N m).sz)) (q := fun q => decide ((N q).sz ≤ (N n).sz)) (l := List.range K) (n := n) (fun q hq => by have := hlt m hm; simp at hq ⊢; omega) (List.mem_range.2 hn) (by simp) (by have := hlt m hm; simp; omega)
       rw [hcnt]; omega
      rw [← hcnt]
      have h7 := rgapp_sz (Nat.pow_pos hS : 1 ≤ S ^ (c - 1)) (Ty.a nm' ys) hle
      rw [h2] at h7
      refine Nat.le_trans h7 ?_
      refine Nat.le_trans (Nat.mul_le_mul_right _ hp1) ?_
      rw [show S ^ c = S ^ (c - 1 + 1) by congr 1; omega, Nat.pow_succ, Nat.mul_comm]
      exact Nat.le_refl _
 refine Nat.le_trans (key _ n hn (Nat.le_refl _)) (Nat.pow_le_pow_right hS ?_)
 refine Nat.le_trans (List.length_filter_le _ _) ?_
 simp
end Ux
end Go.Proofs.YthphilkihmnglaaDoor
namespace Go.Proofs.YthphilkihmnglaaDoor
open Go Go.RowKit
set_option linter.unusedVariables false
set_option linter.unusedSimpArgs false
namespace Ux
theorem allOne_rests {E : List (Ty × Ty)} {V : Nat → Prop} (hE : ∀ p ∈ E, (∀ m ∈ p.1.vs, V m) ∧ ∀ m ∈ p.2.vs, V m) (σ τ : Sub) (h : ∀ n, V n → σ n = τ n) (e : AllOne E σ) : AllOne E τ := fun p hp =>
 one_rests (hE p hp).1 (hE p hp).2 σ τ h (e p hp)
theorem range_plain {E : List (Ty × Ty)} {N : Sub} (hs : AllOne E N) (hm : ∀ σ, AllOne E σ → ∀ n, σ n = (N n).app σ) (hE : ∀ p ∈ E, Plain p.1 ∧ Plain p.2) : ∀ n, Plain (N n) := by
 have key : ∀ k n, (N n).sz ≤ k → Plain (N n) := by
  intro k
  induction k with
  | zero => intro n h; have := sz_pos (N n); omega
  | succ k ih =>
    intro n hk
    cases hc : N n with
    | v m => exact plain_v m
    | a nm xs =>
      obtain ⟨nm', ys, hp, h2⟩ := range_of hs hm (P := Plain) (fun nm xs h => (plain_in h).2) hE hc
      rw [← hc, ← h2]
      refine plain_app hp fun m hmm => ih m ?_
      rw [vs_a] at hmm
      obtain ⟨y, hy, hmm⟩ := List.mem_flatMap.1 hmm
      have h3 := rgsz_in (σ := N) y m hmm
      have h4 := sum_ge Ty.sz (List.mem_map.2 ⟨y, hy, rfl⟩ : y.app N ∈ ys.map (Ty.app N))
      have h5 : 1 + ((ys.map (Ty.app N)).map Ty.sz).sum = (N n).sz := by rw [← h2, app_a, sz_a]
      omega
 exact fun n => key _ n (Nat.le_refl _)
/-- Small types. -/
def Small (S K : Nat) (t : Ty) : Prop := Plain t ∧ t.sz ≤ S ∧ ∀ m ∈ t.vs, m < K
end Ux
theorem okT_all {f : Ux.Map} (hf : Ux.Fine f) {N : Ux.Sub} (hN : Ux.Norm f N) {E : List (Ux.Ty × Ux.Ty)} (hE : ∀ σ, Ux.Sol f σ ↔ Ux.AllOne E σ) {S K : Nat} (hS : 1 ≤ S) (hK : K ≤ 1000000) (hEs : ∀ p ∈ E, Ux.Small S K p.1 ∧ Ux.Small S K p.2) {t : Ux.Ty} (ht : Ux.Plain t ∧ ∀ m ∈ t.vs, m < K) (hb : t.sz * S ^ K ≤ 10000000000) : OkT (t.app N) := by
 have hs : Ux.AllOne E N := (hE N).1 hN.sol
 have hm : ∀ σ, Ux.AllOne E σ → ∀ n, σ n = (N n).app σ := fun σ hσ => hN.most hf ((hE σ).2 hσ)
 refine ⟨Ux.plain_app ht.1 fun n _ => Ux.range_plain hs hm (fun p hp => ⟨(hEs p hp).1.1, (hEs p hp).2.1⟩) n, fun m hm2 => ?_, ?_⟩
 · obtain ⟨n, hn, hm2⟩ := (Ux.vs_app _ m t).1 hm2
   have := Ux.norm_vs hf hN (P := Ux.AllOne E) hE (V := fun n => n < K) (Ux.allOne_rests fun p hp => ⟨(hEs p hp).1.2.2, (hEs p hp).2.2.2⟩) (ht.2 n hn) m hm2
   omega
 · refine Nat.le_trans (Ux.rgapp_sz (Nat.pow_pos hS : 1 ≤ S ^ K) t fun n hn => Ux.range_le hs hm hS (fun p hp => ⟨(hEs p hp).1.2, (hEs p hp).2.2⟩) n (ht.2 n hn)) hb
theorem dom_all {f : Ux.Map} (hf : Ux.Fine f) {N : Ux.Sub} (hN : Ux.Norm f N) {E : List (Ux.Ty × Ux.Ty)} (hE : ∀ σ, Ux.Sol f σ ↔ Ux.AllOne E σ) {S K : Nat} (hK : K ≤ 1000000) (hEs : ∀ p ∈ E, Ux.Small S K p.1 ∧ Ux.Small S K p.2) (n : Nat) (h : f n ≠ none) : n < 1000000 := by
 have := Ux.dom_of hf hN (P := Ux.AllOne E) hE (V := fun n => n < K) (Ux.allOne_rests fun p hp => ⟨(hEs p hp).1.2.2, (hEs p hp).2.2.2⟩) n h
 omega
theorem norm_idem {f : Ux.Map} (hf : Ux.Fine f) {N : Ux.Sub} (hN : Ux.Norm f N) (t : Ux.Ty) : (t.app N).app N = t.app N := by
 rw [Ux.app_app]
 exact Ux.app_congr t fun n _ => (hN.most hf hN.sol n).symm
/-- A substitution in memory, and how many parts its lists have. -/
def SubC (k : Nat) (w : World) (b : Nat) (f : Ux.Map) : Prop := ∃ U : List LKey, SubAt (· ∈ U) w b f ∧ llen U ≤ k ∧ ∀ x ∈ U, ∃ cs T, w.heap[x.1]? = some (.cells cs T (0, 0))
theorem SubC.p {k : Nat} {w : World} {b : Nat} {f : Ux.Map} (h : SubC k w b f) : SubP w b f := by obtain ⟨U, h1, _⟩ := h; exact h1.p
theorem SubC.below {k : Nat} {w w' : World} {b : Nat} {f : Ux.Map} (h : SubC k w b f) (hb : Below w.heap.size w w') : SubC k w' b f := by
 obtain ⟨U, h1, h2, h3⟩ := h
 refine ⟨U, h1.keep (hb.block _ (SubP.lt h1.p)) fun x hx => ?_, h2, fun x hx => ?_⟩
 · obtain ⟨cs, T, e⟩ := h3 x hx; exact hb.block _ (ent_lt e)
 · obtain ⟨cs, T, e⟩ := h3 x hx; exact ⟨cs, T, ent_below e hb⟩
/-- It stays while another's block changes. -/
theorem SubC.chg {k : Nat} {w w' : World} {b sb : Nat} {f : Ux.Map} (h : SubC k w b f) (hm : ∃ es k, w.heap[sb]? = some (.map es k)) (hc : Chg (· = sb) w w') (hn : b ≠ sb) : SubC k w' b f := by
 obtain ⟨U, h1, h2, h3⟩ := h
 have hk : ∀ x ∈ U, w'.heap[x.1]? = w.heap[x.1]? := fun x hx => by
  obtain ⟨cs, T, e⟩ := h3 x hx
  refine hc.block _ (ent_lt e) fun e2 => ?_
  obtain ⟨es, k, e3⟩ := hm
  rw [e2, e3] at e; cases e
 exact ⟨U, h1.keep (hc.block _ (SubP.lt h1.p) hn) hk, h2, fun x hx => by obtain ⟨cs, T, e⟩ := h3 x hx; exact ⟨cs, T, (hk x hx).trans e⟩⟩
theorem SubP.keepBlk {w w' : World} {b sb : Nat} {f : Ux.Map} (h : SubP w b f) (hm : ∃ es k, w.heap[sb]? = some (.map es k)) (hc : Chg (· = sb) w w') (hn : b ≠ sb) : SubP w' b f := by
 have hl := h.lt
 obtain ⟨L, h1, h2⟩ := h
 exact ⟨L, h1.keep (hc.block _ hl hn) fun _ _ => trivial, fun n => ⟨(h2 n).1, fun t ht => by obtain ⟨v, a, c⟩ := (h2 n).2 t ht; exact ⟨v, a, tyP_chg hm hc c⟩⟩⟩
theorem llen_filter (p : LKey → Bool) : ∀ U : List LKey, llen (U.filter p) ≤ llen U
 | [] => Nat.le_refl _
 | x :: r => by
   have ih := llen_filter p r
   rw [List.filter_cons]
   split
   · simp only [llen, List.map_cons, List.sum_cons] at ih ⊢; omega
   · simp only [llen, List.map_cons, List.sum_cons] at ih ⊢; omega
open Classical in
theorem sub_cells {U : List LKey} {w : World} {b : Nat} {f : Ux.Map} (h : SubAt (· ∈ U) w b f) : SubC (llen U) w b f := by
 obtain ⟨L, h1, h2⟩ := h
 refine ⟨U.filter fun x => decide (∃ cs T, w.heap[x.1]? = some (.cells cs T (0, 0))), ⟨L, h1, fun n => ⟨(h2 n).1, fun t ht => ?_⟩⟩, llen_filter _ _, fun x hx => by have := (List.mem_filter.1 hx).2; simpa using this⟩
 obtain ⟨v, a, c⟩ := (h2 n).2 t ht
 obtain ⟨V, v1, _, v3⟩ := tyQ_fin t v c
 exact ⟨v, a, tyQ_more v1 fun x hx => ⟨List.mem_filter.2 ⟨(v3 x hx).1, by simpa using (v3 x hx).2⟩, rfl⟩⟩
theorem SubC.new (w : World) : SubC 0 (w.alloc (.map #[] 0)) w.heap.size (fun _ => none) :=
 ⟨[], sub_none (sub_new (fun _ => False) w), Nat.le_refl _, fun x hx => by cases hx⟩
/-- What Unify comes to. -/
def UniR (k : Nat) (f : Ux.Map) (a b : Ux.Ty) (sb : Nat) (w' : World) (er : Int) : Prop :=
 (er = 0 ∧ ∃ f', Ux.Made f f' a b ∧ SubC k w' sb f') ∨ (er = 5 ∧ Ux.Never f a b ∧ SubC k w' sb f)
theorem UniR.sub {k : Nat} {f : Ux.Map} {a b : Ux.Ty} {sb : Nat} {w w' : World} {er : Int} (h : UniR k f a b sb w er) (hk : ∀ g, SubC k w sb g → SubC k w' sb g) : UniR k f a b sb w' er := by
 rcases h with ⟨e, f', h1, h2⟩ | ⟨e, h1, h2⟩
 · exact .inl ⟨e, f', h1, hk _ h2⟩
 · exact .inr ⟨e, h1, hk _ h2⟩
/-- The block of it is a map. -/
theorem UniR.map {k : Nat} {f : Ux.Map} {a b : Ux.Ty} {sb : Nat} {w : World} {er : Int} (h : UniR k f a b sb w er) : ∃ es k, w.heap[sb]? = some (.map es k) := by
 rcases h with ⟨e, f', h1, h2⟩ | ⟨e, h1, h2⟩
 · exact h2.p.map
 · exact h2.p.map
theorem unify2_any (k k' : Nat) (f : Ux.Map) (hf : Ux.Fine f) (hd : ∀ n, f n ≠ none → n < 1000000) (sb : Nat) (a b : Ux.Ty) (va vB : Value) (w : World) (hs : SubC k w sb f) (ha : TyP w va a) (hb : TyP w vB b) (hk : k + 2 * (a.sz + b.sz) ≤ k') (hfew : k' ≤ 100000) :
 Calls Tryd.prog 13 #[.map (some sb), va, vB] w (fun e w' => ∃ er : Int, e = .returned (.int .i64 er) ∧ Chg (· = sb) w w' ∧ UniR k' f a b sb w' er) := by
 have hm := hs.p.map
 obtain ⟨U, s1, s2, s3⟩ := hs
 obtain ⟨Ua, a1, a2, a3⟩ := tyP_Q a va ha
 obtain ⟨Ub, b1, b2, b3⟩ := tyP_Q b vB hb
 have hq : ∀ x ∈ U ++ (Ua ++ Ub), ∃ cs T, w.heap[x.1]? = some (.cells cs T (0, 0)) := fun x hx => (List.mem_append.1 hx).elim (s3 x) fun hx => (List.mem_append.1 hx).elim (a3 x) (b3 x)
 refine (sUnify_any f hf sb (U ++ (Ua ++ Ub)) a b va vB w ?_ (fun x hx => ?_) hd (tyQ_more a1 fun x hx => ⟨List.mem_append.2 (.inr (List.mem_append.2 (.inl hx))), rfl⟩) (tyQ_more b1 fun x hx => ⟨List.mem_append.2 (.inr (List.mem_append.2 (.inr hx))), rfl⟩) (by rw [llen_app, llen_app]; omega)).mono ?_
 · obtain ⟨L, h1, h2⟩ := s1
   exact ⟨L, h1, fun n => ⟨(h2 n).1, fun t ht => by obtain ⟨v, c, d⟩ := (h2 n).2 t ht; exact ⟨v, c, tyQ_more d fun x hx => ⟨List.mem_append.2 (.inl hx), rfl⟩⟩⟩⟩
 · obtain ⟨cs, T, e⟩ := hq x hx
   refine ⟨ent_lt e, fun e2 => ?_⟩
   obtain ⟨es, k, e3⟩ := hm
   rw [e2, e3] at e; cases e
 · rintro e w' ⟨hc, ⟨rfl, f', U', h1, h2, h3, h4, h5⟩ | ⟨rfl, h2, h3⟩⟩
   · refine ⟨0, rfl, hc, .inl ⟨rfl, f', ⟨h1, h2⟩, ?_⟩⟩
     obtain ⟨V, v1, v2, v3⟩ := sub_cells h3
     exact ⟨V, v1, by rw [llen_app, llen_app] at h4; omega, v3⟩
   · refine ⟨5, rfl, hc, .inr ⟨rfl, fun σ hσ e => h2 σ ⟨hσ, e⟩, ?_⟩⟩
     obtain ⟨V, v1, v2, v3⟩ := sub_cells h3
     exact ⟨V, v1, by rw [llen_app, llen_app] at v2; omega, v3⟩
/-- Three types in a block. -/
theorem row_three {rep : Value → Ux.Ty → Prop} {w : World} {g : Nat} {T : TypeId} {a0 a1 a2 b0 b1 b2 c0 c1 c2 : Value} {x y z : Ux.Ty} (h : w.heap[g]? = some (.cells #[a0, a1, a2, b0, b1, b2, c0, c1, c2] T (0, 0))) (hx : rep (.agg #[a0, a1, a2]) x) (hy : rep (.agg #[b0, b1, b2]) y) (hz : rep (.agg #[c0, c1, c2]) z) : RowAt 3 rep w (.slice (some ⟨g, 0, none⟩) 3 3) [x, y, z] := by
 refine .inr ⟨g, 0, 3, rfl, Nat.le_refl _, by decide, fun i u hu => ?_⟩
 match i, hu with
 | 0, hu =>
   simp at hu; subst hu
   refine ⟨_, hx, rfl, fun j q hq => ?_⟩
   have : ([a0, a1, a2] : List Value)[j]? = some q := by simpa [Value.cells] using hq
   match j, this with
   | 0, e => exact ent_cell h _ q (by simpa using e)
   | 1, e => exact ent_cell h _ q (by simpa using e)
   | 2, e => exact ent_cell h _ q (by simpa using e)
 | 1, hu =>
   simp at hu; subst hu
   refine ⟨_, hy, rfl, fun j q hq => ?_⟩
   have : ([b0, b1, b2] : List Value)[j]? = some q := by simpa [Value.cells] using hq
   match j, this with
   | 0, e => exact ent_cell h _ q (by simpa using e)
   | 1, e => exact ent_cell h _ q (by simpa using e)
   | 2, e => exact ent_cell h _ q (by simpa using e)
 | 2, hu =>
   simp at hu; subst hu
   refine ⟨_, hz, rfl, fun j q hq => ?_⟩
   have : ([c0, c1, c2] : List Value)[j]? = some q := by simpa [Value.cells] using hq
   match j, this with
   | 0, e => exact ent_cell h _ q (by simpa using e)
   | 1, e => exact ent_cell h _ q (by simpa using e)
   | 2, e => exact ent_cell h _ q (by simpa using e)
end Go.Proofs.YthphilkihmnglaaDoor
