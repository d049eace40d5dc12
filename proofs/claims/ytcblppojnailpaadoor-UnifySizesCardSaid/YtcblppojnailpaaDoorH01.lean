/-
  Several texts in one: UR, UMgu, UPut.
-/
import Derived.Test.YtcblppojnailpaaDoorH00
import Derived.Deep.RegionHeldLaw
namespace Go.Proofs.YtcblppojnailpaaDoor
open Go Go.RowKit
set_option linter.unusedVariables false
set_option linter.unusedSimpArgs false
theorem cell_of {w : World} {g : Nat} {cs : Array Value} {T : TypeId} {fr : Nat × Nat} (h : w.heap[g]? = some (.cells cs T fr)) (j : Nat) : w.cell? ⟨g, j, none⟩ = cs[j]? := by simp [World.cell?, h]
/-- Elements of three cells, in a list that is one of Q. -/
def RowQ {α : Type} (Q : LKey → Prop) (rep : Value → α → Prop) (w : World) (v : Value) (xs : List α) : Prop :=
 (xs = [] ∧ ∃ p c, v = .slice p 0 c) ∨
   ∃ g o c cs T, v = .slice (some ⟨g, o, none⟩) xs.length c ∧ xs ≠ [] ∧ Q (g, o, xs.length) ∧ xs.length ≤ c ∧ (c : Int) ≤ 9223372036854775807 ∧ w.heap[g]? = some (.cells cs T (0, 0)) ∧
    ∀ i x, xs[i]? = some x → ∃ u, rep u x ∧ u.cells.size = 3 ∧ ∀ j z, u.cells[j]? = some z → cs[o + i * 3 + j]? = some z
def TyR (Q : LKey → Prop) (w : World) : Nat → Value → Ux.Ty → Prop
 | 0, _, _ => False
 | _ + 1, v, .v n => ∃ s q m c, v = .agg #[.int .i64 n, .string s, .slice q m c]
 | f + 1, v, .a nm xs => ∃ (k : Int) (av : Value), k < 0 ∧ v = .agg #[.int .i64 k, .string ⟨nm.toArray⟩, av] ∧ RowQ Q (TyR Q w f) w av xs
/-- A type's value, its lists among those of Q. -/
def TyQ (Q : LKey → Prop) (w : World) (v : Value) (t : Ux.Ty) : Prop := TyR Q w t.sz v t
theorem RowQ.len {α : Type} {Q : LKey → Prop} {rep : Value → α → Prop} {w : World} {v : Value} {xs : List α} (h : RowQ Q rep w v xs) : ∃ p c, v = .slice p xs.length c := by
 rcases h with ⟨rfl, p, c, rfl⟩ | ⟨g, o, c, cs, T, h, _⟩
 · exact ⟨p, c, rfl⟩
 · exact ⟨_, c, h⟩
theorem RowQ.mono {α : Type} {Q Q' : LKey → Prop} {rep rep' : Value → α → Prop} {w w' : World} {v : Value} {xs : List α} (h : RowQ Q rep w v xs) (hq : ∀ x, Q x → Q' x ∧ w'.heap[x.1]? = w.heap[x.1]?) (hr : ∀ u x, x ∈ xs → rep u x → rep' u x) : RowQ Q' rep' w' v xs := by
 rcases h with h | ⟨g, o, c, cs, T, h1, h2, h3, h4, h5, h6, h7⟩
 · exact .inl h
 · refine .inr ⟨g, o, c, cs, T, h1, h2, (hq _ h3).1, h4, h5, ((hq _ h3).2).trans h6, fun i x hx => ?_⟩
   obtain ⟨u, a, b, d⟩ := h7 i x hx
   exact ⟨u, hr u x (List.mem_of_getElem? hx) a, b, d⟩
theorem tyR_more {Q Q' : LKey → Prop} {w w' : World} (hq : ∀ x, Q x → Q' x ∧ w'.heap[x.1]? = w.heap[x.1]?) : ∀ (f g : Nat) (v : Value) (t : Ux.Ty), TyR Q w f v t → t.sz ≤ g → TyR Q' w' g v t
 | 0, _, _, _, h, _ => h.elim
 | f + 1, 0, _, t, h, hg => by have := Ux.sz_pos t; omega
 | f + 1, g + 1, v, .v n, h, hg => h
 | f + 1, g + 1, v, .a nm xs, h, hg => by
   obtain ⟨k, av, h1, h2, h3⟩ := h
   rw [Ux.sz_a] at hg
   exact ⟨k, av, h1, h2, h3.mono hq fun u x hx hu => tyR_more hq f g u x hu (by have := Ux.sum_ge Ux.Ty.sz hx; omega)⟩
theorem tyQ_v {Q : LKey → Prop} {w : World} {v : Value} {n : Nat} : TyQ Q w v (.v n) ↔ ∃ s q m c, v = .agg #[.int .i64 n, .string s, .slice q m c] := Iff.rfl
theorem tyQ_a {Q : LKey → Prop} {w : World} {v : Value} {nm : List UInt8} {xs : List Ux.Ty} : TyQ Q w v (.a nm xs) ↔ ∃ (k : Int) (av : Value), k < 0 ∧ v = .agg #[.int .i64 k, .string ⟨nm.toArray⟩, av] ∧ RowQ Q (TyQ Q w) w av xs := by
 unfold TyQ
 rw [Ux.sz_a, show 1 + (xs.map Ux.Ty.sz).sum = (xs.map Ux.Ty.sz).sum + 1 by omega]
 constructor
 · rintro ⟨k, av, h1, h2, h3⟩
   exact ⟨k, av, h1, h2, h3.mono (fun x hx => ⟨hx, rfl⟩) fun u x hx hu => tyR_more (fun x hx => ⟨hx, rfl⟩) _ _ u x hu (Nat.le_refl _)⟩
 · rintro ⟨k, av, h1, h2, h3⟩
   exact ⟨k, av, h1, h2, h3.mono (fun x hx => ⟨hx, rfl⟩) fun u x hx hu => tyR_more (fun x hx => ⟨hx, rfl⟩) _ _ u x hu (Ux.sum_ge Ux.Ty.sz hx)⟩
theorem tyQ_more {Q Q' : LKey → Prop} {w w' : World} {v : Value} {t : Ux.Ty} (h : TyQ Q w v t) (hq : ∀ x, Q x → Q' x ∧ w'.heap[x.1]? = w.heap[x.1]?) : TyQ Q' w' v t := tyR_more hq _ _ v t h (Nat.le_refl _)
theorem tyQ_keep {Q : LKey → Prop} {w w' : World} {v : Value} {t : Ux.Ty} (h : TyQ Q w v t) (hq : ∀ x, Q x → w'.heap[x.1]? = w.heap[x.1]?) : TyQ Q w' v t := tyQ_more h fun x hx => ⟨hx, hq x hx⟩
theorem tyQ_sh {Q : LKey → Prop} {w : World} {v : Value} {t : Ux.Ty} (h : TyQ Q w v t) : ∃ k s q m c, v = .agg #[.int .i64 k, .string s, .slice q m c] := by
 cases t with
 | v n => obtain ⟨s, q, m, c, rfl⟩ := tyQ_v.1 h; exact ⟨_, _, _, _, _, rfl⟩
 | a nm xs =>
   obtain ⟨k, av, _, rfl, h3⟩ := tyQ_a.1 h
   obtain ⟨q, c, rfl⟩ := h3.len
   exact ⟨_, _, _, _, _, rfl⟩
theorem RowQ.row {α : Type} {Q : LKey → Prop} {rep : Value → α → Prop} {w : World} {v : Value} {xs : List α} (h : RowQ Q rep w v xs) : RowAt 3 rep w v xs := by
 rcases h with h | ⟨g, o, c, cs, T, h1, h2, h3, h4, h5, h6, h7⟩
 · exact .inl h
 · refine .inr ⟨g, o, c, h1, h4, h5, fun i x hx => ?_⟩
   obtain ⟨u, a, b, d⟩ := h7 i x hx
   exact ⟨u, a, b, fun j z hz => ent_cell h6 _ _ (d j z hz)⟩
theorem RowQ.free {α : Type} {Q : LKey → Prop} {rep : Value → α → Prop} {w : World} {v : Value} {xs : List α} (h : RowQ Q rep w v xs) : Free w v := by
 intro g o m c hv hm
 rcases h with ⟨_, p, c', h⟩ | ⟨g', o', c', cs, T, h1, h2, h3, h4, h5, h6, h7⟩
 · rw [hv] at h; injection h with _ h _; omega
 · rw [hv] at h1
   injection h1 with e1 e2 e3
   injection e1 with e1
   injection e1 with e1 _ _
   subst e1
   exact ⟨cs, T, h6⟩
theorem tyQ_P {Q : LKey → Prop} {w : World} : ∀ (t : Ux.Ty) (v : Value), TyQ Q w v t → TyP w v t := by
 intro t
 induction t using Ux.Ty.ind with
 | hv n => intro v h; exact tyP_v.2 (tyQ_v.1 h)
 | ha nm xs ih =>
   intro v h
   obtain ⟨k, av, h1, h2, h3⟩ := tyQ_a.1 h
   exact tyP_a.2 ⟨k, av, h1, h2, h3.row.mono (Below.refl _ _) fun u x hx hu => ih x hx u hu, h3.free⟩
/-- All lists of a type: few, and of few elements in all. -/
def llen (U : List LKey) : Nat := (U.map fun x => x.2.2).sum
theorem llen_app (U V : List LKey) : llen (U ++ V) = llen U + llen V := by simp [llen]
theorem tyP_Q {w : World} : ∀ (t : Ux.Ty) (v : Value), TyP w v t → ∃ U : List LKey, TyQ (· ∈ U) w v t ∧ llen U + 1 ≤ t.sz ∧ ∀ x ∈ U, ∃ cs T, w.heap[x.1]? = some (.cells cs T (0, 0)) := by
 intro t
 induction t using Ux.Ty.ind with
 | hv n => intro v h; exact ⟨[], tyQ_v.2 (tyP_v.1 h), by simp [llen, Ux.Ty.sz], fun x hx => by cases hx⟩
 | ha nm xs ih =>
   intro v h
   obtain ⟨k, av, h1, h2, h3, h4⟩ := tyP_a.1 h
   rcases h3 with ⟨rfl, p, c, rfl⟩ | ⟨g, o, c, e1, e2, e3, e4⟩
   · exact ⟨[], tyQ_a.2 ⟨k, _, h1, h2, .inl ⟨rfl, p, c, rfl⟩⟩, by simp [llen, Ux.sz_a], fun x hx => by cases hx⟩
   by_cases hne : xs = []
   · subst hne
     exact ⟨[], tyQ_a.2 ⟨k, _, h1, h2, .inl ⟨rfl, _, c, e1⟩⟩, by simp [llen, Ux.sz_a], fun x hx => by cases hx⟩
   obtain ⟨cs, T, hg⟩ := h4 g o _ c e1 (List.length_pos_iff.2 hne)
   have key : ∀ k, k ≤ xs.length → ∃ U : List LKey, (∀ i x, i < k → xs[i]? = some x → ∃ u, TyQ (· ∈ U) w u x ∧ u.cells.size = 3 ∧ ∀ j z, u.cells[j]? = some z → cs[o + i * 3 + j]? = some z) ∧ llen U + k ≤ ((xs.take k).map Ux.Ty.sz).sum ∧ ∀ x ∈ U, ∃ cs T, w.heap[x.1]? = some (.cells cs T (0, 0)) := by
    intro k
    induction k with
    | zero => intro _; exact ⟨[], fun i x hi => by omega, by simp [llen], fun x hx => by cases hx⟩
    | succ k ihk =>
      intro hk
      obtain ⟨U, u1, u2, u3⟩ := ihk (by omega)
      obtain ⟨x, hx⟩ : ∃ x, xs[k]? = some x := ⟨_, List.getElem?_eq_getElem (by omega)⟩
      obtain ⟨u, a, b, d⟩ := e4 k x hx
      obtain ⟨V, v1, v2, v3⟩ := ih x (List.mem_of_getElem? hx) u a
      refine ⟨V ++ U, fun i y hi hy => ?_, ?_, fun z hz => (List.mem_append.1 hz).elim (v3 z) (u3 z)⟩
      · by_cases hik : i = k
        · subst hik
          rw [hx] at hy; injection hy with hy; subst hy
          refine ⟨u, tyQ_more v1 fun z hz => ⟨List.mem_append.2 (.inl hz), rfl⟩, b, fun j z hz => ?_⟩
          have := d j z hz
          rw [cell_of hg] at this
          exact this
        · obtain ⟨u', a', b', d'⟩ := u1 i y (by omega) hy
          exact ⟨u', tyQ_more a' fun z hz => ⟨List.mem_append.2 (.inr hz), rfl⟩, b', d'⟩
      · have e1 : (xs.take (k + 1)).map Ux.Ty.sz = (xs.take k).map Ux.Ty.sz ++ [x.sz] := by rw [List.take_add_one, hx]; simp
        rw [llen_app, e1, List.sum_append, List.sum_singleton]
        omega
   obtain ⟨U, u1, u2, u3⟩ := key xs.length (Nat.le_refl _)
   rw [List.take_length] at u2
   refine ⟨(g, o, xs.length) :: U, tyQ_a.2 ⟨k, _, h1, h2, .inr ⟨g, o, c, cs, T, e1, hne, by simp, e2, e3, hg, fun i x hx => ?_⟩⟩, by rw [Ux.sz_a]; simp [llen] at u2 ⊢; omega, fun x hx => ?_⟩
   · obtain ⟨u, a, b, d⟩ := u1 i x (List.getElem?_eq_some_iff.1 hx).1 hx
     exact ⟨u, tyQ_more a fun z hz => ⟨List.mem_cons_of_mem _ hz, rfl⟩, b, d⟩
   · rcases List.mem_cons.1 hx with rfl | hx
     · exact ⟨cs, T, hg⟩
     · exact u3 x hx
/-- What a value stands for is one. -/
theorem tyQ_one {Q Q' : LKey → Prop} {w : World} : ∀ (t : Ux.Ty) (v : Value) (t' : Ux.Ty), TyQ Q w v t → TyQ Q' w v t' → t = t' := by
 intro t
 induction t using Ux.Ty.ind with
 | hv n =>
   intro v t' h h'
   obtain ⟨s, q, m, c, rfl⟩ := tyQ_v.1 h
   cases t' with
   | v n' =>
     obtain ⟨s', q', m', c', e⟩ := tyQ_v.1 h'
     simp only [Value.agg.injEq, Array.mk.injEq, List.cons.injEq, Value.int.injEq] at e
     congr 1; omega
   | a nm xs =>
     obtain ⟨k, av, hk, e, _⟩ := tyQ_a.1 h'
     simp only [Value.agg.injEq, Array.mk.injEq, List.cons.injEq, Value.int.injEq] at e
     omega
 | ha nm xs ih =>
   intro v t' h h'
   obtain ⟨k, av, hk, rfl, hr⟩ := tyQ_a.1 h
   cases t' with
   | v n' =>
     obtain ⟨s', q', m', c', e⟩ := tyQ_v.1 h'
     simp only [Value.agg.injEq, Array.mk.injEq, List.cons.injEq, Value.int.injEq] at e
     omega
   | a nm' xs' =>
     obtain ⟨k', av', hk', e, hr'⟩ := tyQ_a.1 h'
     simp only [Value.agg.injEq, Array.mk.injEq, List.cons.injEq, Value.int.injEq, Value.string.injEq, ByteArray.mk.injEq, and_true] at e
     obtain ⟨_, e1, e2⟩ := e
     subst e1
     subst e2
     congr 1
     rcases hr with ⟨rfl, p, c, rfl⟩ | ⟨g, o, c, cs, T, h1, h2, h3, h4, h5, h6, h7⟩
     · rcases hr' with ⟨rfl, _⟩ | ⟨g', o', c', cs', T', h1', h2', _⟩
       · rfl
       · injection h1' with _ hl _
         exact (List.eq_nil_of_length_eq_zero hl.symm).symm
     · rcases hr' with ⟨rfl, p', c', h1'⟩ | ⟨g', o', c', cs', T', h1', h2', h3', h4', h5', h6', h7'⟩
       · rw [h1] at h1'; injection h1' with _ hl _
         exact List.eq_nil_of_length_eq_zero hl
       · rw [h1] at h1'
         injection h1' with e1 e2 e3
         injection e1 with e1
         injection e1 with e1 e4 _
         subst e1; subst e4
         rw [h6] at h6'; injection h6' with h6'; injection h6' with h6' _ _
         subst h6'
         apply List.ext_getElem? 
         intro i
         by_cases hi : i < xs.length
         · obtain ⟨x, hx⟩ : ∃ x, xs[i]? = some x := ⟨_, List.getElem?_eq_getElem hi⟩
           obtain ⟨y, hy⟩ : ∃ y, xs'[i]? = some y := ⟨_, List.getElem?_eq_getElem (by omega)⟩
           obtain ⟨u, a, b, d⟩ := h7 i x hx
           obtain ⟨u', a', b', d'⟩ := h7' i y hy
           obtain ⟨k1, s1, q1, m1, c1, rfl⟩ := tyQ_sh a
           obtain ⟨k2, s2, q2, m2, c2, rfl⟩ := tyQ_sh a'
           have f0 := (d 0 _ rfl).symm.trans (d' 0 _ rfl)
           have f1 := (d 1 _ rfl).symm.trans (d' 1 _ rfl)
           have f2 := (d 2 _ rfl).symm.trans (d' 2 _ rfl)
           simp only [Value.cells, List.getElem_toArray, List.getElem_cons_zero, List.getElem_cons_succ, Option.some.injEq] at f0 f1 f2
           rw [f0, f1, f2] at a
           rw [hx, hy, ih x (List.mem_of_getElem? hx) _ y a a']
         · rw [List.getElem?_eq_none (by omega), List.getElem?_eq_none (by omega)]
end Go.Proofs.YtcblppojnailpaaDoor
namespace Go.Proofs.YtcblppojnailpaaDoor
namespace Ux
set_option linter.unusedVariables false
set_option linter.unusedSimpArgs false
def putS (n : Nat) (u : Ty) : Sub := fun m => if m = n then u else .v m
def put (n : Nat) (u t : Ty) : Ty := t.app (putS n u)
abbrev Pairs := List (Nat × Ty)
def applyL (L : Pairs) (t : Ty) : Ty := L.foldl (fun t p => put p.1 p.2 t) t
def subL (L : Pairs) : Sub := fun n => applyL L (.v n)
theorem applyL_sub : ∀ (L : Pairs) (t : Ty), applyL L t = t.app (subL L)
 | [], t => by
   show t = t.app Ty.v
   rw [app_id]
 | p :: r, t => by
   show applyL r (put p.1 p.2 t) = t.app fun n => applyL r (put p.1 p.2 (.v n))
   rw [applyL_sub r, put, app_app]
   exact app_congr t (fun m _ => by rw [applyL_sub r, put, app_v])
theorem put_none {n : Nat} {u t : Ty} (h : n ∉ t.vs) : put n u t = t := by
 rw [put]
 conv => rhs; rw [← app_id t]
 exact app_congr t (fun m hm => by unfold putS; rw [if_neg (fun e : m = n => h (by rw [← e]; exact hm))])
theorem put_app {n : Nat} {u t : Ty} {σ : Sub} (h : σ n = u.app σ) : (put n u t).app σ = t.app σ := by
 rw [put, app_app]
 refine app_congr t (fun m _ => ?_)
 unfold putS
 split
 · rename_i e; rw [e, h]
 · rw [app_v]
def dom (L : Pairs) : List Nat := L.map (·.1)
structure Solved (L : Pairs) : Prop where
 nodup : (dom L).Nodup
 free : ∀ p ∈ L, ∀ m ∈ p.2.vs, m ∉ dom L
theorem applyL_none : ∀ (L : Pairs) (t : Ty), (∀ m ∈ t.vs, m ∉ dom L) → applyL L t = t
 | [], t, _ => rfl
 | p :: r, t, h => by
   show applyL r (put p.1 p.2 t) = t
   rw [put_none (fun hm => h p.1 hm (by simp [dom]))]
   exact applyL_none r t (fun m hm hd => h m hm (by simp only [dom, List.map_cons, List.mem_cons] at hd ⊢; exact .inr hd))
theorem subL_in : ∀ {L : Pairs}, Solved L → ∀ p ∈ L, subL L p.1 = p.2
 | [], _, p, hp => by cases hp
 | q :: r, h, p, hp => by
   have hn := h.nodup
   simp only [dom, List.map_cons, List.nodup_cons] at hn
   show applyL r (put q.1 q.2 (.v p.1)) = p.2
   rcases List.mem_cons.1 hp with rfl | hp
   · rw [put, app_v, putS, if_pos rfl]
     exact applyL_none r _ (fun m hm hd => h.free p (by simp) m hm (by simp only [dom, List.map_cons, List.mem_cons]; exact .inr hd))
   · rw [put, app_v, putS, if_neg (fun e : p.1 = q.1 => hn.1 (by rw [← e]; exact List.mem_map.2 ⟨p, hp, rfl⟩))]
     exact subL_in ⟨hn.2, fun p' hp' m hm hd => h.free p' (by simp [hp']) m hm (by simp only [dom, List.map_cons, List.mem_cons]; exact .inr hd)⟩ p hp
theorem subL_out {L : Pairs} {n : Nat} (h : n ∉ dom L) : subL L n = .v n := applyL_none L _ (fun m hm => by rw [vs_v] at hm; simp at hm; subst hm; exact h)
theorem subL_vs {L : Pairs} (h : Solved L) (n : Nat) : ∀ m ∈ (subL L n).vs, m ∉ dom L := by
 intro m hm
 by_cases hn : n ∈ dom L
 · obtain ⟨p, hp, rfl⟩ := List.mem_map.1 hn
   rw [subL_in h p hp] at hm
   exact h.free p hp m hm
 · rw [subL_out hn, vs_v] at hm
   simp at hm
   subst hm
   exact hn
theorem applied_vs {L : Pairs} (h : Solved L) (t : Ty) : ∀ m ∈ (applyL L t).vs, m ∉ dom L := by
 intro m hm
 rw [applyL_sub, vs_app] at hm
 obtain ⟨n, _, h2⟩ := hm
 exact subL_vs h n m h2
theorem applied_again {L : Pairs} (h : Solved L) (t : Ty) : applyL L (applyL L t) = applyL L t := applyL_none L _ (applied_vs h t)
/-- L says what is in S, most generally. -/
def Most (L : Pairs) (S : Sub → Prop) : Prop := ∀ σ, S σ ↔ ∀ n, σ n = (subL L n).app σ
theorem Most.eq {L : Pairs} {S : Sub → Prop} (h : Most L S) {σ : Sub} (hσ : S σ) (t : Ty) : (applyL L t).app σ = t.app σ := by
 rw [applyL_sub, app_app]
 exact app_congr t (fun m _ => ((h σ).1 hσ m).symm)
theorem Most.self {L : Pairs} {S : Sub → Prop} (hs : Solved L) (h : Most L S) : S (subL L) := (h _).2 fun n => by
 conv => lhs; rw [← app_id (subL L n)]
 exact app_congr _ (fun m hm => (subL_out (subL_vs hs n m hm)).symm)
def bind (L : Pairs) (n : Nat) (t : Ty) : Pairs := (L.map fun p => (p.1, put n t p.2)) ++ [(n, t)]
theorem dom_bind (L : Pairs) (n : Nat) (t : Ty) : dom (bind L n t) = dom L ++ [n] := by
 simp [dom, bind, List.map_map, Function.comp_def]
theorem put_vs {n : Nat} {u t : Ty} {m : Nat} (h : m ∈ (put n u t).vs) : m ∈ u.vs ∨ (m ∈ t.vs ∧ m ≠ n) := by
 rw [put, vs_app] at h
 obtain ⟨k, h1, h2⟩ := h
 unfold putS at h2
 split at h2
 · exact .inl h2
 · rename_i e
   rw [vs_v] at h2
   simp at h2
   subst h2
   exact .inr ⟨h1, e⟩
theorem bind_solved {L : Pairs} (h : Solved L) {n : Nat} {t : Ty} (hn : n ∉ dom L) (ht : ∀ m ∈ t.vs, m ∉ dom L) (hnt : n ∉ t.vs) : Solved (bind L n t) := by
 refine ⟨?_, ?_⟩
 · rw [dom_bind]
   exact List.nodup_append.2 ⟨h.nodup, by simp, fun a ha b hb => by simp at hb; subst hb; exact fun e => hn (e ▸ ha)⟩
 · intro p hp m hm
   rw [dom_bind]
   intro hd
   rcases List.mem_append.1 hp with hp | hp
   · obtain ⟨q, hq, rfl⟩ := List.mem_map.1 hp
     rcases put_vs hm with h1 | ⟨h1, h2⟩
     · rcases List.mem_append.1 hd with hd | hd
       · exact ht m h1 hd
       · simp at hd; subst hd; exact hnt h1
     · rcases List.mem_append.1 hd with hd | hd
       · exact h.free q hq m h1 hd
       · simp at hd; exact h2 hd
   · simp at hp
     subst hp
     rcases List.mem_append.1 hd with hd | hd
     · exact ht m hm hd
     · simp at hd; subst hd; exact hnt hm
theorem subL_bind {L : Pairs} (h : Solved L) {n : Nat} {t : Ty} (hn : n ∉ dom L) (ht : ∀ m ∈ t.vs, m ∉ dom L) (hnt : n ∉ t.vs) (m : Nat) : subL (bind L n t) m = put n t (subL L m) := by
 have hb := bind_solved h hn ht hnt
 by_cases hm : m ∈ dom L
 · obtain ⟨p, hp, rfl⟩ := List.mem_map.1 hm
   rw [subL_in h p hp]
   exact subL_in hb (p.1, put n t p.2) (List.mem_append.2 (.inl (List.mem_map.2 ⟨p, hp, rfl⟩)))
 · rw [subL_out hm, put, app_v, putS]
   split
   · rename_i e
     subst e
     exact subL_in hb (m, t) (List.mem_append.2 (.inr (by simp)))
   · rename_i e
     exact subL_out (by rw [dom_bind]; intro hd; rcases List.mem_append.1 hd with hd | hd; exact hm hd; simp at hd; exact e hd)
theorem bind_most {L : Pairs} (h : Solved L) {S : Sub → Prop} (hm : Most L S) {n : Nat} {t : Ty} (hn : n ∉ dom L) (ht : ∀ m ∈ t.vs, m ∉ dom L) (hnt : n ∉ t.vs) : Most (bind L n t) (fun σ => S σ ∧ σ n = t.app σ) := by
 intro σ
 constructor
 · rintro ⟨h1, h2⟩ m
   rw [subL_bind h hn ht hnt, put_app h2]
   exact (hm σ).1 h1 m
 · intro h1
   have h2 : σ n = t.app σ := by
    have := h1 n
    rw [subL_bind h hn ht hnt, subL_out hn, put, app_v, putS, if_pos rfl] at this
    exact this
   refine ⟨(hm σ).2 fun m => ?_, h2⟩
   have := h1 m
   rw [subL_bind h hn ht hnt, put_app h2] at this
   exact this
/-! ### The document's Unify: some none: nothing makes them one; none: so many calls weren't enough. -/
def loopU (g : Pairs → Ty → Ty → Option (Option Pairs)) : Pairs → List Ty → List Ty → Option (Option Pairs)
 | L, x :: xs, y :: ys => match g L x y with
   | none => none
   | some none => some none
   | some (some L') => loopU g L' xs ys
 | L, _, _ => some (some L)
def headU (L : Pairs) (n : Nat) (t : Ty) : Option Pairs := if t.vs.contains n then none else some (bind L n t)
def refU : Nat → Pairs → Ty → Ty → Option (Option Pairs)
 | 0, _, _, _ => none
 | f + 1, L, a, b =>
   match applyL L a, applyL L b with
   | .v n, .v m => if m = n then some (some L) else some (some (bind L n (.v m)))
   | .v n, .a nm ys => some (headU L n (.a nm ys))
   | .a nm xs, .v n => some (headU L n (.a nm xs))
   | .a nm xs, .a nm' ys => if nm ≠ nm' ∨ xs.length ≠ ys.length then some none else loopU (refU f) L xs ys
/-- What making types one comes to: the most general of what makes them one, too; or nothing does. -/
def RefOk (L : Pairs) (S : Sub → Prop) (P : Sub → Prop) : Option (Option Pairs) → Prop
 | none => True
 | some none => ∀ σ, S σ → ¬ P σ
 | some (some L') => Solved L' ∧ Most L' (fun σ => S σ ∧ P σ)
theorem most_congr {L : Pairs} {S T : Sub → Prop} (h : Most L S) (e : ∀ σ, S σ ↔ T σ) : Most L T := fun σ => (e σ).symm.trans (h σ)
theorem occurs {σ : Sub} {n : Nat} {nm : List UInt8} {xs : List Ty} (h : n ∈ (Ty.a nm xs).vs) : σ n ≠ (Ty.a nm xs).app σ := by
 intro e
 have := sz_var_lt σ h
 rw [← e] at this
 omega
theorem headU_ok {L : Pairs} {S P : Sub → Prop} (hs : Solved L) (hm : Most L S) {n : Nat} {nm : List UInt8} {xs : List Ty} (hn : n ∉ dom L) (ht : ∀ m ∈ (Ty.a nm xs).vs, m ∉ dom L) (e : ∀ σ, S σ → (P σ ↔ σ n = (Ty.a nm xs).app σ)) : RefOk L S P (some (headU L n (.a nm xs))) := by
 unfold headU
 by_cases hc : n ∈ (Ty.a nm xs).vs
 · rw [if_pos (by simpa using hc)]
   intro σ hσ hp
   exact occurs hc ((e σ hσ).1 hp)
 · rw [if_neg (by simpa using hc)]
   exact ⟨bind_solved hs hn ht hc, most_congr (bind_most hs hm hn ht hc) fun σ => ⟨fun h => ⟨h.1, (e σ h.1).2 h.2⟩, fun h => ⟨h.1, (e σ h.1).1 h.2⟩⟩⟩
theorem refU_ok : ∀ (f : Nat) (L : Pairs) (a b : Ty) (S : Sub → Prop), Solved L → Most L S → RefOk L S (fun σ => a.app σ = b.app σ) (refU f L a b) := by
 intro f
 induction f with
 | zero => intro L a b S _ _; trivial
 | succ f ih =>
   intro L a b S hs hm
   have hva := applied_vs hs a
   have hvb := applied_vs hs b
   have hea : ∀ σ, S σ → (applyL L a).app σ = a.app σ := fun σ hσ => hm.eq hσ a
   have heb : ∀ σ, S σ → (applyL L b).app σ = b.app σ := fun σ hσ => hm.eq hσ b
   rw [refU]
   generalize applyL L a = a' at hva hea
   generalize applyL L b = b' at hvb heb
   cases a' with
   | v n =>
     have hn : n ∉ dom L := hva n (by rw [vs_v]; simp)
     cases b' with
     | v m =>
       have hmd : m ∉ dom L := hvb m (by rw [vs_v]; simp)
       by_cases e : m = n
       · simp only [if_pos e]
         refine ⟨hs, most_congr hm fun σ => ⟨fun h => ⟨h, ?_⟩, fun h => h.1⟩⟩
         show a.app σ = b.app σ
         rw [← hea σ h, ← heb σ h, e]
       · simp only [if_neg e]
         have hnt : n ∉ (Ty.v m).vs := by rw [vs_v]; simp; exact fun h => e h.symm
         refine ⟨bind_solved hs hn hvb hnt, most_congr (bind_most hs hm hn hvb hnt) fun σ => ⟨fun h => ⟨h.1, ?_⟩, fun h => ⟨h.1, ?_⟩⟩⟩
         · show a.app σ = b.app σ
           rw [← hea σ h.1, ← heb σ h.1, app_v]; exact h.2
         · have : a.app σ = b.app σ := h.2
           rw [← hea σ h.1, ← heb σ h.1, app_v] at this
           exact this
     | a nm ys =>
       refine headU_ok hs hm hn hvb (fun σ hσ => ?_)
       rw [← hea σ hσ, ← heb σ hσ, app_v]
   | a nm xs =>
     cases b' with
     | v n =>
       have hn : n ∉ dom L := hvb n (by rw [vs_v]; simp)
       refine headU_ok hs hm hn hva (fun σ hσ => ?_)
       rw [← hea σ hσ, ← heb σ hσ, app_v]
       exact ⟨fun h => h.symm, fun h => h.symm⟩
     | a nm' ys =>
       simp only
       by_cases hne : nm ≠ nm' ∨ xs.length ≠ ys.length
       · rw [if_pos hne]
         intro σ hσ hp
         replace hp : a.app σ = b.app σ := hp
         rw [← hea σ hσ, ← heb σ hσ, app_a, app_a] at hp
         injection hp with h1 h2
         rcases hne with h | h
         · exact h h1
         · exact h (by simpa using congrArg List.length h2)
       · rw [if_neg hne]
         have hnm : nm = nm' := Classical.byContradiction fun h => hne (.inl h)
         have hl : xs.length = ys.length := Classical.byContradiction fun h => hne (.inr h)
         subst hnm
         have key : ∀ (xs ys : List Ty) (L : Pairs) (S : Sub → Prop), xs.length = ys.length → Solved L → Most L S → RefOk L S (fun σ => xs.map (Ty.app σ) = ys.map (Ty.app σ)) (loopU (refU f) L xs ys) := by
          intro xs
          induction xs with
          | nil =>
            intro ys L S hl hs hm
            cases ys with
            | nil => exact ⟨hs, most_congr hm fun σ => ⟨fun h => ⟨h, rfl⟩, fun h => h.1⟩⟩
            | cons y r => cases hl
          | cons x xs ihx =>
            intro ys L S hl hs hm
            cases ys with
            | nil => cases hl
            | cons y ys =>
              rw [loopU]
              have h1 := ih L x y S hs hm
              cases hr : refU f L x y with
              | none => trivial
              | some o =>
                rw [hr] at h1
                cases o with
                | none =>
                  intro σ hσ hp
                  simp only [List.map_cons, List.cons.injEq] at hp
                  exact h1 σ hσ hp.1
                | some L' =>
                  have h2 := ihx ys L' _ (by simpa using hl) h1.1 h1.2
                  simp only
                  cases hr2 : loopU (refU f) L' xs ys with
                  | none => trivial
                  | some o2 =>
                    rw [hr2] at h2
                    cases o2 with
                    | none =>
                      intro σ hσ hp
                      simp only [List.map_cons, List.cons.injEq] at hp
                      exact h2 σ ⟨hσ, hp.1⟩ hp.2
                    | some L2 =>
                      refine ⟨h2.1, most_congr h2.2 fun σ => ?_⟩
                      simp only [List.map_cons, List.cons.injEq, and_assoc]
         have h3 := key xs ys L S hl hs hm
         cases hr : loopU (refU f) L xs ys with
         | none => trivial
         | some o =>
           rw [hr] at h3
           have e : ∀ σ, S σ → ((xs.map (Ty.app σ) = ys.map (Ty.app σ)) ↔ a.app σ = b.app σ) := fun σ hσ => by
            rw [← hea σ hσ, ← heb σ hσ, app_a, app_a]
            exact ⟨fun h => by rw [h], fun h => by injection h⟩
           cases o with
           | none => intro σ hσ hp; exact h3 σ hσ ((e σ hσ).2 hp)
           | some L2 => exact ⟨h3.1, most_congr h3.2 fun σ => ⟨fun h => ⟨h.1, (e σ h.1).1 h.2⟩, fun h => ⟨h.1, (e σ h.1).2 h.2⟩⟩⟩
end Ux
end Go.Proofs.YtcblppojnailpaaDoor
namespace Go.Proofs.YtcblppojnailpaaDoor
open Go Go.RowKit
set_option linter.unusedVariables false
set_option linter.unusedSimpArgs false
theorem infoTy : (Tryd.prog.info? 30).map (fun i => (i.zero, i.size, i.bytes)) = some (some (.agg #[.int .i64 0, .string ⟨#[]⟩, .slice none 0 0]), 3, 48) := by kernel_rfl
theorem infoParts {t : TypeId} {z : Option Value} {a b : Nat} (h : (Tryd.prog.info? t).map (fun i => (i.zero, i.size, i.bytes)) = some (z, a, b)) : ∃ i, Tryd.prog.info? t = some i ∧ i.zero = z ∧ i.size = a ∧ i.bytes = b := by
 cases hi : Tryd.prog.info? t with
 | none => rw [hi] at h; cases h
 | some i =>
   rw [hi] at h
   simp only [Option.map_some, Option.some.injEq, Prod.mk.injEq] at h
   exact ⟨i, rfl, h.1, h.2.1, h.2.2⟩
theorem ent_put3 {w : World} {g : Nat} {cs : Array Value} {T : TypeId} (cs' : Array Value) (h : w.heap[g]? = some (.cells cs T (0, 0))) (j : Nat) (v : Value) (hc : cs.setIfInBounds j v = cs') : (w.setCell ⟨g, j, none⟩ v).heap[g]? = some (.cells cs' T (0, 0)) := by
 rw [← hc]; exact ent_set h j v
theorem three_cells (w : World) (a0 a1 a2 : Value) (T : TypeId) (j : Nat) (u : Value) (h : ([a0, a1, a2] : List Value)[j]? = some u) :
 (w.alloc (.cells #[a0, a1, a2] T)).cell? ((⟨w.heap.size, 0, none⟩ : Addr).add j) = some u := by
 have e : (⟨w.heap.size, 0, none⟩ : Addr).add j = ⟨w.heap.size, j, none⟩ := by unfold Addr.add; split <;> simp_all
 rw [e]
 exact ent_cell (ent_new w #[a0, a1, a2] T) j u (by simpa using h)
theorem cells_three (vs : List Value) (a0 a1 a2 : Value) : cellsOf (vs ++ [.agg #[a0, a1, a2]]) = cellsOf vs ++ [a0, a1, a2] := by
 simp [cellsOf, Value.cells]
theorem ent_set3 {w : World} {g : Nat} {T : TypeId} {z0 z1 z2 : Value} (h : w.heap[g]? = some (.cells #[z0, z1, z2] T (0, 0))) (v0 v1 v2 : Value) :
 (((w.setCell ⟨g, 0, none⟩ v0).setCell ⟨g, 1, none⟩ v1).setCell ⟨g, 2, none⟩ v2).heap[g]? = some (.cells #[v0, v1, v2] T (0, 0)) := by
 have h0 : (w.setCell ⟨g, 0, none⟩ v0).heap[g]? = some (.cells #[v0, z1, z2] T (0, 0)) := by have := ent_set h 0 v0; simpa using this
 have h1 : ((w.setCell ⟨g, 0, none⟩ v0).setCell ⟨g, 1, none⟩ v1).heap[g]? = some (.cells #[v0, v1, z2] T (0, 0)) := by have := ent_set h0 1 v1; simpa using this
 have h2 : (((w.setCell ⟨g, 0, none⟩ v0).setCell ⟨g, 1, none⟩ v1).setCell ⟨g, 2, none⟩ v2).heap[g]? = some (.cells #[v0, v1, v2] T (0, 0)) := by have := ent_set h1 2 v2; simpa using this
 exact h2
theorem below_set3 {lo : Nat} {w w' : World} (h : Below lo w w') (g : Nat) (hg : lo ≤ g) (v0 v1 v2 : Value) : Below lo w (((w'.setCell ⟨g, 0, none⟩ v0).setCell ⟨g, 1, none⟩ v1).setCell ⟨g, 2, none⟩ v2) :=
 Below.setCell (Below.setCell (Below.setCell h (p := ⟨g, 0, none⟩) hg v0) (p := ⟨g, 1, none⟩) hg v1) (p := ⟨g, 2, none⟩) hg v2
theorem len_szs : ∀ xs : List Ux.Ty, xs.length ≤ (xs.map Ux.Ty.sz).sum
 | [] => by simp
 | x :: r => by have := Ux.sz_pos x; have := len_szs r; simp; omega
theorem Hang.more {α : Type} {rep : World → Value → α → Prop} {base : Nat} {w : World} {v : Value} {x : α} (h : Hang rep base 0 0 w v x) (lo hi : Nat) : Hang rep base lo hi w v x := fun u hu => h u fun b hb => hu b (by omega)
def ShTy (z : Value) : Prop := ∃ k s q m c, z = .agg #[.int .i64 k, .string s, .slice q m c]
theorem own_none (w : World) (base : Nat) (e : TypeId) (size : Nat) (h : base ≤ w.heap.size) : w.ownsRow base e size (.slice none 0 0) 0 [] := by
 exact ⟨by simp, .inl ⟨rfl, rfl⟩⟩
def PutC (t : Ux.Ty) : Prop := ∀ (v uv : Value) (u : Ux.Ty) (n base : Nat) (w : World), base ≤ w.heap.size → TyP w v t → Hang TyP base 0 0 w uv u → t.sz ≤ 50000000000 →
 Calls Tryd.prog 23 #[v, .int .i64 n, uv] w (fun e w' => ∃ r, e = .returned r ∧ Below w.heap.size w w' ∧ Hang TyP base w.heap.size w'.heap.size w' r (Ux.put n u t))
theorem put_v (n m : Nat) (u : Ux.Ty) : Ux.put n u (.v m) = if m = n then u else .v m := by unfold Ux.put Ux.putS; rw [Ux.app_v]
theorem put_a (n : Nat) (u : Ux.Ty) (nm : List UInt8) (xs : List Ux.Ty) : Ux.put n u (.a nm xs) = .a nm (xs.map (Ux.put n u)) := by unfold Ux.put; rw [Ux.app_a]
set_option maxHeartbeats 4000000 in
set_option maxRecDepth 100000 in
theorem put_any (t : Ux.Ty) : PutC t := by
 induction t using Ux.Ty.ind with
 | hv m =>
   intro v uv u n base w hbase ht hu _
   obtain ⟨s, q, j, c, rfl⟩ := tyP_v.1 ht
   obtain ⟨k, us, uq, uj, uc, rfl⟩ := tyP_sh hu.now
   have HU := Lib.hid hu
   clear hu
   go_enter Tryd.func23, Tryd.ntmps23
   have HB := Lib.hid (show Below w.heap.size w (((w.alloc (.cells #[.int .i64 m, .string s, .slice q j c] 30)).alloc (.cells #[.int .i64 k, .string us, .slice uq uj uc] 30)).alloc (.cells #[.int .i64 0, .string ⟨#[]⟩, .slice none 0 0] 30)) from (((Below.refl _ _).alloc (Nat.le_refl _) _).alloc (by simp) _).alloc (by simp; omega) _)
   have ET := Lib.hid (ent_alloc (ent_alloc (ent_new w #[.int .i64 m, .string s, .slice q j c] 30) (.cells #[.int .i64 k, .string us, .slice uq uj uc] 30)) (.cells #[.int .i64 0, .string ⟨#[]⟩, .slice none 0 0] 30))
   have EU := Lib.hid (ent_alloc (ent_new (w.alloc (.cells #[.int .i64 m, .string s, .slice q j c] 30)) #[.int .i64 k, .string us, .slice uq uj uc] 30) (.cells #[.int .i64 0, .string ⟨#[]⟩, .slice none 0 0] 30))
   have ER := Lib.hid (ent_new ((w.alloc (.cells #[.int .i64 m, .string s, .slice q j c] 30)).alloc (.cells #[.int .i64 k, .string us, .slice uq uj uc] 30)) #[.int .i64 0, .string ⟨#[]⟩, .slice none 0 0] 30)
   rw [show (w.alloc (.cells #[.int .i64 m, .string s, .slice q j c] 30)).heap.size = w.heap.size + 1 by simp] at EU
   rw [show ((w.alloc (.cells #[.int .i64 m, .string s, .slice q j c] 30)).alloc (.cells #[.int .i64 k, .string us, .slice uq uj uc] 30)).heap.size = w.heap.size + 2 by simp] at ER
   go_upto_region 1 with fail
   generalize ((w.alloc (.cells #[.int .i64 m, .string s, .slice q j c] 30)).alloc (.cells #[.int .i64 k, .string us, .slice uq uj uc] 30)).alloc (.cells #[.int .i64 0, .string ⟨#[]⟩, .slice none 0 0] 30) = w1 at ET EU ER HB ⊢
   have t0 := ent_cell ET.out 0 _ rfl
   have u0 := ent_cell EU.out 0 _ rfl
   have u1 := ent_cell EU.out 1 _ rfl
   have u2 := ent_cell EU.out 2 _ rfl
   have r0 := ent_cell ER.out 0 _ rfl
   have r1 := ent_cell ER.out 1 _ rfl
   have r2 := ent_cell ER.out 2 _ rfl
   have rf := ent_free ER.out
   have hm : (0 : Int) ≤ (m : Int) := by omega
   by_cases h : m = n
   · subst h
     have HV : Hid (Ux.put m u (.v m) = u) := Lib.hid (by rw [put_v, if_pos rfl])
     go_wp2_with fail
     replace HB := Lib.hid (below_set3 HB.out (w.heap.size + 2) (by omega) (.int .i64 k) (.string us) (.slice uq uj uc))
     replace ER := Lib.hid (ent_set3 ER.out (.int .i64 k) (.string us) (.slice uq uj uc))
     clear t0 u0 u1 u2 r0 r1 r2 rf ET EU
     generalize ((w1.setCell ⟨w.heap.size + 2, 0, none⟩ (.int .i64 k)).setCell ⟨w.heap.size + 2, 1, none⟩ (.string us)).setCell ⟨w.heap.size + 2, 2, none⟩ (.slice uq uj uc) = w2 at ER HB ⊢
     have r0 := ent_cell ER.out 0 _ rfl
     have r1 := ent_cell ER.out 1 _ rfl
     have r2 := ent_cell ER.out 2 _ rfl
     refine bodyPost_ret (v := .agg #[.int .i64 k, .string us, .slice uq uj uc]) (by simp [results, Tryd.results23, go_sem, r0, r1, r2]) rfl ?_
     refine ⟨_, rfl, HB.out, ?_⟩
     rw [HV.out]
     exact (HU.out.same (fun c hc => HB.out.block c (by omega))).more _ _
   · have hne : ¬ ((m : Int) = (n : Int)) := by omega
     have HV : Hid (Ux.put n u (.v m) = .v m) := Lib.hid (by rw [put_v, if_neg h])
     go_wp2_with fail
     replace HB := Lib.hid (below_set3 HB.out (w.heap.size + 2) (by omega) (.int .i64 m) (.string ⟨#[]⟩) (.slice none 0 0))
     replace ER := Lib.hid (ent_set3 ER.out (.int .i64 m) (.string ⟨#[]⟩) (.slice none 0 0))
     clear t0 u0 u1 u2 r0 r1 r2 rf ET EU
     generalize ((w1.setCell ⟨w.heap.size + 2, 0, none⟩ (.int .i64 m)).setCell ⟨w.heap.size + 2, 1, none⟩ (.string ⟨#[]⟩)).setCell ⟨w.heap.size + 2, 2, none⟩ (.slice none 0 0) = w2 at ER HB ⊢
     have r0 := ent_cell ER.out 0 _ rfl
     have r1 := ent_cell ER.out 1 _ rfl
     have r2 := ent_cell ER.out 2 _ rfl
     refine bodyPost_ret (v := .agg #[.int .i64 m, .string ⟨#[]⟩, .slice none 0 0]) (by simp [results, Tryd.results23, go_sem, r0, r1, r2]) rfl ?_
     refine ⟨_, rfl, HB.out, ?_⟩
     rw [HV.out]
     exact fun u' _ => tyP_v.2 ⟨_, _, _, _, rfl⟩
 | ha nm xs ih =>
   intro v uv u n base w hbase ht hu hsz
   obtain ⟨kt, av, hkt, rfl, hx, _⟩ := tyP_a.1 ht
   obtain ⟨q, cp, rfl⟩ := hx.len
   obtain ⟨k, us, uq, uj, uc, rfl⟩ := tyP_sh hu.now
   have HU := Lib.hid hu
   have HX := Lib.hid hx
   have HIH := Lib.hid ih
   have HSZ : Hid ((xs.map Ux.Ty.sz).sum + 1 ≤ 50000000000) := Lib.hid (by rw [Ux.sz_a] at hsz; omega)
   have hxl : xs.length ≤ 50000000000 := by have := len_szs xs; have := HSZ.out; omega
   obtain ⟨i0, hi, hq0, hq1, hq2⟩ := infoParts infoTy
   have I0 := Lib.hid hi; have I00 := Lib.hid hq0; have I01 := Lib.hid hq1; have I02 := Lib.hid hq2
   have HV : Hid (Ux.put n u (.a nm xs) = .a nm (xs.map (Ux.put n u))) := Lib.hid (put_a n u nm xs)
   clear hu hx ih hsz ht hi hq0 hq1 hq2
   go_enter Tryd.func23, Tryd.ntmps23
   have HB := Lib.hid (show Below w.heap.size w (((w.alloc (.cells #[.int .i64 kt, .string ⟨nm.toArray⟩, .slice q xs.length cp] 30)).alloc (.cells #[.int .i64 k, .string us, .slice uq uj uc] 30)).alloc (.cells #[.int .i64 0, .string ⟨#[]⟩, .slice none 0 0] 30)) from (((Below.refl _ _).alloc (Nat.le_refl _) _).alloc (by simp) _).alloc (by simp; omega) _)
   have ET := Lib.hid (ent_alloc (ent_alloc (ent_new w #[.int .i64 kt, .string ⟨nm.toArray⟩, .slice q xs.length cp] 30) (.cells #[.int .i64 k, .string us, .slice uq uj uc] 30)) (.cells #[.int .i64 0, .string ⟨#[]⟩, .slice none 0 0] 30))
   have EU := Lib.hid (ent_alloc (ent_new (w.alloc (.cells #[.int .i64 kt, .string ⟨nm.toArray⟩, .slice q xs.length cp] 30)) #[.int .i64 k, .string us, .slice uq uj uc] 30) (.cells #[.int .i64 0, .string ⟨#[]⟩, .slice none 0 0] 30))
   have ER := Lib.hid (ent_new ((w.alloc (.cells #[.int .i64 kt, .string ⟨nm.toArray⟩, .slice q xs.length cp] 30)).alloc (.cells #[.int .i64 k, .string us, .slice uq uj uc] 30)) #[.int .i64 0, .string ⟨#[]⟩, .slice none 0 0] 30)
   rw [show (w.alloc (.cells #[.int .i64 kt, .string ⟨nm.toArray⟩, .slice q xs.length cp] 30)).heap.size = w.heap.size + 1 by simp] at EU
   rw [show ((w.alloc (.cells #[.int .i64 kt, .string ⟨nm.toArray⟩, .slice q xs.length cp] 30)).alloc (.cells #[.int .i64 k, .string us, .slice uq uj uc] 30)).heap.size = w.heap.size + 2 by simp] at ER
   have hs1 : ((((w.alloc (.cells #[.int .i64 kt, .string ⟨nm.toArray⟩, .slice q xs.length cp] 30)).alloc (.cells #[.int .i64 k, .string us, .slice uq uj uc] 30)).alloc (.cells #[.int .i64 0, .string ⟨#[]⟩, .slice none 0 0] 30))).heap.size = w.heap.size + 3 := by simp
   go_upto_region 1 with fail
   generalize ((w.alloc (.cells #[.int .i64 kt, .string ⟨nm.toArray⟩, .slice q xs.length cp] 30)).alloc (.cells #[.int .i64 k, .string us, .slice uq uj uc] 30)).alloc (.cells #[.int .i64 0, .string ⟨#[]⟩, .slice none 0 0] 30) = w1 at ET EU ER HB hs1 ⊢
   have t0 := ent_cell ET.out 0 _ rfl
   have t1 := ent_cell ET.out 1 _ rfl
   go_upto_region 6 with fail
   have EO := Lib.hid (ent_new w1 #[.int .i64 (-1), .string ⟨nm.toArray⟩, .slice none 0 0] 30)
   rw [hs1] at EO
   replace ET := Lib.hid (ent_alloc ET.out (.cells #[.int .i64 (-1), .string ⟨nm.toArray⟩, .slice none 0 0] 30))
   replace EU := Lib.hid (ent_alloc EU.out (.cells #[.int .i64 (-1), .string ⟨nm.toArray⟩, .slice none 0 0] 30))
   replace ER := Lib.hid (ent_alloc ER.out (.cells #[.int .i64 (-1), .string ⟨nm.toArray⟩, .slice none 0 0] 30))
   replace HB := Lib.hid (HB.out.alloc HB.out.size (.cells #[.int .i64 (-1), .string ⟨nm.toArray⟩, .slice none 0 0] 30))
   have hs2 : (w1.alloc (.cells #[.int .i64 (-1), .string ⟨nm.toArray⟩, .slice none 0 0] 30)).heap.size = w.heap.size + 4 := by simp [hs1]
   clear t0 t1
   generalize w1.alloc (.cells #[.int .i64 (-1), .string ⟨nm.toArray⟩, .slice none 0 0] 30) = w2 at ET EU ER EO HB hs2 ⊢
   go_wp2_with fail
   go_loopw [8] (fun i wr => ∃ (j : Nat) (vs : List Value) (av : Value), i = .int .i64 j ∧ j ≤ xs.length ∧ Hid (vs.length = j ∧ Reps (KeptH TyP base (w.heap.size + 4) wr av.ownBlock) vs ((xs.take j).map (Ux.put n u)) ∧ ∀ z ∈ vs, ShTy z) ∧ Hid (wr.ownsRow (w.heap.size + 4) 30 3 av j (cellsOf vs)) ∧ Hid (w.heap.size + 4 ≤ wr.heap.size) ∧
    Hid (wr.heap[w.heap.size]? = some (.cells #[.int .i64 kt, .string ⟨nm.toArray⟩, .slice q xs.length cp] 30 (0, 0))) ∧ Hid (wr.heap[w.heap.size + 1]? = some (.cells #[.int .i64 k, .string us, .slice uq uj uc] 30 (0, 0))) ∧ Hid (wr.heap[w.heap.size + 2]? = some (.cells #[.int .i64 0, .string ⟨#[]⟩, .slice none 0 0] 30 (0, 0))) ∧ Hid (wr.heap[w.heap.size + 3]? = some (.cells #[.int .i64 (-1), .string ⟨nm.toArray⟩, av] 30 (0, 0))) ∧ Hid (Below w.heap.size w wr)) (fun i _ => xs.length - (intOf i).toNat)
   case atStart => exact ⟨0, [], .slice none 0 0, rfl, Nat.zero_le _, Lib.hid ⟨rfl, trivial, fun _ h => by cases h⟩, Lib.hid (own_none _ _ _ _ (by omega)), Lib.hid (by omega), ET, EU, ER, EO, HB⟩
   case round =>
    clear ET EU ER EO HB hs2 hs1
    obtain ⟨j, vs, av, rfl, hj, HR, HO, HS, ET, EU, ER, EO, HB⟩ := hrel
    have hs := HS.out
    obtain ⟨pa, ca, rfl⟩ := own_slice HO.out
    have t2 := ent_cell ET.out 2 _ rfl
    by_cases hlt : j < xs.length
    · obtain ⟨x, hx1⟩ : ∃ x, xs[j]? = some x := ⟨_, List.getElem?_eq_getElem hlt⟩
      have HIX := Lib.hid (HIH.out x (List.mem_of_getElem? hx1))
      have HSX : Hid (x.sz ≤ 50000000000) := Lib.hid (by have := Ux.sum_ge Ux.Ty.sz (List.mem_of_getElem? hx1); have := HSZ.out; omega)
      have HTK : Hid ((xs.take (j + 1)).map (Ux.put n u) = (xs.take j).map (Ux.put n u) ++ [Ux.put n u x]) := Lib.hid (by rw [List.take_add_one, hx1]; simp)
      rcases HX.out with ⟨h0, _⟩ | ⟨g, of, c', hv, g1, g2, g3⟩
      · rw [h0] at hlt; simp at hlt
      injection hv with hq1 _ hq2
      subst hq1; subst hq2
      obtain ⟨z, hz, _, hcell⟩ := g3 j x hx1
      have HZ := Lib.hid hz
      obtain ⟨a0, a1, zq, zn, zc, rfl⟩ := tyP_sh hz
      have HCL := Lib.hid (fun (w' : World) (h : Below (w.heap.size + 3) wr w') =>
       have up : ∀ j' z', (Value.agg #[.int .i64 a0, .string a1, .slice zq zn zc]).cells[j']? = some z' → w'.cell? ⟨g, of + j * 3 + j', none⟩ = some z' := fun j' z' hz' => (h.cell (p := ⟨g, of + j * 3 + j', none⟩) (by have := World.block_lt_of_cell? w _ (hcell j' z' hz'); dsimp only at this ⊢; omega)).trans (cell_up HB.out (hcell j' z' hz'))
       (show w'.cell? ⟨g, of + j * 3, none⟩ = some (.int .i64 a0) ∧ w'.cell? ⟨g, of + j * 3 + 1, none⟩ = some (.string a1) ∧ w'.cell? ⟨g, of + j * 3 + 2, none⟩ = some (.slice zq zn zc) from ⟨up 0 _ rfl, up 1 _ rfl, up 2 _ rfl⟩))
      have hk1 : (j : Int) < (xs.length : Int) := by omega
      have hk2 : (xs.length : Int) ≤ (cp : Int) := by omega
      have hk3 := g2
      clear g1 g2 g3 hcell hz hx1
      go_wp2_with fail
      refine wp_region_held_drew (S := fun (u' : World) => Below (w.heap.size + 3) wr u') (by kernel_rfl) ((Below.refl _ _).drew) (fun hHeld => ?_)
      refine wpAnyH_take (i := 0) (v := .pointer (some ⟨w.heap.size + 3, 2, none⟩)) rfl (by kernel_rfl) (by kernel_rfl) (by kernel_rfl) (fun _ _ _ h => h) (Or.inl ⟨by rfl, fun w' hSw => by go_simp⟩) hHeld ?_
      refine wpAnyH_take (i := 2) (v := .pointer (some ⟨w.heap.size, 2, none⟩)) rfl (by kernel_rfl) (by kernel_rfl) (by kernel_rfl) (fun _ _ _ h => h) (Or.inl ⟨by rfl, fun w' hSw => by go_simp⟩) hHeld ?_
      refine wpAnyH_take (i := 3) (v := .slice (some ⟨g, of, none⟩) xs.length cp) rfl (by kernel_rfl) (by kernel_rfl) (by kernel_rfl) (fun _ _ _ h => h) (Or.inl ⟨by rfl, fun w' hSw => by have h := ent_cell ((hSw.block _ (by omega)).trans ET.out) 2 _ rfl; go_simp⟩) hHeld ?_
      refine wpAnyH_take (i := 4) (v := .int .i64 j) rfl (by kernel_rfl) (by kernel_rfl) (by kernel_rfl) (fun _ _ _ h => h) (Or.inl ⟨by rfl, fun w' hSw => by go_simp⟩) hHeld ?_
      refine wpAnyH_take (i := 5) (v := .pointer (some ⟨g, of + j * 3, none⟩)) rfl (by kernel_rfl) (by kernel_rfl) (by kernel_rfl) (fun _ _ _ h => h) (Or.inl ⟨by rfl, fun w' hSw => by go_simp⟩) hHeld ?_
      refine wpAnyH_take (i := 6) (v := .agg #[.int .i64 a0, .string a1, .slice zq zn zc]) rfl (by kernel_rfl) (by kernel_rfl) (by kernel_rfl) (fun _ _ _ h => h) (Or.inl ⟨by rfl, fun w' hSw => by obtain ⟨x0, x1, x2⟩ := HCL.out w' hSw; go_simp⟩) hHeld ?_
      refine wpAnyH_take (i := 7) (v := .int .i64 n) rfl (by kernel_rfl) (by kernel_rfl) (by kernel_rfl) (fun _ _ _ h => h) (Or.inl ⟨by rfl, fun w' hSw => by go_simp⟩) hHeld ?_
      refine wpAnyH_take (i := 8) (v := .agg #[.int .i64 k, .string us, .slice uq uj uc]) rfl (by kernel_rfl) (by kernel_rfl) (by kernel_rfl) (fun _ _ _ h => h) (Or.inl ⟨by rfl, fun w' hSw => by have h0 := ent_cell ((hSw.block _ (by omega)).trans EU.out) 0 _ rfl; have h1 := ent_cell ((hSw.block _ (by omega)).trans EU.out) 1 _ rfl; have h2 := ent_cell ((hSw.block _ (by omega)).trans EU.out) 2 _ rfl; go_simp⟩) hHeld ?_
      try simp only [Act.put, List.getElem_toArray, List.getElem_cons_succ, List.getElem_cons_zero, List.setIfInBounds_toArray, List.set_cons_zero, List.set_cons_succ]
      refine wpAnyH_ready (rs := [1, 9]) (by kernel_rfl) (by simp) ?_
      refine AllReadyH.cons rfl (fun K hK => ?_) (AllReadyH.cons rfl (fun K hK => ?_) AllReadyH.nil)
      · have o2 := ent_cell (w := wr.drew) EO.out 2 _ rfl
        go_simp
        refine hK.out _ _ ((Below.refl _ _).drew) (fun hHeld => ?_)
        clear hK K
        refine wpAnyH_ready (rs := [9]) (by kernel_rfl) (by simp) ?_
        refine AllReadyH.cons rfl (fun K hK => ?_) AllReadyH.nil
        go_simp
        refine (HIX.out _ _ u n base wr.drew (by have := HB.out.size; show base ≤ wr.heap.size; omega) (tyP_below HZ.out HB.out.drew) (HU.out.same (fun c hc => HB.out.drew.block c (by omega))) HSX.out).mono ?_
        rintro e w5 ⟨r, rfl, hb5, hh5⟩
        replace hb5 := undrew hb5
        obtain ⟨b0, b1, rq, rn, rc, rfl⟩ := tyP_sh hh5.now
        have HB5 := Lib.hid hb5
        have HH5 : Hid (Hang TyP base wr.heap.size w5.heap.size w5 (.agg #[.int .i64 b0, .string b1, .slice rq rn rc]) (Ux.put n u x)) := Lib.hid hh5
        have hs5 := hb5.size
        have EO5 := Lib.hid (ent_below EO.out hb5)
        have HO5 := Lib.hid (own_kept HO.out hb5)
        clear hb5 hh5
        refine hK.out _ _ (HB5.out.mono (by omega)) (fun hHeld => ?_)
        clear hK K
        refine wpAnyH_ready (rs := [10]) (by kernel_rfl) (by simp) ?_
        refine AllReadyH.cons rfl (fun K hK => ?_) AllReadyH.nil
        go_simp
        refine hK.out _ _ ((HB5.out.mono (by omega)).alloc (by omega) _) (fun hHeld => ?_)
        clear hK K
        refine wpAnyH_ready (rs := [11]) (by kernel_rfl) (by simp) ?_
        refine AllReadyH.cons rfl (fun K hK => ?_) AllReadyH.nil
        refine step_append_loc rfl (.tmp 31) (.tmp 40) 28 rfl (w.heap.size + 4) 30 i0 (.agg #[.int .i64 0, .string ⟨#[]⟩, .slice none 0 0]) 3 48 Tryd.underlying28 I0.out I00.out I01.out I02.out rfl (by decide) _ j _ rfl (HO5.out.alloc _) ⟨w5.heap.size, 0, none⟩ 1 1 [.int .i64 b0, .string b1, .slice rq rn rc] rfl (by decide) rfl ?c1 ?c2 ?c3 ?c4 ?c5 ?_
        case c1 => exact fun j u h => three_cells w5 _ _ _ _ j u h
        case c2 => intro u hu; simp only [List.mem_cons, List.not_mem_nil, or_false] at hu; rcases hu with rfl | rfl | rfl <;> rfl
        case c3 => unfold maxLen; omega
        case c4 => omega
        case c5 => simp; omega
        intro v6 w6 hown hgr hloc
        obtain ⟨p6, c6, rfl⟩ := own_slice hown
        have hob : ∀ kk, (Value.slice pa j ca).ownBlock = some kk → w.heap.size + 4 ≤ kk := fun kk hkk => (HO5.out.lt kk hkk).1
        have hs6 : w5.heap.size ≤ w6.heap.size := by have := hgr.size; simp at this; omega
        have HK6 : Hid (∀ b, b < w5.heap.size → (Value.slice pa j ca).ownBlock ≠ some b → w6.heap[b]? = w5.heap[b]?) := Lib.hid (fun b hb hne => (hgr.block b (by simp; omega) (fun e => hne e.symm)).trans (Below.heap_alloc w5 _ b hb))
        have HOB := Lib.hid hob
        have HLOC : Hid ((Value.slice p6 (j + 1) c6).ownBlock = (Value.slice pa j ca).ownBlock ∨ ∀ g, (Value.slice p6 (j + 1) c6).ownBlock = some g → w5.heap.size ≤ g) := Lib.hid (hloc.imp id fun h g hg => by have := h g hg; simp at this; omega)
        have EO6 := Lib.hid ((HK6.out (w.heap.size + 3) (by omega) (fun e => by have := hob _ e; omega)).trans EO5.out)
        have HS6 : Hid (Below (w.heap.size + 3) wr w6) := Lib.hid (((HB5.out.mono (B' := w.heap.size + 3) (by omega)).alloc (by omega) (.cells #[.int .i64 b0, .string b1, .slice rq rn rc] 30)).grown hgr (by simp; omega) (fun kk hkk => by have := hob kk hkk; omega))
        rw [← cells_three] at hown
        have HO6 := Lib.hid hown
        clear hown hgr hloc hob
        refine hK.out _ _ HS6.out (fun hHeld => ?_)
        clear hK K
        refine wpAnyH_take (i := 12) (v := .pointer (some ⟨w.heap.size + 3, 2, none⟩)) rfl (by kernel_rfl) (by kernel_rfl) (by kernel_rfl) (fun _ _ _ h => h) (Or.inl ⟨by rfl, fun w' hSw => by go_simp⟩) hHeld ?_
        try simp only [Act.put, List.getElem_toArray, List.getElem_cons_succ, List.getElem_cons_zero, List.setIfInBounds_toArray, List.set_cons_zero, List.set_cons_succ]
        refine wpAnyH_ready (rs := [13]) (by kernel_rfl) (by simp) ?_
        refine AllReadyH.cons rfl (fun K hK => ?_) AllReadyH.nil
        have of := ent_free EO6.out
        have o2 := ent_cell EO6.out 2 _ rfl
        go_simp
        refine hK.out _ _ (HS6.out.setCell (p := ⟨w.heap.size + 3, 2, none⟩) (by dsimp only; omega) _) (fun hHeld => ?_)
        clear hK K of o2
        refine wpAnyH_done (by kernel_rfl) ?_ _
        have ET7 := Lib.hid (ent_other ((HS6.out.block _ (by omega)).trans ET.out) (w.heap.size + 3) 2 (.slice p6 (j + 1) c6) (by omega))
        have EU7 := Lib.hid (ent_other ((HS6.out.block _ (by omega)).trans EU.out) (w.heap.size + 3) 2 (.slice p6 (j + 1) c6) (by omega))
        have ER7 := Lib.hid (ent_other ((HS6.out.block _ (by omega)).trans ER.out) (w.heap.size + 3) 2 (.slice p6 (j + 1) c6) (by omega))
        have EO7 := Lib.hid (ent_put3 #[.int .i64 (-1), .string ⟨nm.toArray⟩, .slice p6 (j + 1) c6] EO6.out 2 (.slice p6 (j + 1) c6) rfl)
        have HB7 := Lib.hid (Below.setCell (HB.out.trans (HS6.out.mono (by omega))) (p := ⟨w.heap.size + 3, 2, none⟩) (by dsimp only; omega) (.slice p6 (j + 1) c6))
        have HO7 := Lib.hid (own_same HO6.out (w' := w6.setCell ⟨w.heap.size + 3, 2, none⟩ (.slice p6 (j + 1) c6)) fun kk hkk => Below.heap_setCell w6 ⟨w.heap.size + 3, 2, none⟩ _ kk (by have := (HO6.out.lt kk hkk).1; dsimp only; omega))
        have HS7 : Hid (w.heap.size + 4 ≤ (w6.setCell ⟨w.heap.size + 3, 2, none⟩ (.slice p6 (j + 1) c6)).heap.size) := Lib.hid (by simp; omega)
        have HK7 : Hid (∀ b, b < base ∨ w.heap.size + 4 ≤ b → b < w5.heap.size → (Value.slice pa j ca).ownBlock ≠ some b → (w6.setCell ⟨w.heap.size + 3, 2, none⟩ (.slice p6 (j + 1) c6)).heap[b]? = w5.heap[b]?) := Lib.hid (fun b hb hlt hne => (Below.heap_setCell w6 ⟨w.heap.size + 3, 2, none⟩ _ b (by dsimp only; omega)).trans (HK6.out b hlt hne))
        have HR7 : Hid ((vs ++ [Value.agg #[.int .i64 b0, .string b1, .slice rq rn rc]]).length = j + 1 ∧ Reps (KeptH TyP base (w.heap.size + 4) (w6.setCell ⟨w.heap.size + 3, 2, none⟩ (.slice p6 (j + 1) c6)) (Value.slice p6 (j + 1) c6).ownBlock) (vs ++ [.agg #[.int .i64 b0, .string b1, .slice rq rn rc]]) ((xs.take (j + 1)).map (Ux.put n u)) ∧ ∀ z ∈ vs ++ [Value.agg #[.int .i64 b0, .string b1, .slice rq rn rc]], ShTy z) := Lib.hid (by
         obtain ⟨f1, f2, f3⟩ := HR.out
         refine ⟨by simp [f1], ?_, fun z hz => (List.mem_append.1 hz).elim (f3 z) (fun h => by rw [List.mem_singleton.1 h]; exact ⟨_, _, _, _, _, rfl⟩)⟩
         rw [HTK.out]
         have hbo : ∀ g, (Value.slice pa j ca).ownBlock = some g → base ≤ g := fun g hg => by have := HOB.out g hg; omega
         have hsz7 : w5.heap.size ≤ (w6.setCell ⟨w.heap.size + 3, 2, none⟩ (.slice p6 (j + 1) c6)).heap.size := by simp; omega
         refine Reps.snoc ?_ (f2.mono fun z y hzy => ?_)
         · refine KeptH.step (ob := (Value.slice pa j ca).ownBlock) ⟨wr.heap.size, w5.heap.size, hs, Nat.le_refl _, fun g hg => .inl (HO.out.lt g hg).2, HH5.out⟩ hsz7 (by omega) (fun b h1 h2 h3 => HK7.out b h1 h2 h3) hbo HLOC.out
         · refine KeptH.step (ob := (Value.slice pa j ca).ownBlock) (hzy.step hs5 (by omega) (fun b _ h2 _ => HB5.out.block b h2) hbo (.inl rfl)) hsz7 (by omega) (fun b h1 h2 h3 => HK7.out b h1 h2 h3) hbo HLOC.out)
        clear HK6 HK7 HS6 EO6 HO6 HLOC HOB
        generalize w6.setCell ⟨w.heap.size + 3, 2, none⟩ (.slice p6 (j + 1) c6) = w7 at *
        go_wp2_with fail
        go_roundw
        case rel => exact ⟨j + 1, vs ++ [.agg #[.int .i64 b0, .string b1, .slice rq rn rc]], .slice p6 (j + 1) c6, by go_num, by omega, HR7, HO7, HS7, ET7, EU7, ER7, EO7, HB7⟩
        case measure => simp [intOf]; omega
      · go_simp
        refine (HIX.out _ _ u n base wr.drew (by have := HB.out.size; show base ≤ wr.heap.size; omega) (tyP_below HZ.out HB.out.drew) (HU.out.same (fun c hc => HB.out.drew.block c (by omega))) HSX.out).mono ?_
        rintro e w5 ⟨r, rfl, hb5, hh5⟩
        replace hb5 := undrew hb5
        obtain ⟨b0, b1, rq, rn, rc, rfl⟩ := tyP_sh hh5.now
        have HB5 := Lib.hid hb5
        have HH5 : Hid (Hang TyP base wr.heap.size w5.heap.size w5 (.agg #[.int .i64 b0, .string b1, .slice rq rn rc]) (Ux.put n u x)) := Lib.hid hh5
        have hs5 := hb5.size
        have EO5 := Lib.hid (ent_below EO.out hb5)
        have HO5 := Lib.hid (own_kept HO.out hb5)
        clear hb5 hh5
        refine hK.out _ _ (HB5.out.mono (by omega)) (fun hHeld => ?_)
        clear hK K
        refine wpAnyH_ready (rs := [1, 10]) (by kernel_rfl) (by simp) ?_
        refine AllReadyH.cons rfl (fun K hK => ?_) (AllReadyH.cons rfl (fun K hK => ?_) AllReadyH.nil)
        · have o2 := ent_cell EO5.out 2 _ rfl
          go_simp
          refine hK.out _ _ (HB5.out.mono (by omega)) (fun hHeld => ?_)
          clear hK K o2
          refine wpAnyH_ready (rs := [10]) (by kernel_rfl) (by simp) ?_
          refine AllReadyH.cons rfl (fun K hK => ?_) AllReadyH.nil
          go_simp
          refine hK.out _ _ ((HB5.out.mono (by omega)).alloc (by omega) _) (fun hHeld => ?_)
          clear hK K
          refine wpAnyH_ready (rs := [11]) (by kernel_rfl) (by simp) ?_
          refine AllReadyH.cons rfl (fun K hK => ?_) AllReadyH.nil
          refine step_append_loc rfl (.tmp 31) (.tmp 40) 28 rfl (w.heap.size + 4) 30 i0 (.agg #[.int .i64 0, .string ⟨#[]⟩, .slice none 0 0]) 3 48 Tryd.underlying28 I0.out I00.out I01.out I02.out rfl (by decide) _ j _ rfl (HO5.out.alloc _) ⟨w5.heap.size, 0, none⟩ 1 1 [.int .i64 b0, .string b1, .slice rq rn rc] rfl (by decide) rfl ?c1 ?c2 ?c3 ?c4 ?c5 ?_
          case c1 => exact fun j u h => three_cells w5 _ _ _ _ j u h
          case c2 => intro u hu; simp only [List.mem_cons, List.not_mem_nil, or_false] at hu; rcases hu with rfl | rfl | rfl <;> rfl
          case c3 => unfold maxLen; omega
          case c4 => omega
          case c5 => simp; omega
          intro v6 w6 hown hgr hloc
          obtain ⟨p6, c6, rfl⟩ := own_slice hown
          have hob : ∀ kk, (Value.slice pa j ca).ownBlock = some kk → w.heap.size + 4 ≤ kk := fun kk hkk => (HO5.out.lt kk hkk).1
          have hs6 : w5.heap.size ≤ w6.heap.size := by have := hgr.size; simp at this; omega
          have HK6 : Hid (∀ b, b < w5.heap.size → (Value.slice pa j ca).ownBlock ≠ some b → w6.heap[b]? = w5.heap[b]?) := Lib.hid (fun b hb hne => (hgr.block b (by simp; omega) (fun e => hne e.symm)).trans (Below.heap_alloc w5 _ b hb))
          have HOB := Lib.hid hob
          have HLOC : Hid ((Value.slice p6 (j + 1) c6).ownBlock = (Value.slice pa j ca).ownBlock ∨ ∀ g, (Value.slice p6 (j + 1) c6).ownBlock = some g → w5.heap.size ≤ g) := Lib.hid (hloc.imp id fun h g hg => by have := h g hg; simp at this; omega)
          have EO6 := Lib.hid ((HK6.out (w.heap.size + 3) (by omega) (fun e => by have := hob _ e; omega)).trans EO5.out)
          have HS6 : Hid (Below (w.heap.size + 3) wr w6) := Lib.hid (((HB5.out.mono (B' := w.heap.size + 3) (by omega)).alloc (by omega) (.cells #[.int .i64 b0, .string b1, .slice rq rn rc] 30)).grown hgr (by simp; omega) (fun kk hkk => by have := hob kk hkk; omega))
          rw [← cells_three] at hown
          have HO6 := Lib.hid hown
          clear hown hgr hloc hob
          refine hK.out _ _ HS6.out (fun hHeld => ?_)
          clear hK K
          refine wpAnyH_take (i := 12) (v := .pointer (some ⟨w.heap.size + 3, 2, none⟩)) rfl (by kernel_rfl) (by kernel_rfl) (by kernel_rfl) (fun _ _ _ h => h) (Or.inl ⟨by rfl, fun w' hSw => by go_simp⟩) hHeld ?_
          try simp only [Act.put, List.getElem_toArray, List.getElem_cons_succ, List.getElem_cons_zero, List.setIfInBounds_toArray, List.set_cons_zero, List.set_cons_succ]
          refine wpAnyH_ready (rs := [13]) (by kernel_rfl) (by simp) ?_
          refine AllReadyH.cons rfl (fun K hK => ?_) AllReadyH.nil
          have of := ent_free EO6.out
          have o2 := ent_cell EO6.out 2 _ rfl
          go_simp
          refine hK.out _ _ (HS6.out.setCell (p := ⟨w.heap.size + 3, 2, none⟩) (by dsimp only; omega) _) (fun hHeld => ?_)
          clear hK K of o2
          refine wpAnyH_done (by kernel_rfl) ?_ _
          have ET7 := Lib.hid (ent_other ((HS6.out.block _ (by omega)).trans ET.out) (w.heap.size + 3) 2 (.slice p6 (j + 1) c6) (by omega))
          have EU7 := Lib.hid (ent_other ((HS6.out.block _ (by omega)).trans EU.out) (w.heap.size + 3) 2 (.slice p6 (j + 1) c6) (by omega))
          have ER7 := Lib.hid (ent_other ((HS6.out.block _ (by omega)).trans ER.out) (w.heap.size + 3) 2 (.slice p6 (j + 1) c6) (by omega))
          have EO7 := Lib.hid (ent_put3 #[.int .i64 (-1), .string ⟨nm.toArray⟩, .slice p6 (j + 1) c6] EO6.out 2 (.slice p6 (j + 1) c6) rfl)
          have HB7 := Lib.hid (Below.setCell (HB.out.trans (HS6.out.mono (by omega))) (p := ⟨w.heap.size + 3, 2, none⟩) (by dsimp only; omega) (.slice p6 (j + 1) c6))
          have HO7 := Lib.hid (own_same HO6.out (w' := w6.setCell ⟨w.heap.size + 3, 2, none⟩ (.slice p6 (j + 1) c6)) fun kk hkk => Below.heap_setCell w6 ⟨w.heap.size + 3, 2, none⟩ _ kk (by have := (HO6.out.lt kk hkk).1; dsimp only; omega))
          have HS7 : Hid (w.heap.size + 4 ≤ (w6.setCell ⟨w.heap.size + 3, 2, none⟩ (.slice p6 (j + 1) c6)).heap.size) := Lib.hid (by simp; omega)
          have HK7 : Hid (∀ b, b < base ∨ w.heap.size + 4 ≤ b → b < w5.heap.size → (Value.slice pa j ca).ownBlock ≠ some b → (w6.setCell ⟨w.heap.size + 3, 2, none⟩ (.slice p6 (j + 1) c6)).heap[b]? = w5.heap[b]?) := Lib.hid (fun b hb hlt hne => (Below.heap_setCell w6 ⟨w.heap.size + 3, 2, none⟩ _ b (by dsimp only; omega)).trans (HK6.out b hlt hne))
          have HR7 : Hid ((vs ++ [Value.agg #[.int .i64 b0, .string b1, .slice rq rn rc]]).length = j + 1 ∧ Reps (KeptH TyP base (w.heap.size + 4) (w6.setCell ⟨w.heap.size + 3, 2, none⟩ (.slice p6 (j + 1) c6)) (Value.slice p6 (j + 1) c6).ownBlock) (vs ++ [.agg #[.int .i64 b0, .string b1, .slice rq rn rc]]) ((xs.take (j + 1)).map (Ux.put n u)) ∧ ∀ z ∈ vs ++ [Value.agg #[.int .i64 b0, .string b1, .slice rq rn rc]], ShTy z) := Lib.hid (by
           obtain ⟨f1, f2, f3⟩ := HR.out
           refine ⟨by simp [f1], ?_, fun z hz => (List.mem_append.1 hz).elim (f3 z) (fun h => by rw [List.mem_singleton.1 h]; exact ⟨_, _, _, _, _, rfl⟩)⟩
           rw [HTK.out]
           have hbo : ∀ g, (Value.slice pa j ca).ownBlock = some g → base ≤ g := fun g hg => by have := HOB.out g hg; omega
           have hsz7 : w5.heap.size ≤ (w6.setCell ⟨w.heap.size + 3, 2, none⟩ (.slice p6 (j + 1) c6)).heap.size := by simp; omega
           refine Reps.snoc ?_ (f2.mono fun z y hzy => ?_)
           · refine KeptH.step (ob := (Value.slice pa j ca).ownBlock) ⟨wr.heap.size, w5.heap.size, hs, Nat.le_refl _, fun g hg => .inl (HO.out.lt g hg).2, HH5.out⟩ hsz7 (by omega) (fun b h1 h2 h3 => HK7.out b h1 h2 h3) hbo HLOC.out
           · refine KeptH.step (ob := (Value.slice pa j ca).ownBlock) (hzy.step hs5 (by omega) (fun b _ h2 _ => HB5.out.block b h2) hbo (.inl rfl)) hsz7 (by omega) (fun b h1 h2 h3 => HK7.out b h1 h2 h3) hbo HLOC.out)
          clear HK6 HK7 HS6 EO6 HO6 HLOC HOB
          generalize w6.setCell ⟨w.heap.size + 3, 2, none⟩ (.slice p6 (j + 1) c6) = w7 at *
          go_wp2_with fail
          go_roundw
          case rel => exact ⟨j + 1, vs ++ [.agg #[.int .i64 b0, .string b1, .slice rq rn rc]], .slice p6 (j + 1) c6, by go_num, by omega, HR7, HO7, HS7, ET7, EU7, ER7, EO7, HB7⟩
          case measure => simp [intOf]; omega
        · go_simp
          refine hK.out _ _ ((HB5.out.mono (by omega)).alloc (by omega) _) (fun hHeld => ?_)
          clear hK K
          refine wpAnyH_ready (rs := [1]) (by kernel_rfl) (by simp) ?_
          refine AllReadyH.cons rfl (fun K hK => ?_) AllReadyH.nil
          have o2 := ent_cell (ent_alloc EO5.out (.cells #[.int .i64 b0, .string b1, .slice rq rn rc] 30)) 2 _ rfl
          go_simp
          refine hK.out _ _ ((HB5.out.mono (by omega)).alloc (by omega) _) (fun hHeld => ?_)
          clear hK K o2
          refine wpAnyH_ready (rs := [11]) (by kernel_rfl) (by simp) ?_
          refine AllReadyH.cons rfl (fun K hK => ?_) AllReadyH.nil
          refine step_append_loc rfl (.tmp 31) (.tmp 40) 28 rfl (w.heap.size + 4) 30 i0 (.agg #[.int .i64 0, .string ⟨#[]⟩, .slice none 0 0]) 3 48 Tryd.underlying28 I0.out I00.out I01.out I02.out rfl (by decide) _ j _ rfl (HO5.out.alloc _) ⟨w5.heap.size, 0, none⟩ 1 1 [.int .i64 b0, .string b1, .slice rq rn rc] rfl (by decide) rfl ?c1 ?c2 ?c3 ?c4 ?c5 ?_
          case c1 => exact fun j u h => three_cells w5 _ _ _ _ j u h
          case c2 => intro u hu; simp only [List.mem_cons, List.not_mem_nil, or_false] at hu; rcases hu with rfl | rfl | rfl <;> rfl
          case c3 => unfold maxLen; omega
          case c4 => omega
          case c5 => simp; omega
          intro v6 w6 hown hgr hloc
          obtain ⟨p6, c6, rfl⟩ := own_slice hown
          have hob : ∀ kk, (Value.slice pa j ca).ownBlock = some kk → w.heap.size + 4 ≤ kk := fun kk hkk => (HO5.out.lt kk hkk).1
          have hs6 : w5.heap.size ≤ w6.heap.size := by have := hgr.size; simp at this; omega
          have HK6 : Hid (∀ b, b < w5.heap.size → (Value.slice pa j ca).ownBlock ≠ some b → w6.heap[b]? = w5.heap[b]?) := Lib.hid (fun b hb hne => (hgr.block b (by simp; omega) (fun e => hne e.symm)).trans (Below.heap_alloc w5 _ b hb))
          have HOB := Lib.hid hob
          have HLOC : Hid ((Value.slice p6 (j + 1) c6).ownBlock = (Value.slice pa j ca).ownBlock ∨ ∀ g, (Value.slice p6 (j + 1) c6).ownBlock = some g → w5.heap.size ≤ g) := Lib.hid (hloc.imp id fun h g hg => by have := h g hg; simp at this; omega)
          have EO6 := Lib.hid ((HK6.out (w.heap.size + 3) (by omega) (fun e => by have := hob _ e; omega)).trans EO5.out)
          have HS6 : Hid (Below (w.heap.size + 3) wr w6) := Lib.hid (((HB5.out.mono (B' := w.heap.size + 3) (by omega)).alloc (by omega) (.cells #[.int .i64 b0, .string b1, .slice rq rn rc] 30)).grown hgr (by simp; omega) (fun kk hkk => by have := hob kk hkk; omega))
          rw [← cells_three] at hown
          have HO6 := Lib.hid hown
          clear hown hgr hloc hob
          refine hK.out _ _ HS6.out (fun hHeld => ?_)
          clear hK K
          refine wpAnyH_take (i := 12) (v := .pointer (some ⟨w.heap.size + 3, 2, none⟩)) rfl (by kernel_rfl) (by kernel_rfl) (by kernel_rfl) (fun _ _ _ h => h) (Or.inl ⟨by rfl, fun w' hSw => by go_simp⟩) hHeld ?_
          try simp only [Act.put, List.getElem_toArray, List.getElem_cons_succ, List.getElem_cons_zero, List.setIfInBounds_toArray, List.set_cons_zero, List.set_cons_succ]
          refine wpAnyH_ready (rs := [13]) (by kernel_rfl) (by simp) ?_
          refine AllReadyH.cons rfl (fun K hK => ?_) AllReadyH.nil
          have of := ent_free EO6.out
          have o2 := ent_cell EO6.out 2 _ rfl
          go_simp
          refine hK.out _ _ (HS6.out.setCell (p := ⟨w.heap.size + 3, 2, none⟩) (by dsimp only; omega) _) (fun hHeld => ?_)
          clear hK K of o2
          refine wpAnyH_done (by kernel_rfl) ?_ _
          have ET7 := Lib.hid (ent_other ((HS6.out.block _ (by omega)).trans ET.out) (w.heap.size + 3) 2 (.slice p6 (j + 1) c6) (by omega))
          have EU7 := Lib.hid (ent_other ((HS6.out.block _ (by omega)).trans EU.out) (w.heap.size + 3) 2 (.slice p6 (j + 1) c6) (by omega))
          have ER7 := Lib.hid (ent_other ((HS6.out.block _ (by omega)).trans ER.out) (w.heap.size + 3) 2 (.slice p6 (j + 1) c6) (by omega))
          have EO7 := Lib.hid (ent_put3 #[.int .i64 (-1), .string ⟨nm.toArray⟩, .slice p6 (j + 1) c6] EO6.out 2 (.slice p6 (j + 1) c6) rfl)
          have HB7 := Lib.hid (Below.setCell (HB.out.trans (HS6.out.mono (by omega))) (p := ⟨w.heap.size + 3, 2, none⟩) (by dsimp only; omega) (.slice p6 (j + 1) c6))
          have HO7 := Lib.hid (own_same HO6.out (w' := w6.setCell ⟨w.heap.size + 3, 2, none⟩ (.slice p6 (j + 1) c6)) fun kk hkk => Below.heap_setCell w6 ⟨w.heap.size + 3, 2, none⟩ _ kk (by have := (HO6.out.lt kk hkk).1; dsimp only; omega))
          have HS7 : Hid (w.heap.size + 4 ≤ (w6.setCell ⟨w.heap.size + 3, 2, none⟩ (.slice p6 (j + 1) c6)).heap.size) := Lib.hid (by simp; omega)
          have HK7 : Hid (∀ b, b < base ∨ w.heap.size + 4 ≤ b → b < w5.heap.size → (Value.slice pa j ca).ownBlock ≠ some b → (w6.setCell ⟨w.heap.size + 3, 2, none⟩ (.slice p6 (j + 1) c6)).heap[b]? = w5.heap[b]?) := Lib.hid (fun b hb hlt hne => (Below.heap_setCell w6 ⟨w.heap.size + 3, 2, none⟩ _ b (by dsimp only; omega)).trans (HK6.out b hlt hne))
          have HR7 : Hid ((vs ++ [Value.agg #[.int .i64 b0, .string b1, .slice rq rn rc]]).length = j + 1 ∧ Reps (KeptH TyP base (w.heap.size + 4) (w6.setCell ⟨w.heap.size + 3, 2, none⟩ (.slice p6 (j + 1) c6)) (Value.slice p6 (j + 1) c6).ownBlock) (vs ++ [.agg #[.int .i64 b0, .string b1, .slice rq rn rc]]) ((xs.take (j + 1)).map (Ux.put n u)) ∧ ∀ z ∈ vs ++ [Value.agg #[.int .i64 b0, .string b1, .slice rq rn rc]], ShTy z) := Lib.hid (by
           obtain ⟨f1, f2, f3⟩ := HR.out
           refine ⟨by simp [f1], ?_, fun z hz => (List.mem_append.1 hz).elim (f3 z) (fun h => by rw [List.mem_singleton.1 h]; exact ⟨_, _, _, _, _, rfl⟩)⟩
           rw [HTK.out]
           have hbo : ∀ g, (Value.slice pa j ca).ownBlock = some g → base ≤ g := fun g hg => by have := HOB.out g hg; omega
           have hsz7 : w5.heap.size ≤ (w6.setCell ⟨w.heap.size + 3, 2, none⟩ (.slice p6 (j + 1) c6)).heap.size := by simp; omega
           refine Reps.snoc ?_ (f2.mono fun z y hzy => ?_)
           · refine KeptH.step (ob := (Value.slice pa j ca).ownBlock) ⟨wr.heap.size, w5.heap.size, hs, Nat.le_refl _, fun g hg => .inl (HO.out.lt g hg).2, HH5.out⟩ hsz7 (by omega) (fun b h1 h2 h3 => HK7.out b h1 h2 h3) hbo HLOC.out
           · refine KeptH.step (ob := (Value.slice pa j ca).ownBlock) (hzy.step hs5 (by omega) (fun b _ h2 _ => HB5.out.block b h2) hbo (.inl rfl)) hsz7 (by omega) (fun b h1 h2 h3 => HK7.out b h1 h2 h3) hbo HLOC.out)
          clear HK6 HK7 HS6 EO6 HO6 HLOC HOB
          generalize w6.setCell ⟨w.heap.size + 3, 2, none⟩ (.slice p6 (j + 1) c6) = w7 at *
          go_wp2_with fail
          go_roundw
          case rel => exact ⟨j + 1, vs ++ [.agg #[.int .i64 b0, .string b1, .slice rq rn rc]], .slice p6 (j + 1) c6, by go_num, by omega, HR7, HO7, HS7, ET7, EU7, ER7, EO7, HB7⟩
          case measure => simp [intOf]; omega
    · obtain rfl : j = xs.length := by omega
      have o0 := ent_cell EO.out 0 _ rfl
      have o1 := ent_cell EO.out 1 _ rfl
      have o2 := ent_cell EO.out 2 _ rfl
      have r0 := ent_cell ER.out 0 _ rfl
      have r1 := ent_cell ER.out 1 _ rfl
      have r2 := ent_cell ER.out 2 _ rfl
      have rf := ent_free ER.out
      go_wp2_with fail
      replace HB := Lib.hid (below_set3 HB.out (w.heap.size + 2) (by omega) (.int .i64 (-1)) (.string ⟨nm.toArray⟩) (.slice pa xs.length ca))
      replace ER := Lib.hid (ent_set3 ER.out (.int .i64 (-1)) (.string ⟨nm.toArray⟩) (.slice pa xs.length ca))
      have HK8 : Hid (∀ b, b ≠ w.heap.size + 2 → (((wr.setCell ⟨w.heap.size + 2, 0, none⟩ (.int .i64 (-1))).setCell ⟨w.heap.size + 2, 1, none⟩ (.string ⟨nm.toArray⟩)).setCell ⟨w.heap.size + 2, 2, none⟩ (.slice pa xs.length ca)).heap[b]? = wr.heap[b]?) :=
       Lib.hid (fun b hb => ((Below.heap_setCell _ ⟨w.heap.size + 2, 2, none⟩ _ b hb).trans (Below.heap_setCell _ ⟨w.heap.size + 2, 1, none⟩ _ b hb)).trans (Below.heap_setCell _ ⟨w.heap.size + 2, 0, none⟩ _ b hb))
      have HS8 : Hid ((((wr.setCell ⟨w.heap.size + 2, 0, none⟩ (.int .i64 (-1))).setCell ⟨w.heap.size + 2, 1, none⟩ (.string ⟨nm.toArray⟩)).setCell ⟨w.heap.size + 2, 2, none⟩ (.slice pa xs.length ca)).heap.size = wr.heap.size) := Lib.hid (by simp)
      clear o0 o1 o2 r0 r1 r2 rf t2
      generalize ((wr.setCell ⟨w.heap.size + 2, 0, none⟩ (.int .i64 (-1))).setCell ⟨w.heap.size + 2, 1, none⟩ (.string ⟨nm.toArray⟩)).setCell ⟨w.heap.size + 2, 2, none⟩ (.slice pa xs.length ca) = w8 at ER HB HK8 HS8 ⊢
      have r0 := ent_cell ER.out 0 _ rfl
      have r1 := ent_cell ER.out 1 _ rfl
      have r2 := ent_cell ER.out 2 _ rfl
      refine bodyPost_ret (v := .agg #[.int .i64 (-1), .string ⟨nm.toArray⟩, .slice pa xs.length ca]) (by simp [results, Tryd.results23, go_sem, r0, r1, r2]) rfl ?_
      refine ⟨_, rfl, HB.out, ?_⟩
      rw [HV.out]
      intro u' hu'
      have hk : ∀ b, b < base ∨ (w.heap.size + 4 ≤ b ∧ b < wr.heap.size) → u'.heap[b]? = wr.heap[b]? := fun b hb => (hu' b (by rw [HS8.out]; omega)).trans (HK8.out b (by omega))
      obtain ⟨f1, f2, f3⟩ := HR.out
      rw [List.take_length] at f2
      refine tyP_a.2 ⟨-1, _, by decide, rfl, rowH HO.out (by simp) f2 (fun z hz => by obtain ⟨_, _, _, _, _, rfl⟩ := f3 z hz; rfl) hk, ?_⟩
      intro g o m c hv hm
      rcases HO.out.2 with ⟨h0, _⟩ | ⟨g', cap, cur, h0, hb, hg, _⟩
      · rw [hv] at h0; cases h0
      · rw [hv] at h0
        simp only [Value.slice.injEq, Option.some.injEq, Addr.mk.injEq] at h0
        obtain ⟨⟨rfl, _⟩, _⟩ := h0
        exact ⟨_, _, (hk g (.inr ⟨hb, ent_lt hg⟩)).trans hg⟩
end Go.Proofs.YtcblppojnailpaaDoor
