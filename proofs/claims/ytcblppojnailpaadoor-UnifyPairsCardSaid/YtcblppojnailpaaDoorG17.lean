/-
  Several texts in one: UEvP, UEv, UVars, UCanP.
-/
import Derived.Test.YtcblppojnailpaaDoorG16
import Derived.Test.YtcblppojnailpaaDoorG02
import Derived.Test.YtcblppojnailpaaDoorG04
import Derived.Test.YtcblppojnailpaaDoorG13
import Derived.BigRegion
namespace Go.Proofs.YtcblppojnailpaaDoor
open Go Go.RowKit
set_option linter.unusedVariables false
set_option linter.unusedSimpArgs false
/-- The blocks of the lists, and of the first one. -/
def QE (Q : LKey → Prop) (a0 : Nat) (x : LKey) : Prop := x.1 = a0 ∨ ∃ q, Q q ∧ q.1 = x.1
structure EvC where
 lo : Nat
 b3 : Nat
 b4 : Nat
 mb : Nat
 a0 : Nat
 sb : Nat
structure EvI (c : EvC) (Q : LKey → Prop) (w1 : World) (seen : List (List Ux.Ty)) (fs : List Ux.Fr) (acc : List Nat) (vals : List Value) (ov : Value) (w : World) : Prop where
 own : w.ownsRow (c.a0 + 1) 28 1 ov fs.length vals
 fr : ∀ (i : Nat) (f : Ux.Fr), fs.reverse[i]? = some f → ∃ v, vals[i]? = some v ∧ RowQ (QE Q c.a0) (TyQ Q w1) w1 v f.2
 seenm : ∃ Ls, MapK encL (FreeQ Q) w c.sb Ls ∧ ∀ (x : LKey) (val : Value), lookL x Ls = some val → val = .agg #[] ∧ ∃ (xs : List Ux.Ty) (cap : Nat), xs ∈ seen ∧ RowQ Q (TyQ Q w1) w1 (.slice (some ⟨x.1, x.2.1, none⟩) x.2.2 cap) xs
 var : VarS c.lo c.b3 c.b4 c.mb w acc
 same : ∀ x, QE Q c.a0 x → w.heap[x.1]? = w1.heap[x.1]?
 a0c : ∃ cs, w1.heap[c.a0]? = some (.cells cs 30 (0, 0))
 ne : c.sb ≠ c.mb ∧ c.sb ≠ c.b3 ∧ c.sb ≠ c.b4
 low : c.lo ≤ c.a0 ∧ c.lo ≤ c.sb ∧ c.a0 < w1.heap.size ∧ c.sb < w1.heap.size ∧ w1.heap.size ≤ w.heap.size
 q : ∀ x, Q x → x.1 < c.lo
 below : Below c.lo w1 w
variable {c : EvC} {Q : LKey → Prop} {w1 : World} {seen : List (List Ux.Ty)} {fs : List Ux.Fr} {acc : List Nat} {vals : List Value} {ov : Value} {w w' : World}
theorem EvI.vlen (h : EvI c Q w1 seen fs acc vals ov w) : vals.length = fs.length := by have := h.own.1; simpa using this
theorem EvI.qlt (h : EvI c Q w1 seen fs acc vals ov w) {x : LKey} (hx : QE Q c.a0 x) : x.1 < w1.heap.size := by
 rcases hx with h1 | ⟨q, h1, h2⟩
 · have := h.low; omega
 · have := h.q q h1; have := h.low; omega
/-- While but blocks of R change. -/
theorem EvI.keep {R : Nat → Prop} (h : EvI c Q w1 seen fs acc vals ov w) (hc : Chg R w w') (hown : ∀ b, ov.ownBlock = some b → ¬ R b) (hsb : ¬ R c.sb) (hq : ∀ x, QE Q c.a0 x → ¬ R x.1) (hlo : ∀ b, R b → c.lo ≤ b) (hv : VarS c.lo c.b3 c.b4 c.mb w' acc) : EvI c Q w1 seen fs acc vals ov w' := by
 obtain ⟨Ls, hm, hL⟩ := h.seenm
 have hqq : ∀ x, QE Q c.a0 x → w'.heap[x.1]? = w.heap[x.1]? := fun x hx => hc.block _ (by have := h.qlt hx; have := h.low; omega) (hq x hx)
 exact ⟨own_chg h.own hc hown, h.fr, ⟨Ls, hm.keep (hc.block _ hm.lt hsb) (freeQ_keep fun x hx => hqq x (.inr ⟨x, hx, rfl⟩)), hL⟩, hv, fun x hx => (hqq x hx).trans (h.same x hx), h.a0c, h.ne, by have := h.low; have := hc.size; omega, h.q, h.below.trans (hc.below (by have := h.low; omega) hlo)⟩
theorem EvI.grow (h : EvI c Q w1 seen fs acc vals ov w) (hb : Below w.heap.size w w') : EvI c Q w1 seen fs acc vals ov w' :=
 h.keep (R := fun _ => False) (.of_below hb) (fun _ _ h => h) (fun h => h) (fun _ _ h => h) (fun _ h => h.elim) (h.var.below hb)
/-- What the closure leaves alone. -/
theorem KeepV.ent {lo b3 b4 mb : Nat} {acc : List Nat} (hk : KeepV b3 mb w w') (hv : VarS lo b3 b4 mb w acc) {g : Nat} {cs : Array Value} {T : TypeId} (h : w.heap[g]? = some (.cells cs T (0, 0))) (h1 : T ≠ 3) (h2 : T ≠ 42) : w'.heap[g]? = some (.cells cs T (0, 0)) := by
 obtain ⟨_, ⟨lv, hb3, _⟩, ⟨Lm, h4, _⟩, _⟩ := hv
 obtain ⟨es2, k2, h5⟩ := h4.obj
 refine hk.2 _ _ h (fun e => ?_) (fun e => ?_) (fun cs fr e => ?_)
 · rw [e, hb3] at h; injection h with h; injection h with _ h _; exact h2 h.symm
 · rw [e, h5] at h; cases h
 · injection e with _ e _; exact h1 e
theorem EvI.told (h : EvI c Q w1 seen fs acc vals ov w) {acc' : List Nat} (hv : VarS c.lo c.b3 c.b4 c.mb w' acc') (hb : Below c.lo w w') (hk : KeepV c.b3 c.mb w w') : EvI c Q w1 seen fs acc' vals ov w' := by
 obtain ⟨Ls, hm, hL⟩ := h.seenm
 obtain ⟨es, kk, hmo⟩ := hm.obj
 have hqq : ∀ x, QE Q c.a0 x → w'.heap[x.1]? = w.heap[x.1]? := fun x hx => by
  rcases hx with e | ⟨q, h1, h2⟩
  · obtain ⟨cs, ha⟩ := h.a0c
    have ha2 : w.heap[c.a0]? = some (.cells cs 30 (0, 0)) := by rw [← e, h.same x (.inl e), e]; exact ha
    rw [e, hk.ent h.var ha2 (by decide) (by decide), ha2]
  · exact hb.block _ (by have := h.q q h1; omega)
 refine ⟨own_same h.own fun g hg => ?_, h.fr, ⟨Ls, hm.keep ((hk.2 _ _ hmo h.ne.2.1 h.ne.1 (fun cs fr e => by cases e)).trans hmo.symm) (freeQ_keep fun x hx => hqq x (.inr ⟨x, hx, rfl⟩)), hL⟩, hv, fun x hx => (hqq x hx).trans (h.same x hx), h.a0c, h.ne, by have := h.low; have := hk.1; omega, h.q, h.below.trans hb⟩
 rcases h.own.2 with ⟨e, _⟩ | ⟨g', cap, cur, e, _, hg', _⟩
 · rw [e] at hg; simp [Value.ownBlock] at hg
 · rw [e] at hg
   simp only [Value.ownBlock, Option.some.injEq] at hg
   subst hg
   rw [hk.ent h.var hg' (by decide) (by decide), hg']
/-- The element that is on top. -/
theorem EvI.top {f : Ux.Fr} {r : List Ux.Fr} (h : EvI c Q w1 seen (f :: r) acc vals ov w) : ∃ (g : Nat) (cap : Nat) (cur : Array Value) (q : Option Addr) (cp : Nat), ov = .slice (some ⟨g, 0, none⟩) (r.length + 1) cap ∧ r.length + 1 ≤ cap ∧ (cap : Int) ≤ 9223372036854775807 ∧ c.a0 < g ∧ w.heap[g]? = some (.cells cur 28 (0, 0)) ∧ w.cell? ⟨g, r.length, none⟩ = some (.slice q f.2.length cp) ∧ vals[r.length]? = some (.slice q f.2.length cp) ∧ RowQ (QE Q c.a0) (TyQ Q w1) w1 (.slice q f.2.length cp) f.2 := by
 obtain ⟨v, hv, hr⟩ := h.fr r.length f (by simp)
 obtain ⟨q, cp, rfl⟩ := hr.len
 obtain ⟨p, cc, rfl⟩ := own_slice h.own
 obtain ⟨g, cur, rfl, hb, hg, hcap, hcap2, hgh, hcell⟩ := own_open h.own (by simp)
 exact ⟨g, cc, cur, q, cp, rfl, by simpa using hcap, hcap2, hb, hgh, ent_cell hgh _ _ (hcell _ _ hv), hv, hr⟩
theorem EvI.pop {o : List Ux.Ty} {r : List Ux.Fr} {g cap : Nat} (h : EvI c Q w1 seen ((o, []) :: r) acc vals (.slice (some ⟨g, 0, none⟩) (r.length + 1) cap) w) : EvI c Q w1 seen r acc (vals.take (r.length * 1)) (.slice (some ⟨g, 0, none⟩) r.length cap) w := by
 refine ⟨own_cut h.own (by simp), fun i f hi => ?_, h.seenm, h.var, h.same, h.a0c, h.ne, h.low, h.q, h.below⟩
 have hil : i < r.length := by have := (List.getElem?_eq_some_iff.1 hi).1; simpa using this
 obtain ⟨v, h1, h2⟩ := h.fr i f (by rw [List.reverse_cons, List.getElem?_append_left (by simpa using hil)]; exact hi)
 exact ⟨v, by rw [List.getElem?_take, if_pos (by omega)]; exact h1, h2⟩
theorem rowQ_tail {Q' : LKey → Prop} {gr of m cp : Nat} {p' : Option Addr} {x : Ux.Ty} {xs : List Ux.Ty} (hm : m = xs.length + 1) (h : RowQ (QE Q' c.a0) (TyQ Q' w1) w1 (.slice (some ⟨gr, of, none⟩) m cp) (x :: xs)) (hp : 0 < xs.length → p' = some ⟨gr, of + 3, none⟩) : RowQ (QE Q' c.a0) (TyQ Q' w1) w1 (.slice p' xs.length (cp - 1)) xs := by
 rcases h with ⟨h0, _⟩ | ⟨g', o', c', cs, T, hv, h1, h2, h3, h4, h5, h6⟩
 · cases h0
 · injection hv with e1 e2 e3
   injection e1 with e1
   injection e1 with e4 e5 _
   subst e3; subst e4; subst e5
   cases hr : xs with
   | nil => exact .inl ⟨rfl, _, _, rfl⟩
   | cons y r' =>
     rw [← hr]
     have hpos : 0 < xs.length := by rw [hr]; simp
     rw [hp hpos]
     simp only [List.length_cons] at h3
     refine .inr ⟨gr, of + 3, cp - 1, cs, T, rfl, by rw [hr]; simp, h2.imp id fun ⟨q, a, b⟩ => ⟨q, a, b⟩, by omega, by omega, h5, fun i x' hx => ?_⟩
     obtain ⟨u, hu, hs, hc⟩ := h6 (i + 1) x' (by simpa using hx)
     exact ⟨u, hu, hs, fun j z hz => by have := hc j z hz; rwa [show of + (i + 1) * 3 + j = of + 3 + i * 3 + j by omega] at this⟩
theorem EvI.adv {o xs : List Ux.Ty} {x : Ux.Ty} {r : List Ux.Fr} {g cap : Nat} {nv : Value} (h : EvI c Q w1 seen ((o, x :: xs) :: r) acc vals (.slice (some ⟨g, 0, none⟩) (r.length + 1) cap) w) (hn : RowQ (QE Q c.a0) (TyQ Q w1) w1 nv xs) (hg : c.a0 < g) {cur : Array Value} (hgh : w.heap[g]? = some (.cells cur 28 (0, 0))) : EvI c Q w1 seen ((o, xs) :: r) acc (vals.set r.length nv) (.slice (some ⟨g, 0, none⟩) (r.length + 1) cap) (w.setCell ⟨g, r.length, none⟩ nv) := by
 have hvl := h.vlen
 have hc := Chg.set (R := (· = g)) (w := w) (p := ⟨g, r.length, none⟩) rfl nv
 obtain ⟨Ls, hm, hL⟩ := h.seenm
 have hgq : ∀ x, QE Q c.a0 x → x.1 ≠ g := fun x hx => by
  rcases hx with e | ⟨q, h1, h2⟩
  · omega
  · have := h.q q h1; have := h.low; omega
 have hqq : ∀ x, QE Q c.a0 x → (w.setCell ⟨g, r.length, none⟩ nv).heap[x.1]? = w.heap[x.1]? := fun x hx => Below.heap_setCell w _ _ _ (hgq x hx)
 have hsb : c.sb ≠ g := fun e => by obtain ⟨es, k, hmo⟩ := hm.obj; rw [e, hgh] at hmo; cases hmo
 refine ⟨own_setAt h.own r.length nv (by rw [hvl]; simp), fun i f hi => ?_, ⟨Ls, hm.keep (Below.heap_setCell w _ _ _ hsb) (freeQ_keep fun x hx => hqq x (.inr ⟨x, hx, rfl⟩)), hL⟩, ?_, fun x hx => (hqq x hx).trans (h.same x hx), h.a0c, h.ne, by have := h.low; simpa using this, h.q, h.below.setCell (p := ⟨g, r.length, none⟩) (by have := h.low; show c.lo ≤ g; omega) _⟩
 · by_cases hin : i = r.length
   · subst hin
     rw [List.reverse_cons, List.getElem?_append_right (by simp)] at hi
     simp at hi
     subst hi
     exact ⟨nv, by rw [List.getElem?_set_self (by rw [hvl]; simp)], hn⟩
   · have hil : i < r.length := by have := (List.getElem?_eq_some_iff.1 hi).1; simp at this; omega
     rw [List.reverse_cons, List.getElem?_append_left (by simpa using hil)] at hi
     obtain ⟨v, h1, h2⟩ := h.fr i f (by rw [List.reverse_cons, List.getElem?_append_left (by simpa using hil)]; exact hi)
     exact ⟨v, by rw [List.getElem?_set_ne (fun e => hin e.symm)]; exact h1, h2⟩
 · refine h.var.keep (by simp) fun b ob hb hor => (Below.heap_setCell w _ _ _ fun e => ?_).trans hb
   have e' : b = g := e
   subst e'
   rw [hgh] at hb
   injection hb with hb
   obtain ⟨v1, ⟨lv, v2, _⟩, ⟨Lm, v4, _⟩, _⟩ := h.var
   rcases hor with e | e | e | ⟨cs, e⟩
   · rw [← e, hgh] at v2; injection v2 with v2; injection v2 with _ v2 _; cases v2
   · rw [← e, hgh] at v1; injection v1 with v1; injection v1 with _ v1 _; cases v1
   · obtain ⟨es, k, v5⟩ := v4.obj; rw [← e, hgh] at v5; cases v5
   · rw [e] at hb; injection hb with _ hb _; cases hb
theorem VarS.own {lo b3 b4 mb base n : Nat} {xs : List Value} (h : VarS lo b3 b4 mb w acc) (ho : w.ownsRow base 28 1 ov n xs) (hc : Chg (fun b => ov.ownBlock = some b) w w') : VarS lo b3 b4 mb w' acc := by
 refine h.keep hc.size fun b ob hb hor => (hc.block b (ent_lt hb) fun e => ?_).trans hb
 rcases ho.2 with ⟨e2, _⟩ | ⟨g', cap, cur, e2, _, hg', _⟩
 · rw [e2] at e; simp [Value.ownBlock] at e
 rw [e2] at e
 simp only [Value.ownBlock, Option.some.injEq] at e
 subst e
 rw [hg'] at hb
 injection hb with hb
 obtain ⟨v1, ⟨lv, v2, _⟩, ⟨Lm, v4, _⟩, _⟩ := h
 rcases hor with e | e | e | ⟨cs, e⟩
 · rw [← e, hg'] at v2; injection v2 with v2; injection v2 with _ v2 _; cases v2
 · rw [← e, hg'] at v1; injection v1 with v1; injection v1 with _ v1 _; cases v1
 · obtain ⟨es, k, v5⟩ := v4.obj; rw [← e, hg'] at v5; cases v5
 · rw [e] at hb; injection hb with _ hb _; cases hb
theorem EvI.push (h : EvI c Q w1 seen fs acc vals ov w) {xs : List Ux.Ty} {nv v' : Value} (hn : RowQ (QE Q c.a0) (TyQ Q w1) w1 nv xs) (ho : w'.ownsRow (c.a0 + 1) 28 1 v' (fs.length + 1) (vals ++ [nv])) (hc : Chg (fun b => ov.ownBlock = some b) w w') : EvI c Q w1 seen ((xs, xs) :: fs) acc (vals ++ [nv]) v' w' := by
 have hvl := h.vlen
 obtain ⟨Ls, hm, hL⟩ := h.seenm
 obtain ⟨es, k, hmo⟩ := hm.obj
 have hlt := h.own.lt
 have hqq : ∀ x, QE Q c.a0 x → w'.heap[x.1]? = w.heap[x.1]? := fun x hx => hc.block _ (by have := h.qlt hx; have := h.low; omega) fun e => by
  have h1 := (hlt _ e).1
  rcases hx with e2 | ⟨q, h2, h3⟩
  · omega
  · have := h.q q h2; have := h.low; omega
 refine ⟨ho, fun i f hi => ?_, ⟨Ls, hm.keep (hc.block _ hm.lt (own_ne h.own hmo fun cs e => by cases e)) (freeQ_keep fun x hx => hqq x (.inr ⟨x, hx, rfl⟩)), hL⟩, h.var.own h.own hc, fun x hx => (hqq x hx).trans (h.same x hx), h.a0c, h.ne, by have := h.low; have := hc.size; omega, h.q, h.below.trans (hc.below (by have := h.low; omega) fun b hb => by have := (hlt _ hb).1; have := h.low; omega)⟩
 by_cases hil : i < fs.length
 · rw [List.reverse_cons, List.getElem?_append_left (by simpa using hil)] at hi
   obtain ⟨v, h1, h2⟩ := h.fr i f hi
   exact ⟨v, by rw [List.getElem?_append_left (by omega)]; exact h1, h2⟩
 · have hin : i = fs.length := by have := (List.getElem?_eq_some_iff.1 hi).1; simp at this; omega
   subst hin
   rw [List.reverse_cons, List.getElem?_append_right (by simp)] at hi
   simp at hi
   subst hi
   exact ⟨nv, by rw [List.getElem?_append_right (by omega), hvl, Nat.sub_self]; rfl, hn⟩
theorem EvI.freeK (h : EvI c Q w1 seen fs acc vals ov w) {x : LKey} (hx : Q x) {xs : List Ux.Ty} {cap : Nat} (hr : RowQ Q (TyQ Q w1) w1 (.slice (some ⟨x.1, x.2.1, none⟩) x.2.2 cap) xs) (hne : xs ≠ []) : FreeQ Q w x := by
 rcases hr with ⟨h0, _⟩ | ⟨g, o, cc, cs, T, hv, _, _, _, _, h5, _⟩
 · exact absurd h0 hne
 · injection hv with e1 _ _
   injection e1 with e1
   injection e1 with e1 _ _
   exact ⟨hx, cs, T, by rw [h.same x (.inr ⟨x, hx, rfl⟩), e1]; exact h5⟩
theorem EvI.look (h : EvI c Q w1 seen fs acc vals ov w) (x : LKey) (hx : Q x) {xs : List Ux.Ty} {cap : Nat} (hr : RowQ Q (TyQ Q w1) w1 (.slice (some ⟨x.1, x.2.1, none⟩) x.2.2 cap) xs) (hne : xs ≠ []) :
 ∃ b, (b = true → xs ∈ seen) ∧ (Instr.lookup 118 (.map (some c.sb)) (encL x) true).run Tryd.prog w = .ok (.tuple #[.agg #[], .bool b]) w := by
 obtain ⟨Ls, hm, hL⟩ := h.seenm
 have hk := (hm.look (lawLQ Q) Tryd.underlying118 (z := .agg #[]) (by kernel_rfl) x (h.freeK hx hr hne)).2
 cases hl : lookL x Ls with
 | none => exact ⟨false, (fun e => by cases e), by rw [hl] at hk; exact hk⟩
 | some v =>
   obtain ⟨e, ys, cap', h1, h2⟩ := hL x v hl
   subst e
   exact ⟨true, fun _ => by rw [rowQ_one hr h2]; exact h1, by rw [hl] at hk; exact hk⟩
theorem EvI.mark (h : EvI c Q w1 seen fs acc vals ov w) (x : LKey) (hx : Q x) {xs : List Ux.Ty} {cap : Nat} (hr : RowQ Q (TyQ Q w1) w1 (.slice (some ⟨x.1, x.2.1, none⟩) x.2.2 cap) xs) (hne : xs ≠ []) :
 ∃ w', (Instr.mapUpdate 118 (.map (some c.sb)) (encL x) (.agg #[])).run Tryd.prog w = .ok () w' ∧ EvI c Q w1 (xs :: seen) fs acc vals ov w' ∧ Chg (· = c.sb) w w' := by
 obtain ⟨Ls, hm, hL⟩ := h.seenm
 obtain ⟨es, k, hmo⟩ := hm.obj
 obtain ⟨w', hup, hm2, hgr⟩ := hm.update (lawLQ Q) Tryd.underlying118 x (h.freeK hx hr hne) (.agg #[]) (freeQ_other hm.obj)
 have hc : Chg (· = c.sb) w w' := Chg.grown hgr fun b hb => (Option.some.inj hb).symm
 have hqs : ∀ x, QE Q c.a0 x → x.1 ≠ c.sb := fun x hx e => by
  rcases hx with e2 | ⟨q, h2, h3⟩
  · obtain ⟨cs, ha⟩ := h.a0c
    have h4 := h.same x (.inl e2)
    rw [e, hmo] at h4
    rw [← e2, e] at ha
    rw [ha] at h4; cases h4
  · have := h.q q h2; have := h.low; omega
 have hqq : ∀ x, QE Q c.a0 x → w'.heap[x.1]? = w.heap[x.1]? := fun x hx => hc.block _ (by have := h.qlt hx; have := h.low; omega) (hqs x hx)
 refine ⟨w', hup, ⟨own_chg h.own hc fun b hb e => own_ne h.own hmo (fun cs e => by cases e) (by rw [hb, e]), h.fr, ⟨_, hm2, fun y val hy => ?_⟩, ?_, fun x hx => (hqq x hx).trans (h.same x hx), h.a0c, h.ne, by have := h.low; have := hc.size; omega, h.q, h.below.trans (hc.below (by have := h.low; omega) fun b hb => by rw [hb]; exact h.low.2.1)⟩, hc⟩
 · rw [lookL_set] at hy
   by_cases e : y = x
   · rw [if_pos e] at hy
     injection hy with hy
     subst e
     exact ⟨hy.symm, xs, cap, List.mem_cons_self, hr⟩
   · rw [if_neg e] at hy
     obtain ⟨a, ys, cap', b1, b2⟩ := hL y val hy
     exact ⟨a, ys, cap', List.mem_cons_of_mem _ b1, b2⟩
 · refine h.var.keep hc.size fun b ob hb hor => ent_chg hb hc fun e => ?_
   rcases hor with e2 | e2 | e2 | ⟨cs, e2⟩
   · exact h.ne.2.1 (e.symm.trans e2)
   · exact h.ne.2.2 (e.symm.trans e2)
   · exact h.ne.1 (e.symm.trans e2)
   · rw [e, hmo] at hb; injection hb with hb; rw [e2] at hb; cases hb
end Go.Proofs.YtcblppojnailpaaDoor
namespace Go.Proofs.YtcblppojnailpaaDoor
open Go Go.RowKit
set_option linter.unusedVariables false
set_option linter.unusedSimpArgs false
def EvL (c : EvC) (Q : LKey → Prop) (w1 : World) (F : List Nat) (M k : Nat) (ov : Value) (w : World) : Prop :=
 ∃ (seen : List (List Ux.Ty)) (fs : List Ux.Fr) (acc : List Nat) (vals : List Value), EvI c Q w1 seen fs acc vals ov w ∧ Ux.EV F seen fs acc ∧ (fs.map fun f => fwt f.2).sum ≤ k ∧ acc.length + k ≤ M
theorem fr_len (fs : List Ux.Fr) : fs.length ≤ (fs.map fun f => fwt f.2).sum := by
 induction fs with
 | nil => simp
 | cons x r ih => simp only [List.length_cons, List.map_cons, List.sum_cons]; unfold fwt at *; omega
theorem fwt_cons (x : Ux.Ty) (xs : List Ux.Ty) : fwt (x :: xs) = fwt xs + 2 * x.sz := by unfold fwt; simp only [List.map_cons, List.sum_cons]; omega
theorem fwt_a (nm : List UInt8) (xs : List Ux.Ty) : fwt xs + 1 = 2 * (Ux.Ty.a nm xs).sz := by rw [Ux.sz_a]; unfold fwt; rw [twice_sum]; omega
theorem evStart {lo b3 b4 mb : Nat} {Q : LKey → Prop} {t : Ux.Ty} {ki : Int} {si : ByteArray} {qi : Option Addr} {ni ci : Nat} {w : World} (hV : VarS lo b3 b4 mb w []) (ht : TyQ Q w (.agg #[.int .i64 ki, .string si, .slice qi ni ci]) t) (hq : ∀ x, Q x → x.1 < lo) :
 EvI ⟨lo, b3, b4, mb, w.heap.size + 1 + 1, w.heap.size + 1⟩ Q ((((w.alloc (.cells #[.int .i64 ki, .string si, .slice qi ni ci] 30)).alloc (.map #[] 0)).alloc (.cells #[.int .i64 ki, .string si, .slice qi ni ci] 30)).alloc (.cells #[.slice (some ⟨w.heap.size + 1 + 1, 0, none⟩) 1 1] 28)) [] [([t], [t])] [] [.slice (some ⟨w.heap.size + 1 + 1, 0, none⟩) 1 1] (.slice (some ⟨w.heap.size + 1 + 1 + 1, 0, none⟩) 1 1) ((((w.alloc (.cells #[.int .i64 ki, .string si, .slice qi ni ci] 30)).alloc (.map #[] 0)).alloc (.cells #[.int .i64 ki, .string si, .slice qi ni ci] 30)).alloc (.cells #[.slice (some ⟨w.heap.size + 1 + 1, 0, none⟩) 1 1] 28)) := by
 have hz1 : (w.alloc (.cells #[.int .i64 ki, .string si, .slice qi ni ci] 30)).heap.size = w.heap.size + 1 := by simp
 have hz2 : ((w.alloc (.cells #[.int .i64 ki, .string si, .slice qi ni ci] 30)).alloc (.map #[] 0)).heap.size = w.heap.size + 1 + 1 := by simp
 have hz3 : (((w.alloc (.cells #[.int .i64 ki, .string si, .slice qi ni ci] 30)).alloc (.map #[] 0)).alloc (.cells #[.int .i64 ki, .string si, .slice qi ni ci] 30)).heap.size = w.heap.size + 1 + 1 + 1 := by simp
 have hz4 : ((((w.alloc (.cells #[.int .i64 ki, .string si, .slice qi ni ci] 30)).alloc (.map #[] 0)).alloc (.cells #[.int .i64 ki, .string si, .slice qi ni ci] 30)).alloc (.cells #[.slice (some ⟨w.heap.size + 1 + 1, 0, none⟩) 1 1] 28)).heap.size = w.heap.size + 1 + 1 + 1 + 1 := by simp
 have hb1 : Below w.heap.size w (w.alloc (.cells #[.int .i64 ki, .string si, .slice qi ni ci] 30)) := (Below.refl _ _).alloc (Nat.le_refl _) _
 have hb2 : Below w.heap.size w ((w.alloc (.cells #[.int .i64 ki, .string si, .slice qi ni ci] 30)).alloc (.map #[] 0)) := hb1.alloc (by rw [hz1]; omega) _
 have hb3 : Below w.heap.size w (((w.alloc (.cells #[.int .i64 ki, .string si, .slice qi ni ci] 30)).alloc (.map #[] 0)).alloc (.cells #[.int .i64 ki, .string si, .slice qi ni ci] 30)) := hb2.alloc (by rw [hz2]; omega) _
 have hb : Below w.heap.size w ((((w.alloc (.cells #[.int .i64 ki, .string si, .slice qi ni ci] 30)).alloc (.map #[] 0)).alloc (.cells #[.int .i64 ki, .string si, .slice qi ni ci] 30)).alloc (.cells #[.slice (some ⟨w.heap.size + 1 + 1, 0, none⟩) 1 1] 28)) := hb3.alloc (by rw [hz3]; omega) _
 have hl4 : lo ≤ w.heap.size := by obtain ⟨_, _, _, _, _, _, l⟩ := hV; exact l
 have hlow : b3 < w.heap.size ∧ b4 < w.heap.size ∧ mb < w.heap.size := by
  obtain ⟨h1, ⟨lv, h2, _⟩, ⟨Lm, h4, _⟩, _⟩ := hV
  exact ⟨ent_lt h2, ent_lt h1, h4.lt⟩
 have ea : ((((w.alloc (.cells #[.int .i64 ki, .string si, .slice qi ni ci] 30)).alloc (.map #[] 0)).alloc (.cells #[.int .i64 ki, .string si, .slice qi ni ci] 30)).alloc (.cells #[.slice (some ⟨w.heap.size + 1 + 1, 0, none⟩) 1 1] 28)).heap[w.heap.size + 1 + 1]? = some (.cells #[.int .i64 ki, .string si, .slice qi ni ci] 30 (0, 0)) := by
  have h := ent_alloc (ent_new ((w.alloc (.cells #[.int .i64 ki, .string si, .slice qi ni ci] 30)).alloc (.map #[] 0)) #[.int .i64 ki, .string si, .slice qi ni ci] 30) (.cells #[.slice (some ⟨w.heap.size + 1 + 1, 0, none⟩) 1 1] 28)
  rw [hz2] at h; exact h
 have hmk : MapK encL (FreeQ Q) ((((w.alloc (.cells #[.int .i64 ki, .string si, .slice qi ni ci] 30)).alloc (.map #[] 0)).alloc (.cells #[.int .i64 ki, .string si, .slice qi ni ci] 30)).alloc (.cells #[.slice (some ⟨w.heap.size + 1 + 1, 0, none⟩) 1 1] 28)) (w.heap.size + 1) [] := by
  have h := (MapK.made (enc := encL) (V := FreeQ Q) (w.alloc (.cells #[.int .i64 ki, .string si, .slice qi ni ci] 30))).keep (w' := ((((w.alloc (.cells #[.int .i64 ki, .string si, .slice qi ni ci] 30)).alloc (.map #[] 0)).alloc (.cells #[.int .i64 ki, .string si, .slice qi ni ci] 30)).alloc (.cells #[.slice (some ⟨w.heap.size + 1 + 1, 0, none⟩) 1 1] 28))) ((Below.heap_alloc (((w.alloc (.cells #[.int .i64 ki, .string si, .slice qi ni ci] 30)).alloc (.map #[] 0)).alloc (.cells #[.int .i64 ki, .string si, .slice qi ni ci] 30)) _ _ (by rw [hz3, hz1]; omega)).trans (Below.heap_alloc ((w.alloc (.cells #[.int .i64 ki, .string si, .slice qi ni ci] 30)).alloc (.map #[] 0)) _ _ (by rw [hz2, hz1]; omega))) (fun x hx => ⟨hx.1, by
   obtain ⟨cs, T, e⟩ := hx.2
   exact ⟨cs, T, ent_alloc (ent_alloc e _) _⟩⟩)
  rw [hz1] at h; exact h
 have hown := World.ownsRow_lit (base := w.heap.size + 1 + 1 + 1) (e := 28) (size := 1) (((w.alloc (.cells #[.int .i64 ki, .string si, .slice qi ni ci] 30)).alloc (.map #[] 0)).alloc (.cells #[.int .i64 ki, .string si, .slice qi ni ci] 30)) #[.slice (some ⟨w.heap.size + 1 + 1, 0, none⟩) 1 1] 1 (by rw [hz3]; exact Nat.le_refl _) (by unfold maxLen; omega) rfl
 rw [hz3] at hown
 refine ⟨hown, fun i f hi => ?_, ⟨[], hmk, fun x val h => by cases h⟩, hV.below hb, fun x _ => rfl, ⟨_, ea⟩, ⟨?_, ?_, ?_⟩, ⟨?_, ?_, ?_, ?_, Nat.le_refl _⟩, hq, Below.refl _ _⟩
 · have hi0 : i = 0 := by have := (List.getElem?_eq_some_iff.1 hi).1; simp at this; omega
   subst hi0
   simp at hi
   subst hi
   refine ⟨_, rfl, .inr ⟨w.heap.size + 1 + 1, 0, 1, _, _, rfl, by simp, .inl rfl, Nat.le_refl _, by decide, ea, fun i y hy => ?_⟩⟩
   have hi0 : i = 0 := by have := (List.getElem?_eq_some_iff.1 hy).1; simp at this; omega
   subst hi0
   simp at hy
   subst hy
   exact ⟨_, tyQ_keep ht fun x hx => hb.block _ (by have := hq x hx; omega), rfl, fun j z hz => by rw [Nat.zero_mul, Nat.add_zero, Nat.zero_add]; exact hz⟩
 all_goals dsimp only; omega
set_option maxHeartbeats 4000000 in
set_option maxRecDepth 100000 in
theorem each_any (lo b3 b4 mb : Nat) (Q : LKey → Prop) (t : Ux.Ty) (v : Value) (w : World) (hV : VarS lo b3 b4 mb w []) (ht : TyQ Q w v t) (hq : ∀ x, Q x → x.1 < lo) (hsz : t.sz ≤ 10000000000) :
 Calls Tryd.prog 38 #[v, .func (.func 39) #[] #[.pointer (some ⟨b4, 0, none⟩), .pointer (some ⟨b3, 0, none⟩)]] w (fun e w' => e = .returned (.tuple #[]) ∧ ∃ acc, VarS lo b3 b4 mb w' acc ∧ Ux.firsts [] acc = Ux.varsT t ∧ Below lo w w') := by
 obtain ⟨ki, si, qi, ni, ci, rfl⟩ := tyQ_sh ht
 have HSZ := Lib.hid hsz
 have HI0 := Lib.hid (evStart hV ht hq)
 have hl4 : lo ≤ w.heap.size := by obtain ⟨_, _, _, _, _, _, l⟩ := hV; exact l
 have HL4 := Lib.hid hl4
 clear hV ht hq hsz hl4
 have hmm := @run_makeMap Tryd.prog
 go_enter Tryd.func38, Tryd.ntmps38
 go_upto_region 3 with fail
 clear hmm
 have HB0 := Lib.hid (show Below lo w ((((w.alloc (.cells #[.int .i64 ki, .string si, .slice qi ni ci] 30)).alloc (.map #[] 0)).alloc (.cells #[.int .i64 ki, .string si, .slice qi ni ci] 30)).alloc (.cells #[.slice (some ⟨w.heap.size + 1 + 1, 0, none⟩) 1 1] 28)) from ((((Below.refl lo w).alloc HL4.out _).alloc (by have := HL4.out; simp; omega) _).alloc (by have := HL4.out; simp; omega) _).alloc (by have := HL4.out; simp; omega) _)
 obtain ⟨c, hc⟩ : ∃ c : EvC, c = ⟨lo, b3, b4, mb, w.heap.size + 1 + 1, w.heap.size + 1⟩ := ⟨_, rfl⟩
 have HC := Lib.hid (show c.lo = lo ∧ c.b3 = b3 ∧ c.b4 = b4 ∧ c.mb = mb by rw [hc]; exact ⟨rfl, rfl, rfl, rfl⟩)
 have hcsb : w.heap.size + 1 = c.sb := by rw [hc]
 rw [← hc] at HI0
 clear hc
 generalize ((((w.alloc (.cells #[.int .i64 ki, .string si, .slice qi ni ci] 30)).alloc (.map #[] 0)).alloc (.cells #[.int .i64 ki, .string si, .slice qi ni ci] 30)).alloc (.cells #[.slice (some ⟨w.heap.size + 1 + 1, 0, none⟩) 1 1] 28)) = w1 at HI0 HB0 ⊢
 rw [hcsb] at HI0 ⊢
 have HL0 : Hid (EvL c Q w1 (Ux.varsT t) (2 * t.sz + 1) (2 * t.sz + 1) (.slice (some ⟨c.sb + 1 + 1, 0, none⟩) 1 1) w1) := Lib.hid ⟨_, _, _, _, HI0.out, Ux.EV.start t, by simp [fwt]; omega, by simp⟩
 clear HI0 hcsb
 go_loopg [5] (2 * t.sz + 1) (fun k ov wr => Hid (EvL c Q w1 (Ux.varsT t) (2 * t.sz + 1) k ov wr))
 case atStart => exact HL0
 case round =>
  clear HL0
  obtain ⟨seen, fs, acc, vals, hI, hE, hk, hM⟩ := hrel.out
  clear hrel
  have HI := Lib.hid hI; have HE := Lib.hid hE; have HK := Lib.hid hk; have HM := Lib.hid hM
  cases fs with
  | nil =>
    obtain ⟨p, cc, rfl⟩ := own_slice hI.own
    clear hI hE hk hM
    have l0 : ([] : List Ux.Fr).length = 0 := rfl
    rw [l0]
    go_wp2_with fail
    refine bodyPost_end (v := .tuple #[]) (by simp [results, Tryd.results38, go_sem]) rfl ?_
    have hc := HC.out
    have hv := HI.out.var
    rw [hc.1, hc.2.1, hc.2.2.1, hc.2.2.2] at hv
    have hb := HI.out.below
    rw [hc.1] at hb
    exact ⟨rfl, acc, hv, HE.out.done, HB0.out.trans hb⟩
  | cons f r =>
    obtain ⟨o, rest⟩ := f
    obtain ⟨g, cap, cur, q, cp, rfl, hcap, hcap2, hag, hgh, hcell, hval, hrow⟩ := hI.top
    have HROW := Lib.hid hrow; have HGH := Lib.hid hgh; have HAG := Lib.hid hag
    clear hI hE hk hM hrow hval
    have hfree := ent_free hgh
    obtain ⟨n0, hn0⟩ : ∃ n0, n0 = r.length := ⟨_, rfl⟩
    have HN0 := Lib.hid hn0
    rw [← hn0] at hcap hcell ⊢
    clear hn0 hgh hag
    have hcap1 : (n0 : Int) + 1 ≤ (cap : Int) := by omega
    dsimp only at hcell HROW
    cases rest with
    | nil =>
      have l0 : ([] : List Ux.Ty).length = 0 := rfl
      rw [l0] at hcell
      go_wp2_with fail
      clear hcell hfree
      go_roundg (gk - 1)
      case measure => have h := HK.out; simp only [List.map_cons, List.sum_cons] at h; unfold fwt at h; omega
      case rel =>
       have hp := HI.out.pop
       rw [← HN0.out] at hp
       exact Lib.hid ⟨_, _, _, _, hp, HE.out.pop, by have h := HK.out; simp only [List.map_cons, List.sum_cons] at h; unfold fwt at h ⊢; simp at h; omega, by have := HM.out; have h := HK.out; simp only [List.map_cons, List.sum_cons] at h; unfold fwt at h; omega⟩
    | cons x xs =>
      rw [List.length_cons] at hcell HROW
      rcases HROW.out with ⟨h0, _⟩ | ⟨gr, of, rc, cs, TT, hv, _, hqm, hrc, hrc2, hgr, hcells⟩
      · cases h0
      injection hv with e1 e2 e3
      subst e1; subst e3
      clear e2
      rw [List.length_cons] at hrc
      obtain ⟨ux, hux, _, hcx⟩ := hcells 0 x rfl
      obtain ⟨xi, xs0, xq, xn, xc, rfl⟩ := tyQ_sh hux
      have hqe : QE Q c.a0 (gr, of, 0) := hqm.imp id fun ⟨q, a, b⟩ => ⟨q, a, b⟩
      have HXC := Lib.hid (fun (w' : World) (h : w'.heap[gr]? = w1.heap[gr]?) => (⟨by rw [cell_of (h.trans hgr)]; simpa using hcx 0 (.int .i64 xi) rfl, by rw [cell_of (h.trans hgr)]; simpa using hcx 1 (.string xs0) rfl, by rw [cell_of (h.trans hgr)]; simpa using hcx 2 (.slice xq xn xc) rfl⟩ : w'.cell? ⟨gr, of, none⟩ = some (.int .i64 xi) ∧ w'.cell? ⟨gr, of + 1, none⟩ = some (.string xs0) ∧ w'.cell? ⟨gr, of + 2, none⟩ = some (.slice xq xn xc)))
      have HUX := Lib.hid hux
      obtain ⟨p9, hp9, hst⟩ := slice_tail gr of xs.length cp (by omega) hrc2
      have HST := Lib.hid hst
      have HRT := Lib.hid (rowQ_tail (c := c) rfl HROW.out hp9)
      have HSM := Lib.hid (HI.out.same _ hqe)
      obtain ⟨x0, x1, x2⟩ := HXC.out wr HSM.out
      clear hux hcx hcells hgr hst hp9 hqe hqm
      have hrl2 : (((xs.length + 1 : Nat) : Int) == 0) = false := by simp; omega
      have hr0 : (0 : Int) < ((xs.length + 1 : Nat) : Int) := by omega
      go_upto_region 8 with fail
      clear x0 x1 x2 hrl2 hr0
      have hba : Below wr.heap.size wr (wr.alloc (.cells #[.int .i64 xi, .string xs0, .slice xq xn xc] 30)) := (Below.refl _ _).alloc (Nat.le_refl _) _
      have HIa := Lib.hid (HI.out.grow hba)
      have ETa := Lib.hid (ent_new wr #[.int .i64 xi, .string xs0, .slice xq xn xc] 30)
      have HGa := Lib.hid (ent_below HGH.out hba)
      obtain ⟨tb, htb⟩ : ∃ tb, tb = wr.heap.size := ⟨_, rfl⟩
      have HTG := Lib.hid (show tb ≠ g by have := ent_lt HGH.out; omega)
      rw [← htb] at ETa ⊢
      have ha := ent_cell HGa.out n0 _ (by have := hcell; rw [cell_of HGH.out] at this; exact this)
      have hfa := ent_free HGa.out
      generalize (wr.alloc (.cells #[.int .i64 xi, .string xs0, .slice xq xn xc] 30)) = wa at HIa ETa HGa ha hfa ⊢
      clear hba htb hcell hfree HGH HI
      have hst := HST.out
      go_upto_region 9 with fail
      clear hst ha hfa
      have HIb := Lib.hid (show EvI c Q w1 seen ((o, xs) :: r) acc (vals.set r.length (.slice p9 xs.length (cp - 1))) (.slice (some ⟨g, 0, none⟩) (n0 + 1) cap) (wa.setCell ⟨g, n0, none⟩ (.slice p9 xs.length (cp - 1))) by
       rw [HN0.out]
       have h := HIa.out
       exact h.adv HRT.out HAG.out HGa.out)
      have ETb := Lib.hid (ent_other ETa.out g n0 (.slice p9 xs.length (cp - 1)) HTG.out)
      generalize wa.setCell ⟨g, n0, none⟩ (.slice p9 xs.length (cp - 1)) = wb at HIb ETb ⊢
      clear ETa HGa HIa
      generalize vals.set r.length (.slice p9 xs.length (cp - 1)) = vals2 at HIb
      have t0 := ent_cell ETb.out 0 _ rfl
      have t1 := ent_cell ETb.out 1 _ rfl
      have t2 := ent_cell ETb.out 2 _ rfl
      go_wp2_with fail
      refine (isVar_any _ _ _ _).mono ?_
      rintro e wc ⟨rfl, hbc⟩
      have HIc := Lib.hid (HIb.out.grow hbc)
      have ETc := Lib.hid (ent_below ETb.out hbc)
      clear hbc HIb ETb t0 t1 t2
      have t0 := ent_cell ETc.out 0 _ rfl
      have t1 := ent_cell ETc.out 1 _ rfl
      have t2 := ent_cell ETc.out 2 _ rfl
      cases x with
      | v n =>
        obtain ⟨_, _, _, _, hx⟩ := tyQ_v.1 HUX.out
        injection hx with hx
        simp at hx
        obtain ⟨rfl, _⟩ := hx
        have hdec : decide ((0 : Int) ≤ (n : Int)) = true := by simp
        rw [hdec]
        have hcf : ∀ args w, (callFunc 39 args).run Tryd.prog w = .ok (.enter 39 args) w := fun args w => by kernel_rfl
        have hfd := found_any c.lo c.b3 c.b4 c.mb n acc wc HIc.out.var (by have := HM.out; have := HSZ.out; omega)
        rw [HC.out.2.1, HC.out.2.2.1] at hfd
        have HFD := Lib.hid hfd
        clear hfd
        go_wp2_with fail
        refine HFD.out.mono ?_
        rintro e wd ⟨rfl, f1, f2, f3⟩
        have HId := Lib.hid (HIc.out.told (acc' := acc ++ [n]) (by rw [HC.out.2.1, HC.out.2.2.1]; exact f1) f2 (by rw [HC.out.2.1]; exact f3))
        clear f1 f2 f3 t0 t1 t2 hcf HFD
        go_wp2_with fail
        go_roundg (gk - 1)
        case measure => have h := HK.out; simp only [List.map_cons, List.sum_cons, fwt_cons] at h; unfold fwt at h; omega
        case rel => exact Lib.hid ⟨_, _, _, _, HId.out, HE.out.var, by have h := HK.out; have h2 := Ux.sz_pos (.v n); simp only [List.map_cons, List.sum_cons, fwt_cons] at h ⊢; omega, by have := HM.out; have h := HK.out; simp only [List.map_cons, List.sum_cons, fwt_cons] at h; unfold fwt at h; simp; omega⟩
      | a nm ys =>
        obtain ⟨kx, av, hkx, hx, hav⟩ := tyQ_a.1 HUX.out
        injection hx with hx
        simp at hx
        obtain ⟨rfl, rfl, rfl⟩ := hx
        have hdec : decide ((0 : Int) ≤ xi) = false := by simp; omega
        rw [hdec]
        by_cases hys : ys = []
        · subst hys
          obtain ⟨pz, cz, hz⟩ := hav.len
          have l0 : ([] : List Ux.Ty).length = 0 := rfl
          rw [l0] at hz
          injection hz with _ hz _
          subst hz
          clear hav
          go_wp2_with fail
          clear t0 t1 t2
          go_roundg (gk - 1)
          case measure => have h := HK.out; simp only [List.map_cons, List.sum_cons, fwt_cons] at h; unfold fwt at h; omega
          case rel => exact Lib.hid ⟨_, _, _, _, HIc.out, HE.out.skip (.inr rfl), by have h := HK.out; have h2 := Ux.sz_pos (.a nm []); simp only [List.map_cons, List.sum_cons, fwt_cons] at h ⊢; omega, by have := HM.out; have h := HK.out; simp only [List.map_cons, List.sum_cons, fwt_cons] at h; unfold fwt at h; omega⟩
        have hav2 := hav
        rcases hav2 with ⟨h0, _⟩ | ⟨g2, o2, c2, cs2, T2, hv2, _, hq2, hc2, hc22, _, _⟩
        · exact absurd h0 hys
        injection hv2 with e1 e2 e3
        subst e1; subst e2; subst e3
        have HAV := Lib.hid hav
        have HYS := Lib.hid hys
        have HQ2 := Lib.hid hq2
        have hpos := List.length_pos_iff.2 hys
        obtain ⟨m, hm⟩ : ∃ m, m = ys.length := ⟨_, rfl⟩
        rw [← hm] at hpos hc2 HAV HQ2 t2 ETc ⊢
        have HMM := Lib.hid hm
        clear hav hq2 hys hm
        have hp1 : (0 : Int) < (m : Int) := by omega
        go_upto_region 12 with fail
        go_wp2_with fail
        refine (listOf_any g2 o2 m xc hpos hc2 hc22 wc).mono ?_
        rintro e wd ⟨rfl, hbd⟩
        have HId := Lib.hid (HIc.out.grow hbd)
        have ETd := Lib.hid (ent_below ETc.out hbd)
        clear hbd HIc ETc t0 t1 t2
        obtain ⟨b, hbs, hlk⟩ := HId.out.look (g2, o2, m) HQ2.out HAV.out HYS.out
        replace hlk : (Instr.lookup 118 (.map (some c.sb)) (.agg #[.pointer (some ⟨g2, o2, none⟩), .int .i64 (m : Int)]) true).run Tryd.prog wd = .ok (.tuple #[.agg #[], .bool b]) wd := hlk
        have HBS := Lib.hid hbs
        clear hbs
        cases b with
        | true =>
          go_wp2_with fail
          clear hlk
          have hba : Below wd.heap.size wd (wd.alloc (.cells #[] 77)) := (Below.refl _ _).alloc (Nat.le_refl _) _
          have HIe := Lib.hid (HId.out.grow hba)
          go_roundg (gk - 1)
          case measure => have h := HK.out; simp only [List.map_cons, List.sum_cons, fwt_cons] at h; unfold fwt at h; omega
          case rel => exact Lib.hid ⟨_, _, _, _, HIe.out, HE.out.skip (.inl (HBS.out trivial)), by have h := HK.out; have h2 := Ux.sz_pos (.a nm ys); simp only [List.map_cons, List.sum_cons, fwt_cons] at h ⊢; omega, by have := HM.out; have h := HK.out; simp only [List.map_cons, List.sum_cons, fwt_cons] at h; unfold fwt at h; omega⟩
        | false =>
          go_upto_region 14 with fail
          clear hlk
          have hba : Below wd.heap.size wd (wd.alloc (.cells #[] 77)) := (Below.refl _ _).alloc (Nat.le_refl _) _
          have HIe := Lib.hid (HId.out.grow hba)
          have ETe := Lib.hid (ent_below ETd.out hba)
          generalize wd.alloc (.cells #[] 77) = we at HIe ETe ⊢
          clear hba HId ETd
          have t2 := ent_cell ETe.out 2 _ rfl
          go_wp2_with fail
          refine (listOf_any g2 o2 m xc hpos hc2 hc22 we).mono ?_
          rintro e wf ⟨rfl, hbf⟩
          have HIf := Lib.hid (HIe.out.grow hbf)
          have ETf := Lib.hid (ent_below ETe.out hbf)
          clear hbf HIe ETe t2
          obtain ⟨wg, hup, hig, hcg⟩ := HIf.out.mark (g2, o2, m) HQ2.out HAV.out HYS.out
          replace hup : (Instr.mapUpdate 118 (.map (some c.sb)) (.agg #[.pointer (some ⟨g2, o2, none⟩), .int .i64 (m : Int)]) (.agg #[])).run Tryd.prog wf = .ok () wg := hup
          have HIg := Lib.hid hig
          have ETg := Lib.hid (ent_chg ETf.out hcg (fun e => by obtain ⟨Ls, hm, _⟩ := HIf.out.seenm; obtain ⟨es, k, hmo⟩ := hm.obj; rw [← e, ETf.out] at hmo; cases hmo))
          clear hig hcg HIf ETf
          go_upto_region 15 with fail
          clear hup
          have t2 := ent_cell ETg.out 2 _ rfl
          have hog := HIg.out.own
          have hn0l : ((o, xs) :: r).length = n0 + 1 := by rw [List.length_cons, ← HN0.out]
          rw [hn0l] at hog
          have HOG := Lib.hid hog
          have hsg := HIg.out.low
          have hn0b : n0 + 1 ≤ 30000000000 := by
           have h1 := fr_len ((o, Ux.Ty.a nm ys :: xs) :: r)
           have h2 := HK.out
           have h3 := HM.out
           have h4 := HSZ.out
           rw [List.length_cons, ← HN0.out] at h1
           omega
          clear hog hn0l
          go_wp2_with (at_builtin; refine wpList_append_new eltFr wg rfl (.tmp 68) (.tmp 71) rfl (c.a0 + 1) (.slice (some ⟨g, 0, none⟩) (n0 + 1) cap) (n0 + 1) vals2 rfl HOG.out #[.slice (some ⟨g2, o2, none⟩) m xc] 28 rfl rfl (by intro u hu; rw [List.mem_singleton.1 hu]; rfl) (by omega) (by omega) ?_)
          intro v4 w4 ho4 hc4 hl4
          have HI4 := Lib.hid (HIg.out.push (xs := ys) (nv := .slice (some ⟨g2, o2, none⟩) m xc) (v' := v4) (by have h := HAV.out; exact h.mono (fun x hx => ⟨.inr ⟨x, hx, rfl⟩, rfl⟩) fun u x _ hu => hu) (by rw [List.length_cons, ← HN0.out]; exact ho4) hc4)
          obtain ⟨p4, c4, rfl⟩ := own_slice ho4
          clear ho4 hc4 hl4 t2 hsg hn0b
          go_wp2_with fail
          go_roundg (gk - 1)
          case measure => have h := HK.out; simp only [List.map_cons, List.sum_cons, fwt_cons] at h; unfold fwt at h; omega
          case rel => exact Lib.hid ⟨_, _, _, _, HI4.out, HE.out.push, by have h := HK.out; have h2 := fwt_a nm ys; simp only [List.map_cons, List.sum_cons, fwt_cons] at h ⊢; omega, by have := HM.out; have h := HK.out; simp only [List.map_cons, List.sum_cons, fwt_cons] at h; unfold fwt at h; omega⟩
end Go.Proofs.YtcblppojnailpaaDoor
namespace Go.Proofs.YtcblppojnailpaaDoor
open Go Go.RowKit
set_option linter.unusedVariables false
set_option linter.unusedSimpArgs false
set_option maxHeartbeats 4000000 in
set_option maxRecDepth 100000 in
theorem vars_any (t : Ux.Ty) (v : Value) (w : World) (ht : TyP w v t) (hsz : t.sz ≤ 10000000000) :
 Calls Tryd.prog 19 #[v] w (fun e w' => ∃ r, e = .returned r ∧ Below w.heap.size w w' ∧ New NumsR w w' r (Ux.varsT t)) := by
 obtain ⟨ki, si, qi, ni, ci, rfl⟩ := tyP_sh ht
 obtain ⟨U, h1, _, h3⟩ := tyP_Q t _ ht
 have HU := Lib.hid h1
 have HQ := Lib.hid (show ∀ x, x ∈ U → x.1 < w.heap.size from fun x hx => by obtain ⟨cs, T, e⟩ := h3 x hx; exact ent_lt e)
 have HSZ := Lib.hid hsz
 clear ht h1 h3 hsz
 have hmm := @run_makeMap Tryd.prog
 go_enter Tryd.func19, Tryd.ntmps19
 go_upto_region 3 with fail
 clear hmm
 have hz1 : (w.alloc (.cells #[.int .i64 ki, .string si, .slice qi ni ci] 30)).heap.size = w.heap.size + 1 := by simp
 have hz2 : ((w.alloc (.cells #[.int .i64 ki, .string si, .slice qi ni ci] 30)).alloc (.cells #[.slice none 0 0] 42)).heap.size = w.heap.size + 1 + 1 := by simp
 have hz3 : (((w.alloc (.cells #[.int .i64 ki, .string si, .slice qi ni ci] 30)).alloc (.cells #[.slice none 0 0] 42)).alloc (.map #[] 0)).heap.size = w.heap.size + 1 + 1 + 1 := by simp
 have hz4 : ((((w.alloc (.cells #[.int .i64 ki, .string si, .slice qi ni ci] 30)).alloc (.cells #[.slice none 0 0] 42)).alloc (.map #[] 0)).alloc (.cells #[.map (some (w.heap.size + 1 + 1))] 75)).heap.size = w.heap.size + 1 + 1 + 1 + 1 := by simp
 have hb1 : Below w.heap.size w (w.alloc (.cells #[.int .i64 ki, .string si, .slice qi ni ci] 30)) := (Below.refl _ _).alloc (Nat.le_refl _) _
 have hb2 : Below w.heap.size w ((w.alloc (.cells #[.int .i64 ki, .string si, .slice qi ni ci] 30)).alloc (.cells #[.slice none 0 0] 42)) := hb1.alloc (by rw [hz1]; omega) _
 have hb3 : Below w.heap.size w (((w.alloc (.cells #[.int .i64 ki, .string si, .slice qi ni ci] 30)).alloc (.cells #[.slice none 0 0] 42)).alloc (.map #[] 0)) := hb2.alloc (by rw [hz2]; omega) _
 have hb : Below w.heap.size w ((((w.alloc (.cells #[.int .i64 ki, .string si, .slice qi ni ci] 30)).alloc (.cells #[.slice none 0 0] 42)).alloc (.map #[] 0)).alloc (.cells #[.map (some (w.heap.size + 1 + 1))] 75)) := hb3.alloc (by rw [hz3]; omega) _
 have e1 := ent_alloc (ent_alloc (ent_alloc (ent_new w #[.int .i64 ki, .string si, .slice qi ni ci] 30) (.cells #[.slice none 0 0] 42)) (.map #[] 0)) (.cells #[.map (some (w.heap.size + 1 + 1))] 75)
 have e2 := ent_alloc (ent_alloc (ent_new (w.alloc (.cells #[.int .i64 ki, .string si, .slice qi ni ci] 30)) #[.slice none 0 0] 42) (.map #[] 0)) (.cells #[.map (some (w.heap.size + 1 + 1))] 75)
 rw [hz1] at e2
 have e3 := (MapK.made (enc := encInt) (V := fun _ _ => True) ((w.alloc (.cells #[.int .i64 ki, .string si, .slice qi ni ci] 30)).alloc (.cells #[.slice none 0 0] 42))).keep (w' := ((((w.alloc (.cells #[.int .i64 ki, .string si, .slice qi ni ci] 30)).alloc (.cells #[.slice none 0 0] 42)).alloc (.map #[] 0)).alloc (.cells #[.map (some (w.heap.size + 1 + 1))] 75))) (Below.heap_alloc (((w.alloc (.cells #[.int .i64 ki, .string si, .slice qi ni ci] 30)).alloc (.cells #[.slice none 0 0] 42)).alloc (.map #[] 0)) _ _ (by rw [hz3, hz2]; omega)) fun _ _ => trivial
 rw [hz2] at e3
 have e4 := ent_new (((w.alloc (.cells #[.int .i64 ki, .string si, .slice qi ni ci] 30)).alloc (.cells #[.slice none 0 0] 42)).alloc (.map #[] 0)) #[.map (some (w.heap.size + 1 + 1))] 75
 rw [hz3] at e4
 have HV : Hid (VarS w.heap.size (w.heap.size + 1) (w.heap.size + 1 + 1 + 1) (w.heap.size + 1 + 1) ((((w.alloc (.cells #[.int .i64 ki, .string si, .slice qi ni ci] 30)).alloc (.cells #[.slice none 0 0] 42)).alloc (.map #[] 0)).alloc (.cells #[.map (some (w.heap.size + 1 + 1))] 75)) []) := Lib.hid ⟨e4, ⟨_, e2, own_none _ _ _ _ (by rw [hz4]; omega)⟩, ⟨[], e3, fun n => by simp [lookL_nil]⟩, by omega, by omega, by omega, by rw [hz4]; omega⟩
 have HT := Lib.hid (tyQ_keep HU.out fun x hx => hb.block _ (HQ.out x hx))
 have HB := Lib.hid hb
 have HZ := Lib.hid hz4
 have E1 := Lib.hid e1
 clear hz1 hz2 hz3 hz4 hb1 hb2 hb3 hb e1 e2 e3 e4
 generalize ((((w.alloc (.cells #[.int .i64 ki, .string si, .slice qi ni ci] 30)).alloc (.cells #[.slice none 0 0] 42)).alloc (.map #[] 0)).alloc (.cells #[.map (some (w.heap.size + 1 + 1))] 75)) = w1 at HV HT HB HZ E1 ⊢
 have t0 := ent_cell E1.out 0 _ rfl
 have t1 := ent_cell E1.out 1 _ rfl
 have t2 := ent_cell E1.out 2 _ rfl
 go_wp2_with fail
 refine (each_any w.heap.size (w.heap.size + 1) (w.heap.size + 1 + 1 + 1) (w.heap.size + 1 + 1) (· ∈ U) t _ w1 HV.out HT.out HQ.out HSZ.out).mono ?_
 rintro e w2 ⟨rfl, acc, hv, hf, hb2⟩
 obtain ⟨v1, ⟨lv, v2, v3⟩, v4, _⟩ := hv
 obtain ⟨lp, lc, rfl⟩ := own_slice v3
 rw [hf] at v2 v3
 have c0 := ent_cell v2 0 _ rfl
 have HO := Lib.hid v3
 have HB2 := Lib.hid (HB.out.trans hb2)
 clear v1 v2 v3 v4 hf hb2 t0 t1 t2
 go_wp2_with fail
 go_ret
 refine ⟨_, rfl, HB2.out, fun u hu => nums_row HO.out rfl fun b hb1 hb2 => hu b hb1 hb2⟩
end Go.Proofs.YtcblppojnailpaaDoor
namespace Go.Proofs.YtcblppojnailpaaDoor
open Go Go.RowKit
set_option linter.unusedVariables false
set_option linter.unusedSimpArgs false
/-- The numbers that variables get. -/
def numOf (l : List Nat) (n : Nat) : Nat := if n ∈ l then l.idxOf n else 0
/-- The closure's map, as far as j. -/
def CnS (b3 nb : Nat) (l : List Nat) (w : World) : Prop := w.heap[b3]? = some (.cells #[.map (some nb)] 80 (0, 0)) ∧ ∃ Lm, MapK encInt (fun _ _ => True) w nb Lm ∧ ∀ n : Nat, lookL (n : Int) Lm = if n ∈ l then some (.int .i64 (l.idxOf n : Nat)) else none
theorem CnS.keep {b3 nb : Nat} {l : List Nat} {w w' : World} (h : CnS b3 nb l w) (h1 : w'.heap[b3]? = w.heap[b3]?) (h2 : w'.heap[nb]? = w.heap[nb]?) : CnS b3 nb l w' := by
 obtain ⟨a, Lm, b, c⟩ := h
 exact ⟨h1.trans a, Lm, b.keep h2 fun _ _ => trivial, c⟩
theorem CnS.lt {b3 nb : Nat} {l : List Nat} {w : World} (h : CnS b3 nb l w) : b3 < w.heap.size ∧ nb < w.heap.size := by
 obtain ⟨a, Lm, b, c⟩ := h
 exact ⟨ent_lt a, b.lt⟩
set_option maxHeartbeats 4000000 in
set_option maxRecDepth 100000 in
theorem canonLook_any (b3 nb n : Nat) (l : List Nat) (w : World) (h : CnS b3 nb l w) :
 Calls Tryd.prog 40 #[.int .i64 (n : Int), .pointer (some ⟨b3, 0, none⟩)] w (fun e w' => e = .returned (.agg #[.int .i64 (numOf l n : Nat), .string ⟨#[]⟩, .slice none 0 0]) ∧ Below w.heap.size w w') := by
 have hlk : ∀ u, Below w.heap.size w u → (Instr.lookup 80 (.map (some nb)) (.int .i64 (n : Int)) false).run Tryd.prog u = .ok (.int .i64 (numOf l n : Nat)) u := fun u hu => by
  obtain ⟨_, Lm, h4, h5⟩ := h.keep (hu.block _ h.lt.1) (hu.block _ h.lt.2)
  have h3 := (h4.look lawI Tryd.underlying80 (z := .int .i64 0) (by kernel_rfl) (n : Int) trivial).1
  rw [h5 n] at h3
  unfold numOf
  by_cases hn : n ∈ l
  · rw [if_pos hn] at h3 ⊢; exact h3
  · rw [if_neg hn] at h3 ⊢; exact h3
 have E3 := Lib.hid h.1
 clear h
 go_enter Tryd.func40, Tryd.ntmps40
 have ER := Lib.hid (ent_new w #[.int .i64 0, .string ⟨#[]⟩, .slice none 0 0] 30)
 have hb : Below w.heap.size w (w.alloc (.cells #[.int .i64 0, .string ⟨#[]⟩, .slice none 0 0] 30)) := (Below.refl _ _).alloc (Nat.le_refl _) _
 have HB := Lib.hid hb
 have hl := hlk _ hb
 have c0 := ent_cell (ent_below E3.out hb) 0 _ rfl
 clear hb hlk
 obtain ⟨K, hK⟩ : ∃ K, K = numOf l n := ⟨_, rfl⟩
 rw [← hK] at hl ⊢
 clear hK
 go_upto_region 1 with fail
 generalize w.alloc (.cells #[.int .i64 0, .string ⟨#[]⟩, .slice none 0 0] 30) = w1 at ER HB hl c0 ⊢
 go_wp2_with fail
 refine (var_any (K : Int) w1).mono ?_
 rintro e w2 ⟨rfl, hb2⟩
 have ER2 := Lib.hid (ent_below ER.out hb2)
 have HB2 := Lib.hid (HB.out.trans (hb2.mono HB.out.size))
 clear hb2 hl c0
 have r0 := ent_cell ER2.out 0 _ rfl
 have r1 := ent_cell ER2.out 1 _ rfl
 have r2 := ent_cell ER2.out 2 _ rfl
 have rf := ent_free ER2.out
 go_wp2_with fail
 clear r0 r1 r2 rf
 have ER3 := ent_set3 ER2.out (.int .i64 (K : Int)) (.string ⟨#[]⟩) (.slice none 0 0)
 have r0 := ent_cell ER3 0 _ rfl
 have r1 := ent_cell ER3 1 _ rfl
 have r2 := ent_cell ER3 2 _ rfl
 refine bodyPost_ret (v := .agg #[.int .i64 (K : Int), .string ⟨#[]⟩, .slice none 0 0]) (by simp [results, Tryd.results40, go_sem, r0, r1, r2]) rfl ?_
 exact ⟨rfl, below_set3 HB2.out w.heap.size (Nat.le_refl _) _ _ _⟩
/-- What looks for a variable's number, for the maker. -/
theorem lookC_canon {Q : LKey → Prop} {l : List Nat} {L0 mb db b3 nb : Nat} (h1 : b3 < L0 ∧ nb < L0 ∧ mb < L0 ∧ db < L0) (h2 : b3 ≠ mb ∧ nb ≠ mb ∧ b3 ≠ db ∧ nb ≠ db) (hq : ∀ x, Q x → x.1 < L0 ∧ x.1 ≠ mb ∧ x.1 ≠ db) :
 LookC Q (fun n => .v (numOf l n)) L0 mb db (fun _ => False) 40 #[.pointer (some ⟨b3, 0, none⟩)] (fun w => CnS b3 nb l w) := by
 refine ⟨enters_of Tryd.func40 (by kernel_rfl) rfl, fun w n hI hL => ?_, fun w w' hI hc => ?_, fun b hb => hb.elim, fun x hx => ⟨(hq x hx).1, (hq x hx).2.1, (hq x hx).2.2, fun h => h⟩, by omega⟩
 · refine (canonLook_any b3 nb n l w hI).mono ?_
   rintro e w' ⟨rfl, hb⟩
   exact ⟨_, .v (numOf l n), rfl, rfl, tyQ_v.2 ⟨_, _, _, _, rfl⟩, hI.keep (hb.block _ hI.lt.1) (hb.block _ hI.lt.2), .of_below hb⟩
 · exact hI.keep (hc.block _ hI.lt.1 (by omega)) (hc.block _ hI.lt.2 (by omega))
theorem canon_num (t : Ux.Ty) : t.app (fun n => .v (numOf (Ux.varsT t) n)) = Ux.canon t := by
 unfold Ux.canon
 exact Ux.app_congr t fun n hn => by unfold numOf; rw [if_pos ((Ux.varsT_mem t n).2 hn)]
set_option maxHeartbeats 4000000 in
set_option maxRecDepth 100000 in
theorem canonP_any (t : Ux.Ty) (v : Value) (w : World) (ht : TyP w v t) (hsz : t.sz ≤ 10000000000) :
 Calls Tryd.prog 21 #[v] w (fun e w' => ∃ r, e = .returned r ∧ Below w.heap.size w w' ∧ TyP w' r (Ux.canon t)) := by
 obtain ⟨ti, ts, tq, tn, tc, rfl⟩ := tyP_sh ht
 obtain ⟨U, hu1, _, hu3⟩ := tyP_Q t _ ht
 have HT := Lib.hid ht
 have HTQ := Lib.hid hu1
 have HU := Lib.hid (show ∀ x, x ∈ U → x.1 < w.heap.size from fun x hx => by obtain ⟨cs, T, e⟩ := hu3 x hx; exact ent_lt e)
 have HSZ := Lib.hid hsz
 clear ht hu1 hu3 hsz
 have hmm := @run_makeMap Tryd.prog
 go_enter Tryd.func21, Tryd.ntmps21
 go_upto_region 2 with fail
 clear hmm
 have hz1 : (w.alloc (.cells #[.int .i64 ti, .string ts, .slice tq tn tc] 30)).heap.size = w.heap.size + 1 := by simp
 have hz2 : ((w.alloc (.cells #[.int .i64 ti, .string ts, .slice tq tn tc] 30)).alloc (.cells #[.int .i64 0, .string ⟨#[]⟩, .slice none 0 0] 30)).heap.size = w.heap.size + 1 + 1 := by simp
 have hz3 : (((w.alloc (.cells #[.int .i64 ti, .string ts, .slice tq tn tc] 30)).alloc (.cells #[.int .i64 0, .string ⟨#[]⟩, .slice none 0 0] 30)).alloc (.map #[] 0)).heap.size = w.heap.size + 1 + 1 + 1 := by simp
 have hz4 : ((((w.alloc (.cells #[.int .i64 ti, .string ts, .slice tq tn tc] 30)).alloc (.cells #[.int .i64 0, .string ⟨#[]⟩, .slice none 0 0] 30)).alloc (.map #[] 0)).alloc (.cells #[.map (some (w.heap.size + 1 + 1))] 80)).heap.size = w.heap.size + 1 + 1 + 1 + 1 := by simp
 have hb1 : Below w.heap.size w (w.alloc (.cells #[.int .i64 ti, .string ts, .slice tq tn tc] 30)) := (Below.refl _ _).alloc (Nat.le_refl _) _
 have hb2 : Below w.heap.size w ((w.alloc (.cells #[.int .i64 ti, .string ts, .slice tq tn tc] 30)).alloc (.cells #[.int .i64 0, .string ⟨#[]⟩, .slice none 0 0] 30)) := hb1.alloc (by rw [hz1]; omega) _
 have hb3 : Below w.heap.size w (((w.alloc (.cells #[.int .i64 ti, .string ts, .slice tq tn tc] 30)).alloc (.cells #[.int .i64 0, .string ⟨#[]⟩, .slice none 0 0] 30)).alloc (.map #[] 0)) := hb2.alloc (by rw [hz2]; omega) _
 have hb : Below w.heap.size w ((((w.alloc (.cells #[.int .i64 ti, .string ts, .slice tq tn tc] 30)).alloc (.cells #[.int .i64 0, .string ⟨#[]⟩, .slice none 0 0] 30)).alloc (.map #[] 0)).alloc (.cells #[.map (some (w.heap.size + 1 + 1))] 80)) := hb3.alloc (by rw [hz3]; omega) _
 have e1 := ent_alloc (ent_alloc (ent_alloc (ent_new w #[.int .i64 ti, .string ts, .slice tq tn tc] 30) (.cells #[.int .i64 0, .string ⟨#[]⟩, .slice none 0 0] 30)) (.map #[] 0)) (.cells #[.map (some (w.heap.size + 1 + 1))] 80)
 have e2 := ent_alloc (ent_alloc (ent_new (w.alloc (.cells #[.int .i64 ti, .string ts, .slice tq tn tc] 30)) #[.int .i64 0, .string ⟨#[]⟩, .slice none 0 0] 30) (.map #[] 0)) (.cells #[.map (some (w.heap.size + 1 + 1))] 80)
 rw [hz1] at e2
 have e3 := (MapK.made (enc := encInt) (V := fun _ _ => True) ((w.alloc (.cells #[.int .i64 ti, .string ts, .slice tq tn tc] 30)).alloc (.cells #[.int .i64 0, .string ⟨#[]⟩, .slice none 0 0] 30))).keep (w' := ((((w.alloc (.cells #[.int .i64 ti, .string ts, .slice tq tn tc] 30)).alloc (.cells #[.int .i64 0, .string ⟨#[]⟩, .slice none 0 0] 30)).alloc (.map #[] 0)).alloc (.cells #[.map (some (w.heap.size + 1 + 1))] 80))) (Below.heap_alloc (((w.alloc (.cells #[.int .i64 ti, .string ts, .slice tq tn tc] 30)).alloc (.cells #[.int .i64 0, .string ⟨#[]⟩, .slice none 0 0] 30)).alloc (.map #[] 0)) _ _ (by rw [hz3, hz2]; omega)) fun _ _ => trivial
 rw [hz2] at e3
 have e4 := ent_new (((w.alloc (.cells #[.int .i64 ti, .string ts, .slice tq tn tc] 30)).alloc (.cells #[.int .i64 0, .string ⟨#[]⟩, .slice none 0 0] 30)).alloc (.map #[] 0)) #[.map (some (w.heap.size + 1 + 1))] 80
 rw [hz3] at e4
 have ET := Lib.hid e1; have ER := Lib.hid e2; have E3 := Lib.hid e4; have HMK := Lib.hid e3
 have HB := Lib.hid hb; have HZ := Lib.hid hz4
 clear hz1 hz2 hz3 hz4 hb1 hb2 hb3 hb e1 e2 e3 e4
 generalize ((((w.alloc (.cells #[.int .i64 ti, .string ts, .slice tq tn tc] 30)).alloc (.cells #[.int .i64 0, .string ⟨#[]⟩, .slice none 0 0] 30)).alloc (.map #[] 0)).alloc (.cells #[.map (some (w.heap.size + 1 + 1))] 80)) = w1 at ET ER E3 HMK HB HZ ⊢
 obtain ⟨b2, hb2⟩ : ∃ b, b = w.heap.size + 1 := ⟨_, rfl⟩
 obtain ⟨nb, hnb⟩ : ∃ b, b = w.heap.size + 1 + 1 := ⟨_, rfl⟩
 obtain ⟨b3, hb3⟩ : ∃ b, b = w.heap.size + 1 + 1 + 1 := ⟨_, rfl⟩
 rw [← hb3] at E3 ⊢
 rw [← hnb] at E3 HMK ⊢
 rw [← hb2] at ER ⊢
 have HBS := Lib.hid (show b2 = w.heap.size + 1 ∧ nb = w.heap.size + 2 ∧ b3 = w.heap.size + 3 ∧ w1.heap.size = w.heap.size + 4 by have := HZ.out; omega)
 clear hb2 hnb hb3 HZ
 have t0 := ent_cell ET.out 0 _ rfl
 have t1 := ent_cell ET.out 1 _ rfl
 have t2 := ent_cell ET.out 2 _ rfl
 go_wp2_with fail
 refine (vars_any t _ w1 (tyP_below HT.out HB.out) HSZ.out).mono ?_
 rintro e w2 ⟨rv, rfl, hbv, hnew⟩
 obtain ⟨lp, lc, rfl⟩ := hnew.now.len
 obtain ⟨l, hl⟩ : ∃ l, l = Ux.varsT t := ⟨_, rfl⟩
 rw [← hl] at hnew ⊢
 have HL := Lib.hid hl
 have hll : l.length ≤ 10000000000 := by
  have h1 := firsts_len t.vs []
  have h2 := vs_len t
  have h3 := HSZ.out
  rw [hl]; unfold Ux.varsT; simp at h1; omega
 obtain ⟨n0, hn0⟩ : ∃ n0, n0 = l.length := ⟨_, rfl⟩
 rw [← hn0] at hnew hll ⊢
 have HN0 := Lib.hid hn0
 have HNL := Lib.hid (show ∀ u : World, (∀ b, w1.heap.size ≤ b → b < w2.heap.size → u.heap[b]? = w2.heap[b]?) → NumsR u (.slice lp n0 lc) l from hnew)
 have HB2 := Lib.hid (HB.out.trans (hbv.mono HB.out.size))
 have HS2 := Lib.hid hbv.size
 have ET2 := Lib.hid (ent_below ET.out hbv); have ER2 := Lib.hid (ent_below ER.out hbv); have E32 := Lib.hid (ent_below E3.out hbv)
 have HM2 : Hid (∃ Lm, MapK encInt (fun _ _ => True) w2 nb Lm ∧ ∀ n : Nat, lookL (n : Int) Lm = if n ∈ l.take 0 then some (.int .i64 (l.idxOf n : Nat)) else none) := Lib.hid ⟨[], HMK.out.keep (hbv.block _ HMK.out.lt) (fun _ _ => trivial), fun n => by simp [lookL_nil]⟩
 clear hbv hnew hl hn0 ET ER E3 HMK t0 t1 t2
 go_wp2_with fail
 go_loopw [10] (fun i wr => ∃ j : Nat, i = .int .i64 j ∧ j ≤ n0 ∧ Hid (Chg (· = nb) w2 wr) ∧ Hid (∃ Lm, MapK encInt (fun _ _ => True) wr nb Lm ∧ ∀ n : Nat, lookL (n : Int) Lm = if n ∈ l.take j then some (.int .i64 (l.idxOf n : Nat)) else none)) (fun i _ => n0 - (intOf i).toNat)
 case atStart => exact ⟨0, rfl, Nat.zero_le _, Lib.hid (.refl _ _), HM2⟩
 case round =>
  clear HM2
  obtain ⟨j, rfl, hj, HC, HM⟩ := hrel
  have hs2 := HC.out.size
  by_cases hlt : j < n0
  · obtain ⟨x, hx⟩ : ∃ x, l[j]? = some x := ⟨_, List.getElem?_eq_getElem (by have := HN0.out; omega)⟩
    have hnr := HNL.out wr fun b h1 h2 => HC.out.block b h2 (by have := HBS.out; omega)
    obtain ⟨g, of, lc', hlv, hlc, hlc2⟩ := nums_some hnr (by intro e; rw [e] at hx; cases hx)
    injection hlv with e1 ex e2
    clear ex
    subst e1; subst e2
    rw [← HN0.out] at hlc
    have x0 := nums_cell hnr hx
    have HX := Lib.hid hx
    have HIX : Hid (l.idxOf x = j) := Lib.hid (by
     have h := Ux.idxOf_get (l := l) (by rw [HL.out]; exact Ux.varsT_nodup t) (k := j) (by have := HN0.out; omega)
     rwa [List.getD_eq_getElem?_getD, hx] at h)
    have hj1 : (j : Int) < (n0 : Int) := by omega
    have hj2 : (n0 : Int) ≤ (lc : Int) := by omega
    have hj3 : (j : Int) ≤ 10000000000 := by omega
    have c3 := ent_cell (ent_chg E32.out HC.out (by have := HBS.out; omega)) 0 _ rfl
    obtain ⟨Lm, hmk, hlk⟩ := HM.out
    obtain ⟨w3, hup, hmk3, hgr3⟩ := hmk.update lawI Tryd.underlying80 (x : Int) trivial (.int .i64 (j : Int)) (fun _ _ _ _ _ => trivial)
    replace hup : (Instr.mapUpdate 80 (.map (some nb)) (.int .i64 (x : Int)) (.int .i64 (j : Int))).run Tryd.prog wr = .ok () w3 := hup
    have HC3 := Lib.hid (HC.out.trans (show Chg (· = nb) wr w3 from Chg.grown hgr3 fun k hk => (Option.some.inj hk).symm))
    have HM3 : Hid (∃ Lm, MapK encInt (fun _ _ => True) w3 nb Lm ∧ ∀ n : Nat, lookL (n : Int) Lm = if n ∈ l.take (j + 1) then some (.int .i64 (l.idxOf n : Nat)) else none) := Lib.hid ⟨_, hmk3, fun n => by
     rw [lookL_set, List.take_add_one, HX.out]
     by_cases e : n = x
     · rw [if_pos (by omega), if_pos (by simp [e]), e, HIX.out]
     · rw [if_neg (by omega), hlk n]
       by_cases h : n ∈ l.take j
       · rw [if_pos h, if_pos (List.mem_append.2 (.inl h))]
       · rw [if_neg h, if_neg (fun h2 => (List.mem_append.1 h2).elim h fun h3 => e (by simpa using h3))]⟩
    clear hmk hlk hmk3 hgr3 hnr hx
    go_wp2_with fail
    clear hup x0 c3
    go_roundw
    case rel => exact ⟨j + 1, by go_num, by omega, HC3, HM3⟩
    case measure => simp [intOf]; omega
  · obtain rfl : j = n0 := by omega
    have HCN : Hid (CnS b3 nb l wr) := Lib.hid ⟨ent_chg E32.out HC.out (by have := HBS.out; omega), by
     obtain ⟨Lm, h1, h2⟩ := HM.out
     exact ⟨Lm, h1, fun n => by rw [h2 n, HN0.out, List.take_length]⟩⟩
    have HBr := Lib.hid (HB2.out.trans (HC.out.below HB2.out.size fun k hk => by have := HBS.out; omega))
    have ETr := Lib.hid (ent_chg ET2.out HC.out (by have := HBS.out; omega)); have ERr := Lib.hid (ent_chg ER2.out HC.out (by have := HBS.out; omega))
    have HSr := Lib.hid (show w.heap.size + 4 ≤ wr.heap.size by have := HBS.out; have := HS2.out; omega)
    clear HC HM hs2 hlt hj HNL
    go_upto_region 7 with fail
    refine wp_region_held_drew (S := fun (u : World) => Chg (· = b2) wr.drew u) (by kernel_rfl) (Chg.refl _ _) (fun hHeld => ?_)
    have ETD := Lib.hid (show wr.drew.heap[w.heap.size]? = some (.cells #[.int .i64 ti, .string ts, .slice tq tn tc] 30 (0, 0)) from ETr.out)
    have ERD := Lib.hid (show wr.drew.heap[b2]? = some (.cells #[.int .i64 0, .string ⟨#[]⟩, .slice none 0 0] 30 (0, 0)) from ERr.out)
    have HCD : Hid (CnS b3 nb l wr.drew) := Lib.hid HCN.out
    have HBD := Lib.hid (show Below w.heap.size w wr.drew from HBr.out.drew)
    have HSD := Lib.hid (show w.heap.size + 4 ≤ wr.drew.heap.size from HSr.out)
    generalize wr.drew = wd at ETD ERD HCD HBD HSD hHeld ⊢
    refine wpAnyH_take (i := 0) (v := .func (.func 40) #[] #[.pointer (some ⟨b3, 0, none⟩)]) rfl (by kernel_rfl) (by kernel_rfl) (by kernel_rfl) (fun _ _ _ h => h) (Or.inl ⟨by rfl, fun w' hSw => by go_simp⟩) hHeld ?_
    refine wpAnyH_take (i := 2) (v := .agg #[.int .i64 ti, .string ts, .slice tq tn tc]) rfl (by kernel_rfl) (by kernel_rfl) (by kernel_rfl) (fun _ _ _ h => h) (Or.inl ⟨by rfl, fun w' hSw => by have h := ent_chg ETD.out hSw (by have := HBS.out; omega); have t0 := ent_cell h 0 _ rfl; have t1 := ent_cell h 1 _ rfl; have t2 := ent_cell h 2 _ rfl; go_simp⟩) hHeld ?_
    try simp only [Act.put, List.getElem_toArray, List.getElem_cons_succ, List.getElem_cons_zero, List.setIfInBounds_toArray, List.set_cons_zero, List.set_cons_succ]
    refine wpAnyH_ready (rs := [1]) (by kernel_rfl) (by simp) ?_
    refine AllReadyH.cons rfl (fun K hK => ?_) AllReadyH.nil
    go_simp
    refine (newMaker_any (· ∈ U) (fun n => .v (numOf l n)) _ _ wd).mono ?_
    rintro e wB ⟨mb, db, rfl, hbB, hmb, hdb, hmk⟩
    have HBB := Lib.hid hbB
    have HMK := Lib.hid hmk
    clear hbB hmk
    refine hK.out _ _ (.of_below HBB.out) (fun hHeld => ?_)
    clear hK K
    refine wpAnyH_ready (rs := [3]) (by kernel_rfl) (by simp) ?_
    refine AllReadyH.cons rfl (fun K hK => ?_) AllReadyH.nil
    go_simp
    have hmd : mb < wB.heap.size ∧ db < wB.heap.size := ⟨ent_lt HMK.out.cell, by obtain ⟨L, h4, _⟩ := HMK.out.made; exact h4.lt⟩
    have hsB := HBB.out.size
    have hclt := HCD.out.lt
    have hbs := HBS.out
    have hsd := HSD.out
    refine (mkTyp_any (· ∈ U) (fun n => .v (numOf l n)) mb db (fun _ => False) _ _ (fun u => CnS b3 nb l u) (fun _ => none) 0 t _ wB (lookC_canon (by omega) (by omega) (fun x hx => by have := HU.out x hx; omega)) (HCD.out.keep (HBB.out.block _ hclt.1) (HBB.out.block _ hclt.2)) HMK.out (fun B ys h => by cases h) (fun B ys h => by cases h) (tyQ_keep HTQ.out fun x hx => (HBB.out.block _ (by have := HU.out x hx; omega)).trans (HBD.out.block _ (HU.out x hx))) (by rw [show (t.app fun n => .v (numOf l n)).sz = t.sz from Ux.sz_ren _ t]; have := HSZ.out; omega)).mono ?_
    rintro e wC ⟨r, c, n', rfl, hright, hmw, hmm, _⟩
    have htq := right_ty (fun B ys h => by have := hmm B ys h; rw [posOf_nil] at this; exact this) _ _ hright
    have htq2 := tyQ_more (Q' := fun x : LKey => wB.heap.size ≤ x.1 ∧ x.1 < wC.heap.size) htq (w' := wC) fun x hx => ⟨by
     obtain ⟨ys, hys⟩ := hx
     have h1 := hmw.new x.1 (by rw [hys]; simp) rfl
     obtain ⟨cs, e, _⟩ := (hmm _ _ hys).ex
     exact ⟨by omega, ent_lt e⟩, rfl⟩
    have hty : TyP wC r (t.app fun n => .v (numOf l n)) := tyQ_P _ _ htq2
    have hbC : Below wd.heap.size wd wC := HBB.out.trans (hmw.chg.below (by omega) (fun k hk => by rcases hk with hk | hk | hk | hk <;> omega))
    obtain ⟨z0, z1, zq, zm, zc, rfl⟩ := tyP_sh hty
    have HTYQ := Lib.hid htq2
    have HBC := Lib.hid hbC
    have HSB := Lib.hid (show wd.heap.size ≤ wB.heap.size from hsB)
    clear hty htq htq2 hbC hright hmw hmm hmd hsB hclt hbs hsd
    refine hK.out _ _ (.of_below HBC.out) (fun hHeld => ?_)
    clear hK K
    refine wpAnyH_ready (rs := [4]) (by kernel_rfl) (by simp) ?_
    refine AllReadyH.cons rfl (fun K hK => ?_) AllReadyH.nil
    have ERC := ent_below ERD.out HBC.out
    have r0 := ent_cell ERC 0 _ rfl
    have r1 := ent_cell ERC 1 _ rfl
    have r2 := ent_cell ERC 2 _ rfl
    have rf := ent_free ERC
    go_simp
    refine hK.out _ _ ((Chg.of_below HBC.out).trans (chg_set3 wC b2 _ _ _)) (fun hHeld => ?_)
    have HER := Lib.hid (ent_set3 ERC (.int .i64 z0) (.string z1) (.slice zq zm zc))
    clear r0 r1 r2 rf ERC
    clear hK K
    refine wpAnyH_done (by kernel_rfl) ?_ _
    have HK8 : Hid (∀ b, b ≠ b2 → (((wC.setCell ⟨b2, 0, none⟩ (.int .i64 z0)).setCell ⟨b2, 1, none⟩ (.string z1)).setCell ⟨b2, 2, none⟩ (.slice zq zm zc)).heap[b]? = wC.heap[b]?) :=
     Lib.hid (fun b hb => ((Below.heap_setCell _ ⟨b2, 2, none⟩ _ b hb).trans (Below.heap_setCell _ ⟨b2, 1, none⟩ _ b hb)).trans (Below.heap_setCell _ ⟨b2, 0, none⟩ _ b hb))
    have HB8 := Lib.hid (below_set3 (HBD.out.trans (HBC.out.mono HBD.out.size)) b2 (by have := HBS.out; omega) (.int .i64 z0) (.string z1) (.slice zq zm zc))
    generalize ((wC.setCell ⟨b2, 0, none⟩ (.int .i64 z0)).setCell ⟨b2, 1, none⟩ (.string z1)).setCell ⟨b2, 2, none⟩ (.slice zq zm zc) = w8 at HER HK8 HB8 ⊢
    have r0 := ent_cell HER.out 0 _ rfl
    have r1 := ent_cell HER.out 1 _ rfl
    have r2 := ent_cell HER.out 2 _ rfl
    go_wp2_with fail
    refine bodyPost_ret (v := .agg #[.int .i64 z0, .string z1, .slice zq zm zc]) (by simp [results, Tryd.results21, go_sem, r0, r1, r2]) rfl ?_
    refine ⟨_, rfl, HB8.out, ?_⟩
    have hcn := canon_num t
    rw [← HL.out] at hcn
    rw [← hcn]
    exact tyQ_P _ _ (tyQ_keep HTYQ.out fun x hx => HK8.out x.1 (by have := HBS.out; have := HSB.out; have := HSD.out; omega))
end Go.Proofs.YtcblppojnailpaaDoor
