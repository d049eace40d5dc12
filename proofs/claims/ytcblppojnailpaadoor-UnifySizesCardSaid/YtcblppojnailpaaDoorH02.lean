/-
  Several texts in one: UEnd, UChg, UGrow, UMk, UMkL, UMkT, UMkS.
-/
import Derived.Test.YtcblppojnailpaaDoorH00
import Derived.Test.YtcblppojnailpaaDoorH01
import Derived.Laws.MakeOwn
import Derived.Laws.OwnMore
namespace Go.Proofs.YtcblppojnailpaaDoor
namespace Ux
set_option linter.unusedVariables false
set_option linter.unusedSimpArgs false
inductive Ends (f : Map) : Nat → Ty → Prop
 | free {n : Nat} : f n = none → Ends f n (.v n)
 | name {n : Nat} {nm : List UInt8} {xs : List Ty} : f n = some (.a nm xs) → Ends f n (.a nm xs)
 | var {n m : Nat} {t : Ty} : f n = some (.v m) → Ends f m t → Ends f n t
theorem Ends.one {f : Map} {n : Nat} {t : Ty} (h : Ends f n t) : ∀ {u : Ty}, Ends f n u → t = u := by
 induction h with
 | free h => intro u k; cases k with
   | free _ => rfl
   | name k => rw [h] at k; cases k
   | var k _ => rw [h] at k; cases k
 | name h => intro u k; cases k with
   | free k => rw [h] at k; cases k
   | name k => rw [h] at k; injection k
   | var k _ => rw [h] at k; cases k
 | var h _ ih => intro u k; cases k with
   | free k => rw [h] at k; cases k
   | name k => rw [h] at k; cases k
   | var k k2 => rw [h] at k; injection k with k; injection k with k; subst k; exact ih k2
theorem Ends.is {f : Map} {n : Nat} {t : Ty} (h : Ends f n t) : (∃ m, t = .v m ∧ f m = none) ∨ ∃ nm xs, t = .a nm xs ∧ ∃ m, f m = some t := by
 induction h with
 | free h => exact .inl ⟨_, rfl, h⟩
 | name h => exact .inr ⟨_, _, rfl, _, h⟩
 | var _ _ ih => exact ih
theorem Fine.ends {f : Map} (hf : Fine f) (n : Nat) : ∃ t, Ends f n t := by
 obtain ⟨r, hr⟩ := hf.down
 have key : ∀ k n, r n ≤ k → ∃ t, Ends f n t := by
  intro k
  induction k with
  | zero =>
    intro n hn
    cases h : f n with
    | none => exact ⟨_, .free h⟩
    | some t =>
      cases t with
      | v m => have := hr n m h; omega
      | a nm xs => exact ⟨_, .name h⟩
  | succ k ih =>
    intro n hn
    cases h : f n with
    | none => exact ⟨_, .free h⟩
    | some t =>
      cases t with
      | v m => obtain ⟨t, ht⟩ := ih m (by have := hr n m h; omega); exact ⟨t, .var h ht⟩
      | a nm xs => exact ⟨_, .name h⟩
 exact key (r n) n (Nat.le_refl _)
theorem Ends.sol {f : Map} {σ : Sub} (hσ : Sol f σ) {n : Nat} {t : Ty} (h : Ends f n t) : σ n = t.app σ := by
 induction h with
 | free h => rw [app_v]
 | name h => exact hσ _ _ h
 | var h _ ih => rw [hσ _ _ h, app_v]; exact ih
theorem Ends.norm {f : Map} {N : Sub} (hN : Norm f N) {n : Nat} {t : Ty} (h : Ends f n t) : N n = match t with | .v m => .v m | .a nm xs => .a nm (xs.map (Ty.app N)) := by
 have h2 := h.sol hN.sol
 rcases h.is with ⟨m, rfl, hm⟩ | ⟨nm, xs, rfl, _⟩
 · rw [app_v] at h2; have := hN m; rw [hm] at this; rw [h2, this]
 · rw [app_a] at h2; exact h2
/-- Where the way from a type ends. -/
def EndT (f : Map) : Ty → Ty → Prop
 | .v m, t => Ends f m t
 | .a nm xs, t => t = .a nm xs
theorem Ends.last {f : Map} {n : Nat} {t : Ty} (h : Ends f n t) : EndT f t t := by
 rcases h.is with ⟨m, rfl, hm⟩ | ⟨nm, xs, rfl, _⟩
 · exact .free hm
 · rfl
theorem Ends.step {f : Map} {n : Nat} {t u : Ty} (h : f n = some t) (k : EndT f t u) : Ends f n u := by
 cases t with
 | v m => exact .var h k
 | a nm xs => cases k; exact .name h
/-- The ways from variable to variable are no longer than there are variables that stand for something. -/
theorem Fine.short {f : Map} (hf : Fine f) {M : Nat} (hM : ∀ n, f n ≠ none → n < M) : ∃ rk : Nat → Nat, (∀ n m, f n = some (.v m) → rk m < rk n) ∧ ∀ n, rk n ≤ M := by
 obtain ⟨r, hr⟩ := hf.down
 refine ⟨fun n => ((List.range M).filter fun d => decide (r d ≤ r n)).length, fun n m h => ?_, fun n => ?_⟩
 · have h1 := hr n m h
   have h2 : n ∈ List.range M := List.mem_range.2 (hM n (by rw [h]; simp))
   have key : ∀ l : List Nat, (l.filter fun d => decide (r d ≤ r m)).length ≤ (l.filter fun d => decide (r d ≤ r n)).length ∧ (n ∈ l → (l.filter fun d => decide (r d ≤ r m)).length < (l.filter fun d => decide (r d ≤ r n)).length) := by
    intro l
    induction l with
    | nil => exact ⟨Nat.le_refl _, fun h => by cases h⟩
    | cons x l ih =>
      rw [List.filter_cons, List.filter_cons]
      by_cases e1 : r x ≤ r m
      · rw [if_pos (by simpa using e1), if_pos (by simp; omega), List.length_cons, List.length_cons]
        refine ⟨by have := ih.1; omega, fun hx => ?_⟩
        rcases List.mem_cons.1 hx with rfl | hx
        · omega
        · have := ih.2 hx; omega
      · rw [if_neg (by simpa using e1)]
        by_cases e2 : r x ≤ r n
        · rw [if_pos (by simpa using e2), List.length_cons]
          exact ⟨by have := ih.1; omega, fun _ => by have := ih.1; omega⟩
        · rw [if_neg (by simpa using e2)]
          refine ⟨ih.1, fun hx => ?_⟩
          rcases List.mem_cons.1 hx with rfl | hx
          · omega
          · exact ih.2 hx
   exact (key _).2 h2
 · exact Nat.le_trans (List.length_filter_le _ _) (by simp)
end Ux
end Go.Proofs.YtcblppojnailpaaDoor
namespace Go.Proofs.YtcblppojnailpaaDoor
open Go Go.RowKit
set_option linter.unusedVariables false
set_option linter.unusedSimpArgs false
/-- Of the blocks that there are just those of R may be others then. -/
structure Chg (R : Nat → Prop) (w w' : World) : Prop where
 os : w'.os = w.os
 tape : w'.tape = w.tape
 output : w'.output = w.output
 size : w.heap.size ≤ w'.heap.size
 block : ∀ k, k < w.heap.size → ¬ R k → w'.heap[k]? = w.heap[k]?
theorem Chg.refl (R : Nat → Prop) (w : World) : Chg R w w := ⟨rfl, rfl, rfl, Nat.le_refl _, fun _ _ _ => rfl⟩
theorem Chg.trans {R : Nat → Prop} {a b c : World} (h : Chg R a b) (k : Chg R b c) : Chg R a c :=
 ⟨k.os.trans h.os, k.tape.trans h.tape, k.output.trans h.output, Nat.le_trans h.size k.size, fun i hi hr => (k.block i (Nat.lt_of_lt_of_le hi h.size) hr).trans (h.block i hi hr)⟩
theorem Chg.mono {R R' : Nat → Prop} {a b : World} (h : Chg R a b) (hr : ∀ k, k < a.heap.size → R k → R' k) : Chg R' a b :=
 ⟨h.os, h.tape, h.output, h.size, fun k hk hn => h.block k hk fun e => hn (hr k hk e)⟩
/-- What is new later may change, too. -/
theorem Chg.then {R R' : Nat → Prop} {a b c : World} (h : Chg R a b) (k : Chg R' b c) (hr : ∀ x, x < a.heap.size → R' x → R x) : Chg R a c :=
 ⟨k.os.trans h.os, k.tape.trans h.tape, k.output.trans h.output, Nat.le_trans h.size k.size, fun i hi hn => (k.block i (Nat.lt_of_lt_of_le hi h.size) fun e => hn (hr i hi e)).trans (h.block i hi hn)⟩
theorem Chg.of_below {R : Nat → Prop} {w w' : World} (h : Below w.heap.size w w') : Chg R w w' := ⟨h.os, h.tape, h.output, h.size, fun k hk _ => h.block k hk⟩
theorem Chg.below {R : Nat → Prop} {B : Nat} {w w' : World} (h : Chg R w w') (hB : B ≤ w.heap.size) (hr : ∀ k, R k → B ≤ k) : Below B w w' :=
 ⟨h.os, h.tape, h.output, h.size, fun k hk => h.block k (by omega) fun e => by have := hr k e; omega⟩
theorem Chg.set {R : Nat → Prop} {w : World} {p : Addr} (hp : R p.block) (v : Value) : Chg R w (w.setCell p v) :=
 let h := Below.setCell (Below.refl p.block w) (Nat.le_refl _) v
 ⟨h.os, h.tape, h.output, h.size, fun k hk hn => Below.heap_setCell w p v k fun e => hn (e ▸ hp)⟩
theorem Chg.alloc {R : Nat → Prop} (w : World) (o : Obj) : Chg R w (w.alloc o) := .of_below ((Below.refl _ _).alloc (Nat.le_refl _) o)
theorem Chg.grown {R : Nat → Prop} {w w' : World} {row : Option Nat} (h : w.grownBy w' row) (hr : ∀ k, row = some k → R k) : Chg R w w' :=
 ⟨h.os, h.tape, h.output, h.size, fun k hk hn => h.block k hk fun e => hn (hr k e.symm)⟩
theorem Chg.drew {R : Nat → Prop} (w : World) : Chg R w w.drew := .of_below ((Below.refl _ _).drew)
theorem ent_chg {R : Nat → Prop} {w w' : World} {g : Nat} {o : Obj} (h : w.heap[g]? = some o) (hc : Chg R w w') (hn : ¬ R g) : w'.heap[g]? = some o := (hc.block g (ent_lt h) hn).trans h
theorem own_chg {R : Nat → Prop} {w w' : World} {base : Nat} {e : TypeId} {size : Nat} {v : Value} {n : Nat} {xs : List Value} (h : w.ownsRow base e size v n xs) (hc : Chg R w w') (hn : ∀ b, v.ownBlock = some b → ¬ R b) : w'.ownsRow base e size v n xs :=
 own_same h fun k hk => hc.block k (h.lt k hk).2 (hn k hk)
theorem own_ne {w : World} {base : Nat} {e : TypeId} {size : Nat} {v : Value} {n : Nat} {xs : List Value} (h : w.ownsRow base e size v n xs) {g : Nat} {o : Obj} (hg : w.heap[g]? = some o) (hT : ∀ cs, o ≠ .cells cs e (0, 0)) : v.ownBlock ≠ some g := by
 intro hv
 rcases h.2 with ⟨rfl, _⟩ | ⟨g', cap, cur, rfl, _, hg', _⟩
 · cases hv
 · injection hv with hv; subst hv
   rw [hg] at hg'; injection hg' with hg'
   exact hT _ hg'
theorem chg_set3 (w : World) (g : Nat) (v0 v1 v2 : Value) : Chg (· = g) w (((w.setCell ⟨g, 0, none⟩ v0).setCell ⟨g, 1, none⟩ v1).setCell ⟨g, 2, none⟩ v2) :=
 ((Chg.set (R := (· = g)) (p := ⟨g, 0, none⟩) rfl v0).trans (Chg.set (R := (· = g)) (p := ⟨g, 1, none⟩) rfl v1)).trans (Chg.set (R := (· = g)) (p := ⟨g, 2, none⟩) rfl v2)
theorem MapK.obj {κ : Type} {enc : κ → Value} {V : World → κ → Prop} {w : World} {b : Nat} {L : List (κ × Value)} (h : MapK enc V w b L) : ∃ es k, w.heap[b]? = some (.map es k) := by
 obtain ⟨es, k, h, _⟩ := h; exact ⟨es, k, h⟩
/-- What lies in a list of the call's own. -/
theorem own_open {w : World} {base : Nat} {e : TypeId} {size : Nat} {p : Option Addr} {n c : Nat} {xs : List Value} (h : w.ownsRow base e size (.slice p n c) n xs) (hn : 0 < n) :
 ∃ (g : Nat) (cur : Array Value), p = some ⟨g, 0, none⟩ ∧ base ≤ g ∧ g < w.heap.size ∧ n ≤ c ∧ (c : Int) ≤ 9223372036854775807 ∧ w.heap[g]? = some (.cells cur e (0, 0)) ∧ ∀ (j : Nat) (u : Value), xs[j]? = some u → cur[j]? = some u := by
 rcases h.2 with ⟨_, rfl⟩ | ⟨g, cap, cur, hv, hb, hg, hc1, hc2, hc3, hc4⟩
 · omega
 · injection hv with hv _ hc
   subst hv; subst hc
   refine ⟨g, cur, rfl, hb, ent_lt hg, hc1, by unfold maxLen at hc2; omega, hg, fun j u hj => ?_⟩
   have h0 := World.ownsRow.cells h (g := g) rfl j u hj
   have e1 : (⟨g, 0, none⟩ : Addr).add j = ⟨g, j, none⟩ := by unfold Addr.add; split <;> simp_all
   rw [e1, cell_of hg] at h0
   exact h0
/-- Block b tells what variables stand for. -/
def SubAt (Q : LKey → Prop) (w : World) (b : Nat) (f : Ux.Map) : Prop :=
 ∃ L, MapK encInt (fun _ _ => True) w b L ∧ ∀ n : Nat, (f n = none → lookL (n : Int) L = none) ∧ ∀ t, f n = some t → ∃ v, lookL (n : Int) L = some v ∧ TyQ Q w v t
/-- Block b has what was found: but for ws, that are still looked for. -/
def FndAt (Q : LKey → Prop) (w : World) (b : Nat) (f : Ux.Map) (ws : List Nat) : Prop :=
 ∃ L, MapK encInt (fun _ _ => True) w b L ∧ ∀ (n : Nat) (v : Value), lookL (n : Int) L = some v → n ∈ ws ∨ ∃ t, Ux.Ends f n t ∧ TyQ Q w v t
theorem SubAt.keep {Q : LKey → Prop} {w w' : World} {b : Nat} {f : Ux.Map} (h : SubAt Q w b f) (hb : w'.heap[b]? = w.heap[b]?) (hq : ∀ x, Q x → w'.heap[x.1]? = w.heap[x.1]?) : SubAt Q w' b f := by
 obtain ⟨L, h1, h2⟩ := h
 refine ⟨L, h1.keep hb fun _ _ => trivial, fun n => ⟨(h2 n).1, fun t ht => ?_⟩⟩
 obtain ⟨v, a, b⟩ := (h2 n).2 t ht
 exact ⟨v, a, tyQ_keep b hq⟩
theorem FndAt.keep {Q : LKey → Prop} {w w' : World} {b : Nat} {f : Ux.Map} {ws : List Nat} (h : FndAt Q w b f ws) (hb : w'.heap[b]? = w.heap[b]?) (hq : ∀ x, Q x → w'.heap[x.1]? = w.heap[x.1]?) : FndAt Q w' b f ws := by
 obtain ⟨L, h1, h2⟩ := h
 refine ⟨L, h1.keep hb fun _ _ => trivial, fun n v hv => ?_⟩
 rcases h2 n v hv with h | ⟨t, a, b⟩
 · exact .inl h
 · exact .inr ⟨t, a, tyQ_keep b hq⟩
theorem zero_ty (w : World) : (zeroValue 30).run Tryd.prog w = .ok (.agg #[.int .i64 0, .string ⟨#[]⟩, .slice none 0 0]) w := by kernel_rfl
theorem lawI : KeyLaw Tryd.prog 3 encInt (fun _ _ => True) := lawInt Tryd.underlying3
end Go.Proofs.YtcblppojnailpaaDoor
namespace Go.Proofs.YtcblppojnailpaaDoor
open Go Go.RowKit
set_option linter.unusedVariables false
set_option linter.unusedSimpArgs false
/-- What append asks of an element's type. -/
structure Elt (t e : TypeId) (z : Value) (size bytes : Nat) : Prop where
 und : Tryd.prog.underlying t = some (.slice e)
 inf : (Tryd.prog.info? e).map (fun i => (i.zero, i.size, i.bytes)) = some (some z, size, bytes)
 zsz : z.cells.size = size
 pos : 0 < size
 few : bytes ≤ 100
theorem eltInt : Elt 42 3 (.int .i64 0) 1 8 := ⟨Tryd.underlying42, by kernel_rfl, rfl, by decide, by decide⟩
theorem wpList_append_new {t e : TypeId} {z : Value} {size bytes : Nat} (E : Elt t e z size bytes) (W : World) {ops : Array Oper} {rest : List Oper} {o : Oper} {a : Act} {Q : Exit → Act → World → Prop} (hgd : o.guard = none) (s x : Operand)
 (ho : o.op = .call { callee := .builtin .append, args := #[s, x], argTypes := #[t, t] })
 (base : Nat) (v : Value) (n : Nat) (xs : List Value) (hs : a.eval s = v) (hown : W.ownsRow base e size v n xs) (cs : Array Value) (T : TypeId)
 (hx : a.eval x = .slice (some ⟨W.heap.size, 0, none⟩) 1 1) (hl : cs.size = size) (h1 : ∀ u ∈ cs.toList, u.oneCell' = true) (hn : n ≤ 100000000000) (hbase : base ≤ W.heap.size)
 (h : ∀ v' w', w'.ownsRow base e size v' (n + 1) (xs ++ cs.toList) → Chg (fun b => v.ownBlock = some b) W w' → (v'.ownBlock = v.ownBlock ∨ ∀ g, v'.ownBlock = some g → W.heap.size ≤ g) → wpList Tryd.prog ops Q rest (a.put o.dst v') w') : wpList Tryd.prog ops Q (o :: rest) a (W.alloc (.cells cs T)) := by
 obtain ⟨i, hi, hz, hsize, hby⟩ := infoParts E.inf
 have hf := E.few
 refine wpList_append_loc _ hgd s x t ho base e i z size bytes E.und hi hz hsize hby E.zsz E.pos v n xs hs (hown.alloc _) ⟨W.heap.size, 0, none⟩ 1 1 cs.toList hx (by decide) (by simp [hl]) (fun j u hj => ?_) h1 (by unfold maxLen; omega) ?_ (by simp; omega) (fun v' w' g1 g2 g3 => h v' w' g1 ?_ (g3.imp id fun k g hg => by have := k g hg; simp at this; omega))
 · have e : (⟨W.heap.size, 0, none⟩ : Addr).add j = ⟨W.heap.size, j, none⟩ := by unfold Addr.add; split <;> simp_all
   rw [e]
   exact ent_cell (ent_new W cs T) j u (by rw [← Array.getElem?_toList]; exact hj)
 · have : (n + 1) * bytes ≤ 100000000001 * 100 := Nat.mul_le_mul (by omega) hf
   omega
 · exact (Chg.alloc (R := fun b => v.ownBlock = some b) W _).trans (Chg.grown g2 fun k hk => hk)
/-- In a region that draws its order. -/
theorem step_append_new {t e : TypeId} {z : Value} {size bytes : Nat} (E : Elt t e z size bytes) (W : World) {ops : Array Oper} {o : Oper} {a : Act} {K : Act → World → Prop} {Q : Exit → Act → World → Prop} {X : Prop} (hgd : o.guard = none) (s x : Operand)
 (ho : o.op = .call { callee := .builtin .append, args := #[s, x], argTypes := #[t, t] })
 (base : Nat) (v : Value) (n : Nat) (xs : List Value) (hs : a.eval s = v) (hown : W.ownsRow base e size v n xs) (cs : Array Value) (T : TypeId)
 (hx : a.eval x = .slice (some ⟨W.heap.size, 0, none⟩) 1 1) (hl : cs.size = size) (h1 : ∀ u ∈ cs.toList, u.oneCell' = true) (hn : n ≤ 100000000000) (hbase : base ≤ W.heap.size)
 (h : ∀ v' w', w'.ownsRow base e size v' (n + 1) (xs ++ cs.toList) → Chg (fun b => v.ownBlock = some b) W w' → (v'.ownBlock = v.ownBlock ∨ ∀ g, v'.ownBlock = some g → W.heap.size ≤ g) → K (a.put o.dst v') w') :
 if Region.wanted o (yielded ops a.tmps) = true then Oper.wp Tryd.prog o a (W.alloc (.cells cs T)).drew K Q else X := by
 obtain ⟨i, hi, hz, hsize, hby⟩ := infoParts E.inf
 have hf := E.few
 refine step_append_loc (w := (W.alloc (.cells cs T)).drew) hgd s x t ho base e i z size bytes E.und hi hz hsize hby E.zsz E.pos v n xs hs ((hown.alloc _).drew) ⟨W.heap.size, 0, none⟩ 1 1 cs.toList hx (by decide) (by simp [hl]) (fun j u hj => ?_) h1 (by unfold maxLen; omega) ?_ (by show base ≤ (W.alloc (.cells cs T)).heap.size; simp; omega) (fun v' w' g1 g2 g3 => h v' w' g1 ?_ (g3.imp id fun k g hg => by have := k g hg; change (W.alloc (.cells cs T)).heap.size ≤ g at this; simp at this; omega))
 · have e : (⟨W.heap.size, 0, none⟩ : Addr).add j = ⟨W.heap.size, j, none⟩ := by unfold Addr.add; split <;> simp_all
   rw [e]
   exact ent_cell (w := (W.alloc (.cells cs T)).drew) (ent_new W cs T) j u (by rw [← Array.getElem?_toList]; exact hj)
 · have : (n + 1) * bytes ≤ 100000000001 * 100 := Nat.mul_le_mul (by omega) hf
   omega
 · exact ((Chg.alloc (R := fun b => v.ownBlock = some b) W _).trans (.drew _)).trans (Chg.grown g2 fun k hk => hk)
end Go.Proofs.YtcblppojnailpaaDoor
namespace Go.Proofs.YtcblppojnailpaaDoor
open Go Go.RowKit
set_option linter.unusedVariables false
set_option linter.unusedSimpArgs false
/-- What lists made are to hold. -/
abbrev Asg := Nat → Option (List Ux.Ty)
/-- A type's value that is right if lists made come to hold what they are to. -/
def RightV (c : Asg) (u : Value) : Ux.Ty → Prop
 | .v n => u = .agg #[.int .i64 n, .string ⟨#[]⟩, .slice none 0 0]
 | .a nm ys => ∃ sl, u = .agg #[.int .i64 (-1), .string ⟨nm.toArray⟩, sl] ∧ ((ys = [] ∧ sl = .slice none 0 0) ∨ ∃ B cap, c B = some ys ∧ ys ≠ [] ∧ sl = .slice (some ⟨B, 0, none⟩) ys.length cap ∧ ys.length ≤ cap ∧ (cap : Int) ≤ 9223372036854775807)
def Asg.le (c c' : Asg) : Prop := ∀ B ys, c B = some ys → c' B = some ys
theorem RightV.mono {c c' : Asg} (h : c.le c') {u : Value} : ∀ {t : Ux.Ty}, RightV c u t → RightV c' u t
 | .v n, k => k
 | .a nm ys, k => by
   obtain ⟨sl, e, k | ⟨B, cap, h1, h2⟩⟩ := k
   · exact ⟨sl, e, .inl k⟩
   · exact ⟨sl, e, .inr ⟨B, cap, h _ _ h1, h2⟩⟩
theorem RightV.cells {c : Asg} {u : Value} : ∀ {t : Ux.Ty}, RightV c u t → u.cells.size = 3
 | .v n, k => by cases k; rfl
 | .a nm ys, k => by obtain ⟨sl, rfl, _⟩ := k; rfl
/-- Of each list made the first so many elements are right. -/
structure MadeB (c : Asg) (w : World) (B : Nat) (ys : List Ux.Ty) (k : Nat) : Prop where
 ex : ∃ cs, w.heap[B]? = some (.cells cs 30 (0, 0)) ∧ cs.size = ys.length * 3 ∧ ∀ j y, j < k → ys[j]? = some y → ∃ u, RightV c u y ∧ ∀ i z, u.cells[i]? = some z → cs[j * 3 + i]? = some z
theorem MadeB.keep {c c' : Asg} {w w' : World} {B : Nat} {ys : List Ux.Ty} {k : Nat} (h : MadeB c w B ys k) (hb : w'.heap[B]? = w.heap[B]?) (hc : c.le c') : MadeB c' w' B ys k := by
 obtain ⟨cs, h1, h2, h3⟩ := h.ex
 refine ⟨cs, hb.trans h1, h2, fun j y hj hy => ?_⟩
 obtain ⟨u, a, b⟩ := h3 j y hj hy
 exact ⟨u, a.mono hc, b⟩
/-- If all lists made hold what they are to, each right value is its type's. -/
theorem right_ty {c : Asg} {w : World} (h : ∀ B ys, c B = some ys → MadeB c w B ys ys.length) : ∀ (t : Ux.Ty) (u : Value), RightV c u t → TyQ (fun x => ∃ ys, c x.1 = some ys) w u t := by
 intro t
 induction t using Ux.Ty.ind with
 | hv n => intro u k; exact tyQ_v.2 ⟨_, _, _, _, k⟩
 | ha nm ys ih =>
   intro u k
   obtain ⟨sl, rfl, ⟨rfl, rfl⟩ | ⟨B, cap, h1, h2, rfl, h3, h4⟩⟩ := k
   · exact tyQ_a.2 ⟨-1, _, by decide, rfl, .inl ⟨rfl, _, _, rfl⟩⟩
   · obtain ⟨cs, e1, e2, e3⟩ := (h B ys h1).ex
     refine tyQ_a.2 ⟨-1, _, by decide, rfl, .inr ⟨B, 0, cap, cs, _, rfl, h2, ⟨ys, h1⟩, h3, h4, e1, fun i x hx => ?_⟩⟩
     obtain ⟨u, a, b⟩ := e3 i x (List.getElem?_eq_some_iff.1 hx).1 hx
     exact ⟨u, ih x (List.mem_of_getElem? hx) u a, a.cells, fun j z hz => by rw [Nat.zero_add]; exact b j z hz⟩
def FreeQ (Q : LKey → Prop) (w : World) (x : LKey) : Prop := Q x ∧ FreeL w x
theorem lawLQ (Q : LKey → Prop) : KeyLaw Tryd.prog 120 encL (FreeQ Q) := ⟨lawL.check, lawL.bits, fun w x es L h hx hL => lawL.find w x es L h hx.2 fun p hp => (hL p hp).2⟩
theorem freeQ_keep {Q : LKey → Prop} {w w' : World} (h : ∀ x, Q x → w'.heap[x.1]? = w.heap[x.1]?) (x : LKey) (hx : FreeQ Q w x) : FreeQ Q w' x := ⟨hx.1, let ⟨cs, T, e⟩ := hx.2; ⟨cs, T, (h x hx.1).trans e⟩⟩
theorem freeQ_other {Q : LKey → Prop} {w : World} {b : Nat} (hb : ∃ es k, w.heap[b]? = some (.map es k)) : ∀ w' y, (∀ c, c ≠ b → w'.heap[c]? = w.heap[c]?) → (∃ es k, w'.heap[b]? = some (.map es k)) → FreeQ Q w y → FreeQ Q w' y := by
 intro w' y hk _ hy
 obtain ⟨es, k, hb⟩ := hb
 obtain ⟨cs, T, e⟩ := hy.2
 exact ⟨hy.1, cs, T, (hk _ fun e2 => by rw [e2, hb] at e; cases e).trans e⟩
/-- The maker at mb: how it looks, which lists came that may come again, how many parts there were. -/
structure MkS (Q : LKey → Prop) (N : Ux.Sub) (c : Asg) (mb db : Nat) (lv : Value) (n : Nat) (w : World) : Prop where
 cell : w.heap[mb]? = some (.cells #[lv, .map (some db), .int .i64 n] 109 (0, 0))
 made : ∃ L, MapK encL (FreeQ Q) w db L ∧ ∀ (x : LKey) (v : Value), lookL x L = some v → ∃ B cap ys xs p, v = .slice (some ⟨B, 0, none⟩) ys.length cap ∧ ys.length ≤ cap ∧ (cap : Int) ≤ 9223372036854775807 ∧ c B = some ys ∧ ys = xs.map (Ux.Ty.app N) ∧ xs.length = x.2.2 ∧ RowQ Q (TyQ Q w) w (.slice (some ⟨x.1, x.2.1, none⟩) x.2.2 p) xs ∧ Q x
theorem listOf_any (g o m c : Nat) (hm : 0 < m) (hc : m ≤ c) (hx : (c : Int) ≤ 9223372036854775807) (w : World) :
 Calls Tryd.prog 54 #[.slice (some ⟨g, o, none⟩) m c] w (fun e w' => e = .returned (.agg #[.pointer (some ⟨g, o, none⟩), .int .i64 m]) ∧ Below w.heap.size w w') := by
 have h1 : (0 : Int) < (m : Int) := by omega
 have h2 : (m : Int) ≤ (c : Int) := by omega
 go_enter Tryd.func54, Tryd.ntmps54
 go_wp2_with fail
 have r0 := ent_cell (ent_new w #[.pointer (some ⟨g, o, none⟩), .int .i64 m] 120) 0 _ rfl
 have r1 := ent_cell (ent_new w #[.pointer (some ⟨g, o, none⟩), .int .i64 m] 120) 1 _ rfl
 refine bodyPost_ret (v := .agg #[.pointer (some ⟨g, o, none⟩), .int .i64 m]) (by simp [results, Tryd.results54, go_sem, r0, r1]) rfl ?_
 exact ⟨rfl, (Below.refl _ _).alloc (Nat.le_refl _) _⟩
theorem madeTypes (n : Nat) (hn : n ≤ 100000000000) (w : World) : ∃ cs : Array Value, cs.size = n * 3 ∧ (Instr.makeSlice 28 (.int .i64 (n : Int)) (.int .i64 (n : Int))).run Tryd.prog w = .ok (.slice (some ⟨w.heap.size, 0, none⟩) n n) (w.alloc (.cells cs 30)) := by
 obtain ⟨i, hi, hz, hs, hb⟩ := infoParts infoTy
 have hr := run_make (P := Tryd.prog) w 28 30 i _ Tryd.underlying28 hi hz .i64 .i64 n n (by omega) (Int.le_refl _) (by rw [hb]; omega) (by omega)
 simp only [Int.toNat_natCast, hs] at hr
 exact ⟨_, size_madeCells _ _, hr⟩
end Go.Proofs.YtcblppojnailpaaDoor
namespace Go.Proofs.YtcblppojnailpaaDoor
open Go Go.RowKit
set_option linter.unusedVariables false
set_option linter.unusedSimpArgs false
def Asg.upd (c : Asg) (B : Nat) (ys : List Ux.Ty) : Asg := fun b => if b = B then some ys else c b
def MkList (Q : LKey → Prop) (N : Ux.Sub) (c : Asg) (mb db : Nat) (lv : Value) (n : Nat) (xs : List Ux.Ty) (w : World) (e : Ending) (w' : World) : Prop :=
 Chg (fun b => b = mb ∨ b = db) w w' ∧
 ((xs = [] ∧ e = .returned (.tuple #[.slice none 0 0, .bool false]) ∧ MkS Q N c mb db lv n w') ∨
  (xs ≠ [] ∧ ∃ B cap, c B = some (xs.map (Ux.Ty.app N)) ∧ e = .returned (.tuple #[.slice (some ⟨B, 0, none⟩) xs.length cap, .bool false]) ∧ xs.length ≤ cap ∧ (cap : Int) ≤ 9223372036854775807 ∧ MkS Q N c mb db lv n w') ∨
  (xs ≠ [] ∧ ∃ B cs, w.heap.size ≤ B ∧ w'.heap[B]? = some (.cells cs 30 (0, 0)) ∧ cs.size = xs.length * 3 ∧ e = .returned (.tuple #[.slice (some ⟨B, 0, none⟩) xs.length xs.length, .bool true]) ∧ MkS Q N (c.upd B (xs.map (Ux.Ty.app N))) mb db lv (n + xs.length) w'))
theorem MkS.keep {Q : LKey → Prop} {N : Ux.Sub} {c c' : Asg} {mb db : Nat} {lv : Value} {n : Nat} {w w' : World} (h : MkS Q N c mb db lv n w) (h1 : w'.heap[mb]? = w.heap[mb]?) (h2 : w'.heap[db]? = w.heap[db]?) (hq : ∀ x, Q x → w'.heap[x.1]? = w.heap[x.1]?) (hc : c.le c') : MkS Q N c' mb db lv n w' := by
 obtain ⟨h3, L, h4, h5⟩ := h
 refine ⟨h1.trans h3, L, h4.keep h2 (freeQ_keep hq), fun x v hv => ?_⟩
 obtain ⟨B, cap, ys, xs, p, e1, e2, e3, e4, e5, e6, e7, e8⟩ := h5 x v hv
 exact ⟨B, cap, ys, xs, p, e1, e2, e3, hc _ _ e4, e5, e6, e7.mono (fun x hx => ⟨hx, hq x hx⟩) fun u x _ hu => tyQ_keep hu hq, e8⟩
/-- A list that is one of Q holds but one thing. -/
theorem rowQ_one {Q Q' : LKey → Prop} {w : World} {p : Option Addr} {m c c' : Nat} {xs ys : List Ux.Ty} (h : RowQ Q (TyQ Q w) w (.slice p m c) xs) (k : RowQ Q' (TyQ Q' w) w (.slice p m c') ys) : xs = ys := by
 have h1 : TyQ Q w (.agg #[.int .i64 (-1), .string ⟨#[]⟩, .slice p m c]) (.a [] xs) := tyQ_a.2 ⟨-1, _, by decide, rfl, h⟩
 rcases k with ⟨rfl, p', c2, e⟩ | ⟨g, o, c2, cs, T, e, r⟩
 · injection e with _ e2 _
   rcases h with ⟨rfl, _⟩ | ⟨g, o, c3, cs, T, e3, hne, _⟩
   · rfl
   · injection e3 with _ e3 _; exact absurd (List.eq_nil_of_length_eq_zero (by omega)) hne
 · rcases h with ⟨rfl, p3, c3, e3⟩ | ⟨g', o', c3, cs', T', e3, r'⟩
   · injection e with _ e _; injection e3 with _ e3 _; exact absurd (List.eq_nil_of_length_eq_zero (by omega)) r.1
   · injection e with e1 e2 e4
     injection e3 with f1 f2 f4
     rw [e1] at f1
     injection f1 with f1
     injection f1 with f1 f5 _
     subst f1; subst f5
     -- the same cells: both read in the first one's spelling
     obtain ⟨r1, r2, r3, r4, r5, r6⟩ := r
     obtain ⟨s1, s2, s3, s4, s5, s6⟩ := r'
     have k2 : RowQ Q' (TyQ Q' w) w (.slice p m c) ys := by
      refine .inr ⟨g, o, c, cs, T, by rw [e1, e2], r1, r2, ?_, ?_, r5, r6⟩
      · omega
      · rw [f4]; exact s4
     have h2 : TyQ Q' w (.agg #[.int .i64 (-1), .string ⟨#[]⟩, .slice p m c]) (.a [] ys) := tyQ_a.2 ⟨-1, _, by decide, rfl, k2⟩
     have := tyQ_one _ _ _ h1 h2
     injection this
set_option maxHeartbeats 4000000 in
set_option maxRecDepth 100000 in
theorem mkList_any (Q : LKey → Prop) (N : Ux.Sub) (c : Asg) (mb db : Nat) (lv : Value) (n : Nat) (p : Option Addr) (cp : Nat) (xs : List Ux.Ty) (w : World) (h : MkS Q N c mb db lv n w) (hx : RowQ Q (TyQ Q w) w (.slice p xs.length cp) xs)
 (hQ : ∀ x, Q x → x.1 < w.heap.size ∧ x.1 ≠ mb ∧ x.1 ≠ db) (hn : n + xs.length ≤ 100000000000) (hfr : ∀ B, w.heap.size ≤ B → c B = none) :
 Calls Tryd.prog 53 #[.pointer (some ⟨mb, 0, none⟩), .slice p xs.length cp] w (MkList Q N c mb db lv n xs w) := by
 have HM := Lib.hid h
 have HQ := Lib.hid hQ
 have HFR := Lib.hid hfr
 rcases hx with ⟨rfl, p', c', e⟩ | ⟨g, o, c', cs, T, e, hne, hqq, hcp, hcx, hg, hel⟩
 · clear h hQ hfr
   go_enter Tryd.func53, Tryd.ntmps53
   go_wp2_with fail
   go_ret2
   exact ⟨.refl _ _, .inl ⟨rfl, rfl, HM.out⟩⟩
 injection e with e1 _ e2
 subst e1; subst e2
 have hpos : 0 < xs.length := List.length_pos_iff.2 hne
 have hposI : (0 : Int) < (xs.length : Int) := by omega
 have hne0 : ((xs.length : Int) == 0) = false := by simp; omega
 have HX := Lib.hid (⟨hqq, hel⟩ : Q (g, o, xs.length) ∧ ∀ i x, xs[i]? = some x → ∃ u, TyQ Q w u x ∧ u.cells.size = 3 ∧ ∀ j z, u.cells[j]? = some z → cs[o + i * 3 + j]? = some z)
 have HG := Lib.hid hg
 have HNE := Lib.hid hne
 have HN := Lib.hid hn
 obtain ⟨L, hL, hLf⟩ := h.made
 have HL := Lib.hid hL
 have HLF := Lib.hid hLf
 have hfree : FreeQ Q w (g, o, xs.length) := ⟨hqq, _, _, hg⟩
 cases hlk : lookL (g, o, xs.length) L with
 | some val =>
   obtain ⟨B, cap, ys, xs', p2, rfl, f2, f3, f4, f5, f6, f7, f8⟩ := hLf _ _ hlk
   have hxx : xs' = xs := rowQ_one f7 (show RowQ Q (TyQ Q w) w (.slice (some ⟨g, o, none⟩) xs.length cp) xs from .inr ⟨g, o, cp, cs, T, rfl, hne, hqq, hcp, hcx, hg, hel⟩)
   subst hxx
   have hyl : ys.length = xs'.length := by rw [f5]; simp
   have HLK := Lib.hid (show ∀ w' : World, Below w.heap.size w w' → (Instr.lookup 107 (.map (some db)) (.agg #[.pointer (some ⟨g, o, none⟩), .int .i64 (xs'.length : Int)]) true).run Tryd.prog w' = .ok (.tuple #[.slice (some ⟨B, 0, none⟩) ys.length cap, .bool true]) w' from fun w' hb => by
    have := ((HL.out.keep (w' := w') (hb.block _ HL.out.lt) (freeQ_keep fun x hx => hb.block _ (HQ.out x hx).1)).look (lawLQ Q) Tryd.underlying107 (z := .slice none 0 0) (by kernel_rfl) (g, o, xs'.length) ⟨HX.out.1, _, _, (hb.block _ (HQ.out _ HX.out.1).1).trans HG.out⟩).2
    rw [hlk] at this
    simpa only [encL, Option.getD_some, Option.isSome_some] using this)
   have HF := Lib.hid (⟨f2, f3, f4, f5⟩ : ys.length ≤ cap ∧ (cap : Int) ≤ 9223372036854775807 ∧ c B = some ys ∧ ys = xs'.map (Ux.Ty.app N))
   clear h hQ hfr hel hg hqq hne hn hL hLf hfree hlk f2 f3 f4 f5 f6 f7 f8
   have HYL := Lib.hid hyl
   clear hyl
   go_enter Tryd.func53, Tryd.ntmps53
   go_wp2_with fail
   refine wp_region_held_drew (S := fun (u : World) => Below w.heap.size w u) (by kernel_rfl) ((Below.refl _ _).drew) (fun hHeld => ?_)
   refine wpAnyH_take (i := 0) (v := .pointer (some ⟨mb, 0, none⟩)) rfl (by kernel_rfl) (by kernel_rfl) (by kernel_rfl) (fun _ _ _ h => h) (Or.inl ⟨by rfl, fun w' hSw => by go_simp⟩) hHeld ?_
   refine wpAnyH_take (i := 1) (v := .pointer (some ⟨mb, 0, none⟩)) rfl (by kernel_rfl) (by kernel_rfl) (by kernel_rfl) (fun _ _ _ h => h) (Or.inl ⟨by rfl, fun w' hSw => by go_simp⟩) hHeld ?_
   refine wpAnyH_take (i := 2) (v := .pointer (some ⟨mb, 1, none⟩)) rfl (by kernel_rfl) (by kernel_rfl) (by kernel_rfl) (fun _ _ _ h => h) (Or.inl ⟨by rfl, fun w' hSw => by go_simp⟩) hHeld ?_
   refine wpAnyH_take (i := 3) (v := .map (some db)) rfl (by kernel_rfl) (by kernel_rfl) (by kernel_rfl) (fun _ _ _ h => h) (Or.inl ⟨by rfl, fun w' hSw => by have h := ent_cell (ent_below HM.out.cell hSw) 1 _ rfl; go_simp⟩) hHeld ?_
   refine wpAnyH_take (i := 4) (v := .slice (some ⟨g, o, none⟩) xs'.length cp) rfl (by kernel_rfl) (by kernel_rfl) (by kernel_rfl) (fun _ _ _ h => h) (Or.inl ⟨by rfl, fun w' hSw => by go_simp⟩) hHeld ?_
   try simp only [Act.put, List.getElem_toArray, List.getElem_cons_succ, List.getElem_cons_zero, List.setIfInBounds_toArray, List.set_cons_zero, List.set_cons_succ]
   refine wpAnyH_ready (rs := [5]) (by kernel_rfl) (by simp) ?_
   refine AllReadyH.cons rfl (fun K hK => ?_) AllReadyH.nil
   go_simp
   refine (listOf_any g o xs'.length cp hpos hcp hcx w.drew).mono ?_
   rintro e w5 ⟨rfl, hb5⟩
   replace hb5 := undrew hb5
   have HB5 := Lib.hid hb5
   clear hb5
   refine hK.out _ _ (HB5.out) (fun hHeld => ?_)
   clear hK K
   refine wpAnyH_take (i := 6) (v := .tuple #[.slice (some ⟨B, 0, none⟩) ys.length cap, .bool true]) rfl (by kernel_rfl) (by kernel_rfl) (by kernel_rfl) (fun _ _ _ h => h) (Or.inl ⟨by rfl, fun w' hSw => by have h := HLK.out w' hSw; go_simp⟩) hHeld ?_
   simp only [Act.put, List.getElem_toArray, List.getElem_cons_succ, List.getElem_cons_zero, List.setIfInBounds_toArray, List.set_cons_zero, List.set_cons_succ]
   refine wpAnyH_take (i := 7) (v := .tuple #[.slice (some ⟨B, 0, none⟩) ys.length cap, .bool true]) rfl (by kernel_rfl) (by kernel_rfl) (by kernel_rfl) (fun _ _ _ h => h) (Or.inl ⟨by rfl, fun w' hSw => by go_simp⟩) hHeld ?_
   simp only [Act.put, List.getElem_toArray, List.getElem_cons_succ, List.getElem_cons_zero, List.setIfInBounds_toArray, List.set_cons_zero, List.set_cons_succ]
   refine wpAnyH_take (i := 8) (v := .slice (some ⟨B, 0, none⟩) ys.length cap) rfl (by kernel_rfl) (by kernel_rfl) (by kernel_rfl) (fun _ _ _ h => h) (Or.inl ⟨by rfl, fun w' hSw => by go_simp⟩) hHeld ?_
   simp only [Act.put, List.getElem_toArray, List.getElem_cons_succ, List.getElem_cons_zero, List.setIfInBounds_toArray, List.set_cons_zero, List.set_cons_succ]
   refine wpAnyH_take (i := 9) (v := .bool true) rfl (by kernel_rfl) (by kernel_rfl) (by kernel_rfl) (fun _ _ _ h => h) (Or.inl ⟨by rfl, fun w' hSw => by go_simp⟩) hHeld ?_
   simp only [Act.put, List.getElem_toArray, List.getElem_cons_succ, List.getElem_cons_zero, List.setIfInBounds_toArray, List.set_cons_zero, List.set_cons_succ]
   refine wpAnyH_take (i := 10) (v := .slice (some ⟨B, 0, none⟩) ys.length cap) rfl (by kernel_rfl) (by kernel_rfl) (by kernel_rfl) (fun _ _ _ h => h) (Or.inl ⟨by rfl, fun w' hSw => by go_simp⟩) hHeld ?_
   simp only [Act.put, List.getElem_toArray, List.getElem_cons_succ, List.getElem_cons_zero, List.setIfInBounds_toArray, List.set_cons_zero, List.set_cons_succ]
   refine wpAnyH_take (i := 11) (v := .bool true) rfl (by kernel_rfl) (by kernel_rfl) (by kernel_rfl) (fun _ _ _ h => h) (Or.inl ⟨by rfl, fun w' hSw => by go_simp⟩) hHeld ?_
   simp only [Act.put, List.getElem_toArray, List.getElem_cons_succ, List.getElem_cons_zero, List.setIfInBounds_toArray, List.set_cons_zero, List.set_cons_succ]
   refine wpAnyH_done (by kernel_rfl) ?_ _
   go_wp2_with fail
   go_ret2
   refine ⟨.of_below HB5.out, .inr (.inl ⟨HNE.out, B, cap, by rw [← HF.out.2.2.2]; exact HF.out.2.2.1, by rw [HYL.out]; rfl, by have := HYL.out; have := HF.out.1; omega, HF.out.2.1, ?_⟩)⟩
   exact HM.out.keep (HB5.out.block _ (ent_lt HM.out.cell)) (HB5.out.block _ HL.out.lt) (fun x hx => HB5.out.block _ (HQ.out x hx).1) fun _ _ h => h
 | none =>
   have HLK := Lib.hid (show ∀ w' : World, Below w.heap.size w w' → (Instr.lookup 107 (.map (some db)) (.agg #[.pointer (some ⟨g, o, none⟩), .int .i64 (xs.length : Int)]) true).run Tryd.prog w' = .ok (.tuple #[.slice none 0 0, .bool false]) w' from fun w' hb => by
    have := ((HL.out.keep (w' := w') (hb.block _ HL.out.lt) (freeQ_keep fun x hx => hb.block _ (HQ.out x hx).1)).look (lawLQ Q) Tryd.underlying107 (z := .slice none 0 0) (by kernel_rfl) (g, o, xs.length) ⟨HX.out.1, _, _, (hb.block _ (HQ.out _ HX.out.1).1).trans HG.out⟩).2
    rw [hlk] at this
    simpa only [encL, Option.getD_none, Option.isSome_none] using this)
   clear h hQ hfr hel hg hqq hne hn hL hLf hfree hlk
   go_enter Tryd.func53, Tryd.ntmps53
   go_wp2_with fail
   refine wp_region_held_drew (S := fun (u : World) => Below w.heap.size w u) (by kernel_rfl) ((Below.refl _ _).drew) (fun hHeld => ?_)
   refine wpAnyH_take (i := 0) (v := .pointer (some ⟨mb, 0, none⟩)) rfl (by kernel_rfl) (by kernel_rfl) (by kernel_rfl) (fun _ _ _ h => h) (Or.inl ⟨by rfl, fun w' hSw => by go_simp⟩) hHeld ?_
   refine wpAnyH_take (i := 1) (v := .pointer (some ⟨mb, 0, none⟩)) rfl (by kernel_rfl) (by kernel_rfl) (by kernel_rfl) (fun _ _ _ h => h) (Or.inl ⟨by rfl, fun w' hSw => by go_simp⟩) hHeld ?_
   refine wpAnyH_take (i := 2) (v := .pointer (some ⟨mb, 1, none⟩)) rfl (by kernel_rfl) (by kernel_rfl) (by kernel_rfl) (fun _ _ _ h => h) (Or.inl ⟨by rfl, fun w' hSw => by go_simp⟩) hHeld ?_
   refine wpAnyH_take (i := 3) (v := .map (some db)) rfl (by kernel_rfl) (by kernel_rfl) (by kernel_rfl) (fun _ _ _ h => h) (Or.inl ⟨by rfl, fun w' hSw => by have h := ent_cell (ent_below HM.out.cell hSw) 1 _ rfl; go_simp⟩) hHeld ?_
   refine wpAnyH_take (i := 4) (v := .slice (some ⟨g, o, none⟩) xs.length cp) rfl (by kernel_rfl) (by kernel_rfl) (by kernel_rfl) (fun _ _ _ h => h) (Or.inl ⟨by rfl, fun w' hSw => by go_simp⟩) hHeld ?_
   try simp only [Act.put, List.getElem_toArray, List.getElem_cons_succ, List.getElem_cons_zero, List.setIfInBounds_toArray, List.set_cons_zero, List.set_cons_succ]
   refine wpAnyH_ready (rs := [5]) (by kernel_rfl) (by simp) ?_
   refine AllReadyH.cons rfl (fun K hK => ?_) AllReadyH.nil
   go_simp
   refine (listOf_any g o xs.length cp hpos hcp hcx w.drew).mono ?_
   rintro e w5 ⟨rfl, hb5⟩
   replace hb5 := undrew hb5
   have HB5 := Lib.hid hb5
   clear hb5
   refine hK.out _ _ (HB5.out) (fun hHeld => ?_)
   clear hK K
   refine wpAnyH_take (i := 6) (v := .tuple #[.slice none 0 0, .bool false]) rfl (by kernel_rfl) (by kernel_rfl) (by kernel_rfl) (fun _ _ _ h => h) (Or.inl ⟨by rfl, fun w' hSw => by have h := HLK.out w' hSw; go_simp⟩) hHeld ?_
   simp only [Act.put, List.getElem_toArray, List.getElem_cons_succ, List.getElem_cons_zero, List.setIfInBounds_toArray, List.set_cons_zero, List.set_cons_succ]
   refine wpAnyH_take (i := 7) (v := .tuple #[.slice none 0 0, .bool false]) rfl (by kernel_rfl) (by kernel_rfl) (by kernel_rfl) (fun _ _ _ h => h) (Or.inl ⟨by rfl, fun w' hSw => by go_simp⟩) hHeld ?_
   simp only [Act.put, List.getElem_toArray, List.getElem_cons_succ, List.getElem_cons_zero, List.setIfInBounds_toArray, List.set_cons_zero, List.set_cons_succ]
   refine wpAnyH_take (i := 8) (v := .slice none 0 0) rfl (by kernel_rfl) (by kernel_rfl) (by kernel_rfl) (fun _ _ _ h => h) (Or.inl ⟨by rfl, fun w' hSw => by go_simp⟩) hHeld ?_
   simp only [Act.put, List.getElem_toArray, List.getElem_cons_succ, List.getElem_cons_zero, List.setIfInBounds_toArray, List.set_cons_zero, List.set_cons_succ]
   refine wpAnyH_take (i := 9) (v := .bool false) rfl (by kernel_rfl) (by kernel_rfl) (by kernel_rfl) (fun _ _ _ h => h) (Or.inl ⟨by rfl, fun w' hSw => by go_simp⟩) hHeld ?_
   simp only [Act.put, List.getElem_toArray, List.getElem_cons_succ, List.getElem_cons_zero, List.setIfInBounds_toArray, List.set_cons_zero, List.set_cons_succ]
   refine wpAnyH_take (i := 10) (v := .slice none 0 0) rfl (by kernel_rfl) (by kernel_rfl) (by kernel_rfl) (fun _ _ _ h => h) (Or.inl ⟨by rfl, fun w' hSw => by go_simp⟩) hHeld ?_
   simp only [Act.put, List.getElem_toArray, List.getElem_cons_succ, List.getElem_cons_zero, List.setIfInBounds_toArray, List.set_cons_zero, List.set_cons_succ]
   refine wpAnyH_take (i := 11) (v := .bool false) rfl (by kernel_rfl) (by kernel_rfl) (by kernel_rfl) (fun _ _ _ h => h) (Or.inl ⟨by rfl, fun w' hSw => by go_simp⟩) hHeld ?_
   simp only [Act.put, List.getElem_toArray, List.getElem_cons_succ, List.getElem_cons_zero, List.setIfInBounds_toArray, List.set_cons_zero, List.set_cons_succ]
   refine wpAnyH_done (by kernel_rfl) ?_ _
   have HM5 := Lib.hid (HM.out.keep (HB5.out.block _ (ent_lt HM.out.cell)) (HB5.out.block _ HL.out.lt) (fun x hx => HB5.out.block _ (HQ.out x hx).1) fun _ _ h => h)
   have HL5 := Lib.hid (HL.out.keep (w' := w5) (HB5.out.block _ HL.out.lt) (freeQ_keep fun x hx => HB5.out.block _ (HQ.out x hx).1))
   have HG5 := Lib.hid (ent_below HG.out HB5.out)
   have m0 := ent_cell HM5.out.cell 2 _ rfl
   have mf := ent_free HM5.out.cell
   have ml := ent_lt HM5.out.cell
   have hnn : (n : Int) + (xs.length : Int) ≤ 100000000000 := by have := HN.out; omega
   have hnn0 : (0 : Int) ≤ (n : Int) := by omega
   obtain ⟨zs, hzs, hmake⟩ := madeTypes xs.length (by omega) w5
   have HZ := Lib.hid hzs
   clear hzs
   go_upto_region 8 with fail
   have EM6 := Lib.hid (ent_alloc (ent_set HM5.out.cell 2 (.int .i64 ((n : Int) + (xs.length : Int)))) (.cells zs 30))
   have EZ6 := ent_new (w5.setCell ⟨mb, 2, none⟩ (.int .i64 ((n : Int) + (xs.length : Int)))) zs 30
   rw [show (w5.setCell ⟨mb, 2, none⟩ (.int .i64 ((n : Int) + (xs.length : Int)))).heap.size = w5.heap.size by simp] at EZ6
   have HEZ6 := Lib.hid EZ6
   have HC56 := Lib.hid ((Chg.set (R := (· = mb)) (w := w5) (p := ⟨mb, 2, none⟩) rfl (.int .i64 ((n : Int) + (xs.length : Int)))).trans (Chg.alloc _ (.cells zs 30)))
   clear EZ6 m0 mf ml hmake hnn0
   generalize (w5.setCell ⟨mb, 2, none⟩ (.int .i64 ((n : Int) + (xs.length : Int)))).alloc (.cells zs 30) = w6 at EM6 HEZ6 HC56 ⊢
   have hdm : db ≠ mb := fun e => by obtain ⟨es, kk, hm⟩ := HL5.out.obj; have := HM5.out.cell; rw [← e, hm] at this; cases this
   have HQ6 := Lib.hid (show ∀ x, Q x → w6.heap[x.1]? = w5.heap[x.1]? from fun x hx => HC56.out.block _ (by have := (HQ.out x hx).1; have := HB5.out.size; omega) (HQ.out x hx).2.1)
   have hBn : w.heap.size ≤ w5.heap.size := HB5.out.size
   obtain ⟨B, hB⟩ : ∃ B, B = w5.heap.size := ⟨_, rfl⟩
   rw [← hB] at HEZ6 ⊢
   have HBB := Lib.hid (show w.heap.size ≤ B by omega)
   have hle : c.le (c.upd B (xs.map (Ux.Ty.app N))) := fun b ys hb => by
    unfold Asg.upd
    by_cases e : b = B
    · exfalso; have := HFR.out B HBB.out; rw [e] at hb; rw [this] at hb; cases hb
    · rw [if_neg e]; exact hb
   have HM6 : Hid (MkS Q N (c.upd B (xs.map (Ux.Ty.app N))) mb db lv (n + xs.length) w6) := Lib.hid (by
    obtain ⟨_, L2, h4, h5⟩ := HM5.out.keep (w' := w6.setCell ⟨mb, 2, none⟩ (.int .i64 n)) ((ent_set EM6.out 2 (.int .i64 n)).trans HM5.out.cell.symm) ((Below.heap_setCell w6 ⟨mb, 2, none⟩ _ db hdm).trans (HC56.out.block _ HL5.out.lt hdm)) (fun x hx => (Below.heap_setCell w6 ⟨mb, 2, none⟩ _ x.1 (HQ.out x hx).2.1).trans (HQ6.out x hx)) hle
    have hq : ∀ x, Q x → w6.heap[x.1]? = (w6.setCell ⟨mb, 2, none⟩ (.int .i64 n)).heap[x.1]? := fun x hx => (Below.heap_setCell w6 ⟨mb, 2, none⟩ _ x.1 (HQ.out x hx).2.1).symm
    refine ⟨by have := EM6.out; simpa using this, L2, h4.keep (Below.heap_setCell w6 ⟨mb, 2, none⟩ _ db hdm).symm (freeQ_keep hq), fun x v hv => ?_⟩
    obtain ⟨B, cap, ys, xs, p, e1, e2, e3, e4, e5, e6, e7, e8⟩ := h5 x v hv
    exact ⟨B, cap, ys, xs, p, e1, e2, e3, e4, e5, e6, e7.mono (fun x hx => ⟨hx, hq x hx⟩) fun u x _ hu => tyQ_keep hu hq, e8⟩)
   have HC6 := Lib.hid ((Chg.of_below HB5.out : Chg (fun b => b = mb ∨ b = db) w w5).then HC56.out fun x _ e => .inl e)
   have HG6 := Lib.hid ((HQ6.out _ HX.out.1).trans HG5.out)
   have hzl := HZ.out
   have HZL := Lib.hid hzl
   clear hzl hle HL5 HL HLF HLK HM5 HM HG5 HG hB
   by_cases hbig : 65536 < n + xs.length
   · have hbI : decide ((65536 : Int) < (n : Int) + (xs.length : Int)) = true := by simp; omega
     have m2 := ent_cell EM6.out 2 _ rfl
     have hdl : db < w6.heap.size := by obtain ⟨es, k, hk⟩ := HM6.out.made.elim fun L hL => hL.1.obj; exact ent_lt hk
     have HQL := Lib.hid (show ∀ x, Q x → x.1 < w6.heap.size from fun x hx => by have := (HQ.out x hx).1; have := HC6.out.size; omega)
     go_wp2_with fail
     refine wp_region_held_drew (S := fun (u : World) => Chg (· = db) w6 u) (by kernel_rfl) ((Chg.drew _)) (fun hHeld => ?_)
     refine wpAnyH_take (i := 0) (v := .pointer (some ⟨mb, 0, none⟩)) rfl (by kernel_rfl) (by kernel_rfl) (by kernel_rfl) (fun _ _ _ h => h) (Or.inl ⟨by rfl, fun w' hSw => by go_simp⟩) hHeld ?_
     refine wpAnyH_take (i := 1) (v := .pointer (some ⟨mb, 0, none⟩)) rfl (by kernel_rfl) (by kernel_rfl) (by kernel_rfl) (fun _ _ _ h => h) (Or.inl ⟨by rfl, fun w' hSw => by go_simp⟩) hHeld ?_
     refine wpAnyH_take (i := 2) (v := .pointer (some ⟨mb, 1, none⟩)) rfl (by kernel_rfl) (by kernel_rfl) (by kernel_rfl) (fun _ _ _ h => h) (Or.inl ⟨by rfl, fun w' hSw => by go_simp⟩) hHeld ?_
     refine wpAnyH_take (i := 3) (v := .map (some db)) rfl (by kernel_rfl) (by kernel_rfl) (by kernel_rfl) (fun _ _ _ h => h) (Or.inl ⟨by rfl, fun w' hSw => by have h := ent_cell (ent_chg HM6.out.cell hSw (Ne.symm hdm)) 1 _ rfl; go_simp⟩) hHeld ?_
     refine wpAnyH_take (i := 4) (v := .slice (some ⟨g, o, none⟩) xs.length cp) rfl (by kernel_rfl) (by kernel_rfl) (by kernel_rfl) (fun _ _ _ h => h) (Or.inl ⟨by rfl, fun w' hSw => by go_simp⟩) hHeld ?_
     refine wpAnyH_take (i := 6) (v := .slice (some ⟨B, 0, none⟩) xs.length xs.length) rfl (by kernel_rfl) (by kernel_rfl) (by kernel_rfl) (fun _ _ _ h => h) (Or.inl ⟨by rfl, fun w' hSw => by go_simp⟩) hHeld ?_
     try simp only [Act.put, List.getElem_toArray, List.getElem_cons_succ, List.getElem_cons_zero, List.setIfInBounds_toArray, List.set_cons_zero, List.set_cons_succ]
     refine wpAnyH_ready (rs := [5]) (by kernel_rfl) (by simp) ?_
     refine AllReadyH.cons rfl (fun K hK => ?_) AllReadyH.nil
     go_simp
     refine (listOf_any g o xs.length cp hpos hcp hcx _).mono ?_
     rintro e w7 ⟨rfl, hb7⟩
     replace hb7 := undrew hb7
     have HB7 := Lib.hid hb7
     clear hb7
     have HM7 := Lib.hid (HM6.out.keep (HB7.out.block _ (ent_lt HM6.out.cell)) (HB7.out.block _ hdl) (fun x hx => HB7.out.block _ (HQL.out x hx)) fun _ _ h => h)
     obtain ⟨hcell7, L7, hL7, hLf7⟩ := HM7.out
     have hobj7 := hL7.obj
     obtain ⟨wu, hup, hmk, hgr⟩ := hL7.update (lawLQ Q) Tryd.underlying107 (g, o, xs.length) ⟨HX.out.1, _, _, ent_below HG6.out HB7.out⟩ (.slice (some ⟨B, 0, none⟩) xs.length xs.length) (freeQ_other hobj7)
     have hch : Chg (· = db) w7 wu := Chg.grown hgr fun k hk => by injection hk with hk; exact hk.symm
     replace hup : (Instr.mapUpdate 107 (.map (some db)) (.agg #[.pointer (some ⟨g, o, none⟩), .int .i64 (xs.length : Int)]) (.slice (some ⟨B, 0, none⟩) xs.length xs.length)).run Tryd.prog w7 = .ok () wu := hup
     have HCELL7 := Lib.hid hcell7
     have HMK := Lib.hid hmk
     have HLF7 := Lib.hid hLf7
     have HCH := Lib.hid hch
     clear hcell7 hL7 hLf7 hobj7 hmk hgr hch
     refine hK.out _ _ (.of_below HB7.out) (fun hHeld => ?_)
     clear hK K
     refine wpAnyH_ready (rs := [7]) (by kernel_rfl) (by simp) ?_
     refine AllReadyH.cons rfl (fun K hK => ?_) AllReadyH.nil
     go_simp
     refine hK.out _ _ ((Chg.of_below HB7.out).trans HCH.out) (fun hHeld => ?_)
     clear hK K
     refine wpAnyH_done (by kernel_rfl) ?_ _
     clear hup
     go_wp2_with fail
     go_ret2
     have hcu : Chg (· = db) w6 wu := (Chg.of_below HB7.out).trans HCH.out
     have hqu : ∀ x, Q x → wu.heap[x.1]? = w7.heap[x.1]? := fun x hx => HCH.out.block _ (by have := HQL.out x hx; have := HB7.out.size; omega) (HQ.out x hx).2.2
     have hq67 : ∀ x, Q x → wu.heap[x.1]? = w.heap[x.1]? := fun x hx => ((hqu x hx).trans (HB7.out.block _ (HQL.out x hx))).trans ((HQ6.out x hx).trans (HB5.out.block _ (HQ.out x hx).1))
     refine ⟨HC6.out.then hcu fun x _ e => .inr e, .inr (.inr ⟨HNE.out, B, zs, HBB.out, ent_chg HEZ6.out hcu fun e => ?_, HZL.out, rfl, ent_chg HCELL7.out HCH.out (Ne.symm hdm), _, HMK.out.keep rfl (freeQ_keep fun _ _ => rfl), fun x v hv => ?_⟩)⟩
     · obtain ⟨es, k, hk⟩ := HM6.out.made.elim fun L hL => hL.1.obj
       have := HEZ6.out
       rw [e, hk] at this; cases this
     · rw [lookL_set] at hv
       by_cases hxk : x = (g, o, xs.length)
       · rw [if_pos hxk] at hv
         injection hv with hv
         subst hxk
         refine ⟨B, xs.length, xs.map (Ux.Ty.app N), xs, cp, by rw [← hv]; simp, by simp, by have := HN.out; omega, by unfold Asg.upd; rw [if_pos rfl], rfl, rfl, .inr ⟨g, o, cp, cs, T, rfl, HNE.out, HX.out.1, hcp, hcx, (hq67 _ HX.out.1).trans ?_, fun i y hy => ?_⟩, HX.out.1⟩
         · have h1 := HG6.out
           have h2 := (HQ6.out _ HX.out.1).trans (HB5.out.block _ (HQ.out _ HX.out.1).1)
           exact h2.symm.trans h1
         · obtain ⟨u, a, b, d⟩ := HX.out.2 i y hy
           exact ⟨u, tyQ_keep a hq67, b, d⟩
       · rw [if_neg hxk] at hv
         obtain ⟨B, cap, ys, xs, p, e1, e2, e3, e4, e5, e6, e7, e8⟩ := HLF7.out x v hv
         exact ⟨B, cap, ys, xs, p, e1, e2, e3, e4, e5, e6, e7.mono (fun x hx => ⟨hx, hqu x hx⟩) fun u x _ hu => tyQ_keep hu hqu, e8⟩
   · have hbI : decide ((65536 : Int) < (n : Int) + (xs.length : Int)) = false := by simp; omega
     have m2 := ent_cell EM6.out 2 _ rfl
     go_wp2_with fail
     go_ret2
     exact ⟨HC6.out, .inr (.inr ⟨HNE.out, B, zs, HBB.out, HEZ6.out, HZL.out, rfl, HM6.out⟩)⟩
end Go.Proofs.YtcblppojnailpaaDoor
namespace Go.Proofs.YtcblppojnailpaaDoor
open Go Go.RowKit
set_option linter.unusedVariables false
set_option linter.unusedSimpArgs false
/-- A list of which some is made: in which block it is made, how much of it, what is still to be made. -/
structure Hf where
 B : Nat
 k : Nat
 xs : List Ux.Ty
 fv : Value
 tv : Value
def hw (N : Ux.Sub) (xs : List Ux.Ty) : Nat := (xs.map fun x => 2 * (x.app N).sz).sum
def ow (N : Ux.Sub) (os : List Hf) : Nat := (os.map fun h => 1 + hw N h.xs).sum
/-- The list's cells, the last one first. -/
def oc : List Hf → List Value
 | [] => []
 | h :: r => oc r ++ [h.fv, h.tv]
theorem oc_len : ∀ os : List Hf, (oc os).length = os.length * 2
 | [] => rfl
 | h :: r => by rw [oc, List.length_append, oc_len r]; simp; omega
theorem oc_top (h : Hf) (r : List Hf) : (oc (h :: r))[r.length * 2]? = some h.fv ∧ (oc (h :: r))[r.length * 2 + 1]? = some h.tv := by
 rw [oc]
 constructor
 · rw [List.getElem?_append_right (by rw [oc_len]; omega), oc_len]; simp
 · rw [List.getElem?_append_right (by rw [oc_len]; omega), oc_len]; simp
theorem oc_set (h h' : Hf) (r : List Hf) : ((oc (h :: r)).set (r.length * 2) h'.fv).set (r.length * 2 + 1) h'.tv = oc (h' :: r) := by
 have := oc_len r
 rw [oc, oc, List.set_append_right _ _ (by omega), this, List.set_append_right _ _ (by omega), this]
 simp
theorem ow_len (N : Ux.Sub) : ∀ os : List Hf, os.length ≤ ow N os
 | [] => Nat.zero_le _
 | h :: r => by have := ow_len N r; unfold ow at this ⊢; simp; omega
def QF (Q : LKey → Prop) (a0 : Nat) (x : LKey) : Prop := x.1 = a0 ∨ ∃ q, Q q ∧ q.1 = x.1
structure HfOk (Q : LKey → Prop) (N : Ux.Sub) (a0 : Nat) (c : Asg) (w : World) (h : Hf) : Prop where
 ex : ∃ ys, c h.B = some ys ∧ h.k + h.xs.length = ys.length ∧ ys.drop h.k = h.xs.map (Ux.Ty.app N)
 fr : RowQ (QF Q a0) (TyQ Q w) w h.fv h.xs
 tt : h.xs ≠ [] → h.tv = .slice (some ⟨h.B, h.k * 3, none⟩) h.xs.length h.xs.length
 ts : ∃ p cc, h.tv = .slice p h.xs.length cc
theorem HfOk.keep {Q : LKey → Prop} {N : Ux.Sub} {a0 : Nat} {c c' : Asg} {w w' : World} {h : Hf} (k : HfOk Q N a0 c w h) (hc : c.le c') (hq : ∀ x, Q x → w'.heap[x.1]? = w.heap[x.1]?) (ha : w'.heap[a0]? = w.heap[a0]?) : HfOk Q N a0 c' w' h := by
 obtain ⟨⟨ys, h1, h2, h3⟩, h4, h5, h6⟩ := k
 refine ⟨⟨ys, hc _ _ h1, h2, h3⟩, h4.mono (fun x hx => ⟨hx, ?_⟩) (fun u x _ hu => tyQ_keep hu hq), h5, h6⟩
 rcases hx with e | ⟨q, hq1, e⟩
 · rw [e]; exact ha
 · rw [← e]; exact hq q hq1
/-- How many of a list's elements are made. -/
def posOf (os : List Hf) (B d : Nat) : Nat := match os.find? (fun h => h.B = B) with
 | some h => h.k
 | none => d
theorem posOf_nil (B d : Nat) : posOf [] B d = d := rfl
theorem posOf_cons (h : Hf) (r : List Hf) (B d : Nat) : posOf (h :: r) B d = if h.B = B then h.k else posOf r B d := by
 unfold posOf
 rw [List.find?_cons]
 by_cases e : h.B = B
 · simp [e]
 · simp [e]
theorem posOf_out {os : List Hf} {B d : Nat} (h : ∀ x ∈ os, x.B ≠ B) : posOf os B d = d := by
 induction os with
 | nil => rfl
 | cons x r ih => rw [posOf_cons, if_neg (h x (by simp)), ih fun y hy => h y (by simp [hy])]
/-- What a variable comes to, and a type: one step of what N says. -/
def Res (N : Ux.Sub) (T X : Ux.Ty) : Prop := match T with
 | .v m => X = .v m
 | .a nm xs => X = .a nm (xs.map (Ux.Ty.app N))
/-- What looks for variables: function F with caps. I stays while others than L's blocks change. -/
structure LookC (Q : LKey → Prop) (N : Ux.Sub) (L0 mb db : Nat) (RL : Nat → Prop) (F : FuncId) (caps : Array Value) (I : World → Prop) : Prop where
 enters : ∀ args w, (callFunc F args).run Tryd.prog w = .ok (.enter F args) w
 call : ∀ (w : World) (n : Nat), I w → L0 ≤ w.heap.size → Calls Tryd.prog F (#[.int .i64 n] ++ caps) w fun e w' => ∃ r T, e = .returned r ∧ Res N T (N n) ∧ TyQ Q w' r T ∧ I w' ∧ Chg RL w w'
 stay : ∀ w w', I w → Chg (fun b => b = mb ∨ b = db ∨ L0 ≤ b) w w' → I w'
 out : ∀ b, RL b → b < L0 ∧ b ≠ mb ∧ b ≠ db
 q : ∀ x, Q x → x.1 < L0 ∧ x.1 ≠ mb ∧ x.1 ≠ db ∧ ¬ RL x.1
 dist : mb < L0 ∧ db < L0
/-- What stands throughout. -/
structure MkW (Q : LKey → Prop) (N : Ux.Sub) (L0 mb db : Nat) (RL : Nat → Prop) (lv : Value) (I : World → Prop) (w0 : World) (c0 c : Asg) (n : Nat) (w : World) : Prop where
 inv : I w
 mks : MkS Q N c mb db lv n w
 le : c0.le c
 new : ∀ B, c B ≠ none → c0 B = none → L0 + 2 ≤ B ∧ B ≠ L0 + 3
 fresh : ∀ B, w.heap.size ≤ B → c B = none
 chg : Chg (fun b => b = mb ∨ b = db ∨ RL b) w0 w
 size : L0 = w0.heap.size
/-- What was made. -/
def MkM (c : Asg) (os : List Hf) (w : World) : Prop := ∀ B ys, c B = some ys → MadeB c w B ys (posOf os B ys.length)
end Go.Proofs.YtcblppojnailpaaDoor
namespace Go.Proofs.YtcblppojnailpaaDoor
open Go Go.RowKit
set_option linter.unusedVariables false
set_option linter.unusedSimpArgs false
theorem slice_tail (g o m c : Nat) (hm : m + 1 ≤ c) (hc : (c : Int) ≤ 9223372036854775807) : ∃ p', (0 < m → p' = some (⟨g, o + 3, none⟩ : Addr)) ∧ ∀ w : World, (Instr.sliceAt 28 (.slice (some ⟨g, o, none⟩) (m + 1) c) (some (.int .i64 1)) none none).run Tryd.prog w = .ok (.slice p' m (c - 1)) w := by
 have h1 : (1 : Int) ≤ ((m + 1 : Nat) : Int) := by omega
 by_cases e : c = 1
 · refine ⟨some ⟨g, o, none⟩, fun h => by omega, fun w => ?_⟩
   obtain rfl : m = 0 := by omega
   subst e
   simp [go_sem, Tryd.underlying28, Tryd.sizeOf30]
 · refine ⟨some ⟨g, o + 3, none⟩, fun h => rfl, fun w => ?_⟩
   have e2 : ¬ (1 = c) := fun h => e h.symm
   have e3 : ¬ (c ≤ 1) := by omega
   simp [go_sem, Tryd.underlying28, Tryd.sizeOf30, e, e2, e3]
   intro h; exfalso; omega
end Go.Proofs.YtcblppojnailpaaDoor
