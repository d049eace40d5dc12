/-
  Several texts in one: Row, REnt, NumPure, JoinPure, PTk.
-/
import Derived.Test.YtgoacbomphlhjaaG00
import Derived.Maps.AppendAt
import Derived.Lib.ItoaNum
namespace Go.Proofs.Ytgoacbomphlhjaa
open Go Go.RowKit
set_option linter.unusedVariables false
set_option linter.unusedSimpArgs false
open Go Go.RowKit
set_option linter.unusedVariables false
set_option linter.unusedSimpArgs false
namespace Px
theorem each_append {α : Type} (f : Node → R α) (a b : List Node) : each f (a ++ b) = match each f a with | .error p => .error p | .ok xs => match each f b with | .error p => .error p | .ok ys => .ok (xs ++ ys) := by
 induction a with
 | nil => simp only [List.nil_append, each]; cases each f b <;> rfl
 | cons n r ih =>
   simp only [List.cons_append, each, ih]
   cases f n with
   | error p => rfl
   | ok x =>
     cases each f r with
     | error p => rfl
     | ok xs => cases each f b <;> rfl
theorem each_take {α : Type} {f : Node → R α} {l : List Node} {k : Nat} {n : Node} {xs : List α} (hn : l[k]? = some n) (h : each f (l.take k) = .ok xs) :
 (∀ x, f n = .ok x → each f (l.take (k + 1)) = .ok (xs ++ [x])) ∧ (∀ p, f n = .error p → each f l = .error p) := by
 obtain ⟨hk, rfl⟩ := List.getElem?_eq_some_iff.1 hn
 refine ⟨fun x hx => ?_, fun p hp => ?_⟩
 · rw [List.take_succ_eq_append_getElem hk, each_append, h]
   simp only [each, hx]
 · rw [← List.take_append_drop k l, each_append, h, List.drop_eq_getElem_cons hk]
   simp only [each, hp]
theorem each_len {α : Type} {f : Node → R α} : ∀ {l : List Node} {xs : List α}, each f l = .ok xs → xs.length = l.length := by
 intro l
 induction l with
 | nil => intro xs h; simp only [each, Except.ok.injEq] at h; subst h; rfl
 | cons n r ih =>
   intro xs h
   simp only [each] at h
   cases hf : f n with
   | error p => rw [hf] at h; cases h
   | ok x =>
     rw [hf] at h
     cases hr : each f r with
     | error p => rw [hr] at h; cases h
     | ok ys => rw [hr] at h; simp only [Except.ok.injEq] at h; subst h; simp [ih hr]
end Px
/-- Values that stand for parts, one by one. -/
def Reps {α : Type} (rep : Value → α → Prop) : List Value → List α → Prop
 | [], [] => True
 | v :: vs, x :: xs => rep v x ∧ Reps rep vs xs
 | _, _ => False
theorem Reps.len {α : Type} {rep : Value → α → Prop} : ∀ {vs : List Value} {xs : List α}, Reps rep vs xs → vs.length = xs.length
 | [], [], _ => rfl
 | _ :: _, _ :: _, h => by simp [Reps.len h.2]
 | [], _ :: _, h => h.elim
 | _ :: _, [], h => h.elim
theorem Reps.snoc {α : Type} {rep : Value → α → Prop} {v : Value} {x : α} (hx : rep v x) : ∀ {vs : List Value} {xs : List α}, Reps rep vs xs → Reps rep (vs ++ [v]) (xs ++ [x])
 | [], [], _ => ⟨hx, trivial⟩
 | _ :: _, _ :: _, h => ⟨h.1, Reps.snoc hx h.2⟩
 | [], _ :: _, h => h.elim
 | _ :: _, [], h => h.elim
theorem Reps.mono {α : Type} {rep rep' : Value → α → Prop} (hr : ∀ v x, rep v x → rep' v x) : ∀ {vs : List Value} {xs : List α}, Reps rep vs xs → Reps rep' vs xs
 | [], [], _ => trivial
 | _ :: vs, _ :: xs, h => ⟨hr _ _ h.1, Reps.mono hr h.2⟩
 | [], _ :: _, h => h.elim
 | _ :: _, [], h => h.elim
theorem Reps.at {α : Type} {rep : Value → α → Prop} : ∀ {vs : List Value} {xs : List α} {i : Nat} {x : α}, Reps rep vs xs → xs[i]? = some x → ∃ v, vs[i]? = some v ∧ rep v x
 | [], [], _, _, _, h => by simp at h
 | v :: _, _ :: _, 0, _, h, hx => by simp at hx; subst hx; exact ⟨v, rfl, h.1⟩
 | _ :: _, _ :: _, _ + 1, _, h, hx => by simp at hx; simpa using Reps.at h.2 hx
 | [], _ :: _, _, _, h, _ => h.elim
 | _ :: _, [], _, _, h, _ => h.elim
def cellsOf (vs : List Value) : List Value := vs.flatMap fun v => v.cells.toList
theorem cellsOf_len (sz : Nat) : ∀ {vs : List Value}, (∀ v ∈ vs, v.cells.size = sz) → (cellsOf vs).length = vs.length * sz
 | [], _ => by simp [cellsOf]
 | v :: vs, h => by
   have e : cellsOf (v :: vs) = v.cells.toList ++ cellsOf vs := by simp [cellsOf]
   rw [e, List.length_append, Array.length_toList, h v (by simp), cellsOf_len sz (fun u hu => h u (by simp [hu])), List.length_cons, Nat.add_mul]; omega
theorem cellsOf_at (sz : Nat) : ∀ {vs : List Value} {i j : Nat} {v c : Value}, (∀ v ∈ vs, v.cells.size = sz) → vs[i]? = some v → v.cells[j]? = some c → (cellsOf vs)[i * sz + j]? = some c
 | [], _, _, _, _, _, h, _ => by simp at h
 | u :: vs, 0, j, v, c, hs, h, hc => by
   simp at h; subst h
   have e : cellsOf (u :: vs) = u.cells.toList ++ cellsOf vs := by simp [cellsOf]
   have hj : j < u.cells.size := (Array.getElem?_eq_some_iff.1 hc).1
   rw [e, Nat.zero_mul, Nat.zero_add, List.getElem?_append_left (by simpa using hj)]; simpa using hc
 | u :: vs, i + 1, j, v, c, hs, h, hc => by
   simp at h
   have e : cellsOf (u :: vs) = u.cells.toList ++ cellsOf vs := by simp [cellsOf]
   have hu := hs u (by simp)
   rw [e, List.getElem?_append_right (by rw [Array.length_toList, hu, Nat.add_mul]; omega), Array.length_toList, hu]
   have := cellsOf_at sz (fun x hx => hs x (by simp [hx])) h hc
   rw [← this]; congr 1; rw [Nat.add_mul]; omega
/-- A list of parts as a slice of elements of sz cells. -/
def RowAt {α : Type} (sz : Nat) (rep : Value → α → Prop) (w : World) (v : Value) (xs : List α) : Prop :=
 (xs = [] ∧ ∃ p c, v = .slice p 0 c) ∨
   ∃ g o c, v = .slice (some ⟨g, o, none⟩) xs.length c ∧ xs.length ≤ c ∧ (c : Int) ≤ 9223372036854775807 ∧
    ∀ i x, xs[i]? = some x → ∃ u, rep u x ∧ u.cells.size = sz ∧ ∀ j z, u.cells[j]? = some z → w.cell? ⟨g, o + i * sz + j, none⟩ = some z
theorem RowAt.len {α : Type} {sz : Nat} {rep : Value → α → Prop} {w : World} {v : Value} {xs : List α} (h : RowAt sz rep w v xs) : ∃ p c, v = .slice p xs.length c := by
 rcases h with ⟨rfl, p, c, rfl⟩ | ⟨g, o, c, h, _⟩
 · exact ⟨p, c, rfl⟩
 · exact ⟨_, c, h⟩
theorem RowAt.mono {α : Type} {sz : Nat} {rep rep' : Value → α → Prop} {w w' : World} {v : Value} {xs : List α} (h : RowAt sz rep w v xs) (hb : Below w.heap.size w w') (hr : ∀ u x, x ∈ xs → rep u x → rep' u x) : RowAt sz rep' w' v xs := by
 rcases h with h | ⟨g, o, c, h1, h2, h3, h4⟩
 · exact .inl h
 · refine .inr ⟨g, o, c, h1, h2, h3, fun i x hx => ?_⟩
   obtain ⟨u, a, b, d⟩ := h4 i x hx
   refine ⟨u, hr u x (List.mem_of_getElem? hx) a, b, fun j z hz => ?_⟩
   have := d j z hz
   rw [hb.cell (World.block_lt_of_cell? w _ this)]; exact this
/-- What the new blocks of a call hold: it stays while they stay. -/
def New {α : Type} (rep : World → Value → α → Prop) (w w' : World) (v : Value) (x : α) : Prop :=
 ∀ u : World, (∀ b, w.heap.size ≤ b → b < w'.heap.size → u.heap[b]? = w'.heap[b]?) → rep u v x
theorem New.now {α : Type} {rep : World → Value → α → Prop} {w w' : World} {v : Value} {x : α} (h : New rep w w' v x) : rep w' v x := h w' fun _ _ _ => rfl
/-- A part that stays while the blocks from lo to hi stay, a list's own block not among them. -/
def Kept {α : Type} (rep : World → Value → α → Prop) (base : Nat) (w : World) (ob : Option Nat) (v : Value) (x : α) : Prop :=
 ∃ lo hi, base ≤ lo ∧ hi ≤ w.heap.size ∧ (∀ g, ob = some g → g < lo ∨ hi ≤ g) ∧ ∀ u : World, (∀ b, lo ≤ b → b < hi → u.heap[b]? = w.heap[b]?) → rep u v x
theorem Kept.since {α : Type} {rep : World → Value → α → Prop} {base : Nat} {w w' : World} {ob ob' : Option Nat} {v : Value} {x : α} (h : Kept rep base w ob v x) (hs : w.heap.size ≤ w'.heap.size)
 (hk : ∀ b, base ≤ b → b < w.heap.size → ob ≠ some b → w'.heap[b]? = w.heap[b]?) (ho : ob' = ob ∨ ∀ g, ob' = some g → w.heap.size ≤ g) : Kept rep base w' ob' v x := by
 obtain ⟨lo, hi, h0, h1, h2, h3⟩ := h
 refine ⟨lo, hi, h0, by omega, fun g hg => ?_, fun u hu => h3 u fun b hb1 hb2 => ?_⟩
 · rcases ho with rfl | ho
   · exact h2 g hg
   · have := ho g hg; omega
 · rw [hu b hb1 hb2]
   exact hk b (by omega) (by omega) (fun e => by have := h2 b e; omega)
theorem Kept.step {α : Type} {rep : World → Value → α → Prop} {base : Nat} {w w' : World} {ob ob' : Option Nat} {v : Value} {x : α} (h : Kept rep base w ob v x) (hs : w.heap.size ≤ w'.heap.size)
 (hk : ∀ b, b < w.heap.size → ob ≠ some b → w'.heap[b]? = w.heap[b]?) (ho : ob' = ob ∨ ∀ g, ob' = some g → w.heap.size ≤ g) : Kept rep base w' ob' v x :=
 h.since hs (fun b _ => hk b) ho
theorem Kept.below {α : Type} {rep : World → Value → α → Prop} {base : Nat} {w w' : World} {ob : Option Nat} {v : Value} {x : α} (h : Kept rep base w ob v x) (hb : Below w.heap.size w w') : Kept rep base w' ob v x :=
 h.step hb.size (fun b hb1 _ => hb.block b hb1) (.inl rfl)
theorem New.kept {α : Type} {rep : World → Value → α → Prop} {base : Nat} {w w' : World} {ob : Option Nat} {v : Value} {x : α} (h : New rep w w' v x) (hb : base ≤ w.heap.size) (ho : ∀ g, ob = some g → g < w.heap.size) : Kept rep base w' ob v x :=
 ⟨w.heap.size, w'.heap.size, hb, Nat.le_refl _, fun g hg => .inl (ho g hg), h⟩
/-- A list of the call's own, its parts made since: what the call hands back. -/
theorem New.row {α : Type} {sz : Nat} {rep : World → Value → α → Prop} {w0 w : World} {E n : Nat} {v : Value} {vs : List Value} {xs : List α} (h : w.ownsRow w0.heap.size E sz v n (cellsOf vs)) (hn : n = xs.length)
 (hr : Reps (Kept rep w0.heap.size w v.ownBlock) vs xs) (hs : ∀ v ∈ vs, v.cells.size = sz) : New (fun u => RowAt sz (rep u) u) w0 w v xs := by
 intro u hu
 subst hn
 rcases h.2 with ⟨rfl, hn⟩ | ⟨g, cap, cur, rfl, hb, hg, hc1, hc2, hc3, hc4⟩
 · exact .inl ⟨List.eq_nil_of_length_eq_zero hn, none, 0, rfl⟩
 · refine .inr ⟨g, 0, cap, rfl, hc1, by unfold maxLen at hc2; omega, fun i x hx => ?_⟩
   obtain ⟨y, hy, lo, hi, h0, h1, _, h3⟩ := hr.at hx
   refine ⟨y, h3 u fun b hb1 hb2 => hu b (by omega) (by omega), hs y (List.mem_of_getElem? hy), fun j z hz => ?_⟩
   have hcell := World.ownsRow.cells h (g := g) rfl (i * sz + j) z (cellsOf_at sz hs hy hz)
   have e : (⟨g, 0, none⟩ : Addr).add (i * sz + j) = ⟨g, 0 + i * sz + j, none⟩ := by unfold Addr.add; split <;> simp_all
   rw [e] at hcell
   have hlt : g < w.heap.size := (Array.getElem?_eq_some_iff.1 hg).1
   rw [World.cell?_of_block (w := w) (hu g hb hlt)]; exact hcell
theorem run_append_loc (w : World) (base : Nat) (t ty e : TypeId) (i : TypeInfo) (z : Value) (size bytes : Nat) (ht : Try.prog.underlying t = some (.slice e)) (hi : Try.prog.info? e = some i) (hz : i.zero = some z)
 (hsize : i.size = size) (hby : i.bytes = bytes) (hzs : z.cells.size = size) (hsz : 0 < size)
 (v : Value) (n : Nat) (xs : List Value) (hown : w.ownsRow base e size v n xs)
 (a : Addr) (m c : Nat) (hm : 0 < m) (news : List Value) (hl : news.length = m * size) (hnews : ∀ j u, news[j]? = some u → w.cell? (a.add j) = some u) (h1 : ∀ u ∈ news, u.oneCell' = true)
 (h63 : n + m ≤ maxLen) (hbytes : (n + m) * bytes ≤ 140737488355328) (hbase : base ≤ w.heap.size) :
 ∃ v' w', (Builtin.append_ #[t, t] ty #[v, .slice (some a) m c]).run Try.prog w = .ok v' w' ∧ w'.ownsRow base e size v' (n + m) (xs ++ news) ∧ w.grownBy w' v.ownBlock ∧
  (v'.ownBlock = v.ownBlock ∨ ∀ g, v'.ownBlock = some g → w.heap.size ≤ g) := by
 obtain ⟨v', w', hr, h2, h3, _⟩ := run_append_own (P := Try.prog) w base t ty e i z size bytes ht hi hz hsize hby hzs hsz v n xs hown a m c news hl hnews h1 h63 hbytes hbase
 refine ⟨v', w', hr, h2, h3, ?_⟩
 subst hsize
 subst hby
 have hsmall : n + m ≤ 9223372036854775807 := by simp only [maxLen] at h63; omega
 rcases hown.2 with ⟨rfl, rfl⟩ | ⟨g, cap, cur, rfl, hbg, hg, hnc, hcm, hcs, htake⟩
 · have hr' := run_append_nil (P := Try.prog) w t ty e i z ht hi hz a m c news hl hnews (by omega) (by omega) (by have hb := hbytes; simp only [Nat.zero_add] at hb; omega)
   rw [hr] at hr'
   injection hr' with hv _
   subst hv
   exact .inr fun g hg => by simp only [Value.ownBlock, Option.some.injEq] at hg; omega
 · by_cases hroom : n + m ≤ cap
   · have hfit : n * i.size + news.length ≤ cur.size := by rw [hl, hcs, ← Nat.add_mul]; exact Nat.mul_le_mul_right _ hroom
     have hr' := run_append_room (P := Try.prog) w t ty e i ht hi g n cap cur hg a m c news hl hnews h1 hroom hfit
     rw [hr] at hr'
     injection hr' with hv _
     subst hv
     exact .inl rfl
   · have holds : ∀ j u, xs[j]? = some u → w.cell? ((⟨g, 0, none⟩ : Addr).add j) = some u := hown.cells (g := g) rfl
     have hr' := run_append_grow (P := Try.prog) w t ty e i z ht hi hz ⟨g, 0, none⟩ n cap xs hown.1 holds a m c news hl hnews (by omega) (by omega) (growslice_fits (by omega) hbytes)
     rw [hr] at hr'
     injection hr' with hv _
     subst hv
     exact .inr fun g hg => by simp only [Value.ownBlock, Option.some.injEq] at hg; omega
theorem wpList_append_loc (w : World) {ops : Array Oper} {rest : List Oper} {o : Oper} {a : Act} {Q : Exit → Act → World → Prop} (hgd : o.guard = none) (s x : Operand) (t : TypeId)
 (ho : o.op = .call { callee := .builtin .append, args := #[s, x], argTypes := #[t, t] })
 (base : Nat) (e : TypeId) (i : TypeInfo) (z : Value) (size bytes : Nat) (ht : Try.prog.underlying t = some (.slice e)) (hi : Try.prog.info? e = some i) (hz : i.zero = some z)
 (hsize : i.size = size) (hby : i.bytes = bytes) (hzs : z.cells.size = size) (hsz : 0 < size)
 (v : Value) (n : Nat) (xs : List Value) (hs : a.eval s = v) (hown : w.ownsRow base e size v n xs)
 (ad : Addr) (m c : Nat) (news : List Value) (hx : a.eval x = .slice (some ad) m c) (hm : 0 < m) (hl : news.length = m * size) (hnews : ∀ j u, news[j]? = some u → w.cell? (ad.add j) = some u) (h1 : ∀ u ∈ news, u.oneCell' = true)
 (h63 : n + m ≤ maxLen) (hbytes : (n + m) * bytes ≤ 140737488355328) (hbase : base ≤ w.heap.size)
 (h : ∀ v' w', w'.ownsRow base e size v' (n + m) (xs ++ news) → w.grownBy w' v.ownBlock → (v'.ownBlock = v.ownBlock ∨ ∀ g, v'.ownBlock = some g → w.heap.size ≤ g) → wpList Try.prog ops Q rest (a.put o.dst v') w') : wpList Try.prog ops Q (o :: rest) a w := by
 refine wpList_plain hgd fun K hK => ?_
 obtain ⟨v', w', hr, h2, h3, h4⟩ := run_append_loc w base t o.type e i z size bytes ht hi hz hsize hby hzs hsz v n xs hown ad m c hm news hl hnews h1 h63 hbytes hbase
 unfold Oper.wp execOp
 simp only [ho, resolve, invoke, builtin, Sem.run_bind, Sem.run_pure, Result.andThen_ok, List.map_toArray, List.map_cons, List.map_nil, hs, hx, hr]
 exact hK _ _ (h v' w' h2 h3 h4)
theorem ent_cell {w : World} {g : Nat} {cs : Array Value} {T : TypeId} {fr : Nat × Nat} (h : w.heap[g]? = some (.cells cs T fr)) (j : Nat) (v : Value) (hv : cs[j]? = some v) : w.cell? ⟨g, j, none⟩ = some v := by
 simp only [World.cell?, h]; simpa using hv
theorem ent_free {w : World} {g : Nat} {cs : Array Value} {T : TypeId} (h : w.heap[g]? = some (.cells cs T (0, 0))) (o : Nat) : w.frozen? ⟨g, o, none⟩ = false := by
 simp only [World.frozen?, h]; simp
theorem ent_new (w : World) (cs : Array Value) (T : TypeId) : (w.alloc (.cells cs T)).heap[w.heap.size]? = some (.cells cs T (0, 0)) := heap_alloc_new w _
theorem ent_lt {w : World} {g : Nat} {o : Obj} (h : w.heap[g]? = some o) : g < w.heap.size := (Array.getElem?_eq_some_iff.1 h).1
theorem ent_alloc {w : World} {g : Nat} {o : Obj} (h : w.heap[g]? = some o) (o' : Obj) : (w.alloc o').heap[g]? = some o := (Below.heap_alloc w o' g (ent_lt h)).trans h
theorem ent_below {w w' : World} {g : Nat} {o : Obj} (h : w.heap[g]? = some o) (hb : Below w.heap.size w w') : w'.heap[g]? = some o := (hb.block g (ent_lt h)).trans h
theorem ent_set {w : World} {g : Nat} {cs : Array Value} {T : TypeId} (h : w.heap[g]? = some (.cells cs T (0, 0))) (j : Nat) (v : Value) : (w.setCell ⟨g, j, none⟩ v).heap[g]? = some (.cells (cs.setIfInBounds j v) T (0, 0)) := heap_setCell_same w g j _ _ _ h
theorem ent_other {w : World} {g : Nat} {o : Obj} (h : w.heap[g]? = some o) (b j : Nat) (v : Value) (hne : g ≠ b) : (w.setCell ⟨b, j, none⟩ v).heap[g]? = some o := (Below.heap_setCell w ⟨b, j, none⟩ v g hne).trans h
theorem New.later {α : Type} {rep : World → Value → α → Prop} {w w1 w2 w' : World} {v : Value} {x : α} (h : New rep w1 w2 v x) (h0 : w.heap.size ≤ w1.heap.size) (hs : w2.heap.size ≤ w'.heap.size)
 (hk : ∀ b, w1.heap.size ≤ b → b < w2.heap.size → w'.heap[b]? = w2.heap[b]?) : New rep w w' v x :=
 fun u hu => h u fun b hb1 hb2 => (hu b (by omega) (by omega)).trans (hk b hb1 hb2)
/-- The blocks from lo on stay as they were. -/
def Stay (lo : Nat) (w w' : World) : Prop := w.heap.size ≤ w'.heap.size ∧ ∀ b, lo ≤ b → b < w.heap.size → w'.heap[b]? = w.heap[b]?
theorem Stay.refl (lo : Nat) (w : World) : Stay lo w w := ⟨Nat.le_refl _, fun _ _ _ => rfl⟩
theorem Stay.below {lo : Nat} {w w' w'' : World} (h : Stay lo w w') (hb : Below w'.heap.size w' w'') : Stay lo w w'' :=
 ⟨Nat.le_trans h.1 hb.size, fun b h1 h2 => (hb.block b (Nat.lt_of_lt_of_le h2 h.1)).trans (h.2 b h1 h2)⟩
theorem Stay.alloc {lo : Nat} {w w' : World} (h : Stay lo w w') (o : Obj) : Stay lo w (w'.alloc o) := h.below ((Below.refl _ _).alloc (Nat.le_refl _) o)
theorem Stay.set {lo : Nat} {w w' : World} (h : Stay lo w w') (g j : Nat) (v : Value) (hg : g < lo) : Stay lo w (w'.setCell ⟨g, j, none⟩ v) :=
 ⟨by simpa using h.1, fun b h1 h2 => (Below.heap_setCell w' ⟨g, j, none⟩ v b (by simp; omega)).trans (h.2 b h1 h2)⟩
theorem Stay.drew {lo : Nat} {w w' : World} (h : Stay lo w w') : Stay lo w w'.drew := h
theorem New.stay {α : Type} {rep : World → Value → α → Prop} {w w1 w2 w' : World} {v : Value} {x : α} (h : New rep w1 w2 v x) (h0 : w.heap.size ≤ w1.heap.size) (hs : Stay w1.heap.size w2 w') : New rep w w' v x :=
 h.later h0 hs.1 hs.2
theorem New.drewn {α : Type} {rep : World → Value → α → Prop} {w w' : World} {v : Value} {x : α} (h : New rep w.drew w' v x) : New rep w w' v x := h
/-- A text as a value. -/
def StrAt (_ : World) (v : Value) (s : List UInt8) : Prop := v = .string ⟨s.toArray⟩
/-- A type's value (f: so deep, less one, at most). -/
def TypeAt : Nat → World → Value → Px.TypeE → Prop
 | 0, _, _, _ => False
 | f + 1, u, v, .mk p nm args => ∃ av, v = .agg #[.int .i64 p, .string ⟨nm.toArray⟩, av] ∧ RowAt 3 (TypeAt f u) u av args
def PatAt : Nat → World → Value → Px.Pat → Prop
 | 0, _, _, _ => False
 | f + 1, u, v, .mk k p nm i args => ∃ av, v = .agg #[.int .i64 k, .int .i64 p, .string ⟨nm.toArray⟩, .int .i64 i, av] ∧ RowAt 5 (PatAt f u) u av args
def AltOf (pa : Value → Px.Pat → Prop) (ex : Value → Px.Expr → Prop) (v : Value) (x : Px.Pat × Px.Expr) : Prop :=
 ∃ a0 a1 a2 a3 a4 b0 b1 b2 b3 b4 b5 b6 : Value, v = .agg #[a0, a1, a2, a3, a4, b0, b1, b2, b3, b4, b5, b6] ∧ pa (.agg #[a0, a1, a2, a3, a4]) x.1 ∧ ex (.agg #[b0, b1, b2, b3, b4, b5, b6]) x.2
def ExprAt : Nat → World → Value → Px.Expr → Prop
 | 0, _, _, _ => False
 | f + 1, u, v, .mk k p nm i ns xs al => ∃ nv xv av, v = .agg #[.int .i64 k, .int .i64 p, .string ⟨nm.toArray⟩, .int .i64 i, nv, xv, av] ∧
    RowAt 1 (StrAt u) u nv ns ∧ RowAt 7 (ExprAt f u) u xv xs ∧ RowAt 12 (AltOf (PatAt f u) (ExprAt f u)) u av al
theorem row_nil {α : Type} (sz : Nat) (rep : Value → α → Prop) (u : World) : RowAt sz rep u (.slice none 0 0) [] := .inl ⟨rfl, none, 0, rfl⟩
theorem undrew {w w' : World} (h : Below w.drew.heap.size w.drew w') : Below w.heap.size w w' := ⟨h.os, h.tape, h.output, h.size, h.block⟩
open Go Go.RowKit
/-- A part that stays while the blocks from lo to hi stay; those that may change (S) are not among them. -/
def KeptS {α : Type} (rep : World → Value → α → Prop) (base : Nat) (w : World) (S : Nat → Prop) (v : Value) (x : α) : Prop :=
 ∃ lo hi, base ≤ lo ∧ hi ≤ w.heap.size ∧ (∀ g, S g → g < lo ∨ hi ≤ g) ∧ ∀ u : World, (∀ b, lo ≤ b → b < hi → u.heap[b]? = w.heap[b]?) → rep u v x
theorem KeptS.step {α : Type} {rep : World → Value → α → Prop} {base : Nat} {w w' : World} {S S' : Nat → Prop} {v : Value} {x : α} (h : KeptS rep base w S v x) (hs : w.heap.size ≤ w'.heap.size)
 (hk : ∀ b, b < w.heap.size → base ≤ b → ¬ S b → w'.heap[b]? = w.heap[b]?) (ho : ∀ g, S' g → S g ∨ w.heap.size ≤ g) : KeptS rep base w' S' v x := by
 obtain ⟨lo, hi, h0, h1, h2, h3⟩ := h
 refine ⟨lo, hi, h0, by omega, fun g hg => ?_, fun u hu => h3 u fun b hb1 hb2 => ?_⟩
 · rcases ho g hg with hg | hg
   · exact h2 g hg
   · omega
 · rw [hu b hb1 hb2]
   exact hk b (by omega) (by omega) (fun e => by have := h2 b e; omega)
theorem KeptS.below {α : Type} {rep : World → Value → α → Prop} {base : Nat} {w w' : World} {S : Nat → Prop} {v : Value} {x : α} (h : KeptS rep base w S v x) (hb : Below w.heap.size w w') : KeptS rep base w' S v x :=
 h.step hb.size (fun b hb1 _ _ => hb.block b hb1) (fun _ h => .inl h)
theorem New.keptS {α : Type} {rep : World → Value → α → Prop} {base : Nat} {w w' : World} {S : Nat → Prop} {v : Value} {x : α} (h : New rep w w' v x) (hb : base ≤ w.heap.size) (ho : ∀ g, S g → g < w.heap.size) : KeptS rep base w' S v x :=
 ⟨w.heap.size, w'.heap.size, hb, Nat.le_refl _, fun g hg => .inl (ho g hg), h⟩
/-- A list of the call's own, read in a later world. -/
theorem rowS {α : Type} {sz : Nat} {rep : World → Value → α → Prop} {w u : World} {base E n : Nat} {S : Nat → Prop} {v : Value} {vs : List Value} {xs : List α} (h : w.ownsRow base E sz v n (cellsOf vs)) (hn : n = xs.length)
 (hr : Reps (KeptS rep base w S) vs xs) (hs : ∀ v ∈ vs, v.cells.size = sz) (hu : ∀ b, base ≤ b → b < w.heap.size → u.heap[b]? = w.heap[b]?) : RowAt sz (rep u) u v xs := by
 subst hn
 rcases h.2 with ⟨rfl, hn⟩ | ⟨g, cap, cur, rfl, hb, hg, hc1, hc2, hc3, hc4⟩
 · exact .inl ⟨List.eq_nil_of_length_eq_zero hn, none, 0, rfl⟩
 · refine .inr ⟨g, 0, cap, rfl, hc1, by unfold maxLen at hc2; omega, fun i x hx => ?_⟩
   obtain ⟨y, hy, lo, hi, h0, h1, _, h3⟩ := hr.at hx
   refine ⟨y, h3 u fun b hb1 hb2 => hu b (by omega) (by omega), hs y (List.mem_of_getElem? hy), fun j z hz => ?_⟩
   have hcell := World.ownsRow.cells h (g := g) rfl (i * sz + j) z (cellsOf_at sz hs hy hz)
   have e : (⟨g, 0, none⟩ : Addr).add (i * sz + j) = ⟨g, 0 + i * sz + j, none⟩ := by unfold Addr.add; split <;> simp_all
   rw [e] at hcell
   have hlt : g < w.heap.size := (Array.getElem?_eq_some_iff.1 hg).1
   rw [World.cell?_of_block (w := w) (hu g hb hlt)]; exact hcell
/-- A list of the call's own stays while its block stays. -/
theorem own_stays {w w' : World} {base : Nat} {e : TypeId} {size : Nat} {v : Value} {n : Nat} {xs : List Value} (h : w.ownsRow base e size v n xs) (hk : ∀ b, v.ownBlock = some b → w'.heap[b]? = w.heap[b]?) : w'.ownsRow base e size v n xs := by
 refine ⟨h.1, ?_⟩
 rcases h.2 with h | ⟨g, cap, cur, rfl, hb, hg, hc1, hc2, hc3, hc4⟩
 · exact .inl h
 · exact .inr ⟨g, cap, cur, rfl, hb, (hk g rfl).trans hg, hc1, hc2, hc3, hc4⟩
theorem own_type_ne {w : World} {base base' n n' size size' : Nat} {e e' : TypeId} {v v' : Value} {xs xs' : List Value} (h : w.ownsRow base e size v n xs) (h' : w.ownsRow base' e' size' v' n' xs') (hT : e ≠ e') (b : Nat) (hb : v.ownBlock = some b) : v'.ownBlock ≠ some b := by
 intro hb'
 rcases h.2 with ⟨rfl, _⟩ | ⟨g, cap, cur, rfl, _, hg, _⟩
 · simp [Value.ownBlock] at hb
 · rcases h'.2 with ⟨rfl, _⟩ | ⟨g', cap', cur', rfl, _, hg', _⟩
   · simp [Value.ownBlock] at hb'
   · simp only [Value.ownBlock, Option.some.injEq] at hb hb'
     subst hb; subst hb'
     rw [hg] at hg'
     simp only [Option.some.injEq, Obj.cells.injEq] at hg'
     exact hT hg'.2.1
theorem step_append_loc {w : World} {ops : Array Oper} {o : Oper} {a : Act} {K : Act → World → Prop} {Q : Exit → Act → World → Prop} {X : Prop} (hgd : o.guard = none) (s x : Operand) (t : TypeId)
 (ho : o.op = .call { callee := .builtin .append, args := #[s, x], argTypes := #[t, t] })
 (base : Nat) (e : TypeId) (i : TypeInfo) (z : Value) (size bytes : Nat) (ht : Try.prog.underlying t = some (.slice e)) (hi : Try.prog.info? e = some i) (hz : i.zero = some z)
 (hsize : i.size = size) (hby : i.bytes = bytes) (hzs : z.cells.size = size) (hsz : 0 < size)
 (v : Value) (n : Nat) (xs : List Value) (hs : a.eval s = v) (hown : w.ownsRow base e size v n xs)
 (ad : Addr) (m c : Nat) (news : List Value) (hx : a.eval x = .slice (some ad) m c) (hm : 0 < m) (hl : news.length = m * size) (hnews : ∀ j u, news[j]? = some u → w.cell? (ad.add j) = some u) (h1 : ∀ u ∈ news, u.oneCell' = true)
 (h63 : n + m ≤ maxLen) (hbytes : (n + m) * bytes ≤ 140737488355328) (hbase : base ≤ w.heap.size)
 (h : ∀ v' w', w'.ownsRow base e size v' (n + m) (xs ++ news) → w.grownBy w' v.ownBlock → (v'.ownBlock = v.ownBlock ∨ ∀ g, v'.ownBlock = some g → w.heap.size ≤ g) → K (a.put o.dst v') w') :
 if Region.wanted o (yielded ops a.tmps) = true then Oper.wp Try.prog o a w K Q else X := by
 have hw : Region.wanted o (yielded ops a.tmps) = true := by simp [Region.wanted, hgd]
 rw [if_pos hw]
 obtain ⟨v', w', hr, h2, h3, h4⟩ := run_append_loc w base t o.type e i z size bytes ht hi hz hsize hby hzs hsz v n xs hown ad m c hm news hl hnews h1 h63 hbytes hbase
 unfold Oper.wp execOp
 simp only [ho, resolve, invoke, builtin, Sem.run_bind, Sem.run_pure, Result.andThen_ok, List.map_toArray, List.map_cons, List.map_nil, hs, hx, hr]
 exact h v' w' h2 h3 h4
theorem own_slice {w : World} {base e size n : Nat} {v : Value} {xs : List Value} (h : w.ownsRow base e size v n xs) : ∃ p cap, v = .slice p n cap := by
 rcases h.2 with ⟨rfl, rfl⟩ | ⟨g, cap, cur, rfl, _⟩
 · exact ⟨none, 0, rfl⟩
 · exact ⟨_, cap, rfl⟩
open Go Go.RowKit
set_option linter.unusedVariables false
set_option linter.unusedSimpArgs false
theorem row_vals {α : Type} {sz : Nat} {rep : Value → α → Prop} {w : World} {g : Nat} : ∀ (xs : List α) (o : Nat), (∀ i x, xs[i]? = some x → ∃ u, rep u x ∧ u.cells.size = sz ∧ ∀ j z, u.cells[j]? = some z → w.cell? ⟨g, o + i * sz + j, none⟩ = some z) →
 ∃ vs, Reps rep vs xs ∧ (∀ u ∈ vs, u.cells.size = sz) ∧ ∀ j z, (cellsOf vs)[j]? = some z → w.cell? ⟨g, o + j, none⟩ = some z
 | [], o, _ => ⟨[], trivial, by simp, by simp [cellsOf]⟩
 | x :: xs, o, h => by
   obtain ⟨u, hu1, hu2, hu3⟩ := h 0 x (by simp)
   obtain ⟨vs, hv1, hv2, hv3⟩ := row_vals xs (o + sz) (fun i y hy => by
    obtain ⟨u, a, b, c⟩ := h (i + 1) y (by simpa using hy)
    refine ⟨u, a, b, fun j z hz => ?_⟩
    rw [← c j z hz]
    have e : o + sz + i * sz + j = o + (i + 1) * sz + j := by rw [Nat.add_mul]; omega
    rw [e])
   refine ⟨u :: vs, ⟨hu1, hv1⟩, fun z hz => ?_, fun j z hz => ?_⟩
   · rcases List.mem_cons.1 hz with rfl | hz
     · exact hu2
     · exact hv2 _ hz
   · have e : cellsOf (u :: vs) = u.cells.toList ++ cellsOf vs := by simp [cellsOf]
     rw [e] at hz
     by_cases hj : j < u.cells.size
     · rw [List.getElem?_append_left (by simpa using hj)] at hz
       have := hu3 j z (by simpa using hz)
       simpa using this
     · rw [List.getElem?_append_right (by simpa using hj), Array.length_toList, hu2] at hz
       rw [hu2] at hj
       have h5 := hv3 _ z hz
       have e2 : o + sz + (j - sz) = o + j := by omega
       rw [e2] at h5; exact h5
theorem Reps.append {α : Type} {rep : Value → α → Prop} : ∀ {vs us : List Value} {xs ys : List α}, Reps rep vs xs → Reps rep us ys → Reps rep (vs ++ us) (xs ++ ys)
 | [], _, [], _, _, h => h
 | _ :: _, _, _ :: _, _, h, k => ⟨h.1, Reps.append h.2 k⟩
 | [], _, _ :: _, _, h, _ => h.elim
 | _ :: _, _, [], _, h, _ => h.elim
theorem Reps.all {α : Type} {rep : Value → α → Prop} {q : Value → Prop} (hq : ∀ u x, rep u x → q u) : ∀ {vs : List Value} {xs : List α}, Reps rep vs xs → ∀ u ∈ vs, q u
 | [], [], _, _, h => by cases h
 | v :: vs, x :: xs, h, u, hu => by
   rcases List.mem_cons.1 hu with rfl | hu
   · exact hq _ _ h.1
   · exact Reps.all hq h.2 u hu
 | [], _ :: _, h, _, _ => h.elim
 | _ :: _, [], h, _, _ => h.elim
theorem cellsOf_append (a b : List Value) : cellsOf (a ++ b) = cellsOf a ++ cellsOf b := by simp [cellsOf]
theorem own_row {α : Type} {rep : Value → α → Prop} {sz base E n : Nat} {w : World} {v : Value} {vs : List Value} {xs : List α} (h : w.ownsRow base E sz v n (cellsOf vs)) (hn : n = xs.length) (hr : Reps rep vs xs) (hs : ∀ u ∈ vs, u.cells.size = sz) : RowAt sz rep w v xs := by
 subst hn
 rcases h.2 with ⟨rfl, hn⟩ | ⟨g, cap, cur, rfl, hb, hg, hc1, hc2, hc3, hc4⟩
 · exact .inl ⟨List.eq_nil_of_length_eq_zero hn, none, 0, rfl⟩
 · refine .inr ⟨g, 0, cap, rfl, hc1, by unfold maxLen at hc2; omega, fun i x hx => ?_⟩
   obtain ⟨y, hy, h3⟩ := hr.at hx
   refine ⟨y, h3, hs y (List.mem_of_getElem? hy), fun j z hz => ?_⟩
   have hcell := World.ownsRow.cells h (g := g) rfl (i * sz + j) z (cellsOf_at sz hs hy hz)
   have e : (⟨g, 0, none⟩ : Addr).add (i * sz + j) = ⟨g, 0 + i * sz + j, none⟩ := by unfold Addr.add; split <;> simp_all
   rw [e] at hcell
   exact hcell
/-- An own row stays while its block does. -/
theorem own_same {w w' : World} {base e size n : Nat} {v : Value} {xs : List Value} (h : w.ownsRow base e size v n xs) (hk : ∀ k, v.ownBlock = some k → w'.heap[k]? = w.heap[k]?) : w'.ownsRow base e size v n xs := by
 refine ⟨h.1, ?_⟩
 rcases h.2 with h2 | ⟨g, cap, cur, rfl, hb, hg, hc⟩
 · exact .inl h2
 · exact .inr ⟨g, cap, cur, rfl, hb, by rw [hk g rfl]; exact hg, hc⟩
theorem run_append_zero (w : World) (base : Nat) (t ty e : TypeId) (i : TypeInfo) (size : Nat) (ht : Try.prog.underlying t = some (.slice e)) (hi : Try.prog.info? e = some i)
 (v : Value) (n : Nat) (xs : List Value) (hown : w.ownsRow base e size v n xs) (q : Option Addr) (c : Nat) : (Builtin.append_ #[t, t] ty #[v, .slice q 0 c]).run Try.prog w = .ok v w := by
 have hfc : ∀ q : Option Addr, (Builtin.firstCells i.size 0 (.slice q 0 c)).run Try.prog w = .ok #[] w := by
  intro q
  cases q <;> simp [Builtin.firstCells, loadCells, loadCellsFrom]
 rcases hown.2 with ⟨rfl, rfl⟩ | ⟨g, cap, cur, rfl, hbg, hg, hnc, hcm, hcs, htake⟩
 · simp [Builtin.append_, run_underlying ht, sizeOf, typeInfo, hi, Builtin.lenOf, hfc]
 · simp [Builtin.append_, run_underlying ht, sizeOf, typeInfo, hi, Builtin.lenOf, hfc, hnc, storeCells]
/-- 'append(s, row...)' in a region. -/
theorem step_append_row {α : Type} {rep : Value → α → Prop} {w : World} {ops : Array Oper} {o : Oper} {a : Act} {K : Act → World → Prop} {Q : Exit → Act → World → Prop} {X : Prop} (hgd : o.guard = none) (s x : Operand) (t : TypeId)
 (ho : o.op = .call { callee := .builtin .append, args := #[s, x], argTypes := #[t, t] })
 (base : Nat) (e : TypeId) (i : TypeInfo) (z : Value) (size bytes : Nat) (ht : Try.prog.underlying t = some (.slice e)) (hi : Try.prog.info? e = some i) (hz : i.zero = some z)
 (hsize : i.size = size) (hby : i.bytes = bytes) (hzs : z.cells.size = size) (hsz : 0 < size)
 (v : Value) (n : Nat) (vs : List Value) (hs : a.eval s = v) (hown : w.ownsRow base e size v n (cellsOf vs))
 (vx : Value) (hx : a.eval x = vx) (ys : List α) (hrow : RowAt size rep w vx ys) (hone : ∀ u x, rep u x → ∀ c ∈ u.cells.toList, c.oneCell' = true)
 (h63 : n + ys.length ≤ maxLen) (hbytes : (n + ys.length) * bytes ≤ 140737488355328) (hbase : base ≤ w.heap.size)
 (h : ∀ v' w' us, Reps rep us ys → (∀ u ∈ us, u.cells.size = size) → w'.ownsRow base e size v' (n + ys.length) (cellsOf (vs ++ us)) → w.grownBy w' v.ownBlock → (v'.ownBlock = v.ownBlock ∨ ∀ g, v'.ownBlock = some g → w.heap.size ≤ g) → K (a.put o.dst v') w') :
 if Region.wanted o (yielded ops a.tmps) = true then Oper.wp Try.prog o a w K Q else X := by
 have hw : Region.wanted o (yielded ops a.tmps) = true := by simp [Region.wanted, hgd]
 rw [if_pos hw]
 by_cases hys : ys = []
 · subst hys
   obtain ⟨q, c, rfl⟩ := hrow.len
   have hr := run_append_zero w base t o.type e i size ht hi v n _ hown q c
   unfold Oper.wp execOp
   simp only [ho, resolve, invoke, builtin, Sem.run_bind, Sem.run_pure, Result.andThen_ok, List.map_toArray, List.map_cons, List.map_nil, hs, hx, List.length_nil, hr]
   exact h v w [] trivial (fun u hu => by cases hu) (by rw [List.append_nil]; exact hown) ⟨rfl, rfl, rfl, Nat.le_refl _, fun _ _ _ => rfl⟩ (.inl rfl)
 · rcases hrow with ⟨h0, _⟩ | ⟨g, of, c, rfl, _, _, h4⟩
   · exact absurd h0 hys
   · obtain ⟨us, hu1, hu2, hu3⟩ := row_vals ys of h4
     have hpos : 0 < ys.length := List.length_pos_iff.2 hys
     obtain ⟨v', w', hr, h2, h3, h5⟩ := run_append_loc w base t o.type e i z size bytes ht hi hz hsize hby hzs hsz v n _ hown ⟨g, of, none⟩ ys.length c hpos (cellsOf us)
      (by rw [cellsOf_len size hu2, hu1.len]) (fun j u hj => by
        have e : (⟨g, of, none⟩ : Addr).add j = ⟨g, of + j, none⟩ := by unfold Addr.add; split <;> simp_all
        rw [e]; exact hu3 j u hj) (fun u hu => by
        obtain ⟨y, hy, hz⟩ := List.mem_flatMap.1 hu
        exact Reps.all (q := fun u => ∀ c ∈ u.cells.toList, c.oneCell' = true) hone hu1 y hy u hz) h63 hbytes hbase
     unfold Oper.wp execOp
     simp only [ho, resolve, invoke, builtin, Sem.run_bind, Sem.run_pure, Result.andThen_ok, List.map_toArray, List.map_cons, List.map_nil, hs, hx, hr]
     exact h v' w' us hu1 hu2 (by rw [cellsOf_append]; exact h2) h3 h5
end Go.Proofs.Ytgoacbomphlhjaa
namespace Go.Proofs.Ytgoacbomphlhjaa
open Go Go.RowKit
set_option linter.unusedVariables false
set_option linter.unusedSimpArgs false
theorem ent_set3 {w : World} {g : Nat} {T : TypeId} {z0 z1 z2 : Value} (h : w.heap[g]? = some (.cells #[z0, z1, z2] T (0, 0))) (v0 v1 v2 : Value) :
 (((w.setCell ⟨g, 0, none⟩ v0).setCell ⟨g, 1, none⟩ v1).setCell ⟨g, 2, none⟩ v2).heap[g]? = some (.cells #[v0, v1, v2] T (0, 0)) := by
 have h0 : (w.setCell ⟨g, 0, none⟩ v0).heap[g]? = some (.cells #[v0, z1, z2] T (0, 0)) := by have := ent_set h 0 v0; simpa using this
 have h1 : ((w.setCell ⟨g, 0, none⟩ v0).setCell ⟨g, 1, none⟩ v1).heap[g]? = some (.cells #[v0, v1, z2] T (0, 0)) := by have := ent_set h0 1 v1; simpa using this
 have h2 : (((w.setCell ⟨g, 0, none⟩ v0).setCell ⟨g, 1, none⟩ v1).setCell ⟨g, 2, none⟩ v2).heap[g]? = some (.cells #[v0, v1, v2] T (0, 0)) := by have := ent_set h1 2 v2; simpa using this
 exact h2
theorem ent_set5 {w : World} {g : Nat} {T : TypeId} {z0 z1 z2 z3 z4 : Value} (h : w.heap[g]? = some (.cells #[z0, z1, z2, z3, z4] T (0, 0))) (v0 v1 v2 v3 v4 : Value) :
 (((((w.setCell ⟨g, 0, none⟩ v0).setCell ⟨g, 1, none⟩ v1).setCell ⟨g, 2, none⟩ v2).setCell ⟨g, 3, none⟩ v3).setCell ⟨g, 4, none⟩ v4).heap[g]? = some (.cells #[v0, v1, v2, v3, v4] T (0, 0)) := by
 have h0 : (w.setCell ⟨g, 0, none⟩ v0).heap[g]? = some (.cells #[v0, z1, z2, z3, z4] T (0, 0)) := by have := ent_set h 0 v0; simpa using this
 have h1 : ((w.setCell ⟨g, 0, none⟩ v0).setCell ⟨g, 1, none⟩ v1).heap[g]? = some (.cells #[v0, v1, z2, z3, z4] T (0, 0)) := by have := ent_set h0 1 v1; simpa using this
 have h2 : (((w.setCell ⟨g, 0, none⟩ v0).setCell ⟨g, 1, none⟩ v1).setCell ⟨g, 2, none⟩ v2).heap[g]? = some (.cells #[v0, v1, v2, z3, z4] T (0, 0)) := by have := ent_set h1 2 v2; simpa using this
 have h3 : ((((w.setCell ⟨g, 0, none⟩ v0).setCell ⟨g, 1, none⟩ v1).setCell ⟨g, 2, none⟩ v2).setCell ⟨g, 3, none⟩ v3).heap[g]? = some (.cells #[v0, v1, v2, v3, z4] T (0, 0)) := by have := ent_set h2 3 v3; simpa using this
 have h4 : (((((w.setCell ⟨g, 0, none⟩ v0).setCell ⟨g, 1, none⟩ v1).setCell ⟨g, 2, none⟩ v2).setCell ⟨g, 3, none⟩ v3).setCell ⟨g, 4, none⟩ v4).heap[g]? = some (.cells #[v0, v1, v2, v3, v4] T (0, 0)) := by have := ent_set h3 4 v4; simpa using this
 exact h4
theorem ent_set6 {w : World} {g : Nat} {T : TypeId} {z0 z1 z2 z3 z4 z5 : Value} (h : w.heap[g]? = some (.cells #[z0, z1, z2, z3, z4, z5] T (0, 0))) (v0 v1 v2 v3 v4 v5 : Value) :
 ((((((w.setCell ⟨g, 0, none⟩ v0).setCell ⟨g, 1, none⟩ v1).setCell ⟨g, 2, none⟩ v2).setCell ⟨g, 3, none⟩ v3).setCell ⟨g, 4, none⟩ v4).setCell ⟨g, 5, none⟩ v5).heap[g]? = some (.cells #[v0, v1, v2, v3, v4, v5] T (0, 0)) := by
 have h0 : (w.setCell ⟨g, 0, none⟩ v0).heap[g]? = some (.cells #[v0, z1, z2, z3, z4, z5] T (0, 0)) := by have := ent_set h 0 v0; simpa using this
 have h1 : ((w.setCell ⟨g, 0, none⟩ v0).setCell ⟨g, 1, none⟩ v1).heap[g]? = some (.cells #[v0, v1, z2, z3, z4, z5] T (0, 0)) := by have := ent_set h0 1 v1; simpa using this
 have h2 : (((w.setCell ⟨g, 0, none⟩ v0).setCell ⟨g, 1, none⟩ v1).setCell ⟨g, 2, none⟩ v2).heap[g]? = some (.cells #[v0, v1, v2, z3, z4, z5] T (0, 0)) := by have := ent_set h1 2 v2; simpa using this
 have h3 : ((((w.setCell ⟨g, 0, none⟩ v0).setCell ⟨g, 1, none⟩ v1).setCell ⟨g, 2, none⟩ v2).setCell ⟨g, 3, none⟩ v3).heap[g]? = some (.cells #[v0, v1, v2, v3, z4, z5] T (0, 0)) := by have := ent_set h2 3 v3; simpa using this
 have h4 : (((((w.setCell ⟨g, 0, none⟩ v0).setCell ⟨g, 1, none⟩ v1).setCell ⟨g, 2, none⟩ v2).setCell ⟨g, 3, none⟩ v3).setCell ⟨g, 4, none⟩ v4).heap[g]? = some (.cells #[v0, v1, v2, v3, v4, z5] T (0, 0)) := by have := ent_set h3 4 v4; simpa using this
 have h5 : ((((((w.setCell ⟨g, 0, none⟩ v0).setCell ⟨g, 1, none⟩ v1).setCell ⟨g, 2, none⟩ v2).setCell ⟨g, 3, none⟩ v3).setCell ⟨g, 4, none⟩ v4).setCell ⟨g, 5, none⟩ v5).heap[g]? = some (.cells #[v0, v1, v2, v3, v4, v5] T (0, 0)) := by have := ent_set h4 5 v5; simpa using this
 exact h5
theorem ent_set7 {w : World} {g : Nat} {T : TypeId} {z0 z1 z2 z3 z4 z5 z6 : Value} (h : w.heap[g]? = some (.cells #[z0, z1, z2, z3, z4, z5, z6] T (0, 0))) (v0 v1 v2 v3 v4 v5 v6 : Value) :
 (((((((w.setCell ⟨g, 0, none⟩ v0).setCell ⟨g, 1, none⟩ v1).setCell ⟨g, 2, none⟩ v2).setCell ⟨g, 3, none⟩ v3).setCell ⟨g, 4, none⟩ v4).setCell ⟨g, 5, none⟩ v5).setCell ⟨g, 6, none⟩ v6).heap[g]? = some (.cells #[v0, v1, v2, v3, v4, v5, v6] T (0, 0)) := by
 have h0 : (w.setCell ⟨g, 0, none⟩ v0).heap[g]? = some (.cells #[v0, z1, z2, z3, z4, z5, z6] T (0, 0)) := by have := ent_set h 0 v0; simpa using this
 have h1 : ((w.setCell ⟨g, 0, none⟩ v0).setCell ⟨g, 1, none⟩ v1).heap[g]? = some (.cells #[v0, v1, z2, z3, z4, z5, z6] T (0, 0)) := by have := ent_set h0 1 v1; simpa using this
 have h2 : (((w.setCell ⟨g, 0, none⟩ v0).setCell ⟨g, 1, none⟩ v1).setCell ⟨g, 2, none⟩ v2).heap[g]? = some (.cells #[v0, v1, v2, z3, z4, z5, z6] T (0, 0)) := by have := ent_set h1 2 v2; simpa using this
 have h3 : ((((w.setCell ⟨g, 0, none⟩ v0).setCell ⟨g, 1, none⟩ v1).setCell ⟨g, 2, none⟩ v2).setCell ⟨g, 3, none⟩ v3).heap[g]? = some (.cells #[v0, v1, v2, v3, z4, z5, z6] T (0, 0)) := by have := ent_set h2 3 v3; simpa using this
 have h4 : (((((w.setCell ⟨g, 0, none⟩ v0).setCell ⟨g, 1, none⟩ v1).setCell ⟨g, 2, none⟩ v2).setCell ⟨g, 3, none⟩ v3).setCell ⟨g, 4, none⟩ v4).heap[g]? = some (.cells #[v0, v1, v2, v3, v4, z5, z6] T (0, 0)) := by have := ent_set h3 4 v4; simpa using this
 have h5 : ((((((w.setCell ⟨g, 0, none⟩ v0).setCell ⟨g, 1, none⟩ v1).setCell ⟨g, 2, none⟩ v2).setCell ⟨g, 3, none⟩ v3).setCell ⟨g, 4, none⟩ v4).setCell ⟨g, 5, none⟩ v5).heap[g]? = some (.cells #[v0, v1, v2, v3, v4, v5, z6] T (0, 0)) := by have := ent_set h4 5 v5; simpa using this
 have h6 : (((((((w.setCell ⟨g, 0, none⟩ v0).setCell ⟨g, 1, none⟩ v1).setCell ⟨g, 2, none⟩ v2).setCell ⟨g, 3, none⟩ v3).setCell ⟨g, 4, none⟩ v4).setCell ⟨g, 5, none⟩ v5).setCell ⟨g, 6, none⟩ v6).heap[g]? = some (.cells #[v0, v1, v2, v3, v4, v5, v6] T (0, 0)) := by have := ent_set h5 6 v6; simpa using this
 exact h6
theorem ent_put {w : World} {g : Nat} {cs : Array Value} {T : TypeId} (cs' : Array Value) (h : w.heap[g]? = some (.cells cs T (0, 0))) (j : Nat) (v : Value) (hc : cs.setIfInBounds j v = cs') :
 (w.setCell ⟨g, j, none⟩ v).heap[g]? = some (.cells cs' T (0, 0)) := by rw [← hc]; exact ent_set h j v
end Go.Proofs.Ytgoacbomphlhjaa
namespace Go.Proofs.Ytgoacbomphlhjaa
namespace Lx
theorem cnt_all (p : UInt8 → Bool) : ∀ (l : List UInt8), (∀ c ∈ l, p c = true) → cnt p l = l.length
 | [], _ => rfl
 | c :: r, h => by rw [cnt, if_pos (h c (by simp)), cnt_all p r (fun d hd => h d (by simp [hd])), List.length_cons]
theorem at0_mem (l : List UInt8) (k : Nat) (h : k < l.length) : at0 l k ∈ l := by
 unfold at0; rw [List.getD_eq_getElem?_getD, List.getElem?_eq_getElem h]; exact List.getElem_mem h
theorem skip_zero (l : List UInt8) (hb : blankB (at0 l 0) = false) (hs : (at0 l 0).toNat ≠ 59) : skipC false l = 0 := by
 have := skip_end l 0 hb hs; simpa using this
theorem digit_not_blank (c : UInt8) (h : digitB c = true) : blankB c = false ∧ c.toNat ≠ 59 ∧ c.toNat ≠ 45 ∧ c.toNat ≠ 62 := by
 have h' := digit_bd c h
 refine ⟨?_, by omega, by omega, by omega⟩
 unfold blankB
 simp; omega
theorem toks_nil (f p : Nat) : toks f p [] = ([], none) := by
 cases f with
 | zero => rfl
 | succ f => rfl
theorem toks_whole (l : List UInt8) (k : Int) (hne : l ≠ []) (hs : skipC false l = 0) (h : tokAt l = (k, l.length)) : toks (l.length + 1) 0 l = ([mkTok 0 k l], none) := by
 have hl : 0 < l.length := List.length_pos_iff.2 hne
 show (if l.length ≤ skipC false l then ([], none) else _) = _
 rw [hs, if_neg (by omega)]
 simp only [List.drop_zero, h]
 rw [if_neg (by omega), List.drop_length, toks_nil, List.take_length]
theorem toks_nowhere (l : List UInt8) (hne : l ≠ []) (hs : skipC false l = 0) (h : (tokAt l).2 = 0) : toks (l.length + 1) 0 l = ([], some 0) := by
 have hl : 0 < l.length := List.length_pos_iff.2 hne
 show (if l.length ≤ skipC false l then ([], none) else _) = _
 rw [hs, if_neg (by omega)]
 simp only [List.drop_zero]
 rw [if_pos h]
theorem num_pos (D : List UInt8) (hd : ∀ c ∈ D, digitB c = true) (hne : D ≠ []) :
 toks (D.length + 1) 0 D = if 18 < D.length then ([], some 0) else ([⟨2, 0, D, natV D 0⟩], none) := by
 have hl : 0 < D.length := List.length_pos_iff.2 hne
 have h0 := hd _ (at0_mem D 0 hl)
 obtain ⟨hb, hs, h45, _⟩ := digit_not_blank _ h0
 have hsk := skip_zero D hb hs
 have hc := cnt_all digitB D hd
 have ho : at0 D D.length = 0 := at0_out D _ (Nat.le_refl _)
 have ht : tokAt D = if 18 < D.length then (0, 0) else (2, D.length) := by
  unfold tokAt num
  simp only []
  rw [if_neg h45, if_pos h0, hc, Nat.zero_add, ho, word0, Bool.or_false]
  by_cases h : 18 < D.length <;> simp [h]
 by_cases h : 18 < D.length
 · rw [if_pos h] at ht ⊢
   exact toks_nowhere D hne hsk (by rw [ht])
 · rw [if_neg h] at ht ⊢
   rw [toks_whole D 2 hne hsk ht]
   simp only [mkTok, numV, if_neg h45, if_true]
theorem num_neg (D : List UInt8) (hd : ∀ c ∈ D, digitB c = true) (hne : D ≠ []) :
 toks ((45 :: D).length + 1) 0 (45 :: D) = if 18 < D.length then ([], some 0) else ([⟨2, 0, 45 :: D, -(natV D 0 : Int)⟩], none) := by
 have hl : 0 < D.length := List.length_pos_iff.2 hne
 have h0 := hd _ (at0_mem D 0 hl)
 obtain ⟨_, _, _, h62⟩ := digit_not_blank _ h0
 have hsk : skipC false (45 :: D) = 0 := skip_zero (45 :: D) (by rfl) (by show (45 : UInt8).toNat ≠ 59; decide)
 have hc := cnt_all digitB D hd
 have ho : at0 (45 :: D) (1 + D.length) = 0 := at0_out _ _ (by simp; omega)
 have e1 : at0 (45 :: D) 1 = at0 D 0 := rfl
 have e0 : (at0 (45 :: D) 0).toNat = 45 := rfl
 have ed : (45 :: D).drop 1 = D := rfl
 have ht : tokAt (45 :: D) = if 18 < D.length then (0, 0) else (2, (45 :: D).length) := by
  unfold tokAt num
  simp only []
  rw [if_pos e0, e1, if_neg h62, if_pos h0, ed, hc, ho, word0, Bool.or_false, List.length_cons, Nat.add_comm 1]
  by_cases h : 18 < D.length <;> simp [h]
 by_cases h : 18 < D.length
 · rw [if_pos h] at ht ⊢
   exact toks_nowhere _ (by simp) hsk (by rw [ht])
 · rw [if_neg h] at ht ⊢
   rw [toks_whole _ 2 (by simp) hsk ht]
   simp only [mkTok, numV, if_pos e0, if_true, ed]
theorem natV_append (a b : List UInt8) : ∀ acc, natV (a ++ b) acc = natV b (natV a acc) := by
 induction a with
 | nil => intro acc; rfl
 | cons c r ih => intro acc; rw [List.cons_append, natV_cons, natV_cons, ih]
theorem natV_zeros (q : Nat) : natV (List.replicate q 48) 0 = 0 := by
 induction q with
 | zero => rfl
 | succ q ih => rw [List.replicate_succ, natV_cons]; exact ih
theorem dec_digits (u : Nat) : ∀ c ∈ Lib.decDigits u, digitB c = true := by
 induction u using Nat.strongRecOn with
 | _ u ih =>
   intro c hc
   rw [Lib.decDigits] at hc
   have key : ∀ d, d < 10 → digitB (UInt8.ofNat (48 + d)) = true := by
    intro d hd
    unfold digitB
    rw [UInt8.toNat_ofNat']
    simp; omega
   by_cases h : u < 10
   · rw [dif_pos h] at hc
     rw [List.mem_singleton] at hc; subst hc
     exact key u h
   · rw [dif_neg h, List.mem_append] at hc
     rcases hc with hc | hc
     · exact ih (u / 10) (by omega) c hc
     · rw [List.mem_singleton] at hc; subst hc
       exact key (u % 10) (by omega)
theorem dec_natV (u : Nat) : natV (Lib.decDigits u) 0 = u := by
 induction u using Nat.strongRecOn with
 | _ u ih =>
   rw [Lib.decDigits]
   by_cases h : u < 10
   · rw [dif_pos h, natV_cons, UInt8.toNat_ofNat']
     show 0 * 10 + _ = u
     omega
   · rw [dif_neg h, natV_append, ih (u / 10) (by omega), natV_cons, UInt8.toNat_ofNat']
     show u / 10 * 10 + _ = u
     omega
theorem dec_ne (u : Nat) : Lib.decDigits u ≠ [] := by
 rw [Lib.decDigits]; split <;> simp
theorem padded (u q : Nat) : (∀ c ∈ List.replicate q 48 ++ Lib.decDigits u, digitB c = true) ∧ List.replicate q 48 ++ Lib.decDigits u ≠ [] ∧ natV (List.replicate q 48 ++ Lib.decDigits u) 0 = u := by
 refine ⟨fun c hc => ?_, by simp [dec_ne], by rw [natV_append, natV_zeros, dec_natV]⟩
 rcases List.mem_append.1 hc with hc | hc
 · rw [(List.mem_replicate.1 hc).2]; decide
 · exact dec_digits u c hc
end Lx
end Go.Proofs.Ytgoacbomphlhjaa
namespace Go.Proofs.Ytgoacbomphlhjaa
namespace Lx
theorem toks_step (f p : Nat) (l : List UInt8) : toks (f + 1) p l =
 if l.length ≤ skipC false l then ([], none) else
  if (tokAt (l.drop (skipC false l))).2 = 0 then ([], some (p + skipC false l)) else
   (mkTok (p + skipC false l) (tokAt (l.drop (skipC false l))).1 ((l.drop (skipC false l)).take (tokAt (l.drop (skipC false l))).2) ::
     (toks f (p + skipC false l + (tokAt (l.drop (skipC false l))).2) ((l.drop (skipC false l)).drop (tokAt (l.drop (skipC false l))).2)).1,
    (toks f (p + skipC false l + (tokAt (l.drop (skipC false l))).2) ((l.drop (skipC false l)).drop (tokAt (l.drop (skipC false l))).2)).2) := rfl
theorem toks_fuel : ∀ (f f' p : Nat) (l : List UInt8), l.length < f → l.length < f' → toks f p l = toks f' p l := by
 intro f
 induction f with
 | zero => intro f' p l h; omega
 | succ f ih =>
   intro f' p l h h'
   obtain ⟨f', rfl⟩ : ∃ g, f' = g + 1 := ⟨f' - 1, by omega⟩
   rw [toks_step, toks_step]
   by_cases h1 : l.length ≤ skipC false l
   · rw [if_pos h1, if_pos h1]
   · rw [if_neg h1, if_neg h1]
     by_cases h2 : (tokAt (l.drop (skipC false l))).2 = 0
     · rw [if_pos h2, if_pos h2]
     · rw [if_neg h2, if_neg h2]
       have hl : ((l.drop (skipC false l)).drop (tokAt (l.drop (skipC false l))).2).length < f := by rw [List.length_drop, List.length_drop]; omega
       have hl' : ((l.drop (skipC false l)).drop (tokAt (l.drop (skipC false l))).2).length < f' := by rw [List.length_drop, List.length_drop]; omega
       rw [ih f' _ _ hl hl']
def shift (d : Nat) (t : Tok) : Tok := { t with pos := t.pos + d }
theorem toks_shift (d : Nat) : ∀ (f p : Nat) (l : List UInt8), toks f (p + d) l = ((toks f p l).1.map (shift d), (toks f p l).2.map (· + d)) := by
 intro f
 induction f with
 | zero => intro p l; rfl
 | succ f ih =>
   intro p l
   rw [toks_step, toks_step]
   by_cases h1 : l.length ≤ skipC false l
   · rw [if_pos h1, if_pos h1]; rfl
   · rw [if_neg h1, if_neg h1]
     by_cases h2 : (tokAt (l.drop (skipC false l))).2 = 0
     · rw [if_pos h2, if_pos h2]; simp; omega
     · rw [if_neg h2, if_neg h2]
       have e : p + d + skipC false l + (tokAt (l.drop (skipC false l))).2 = p + skipC false l + (tokAt (l.drop (skipC false l))).2 + d := by omega
       rw [e, ih]
       have e2 : p + d + skipC false l = p + skipC false l + d := by omega
       rw [e2]
       rfl
theorem sk10f (l : List UInt8) : skipC false (10 :: l) = skipC false l + 1 := rfl
theorem sk10t (l : List UInt8) : skipC true (10 :: l) = skipC false l + 1 := rfl
theorem cnt_nil (p : UInt8 → Bool) : cnt p [] = 0 := rfl
theorem cnt_cons (p : UInt8 → Bool) (c : UInt8) (r : List UInt8) : cnt p (c :: r) = if p c then cnt p r + 1 else 0 := rfl
theorem skip_join (l : List UInt8) : ∀ (a : List UInt8) (b : Bool), skipC b (a ++ 10 :: l) = if skipC b a < a.length then skipC b a else a.length + 1 + skipC false l := by
 intro a
 induction a with
 | nil =>
   intro b
   have e : skipC b [] = 0 := by cases b <;> rfl
   rw [e, List.nil_append, if_neg (by simp), List.length_nil]
   cases b
   · rw [sk10f]; omega
   · rw [sk10t]; omega
 | cons c r ih =>
   intro b
   have hf := skipC_le false r
   have ht := skipC_le true r
   cases b
   · rw [List.cons_append, skipC, skipC]
     by_cases h1 : blankB c = true
     · rw [if_pos h1, if_pos h1, ih false, List.length_cons]
       by_cases h : skipC false r < r.length
       · rw [if_pos h, if_pos (by omega)]
       · rw [if_neg h, if_neg (by omega)]; omega
     · rw [if_neg h1, if_neg h1]
       by_cases h2 : c.toNat = 59
       · rw [if_pos h2, if_pos h2, ih true, List.length_cons]
         by_cases h : skipC true r < r.length
         · rw [if_pos h, if_pos (by omega)]
         · rw [if_neg h, if_neg (by omega)]; omega
       · rw [if_neg h2, if_neg h2, List.length_cons, if_pos (by omega)]
   · rw [List.cons_append, skipC, skipC]
     by_cases h1 : c.toNat = 10
     · rw [if_pos h1, if_pos h1, ih false, List.length_cons]
       by_cases h : skipC false r < r.length
       · rw [if_pos h, if_pos (by omega)]
       · rw [if_neg h, if_neg (by omega)]; omega
     · rw [if_neg h1, if_neg h1, ih true, List.length_cons]
       by_cases h : skipC true r < r.length
       · rw [if_pos h, if_pos (by omega)]
       · rw [if_neg h, if_neg (by omega)]; omega
theorem cnt_join (p : UInt8 → Bool) (hp : p 10 = false) (l : List UInt8) : ∀ r : List UInt8, cnt p (r ++ 10 :: l) = cnt p r
 | [] => by rw [List.nil_append, cnt_cons, cnt_nil, if_neg (by simp [hp])]
 | c :: r => by
   rw [List.cons_append, cnt_cons, cnt_cons, cnt_join p hp l r]
theorem at0_join (r l : List UInt8) (k : Nat) (h : k < r.length) : at0 (r ++ 10 :: l) k = at0 r k := by
 unfold at0; rw [List.getD_eq_getElem?_getD, List.getD_eq_getElem?_getD, List.getElem?_append_left h]
theorem at0_end (r l : List UInt8) : at0 (r ++ 10 :: l) r.length = 10 := by
 unfold at0; rw [List.getD_eq_getElem?_getD, List.getElem?_append_right (Nat.le_refl _)]; simp
theorem pred_join (p : UInt8 → Bool) (h0 : p 0 = false) (h10 : p 10 = false) (r l : List UInt8) (k : Nat) (h : k ≤ r.length) : p (at0 (r ++ 10 :: l) k) = p (at0 r k) := by
 rcases Nat.lt_or_ge k r.length with h' | h'
 · rw [at0_join r l k h']
 · obtain rfl : k = r.length := by omega
   rw [at0_end, at0_out r _ (Nat.le_refl _), h0, h10]
theorem tokAt_join (r l : List UInt8) (hr : 0 < r.length) : tokAt (r ++ 10 :: l) = tokAt r := by
 have hw : ∀ k, k ≤ r.length → wordB (at0 (r ++ 10 :: l) k) = wordB (at0 r k) := fun k h => pred_join wordB (by decide) (by decide) r l k h
 have hd1 : digitB (at0 (r ++ 10 :: l) 1) = digitB (at0 r 1) := pred_join digitB (by decide) (by decide) r l 1 (by omega)
 have h62 : ((at0 (r ++ 10 :: l) 1).toNat = 62) ↔ ((at0 r 1).toNat = 62) := by
  have := pred_join (fun c => c.toNat == 62) (by decide) (by decide) r l 1 (by omega)
  rw [Bool.eq_iff_iff] at this
  simpa using this
 have hc0 := at0_join r l 0 hr
 have hdr : (r ++ 10 :: l).drop 1 = r.drop 1 ++ 10 :: l := by rw [List.drop_append]; simp; rw [show 1 - r.length = 0 from by omega]; rfl
 have hcd := cnt_join digitB (by decide) l r
 have hcd1 := cnt_join digitB (by decide) l (r.drop 1)
 have hcw1 := cnt_join wordB (by decide) l (r.drop 1)
 have hl1 := cnt_le digitB (r.drop 1)
 rw [List.length_drop] at hl1
 have hl0 := cnt_le digitB r
 unfold tokAt num
 simp only []
 rw [hdr, hc0, hd1, hcd, hcd1, hcw1, hw _ (by omega), hw _ (by omega)]
 by_cases h : (at0 r 1).toNat = 62
 · rw [if_pos h, if_pos (h62.2 h)]
 · rw [if_neg h, if_neg (fun h' => h (h62.1 h'))]
/-- Where none begins lies in the text. -/
theorem toks_place : ∀ (f p : Nat) (l : List UInt8) (q : Nat), (toks f p l).2 = some q → p ≤ q ∧ q ≤ p + l.length := by
 intro f
 induction f with
 | zero => intro p l q h; exact absurd h (by simp [toks])
 | succ f ih =>
   intro p l q h
   rw [toks_step] at h
   have hle := skipC_le false l
   by_cases h1 : l.length ≤ skipC false l
   · rw [if_pos h1] at h; simp at h
   · rw [if_neg h1] at h
     by_cases h2 : (tokAt (l.drop (skipC false l))).2 = 0
     · rw [if_pos h2] at h; simp at h; omega
     · rw [if_neg h2] at h
       have := ih _ _ q h
       rw [List.length_drop, List.length_drop] at this
       have htl := tokAt_le (l.drop (skipC false l))
       rw [List.length_drop] at htl
       omega
theorem toks_len : ∀ (f p : Nat) (l : List UInt8), (toks f p l).1.length ≤ l.length := by
 intro f
 induction f with
 | zero => intro p l; simp [toks]
 | succ f ih =>
   intro p l
   rw [toks_step]
   by_cases h1 : l.length ≤ skipC false l
   · rw [if_pos h1]; simp
   · rw [if_neg h1]
     by_cases h2 : (tokAt (l.drop (skipC false l))).2 = 0
     · rw [if_pos h2]; simp
     · rw [if_neg h2]
       have := ih (p + skipC false l + (tokAt (l.drop (skipC false l))).2) ((l.drop (skipC false l)).drop (tokAt (l.drop (skipC false l))).2)
       rw [List.length_drop, List.length_drop] at this
       rw [List.length_cons]; omega
theorem toks_at : ∀ (f p : Nat) (l : List UInt8) (q : Nat), (toks f p l).2 = some q → q < p + l.length := by
 intro f
 induction f with
 | zero => intro p l q h; exact absurd h (by simp [toks])
 | succ f ih =>
   intro p l q h
   rw [toks_step] at h
   by_cases h1 : l.length ≤ skipC false l
   · rw [if_pos h1] at h; simp at h
   · rw [if_neg h1] at h
     by_cases h2 : (tokAt (l.drop (skipC false l))).2 = 0
     · rw [if_pos h2] at h; simp at h; omega
     · rw [if_neg h2] at h
       have := ih _ _ q h
       rw [List.length_drop, List.length_drop] at this
       have htl := tokAt_le (l.drop (skipC false l))
       rw [List.length_drop] at htl
       omega
/-- Each token lies in the text. -/
theorem toks_mem : ∀ (f p : Nat) (l : List UInt8) (t : Tok), t ∈ (toks f p l).1 → p ≤ t.pos ∧ t.pos + t.text.length ≤ p + l.length := by
 intro f
 induction f with
 | zero => intro p l t h; exact absurd h (by simp [toks])
 | succ f ih =>
   intro p l t h
   rw [toks_step] at h
   have hle := skipC_le false l
   by_cases h1 : l.length ≤ skipC false l
   · rw [if_pos h1] at h; simp at h
   · rw [if_neg h1] at h
     by_cases h2 : (tokAt (l.drop (skipC false l))).2 = 0
     · rw [if_pos h2] at h; simp at h
     · rw [if_neg h2] at h
       have htl := tokAt_le (l.drop (skipC false l))
       rw [List.length_drop] at htl
       rcases List.mem_cons.1 h with rfl | h
       · simp only [mkTok, List.length_take, List.length_drop]; omega
       · have := ih _ _ t h
         rw [List.length_drop, List.length_drop] at this
         omega
/-- The tokens of both. -/
theorem toks_join (b : List UInt8) : ∀ (n : Nat) (a : List UInt8) (p : Nat), a.length < n →
 toks (a.length + 1 + b.length + 1) p (a ++ 10 :: b) =
  match (toks (a.length + 1) p a).2 with
  | some q => ((toks (a.length + 1) p a).1, some q)
  | none => ((toks (a.length + 1) p a).1 ++ (toks (b.length + 1) (p + a.length + 1) b).1, (toks (b.length + 1) (p + a.length + 1) b).2) := by
 intro n
 induction n with
 | zero => intro a p h; omega
 | succ n ih =>
   intro a p hn
   have hsk := skip_join b a false
   have hle := skipC_le false a
   by_cases h1 : a.length ≤ skipC false a
   · rw [if_neg (by omega)] at hsk
     have ea : toks (a.length + 1) p a = ([], none) := by rw [toks_step, if_pos h1]
     rw [ea]
     have ed : (a ++ 10 :: b).drop (a.length + 1) = b := by rw [List.drop_append]; simp
     have edd : ∀ s, (a ++ 10 :: b).drop (a.length + 1 + s) = b.drop s := by
      intro s
      have := congrArg (List.drop s) ed
      rw [List.drop_drop] at this; exact this
     rw [toks_fuel (b.length + 1) (a.length + 1 + b.length + 1) _ b (by omega) (by omega), toks_step, toks_step, hsk, edd]
     simp only [List.nil_append]
     have hl : (a ++ 10 :: b).length = a.length + 1 + b.length := by simp; omega
     rw [hl]
     by_cases h2 : b.length ≤ skipC false b
     · rw [if_pos h2, if_pos (by omega)]
     · rw [if_neg h2, if_neg (by omega)]
       have e1 : p + (a.length + 1 + skipC false b) = p + a.length + 1 + skipC false b := by omega
       rw [e1]
   · rw [if_pos (by omega)] at hsk
     have hr : 0 < (a.drop (skipC false a)).length := by rw [List.length_drop]; omega
     have edr : (a ++ 10 :: b).drop (skipC false a) = a.drop (skipC false a) ++ 10 :: b := by rw [List.drop_append_of_le_length (by omega)]
     have htk := tokAt_join (a.drop (skipC false a)) b hr
     have htl := tokAt_le (a.drop (skipC false a))
     have hl : (a ++ 10 :: b).length = a.length + 1 + b.length := by simp; omega
     rw [toks_step, toks_step (a.length), hsk, edr, htk, if_neg (by omega), if_neg h1]
     by_cases h2 : (tokAt (a.drop (skipC false a))).2 = 0
     · rw [if_pos h2, if_pos h2]
     · rw [if_neg h2, if_neg h2]
       rw [List.length_drop] at htl
       have et : (a.drop (skipC false a) ++ 10 :: b).take (tokAt (a.drop (skipC false a))).2 = (a.drop (skipC false a)).take (tokAt (a.drop (skipC false a))).2 := by
        rw [List.take_append_of_le_length (by rw [List.length_drop]; omega)]
       have edn : (a.drop (skipC false a) ++ 10 :: b).drop (tokAt (a.drop (skipC false a))).2 = (a.drop (skipC false a)).drop (tokAt (a.drop (skipC false a))).2 ++ 10 :: b := by
        rw [List.drop_append_of_le_length (by rw [List.length_drop]; omega)]
       rw [et, edn]
       generalize hA : (a.drop (skipC false a)).drop (tokAt (a.drop (skipC false a))).2 = A
       have hAl : A.length + skipC false a + (tokAt (a.drop (skipC false a))).2 = a.length := by rw [← hA, List.length_drop, List.length_drop]; omega
       generalize hP : p + skipC false a + (tokAt (a.drop (skipC false a))).2 = P
       have hih := ih A P (by omega)
       rw [toks_fuel (a.length + 1 + b.length) (A.length + 1 + b.length + 1) P _ (by simp; omega) (by simp; omega), hih, toks_fuel a.length (A.length + 1) P A (by omega) (by omega)]
       have hPA : P + A.length + 1 = p + a.length + 1 := by omega
       rw [hPA]
       cases (toks (A.length + 1) P A).2 with
       | none => rfl
       | some q => rfl
end Lx
end Go.Proofs.Ytgoacbomphlhjaa
namespace Go.Proofs.Ytgoacbomphlhjaa
set_option linter.unusedVariables false
set_option linter.unusedSimpArgs false
namespace Lx
/-- The tokens of a text that stands at a place. -/
def tk (p : Nat) (l : List UInt8) : List Tok × Option Nat := toks (l.length + 1) p l
theorem tk_nil (p : Nat) : tk p [] = ([], none) := rfl
theorem toks_blankstep (f p : Nat) (c : UInt8) (l : List UInt8) (h : blankB c = true) : toks (f + 1) p (c :: l) = toks (f + 1) (p + 1) l := by
 rw [toks_step, toks_step]
 have e : skipC false (c :: l) = skipC false l + 1 := by rw [skipC, if_pos h]
 rw [e, List.length_cons, List.drop_succ_cons]
 have e2 : p + (skipC false l + 1) = p + 1 + skipC false l := by omega
 rw [e2]
 by_cases h1 : l.length ≤ skipC false l
 · rw [if_pos h1, if_pos (by omega)]
 · rw [if_neg h1, if_neg (by omega)]
theorem tk_blank (p : Nat) (c : UInt8) (l : List UInt8) (h : blankB c = true) : tk p (c :: l) = tk (p + 1) l := by
 unfold tk
 rw [List.length_cons, toks_blankstep _ _ _ _ h]
 exact toks_fuel _ _ _ _ (by omega) (by omega)
theorem tk_32 (p : Nat) (l : List UInt8) : tk p (32 :: l) = tk (p + 1) l := tk_blank p 32 l (by decide)
theorem tk_10 (p : Nat) (l : List UInt8) : tk p (10 :: l) = tk (p + 1) l := tk_blank p 10 l (by decide)
/-- One token, told. -/
theorem tk_tok (p : Nat) (t r : List UInt8) (k : Int) (hne : t ≠ []) (hb : blankB (at0 t 0) = false) (hs : (at0 t 0).toNat ≠ 59) (h : tokAt (t ++ r) = (k, t.length)) :
 tk p (t ++ r) = (mkTok p k t :: (tk (p + t.length) r).1, (tk (p + t.length) r).2) := by
 have hl : 0 < t.length := List.length_pos_iff.2 hne
 have e0 : at0 (t ++ r) 0 = at0 t 0 := by unfold at0; rw [List.getD_eq_getElem?_getD, List.getD_eq_getElem?_getD, List.getElem?_append_left hl]
 have hsk : skipC false (t ++ r) = 0 := skip_zero _ (by rw [e0]; exact hb) (by rw [e0]; exact hs)
 unfold tk
 rw [toks_step, hsk, List.drop_zero, h]
 have hz : ¬ (t ++ r).length ≤ 0 := by rw [List.length_append]; omega
 rw [if_neg hz, if_neg (by show ¬ t.length = 0; omega), List.take_left, List.drop_left]
 simp only [Nat.add_zero]
 rw [toks_fuel (t ++ r).length (r.length + 1) (p + t.length) r (by rw [List.length_append]; omega) (by omega)]
/-- A text that is a token of a kind, whatever stands behind it that goes on with no word. -/
def Ends (r : List UInt8) : Prop := wordB (at0 r 0) = false ∧ (at0 r 0).toNat ≠ 62
theorem ends_nil : Ends [] := ⟨by decide, by decide⟩
theorem ends_32 (r : List UInt8) : Ends (32 :: r) := ⟨by rfl, by show (32 : UInt8).toNat ≠ 62; decide⟩
theorem ends_41 (r : List UInt8) : Ends (41 :: r) := ⟨by rfl, by show (41 : UInt8).toNat ≠ 62; decide⟩
theorem ends_10 (r : List UInt8) : Ends (10 :: r) := ⟨by rfl, by show (10 : UInt8).toNat ≠ 62; decide⟩
structure IsTok (k : Int) (t : List UInt8) : Prop where
 ne : t ≠ []
 blank : blankB (at0 t 0) = false
 note : (at0 t 0).toNat ≠ 59
 is : ∀ r, Ends r → tokAt (t ++ r) = (k, t.length)
theorem tk_word (p : Nat) {k : Int} {t r : List UInt8} (h : IsTok k t) (hr : Ends r) : tk p (t ++ r) = (mkTok p k t :: (tk (p + t.length) r).1, (tk (p + t.length) r).2) :=
 tk_tok p t r k h.ne h.blank h.note (h.is r hr)
theorem tk_open (p : Nat) (r : List UInt8) : tk p (40 :: r) = (mkTok p 0 [40] :: (tk (p + 1) r).1, (tk (p + 1) r).2) :=
 tk_tok p [40] r 0 (by simp) (by decide) (by decide) rfl
theorem tk_close (p : Nat) (r : List UInt8) : tk p (41 :: r) = (mkTok p 1 [41] :: (tk (p + 1) r).1, (tk (p + 1) r).2) :=
 tk_tok p [41] r 1 (by simp) (by decide) (by decide) rfl
theorem at0_app (t r : List UInt8) (j : Nat) (h : j < t.length) : at0 (t ++ r) j = at0 t j := by
 unfold at0; rw [List.getD_eq_getElem?_getD, List.getD_eq_getElem?_getD, List.getElem?_append_left h]
theorem at0_app_end (t r : List UInt8) : at0 (t ++ r) t.length = at0 r 0 := by
 unfold at0; rw [List.getD_eq_getElem?_getD, List.getD_eq_getElem?_getD, List.getElem?_append_right (Nat.le_refl _), Nat.sub_self]
theorem cnt_app (p : UInt8 → Bool) (t r : List UInt8) (h : ∀ c ∈ t, p c = true) (hr : p (at0 r 0) = false) : cnt p (t ++ r) = t.length := by
 induction t with
 | nil =>
   cases r with
   | nil => rfl
   | cons c r => 
     have : p c = false := hr
     rw [List.nil_append, cnt_cons, if_neg (by simp [this])]; rfl
 | cons c t ih =>
   rw [List.cons_append, cnt_cons, if_pos (h c (by simp)), ih (fun d hd => h d (by simp [hd])), List.length_cons]
theorem word_digit {c : UInt8} (h : wordB c = false) : digitB c = false := by
 unfold wordB at h; simp only [Bool.or_eq_false_iff] at h; exact h.1.2
/-- A number's text is one token. -/
theorem isTok_digits (D : List UInt8) (hd : ∀ c ∈ D, digitB c = true) (hne : D ≠ []) (h18 : D.length ≤ 18) : IsTok 2 D := by
 have hl : 0 < D.length := List.length_pos_iff.2 hne
 have h0 := hd _ (at0_mem D 0 hl)
 obtain ⟨hb, hs, h45, _⟩ := digit_not_blank _ h0
 refine ⟨hne, hb, hs, fun r hr => ?_⟩
 have hc := cnt_app digitB D r hd (word_digit hr.1)
 unfold tokAt num
 simp only []
 rw [at0_app D r 0 hl, if_neg h45, if_pos h0, hc, Nat.zero_add, at0_app_end, hr.1, if_neg (by simp; omega)]
theorem isTok_neg (D : List UInt8) (hd : ∀ c ∈ D, digitB c = true) (hne : D ≠ []) (h18 : D.length ≤ 18) : IsTok 2 (45 :: D) := by
 have hl : 0 < D.length := List.length_pos_iff.2 hne
 have h0 := hd _ (at0_mem D 0 hl)
 obtain ⟨_, _, _, h62⟩ := digit_not_blank _ h0
 refine ⟨by simp, by show blankB 45 = false; decide, by show (45 : UInt8).toNat ≠ 59; decide, fun r hr => ?_⟩
 have hc := cnt_app digitB D r hd (word_digit hr.1)
 have e1 : at0 (45 :: D ++ r) 1 = at0 D 0 := by rw [List.cons_append]; show at0 (D ++ r) 0 = _; exact at0_app D r 0 hl
 have ed : (45 :: D ++ r).drop 1 = D ++ r := rfl
 have ee : at0 (45 :: D ++ r) (1 + D.length) = at0 r 0 := by have := at0_app_end (45 :: D) r; rwa [List.length_cons, Nat.add_comm] at this
 have e0 : (at0 (45 :: D ++ r) 0).toNat = 45 := rfl
 unfold tokAt num
 simp only []
 rw [if_pos e0, e1, if_neg h62, if_pos h0, ed, hc, ee, hr.1, if_neg (by simp; omega), List.length_cons, Nat.add_comm]
theorem dec_len_lt (k : Nat) : ∀ u, u < 10 ^ (k + 1) → (Lib.decDigits u).length ≤ k + 1 := by
 induction k with
 | zero => intro u h; rw [Lib.decDigits, dif_pos (by omega)]; simp
 | succ k ih =>
   intro u h
   rw [Lib.decDigits]
   split
   · simp
   · rw [List.length_append, List.length_singleton]
     have := ih (u / 10) (by rw [Nat.pow_succ] at h; omega)
     omega
theorem itoa_split (n : Int) : Lib.itoa n = if n < 0 then 45 :: Lib.decDigits n.natAbs else Lib.decDigits n.natAbs := by
 unfold Lib.itoa
 by_cases h : n < 0
 · rw [if_pos h, if_pos h]
 · rw [if_neg h, if_neg h]; congr 1; omega
theorem isTok_itoa (n : Int) (h0 : -1000000000000000000 < n) (h1 : n < 1000000000000000000) : IsTok 2 (Lib.itoa n) := by
 have hl := dec_len_lt 17 n.natAbs (by omega)
 rw [itoa_split]
 split
 · exact isTok_neg _ (dec_digits _) (dec_ne _) hl
 · exact isTok_digits _ (dec_digits _) (dec_ne _) hl
theorem numV_itoa (n : Int) : numV (Lib.itoa n) = n := by
 rw [itoa_split]
 unfold numV
 split
 · rw [if_pos (by rfl)]
   show -(natV (Lib.decDigits n.natAbs) 0 : Int) = n
   rw [dec_natV]; omega
 · have hd := dec_digits n.natAbs _ (at0_mem _ 0 (List.length_pos_iff.2 (dec_ne n.natAbs)))
   rw [if_neg (digit_not_blank _ hd).2.2.1, dec_natV]; omega
theorem mkTok_itoa (p : Nat) (n : Int) : mkTok p 2 (Lib.itoa n) = ⟨2, p, Lib.itoa n, n⟩ := by
 unfold mkTok; rw [if_pos rfl, numV_itoa]
/-- A symbol that is a token alone. -/
theorem isTok_single (c : UInt8) (hb : blankB c = false) (hs : c.toNat ≠ 59) (hd : digitB c = false) (hsm : smallB c = false) (hg : greatB c = false) (h : ¬ single c < 0) : IsTok (single c) [c] := by
 refine ⟨by simp, hb, hs, fun r hr => ?_⟩
 have e0 : at0 ([c] ++ r) 0 = c := rfl
 have e1 : at0 ([c] ++ r) 1 = at0 r 0 := rfl
 have ho : one c = (single c, 1) := by unfold one; rw [if_neg h]
 unfold tokAt
 simp only []
 rw [e0, e1]
 by_cases h45 : c.toNat = 45
 · rw [if_pos h45, if_neg hr.2, if_neg (by rw [word_digit hr.1]; decide), ho]; rfl
 · rw [if_neg h45, if_neg (by simp [hd]), if_neg (by simp [hsm]), if_neg (by simp [hg]), ho]; rfl
/-- A word, by its first letter. -/
theorem isTok_small (c : UInt8) (t : List UInt8) (hc : smallB c = true) (h : ∀ d ∈ t, wordB d = true) : IsTok 3 (c :: t) := by
 have hb : 97 ≤ c.toNat ∧ c.toNat ≤ 122 := by simpa [smallB] using hc
 refine ⟨by simp, ?_, ?_, fun r hr => ?_⟩
 · show blankB c = false; unfold blankB; simp; omega
 · show c.toNat ≠ 59; omega
 · have e0 : at0 (c :: t ++ r) 0 = c := rfl
   have ed : (c :: t ++ r).drop 1 = t ++ r := rfl
   have hdg : digitB c = false := by unfold digitB; simp; omega
   unfold tokAt
   simp only []
   rw [e0, ed, if_neg (by omega), if_neg (by simp [hdg]), if_pos hc, cnt_app wordB t r h hr.1]; rfl
theorem isTok_great (c : UInt8) (t : List UInt8) (hc : greatB c = true) (h : ∀ d ∈ t, wordB d = true) : IsTok 4 (c :: t) := by
 have hb : 65 ≤ c.toNat ∧ c.toNat ≤ 90 := by simpa [greatB] using hc
 refine ⟨by simp, ?_, ?_, fun r hr => ?_⟩
 · show blankB c = false; unfold blankB; simp; omega
 · show c.toNat ≠ 59; omega
 · have e0 : at0 (c :: t ++ r) 0 = c := rfl
   have ed : (c :: t ++ r).drop 1 = t ++ r := rfl
   have hdg : digitB c = false := by unfold digitB; simp; omega
   have hsm : smallB c = false := by unfold smallB; simp; omega
   unfold tokAt
   simp only []
   rw [e0, ed, if_neg (by omega), if_neg (by simp [hdg]), if_neg (by simp [hsm]), if_pos hc, cnt_app wordB t r h hr.1]; rfl
theorem isTok_plus : IsTok 5 [43] := isTok_single 43 (by decide) (by decide) (by decide) (by decide) (by decide) (by decide)
end Lx
end Go.Proofs.Ytgoacbomphlhjaa
