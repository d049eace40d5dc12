/-
  Several texts in one: WPure, WBld, WKeep.
-/
import Derived.Test.YtnhndamfbeiljaaGreatDoorGTop
import Derived.Lib.ItoaNum
import Derived.Test.YtnhndamfbeiljaaGreatDoorRows
import Derived.WalkKit
import Derived.WalkSpells
import Derived.Lib.Hide
import Derived.Below
import Derived.Maps.AppendAt
import Derived.Lib.Strings
import Derived.Lib.Slices
import Derived.Lib.Walk
import Derived.Lib.Builder
import Derived.Lib.AppendStr
import Derived.Lib.UnsafeStr
import Derived.Laws.Externs
import Derived.BigRegion
namespace Go.Proofs.YtnhndamfbeiljaaGreatDoor
open Go Go.RowKit
set_option linter.unusedVariables false
set_option linter.unusedSimpArgs false
namespace Sw

/-- A tree. -/
inductive Tr where
  | mk (name : List UInt8) (int re im : Int) (args : List Tr)

/-- What waits. -/
inductive Nd where
  | blank
  | fin
  | word (s : List UInt8)
  | typ (f : Nat) (t : Px.TypeE)
  | pat (f : Nat) (p : Px.Pat)
  | expr (f : Nat) (x : Px.Expr)
  | alt (f : Nat) (a : Px.Pat × Px.Expr)
  | pair (f : Nat) (b : List UInt8 × Px.Expr)
  | names (l : List (List UInt8))
  | pairs (f : Nat) (l : List (List UInt8 × Px.Expr))
  | con (f : Nat) (c : Px.Con)
  | data (f : Nat) (d : Px.Data)
  | defn (f : Nat) (d : Px.Def)
  | tree (f : Nat) (t : Tr)

/-- The list of some, and what ends it. -/
def weave : List Nd → List Nd
  | [] => [.fin]
  | x :: r => x :: ((r.flatMap fun y => [.blank, y]) ++ [.fin])
def wd (s : List UInt8) : List UInt8 := if s = [] then [63] else s
def named (nm : List UInt8) (l : List Nd) : List UInt8 × List Nd := if l = [] then (wd nm, []) else ([40], weave (.word nm :: l))
def bindings (ns : List (List UInt8)) (xs : List Px.Expr) : List (List UInt8 × Px.Expr) := ns.zip xs
def lcount (ns : List (List UInt8)) (xs : List Px.Expr) : Nat := min ns.length xs.length

/-- What is written at once, and what waits then. -/
def step : Nd → List UInt8 × List Nd
  | .blank => ([32], [])
  | .fin => ([41], [])
  | .word s => (wd s, [])
  | .typ 0 _ => ([63], [])
  | .typ (f + 1) (.mk _ nm args) => named nm (args.map (.typ f))
  | .pat 0 _ => ([63], [])
  | .pat (f + 1) (.mk k _ nm i args) => if k = 0 then ([95], []) else if k = 2 then (Lib.itoa i, []) else named nm (args.map (.pat f))
  | .expr 0 _ => ([63], [])
  | .expr (f + 1) (.mk k _ nm i ns xs al) =>
    if k = 0 then (Lib.itoa i, [])
    else if k = 3 then ([40], weave (.word [102, 110] :: .names ns :: xs.map (.expr f)))
    else if k = 4 then ([40], weave (.word [108, 101, 116] :: .pairs f (bindings ns xs) :: (xs.drop (lcount ns xs)).map (.expr f)))
    else if k = 5 then ([40], weave (.word [99, 97, 115, 101] :: (xs.map (.expr f) ++ al.map (.alt f))))
    else if k = 6 then ([40], weave (xs.map (.expr f)))
    else if k = 8 then ([102, 97, 105, 108], [])
    else named nm (xs.map (.expr f))
  | .alt f a => ([40], weave [.pat f a.1, .expr f a.2])
  | .pair f b => ([40], weave [.word b.1, .expr f b.2])
  | .names l => ([40], weave (l.map .word))
  | .pairs f l => ([40], weave (l.map (.pair f)))
  | .con f c => ([40], weave (.word c.name :: c.fields.map (.typ f)))
  | .data f d => ([40], weave (.word [100, 97, 116, 97] :: .word d.name :: .names d.params :: d.cons.map (.con f)))
  | .defn f d => ([40], weave [.word [100, 101, 102], .word d.name, .names d.params, .expr f d.body])
  | .tree 0 _ => ([63], [])
  | .tree (f + 1) (.mk nm i re im args) => if nm = [] then (Lib.itoa i, []) else if nm = [99, 112, 120] then ([40], weave [.word [99, 112, 120], .word (Lib.itoa re), .word (Lib.itoa im)]) else named nm (args.map (.tree f))

/-- All is written in so many steps. -/
inductive Run : List Nd → List UInt8 → Nat → Prop
  | nil : Run [] [] 0
  | cons {n : Nd} {r : List Nd} {T : List UInt8} {k : Nat} (h : Run ((step n).2 ++ r) T k) : Run (n :: r) ((step n).1 ++ T) (k + 1)
theorem Run.app {a b : List Nd} {T U : List UInt8} {k j : Nat} (h : Run a T k) (g : Run b U j) : Run (a ++ b) (T ++ U) (k + j) := by
  induction h with
  | nil => simpa using g
  | cons h ih =>
    rw [List.append_assoc, List.cons_append, show ∀ x y : Nat, x + 1 + y = x + y + 1 by omega]
    refine Run.cons ?_
    rw [← List.append_assoc]; exact ih
theorem Run.one {n : Nd} {T : List UInt8} {k : Nat} (h : Run (step n).2 T k) : Run [n] ((step n).1 ++ T) (k + 1) := Run.cons (by simpa using h)
theorem wd_ne (s : List UInt8) : wd s ≠ [] := by unfold wd; split <;> simp_all
theorem named_ne (nm : List UInt8) (l : List Nd) : (named nm l).1 ≠ [] := by
  unfold named; split
  · exact wd_ne nm
  · simp
theorem itoa_ne (n : Int) : Lib.itoa n ≠ [] := by
  unfold Lib.itoa
  split
  · simp
  · rw [Lib.decDigits]; split <;> simp
theorem step_ne : ∀ n : Nd, (step n).1 ≠ [] := by
  intro n
  cases n with
  | blank => simp [step]
  | fin => simp [step]
  | word s => exact wd_ne s
  | typ f t =>
    cases f with
    | zero => simp [step]
    | succ f => obtain ⟨p, nm, args⟩ := t; exact named_ne _ _
  | pat f t =>
    cases f with
    | zero => simp [step]
    | succ f =>
      obtain ⟨k, p, nm, i, args⟩ := t
      simp only [step]
      split
      · simp
      split
      · exact itoa_ne i
      · exact named_ne _ _
  | expr f t =>
    cases f with
    | zero => simp [step]
    | succ f =>
      obtain ⟨k, p, nm, i, ns, xs, al⟩ := t
      simp only [step]
      split
      · exact itoa_ne i
      split
      · simp
      split
      · simp
      split
      · simp
      split
      · simp
      split
      · simp
      · exact named_ne _ _
  | alt f a => simp [step]
  | pair f b => simp [step]
  | names l => simp [step]
  | pairs f l => simp [step]
  | con f c => simp [step]
  | data f d => simp [step]
  | defn f d => simp [step]
  | tree f t =>
    cases f with
    | zero => simp [step]
    | succ f =>
      obtain ⟨nm, i, re, im, args⟩ := t
      simp only [step]
      split
      · exact itoa_ne i
      split
      · simp
      · exact named_ne _ _
theorem Run.len {l : List Nd} {T : List UInt8} {k : Nat} (h : Run l T k) : l.length ≤ T.length := by
  induction h with
  | nil => simp
  | @cons n r T k h ih =>
    have := List.length_pos_iff.2 (step_ne n)
    simp only [List.length_append, List.length_cons] at ih ⊢
    omega

/-- Each of some is written as its text. -/
def Texts : List Nd → List (List UInt8) → Prop
  | [], [] => True
  | n :: r, t :: ts => (∃ k, Run [n] t k) ∧ Texts r ts
  | _, _ => False
theorem Texts.map {α : Type} (g : α → Nd) (t : α → List UInt8) : ∀ l : List α, (∀ x ∈ l, ∃ k, Run [g x] (t x) k) → Texts (l.map g) (l.map t)
  | [], _ => trivial
  | x :: r, h => ⟨h x (by simp), Texts.map g t r fun y hy => h y (by simp [hy])⟩
theorem Texts.app : ∀ {a b : List Nd} {s t : List (List UInt8)}, Texts a s → Texts b t → Texts (a ++ b) (s ++ t)
  | [], _, [], _, _, h => h
  | _ :: _, _, _ :: _, _, h, g => ⟨h.1, Texts.app h.2 g⟩
  | [], _, _ :: _, _, h, _ => h.elim
  | _ :: _, _, [], _, h, _ => h.elim
theorem run_blank : ∃ k, Run [Nd.blank] [32] k := ⟨1, by simpa [step] using Run.one (n := .blank) (T := []) (k := 0) Run.nil⟩
theorem run_fin : ∃ k, Run [Nd.fin] [41] k := ⟨1, by simpa [step] using Run.one (n := .fin) (T := []) (k := 0) Run.nil⟩
theorem run_word (s : List UInt8) (h : s ≠ []) : ∃ k, Run [Nd.word s] s k := ⟨1, by simpa [step, wd, h] using Run.one (n := .word s) (T := []) (k := 0) Run.nil⟩
theorem run_tail : ∀ {r : List Nd} {ts : List (List UInt8)}, Texts r ts → ∃ k, Run ((r.flatMap fun y => [Nd.blank, y]) ++ [.fin]) ((ts.flatMap fun y => 32 :: y) ++ [41]) k
  | [], [], _ => run_fin
  | y :: r, t :: ts, h => by
    obtain ⟨k1, h1⟩ := run_blank
    obtain ⟨k2, h2⟩ := h.1
    obtain ⟨k3, h3⟩ := run_tail h.2
    exact ⟨_, by simpa using h1.app (h2.app h3)⟩
  | [], _ :: _, h => h.elim
  | _ :: _, [], h => h.elim
theorem run_weave {l : List Nd} {ts : List (List UInt8)} (h : Texts l ts) : ∃ k, Run (weave l) (glue ts ++ [41]) k := by
  cases l with
  | nil =>
    cases ts with
    | nil => exact run_fin
    | cons _ _ => exact h.elim
  | cons x r =>
    cases ts with
    | nil => exact h.elim
    | cons t ts =>
      obtain ⟨k1, h1⟩ := h.1
      obtain ⟨k2, h2⟩ := run_tail h.2
      exact ⟨_, by simpa [weave, glue] using h1.app h2⟩
theorem run_joined {n : Nd} {l : List Nd} {ts : List (List UInt8)} (hs : step n = ([40], weave l)) (h : Texts l ts) : ∃ k, Run [n] (joined ts) k := by
  obtain ⟨k, hk⟩ := run_weave h
  have := Run.one (n := n) (T := glue ts ++ [41]) (k := k) (by rw [hs]; exact hk)
  rw [hs] at this
  exact ⟨_, by simpa [joined] using this⟩
theorem run_text {n : Nd} {t : List UInt8} (hs : step n = (t, [])) : ∃ k, Run [n] t k := by
  have := Run.one (n := n) (T := []) (k := 0) (by rw [hs]; exact Run.nil)
  rw [hs] at this
  exact ⟨_, by simpa using this⟩
theorem run_named {n : Nd} {nm : List UInt8} {l : List Nd} {ts : List (List UInt8)} (hn : nm ≠ []) (hs : step n = named nm l) (h : Texts l ts) : ∃ k, Run [n] (if ts = [] then nm else joined (nm :: ts)) k := by
  cases l with
  | nil =>
    cases ts with
    | nil => rw [if_pos rfl]; exact run_text (by rw [hs]; simp [named, wd, hn])
    | cons _ _ => exact h.elim
  | cons x r =>
    cases ts with
    | nil => exact h.elim
    | cons t ts =>
      rw [if_neg (by simp)]
      exact run_joined (l := .word nm :: x :: r) (by rw [hs]; simp [named]) ⟨run_word nm hn, h⟩
end Sw
end Go.Proofs.YtnhndamfbeiljaaGreatDoor

namespace Go.Proofs.YtnhndamfbeiljaaGreatDoor
open Go Go.RowKit
set_option linter.unusedVariables false
set_option linter.unusedSimpArgs false
namespace Sw

/-- What a variable's type must be for a builder to lie at its beginning. -/
structure BTy (TT : TypeId) (k : Nat) : Prop where
  lies : liesAt Tryz.prog Tryz.prog.depth TT (k / Tryz.prog.cellsOf TT) 0 113 1 = true
  ne : TT ≠ 5
  pos : 2 ≤ k
theorem btyW : BTy 123 3 := ⟨by kernel_rfl, by decide, by decide⟩
theorem btyB : BTy 113 2 := ⟨by kernel_rfl, by decide, by decide⟩

/-- A builder at the beginning of block B, whose cells are cs: what it holds is T. -/
structure WB (TT : TypeId) (k lo B : Nat) (w : World) (cs : Array Value) (T : List UInt8) : Prop where
  heap : w.heap[B]? = some (.cells cs TT (0, 0))
  size : cs.size = k
  low : lo ≤ B
  addr : cs[0]? = some (.pointer none) ∨ cs[0]? = some (.pointer (some ⟨B, 0, none⟩))
  own : ∃ bv, cs[1]? = some bv ∧ w.ownsRow lo 5 1 bv T.length (Lib.byteCells T)
/-- Blocks but B, and those of bytes, stay. -/
def KeepB (B : Nat) (w w' : World) : Prop := w.heap.size ≤ w'.heap.size ∧ ∀ c o, w.heap[c]? = some o → c ≠ B → (∀ cs fr, o ≠ .cells cs 5 fr) → w'.heap[c]? = some o
theorem KeepB.refl (B : Nat) (w : World) : KeepB B w w := ⟨Nat.le_refl _, fun _ _ h _ _ => h⟩
theorem KeepB.trans {B : Nat} {a b c : World} (h : KeepB B a b) (g : KeepB B b c) : KeepB B a c := ⟨Nat.le_trans h.1 g.1, fun x o hx hb hn => g.2 x o (h.2 x o hx hb hn) hb hn⟩
theorem KeepB.set (B j : Nat) (w : World) (v : Value) : KeepB B w (w.setCell ⟨B, j, none⟩ v) := ⟨by simp [World.setCell], fun c o h hb _ => (Below.heap_setCell w ⟨B, j, none⟩ v c hb).trans h⟩
theorem KeepB.alloc (B : Nat) (w : World) (o : Obj) : KeepB B w (w.alloc o) := ⟨by simp, fun c x h _ _ => (Below.heap_alloc w o c (Array.getElem?_eq_some_iff.1 h).1).trans h⟩
theorem KeepB.grown {B : Nat} {w w' : World} {bv : Value} {n lo : Nat} {xs : List Value} (h : w.grownBy w' bv.ownBlock) (ho : w.ownsRow lo 5 1 bv n xs) : KeepB B w w' := by
  refine ⟨h.size, fun c o hc hb hn => ?_⟩
  rw [h.block c (Array.getElem?_eq_some_iff.1 hc).1 ?_]; · exact hc
  intro e
  rcases ho.2 with ⟨rfl, _⟩ | ⟨g, cap, cur, rfl, _, hg, _⟩
  · simp [Value.ownBlock] at e
  · simp only [Value.ownBlock, Option.some.injEq] at e
    subst e
    rw [hg] at hc
    exact hn cur (0, 0) (by simpa using hc.symm)

set_option maxHeartbeats 1000000 in
set_option maxRecDepth 100000 in
theorem copyCheck_used (B : Nat) (w : World) (h0 : w.cell? ⟨B, 0, none⟩ = some (.pointer (some ⟨B, 0, none⟩))) :
    Calls Tryz.prog 93 #[.pointer (some ⟨B, 0, none⟩)] w fun e w' => e = .returned (.tuple #[]) ∧ w' = w := by
  obtain ⟨j, hj, _⟩ := Option.map_eq_some_iff.1 (show (Tryz.prog.info? 113).map (·.size) = some 2 by kernel_rfl)
  go_enter Tryz.func93, Tryz.ntmps93
  go_wp2
  rw [Lib.run_neq_ptr_same w _ Tryz.underlying111 hj]
  go_wp2
  go_end0
  exact ⟨rfl, rfl⟩
set_option maxHeartbeats 1000000 in
set_option maxRecDepth 100000 in
theorem copyCheck_fresh {TT : TypeId} {k : Nat} (hT : BTy TT k) (B : Nat) (w : World) (h0 : w.cell? ⟨B, 0, none⟩ = some (.pointer none)) (hsh : w.shape? B = some (TT, k)) (hfz : w.frozen? ⟨B, 0, none⟩ = false) :
    Calls Tryz.prog 93 #[.pointer (some ⟨B, 0, none⟩)] w fun e w' => e = .returned (.tuple #[]) ∧ w' = w.setCell ⟨B, 0, none⟩ (.pointer (some ⟨B, 0, none⟩)) := by
  obtain ⟨j, hj, hjs⟩ := Option.map_eq_some_iff.1 (show (Tryz.prog.info? 113).map (·.size) = some 2 by kernel_rfl)
  have hlies := hT.lies
  have hpos : 0 < k := by have := hT.pos; omega
  go_enter Tryz.func93, Tryz.ntmps93
  go_wp2
  rw [Lib.run_to_unsafe w ⟨B, 0, none⟩ Tryz.underlying111 Tryz.underlying188 hj (by rw [hjs]; decide) hsh hpos]
  simp only [Result.andThen]
  rw [Oper.upon_value]
  go_wp2
  rw [run_callFunc_extern Tryz.func128 (by kernel_rfl) (by kernel_rfl) (by kernel_rfl) (e := Extern.AbiNoEscape.same) (by kernel_rfl)]
  rw [Lib.run_noEscape]
  simp only [Result.andThen]
  rw [Oper.upon_value]
  go_wp2
  rw [Lib.run_from_unsafe w ⟨B, 0, none⟩ Tryz.underlying188 Tryz.underlying111 hj hsh hlies]
  simp only [Result.andThen]
  rw [Oper.upon_value]
  go_wp2
  go_end0
  exact ⟨rfl, rfl⟩

theorem WB.cell {TT : TypeId} {k lo B : Nat} {w : World} {cs : Array Value} {T : List UInt8} (h : WB TT k lo B w cs T) (j : Nat) : w.cell? ⟨B, j, none⟩ = cs[j]? := Lib.cell_of_heap h.heap j
theorem WB.free {TT : TypeId} {k lo B : Nat} {w : World} {cs : Array Value} {T : List UInt8} (h : WB TT k lo B w cs T) (j : Nat) : w.frozen? ⟨B, j, none⟩ = false := Lib.frozen_of_heap h.heap j
theorem WB.lt {TT : TypeId} {k lo B : Nat} {w : World} {cs : Array Value} {T : List UInt8} (h : WB TT k lo B w cs T) : B < w.heap.size := (Array.getElem?_eq_some_iff.1 h.heap).1
theorem own_set {w : World} {lo B j : Nat} {E : TypeId} {bv v : Value} {n : Nat} {xs : List Value} (h : w.ownsRow lo E 1 bv n xs) (hne : bv.ownBlock ≠ some B) : (w.setCell ⟨B, j, none⟩ v).ownsRow lo E 1 bv n xs :=
  h.kept (row := some B) ⟨rfl, rfl, rfl, by simp [World.setCell], fun k _ hk => Below.heap_setCell _ _ _ _ (fun e => hk (by simp [e]))⟩ (Or.inr hne)
theorem set_get (cs : Array Value) (i : Nat) (v : Value) (h : i < cs.size) : (cs.setIfInBounds i v)[i]? = some v := by simp [h]
theorem set_other (cs : Array Value) (i j : Nat) (v : Value) (h : i ≠ j) : (cs.setIfInBounds i v)[j]? = cs[j]? := Array.getElem?_setIfInBounds_ne h
theorem set_size {cs : Array Value} {k : Nat} (h : cs.size = k) (i : Nat) (v : Value) : (cs.setIfInBounds i v).size = k := by rw [Array.size_setIfInBounds]; exact h
/-- behind copyCheck -/
theorem copyCheck_any {TT : TypeId} {k lo B : Nat} (hT : BTy TT k) {w : World} {cs : Array Value} {T : List UInt8} (h : WB TT k lo B w cs T) :
    Calls Tryz.prog 93 #[.pointer (some ⟨B, 0, none⟩)] w fun e w' => e = .returned (.tuple #[]) ∧ WB TT k lo B w' (cs.setIfInBounds 0 (.pointer (some ⟨B, 0, none⟩))) T ∧ Below lo w w' ∧ KeepB B w w' := by
  have hk := hT.pos
  have hsz := h.size
  obtain ⟨bv, hb1, hb2⟩ := h.own
  rcases h.addr with h0 | h0
  · refine (copyCheck_fresh hT B w ((h.cell 0).trans h0) (by simp [World.shape?, h.heap, h.size]) (h.free 0)).mono ?_
    rintro e w' ⟨rfl, rfl⟩
    refine ⟨rfl, ⟨heap_setCell_same w B 0 _ _ _ h.heap, set_size h.size _ _, h.low, .inr (set_get _ _ _ (by omega)), bv, (set_other _ _ _ _ (by decide)).trans hb1, own_set hb2 (Lib.ownBlock_ne hb2 h.heap hT.ne)⟩, (Below.refl lo w).setCell (p := ⟨B, 0, none⟩) h.low _, KeepB.set _ _ _ _⟩
  · refine (copyCheck_used B w ((h.cell 0).trans h0)).mono ?_
    rintro e w' ⟨rfl, rfl⟩
    refine ⟨rfl, ⟨?_, set_size h.size _ _, h.low, .inr (set_get _ _ _ (by omega)), bv, (set_other _ _ _ _ (by decide)).trans hb1, hb2⟩, Below.refl _ _, KeepB.refl _ _⟩
    have : cs.setIfInBounds 0 (.pointer (some ⟨B, 0, none⟩)) = cs := by
      obtain ⟨h1, h2⟩ := Array.getElem?_eq_some_iff.1 h0
      rw [Array.setIfInBounds_def, dif_pos h1]
      apply Array.ext
      · simp
      · intro i hi1 hi2
        by_cases hi : 0 = i
        · subst hi; simpa using h2.symm
        · rw [Array.getElem_set_ne _ _ hi]
    rw [this]; exact h.heap

theorem WB.put {TT : TypeId} {k lo B : Nat} (hT : BTy TT k) {w w2 : World} {cs : Array Value} {T T' : List UInt8} (h : WB TT k lo B w cs T) (hb : w2.heap[B]? = w.heap[B]?) {v' : Value} (hown : w2.ownsRow lo 5 1 v' T'.length (Lib.byteCells T')) :
    WB TT k lo B (w2.setCell ⟨B, 1, none⟩ v') (cs.setIfInBounds 1 v') T' := by
  have hk := hT.pos
  have hsz := h.size
  have hb' := hb.trans h.heap
  exact ⟨heap_setCell_same w2 B 1 _ _ _ hb', set_size h.size _ _, h.low, (by rw [set_other _ _ _ _ (by decide)]; exact h.addr), v', set_get _ _ _ (by omega), own_set hown (Lib.ownBlock_ne hown hb' hT.ne)⟩
set_option maxHeartbeats 2000000 in
set_option maxRecDepth 100000 in
theorem writeByte_any {TT : TypeId} {k lo B : Nat} (hT : BTy TT k) {w : World} {cs : Array Value} {T : List UInt8} (h : WB TT k lo B w cs T) (c : UInt8) (hlen : T.length ≤ 100000000) (hlo : lo ≤ w.heap.size) :
    Calls Tryz.prog 52 #[.pointer (some ⟨B, 0, none⟩), .int .u8 c.toNat] w fun e w' => e = .returned .nilIface ∧ (∃ cs', WB TT k lo B w' cs' (T ++ [c]) ∧ ∀ j, 2 ≤ j → cs'[j]? = cs[j]?) ∧ Below lo w w' ∧ KeepB B w w' := by
  obtain ⟨i0, hi, hz0, hz1, hz2⟩ := info_parts (show (Tryz.prog.info? 5).map (fun i => (i.zero, i.size, i.bytes)) = some (some (.int .u8 0), 1, 1) by kernel_rfl)
  go_enter Tryz.func52, Tryz.ntmps52
  go_wp2_with fail
  refine (copyCheck_any hT h).mono ?_
  rintro e w1 ⟨rfl, h1, hb1, hk1⟩
  obtain ⟨v, hv, hown⟩ := h1.own
  have c1 : w1.cell? ⟨B, 1, none⟩ = some v := (h1.cell 1).trans hv
  have H1 := Lib.hid h1
  go_wp2_with (at_builtin; refine wpList_append_own _ rfl _ _ 22 rfl lo 5 i0 (.int .u8 0) 1 1 Tryz.underlying22 hi hz0 hz1 hz2 rfl (by decide) _ _ _ rfl (hown.alloc _) ⟨w1.heap.size, 0, none⟩ 1 1 [.int .u8 c.toNat] rfl rfl ?c1 ?c2 ?c3 ?c4 ?c5 ?_)
  case c1 =>
    intro j u hj
    match j, hj with
    | 0, hj => simp at hj; subst hj; simp [Addr.add]
  case c2 => intro u hu; simp at hu; subst hu; rfl
  case c3 => unfold maxLen; omega
  case c4 => omega
  case c5 => have := hb1.size; simp; omega
  intro v' w2 hown' hgrow _
  have hlt := h1.lt
  have hne := Lib.ownBlock_ne hown h1.heap hT.ne
  have hb2 : w2.heap[B]? = w1.heap[B]? := by
    rw [hgrow.block B (by simp; omega) (fun e => hne e.symm), Lib.alloc_old w1 _ B hlt]
  have d1 : w2.cell? ⟨B, 1, none⟩ = some v := by rw [Lib.cell_of_heap (hb2.trans h1.heap)]; exact hv
  have f1 : w2.frozen? ⟨B, 1, none⟩ = false := Lib.frozen_of_heap (hb2.trans h1.heap) 1
  obtain ⟨g, cap, rfl⟩ : ∃ g cap, v' = .slice (some ⟨g, 0, none⟩) (T.length + 1) cap := by
    rcases hown'.2 with ⟨_, h0⟩ | ⟨g, cap, cur, hv, _⟩
    · omega
    · exact ⟨g, cap, hv⟩
  go_wp2_with fail
  go_ret
  refine ⟨rfl, ⟨_, WB.put hT H1.out hb2 (T' := T ++ [c]) (by simpa [Lib.byteCells] using hown'), fun j hj => ?_⟩, ?_, ?_⟩
  · rw [Array.getElem?_setIfInBounds_ne (by omega), Array.getElem?_setIfInBounds_ne (by omega)]
  · exact ((hb1.alloc (by have := hb1.size; omega) _).grown hgrow (by have := hb1.size; simp; omega) (fun k hk => (hown.lt k hk).1)).setCell (p := ⟨B, 1, none⟩) h.low _
  · exact ((hk1.trans (KeepB.alloc B w1 _)).trans (KeepB.grown hgrow (hown.alloc _))).trans (KeepB.set _ _ _ _)
set_option maxHeartbeats 2000000 in
set_option maxRecDepth 100000 in
theorem writeString_any {TT : TypeId} {k lo B : Nat} (hT : BTy TT k) {w : World} {cs : Array Value} {T : List UInt8} (h : WB TT k lo B w cs T) (s : List UInt8) (hlen : T.length + s.length ≤ 100000000) (hlo : lo ≤ w.heap.size) :
    Calls Tryz.prog 51 #[.pointer (some ⟨B, 0, none⟩), .string ⟨s.toArray⟩] w fun e w' => (∃ v, e = .returned v) ∧ (∃ cs', WB TT k lo B w' cs' (T ++ s) ∧ ∀ j, 2 ≤ j → cs'[j]? = cs[j]?) ∧ Below lo w w' ∧ KeepB B w w' := by
  obtain ⟨i0, hi, hz0, hz1, hz2⟩ := info_parts (show (Tryz.prog.info? 5).map (fun i => (i.zero, i.size, i.bytes)) = some (some (.int .u8 0), 1, 1) by kernel_rfl)
  obtain ⟨S, hS⟩ : ∃ S : ByteArray, S = ⟨s.toArray⟩ := ⟨_, rfl⟩
  have hSs : S.size = s.length := by rw [hS]; rfl
  have hSc : Lib.strCells S = Lib.byteCells s := by rw [hS]; rfl
  rw [← hS]
  clear hS
  go_enter Tryz.func51, Tryz.ntmps51
  go_wp2_with fail
  refine (copyCheck_any hT h).mono ?_
  rintro e w1 ⟨rfl, h1, hb1, hk1⟩
  obtain ⟨v, hv, hown⟩ := h1.own
  have c1 : w1.cell? ⟨B, 1, none⟩ = some v := (h1.cell 1).trans hv
  have H1 := Lib.hid h1
  go_wp2_with (at_builtin; refine Lib.wpList_append_own_string _ rfl _ _ 22 9 rfl lo 5 i0 Tryz.underlying22 Tryz.underlying9 hi hz0 hz1 hz2 _ _ _ rfl hown S rfl ?c3 ?c4 ?c5 ?_)
  case c3 => unfold maxLen; omega
  case c4 => omega
  case c5 => have := hb1.size; omega
  intro v' w2 hown' hgrow _
  have hlt := h1.lt
  have hne := Lib.ownBlock_ne hown h1.heap hT.ne
  have hb2 : w2.heap[B]? = w1.heap[B]? := hgrow.block B hlt (fun e => hne e.symm)
  have d1 : w2.cell? ⟨B, 1, none⟩ = some v := by rw [Lib.cell_of_heap (hb2.trans h1.heap)]; exact hv
  have f1 : w2.frozen? ⟨B, 1, none⟩ = false := Lib.frozen_of_heap (hb2.trans h1.heap) 1
  obtain ⟨ao, n', cap, rfl⟩ : ∃ ao n' cap, v' = .slice ao n' cap := by
    rcases hown'.2 with ⟨hv, _⟩ | ⟨g, cap, cur, hv, _⟩
    · exact ⟨_, _, _, hv⟩
    · exact ⟨_, _, _, hv⟩
  go_wp2_with fail
  go_ret2
  refine ⟨⟨_, rfl⟩, ⟨_, WB.put hT H1.out hb2 (T' := T ++ s) (by rw [List.length_append, Lib.byteCells_append]; exact hown'), fun j hj => ?_⟩, ?_, ?_⟩
  · rw [Array.getElem?_setIfInBounds_ne (by omega), Array.getElem?_setIfInBounds_ne (by omega)]
  · exact (hb1.grown hgrow (by have := hb1.size; omega) (fun k hk => (hown.lt k hk).1)).setCell (p := ⟨B, 1, none⟩) h.low _
  · exact (hk1.trans (KeepB.grown hgrow hown)).trans (KeepB.set _ _ _ _)
set_option maxHeartbeats 2000000 in
set_option maxRecDepth 100000 in
theorem string_any {TT : TypeId} {k lo B : Nat} (hT : BTy TT k) {w : World} {cs : Array Value} {l : List UInt8} (h : WB TT k lo B w cs l) (h0 : l ≠ []) :
    Calls Tryz.prog 53 #[.pointer (some ⟨B, 0, none⟩)] w fun e w' => e = .returned (.string ⟨l.toArray⟩) ∧ Below lo w w' := by
  obtain ⟨v, hv, hown⟩ := h.own
  have hl0 : l.length ≠ 0 := by simpa using h0
  obtain ⟨g, cap, cur, rfl, hbg, hg, hnc, hcm, hcs, htake⟩ : ∃ g cap cur, v = .slice (some ⟨g, 0, none⟩) l.length cap ∧ lo ≤ g ∧ w.heap[g]? = some (.cells cur 5 (0, 0)) ∧ l.length ≤ cap ∧ cap ≤ maxLen ∧ cur.size = cap * 1 ∧ cur.toList.take (l.length * 1) = Lib.byteCells l := by
    rcases hown.2 with ⟨_, hz⟩ | ⟨g, cap, cur, hv, r⟩
    · exact absurd hz hl0
    · exact ⟨g, cap, cur, hv, r⟩
  have c1 : w.drew.cell? ⟨B, 1, none⟩ = some (.slice (some ⟨g, 0, none⟩) l.length cap) := (h.cell 1).trans hv
  have hSD : (Builtin.unsafeSliceData_ #[22] 165 #[.slice (some ⟨g, 0, none⟩) l.length cap]).run Tryz.prog w.drew = .ok (.pointer (some ⟨g, 0, none⟩)) w.drew :=
    Lib.run_unsafeSliceData_row _ _ _ _ _ _ (by omega)
  have hUS : (Builtin.unsafeString_ #[165, 3] 9 #[.pointer (some ⟨g, 0, none⟩), .int .i64 l.length]).run Tryz.prog w.drew = .ok (.string ⟨l.toArray⟩) (w.drew.freeze ⟨g, 0, none⟩ l.length) := by
    refine Lib.run_unsafeString_row w.drew 165 3 9 5 Tryz.underlying165 (by kernel_rfl) g cur.size (by have hg' : w.drew.heap[g]? = some (.cells cur 5 (0, 0)) := hg; simp [World.shape?, hg']) l h0 (by omega) (by unfold maxLen at hcm; omega) ?_
    intro j x hx
    have := hown.cells (g := g) rfl j (.int .u8 x.toNat) (by simp [Lib.byteCells, hx])
    exact this
  go_enter Tryz.func53, Tryz.ntmps53
  go_wp2_with fail
  go_region
  all_goals (go_wp2_with fail; go_ret; exact ⟨rfl, Lib.below_freeze (Below.drew (Below.refl lo w)) (p := ⟨g, 0, none⟩) hbg _⟩)
end Sw
end Go.Proofs.YtnhndamfbeiljaaGreatDoor

namespace Go.Proofs.YtnhndamfbeiljaaGreatDoor
open Go Go.RowKit
set_option linter.unusedVariables false
set_option linter.unusedSimpArgs false
namespace Sw

/-- Blocks of cells that are no writer, no bytes, no nodes, stay. -/
def Keep (w w' : World) : Prop := w.heap.size ≤ w'.heap.size ∧ ∀ (c : Nat) (cs : Array Value) (T : TypeId), w.heap[c]? = some (.cells cs T (0, 0)) → T ≠ 123 → T ≠ 5 → T ≠ 125 → w'.heap[c]? = some (.cells cs T (0, 0))
theorem Keep.refl (w : World) : Keep w w := ⟨Nat.le_refl _, fun _ _ _ h _ _ _ => h⟩
theorem Keep.trans {a b c : World} (h : Keep a b) (g : Keep b c) : Keep a c := ⟨Nat.le_trans h.1 g.1, fun x cs T hx h1 h2 h3 => g.2 x cs T (h.2 x cs T hx h1 h2 h3) h1 h2 h3⟩
theorem Keep.below {w w' : World} (h : Below w.heap.size w w') : Keep w w' := ⟨h.size, fun c cs T hc _ _ _ => ent_below hc h⟩
theorem Keep.drew (w : World) : Keep w w.drew := ⟨Nat.le_refl _, fun _ _ _ h _ _ _ => h⟩

/-- A function's value that calls another one with a part: the part lies in a variable of its own. -/
def Clo {α : Type} (F : FuncId) (TW T : TypeId) (g : FuncId) (rep : Value → α → Prop) (w : World) (v : Value) (x : α) : Prop :=
  ∃ wb pb u, v = .func (.func F) #[] #[.pointer (some ⟨wb, 0, none⟩), .pointer (some ⟨pb, 0, none⟩)] ∧ w.heap[wb]? = some (.cells #[.func (.func g) #[] #[]] TW (0, 0)) ∧ w.heap[pb]? = some (.cells u.cells T (0, 0)) ∧ rep u x
/-- .. with a list of parts. -/
def CloL (F : FuncId) (TP TW : TypeId) (g : FuncId) (row : World → Value → Prop) (w : World) (v : Value) : Prop :=
  ∃ pb wb q n c, v = .func (.func F) #[] #[.pointer (some ⟨pb, 0, none⟩), .pointer (some ⟨wb, 0, none⟩)] ∧ w.heap[pb]? = some (.cells #[.slice q n c] TP (0, 0)) ∧ w.heap[wb]? = some (.cells #[.func (.func g) #[] #[]] TW (0, 0)) ∧ row w (.slice q n c)
/-- A list of the call's own, of parts of such a type. -/
def RowK {α : Type} (E : TypeId) (sz : Nat) (rep : Value → α → Prop) (w : World) (v : Value) (xs : List α) : Prop :=
  (xs = [] ∧ ∃ p c, v = .slice p 0 c) ∨ ∃ g c cur, v = .slice (some ⟨g, 0, none⟩) xs.length c ∧ xs.length ≤ c ∧ (c : Int) ≤ 9223372036854775807 ∧ w.heap[g]? = some (.cells cur E (0, 0)) ∧
    ∀ i x, xs[i]? = some x → ∃ u, rep u x ∧ u.cells.size = sz ∧ ∀ j z, u.cells[j]? = some z → cur[i * sz + j]? = some z
theorem RowK.row {α : Type} {E : TypeId} {sz : Nat} {rep : Value → α → Prop} {w : World} {v : Value} {xs : List α} (h : RowK E sz rep w v xs) : RowAt sz rep w v xs := by
  rcases h with h | ⟨g, c, cur, h1, h2, h3, h4, h5⟩
  · exact .inl h
  · refine .inr ⟨g, 0, c, h1, h2, h3, fun i x hx => ?_⟩
    obtain ⟨u, a, b, d⟩ := h5 i x hx
    exact ⟨u, a, b, fun j z hz => ent_cell h4 _ _ (by rw [Nat.zero_add]; exact d j z hz)⟩
theorem RowK.keep {α : Type} {E : TypeId} {sz : Nat} {rep : Value → α → Prop} {w w' : World} {v : Value} {xs : List α} (h : RowK E sz rep w v xs) (hk : Keep w w') (h1 : E ≠ 123) (h2 : E ≠ 5) (h3 : E ≠ 125) : RowK E sz rep w' v xs := by
  rcases h with h | ⟨g, c, cur, a1, a2, a3, a4, a5⟩
  · exact .inl h
  · exact .inr ⟨g, c, cur, a1, a2, a3, hk.2 g cur E a4 h1 h2 h3, a5⟩
theorem Clo.keep {α : Type} {F : FuncId} {TW T : TypeId} {g : FuncId} {rep : Value → α → Prop} {w w' : World} {v : Value} {x : α} (h : Clo F TW T g rep w v x) (hk : Keep w w') (a1 : TW ≠ 123) (a2 : TW ≠ 5) (a3 : TW ≠ 125)
    (b1 : T ≠ 123) (b2 : T ≠ 5) (b3 : T ≠ 125) : Clo F TW T g rep w' v x := by
  obtain ⟨wb, pb, u, h1, h2, h3, h4⟩ := h
  exact ⟨wb, pb, u, h1, hk.2 _ _ _ h2 a1 a2 a3, hk.2 _ _ _ h3 b1 b2 b3, h4⟩

/-- The writer at B: what was written, what waits (the next one last). -/
def SV (lo B : Nat) (w : World) (T : List UInt8) (vs : List Value) : Prop :=
  ∃ cs wv, WB 123 3 lo B w cs T ∧ cs[2]? = some wv ∧ w.ownsRow lo 125 1 wv vs.length vs
theorem own_keepB {lo B : Nat} {w w' : World} {E TT : TypeId} {cs : Array Value} {wv : Value} {n : Nat} {xs : List Value} (h : w.ownsRow lo E 1 wv n xs) (hB : w.heap[B]? = some (.cells cs TT (0, 0))) (h1 : TT ≠ E) (h2 : E ≠ 5) (hk : KeepB B w w') : w'.ownsRow lo E 1 wv n xs := by
  refine ⟨h.1, ?_⟩
  rcases h.2 with h | ⟨g, cap, cur, rfl, a1, a2, a3⟩
  · exact .inl h
  · refine .inr ⟨g, cap, cur, rfl, a1, hk.2 g _ a2 (fun e => ?_) (fun c fr e => ?_), a3⟩
    · subst e; rw [a2] at hB; simp only [Option.some.injEq, Obj.cells.injEq] at hB; exact h1 hB.2.1.symm
    · simp only [Obj.cells.injEq] at e; exact h2 e.2.1
theorem KeepB.keep {B : Nat} {w w' : World} {cs : Array Value} (h : KeepB B w w') (hB : w.heap[B]? = some (.cells cs 123 (0, 0))) : Keep w w' := by
  refine ⟨h.1, fun c cs' T hc h1 h2 h3 => h.2 c _ hc (fun e => ?_) (fun d fr e => ?_)⟩
  · subst e; rw [hc] at hB; simp only [Option.some.injEq, Obj.cells.injEq] at hB; exact h1 hB.2.1
  · simp only [Obj.cells.injEq] at e; exact h2 e.2.1
theorem KeepB.below {B : Nat} {w w' : World} (h : Below w.heap.size w w') : KeepB B w w' := ⟨h.size, fun c o hc _ _ => ent_below hc h⟩
theorem SV.below {lo B : Nat} {w w' : World} {T : List UInt8} {vs : List Value} (h : SV lo B w T vs) (hb : Below w.heap.size w w') : SV lo B w' T vs := by
  obtain ⟨cs, wv, h1, h2, h3⟩ := h
  obtain ⟨bv, b1, b2⟩ := h1.own
  exact ⟨cs, wv, ⟨ent_below h1.heap hb, h1.size, h1.low, h1.addr, bv, b1, own_kept b2 hb⟩, h2, own_kept h3 hb⟩
theorem SV.low {lo B : Nat} {w : World} {T : List UInt8} {vs : List Value} (h : SV lo B w T vs) : lo ≤ w.heap.size := by
  obtain ⟨cs, wv, h1, _⟩ := h
  have := h1.lt; have := h1.low; omega

/-- What a call leaves that writes. -/
def Wrote (lo B : Nat) (w : World) (T : List UInt8) (vs : List Value) (e : Ending) (w' : World) : Prop := e = .returned (.tuple #[]) ∧ SV lo B w' T vs ∧ Below lo w w' ∧ KeepB B w w' ∧ Keep w w'
theorem wrote_byte {lo B : Nat} {w : World} {T : List UInt8} {vs : List Value} (h : SV lo B w T vs) (c : UInt8) (hlen : T.length ≤ 100000000) :
    Calls Tryz.prog 52 #[.pointer (some ⟨B, 0, none⟩), .int .u8 c.toNat] w fun e w' => e = .returned .nilIface ∧ SV lo B w' (T ++ [c]) vs ∧ Below lo w w' ∧ KeepB B w w' ∧ Keep w w' := by
  have hlo := h.low
  obtain ⟨cs, wv, h1, h2, h3⟩ := h
  refine (writeByte_any btyW h1 c hlen hlo).mono ?_
  rintro e w' ⟨rfl, ⟨cs', h4, h5⟩, hb, hk⟩
  exact ⟨rfl, ⟨cs', wv, h4, (h5 2 (by omega)).trans h2, own_keepB h3 h1.heap (by decide) (by decide) hk⟩, hb, hk, hk.keep h1.heap⟩
theorem wrote_string {lo B : Nat} {w : World} {T : List UInt8} {vs : List Value} (h : SV lo B w T vs) (s : List UInt8) (hlen : T.length + s.length ≤ 100000000) :
    Calls Tryz.prog 51 #[.pointer (some ⟨B, 0, none⟩), .string ⟨s.toArray⟩] w fun e w' => (∃ v, e = .returned v) ∧ SV lo B w' (T ++ s) vs ∧ Below lo w w' ∧ KeepB B w w' ∧ Keep w w' := by
  have hlo := h.low
  obtain ⟨cs, wv, h1, h2, h3⟩ := h
  refine (writeString_any btyW h1 s hlen hlo).mono ?_
  rintro e w' ⟨hv, ⟨cs', h4, h5⟩, hb, hk⟩
  exact ⟨hv, ⟨cs', wv, h4, (h5 2 (by omega)).trans h2, own_keepB h3 h1.heap (by decide) (by decide) hk⟩, hb, hk, hk.keep h1.heap⟩
end Sw
end Go.Proofs.YtnhndamfbeiljaaGreatDoor
