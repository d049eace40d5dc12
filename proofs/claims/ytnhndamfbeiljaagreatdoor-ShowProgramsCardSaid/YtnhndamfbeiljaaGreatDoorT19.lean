/-
  Several texts in one: WPure, WBld, WKeep, WBase, WShown, WLeaf, WAll0, WAllStr, WNum, WListed, WGrow.
-/
import Derived.Test.YtnhndamfbeiljaaGreatDoorT00
import Derived.Test.YtnhndamfbeiljaaGreatDoorT16
import Derived.Lib.ItoaNum
import Derived.Test.YtnhndamfbeiljaaGreatDoorRows
import Derived.WalkKit
import Derived.WalkSpells
import Derived.Lib.Hide
import Derived.Below
import Derived.Maps.AppendAt
import Derived.Lib.Strings
import Derived.Lib.Slices
import Derived.Lib.Walk
import Derived.Lib.Builder
import Derived.Lib.AppendStr
import Derived.Lib.UnsafeStr
import Derived.Laws.Externs
import Derived.BigRegion
import Derived.Test.YtnhndamfbeiljaaGreatDoorT10
import Derived.Test.YtnhndamfbeiljaaGreatDoorT18
import Derived.Test.YtnhndamfbeiljaaGreatDoorT17
import Derived.Deep.RegionWith
import Derived.Deep.RegionHeld3
import Derived.Deep.DeepCutAuto
import Derived.Deep.OwnRows
import Derived.Laws.EntriesVeiled
import Derived.Lib.AppendZeros
import Derived.Lib.SliceRun
set_option linter.unusedVariables false
set_option linter.unusedSimpArgs false
set_option maxHeartbeats 4000000
set_option maxRecDepth 100000
namespace Go.Proofs.YtnhndamfbeiljaaGreatDoor
open Go Go.RowKit
open Go.Lib (hid)
open List renaming getElem_toArray → jR, getElem_cons_succ → jR0, getElem_cons_zero → jR1, setIfInBounds_toArray → jR2, set_cons_zero → jR3, set_cons_succ → jR4
namespace Sw
inductive Tr where
 | mk (name : List UInt8) (int re im : Int) (args : List Tr)
inductive Nd where
 | blank
 | fin
 | word (s : List UInt8)
 | typ (f : Nat) (t : Px.TypeE)
 | pat (f : Nat) (p : Px.Pat)
 | expr (f : Nat) (x : Px.Expr)
 | alt (f : Nat) (a : Px.Pat × Px.Expr)
 | pair (f : Nat) (b : List UInt8 × Px.Expr)
 | names (l : List (List UInt8))
 | pairs (f : Nat) (l : List (List UInt8 × Px.Expr))
 | con (f : Nat) (c : Px.Con)
 | data (f : Nat) (d : Px.Data)
 | defn (f : Nat) (d : Px.Def)
 | tree (f : Nat) (t : Tr)
def jBV : List Nd -> List Nd
 | [] => [.fin]
 | x :: r => x :: ((r.flatMap fun y => [.blank, y]) ++ [.fin])
def wd (s : List UInt8) : List UInt8 := if s = [] then [63] else s
def named (nm : List UInt8) (l : List Nd) : List UInt8 × List Nd := if l = [] then (wd nm, []) else ([40], jBV (.word nm :: l))
def jBZ (ns : List (List UInt8)) (xs : List Px.Expr) : List (List UInt8 × Px.Expr) := ns.zip xs
def jF (ns : List (List UInt8)) (xs : List Px.Expr) : Nat := min ns.length xs.length
def step : Nd -> List UInt8 × List Nd
 | .blank => ([32], [])
 | .fin => ([41], [])
 | .word s => (wd s, [])
 | .typ 0 _ => ([63], [])
 | .typ (f + 1) (.mk _ nm args) => named nm (args.map (.typ f))
 | .pat 0 _ => ([63], [])
 | .pat (f + 1) (.mk k _ nm i args) => if k = 0 then ([95], []) else if k = 2 then (Lib.itoa i, []) else named nm (args.map (.pat f))
 | .expr 0 _ => ([63], [])
 | .expr (f + 1) (.mk k _ nm i ns xs al) =>
   if k = 0 then (Lib.itoa i, [])
   else if k = 3 then ([40], jBV (.word [102, 110] :: .names ns :: xs.map (.expr f)))
   else if k = 4 then ([40], jBV (.word [108, 101, 116] :: .pairs f (jBZ ns xs) :: (xs.drop (jF ns xs)).map (.expr f)))
   else if k = 5 then ([40], jBV (.word [99, 97, 115, 101] :: (xs.map (.expr f) ++ al.map (.alt f))))
   else if k = 6 then ([40], jBV (xs.map (.expr f)))
   else if k = 8 then ([102, 97, 105, 108], [])
   else named nm (xs.map (.expr f))
 | .alt f a => ([40], jBV [.pat f a.1, .expr f a.2])
 | .pair f b => ([40], jBV [.word b.1, .expr f b.2])
 | .names l => ([40], jBV (l.map .word))
 | .pairs f l => ([40], jBV (l.map (.pair f)))
 | .con f c => ([40], jBV (.word c.name :: c.fields.map (.typ f)))
 | .data f d => ([40], jBV (.word [100, 97, 116, 97] :: .word d.name :: .names d.params :: d.cons.map (.con f)))
 | .defn f d => ([40], jBV [.word [100, 101, 102], .word d.name, .names d.params, .expr f d.body])
 | .tree 0 _ => ([63], [])
 | .tree (f + 1) (.mk nm i re im args) => if nm = [] then (Lib.itoa i, []) else if nm = [99, 112, 120] then ([40], jBV [.word [99, 112, 120], .word (Lib.itoa re), .word (Lib.itoa im)]) else named nm (args.map (.tree f))
inductive Run : List Nd -> List UInt8 -> Nat -> Prop
 | nil : Run [] [] 0
 | cons {n : Nd} {r : List Nd} {T : List UInt8} {k : Nat} (h : Run ((step n).2 ++ r) T k) : Run (n :: r) ((step n).1 ++ T) (k + 1)
theorem Run.app {a b : List Nd} {T U : List UInt8} {k j : Nat} (h : Run a T k) (g : Run b U j) : Run (a ++ b) (T ++ U) (k + j) := by
 induction h with
 | nil => simpa using g
 | cons h ih =>
   rw [List.append_assoc, List.cons_append, show ∀ x y : Nat, x + 1 + y = x + y + 1 by omega]; refine Run.cons ?_; rw [<- List.append_assoc]; exact ih
theorem Run.one {n : Nd} {T : List UInt8} {k : Nat} (h : Run (step n).2 T k) : Run [n] ((step n).1 ++ T) (k + 1) := Run.cons (by simpa using h)
theorem wd_ne (s : List UInt8) : wd s ≠ [] := by unfold wd; split <;> simp_all
theorem jGT (nm : List UInt8) (l : List Nd) : (named nm l).1 ≠ [] := by
 unfold named; split
 . exact wd_ne nm
 . simp
theorem jLH (n : Int) : Lib.itoa n ≠ [] := by
 unfold Lib.itoa
 split
 . simp
 . rw [Lib.decDigits]; split <;> simp
theorem step_ne : ∀ n : Nd, (step n).1 ≠ [] := by
 intro n; cases n with
 | blank => simp [step]
 | fin => simp [step]
 | word s => exact wd_ne s
 | typ f t =>
   cases f with
   | zero => simp [step]
   | succ f => obtain ⟨p, nm, args⟩ := t; exact jGT _ _
 | pat f t =>
   cases f with
   | zero => simp [step]
   | succ f =>
     obtain ⟨k, p, nm, i, args⟩ := t; simp only [step]
     split
     . simp
     split
     . exact jLH i
     . exact jGT _ _
 | expr f t =>
   cases f with
   | zero => simp [step]
   | succ f =>
     obtain ⟨k, p, nm, i, ns, xs, al⟩ := t; simp only [step]
     split
     . exact jLH i
     split
     . simp
     split
     . simp
     split
     . simp
     split
     . simp
     split
     . simp
     . exact jGT _ _
 | alt f a => simp [step]
 | pair f b => simp [step]
 | names l => simp [step]
 | pairs f l => simp [step]
 | con f c => simp [step]
 | data f d => simp [step]
 | defn f d => simp [step]
 | tree f t =>
   cases f with
   | zero => simp [step]
   | succ f =>
     obtain ⟨nm, i, re, im, args⟩ := t; simp only [step]
     split
     . exact jLH i
     split
     . simp
     . exact jGT _ _
theorem Run.len {l : List Nd} {T : List UInt8} {k : Nat} (h : Run l T k) : l.length <= T.length := by
 induction h with
 | nil => simp
 | @cons n r T k h ih =>
   have := List.length_pos_iff.2 (step_ne n); simp only [List.length_append, List.length_cons] at ih ⊢; omega
def jD0 : List Nd -> List (List UInt8) -> Prop
 | [], [] => True
 | n :: r, t :: ts => (∃ k, Run [n] t k) /\ jD0 r ts
 | _, _ => False
theorem jD0.map {α : Type} (g : α -> Nd) (t : α -> List UInt8) : ∀ l : List α, (∀ x ∈ l, ∃ k, Run [g x] (t x) k) -> jD0 (l.map g) (l.map t)
 | [], _ => trivial
 | x :: r, h => ⟨h x (by simp), jD0.map g t r fun y hy => h y (by simp [hy])⟩
theorem jD0.app : ∀ {a b : List Nd} {s t : List (List UInt8)}, jD0 a s -> jD0 b t -> jD0 (a ++ b) (s ++ t)
 | [], _, [], _, _, h => h
 | _ :: _, _, _ :: _, _, h, g => ⟨h.1, jD0.app h.2 g⟩
 | [], _, _ :: _, _, h, _ => h.elim
 | _ :: _, _, [], _, h, _ => h.elim
theorem jPU : ∃ k, Run [Nd.blank] [32] k := ⟨1, by simpa [step] using Run.one (n := .blank) (T := []) (k := 0) Run.nil⟩
theorem jOY : ∃ k, Run [Nd.fin] [41] k := ⟨1, by simpa [step] using Run.one (n := .fin) (T := []) (k := 0) Run.nil⟩
theorem jCK (s : List UInt8) (h : s ≠ []) : ∃ k, Run [Nd.word s] s k := ⟨1, by simpa [step, wd, h] using Run.one (n := .word s) (T := []) (k := 0) Run.nil⟩
theorem jMF : ∀ {r : List Nd} {ts : List (List UInt8)}, jD0 r ts -> ∃ k, Run ((r.flatMap fun y => [Nd.blank, y]) ++ [.fin]) ((ts.flatMap fun y => 32 :: y) ++ [41]) k
 | [], [], _ => jOY
 | y :: r, t :: ts, h => by
   obtain ⟨k1, h1⟩ := jPU; obtain ⟨k2, h2⟩ := h.1; obtain ⟨k3, h3⟩ := jMF h.2; exact ⟨_, by simpa using h1.app (h2.app h3)⟩
 | [], _ :: _, h => h.elim
 | _ :: _, [], h => h.elim
theorem jPT {l : List Nd} {ts : List (List UInt8)} (h : jD0 l ts) : ∃ k, Run (jBV l) (glue ts ++ [41]) k := by
 cases l with
 | nil =>
   cases ts with
   | nil => exact jOY
   | cons _ _ => exact h.elim
 | cons x r =>
   cases ts with
   | nil => exact h.elim
   | cons t ts =>
     obtain ⟨k1, h1⟩ := h.1; obtain ⟨k2, h2⟩ := jMF h.2; exact ⟨_, by simpa [jBV, glue] using h1.app h2⟩
theorem jBM {n : Nd} {l : List Nd} {ts : List (List UInt8)} (hs : step n = ([40], jBV l)) (h : jD0 l ts) : ∃ k, Run [n] (joined ts) k := by
 obtain ⟨k, hk⟩ := jPT h; have := Run.one (n := n) (T := glue ts ++ [41]) (k := k) (by rw [hs]; exact hk); rw [hs] at this; exact ⟨_, by simpa [joined] using this⟩
theorem run_text {n : Nd} {t : List UInt8} (hs : step n = (t, [])) : ∃ k, Run [n] t k := by
 have := Run.one (n := n) (T := []) (k := 0) (by rw [hs]; exact Run.nil); rw [hs] at this; exact ⟨_, by simpa using this⟩
theorem jEA {n : Nd} {nm : List UInt8} {l : List Nd} {ts : List (List UInt8)} (hn : nm ≠ []) (hs : step n = named nm l) (h : jD0 l ts) : ∃ k, Run [n] (if ts = [] then nm else joined (nm :: ts)) k := by
 cases l with
 | nil =>
   cases ts with
   | nil => rw [if_pos rfl]; exact run_text (by rw [hs]; simp [named, wd, hn])
   | cons _ _ => exact h.elim
 | cons x r =>
   cases ts with
   | nil => exact h.elim
   | cons t ts =>
     rw [if_neg (by simp)]; exact jBM (l := .word nm :: x :: r) (by rw [hs]; simp [named]) ⟨jCK nm hn, h⟩
end Sw
namespace Sw
structure BTy (TT : TypeId) (k : Nat) : Prop where
 lies : liesAt Tryz.prog Tryz.prog.depth TT (k / Tryz.prog.cellsOf TT) 0 113 1 = true
 ne : TT ≠ 5
 pos : 2 <= k
theorem btyW : BTy 123 3 := ⟨by kernel_rfl, by decide, by decide⟩
theorem btyB : BTy 113 2 := ⟨by kernel_rfl, by decide, by decide⟩
structure WB (TT : TypeId) (k lo B : Nat) (w : World) (cs : Array Value) (T : List UInt8) : Prop where
 heap : w.heap[B]? = some (.cells cs TT (0, 0))
 size : cs.size = k
 low : lo <= B
 addr : cs[0]? = some (.pointer none) \/ cs[0]? = some (.pointer (some ⟨B, 0, none⟩))
 own : ∃ bv, cs[1]? = some bv /\ w.ownsRow lo 5 1 bv T.length (Lib.byteCells T)
def jC3 (B : Nat) (w w' : World) : Prop := w.heap.size <= w'.heap.size /\ ∀ c o, w.heap[c]? = some o -> c ≠ B -> (∀ cs fr, o ≠ .cells cs 5 fr) -> w'.heap[c]? = some o
theorem jC3.refl (B : Nat) (w : World) : jC3 B w w := ⟨Nat.le_refl _, fun _ _ h _ _ => h⟩
theorem jC3.trans {B : Nat} {a b c : World} (h : jC3 B a b) (g : jC3 B b c) : jC3 B a c := ⟨Nat.le_trans h.1 g.1, fun x o hx hb hn => g.2 x o (h.2 x o hx hb hn) hb hn⟩
theorem jC3.set (B j : Nat) (w : World) (v : Value) : jC3 B w (w.setCell ⟨B, j, none⟩ v) := ⟨by simp [World.setCell], fun c o h hb _ => (Below.heap_setCell w ⟨B, j, none⟩ v c hb).trans h⟩
theorem jC3.alloc (B : Nat) (w : World) (o : Obj) : jC3 B w (w.alloc o) := ⟨by simp, fun c x h _ _ => (Below.heap_alloc w o c (Array.getElem?_eq_some_iff.1 h).1).trans h⟩
theorem jC3.grown {B : Nat} {w w' : World} {bv : Value} {n lo : Nat} {xs : List Value} (h : w.grownBy w' bv.ownBlock) (ho : w.ownsRow lo 5 1 bv n xs) : jC3 B w w' := by
 refine ⟨h.size, fun c o hc hb hn => ?_⟩; rw [h.block c (Array.getElem?_eq_some_iff.1 hc).1 ?_]; · exact hc
 intro e
 rcases ho.2 with ⟨rfl, _⟩ | ⟨g, cap, cur, rfl, _, hg, _⟩
 . simp [Value.ownBlock] at e
 . simp only [Value.ownBlock, Option.some.injEq] at e; subst e; rw [hg] at hc; exact hn cur (0, 0) (by simpa using hc.symm)
theorem jJ9 (B : Nat) (w : World) (h0 : w.cell? ⟨B, 0, none⟩ = some (.pointer (some ⟨B, 0, none⟩))) :
 Calls Tryz.prog 93 #[.pointer (some ⟨B, 0, none⟩)] w fun e w' => e = .returned (.tuple #[]) /\ w' = w := by
 obtain ⟨j, hj, _⟩ := Option.map_eq_some_iff.1 (show (Tryz.prog.info? 113).map (·.size) = some 2 by kernel_rfl); go_enter Tryz.func93, Tryz.ntmps93; go_wp2; rw [Lib.run_neq_ptr_same w _ Tryz.underlying111 hj]; go_wp2
 go_end0
 exact ⟨rfl, rfl⟩
theorem jHV {TT : TypeId} {k : Nat} (hT : BTy TT k) (B : Nat) (w : World) (h0 : w.cell? ⟨B, 0, none⟩ = some (.pointer none)) (hsh : w.shape? B = some (TT, k)) (hfz : w.frozen? ⟨B, 0, none⟩ = false) :
 Calls Tryz.prog 93 #[.pointer (some ⟨B, 0, none⟩)] w fun e w' => e = .returned (.tuple #[]) /\ w' = w.setCell ⟨B, 0, none⟩ (.pointer (some ⟨B, 0, none⟩)) := by
 obtain ⟨j, hj, hjs⟩ := Option.map_eq_some_iff.1 (show (Tryz.prog.info? 113).map (·.size) = some 2 by kernel_rfl); have hlies := hT.lies; have hpos : 0 < k := by have := hT.pos; omega
 go_enter Tryz.func93, Tryz.ntmps93; go_wp2; rw [Lib.run_to_unsafe w ⟨B, 0, none⟩ Tryz.underlying111 Tryz.underlying188 hj (by rw [hjs]; decide) hsh hpos]; simp only [Result.andThen]; rw [Oper.upon_value]; go_wp2; rw [run_callFunc_extern Tryz.func128 (by kernel_rfl) (by kernel_rfl) (by kernel_rfl) (e := Extern.AbiNoEscape.same) (by kernel_rfl)]; rw [Lib.run_noEscape]; simp only [Result.andThen]; rw [Oper.upon_value]; go_wp2; rw [Lib.run_from_unsafe w ⟨B, 0, none⟩ Tryz.underlying188 Tryz.underlying111 hj hsh hlies]; simp only [Result.andThen]; rw [Oper.upon_value]; go_wp2
 go_end0
 exact ⟨rfl, rfl⟩
theorem WB.cell {TT : TypeId} {k lo B : Nat} {w : World} {cs : Array Value} {T : List UInt8} (h : WB TT k lo B w cs T) (j : Nat) : w.cell? ⟨B, j, none⟩ = cs[j]? := Lib.cell_of_heap h.heap j
theorem WB.free {TT : TypeId} {k lo B : Nat} {w : World} {cs : Array Value} {T : List UInt8} (h : WB TT k lo B w cs T) (j : Nat) : w.frozen? ⟨B, j, none⟩ = false := Lib.frozen_of_heap h.heap j
theorem WB.lt {TT : TypeId} {k lo B : Nat} {w : World} {cs : Array Value} {T : List UInt8} (h : WB TT k lo B w cs T) : B < w.heap.size := (Array.getElem?_eq_some_iff.1 h.heap).1
theorem jGS {w : World} {lo B j : Nat} {E : TypeId} {bv v : Value} {n : Nat} {xs : List Value} (h : w.ownsRow lo E 1 bv n xs) (hne : bv.ownBlock ≠ some B) : (w.setCell ⟨B, j, none⟩ v).ownsRow lo E 1 bv n xs :=
 h.kept (row := some B) ⟨rfl, rfl, rfl, by simp [World.setCell], fun k _ hk => Below.heap_setCell _ _ _ _ (fun e => hk (by simp [e]))⟩ (Or.inr hne)
theorem jCN (cs : Array Value) (i : Nat) (v : Value) (h : i < cs.size) : (cs.setIfInBounds i v)[i]? = some v := by simp [h]
theorem jBK (cs : Array Value) (i j : Nat) (v : Value) (h : i ≠ j) : (cs.setIfInBounds i v)[j]? = cs[j]? := Array.getElem?_setIfInBounds_ne h
theorem jFS {cs : Array Value} {k : Nat} (h : cs.size = k) (i : Nat) (v : Value) : (cs.setIfInBounds i v).size = k := by rw [Array.size_setIfInBounds]; exact h
theorem jGB {TT : TypeId} {k lo B : Nat} (hT : BTy TT k) {w : World} {cs : Array Value} {T : List UInt8} (h : WB TT k lo B w cs T) :
 Calls Tryz.prog 93 #[.pointer (some ⟨B, 0, none⟩)] w fun e w' => e = .returned (.tuple #[]) /\ WB TT k lo B w' (cs.setIfInBounds 0 (.pointer (some ⟨B, 0, none⟩))) T /\ Below lo w w' /\ jC3 B w w' := by
 have hk := hT.pos; have hsz := h.size; obtain ⟨bv, hb1, hb2⟩ := h.own
 rcases h.addr with h0 | h0
 . refine (jHV hT B w ((h.cell 0).trans h0) (by simp [World.shape?, h.heap, h.size]) (h.free 0)).mono ?_; rintro e w' ⟨rfl, rfl⟩; refine ⟨rfl, ⟨heap_setCell_same w B 0 _ _ _ h.heap, jFS h.size _ _, h.low, .inr (jCN _ _ _ (by omega)), bv, (jBK _ _ _ _ (by decide)).trans hb1, jGS hb2 (Lib.ownBlock_ne hb2 h.heap hT.ne)⟩, (Below.refl lo w).setCell (p := ⟨B, 0, none⟩) h.low _, jC3.set _ _ _ _⟩
 . refine (jJ9 B w ((h.cell 0).trans h0)).mono ?_; rintro e w' ⟨rfl, rfl⟩; refine ⟨rfl, ⟨?_, jFS h.size _ _, h.low, .inr (jCN _ _ _ (by omega)), bv, (jBK _ _ _ _ (by decide)).trans hb1, hb2⟩, Below.refl _ _, jC3.refl _ _⟩
   have : cs.setIfInBounds 0 (.pointer (some ⟨B, 0, none⟩)) = cs := by
    obtain ⟨h1, h2⟩ := Array.getElem?_eq_some_iff.1 h0; rw [Array.setIfInBounds_def, dif_pos h1]
    apply Array.ext
    . simp
    . intro i hi1 hi2; by_cases hi : 0 = i
      . subst hi; simpa using h2.symm
      . rw [Array.getElem_set_ne _ _ hi]
   rw [this]; exact h.heap
theorem WB.put {TT : TypeId} {k lo B : Nat} (hT : BTy TT k) {w w2 : World} {cs : Array Value} {T T' : List UInt8} (h : WB TT k lo B w cs T) (hb : w2.heap[B]? = w.heap[B]?) {v' : Value} (hown : w2.ownsRow lo 5 1 v' T'.length (Lib.byteCells T')) :
 WB TT k lo B (w2.setCell ⟨B, 1, none⟩ v') (cs.setIfInBounds 1 v') T' := by
 have hk := hT.pos; have hsz := h.size; have hb' := hb.trans h.heap; exact ⟨heap_setCell_same w2 B 1 _ _ _ hb', jFS h.size _ _, h.low, (by rw [jBK _ _ _ _ (by decide)]; exact h.addr), v', jCN _ _ _ (by omega), jGS hown (Lib.ownBlock_ne hown hb' hT.ne)⟩
theorem jDW {TT : TypeId} {k lo B : Nat} (hT : BTy TT k) {w : World} {cs : Array Value} {T : List UInt8} (h : WB TT k lo B w cs T) (c : UInt8) (hlen : T.length <= 100000000) (hlo : lo <= w.heap.size) :
 Calls Tryz.prog 52 #[.pointer (some ⟨B, 0, none⟩), .int .u8 c.toNat] w fun e w' => e = .returned .nilIface /\ (∃ cs', WB TT k lo B w' cs' (T ++ [c]) /\ ∀ j, 2 <= j -> cs'[j]? = cs[j]?) /\ Below lo w w' /\ jC3 B w w' := by
 obtain ⟨i0, hi, hz0, hz1, hz2⟩ := info_parts (show (Tryz.prog.info? 5).map (fun i => (i.zero, i.size, i.bytes)) = some (some (.int .u8 0), 1, 1) by kernel_rfl); go_enter Tryz.func52, Tryz.ntmps52; go_wp2_with fail; refine (jGB hT h).mono ?_; rintro e w1 ⟨rfl, h1, hb1, hk1⟩; obtain ⟨v, hv, hown⟩ := h1.own; have c1 : w1.cell? ⟨B, 1, none⟩ = some v := (h1.cell 1).trans hv; have H1 := hid h1; go_wp2_with (at_builtin; refine wpList_append_own _ rfl _ _ 22 rfl lo 5 i0 (.int .u8 0) 1 1 Tryz.underlying22 hi hz0 hz1 hz2 rfl (by decide) _ _ _ rfl (hown.alloc _) ⟨w1.heap.size, 0, none⟩ 1 1 [.int .u8 c.toNat] rfl rfl ?c1 ?c2 ?c3 ?c4 ?c5 ?_)
 case c1 =>
  intro j u hj
  match j, hj with
  | 0, hj => simp at hj; subst hj; simp [Addr.add]
 case c2 => intro u hu; simp at hu; subst hu; rfl
 case c3 => unfold maxLen; omega
 case c4 => omega
 case c5 => have := hb1.size; simp; omega
 intro v' w2 hown' hgrow _; have hlt := h1.lt; have hne := Lib.ownBlock_ne hown h1.heap hT.ne
 have hb2 : w2.heap[B]? = w1.heap[B]? := by
  rw [hgrow.block B (by simp; omega) (fun e => hne e.symm), Lib.alloc_old w1 _ B hlt]
 have d1 : w2.cell? ⟨B, 1, none⟩ = some v := by rw [Lib.cell_of_heap (hb2.trans h1.heap)]; exact hv
 have f1 : w2.frozen? ⟨B, 1, none⟩ = false := Lib.frozen_of_heap (hb2.trans h1.heap) 1
 obtain ⟨g, cap, rfl⟩ : ∃ g cap, v' = .slice (some ⟨g, 0, none⟩) (T.length + 1) cap := by
  rcases hown'.2 with ⟨_, h0⟩ | ⟨g, cap, cur, hv, _⟩
  . omega
  . exact ⟨g, cap, hv⟩
 go_wp2_with fail; go_ret; refine ⟨rfl, ⟨_, WB.put hT H1.out hb2 (T' := T ++ [c]) (by simpa [Lib.byteCells] using hown'), fun j hj => ?_⟩, ?_, ?_⟩
 . rw [Array.getElem?_setIfInBounds_ne (by omega), Array.getElem?_setIfInBounds_ne (by omega)]
 . exact ((hb1.alloc (by have := hb1.size; omega) _).grown hgrow (by have := hb1.size; simp; omega) (fun k hk => (hown.lt k hk).1)).setCell (p := ⟨B, 1, none⟩) h.low _
 . exact ((hk1.trans (jC3.alloc B w1 _)).trans (jC3.grown hgrow (hown.alloc _))).trans (jC3.set _ _ _ _)
theorem jE1 {TT : TypeId} {k lo B : Nat} (hT : BTy TT k) {w : World} {cs : Array Value} {T : List UInt8} (h : WB TT k lo B w cs T) (s : List UInt8) (hlen : T.length + s.length <= 100000000) (hlo : lo <= w.heap.size) :
 Calls Tryz.prog 51 #[.pointer (some ⟨B, 0, none⟩), .string ⟨s.toArray⟩] w fun e w' => (∃ v, e = .returned v) /\ (∃ cs', WB TT k lo B w' cs' (T ++ s) /\ ∀ j, 2 <= j -> cs'[j]? = cs[j]?) /\ Below lo w w' /\ jC3 B w w' := by
 obtain ⟨i0, hi, hz0, hz1, hz2⟩ := info_parts (show (Tryz.prog.info? 5).map (fun i => (i.zero, i.size, i.bytes)) = some (some (.int .u8 0), 1, 1) by kernel_rfl); obtain ⟨S, hS⟩ : ∃ S : ByteArray, S = ⟨s.toArray⟩ := ⟨_, rfl⟩
 have hSs : S.size = s.length := by rw [hS]; rfl
 have hSc : Lib.strCells S = Lib.byteCells s := by rw [hS]; rfl
 rw [<- hS]; clear hS; go_enter Tryz.func51, Tryz.ntmps51; go_wp2_with fail; refine (jGB hT h).mono ?_; rintro e w1 ⟨rfl, h1, hb1, hk1⟩; obtain ⟨v, hv, hown⟩ := h1.own; have c1 : w1.cell? ⟨B, 1, none⟩ = some v := (h1.cell 1).trans hv; have H1 := hid h1; go_wp2_with (at_builtin; refine Lib.wpList_append_own_string _ rfl _ _ 22 9 rfl lo 5 i0 Tryz.underlying22 Tryz.underlying9 hi hz0 hz1 hz2 _ _ _ rfl hown S rfl ?c3 ?c4 ?c5 ?_)
 case c3 => unfold maxLen; omega
 case c4 => omega
 case c5 => have := hb1.size; omega
 intro v' w2 hown' hgrow _; have hlt := h1.lt; have hne := Lib.ownBlock_ne hown h1.heap hT.ne; have hb2 : w2.heap[B]? = w1.heap[B]? := hgrow.block B hlt (fun e => hne e.symm); have d1 : w2.cell? ⟨B, 1, none⟩ = some v := by rw [Lib.cell_of_heap (hb2.trans h1.heap)]; exact hv
 have f1 : w2.frozen? ⟨B, 1, none⟩ = false := Lib.frozen_of_heap (hb2.trans h1.heap) 1
 obtain ⟨ao, n', cap, rfl⟩ : ∃ ao n' cap, v' = .slice ao n' cap := by
  rcases hown'.2 with ⟨hv, _⟩ | ⟨g, cap, cur, hv, _⟩
  . exact ⟨_, _, _, hv⟩
  . exact ⟨_, _, _, hv⟩
 go_wp2_with fail; go_ret2; refine ⟨⟨_, rfl⟩, ⟨_, WB.put hT H1.out hb2 (T' := T ++ s) (by rw [List.length_append, Lib.byteCells_append]; exact hown'), fun j hj => ?_⟩, ?_, ?_⟩
 . rw [Array.getElem?_setIfInBounds_ne (by omega), Array.getElem?_setIfInBounds_ne (by omega)]
 . exact (hb1.grown hgrow (by have := hb1.size; omega) (fun k hk => (hown.lt k hk).1)).setCell (p := ⟨B, 1, none⟩) h.low _
 . exact (hk1.trans (jC3.grown hgrow hown)).trans (jC3.set _ _ _ _)
theorem jDP {TT : TypeId} {k lo B : Nat} (hT : BTy TT k) {w : World} {cs : Array Value} {l : List UInt8} (h : WB TT k lo B w cs l) (h0 : l ≠ []) :
 Calls Tryz.prog 53 #[.pointer (some ⟨B, 0, none⟩)] w fun e w' => e = .returned (.string ⟨l.toArray⟩) /\ Below lo w w' := by
 obtain ⟨v, hv, hown⟩ := h.own; have hl0 : l.length ≠ 0 := by simpa using h0
 obtain ⟨g, cap, cur, rfl, hbg, hg, hnc, hcm, hcs, htake⟩ : ∃ g cap cur, v = .slice (some ⟨g, 0, none⟩) l.length cap /\ lo <= g /\ w.heap[g]? = some (.cells cur 5 (0, 0)) /\ l.length <= cap /\ cap <= maxLen /\ cur.size = cap * 1 /\ cur.toList.take (l.length * 1) = Lib.byteCells l := by
  rcases hown.2 with ⟨_, hz⟩ | ⟨g, cap, cur, hv, r⟩
  . exact absurd hz hl0
  . exact ⟨g, cap, cur, hv, r⟩
 have c1 : w.drew.cell? ⟨B, 1, none⟩ = some (.slice (some ⟨g, 0, none⟩) l.length cap) := (h.cell 1).trans hv
 have hSD : (Builtin.unsafeSliceData_ #[22] 165 #[.slice (some ⟨g, 0, none⟩) l.length cap]).run Tryz.prog w.drew = .ok (.pointer (some ⟨g, 0, none⟩)) w.drew :=
  Lib.run_unsafeSliceData_row _ _ _ _ _ _ (by omega)
 have hUS : (Builtin.unsafeString_ #[165, 3] 9 #[.pointer (some ⟨g, 0, none⟩), .int .i64 l.length]).run Tryz.prog w.drew = .ok (.string ⟨l.toArray⟩) (w.drew.freeze ⟨g, 0, none⟩ l.length) := by
  refine Lib.run_unsafeString_row w.drew 165 3 9 5 Tryz.underlying165 (by kernel_rfl) g cur.size (by have hg' : w.drew.heap[g]? = some (.cells cur 5 (0, 0)) := hg; simp [World.shape?, hg']) l h0 (by omega) (by unfold maxLen at hcm; omega) ?_; intro j x hx; have := hown.cells (g := g) rfl j (.int .u8 x.toNat) (by simp [Lib.byteCells, hx]); exact this
 go_enter Tryz.func53, Tryz.ntmps53; go_wp2_with fail
 go_region
 all_goals (go_wp2_with fail; go_ret; exact ⟨rfl, Lib.below_freeze (Below.drew (Below.refl lo w)) (p := ⟨g, 0, none⟩) hbg _⟩)
end Sw
namespace Sw
def Keep (w w' : World) : Prop := w.heap.size <= w'.heap.size /\ ∀ (c : Nat) (cs : Array Value) (T : TypeId), w.heap[c]? = some (.cells cs T (0, 0)) -> T ≠ 123 -> T ≠ 5 -> T ≠ 125 -> w'.heap[c]? = some (.cells cs T (0, 0))
theorem Keep.refl (w : World) : Keep w w := ⟨Nat.le_refl _, fun _ _ _ h _ _ _ => h⟩
theorem Keep.trans {a b c : World} (h : Keep a b) (g : Keep b c) : Keep a c := ⟨Nat.le_trans h.1 g.1, fun x cs T hx h1 h2 h3 => g.2 x cs T (h.2 x cs T hx h1 h2 h3) h1 h2 h3⟩
theorem Keep.below {w w' : World} (h : Below w.heap.size w w') : Keep w w' := ⟨h.size, fun c cs T hc _ _ _ => jA0 hc h⟩
theorem Keep.drew (w : World) : Keep w w.drew := ⟨Nat.le_refl _, fun _ _ _ h _ _ _ => h⟩
def Clo {α : Type} (F : FuncId) (TW T : TypeId) (g : FuncId) (rep : Value -> α -> Prop) (w : World) (v : Value) (x : α) : Prop :=
 ∃ wb pb u, v = .func (.func F) #[] #[.pointer (some ⟨wb, 0, none⟩), .pointer (some ⟨pb, 0, none⟩)] /\ w.heap[wb]? = some (.cells #[.func (.func g) #[] #[]] TW (0, 0)) /\ w.heap[pb]? = some (.cells u.cells T (0, 0)) /\ rep u x
def CloL (F : FuncId) (TP TW : TypeId) (g : FuncId) (row : World -> Value -> Prop) (w : World) (v : Value) : Prop :=
 ∃ pb wb q n c, v = .func (.func F) #[] #[.pointer (some ⟨pb, 0, none⟩), .pointer (some ⟨wb, 0, none⟩)] /\ w.heap[pb]? = some (.cells #[.slice q n c] TP (0, 0)) /\ w.heap[wb]? = some (.cells #[.func (.func g) #[] #[]] TW (0, 0)) /\ row w (.slice q n c)
def RowK {α : Type} (E : TypeId) (sz : Nat) (rep : Value -> α -> Prop) (w : World) (v : Value) (xs : List α) : Prop :=
 (xs = [] /\ ∃ p c, v = .slice p 0 c) \/ ∃ g c cur, v = .slice (some ⟨g, 0, none⟩) xs.length c /\ xs.length <= c /\ (c : Int) <= 9223372036854775807 /\ w.heap[g]? = some (.cells cur E (0, 0)) /\
   ∀ i x, xs[i]? = some x -> ∃ u, rep u x /\ u.cells.size = sz /\ ∀ j z, u.cells[j]? = some z -> cur[i * sz + j]? = some z
theorem RowK.row {α : Type} {E : TypeId} {sz : Nat} {rep : Value -> α -> Prop} {w : World} {v : Value} {xs : List α} (h : RowK E sz rep w v xs) : jAI sz rep w v xs := by
 rcases h with h | ⟨g, c, cur, h1, h2, h3, h4, h5⟩
 . exact .inl h
 . refine .inr ⟨g, 0, c, h1, h2, h3, fun i x hx => ?_⟩; obtain ⟨u, a, b, d⟩ := h5 i x hx; exact ⟨u, a, b, fun j z hz => jA h4 _ _ (by rw [Nat.zero_add]; exact d j z hz)⟩
theorem RowK.keep {α : Type} {E : TypeId} {sz : Nat} {rep : Value -> α -> Prop} {w w' : World} {v : Value} {xs : List α} (h : RowK E sz rep w v xs) (hk : Keep w w') (h1 : E ≠ 123) (h2 : E ≠ 5) (h3 : E ≠ 125) : RowK E sz rep w' v xs := by
 rcases h with h | ⟨g, c, cur, a1, a2, a3, a4, a5⟩
 . exact .inl h
 . exact .inr ⟨g, c, cur, a1, a2, a3, hk.2 g cur E a4 h1 h2 h3, a5⟩
theorem Clo.keep {α : Type} {F : FuncId} {TW T : TypeId} {g : FuncId} {rep : Value -> α -> Prop} {w w' : World} {v : Value} {x : α} (h : Clo F TW T g rep w v x) (hk : Keep w w') (a1 : TW ≠ 123) (a2 : TW ≠ 5) (a3 : TW ≠ 125)
 (b1 : T ≠ 123) (b2 : T ≠ 5) (b3 : T ≠ 125) : Clo F TW T g rep w' v x := by
 obtain ⟨wb, pb, u, h1, h2, h3, h4⟩ := h; exact ⟨wb, pb, u, h1, hk.2 _ _ _ h2 a1 a2 a3, hk.2 _ _ _ h3 b1 b2 b3, h4⟩
def SV (lo B : Nat) (w : World) (T : List UInt8) (vs : List Value) : Prop :=
 ∃ cs wv, WB 123 3 lo B w cs T /\ cs[2]? = some wv /\ w.ownsRow lo 125 1 wv vs.length vs
theorem jH5 {lo B : Nat} {w w' : World} {E TT : TypeId} {cs : Array Value} {wv : Value} {n : Nat} {xs : List Value} (h : w.ownsRow lo E 1 wv n xs) (hB : w.heap[B]? = some (.cells cs TT (0, 0))) (h1 : TT ≠ E) (h2 : E ≠ 5) (hk : jC3 B w w') : w'.ownsRow lo E 1 wv n xs := by
 refine ⟨h.1, ?_⟩
 rcases h.2 with h | ⟨g, cap, cur, rfl, a1, a2, a3⟩
 . exact .inl h
 . refine .inr ⟨g, cap, cur, rfl, a1, hk.2 g _ a2 (fun e => ?_) (fun c fr e => ?_), a3⟩
   . subst e; rw [a2] at hB; simp only [Option.some.injEq, Obj.cells.injEq] at hB; exact h1 hB.2.1.symm
   . simp only [Obj.cells.injEq] at e; exact h2 e.2.1
theorem jC3.keep {B : Nat} {w w' : World} {cs : Array Value} (h : jC3 B w w') (hB : w.heap[B]? = some (.cells cs 123 (0, 0))) : Keep w w' := by
 refine ⟨h.1, fun c cs' T hc h1 h2 h3 => h.2 c _ hc (fun e => ?_) (fun d fr e => ?_)⟩
 . subst e; rw [hc] at hB; simp only [Option.some.injEq, Obj.cells.injEq] at hB; exact h1 hB.2.1
 . simp only [Obj.cells.injEq] at e; exact h2 e.2.1
theorem jC3.below {B : Nat} {w w' : World} (h : Below w.heap.size w w') : jC3 B w w' := ⟨h.size, fun c o hc _ _ => jA0 hc h⟩
theorem SV.below {lo B : Nat} {w w' : World} {T : List UInt8} {vs : List Value} (h : SV lo B w T vs) (hb : Below w.heap.size w w') : SV lo B w' T vs := by
 obtain ⟨cs, wv, h1, h2, h3⟩ := h; obtain ⟨bv, b1, b2⟩ := h1.own; exact ⟨cs, wv, ⟨jA0 h1.heap hb, h1.size, h1.low, h1.addr, bv, b1, jA5 b2 hb⟩, h2, jA5 h3 hb⟩
theorem SV.low {lo B : Nat} {w : World} {T : List UInt8} {vs : List Value} (h : SV lo B w T vs) : lo <= w.heap.size := by
 obtain ⟨cs, wv, h1, _⟩ := h; have := h1.lt; have := h1.low; omega
def Wrote (lo B : Nat) (w : World) (T : List UInt8) (vs : List Value) (e : Ending) (w' : World) : Prop := e = .returned (.tuple #[]) /\ SV lo B w' T vs /\ Below lo w w' /\ jC3 B w w' /\ Keep w w'
theorem jI7 {lo B : Nat} {w : World} {T : List UInt8} {vs : List Value} (h : SV lo B w T vs) (c : UInt8) (hlen : T.length <= 100000000) :
 Calls Tryz.prog 52 #[.pointer (some ⟨B, 0, none⟩), .int .u8 c.toNat] w fun e w' => e = .returned .nilIface /\ SV lo B w' (T ++ [c]) vs /\ Below lo w w' /\ jC3 B w w' /\ Keep w w' := by
 have hlo := h.low; obtain ⟨cs, wv, h1, h2, h3⟩ := h; refine (jDW btyW h1 c hlen hlo).mono ?_; rintro e w' ⟨rfl, ⟨cs', h4, h5⟩, hb, hk⟩; exact ⟨rfl, ⟨cs', wv, h4, (h5 2 (by omega)).trans h2, jH5 h3 h1.heap (by decide) (by decide) hk⟩, hb, hk, hk.keep h1.heap⟩
theorem jF8 {lo B : Nat} {w : World} {T : List UInt8} {vs : List Value} (h : SV lo B w T vs) (s : List UInt8) (hlen : T.length + s.length <= 100000000) :
 Calls Tryz.prog 51 #[.pointer (some ⟨B, 0, none⟩), .string ⟨s.toArray⟩] w fun e w' => (∃ v, e = .returned v) /\ SV lo B w' (T ++ s) vs /\ Below lo w w' /\ jC3 B w w' /\ Keep w w' := by
 have hlo := h.low; obtain ⟨cs, wv, h1, h2, h3⟩ := h; refine (jE1 btyW h1 s hlen hlo).mono ?_; rintro e w' ⟨hv, ⟨cs', h4, h5⟩, hb, hk⟩; exact ⟨hv, ⟨cs', wv, h4, (h5 2 (by omega)).trans h2, jH5 h3 h1.heap (by decide) (by decide) hk⟩, hb, hk, hk.keep h1.heap⟩
end Sw
namespace Sw
def jJF : Nat -> World -> Value -> Tr -> Prop
 | 0, _, _, _ => False
 | f + 1, u, v, .mk nm i re im args => ∃ av, v = .agg #[.string ⟨nm.toArray⟩, .int .i64 i, .int .i64 re, .int .i64 im, av] /\ (-9223372036854775808 <= i /\ i <= 9223372036854775807) /\ (-9223372036854775808 <= re /\ re <= 9223372036854775807) /\ (-9223372036854775808 <= im /\ im <= 9223372036854775807) /\ jAI 5 (jJF f u) u av args
def PairAt (f : Nat) (u : World) (v : Value) (x : List UInt8 × Px.Expr) : Prop :=
 ∃ b0 b1 b2 b3 b4 b5 b6 : Value, v = .agg #[.string ⟨x.1.toArray⟩, b0, b1, b2, b3, b4, b5, b6] /\ jB f u (.agg #[b0, b1, b2, b3, b4, b5, b6]) x.2
def jD8 (v : Value) (s : List UInt8) : Prop := v = .string ⟨s.toArray⟩
def I64 (i : Int) : Prop := -9223372036854775808 <= i /\ i <= 9223372036854775807
def jNK : Nat -> Px.Pat -> Prop
 | 0, _ => False
 | f + 1, .mk k _ _ i args => (k = 2 -> I64 i) /\ ∀ a ∈ args, jNK f a
def jHQ : Nat -> Px.Expr -> Prop
 | 0, _ => False
 | f + 1, .mk k _ _ i ns xs al => (k = 0 -> I64 i) /\ (k = 4 -> ns.length <= 1000000 /\ xs.length <= 1000000) /\ (∀ x ∈ xs, jHQ f x) /\ ∀ a ∈ al, jNK f a.1 /\ jHQ f a.2
def PatG (f : Nat) (u : World) (v : Value) (p : Px.Pat) : Prop := jE f u v p /\ jNK f p
def jCB (f : Nat) (u : World) (v : Value) (x : Px.Expr) : Prop := jB f u v x /\ jHQ f x
def AltG (f : Nat) (u : World) (v : Value) (a : Px.Pat × Px.Expr) : Prop := AltOf (jE f u) (jB f u) v a /\ jNK f a.1 /\ jHQ f a.2
def jGC (f : Nat) (u : World) (v : Value) (b : List UInt8 × Px.Expr) : Prop := PairAt f u v b /\ jHQ f b.2
def DefG (f : Nat) (u : World) (v : Value) (d : Px.Def) : Prop := jGD f u v d /\ jHQ f d.body
def jAG (w0 w : World) (v : Value) : Nd -> Prop
 | .blank => v = .func (.func 98) #[] #[]
 | .fin => v = .func (.func 95) #[] #[]
 | .word s => Clo 132 173 9 71 jD8 w v s
 | .typ f t => Clo 134 75 42 30 (jCM f w0) w v t
 | .pat f p => Clo 149 150 84 75 (PatG f w0) w v p
 | .expr f x => Clo 104 79 47 34 (jCB f w0) w v x
 | .alt f a => Clo 107 145 86 70 (AltG f w0) w v a
 | .pair f b => Clo 136 143 142 68 (jGC f w0) w v b
 | .names l => CloL 133 33 173 71 (fun u q => jAI 1 jD8 w0 q l) w v
 | .pairs f l => CloL 105 137 143 68 (fun u q => RowK 142 8 (jGC f w0) u q l) w v
 | .con f c => Clo 101 130 40 59 (jG4 f w0) w v c
 | .data f d => Clo 129 73 36 28 (jD5 f w0) w v d
 | .defn f d => Clo 135 77 49 32 (DefG f w0) w v d
 | .tree f t => Clo 142 88 58 39 (jJF f w0) w v t
theorem jAG.keep {w0 w w' : World} {v : Value} (hk : Keep w w') : ∀ {n : Nd}, jAG w0 w v n -> jAG w0 w' v n := by
 intro n h; cases n with
 | blank => exact h
 | fin => exact h
 | names l =>
   obtain ⟨pb, wb, q, n, c, h1, h2, h3, h4⟩ := h; exact ⟨pb, wb, q, n, c, h1, hk.2 _ _ _ h2 (by decide) (by decide) (by decide), hk.2 _ _ _ h3 (by decide) (by decide) (by decide), h4⟩
 | pairs f l =>
   obtain ⟨pb, wb, q, n, c, h1, h2, h3, h4⟩ := h; exact ⟨pb, wb, q, n, c, h1, hk.2 _ _ _ h2 (by decide) (by decide) (by decide), hk.2 _ _ _ h3 (by decide) (by decide) (by decide), h4.keep hk (by decide) (by decide) (by decide)⟩
 | _ => exact Clo.keep h hk (by decide) (by decide) (by decide) (by decide) (by decide) (by decide)
end Sw
namespace Sw
theorem jHE : ∀ {l : List (List UInt8)}, (∀ s ∈ l, s ≠ []) -> jD0 (l.map Nd.word) l
 | [], _ => trivial
 | s :: r, h => ⟨jCK s (h s (by simp)), jHE fun x hx => h x (by simp [hx])⟩
theorem jH3 {l : List (List UInt8)} (h : ∀ s ∈ l, s ≠ []) : ∃ k, Run [Nd.names l] (joined l) k := jBM rfl (jHE h)
theorem run_typ : ∀ (f : Nat) (t : Px.TypeE), Px.nmT f t -> ∃ k, Run [Nd.typ f t] (Px.showT f t) k := by
 intro f
 induction f with
 | zero => intro t h; exact h.elim
 | succ f ih =>
   intro t h; obtain ⟨p, nm, args⟩ := t; obtain ⟨h1, h2⟩ := h; have := jEA (l := args.map (Nd.typ f)) (n := .typ (f + 1) (.mk p nm args)) h1 rfl (jD0.map _ (Px.showT f) args fun x hx => ih x (h2 x hx))
   simpa [Px.showT] using this
theorem run_pat : ∀ (f : Nat) (t : Px.Pat), Px.nmP f t -> ∃ k, Run [Nd.pat f t] (Px.showP f t) k := by
 intro f
 induction f with
 | zero => intro t h; exact h.elim
 | succ f ih =>
   intro t h; obtain ⟨k, p, nm, i, args⟩ := t; obtain ⟨h1, h2⟩ := h; by_cases k0 : k = 0
   . subst k0; exact run_text (by simp [step, Px.showP])
   by_cases k2 : k = 2
   . subst k2; exact run_text (by simp [step, Px.showP])
   have := jEA (l := args.map (Nd.pat f)) (n := .pat (f + 1) (.mk k p nm i args)) (h1 k0 k2) (by simp [step, k0, k2]) (jD0.map _ (Px.showP f) args fun x hx => ih x (h2 x hx))
   simpa [Px.showP, k0, k2] using this
theorem run_pair {f : Nat} {b : List UInt8 × Px.Expr} {t : List UInt8} (h1 : b.1 ≠ []) (h2 : ∃ k, Run [Nd.expr f b.2] t k) : ∃ k, Run [Nd.pair f b] (joined [b.1, t]) k :=
 jBM (l := [.word b.1, .expr f b.2]) rfl ⟨jCK _ h1, h2, trivial⟩
theorem jHF {f : Nat} {g : Px.Expr -> List UInt8} : ∀ (ns : List (List UInt8)) (xs : List Px.Expr), (∀ s ∈ ns, s ≠ []) -> (∀ x ∈ xs, ∃ k, Run [Nd.expr f x] (g x) k) -> jD0 ((ns.zip xs).map (Nd.pair f)) ((ns.zip (xs.map g)).map fun p => joined [p.1, p.2])
 | [], _, _, _ => trivial
 | _ :: _, [], _, _ => trivial
 | n :: ns, x :: xs, h1, h2 => ⟨run_pair (h1 n (by simp)) (h2 x (by simp)), jHF ns xs (fun s hs => h1 s (by simp [hs])) fun y hy => h2 y (by simp [hy])⟩
theorem run_expr : ∀ (f : Nat) (x : Px.Expr), jF7 f x -> Px.nmE f x -> ∃ k, Run [Nd.expr f x] (Px.showE f x) k := by
 intro f
 induction f with
 | zero => intro x h; exact h.elim
 | succ f ih =>
   intro x hg hn; obtain ⟨k, p, nm, i, ns, xs, al⟩ := x; rw [jBC f k p nm i ns xs al hg]; obtain ⟨h8, _, h01, h35, h4, h67, hgx, hga⟩ := hg; obtain ⟨n1, n2, n3, n4, n5⟩ := hn; have hx : ∀ x ∈ xs, ∃ k, Run [Nd.expr f x] (Px.showE f x) k := fun x hx => ih x (hgx x hx) (n3 x hx)
   have tx : jD0 (xs.map (Nd.expr f)) (xs.map (Px.showE f)) := jD0.map _ _ xs hx; by_cases k0 : k = 0
   . subst k0; exact run_text (by simp [step])
   rw [if_neg k0]; by_cases k1 : k = 1
   . subst k1; obtain rfl := h01 (by simp); have := jEA (l := []) (ts := []) (n := .expr (f + 1) (.mk 1 p nm i ns [] al)) (n1 (by simp)) (by simp [step]) trivial
     simpa using this
   rw [if_neg k1]; by_cases k2 : k = 2
   . subst k2; exact jEA (n := .expr (f + 1) (.mk 2 p nm i ns xs al)) (n1 (by simp)) (by simp [step]) tx
   rw [if_neg k2]; by_cases k7 : k = 7
   . subst k7; have := jEA (n := .expr (f + 1) (.mk 7 p nm i ns xs al)) (n1 (by simp)) (by simp [step]) tx; rw [if_neg (by have := h67 (by simp); simpa using this)] at this; exact this
   rw [if_neg k7]; by_cases k3 : k = 3
   . subst k3; obtain ⟨y, rfl⟩ := List.length_eq_one_iff.1 (h35 (by simp)); exact jBM (l := [.word [102, 110], .names ns, .expr f y]) (by simp [step]) ⟨jCK _ (by decide), jH3 n2, hx y (by simp), trivial⟩
   rw [if_neg k3]; by_cases k6 : k = 6
   . subst k6; exact jBM (l := xs.map (Nd.expr f)) (by simp [step]) tx
   rw [if_neg k6]; by_cases k8 : k = 8
   . subst k8; exact run_text (by simp [step])
   rw [if_neg k8]; by_cases k4 : k = 4
   . subst k4; obtain ⟨hl, hne⟩ := h4 rfl
     obtain ⟨ys, y, rfl⟩ : ∃ ys y, xs = ys ++ [y] := by
      rcases List.eq_nil_or_concat xs with h | ⟨ys, y, h⟩
      . rw [h] at hl; simp at hl
      . exact ⟨ys, y, by rw [h]; simp⟩
     have hyl : ys.length = ns.length := by simpa using hl
     have hdrop : (ys ++ [y]).drop (jF ns (ys ++ [y])) = [y] := by
      unfold jF; rw [show min ns.length (ys ++ [y]).length = ys.length by simp; omega, List.drop_left]
     have hlast : ((ys ++ [y]).map (Px.showE f)).getLastD [] = Px.showE f y := by simp
     rw [hlast]; have tp := jHF (f := f) (g := Px.showE f) ns (ys ++ [y]) n2 hx; exact jBM (l := [.word [108, 101, 116], .pairs f (jBZ ns (ys ++ [y])), .expr f y]) (by simp only [step, hdrop]; simp) ⟨jCK _ (by decide), jBM (l := (jBZ ns (ys ++ [y])).map (Nd.pair f)) rfl tp, hx y (by simp), trivial⟩
   rw [if_neg k4]; have k5 : k = 5 := by omega
   subst k5; obtain ⟨y, rfl⟩ := List.length_eq_one_iff.1 (h35 (by simp)); have ta : jD0 (al.map (Nd.alt f)) (al.map fun a => joined [Px.showP f a.1, Px.showE f a.2]) := jD0.map _ _ al fun a ha =>
    jBM (l := [.pat f a.1, .expr f a.2]) rfl ⟨run_pat f a.1 (n4 a ha).1, ih a.2 (hga a ha).2 (n4 a ha).2, trivial⟩
   exact jBM (l := .word [99, 97, 115, 101] :: .expr f y :: al.map (Nd.alt f)) (by simp [step]) ⟨jCK _ (by decide), hx y (by simp), ta⟩
theorem run_con (c : Px.Con) (h : Px.nmC c) : ∃ k, Run [Nd.con 50 c] (Px.jD2 50 c) k :=
 jBM (l := .word c.name :: c.fields.map (Nd.typ 50)) rfl ⟨jCK _ h.1, jD0.map _ (Px.showT 50) c.fields fun t ht => run_typ 50 t (h.2 t ht)⟩
theorem run_data (d : Px.Data) (h : Px.nmD d) : ∃ k, Run [Nd.data 50 d] (Px.jBJ 50 d) k :=
 jBM (l := .word [100, 97, 116, 97] :: .word d.name :: .names d.params :: d.cons.map (Nd.con 50)) rfl
  ⟨jCK _ (by decide), jCK _ h.1, jH3 h.2.1, jD0.map _ (Px.jD2 50) d.cons fun c hc => run_con c (h.2.2 c hc)⟩
theorem run_defn (d : Px.Def) (hg : jF7 50 d.body) (h : Px.nmF d) : ∃ k, Run [Nd.defn 50 d] (Px.jC0 50 d) k :=
 jBM (l := [.word [100, 101, 102], .word d.name, .names d.params, .expr 50 d.body]) rfl
  ⟨jCK _ (by decide), jCK _ h.1, jH3 h.2.1, run_expr 50 d.body hg h.2.2, trivial⟩
theorem okPat_of : ∀ (f : Nat) (p : Px.Pat), Px.nmP f p -> OkP f p -> jNK f p := by
 intro f
 induction f with
 | zero => intro p h; exact h.elim
 | succ f ih =>
   intro p hn ho; obtain ⟨k, q, nm, i, args⟩ := p; exact ⟨fun h => ho.1 h, fun a ha => ih a (hn.2 a ha) (ho.2 a ha)⟩
theorem okExp_of : ∀ (f : Nat) (x : Px.Expr), jF7 f x -> Px.nmE f x -> (Px.showE f x).length <= 900000 -> jHQ f x := by
 intro f
 induction f with
 | zero => intro x h; exact h.elim
 | succ f ih =>
   intro x hg hn hl; obtain ⟨k, p, nm, i, ns, xs, al⟩ := x; obtain ⟨p1, p2, p3⟩ := jJ5 f k p nm i ns xs al hg; have hgg := hg; obtain ⟨h8, hi, h01, h35, h4, h67, hgx, hga⟩ := hg; obtain ⟨n1, n2, n3, n4, n5⟩ := hn; refine ⟨fun h => hi h, fun h => ⟨by have := p3 h; omega, by omega⟩, fun x hx => ih x (hgx x hx) (n3 x hx) (by have := p1 x hx; omega), fun a ha => ⟨okPat_of f a.1 (n4 a ha).1 (hga a ha).1, ih a.2 (hga a ha).2 (n4 a ha).2 ?_⟩⟩; by_cases k5 : k = 5
   . subst k5; obtain ⟨y, rfl⟩ := List.length_eq_one_iff.1 (h35 (by simp)); rw [jBC f 5 p nm i ns [y] al hgg] at hl; simp only [show ¬ (5 : Nat) = 0 by decide, show ¬ (5 : Nat) = 1 by decide, show ¬ (5 : Nat) = 2 by decide, show ¬ (5 : Nat) = 7 by decide, show ¬ (5 : Nat) = 3 by decide, show ¬ (5 : Nat) = 6 by decide, show ¬ (5 : Nat) = 8 by decide, show ¬ (5 : Nat) = 4 by decide, if_false] at hl; have h1 : (joined [Px.showP f a.1, Px.showE f a.2]).length <= _ := jC1 (List.mem_cons_of_mem [99, 97, 115, 101] (List.mem_cons_of_mem (([y].map (Px.showE f)).headD []) (List.mem_map_of_mem (f := fun a : Px.Pat × Px.Expr => joined [Px.showP f a.1, Px.showE f a.2]) ha))); have h2 : (Px.showE f a.2).length <= (joined [Px.showP f a.1, Px.showE f a.2]).length := jC1 (by simp); omega
   . rw [n5 k5] at ha; cases ha
end Sw
namespace Sw
theorem end_any {lo B : Nat} {w : World} {T : List UInt8} {vs : List Value} (h : SV lo B w T vs) (hlen : T.length <= 90000000) :
 Calls Tryz.prog 95 #[.pointer (some ⟨B, 0, none⟩)] w (Wrote lo B w (T ++ [41]) vs) := by
 go_enter Tryz.func95, Tryz.ntmps95; go_wp2_with fail; refine (jI7 h 41 (by omega)).mono ?_; rintro e w1 ⟨rfl, h1, hb, hk, hkk⟩; go_wp2_with fail
 go_end0
 exact ⟨rfl, h1, hb, hk, hkk⟩
theorem jQX {lo B : Nat} {w : World} {T : List UInt8} {vs : List Value} (h : SV lo B w T vs) (hlen : T.length <= 90000000) :
 Calls Tryz.prog 98 #[.pointer (some ⟨B, 0, none⟩)] w (Wrote lo B w (T ++ [32]) vs) := by
 go_enter Tryz.func98, Tryz.ntmps98; go_wp2_with fail; refine (jI7 h 32 (by omega)).mono ?_; rintro e w1 ⟨rfl, h1, hb, hk, hkk⟩; go_wp2_with fail
 go_end0
 exact ⟨rfl, h1, hb, hk, hkk⟩
theorem jI8 {lo B : Nat} {w : World} {T : List UInt8} {vs : List Value} (h : SV lo B w T vs) (s : List UInt8) (hlen : T.length + s.length <= 90000000) :
 Calls Tryz.prog 71 #[.pointer (some ⟨B, 0, none⟩), .string ⟨s.toArray⟩] w (Wrote lo B w (T ++ wd s) vs) := by
 have HL := hid hlen; clear hlen; go_enter Tryz.func71, Tryz.ntmps71; by_cases hs : s = []
 . subst hs; go_wp2_with fail; refine (jF8 h [63] (by have := HL.out; simp at this ⊢; omega)).mono ?_; rintro e w1 ⟨⟨v, rfl⟩, h1, hb, hk, hkk⟩; go_wp2_with fail
   go_end0
   exact ⟨rfl, h1, hb, hk, hkk⟩
 . have hne : (s == []) = false := by simpa using hs
   have hne2 : s.isEmpty = false := by simpa using hs
   have HS := hid hs; go_wp2_with fail; refine (jF8 h s (by have := HL.out; omega)).mono ?_; rintro e w1 ⟨⟨v, rfl⟩, h1, hb, hk, hkk⟩; go_wp2_with fail
   go_end0
   exact ⟨rfl, by rw [wd, if_neg HS.out]; exact h1, hb, hk, hkk⟩
theorem jG (n : Int) (h0 : -9223372036854775808 <= n) (h1 : n <= 9223372036854775807) (w : World) (htab : Lib.TabIs Tryz.prog w "internal/strconv.uint64pow10" .u64 Lib.pow10Tab) :
 Calls Tryz.prog 77 #[.int .i64 n] w fun e w' => e = .returned (.string ⟨(Lib.itoa n).toArray⟩) /\ Below w.heap.size w w' := by
 go_enter Tryz.func77, Tryz.ntmps77; go_wp2_with fail
 have hc : Calls Tryz.prog 73 #[.int .i64 n, .int .i64 10] w fun e w' => e = .returned (.string ⟨(Lib.itoa n).toArray⟩) /\ Below w.heap.size w w' := by
  refine (Tryz.strconv_FormatInt_10 n h0 h1 w htab).mono ?_; rintro e w' ⟨rfl, k, os, rfl⟩; exact ⟨rfl, Lib.below_grow _ _ (Nat.le_refl _) _ _⟩
 refine hc.mono ?_; rintro e w1 ⟨rfl, hb⟩; go_wp2_with fail; go_ret; exact ⟨rfl, hb⟩
end Sw
namespace Sw
theorem jCT (n : Nat) (hn : n <= 1000000000) (w : World) : (Instr.makeSlice 120 (.int .i64 (n : Int)) (.int .i64 (n : Int))).run Tryz.prog w = .ok (.slice (some ⟨w.heap.size, 0, none⟩) n n) (w.alloc (.cells (madeCells #[(.nilFunc : Value)] n) 125)) :=
 run_make_row' (P := Tryz.prog) 120 125 .nilFunc 8 Tryz.underlying120 (by kernel_rfl) rfl .i64 .i64 n (by omega) (by omega) w
theorem jDL {α : Type} {rep : Value -> α -> Prop} : ∀ {vs : List Value} {xs : List α}, vs.length = xs.length -> (∀ (j : Nat) (v : Value) (x : α), vs[j]? = some v -> xs[j]? = some x -> rep v x) -> Reps rep vs xs
 | [], [], _, _ => trivial
 | v :: vs, x :: xs, hl, h => ⟨h 0 v x rfl rfl, jDL (by simpa using hl) fun j a b ha hb => h (j + 1) a b (by simpa using ha) (by simpa using hb)⟩
 | [], _ :: _, hl, _ => by simp at hl
 | _ :: _, [], hl, _ => by simp at hl
theorem jE5 {w : World} {base base' : Nat} {E : TypeId} {v : Value} {n : Nat} {xs : List Value} (h : w.ownsRow base E 1 v n xs) (hb : base' <= base) : w.ownsRow base' E 1 v n xs := by
 refine ⟨h.1, ?_⟩
 rcases h.2 with h | ⟨g, cap, cur, rfl, a1, a2⟩
 . exact .inl h
 . exact .inr ⟨g, cap, cur, rfl, by omega, a2⟩
end Sw
namespace Sw
def IsStr (u : Value) : Prop := ∃ (t0 : ByteArray), u = .string t0
theorem jJD {α : Type} (rep : Value -> α -> Prop) (hsh : ∀ u x, rep u x -> IsStr u) (av : Value) (xs : List α) (g : Nat) (w : World) (h : jAI 1 rep w av xs) (hn : xs.length <= 1000000) :
 Calls Tryz.prog 99 #[av, .func (.func g) #[] #[]] w fun e w' => ∃ rv vs, e = .returned rv /\ Below w.heap.size w w' /\ w'.ownsRow w.heap.size 125 1 rv xs.length vs /\ Reps (Clo 132 173 9 g rep w') vs xs := by
 obtain ⟨q, c, rfl⟩ := h.len; have H := hid h; have HSH := hid hsh; have HN := hid hn; clear h hsh hn; go_enter Tryz.func99, Tryz.ntmps99; have mk := jCT xs.length (by have := HN.out; omega); go_wp2_with fail; clear mk; have EW := hid (jA2 (jA3 w #[.func (.func g) #[] #[]] 173) (.cells (madeCells #[(.nilFunc : Value)] xs.length) 125)); have EG := hid (jA3 (w.alloc (.cells #[.func (.func g) #[] #[]] 173)) (madeCells #[(.nilFunc : Value)] xs.length) 125); rw [World.size_alloc] at EG; have HB := hid ((((Below.refl w.heap.size w).alloc (Nat.le_refl _) (.cells #[.func (.func g) #[] #[]] 173)).alloc (by simp) (.cells (madeCells #[(.nilFunc : Value)] xs.length) 125))); have HS0 := hid (size_madeCells #[(.nilFunc : Value)] xs.length)
 go_loopw [13] (fun i wr => ∃ (k : Nat) (cs : Array Value), i = .int .i64 k /\ k <= xs.length /\ Hid (cs.size = xs.length) /\ Hid (wr.heap[w.heap.size]? = some (.cells #[.func (.func g) #[] #[]] 173 (0, 0))) /\ Hid (wr.heap[w.heap.size + 1]? = some (.cells cs 125 (0, 0))) /\
  Hid (∀ j, j < k -> ∃ pb u, cs[j]? = some (.func (.func 132) #[] #[.pointer (some ⟨w.heap.size, 0, none⟩), .pointer (some ⟨pb, 0, none⟩)]) /\ w.heap.size + 2 <= pb /\ wr.heap[pb]? = some (.cells u.cells 9 (0, 0)) /\ ∀ x, xs[j]? = some x -> rep u x) /\
  Hid (Below w.heap.size w wr)) (fun i _ => xs.length - (intOf i).toNat)
 case atStart => exact ⟨0, _, rfl, Nat.zero_le _, HS0, EW, EG, hid (fun j hj => absurd hj (Nat.not_lt_zero j)), HB⟩
 case round =>
  clear EW EG HB HS0; obtain ⟨k, cs, rfl, hk, HS, EW, EG, HC, HB⟩ := hrel; have hs1 := jA6 EG.out; by_cases hlt : k < xs.length
  . obtain ⟨x, hx⟩ : ∃ x, xs[k]? = some x := ⟨_, List.getElem?_eq_getElem hlt⟩
    rcases H.out with ⟨h0, _⟩ | ⟨b, of, c', hv, g1, g2, g3⟩
    . rw [h0] at hlt; simp at hlt
    injection hv with hq1 _ hq2
    subst hq1; subst hq2
    obtain ⟨u, hu, _, hcell⟩ := g3 k x hx; obtain ⟨t0, rfl⟩ := HSH.out u x hu; have HU := hid hu; have HX := hid hx; have up : ∀ j' z, (.string t0 : Value).cells[j']? = some z -> wr.cell? ⟨b, of + k * 1 + j', none⟩ = some z := fun j' z hz => (HB.out.cell (World.block_lt_of_cell? w _ (hcell j' z hz))).trans (hcell j' z hz)
    have x0 : wr.cell? ⟨b, of + k, none⟩ = some (.string t0) := by simpa using up 0 (.string t0) rfl
    have hk1 : (k : Int) < (xs.length : Int) := by omega
    have hk2 : (xs.length : Int) <= (c : Int) := by omega
    have hk3 := g2; clear g1 g2 g3 hcell hu up hx; go_upto_region 5 with fail
    have HE := hid (jA3 wr #[.string t0] 9); have hsz : (wr.alloc (.cells #[.string t0] 9)).heap.size = wr.heap.size + 1 := by simp
    have HBA := hid (show Below wr.heap.size wr (wr.alloc (.cells #[.string t0] 9)) from (Below.refl _ _).alloc (Nat.le_refl _) _); clear x0; generalize wr.alloc (.cells #[.string t0] 9) = w3 at HE HBA hsz ⊢; have EG3 := hid (jA0 EG.out HBA.out); have EW3 := hid (jA0 EW.out HBA.out); have hkc : k < cs.size := by have := HS.out; omega
    obtain ⟨z, hz⟩ : ∃ z, cs[k]? = some z := ⟨_, Array.getElem?_eq_getElem hkc⟩
    have y0 := jA EG3.out k z hz; have yf := jA1 EG3.out k; have HZ := hid hkc; clear hkc hz; go_wp2_with fail
    go_roundw
    case rel =>
     refine ⟨k + 1, _, by go_num, by omega, hid ((Array.size_setIfInBounds).trans HS.out), hid (jA4 EW3.out _ _ _ (by omega)), hid (jAE EG3.out k _), hid (fun j hj => ?_), hid ((HB.out.trans (HBA.out.mono HB.out.size)).setCell (p := ⟨w.heap.size + 1, k, none⟩) (by simp) _)⟩; by_cases hjk : j = k
     . subst hjk; exact ⟨wr.heap.size, .string t0, jCN _ _ _ HZ.out, by omega, jA4 HE.out _ _ _ (by omega), fun y hy => by rw [HX.out] at hy; cases hy; exact HU.out⟩
     . obtain ⟨pb, u, a1, a2, a3, a4⟩ := HC.out j (by omega); exact ⟨pb, u, (jBK _ _ _ _ (fun e => hjk e.symm)).trans a1, a2, jA4 (jA0 a3 HBA.out) _ _ _ (by omega), a4⟩
    case measure => simp [intOf]; omega
  . obtain rfl : k = xs.length := by omega
    go_wp2_with fail; go_ret; have hcl : cs.toList.length = xs.length := HS.out; refine ⟨_, cs.toList, rfl, HB.out, ⟨by rw [hcl]; simp, .inr ⟨w.heap.size + 1, xs.length, cs, rfl, by omega, EG.out, Nat.le_refl _, by have := HN.out; unfold maxLen; omega, by rw [HS.out]; simp, by rw [List.take_of_length_le (by rw [hcl]; omega)]⟩⟩, jDL hcl fun j v x hv hx => ?_⟩; have hj : j < xs.length := (List.getElem?_eq_some_iff.1 hx).1; obtain ⟨pb, u, a1, a2, a3, a4⟩ := HC.out j hj; rw [Array.getElem?_toList, a1] at hv; cases hv; exact ⟨_, pb, u, rfl, EW.out, a3, a4 x hx⟩
end Sw
namespace Sw
theorem jO2 {lo B : Nat} {w : World} {T : List UInt8} {vs : List Value} (h : SV lo B w T vs) (n : Int) (h0 : -9223372036854775808 <= n) (h1 : n <= 9223372036854775807) (hlen : T.length + (Lib.itoa n).length <= 90000000) (htab : Lib.TabIs Tryz.prog w "internal/strconv.uint64pow10" .u64 Lib.pow10Tab) :
 Calls Tryz.prog 64 #[.pointer (some ⟨B, 0, none⟩), .int .i64 n] w (Wrote lo B w (T ++ Lib.itoa n) vs) := by
 have HL := hid hlen; have HLO := hid h.low; have HX := hid h; have HD := jG n h0 h1 w.drew (show Lib.TabIs Tryz.prog w.drew "internal/strconv.uint64pow10" .u64 Lib.pow10Tab from htab); clear hlen h htab; go_enter Tryz.func64, Tryz.ntmps64; go_wp2_with fail; refine wp_region_held_drew (S := fun (_ : World) => True) (by kernel_rfl) (trivial) (fun hHeld => ?_); refine wT 0 (.pointer (some ⟨B, 0, none⟩)) rfl (Or.inl ⟨by rfl, fun w' hSw => by go_simp⟩) hHeld ?_; refine wT 1 (.pointer (some ⟨B, 0, none⟩)) rfl (Or.inl ⟨by rfl, fun w' hSw => by go_simp⟩) hHeld ?_; refine wT 2 (.pointer (some ⟨B, 0, none⟩)) rfl (Or.inl ⟨by rfl, fun w' hSw => by go_simp⟩) hHeld ?_; refine wT 3 (.int .i64 n) rfl (Or.inl ⟨by rfl, fun w' hSw => by go_simp⟩) hHeld ?_
 try simp only [Act.put, jR, jR0, jR1, jR2, jR3, jR4]
 refine wR 4 rfl (fun K hK => ?_); go_simp; refine HD.mono ?_; rintro e w1 ⟨rfl, hb⟩; have HB := hid (jBF hb); clear hb; refine hK.out _ _ trivial (fun hHeld => ?_); clear hK K; refine wR 5 rfl (fun K hK => ?_); go_simp; refine (jF8 (SV.below HX.out HB.out) (Lib.itoa n) (by have := HL.out; omega)).mono ?_; rintro e w2 ⟨⟨v, rfl⟩, h1, hb, hk, hkk⟩; refine hK.out _ _ trivial (fun hHeld => ?_); clear hK K; refine wpAnyH_done (by kernel_rfl) ?_ _; go_wp2_with fail
 go_end0
 have HBK := HB.out; obtain ⟨cs, wv, g1, g2, g3⟩ := HX.out; exact ⟨rfl, h1, (HBK.mono HLO.out).trans hb, (jC3.below HBK).trans hk, (Keep.below HBK).trans hkk⟩
theorem jCC (av : Value) (l : List (List UInt8)) (w : World) (h : jAI 1 jD8 w av l) (hn : l.length <= 1000000) :
 Calls Tryz.prog 56 #[av] w fun e w' => ∃ rv vs, e = .returned rv /\ Below w.heap.size w w' /\ w'.ownsRow w.heap.size 125 1 rv l.length vs /\ Reps (fun v s => jAG w w' v (.word s)) vs l := by
 obtain ⟨q, c, rfl⟩ := h.len; go_enter Tryz.func56, Tryz.ntmps56; go_wp2_with fail; refine (jJD jD8 (fun u x hu => ⟨_, hu⟩) _ l 71 w h hn).mono ?_; rintro e w1 ⟨rv, vs, rfl, hb, hown, hr⟩; go_wp2_with fail; go_ret; exact ⟨rv, vs, rfl, hb, hown, hr⟩
end Sw
namespace Sw
theorem jJU (row : World -> Value -> Prop) (q : Option Addr) (n c g : Nat) (w : World) (hr : ∀ w', Keep w w' -> row w' (.slice q n c)) :
 Calls Tryz.prog 100 #[.slice q n c, .func (.func g) #[] #[]] w fun e w' => ∃ rv u, e = .returned rv /\ Below w.heap.size w w' /\ w'.ownsRow w.heap.size 125 1 rv 1 [u] /\ CloL 133 33 173 g row w' u := by
 have HR := hid hr; clear hr; go_enter Tryz.func100, Tryz.ntmps100; go_wp2_with fail; have e0 := hid (jA3 w #[.slice q n c] 33); have e1 := hid (jA3 (w.alloc (.cells #[.slice q n c] 33)) #[.func (.func g) #[] #[]] 173); rw [World.size_alloc] at e1; have HB := hid (((Below.refl w.heap.size w).alloc (Nat.le_refl _) (.cells #[.slice q n c] 33)).alloc (by simp) (.cells #[.func (.func g) #[] #[]] 173)); have e0' := hid (jA2 e0.out (.cells #[.func (.func g) #[] #[]] 173)); have hs : ((w.alloc (.cells #[.slice q n c] 33)).alloc (.cells #[.func (.func g) #[] #[]] 173)).heap.size = w.heap.size + 2 := by simp
 go_ret; have hl := World.ownsRow_lit (base := w.heap.size) (e := 125) (size := 1) ((w.alloc (.cells #[.slice q n c] 33)).alloc (.cells #[.func (.func g) #[] #[]] 173)) #[.func (.func 133) #[] #[.pointer (some ⟨w.heap.size, 0, none⟩), .pointer (some ⟨w.heap.size + 1, 0, none⟩)]] 1 (by rw [hs]; omega) (by unfold maxLen; omega) rfl; rw [hs] at hl; generalize (w.alloc (.cells #[.slice q n c] 33)).alloc (.cells #[.func (.func g) #[] #[]] 173) = w1 at *; have hb3 : Below w.heap.size w (w1.alloc (.cells #[.func (.func 133) #[] #[.pointer (some ⟨w.heap.size, 0, none⟩), .pointer (some ⟨w.heap.size + 1, 0, none⟩)]] 125)) := HB.out.alloc (by omega) _; exact ⟨_, _, rfl, hb3, hl, _, _, _, _, _, rfl, jA2 e0'.out _, jA2 e1.out _, HR.out _ (Keep.below hb3)⟩
theorem jJ (row : World -> Value -> Prop) (q : Option Addr) (n c g : Nat) (w : World) (hr : ∀ w', Keep w w' -> row w' (.slice q n c)) :
 Calls Tryz.prog 67 #[.slice q n c, .func (.func g) #[] #[]] w fun e w' => ∃ rv u, e = .returned rv /\ Below w.heap.size w w' /\ w'.ownsRow w.heap.size 125 1 rv 1 [u] /\ CloL 105 137 143 g row w' u := by
 have HR := hid hr; clear hr; go_enter Tryz.func67, Tryz.ntmps67; go_wp2_with fail; have e0 := hid (jA3 w #[.slice q n c] 137); have e1 := hid (jA3 (w.alloc (.cells #[.slice q n c] 137)) #[.func (.func g) #[] #[]] 143); rw [World.size_alloc] at e1; have HB := hid (((Below.refl w.heap.size w).alloc (Nat.le_refl _) (.cells #[.slice q n c] 137)).alloc (by simp) (.cells #[.func (.func g) #[] #[]] 143)); have e0' := hid (jA2 e0.out (.cells #[.func (.func g) #[] #[]] 143)); have hs : ((w.alloc (.cells #[.slice q n c] 137)).alloc (.cells #[.func (.func g) #[] #[]] 143)).heap.size = w.heap.size + 2 := by simp
 go_ret; have hl := World.ownsRow_lit (base := w.heap.size) (e := 125) (size := 1) ((w.alloc (.cells #[.slice q n c] 137)).alloc (.cells #[.func (.func g) #[] #[]] 143)) #[.func (.func 105) #[] #[.pointer (some ⟨w.heap.size, 0, none⟩), .pointer (some ⟨w.heap.size + 1, 0, none⟩)]] 1 (by rw [hs]; omega) (by unfold maxLen; omega) rfl; rw [hs] at hl; generalize (w.alloc (.cells #[.slice q n c] 137)).alloc (.cells #[.func (.func g) #[] #[]] 143) = w1 at *; have hb3 : Below w.heap.size w (w1.alloc (.cells #[.func (.func 105) #[] #[.pointer (some ⟨w.heap.size, 0, none⟩), .pointer (some ⟨w.heap.size + 1, 0, none⟩)]] 125)) := HB.out.alloc (by omega) _; exact ⟨_, _, rfl, hb3, hl, _, _, _, _, _, rfl, jA2 e0'.out _, jA2 e1.out _, HR.out _ (Keep.below hb3)⟩
theorem jDS (q : Option Addr) (n c : Nat) (l : List (List UInt8)) (w0 w : World) (h : jAI 1 jD8 w0 (.slice q n c) l) :
 Calls Tryz.prog 57 #[.slice q n c] w fun e w' => ∃ rv u, e = .returned rv /\ Below w.heap.size w w' /\ w'.ownsRow w.heap.size 125 1 rv 1 [u] /\ jAG w0 w' u (.names l) := by
 go_enter Tryz.func57, Tryz.ntmps57; go_wp2_with fail; refine (jJU (fun u v => jAI 1 jD8 w0 v l) q n c 71 w (fun _ _ => h)).mono ?_; rintro e w1 ⟨rv, u, rfl, hb, hown, hr⟩; go_wp2_with fail; go_ret; exact ⟨rv, u, rfl, hb, hown, hr⟩
end Sw
namespace Sw
def VRow (lo : Nat) (w : World) (v : Value) (l : List Value) : Prop :=
 (∀ u ∈ l, u.oneCell' = true) /\ ((l = [] /\ ∃ p c, v = .slice p 0 c) \/ ∃ g o c cur, v = .slice (some ⟨g, o, none⟩) l.length c /\ lo <= g /\ l.length <= c /\ (c : Int) <= 9223372036854775807 /\ w.heap[g]? = some (.cells cur 125 (0, 0)) /\ ∀ i x, l[i]? = some x -> cur[o + i]? = some x)
theorem VRow.len {lo : Nat} {w : World} {v : Value} {l : List Value} (h : VRow lo w v l) : ∃ p c, v = .slice p l.length c := by
 rcases h.2 with ⟨rfl, p, c, rfl⟩ | ⟨g, o, c, cur, h, _⟩
 . exact ⟨p, c, rfl⟩
 . exact ⟨_, c, h⟩
theorem VRow.keep {lo : Nat} {w w' : World} {v : Value} {l : List Value} (h : VRow lo w v l) (hk : ∀ g cur, lo <= g -> w.heap[g]? = some (.cells cur 125 (0, 0)) -> w'.heap[g]? = some (.cells cur 125 (0, 0))) : VRow lo w' v l := by
 refine ⟨h.1, ?_⟩
 rcases h.2 with h | ⟨g, o, c, cur, a1, a2, a3, a4, a5, a6⟩
 . exact .inl h
 . exact .inr ⟨g, o, c, cur, a1, a2, a3, a4, hk g cur a2 a5, a6⟩
theorem VRow.below {lo : Nat} {w w' : World} {v : Value} {l : List Value} (h : VRow lo w v l) (hb : Below w.heap.size w w') : VRow lo w' v l := h.keep fun _ _ _ hg => jA0 hg hb
def GRow (lo : Nat) (w : World) (v : Value) (ls : List (List Value)) : Prop :=
 ∃ g c cs, v = .slice (some ⟨g, 0, none⟩) ls.length c /\ lo <= g /\ ls.length <= c /\ (c : Int) <= 9223372036854775807 /\ w.heap[g]? = some (.cells cs 120 (0, 0)) /\ ∀ (i : Nat) (l : List Value), ls[i]? = some l -> ∃ u : Value, cs[i]? = some u /\ VRow lo w u l
theorem GRow.row {lo : Nat} {w : World} {v : Value} {ls : List (List Value)} (h : GRow lo w v ls) : jAI 1 (VRow lo w) w v ls := by
 obtain ⟨g, c, cs, h1, h2, h3, h4, h5, h6⟩ := h; refine .inr ⟨g, 0, c, h1, h3, h4, fun i x hx => ?_⟩; obtain ⟨u, hu, hv⟩ := h6 i x hx; obtain ⟨p, d, rfl⟩ := hv.len; refine ⟨_, hv, rfl, fun j z hz => ?_⟩
 have hj : j = 0 := by
  have := (Array.getElem?_eq_some_iff.1 hz).1; simp [Value.cells] at this; exact this
 subst hj; have hz' : z = .slice p x.length d := by simpa [Value.cells] using hz.symm
 subst hz'
 simpa using jA h5 i _ hu
theorem GRow.keep {lo : Nat} {w w' : World} {v : Value} {ls : List (List Value)} (h : GRow lo w v ls) (hk : ∀ g cur E, lo <= g -> E = 125 \/ E = 120 -> w.heap[g]? = some (.cells cur E (0, 0)) -> w'.heap[g]? = some (.cells cur E (0, 0))) : GRow lo w' v ls := by
 obtain ⟨g, c, cs, h1, h2, h3, h4, h5, h6⟩ := h; exact ⟨g, c, cs, h1, h2, h3, h4, hk g cs _ h2 (.inr rfl) h5, fun i l hl => let ⟨u, hu, hv⟩ := h6 i l hl; ⟨u, hu, hv.keep fun g cur hg he => hk g cur _ hg (.inl rfl) he⟩⟩
theorem jP8 (g o j : Nat) : (⟨g, o, none⟩ : Addr).add j = ⟨g, o + j, none⟩ := by unfold Addr.add; split <;> simp_all
theorem own_vrow {lo : Nat} {w : World} {v : Value} {n : Nat} {l : List Value} (h : w.ownsRow lo 125 1 v n l) (h1 : ∀ u ∈ l, u.oneCell' = true) : VRow lo w v l := by
 have hl : l.length = n := by have := h.1; simpa using this
 subst hl; refine ⟨h1, ?_⟩
 rcases h.2 with ⟨rfl, hn⟩ | ⟨g, cap, cur, rfl, a1, a2, a3, a4, a5⟩
 . exact .inl ⟨List.eq_nil_of_length_eq_zero hn, none, 0, rfl⟩
 . refine .inr ⟨g, 0, cap, cur, rfl, a1, a3, by unfold maxLen at a4; omega, a2, fun i x hx => ?_⟩; have hi := (List.getElem?_eq_some_iff.1 hx).1; rw [<- a5.2, List.getElem?_take_of_lt (by omega), Array.getElem?_toList] at hx; rw [Nat.zero_add]; exact hx
theorem jHS (w : World) (base : Nat) (t ty e : TypeId) (i : TypeInfo) (size : Nat) (ht : Tryz.prog.underlying t = some (.slice e)) (hi : Tryz.prog.info? e = some i)
 (v : Value) (n : Nat) (xs : List Value) (hown : w.ownsRow base e size v n xs) (q : Option Addr) (c : Nat) : (Builtin.append_ #[t, t] ty #[v, .slice q 0 c]).run Tryz.prog w = .ok v w := by
 have hfc : ∀ q : Option Addr, (Builtin.firstCells i.size 0 (.slice q 0 c)).run Tryz.prog w = .ok #[] w := by
  intro q; cases q <;> simp [Builtin.firstCells, loadCells, loadCellsFrom]
 rcases hown.2 with ⟨rfl, rfl⟩ | ⟨g, cap, cur, rfl, hbg, hg, hnc, hcm, hcs, htake⟩
 . simp [Builtin.append_, run_underlying ht, sizeOf, typeInfo, hi, Builtin.lenOf, hfc]
 . simp [Builtin.append_, run_underlying ht, sizeOf, typeInfo, hi, Builtin.lenOf, hfc, hnc, storeCells]
theorem jL0 (w : World) (base ty lo : Nat) (v : Value) (n : Nat) (xs : List Value) (hown : w.ownsRow base 125 1 v n xs) (xv : Value) (l : List Value) (hrow : VRow lo w xv l) (h63 : n + l.length <= 1000000000) (hbase : base <= w.heap.size) :
 ∃ v' w', (Builtin.append_ #[120, 120] ty #[v, xv]).run Tryz.prog w = .ok v' w' /\ w'.ownsRow base 125 1 v' (n + l.length) (xs ++ l) /\ w.grownBy w' v.ownBlock /\ (v'.ownBlock = v.ownBlock \/ ∀ g, v'.ownBlock = some g -> w.heap.size <= g) := by
 obtain ⟨i0, hi, hz0, hz1, hz2⟩ := info_parts (show (Tryz.prog.info? 125).map (fun i => (i.zero, i.size, i.bytes)) = some (some .nilFunc, 1, 8) by kernel_rfl); by_cases hl : l = []
 . subst hl; obtain ⟨q, c, rfl⟩ := hrow.len; exact ⟨v, w, jHS w base _ ty _ i0 1 Tryz.underlying120 hi v n xs hown q c, by simpa using hown, ⟨rfl, rfl, rfl, Nat.le_refl _, fun _ _ _ => rfl⟩, .inl rfl⟩
 . rcases hrow.2 with ⟨h0, _⟩ | ⟨g, o, c, cur, rfl, _, _, _, h3, h4⟩
   . exact absurd h0 hl
   exact jDK w base _ ty _ i0 .nilFunc 1 8 Tryz.underlying120 hi hz0 hz1 hz2 rfl (by decide) v n xs hown ⟨g, o, none⟩ l.length c (List.length_pos_iff.2 hl) l (by simp) (fun j u hj => by rw [jP8]; exact jA h3 _ _ (h4 j u hj)) hrow.1 (by unfold maxLen; omega) (by omega) hbase
theorem jHR {w : World} {ops : Array Oper} {rest : List Oper} {o : Oper} {a : Act} {Q : Exit -> Act -> World -> Prop} (hgd : o.guard = none) (s x : Operand)
 (ho : o.op = .call { callee := .builtin .append, args := #[s, x], argTypes := #[120, 120] }) (base lo : Nat) (v : Value) (n : Nat) (xs : List Value) (hs : a.eval s = v) (hown : w.ownsRow base 125 1 v n xs)
 (xv : Value) (hx : a.eval x = xv) (l : List Value) (hrow : VRow lo w xv l) (h63 : n + l.length <= 1000000000) (hbase : base <= w.heap.size)
 (h : ∀ v' w', w'.ownsRow base 125 1 v' (n + l.length) (xs ++ l) -> w.grownBy w' v.ownBlock -> (v'.ownBlock = v.ownBlock \/ ∀ g, v'.ownBlock = some g -> w.heap.size <= g) -> wpList Tryz.prog ops Q rest (a.put o.dst v') w') : wpList Tryz.prog ops Q (o :: rest) a w := by
 refine wpList_plain hgd fun K hK => ?_
 obtain ⟨v', w', hr, h2, h3, h4⟩ := jL0 w base o.type lo v n xs hown xv l hrow h63 hbase; unfold Oper.wp execOp; simp only [ho, resolve, invoke, builtin, Sem.run_bind, Sem.run_pure, Result.andThen_ok, List.map_toArray, List.map_cons, List.map_nil, hs, hx, hr]; exact hK _ _ (h v' w' h2 h3 h4)
theorem grow_any (n : Nat) (hn : n <= 1000000) (w : World) :
 Calls Tryz.prog 131 #[.slice none 0 0, .int .i64 n] w fun e w' => ∃ rv, e = .returned rv /\ Below w.heap.size w w' /\ w'.ownsRow w.heap.size 125 1 rv 0 [] := by
 obtain ⟨i0, hi, hz0, hz1, hz2⟩ := info_parts (show (Tryz.prog.info? 125).map (fun i => (i.zero, i.size, i.bytes)) = some (some .nilFunc, 1, 8) by kernel_rfl); have h1 : ¬ ((n : Int) < 0) := by omega
 have h3 : wrap64 ((n : Int)) = (n : Int) := by unfold wrap64; omega
 go_enter Tryz.func131, Tryz.ntmps131; by_cases h0 : n = 0
 . subst h0; go_wp2_with fail; go_ret; exact ⟨_, rfl, Below.refl _ _, World.ownsRow_nil _ _ _ _⟩
 . have h4 : (n : Int) > 0 := by omega
   have hr := fun ty => Lib.run_append_nil_zeros (P := Tryz.prog) w 120 3 ty 125 i0 .nilFunc .i64 .i64 Tryz.underlying120 Tryz.underlying3 hi hz0 n (by omega) (by omega) (by omega) (by rw [hz2]; omega)
   have hcap : grownCap w n 0 125 <= maxLen := grownCap_le_maxLen _ _ _ _ (by unfold maxLen; omega); have hge : n <= grownCap w n 0 125 := grownCap_ge _ _ _ _; have hm : maxLen <= 9223372036854775807 := by unfold maxLen; decide
   obtain ⟨c, hc⟩ : ∃ c, c = grownCap w n 0 125 := ⟨_, rfl⟩
   rw [<- hc] at hcap hge hr; have hc1 : (0 : Int) <= (c : Int) := by omega
   have HR := hid hr; have HC := hid hcap; have HG := hid hge; clear hr hc hcap hge; go_wp2_with (at_builtin; refine Lib.wpList_append_run _ rfl _ _ _ _ rfl _ _ rfl rfl _ _ (HR.out _) ?_); go_ret
   have hcs : (Builtin.zeroCells #[Value.nilFunc] n ++ Builtin.zeroCells #[Value.nilFunc] (c - n)).size = c := by
    have := HG.out; simp [Builtin.zeroCells]; omega
   refine ⟨_, rfl, (Below.drew (Below.refl _ w)).alloc (Nat.le_refl _) _, ⟨rfl, .inr ⟨w.heap.size, c, _, rfl, Nat.le_refl _, heap_alloc_new w.drew _, Nat.zero_le _, HC.out, by rw [hcs]; simp, by simp⟩⟩⟩
end Sw
end Go.Proofs.YtnhndamfbeiljaaGreatDoor
