/-
  Several texts in one: PProgA.
-/
import Derived.Test.YtnhndamfbeiljaaGreatDoorT00
import Derived.Test.YtnhndamfbeiljaaGreatDoorT10
import Derived.Test.YtnhndamfbeiljaaGreatDoorT13
set_option linter.unusedVariables false
set_option linter.unusedSimpArgs false
set_option maxHeartbeats 4000000
set_option maxRecDepth 100000
namespace Go.Proofs.YtnhndamfbeiljaaGreatDoor
open Go Go.RowKit
open Go.Lib (hid)
open List renaming getElem_toArray → jR, getElem_cons_succ → jR0, getElem_cons_zero → jR1, setIfInBounds_toArray → jR2, set_cons_zero → jR3, set_cons_succ → jR4
theorem infoData : (Tryz.prog.info? 36).map (fun i => (i.zero, i.size, i.bytes)) = some (some (.agg #[.int .i64 0, .string ⟨#[]⟩, .slice none 0 0, .slice none 0 0]), 4, 72) := by kernel_rfl
theorem infoDef : (Tryz.prog.info? 49).map (fun i => (i.zero, i.size, i.bytes)) = some (some (.agg #[.int .i64 0, .string ⟨#[]⟩, .slice none 0 0, .int .i64 0, .int .i64 0, .string ⟨#[]⟩, .int .i64 0, .slice none 0 0, .slice none 0 0, .slice none 0 0]), 10, 160) := by kernel_rfl
theorem jI (w : World) (x0 x1 x2 x3 : Value) (T : TypeId) (j : Nat) (u : Value) (h : ([x0, x1, x2, x3] : List Value)[j]? = some u) :
 (w.alloc (.cells #[x0, x1, x2, x3] T)).cell? ((⟨w.heap.size, 0, none⟩ : Addr).add j) = some u := by
 have e : (⟨w.heap.size, 0, none⟩ : Addr).add j = ⟨w.heap.size, j, none⟩ := by unfold Addr.add; split <;> simp_all
 rw [e, World.cell?_alloc_mark]; simpa using h
theorem jLB (w : World) (x0 x1 x2 x3 x4 x5 x6 x7 x8 x9 : Value) (T : TypeId) (j : Nat) (u : Value) (h : ([x0, x1, x2, x3, x4, x5, x6, x7, x8, x9] : List Value)[j]? = some u) :
 (w.alloc (.cells #[x0, x1, x2, x3, x4, x5, x6, x7, x8, x9] T)).cell? ((⟨w.heap.size, 0, none⟩ : Addr).add j) = some u := by
 have e : (⟨w.heap.size, 0, none⟩ : Addr).add j = ⟨w.heap.size, j, none⟩ := by unfold Addr.add; split <;> simp_all
 rw [e, World.cell?_alloc_mark]; simpa using h
def jER (f : Nat) (u : World) (v : Value) (x : Px.Prog) : Prop := ∃ dv fv, v = .agg #[dv, fv] /\ jAI 4 (jD5 f u) u dv x.datas /\ jAI 10 (jGD f u) u fv x.defs
theorem jEX (f : Nat) (w : World) (v : Value) (x : Px.Data) (h : jD5 f w v x) : ∃ (p : Int) (s : ByteArray) (q1 : Option Addr) (n1 c1 : Nat) (q2 : Option Addr) (n2 c2 : Nat), v = .agg #[.int .i64 p, .string s, .slice q1 n1 c1, .slice q2 n2 c2] := by
 obtain ⟨nv, cv, rfl, h1, h2⟩ := h; obtain ⟨q1, c1, rfl⟩ := h1.len; obtain ⟨q2, c2, rfl⟩ := h2.len; exact ⟨_, _, _, _, _, _, _, _, rfl⟩
theorem jFK (f : Nat) (w : World) (v : Value) (x : Px.Def) (h : jGD f w v x) : ∃ (p : Int) (s : ByteArray) (q0 : Option Addr) (n0 c0 : Nat) (k xp i : Int) (t : ByteArray) (q1 : Option Addr) (n1 c1 : Nat) (q2 : Option Addr) (n2 c2 : Nat) (q3 : Option Addr) (n3 c3 : Nat),
 v = .agg #[.int .i64 p, .string s, .slice q0 n0 c0, .int .i64 k, .int .i64 xp, .string t, .int .i64 i, .slice q1 n1 c1, .slice q2 n2 c2, .slice q3 n3 c3] := by
 obtain ⟨nv, b0, b1, b2, b3, b4, b5, b6, rfl, h1, h2⟩ := h; obtain ⟨q0, c0, rfl⟩ := h1.len; obtain ⟨k, xp, i, t, q1, n1, c1, q2, n2, c2, q3, n3, c3, e⟩ := jAU f w _ _ h2; simp only [Value.agg.injEq, Array.mk.injEq, List.cons.injEq, and_true] at e; obtain ⟨rfl, rfl, rfl, rfl, rfl, rfl, rfl⟩ := e; exact ⟨_, _, _, _, _, _, _, _, _, _, _, _, _, _, _, _, _, _, rfl⟩
def jCP (stop : Nat) (all : List Lx.Tok) (F c : Nat) (ts : List Lx.Tok) (ds : List Px.Data) (fs : List Px.Def) : Prop :=
 Px.prog stop (all.length + 1) 0 all = match Px.prog stop F c ts with | .error p => .error p | .ok q => .ok ⟨ds ++ q.datas, fs ++ q.defs⟩
theorem jCP.start (stop : Nat) (all : List Lx.Tok) : jCP stop all (all.length + 1) 0 all [] [] := by
 unfold jCP; cases Px.prog stop (all.length + 1) 0 all with
 | error p => rfl
 | ok q => rfl
theorem jCP.nil {stop F c : Nat} {all : List Lx.Tok} {ds : List Px.Data} {fs : List Px.Def} (h : jCP stop all (F + 1) c [] ds fs) : Px.prog stop (all.length + 1) 0 all = .ok ⟨ds, fs⟩ := by
 unfold jCP at h; rw [h, Px.prog]; simp
theorem jCP.bad {stop F c p : Nat} {all ts : List Lx.Tok} {ds : List Px.Data} {fs : List Px.Def} (h : jCP stop all F c ts ds fs) (hp : Px.prog stop F c ts = .error p) : Px.prog stop (all.length + 1) 0 all = .error p := by
 unfold jCP at h; rw [h, hp]
theorem jCP.data {stop F c : Nat} {all ts tt : List Lx.Tok} {t : Lx.Tok} {n : Px.Node} {d : Px.Data} {ds : List Px.Data} {fs : List Px.Def} (h : jCP stop all (F + 1) c (t :: ts) ds fs)
 (hn : Px.node stop (2 * (t :: ts).length + 2) 0 (t :: ts) = .ok (n, tt)) (hc : c ≠ 100) (hw : Px.word n = [100, 97, 116, 97]) (hd : Px.data 50 n = .ok d) : jCP stop all F (c + 1) tt (ds ++ [d]) fs := by
 unfold jCP at *; rw [h, Px.prog]
 case x_3 => simp
 simp only [hn, hc, hw, hd, if_true, if_false]; cases Px.prog stop F (c + 1) tt with
 | error p => rfl
 | ok q => simp
theorem jCP.defn {stop F c : Nat} {all ts tt : List Lx.Tok} {t : Lx.Tok} {n : Px.Node} {d : Px.Def} {ds : List Px.Data} {fs : List Px.Def} (h : jCP stop all (F + 1) c (t :: ts) ds fs)
 (hn : Px.node stop (2 * (t :: ts).length + 2) 0 (t :: ts) = .ok (n, tt)) (hc : c ≠ 100) (hw : Px.word n = [100, 101, 102]) (hd : Px.defn 50 n = .ok d) : jCP stop all F (c + 1) tt ds (fs ++ [d]) := by
 unfold jCP at *; rw [h, Px.prog]
 case x_3 => simp
 have hne : ¬ Px.word n = [100, 97, 116, 97] := by rw [hw]; decide
 simp only [hn, hc, hw, hd, if_true, if_false]; cases Px.prog stop F (c + 1) tt with
 | error p => rfl
 | ok q => simp
end Go.Proofs.YtnhndamfbeiljaaGreatDoor
