/-
  Several texts in one: PProgA.
-/
import Derived.Test.YtnhndamfbeiljaaGreatDoorU00
import Derived.Test.YtnhndamfbeiljaaGreatDoorU09
import Derived.Test.YtnhndamfbeiljaaGreatDoorU12
set_option linter.unusedVariables false
set_option linter.unusedSimpArgs false
set_option maxHeartbeats 4000000
set_option maxRecDepth 100000
namespace Go.Proofs.YtnhndamfbeiljaaGreatDoor
open Go Go.RowKit
open Go.Lib (hid)
open List renaming getElem_toArray → jPC, getElem_cons_succ → jPD, getElem_cons_zero → jPE, setIfInBounds_toArray → jPF, set_cons_zero → jPG, set_cons_succ → jPH
theorem infoData : (Tryz.prog.info? 36).map (fun i => (i.zero, i.size, i.bytes)) = some (some (.agg #[.int .i64 0, .string ⟨#[]⟩, .slice none 0 0, .slice none 0 0]), 4, 72) := by kernel_rfl
theorem infoDef : (Tryz.prog.info? 49).map (fun i => (i.zero, i.size, i.bytes)) = some (some (.agg #[.int .i64 0, .string ⟨#[]⟩, .slice none 0 0, .int .i64 0, .int .i64 0, .string ⟨#[]⟩, .int .i64 0, .slice none 0 0, .slice none 0 0, .slice none 0 0]), 10, 160) := by kernel_rfl
theorem jHI (w : World) (x0 x1 x2 x3 : Value) (T : TypeId) (j : Nat) (u : Value) (h : ([x0, x1, x2, x3] : List Value)[j]? = some u) :
 (w.alloc (.cells #[x0, x1, x2, x3] T)).cell? ((⟨w.heap.size, 0, none⟩ : Addr).add j) = some u := by
 have e : (⟨w.heap.size, 0, none⟩ : Addr).add j = ⟨w.heap.size, j, none⟩ := by unfold Addr.add; split <;> simp_all
 rw [e, World.cell?_alloc_mark]; simpa using h
theorem jK8 (w : World) (x0 x1 x2 x3 x4 x5 x6 x7 x8 x9 : Value) (T : TypeId) (j : Nat) (u : Value) (h : ([x0, x1, x2, x3, x4, x5, x6, x7, x8, x9] : List Value)[j]? = some u) :
 (w.alloc (.cells #[x0, x1, x2, x3, x4, x5, x6, x7, x8, x9] T)).cell? ((⟨w.heap.size, 0, none⟩ : Addr).add j) = some u := by
 have e : (⟨w.heap.size, 0, none⟩ : Addr).add j = ⟨w.heap.size, j, none⟩ := by unfold Addr.add; split <;> simp_all
 rw [e, World.cell?_alloc_mark]; simpa using h
def jGF (f : Nat) (u : World) (v : Value) (x : Px.Prog) : Prop := ∃ dv fv, v = .agg #[dv, fv] /\ jAI 4 (jD2 f u) u dv x.datas /\ jAI 10 (jG5 f u) u fv x.defs
theorem jFT (f : Nat) (w : World) (v : Value) (x : Px.Data) (h : jD2 f w v x) : ∃ (p : Int) (s : ByteArray) (q1 : Option Addr) (n1 c1 : Nat) (q2 : Option Addr) (n2 c2 : Nat), v = .agg #[.int .i64 p, .string s, .slice q1 n1 c1, .slice q2 n2 c2] := by
 obtain ⟨nv, cv, rfl, h1, h2⟩ := h; obtain ⟨q1, c1, rfl⟩ := h1.len; obtain ⟨q2, c2, rfl⟩ := h2.len; exact ⟨_, _, _, _, _, _, _, _, rfl⟩
theorem jGC (f : Nat) (w : World) (v : Value) (x : Px.Def) (h : jG5 f w v x) : ∃ (p : Int) (s : ByteArray) (q0 : Option Addr) (n0 c0 : Nat) (k xp i : Int) (t : ByteArray) (q1 : Option Addr) (n1 c1 : Nat) (q2 : Option Addr) (n2 c2 : Nat) (q3 : Option Addr) (n3 c3 : Nat),
 v = .agg #[.int .i64 p, .string s, .slice q0 n0 c0, .int .i64 k, .int .i64 xp, .string t, .int .i64 i, .slice q1 n1 c1, .slice q2 n2 c2, .slice q3 n3 c3] := by
 obtain ⟨nv, b0, b1, b2, b3, b4, b5, b6, rfl, h1, h2⟩ := h; obtain ⟨q0, c0, rfl⟩ := h1.len; obtain ⟨k, xp, i, t, q1, n1, c1, q2, n2, c2, q3, n3, c3, e⟩ := jAP f w _ _ h2; simp only [Value.agg.injEq, Array.mk.injEq, List.cons.injEq, and_true] at e; obtain ⟨rfl, rfl, rfl, rfl, rfl, rfl, rfl⟩ := e; exact ⟨_, _, _, _, _, _, _, _, _, _, _, _, _, _, _, _, _, _, rfl⟩
def jCN (stop : Nat) (all : List Lx.Tok) (F c : Nat) (ts : List Lx.Tok) (ds : List Px.Data) (fs : List Px.Def) : Prop :=
 Px.prog stop (all.length + 1) 0 all = match Px.prog stop F c ts with | .error p => .error p | .ok q => .ok ⟨ds ++ q.datas, fs ++ q.defs⟩
theorem jCN.start (stop : Nat) (all : List Lx.Tok) : jCN stop all (all.length + 1) 0 all [] [] := by
 unfold jCN; cases Px.prog stop (all.length + 1) 0 all with
 | error p => rfl
 | ok q => rfl
theorem jCN.nil {stop F c : Nat} {all : List Lx.Tok} {ds : List Px.Data} {fs : List Px.Def} (h : jCN stop all (F + 1) c [] ds fs) : Px.prog stop (all.length + 1) 0 all = .ok ⟨ds, fs⟩ := by
 unfold jCN at h; rw [h, Px.prog]; simp
theorem jCN.bad {stop F c p : Nat} {all ts : List Lx.Tok} {ds : List Px.Data} {fs : List Px.Def} (h : jCN stop all F c ts ds fs) (hp : Px.prog stop F c ts = .error p) : Px.prog stop (all.length + 1) 0 all = .error p := by
 unfold jCN at h; rw [h, hp]
theorem jCN.data {stop F c : Nat} {all ts tt : List Lx.Tok} {t : Lx.Tok} {n : Px.Node} {d : Px.Data} {ds : List Px.Data} {fs : List Px.Def} (h : jCN stop all (F + 1) c (t :: ts) ds fs)
 (hn : Px.node stop (2 * (t :: ts).length + 2) 0 (t :: ts) = .ok (n, tt)) (hc : c ≠ 100) (hw : Px.word n = [100, 97, 116, 97]) (hd : Px.data 50 n = .ok d) : jCN stop all F (c + 1) tt (ds ++ [d]) fs := by
 unfold jCN at *; rw [h, Px.prog]
 case x_3 => simp
 simp only [hn, hc, hw, hd, if_true, if_false]; cases Px.prog stop F (c + 1) tt with
 | error p => rfl
 | ok q => simp
theorem jCN.defn {stop F c : Nat} {all ts tt : List Lx.Tok} {t : Lx.Tok} {n : Px.Node} {d : Px.Def} {ds : List Px.Data} {fs : List Px.Def} (h : jCN stop all (F + 1) c (t :: ts) ds fs)
 (hn : Px.node stop (2 * (t :: ts).length + 2) 0 (t :: ts) = .ok (n, tt)) (hc : c ≠ 100) (hw : Px.word n = [100, 101, 102]) (hd : Px.defn 50 n = .ok d) : jCN stop all F (c + 1) tt ds (fs ++ [d]) := by
 unfold jCN at *; rw [h, Px.prog]
 case x_3 => simp
 have hne : ¬ Px.word n = [100, 97, 116, 97] := by rw [hw]; decide
 simp only [hn, hc, hw, hd, if_true, if_false]; cases Px.prog stop F (c + 1) tt with
 | error p => rfl
 | ok q => simp
end Go.Proofs.YtnhndamfbeiljaaGreatDoor
