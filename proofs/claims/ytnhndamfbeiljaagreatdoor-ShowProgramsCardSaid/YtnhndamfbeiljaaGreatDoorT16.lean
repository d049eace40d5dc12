/-
  Several texts in one: PToks, PExprOf, PProgOf, PJoin, PText, PShowNum, PShown.
-/
import Derived.Test.YtnhndamfbeiljaaGreatDoorT00
import Derived.Test.YtnhndamfbeiljaaGreatDoorT04
import Derived.Test.YtnhndamfbeiljaaGreatDoorT01
import Derived.Test.YtnhndamfbeiljaaGreatDoorT13
import Derived.Recover
import Derived.BigRegion
import Derived.Deep.DeepCutAuto
import Derived.Test.YtnhndamfbeiljaaGreatDoorT10
import Derived.Test.YtnhndamfbeiljaaGreatDoorT15
import Derived.Test.YtnhndamfbeiljaaGreatDoorT05
import Derived.Test.YtnhndamfbeiljaaGreatDoorT03
import Derived.Lib.AppendIntMem
import Derived.Stop.LaidErr
set_option linter.unusedVariables false
set_option linter.unusedSimpArgs false
set_option maxHeartbeats 4000000
set_option maxRecDepth 100000
namespace Go.Proofs.YtnhndamfbeiljaaGreatDoor
open Go Go.RowKit
open Go.Lib (hid)
open List renaming getElem_toArray → jR, getElem_cons_succ → jR0, getElem_cons_zero → jR1, setIfInBounds_toArray → jR2, set_cons_zero → jR3, set_cons_succ → jR4
theorem jQ8 {w : World} {base : Nat} {v : Value} {ts : List Lx.Tok} (h : w.ownsRow base 102 4 v ts.length (jBP ts)) (hne : ts ≠ []) :
 ∃ g cap, v = .slice (some ⟨g, 0, none⟩) ts.length cap /\ base <= g /\ g < w.heap.size /\ ts.length <= cap /\ (cap : Int) <= 9223372036854775807 /\
  ∀ i t, ts[i]? = some t -> w.cell? ⟨g, i * 4, none⟩ = some (.int .i64 t.kind) /\ w.cell? ⟨g, i * 4 + 1, none⟩ = some (.int .i64 t.pos) /\ w.cell? ⟨g, i * 4 + 2, none⟩ = some (.string ⟨t.text.toArray⟩) /\ w.cell? ⟨g, i * 4 + 3, none⟩ = some (.int .i64 t.int) := by
 obtain ⟨hlen, h0 | ⟨g, cap, cur, rfl, hb, hh, hn, hm, hsz, htk⟩⟩ := h
 . exact absurd (List.eq_nil_of_length_eq_zero h0.2) hne
 . refine ⟨g, cap, rfl, hb, ?_, hn, by unfold maxLen at hm; omega, ?_⟩
   . rcases Nat.lt_or_ge g w.heap.size with h' | h'
     . exact h'
     . rw [Array.getElem?_eq_none h'] at hh; exact absurd hh (by simp)
   . have key : ∀ k u, (jBP ts)[k]? = some u -> w.cell? ⟨g, k, none⟩ = some u := by
      intro k u hk; have := World.ownsRow.cells (w := w) (base := base) (e := 102) (size := 4) (v := .slice (some ⟨g, 0, none⟩) ts.length cap) (n := ts.length) (xs := jBP ts) ⟨hlen, .inr ⟨g, cap, cur, rfl, hb, hh, hn, hm, hsz, htk⟩⟩ (g := g) rfl k u hk; have e : (⟨g, 0, none⟩ : Addr).add k = ⟨g, k, none⟩ := by unfold Addr.add; split <;> simp_all
      rwa [e] at this
     have part : ∀ (ts : List Lx.Tok) i t, ts[i]? = some t -> ∀ j, j < 4 -> (jBP ts)[i * 4 + j]? = (tokCells t)[j]? := by
      intro ts
      induction ts with
      | nil => intro i t h; simp at h
      | cons a r ih =>
        intro i t h j hj; have e : jBP (a :: r) = tokCells a ++ jBP r := by simp [jBP]
        have hl : (tokCells a).length = 4 := rfl; cases i with
        | zero =>
          simp at h; subst h
          rw [e, List.getElem?_append_left (by omega)]; simp
        | succ i =>
          simp at h; rw [e, List.getElem?_append_right (by omega), hl]; have := ih i t h j hj; rw [<- this]; congr 1; omega
     intro i t h; refine ⟨?_, ?_, ?_, ?_⟩
     . exact key _ _ (by have := part ts i t h 0 (by omega); simpa [tokCells] using this)
     . exact key _ _ (by have := part ts i t h 1 (by omega); simpa [tokCells] using this)
     . exact key _ _ (by have := part ts i t h 2 (by omega); simpa [tokCells] using this)
     . exact key _ _ (by have := part ts i t h 3 (by omega); simpa [tokCells] using this)
theorem jIK (w : World) (p : Option Addr) (c : Nat) (ts : List Lx.Tok) (stop B base : Nat) (hown : w.ownsRow base 102 4 (.slice p ts.length c) ts.length (jBP ts)) (hB : w.heap[B]? = some (.map jBN 12)) (hs : ts.length <= 4096) (hst : stop <= 4096) :
 Reader (w.alloc (.cells #[.slice p ts.length c, .int .i64 0, .int .i64 stop, .map (some B)] 100)) w.heap.size (.slice p ts.length c) ts 0 stop B := by
 refine ⟨heap_alloc_new w _, Nat.zero_le _, hs, hst, (Below.heap_alloc w _ B (Array.getElem?_eq_some_iff.1 hB).1).trans hB, p, c, rfl, fun k t hk => ?_⟩; obtain ⟨g, cap, he, _, hg, _, _, hc⟩ := jQ8 hown (by intro e; rw [e] at hk; simp at hk)
 injection he with he1
 obtain ⟨c0, c1, c2, c3⟩ := hc k t hk; have e : ∀ o, (w.alloc (.cells #[.slice p ts.length c, .int .i64 0, .int .i64 stop, .map (some B)] 100)).cell? ⟨g, o, none⟩ = w.cell? ⟨g, o, none⟩ := fun o => World.cell?_of_block (w := w) (a := ⟨g, o, none⟩) (Below.heap_alloc w _ g hg)
 exact ⟨g, he1, by omega, by simp; omega, by rw [e]; exact c0, by rw [e]; exact c1, by rw [e]; exact c2, by rw [e]; exact c3⟩
def jL6 {α : Type} (r : Px.R α) : Px.Outcome α := match r with
 | .error p => .parse p
 | .ok x => .done x
theorem jJN {α : Type} (read : Nat -> List Lx.Tok -> Px.R α) (l : List UInt8) (ts : List Lx.Tok) (h : ¬ 4096 < l.length) (ht : Lx.toks (l.length + 1) 0 l = (ts, none)) : Px.parsed read l = jL6 (read l.length ts) := by
 unfold Px.parsed jL6; rw [if_neg h, ht]; dsimp only; cases read l.length ts <;> rfl
theorem jD6 {w w' : World} {v : Value} {l : List UInt8} (h : SliceAt w v l) (hb : Below w.heap.size w w') : SliceAt w' v l := by
 rcases h with h | ⟨b, off, cap, h1, h2, h3, h4⟩
 . exact .inl h
 . exact .inr ⟨b, off, cap, h1, h2, h3, h4.below hb⟩
def jES {α : Type} (rep : World -> Value -> α -> Prop) (zero : Value) (w : World) (out : Px.Outcome α) (e : Ending) (w' : World) : Prop :=
 Below w.heap.size w w' /\ match out with
  | .lex p => e = .returned (.tuple #[zero, .int .i64 p, .int .i64 2])
  | .parse p => e = .returned (.tuple #[zero, .int .i64 p, .int .i64 3])
  | .done x => ∃ v, e = .returned (.tuple #[v, .int .i64 (-1), .int .i64 0]) /\ New rep w w' v x
theorem toldExpr (b1 b2 p : Nat) (w : World) (x1 x2 : Int) (h1 : w.heap[b1]? = some (.cells #[.int .i64 x1] 3 (0, 0))) (h2 : w.heap[b2]? = some (.cells #[.int .i64 x2] 28 (0, 0))) (hne : b1 ≠ b2) :
 CallsD Tryz.prog 79 #[.pointer (some ⟨b1, 0, none⟩), .pointer (some ⟨b2, 0, none⟩)] (.panicking [{ v := jGE p, recovered := false }]) w fun e u' w' =>
  e = .returned (.tuple #[]) /\ u' = .panicking [{ v := jGE p, recovered := true }] /\ w' = (w.setCell ⟨b1, 0, none⟩ (.int .i64 p)).setCell ⟨b2, 0, none⟩ (.int .i64 3) := by
 have c1 : w.cell? ⟨b1, 0, none⟩ = some (.int .i64 x1) := jA h1 0 _ rfl; have c2 : w.cell? ⟨b2, 0, none⟩ = some (.int .i64 x2) := jA h2 0 _ rfl; have f1 := jA1 h1 0; have f2 := jA1 h2 0
 have hta : ∀ u : World, (Instr.typeAssert (.iface 95 (.agg #[.int .i64 p])) 20 95 false).run Tryz.prog u = .ok (.agg #[.int .i64 p]) u := fun u => by kernel_rfl
 have hfd : ∀ u : World, (Instr.field 95 (.agg #[.int .i64 p]) 0).run Tryz.prog u = .ok (.int .i64 p) u := fun u => by kernel_rfl
 refine callsD_of_wpS Tryz.func79 rfl fun c₀ cs hu => ?_
 unfold jGE at hu
 apply wpS_seq
 apply wpS_region
 simp [wpOpsS, go_sem, recoverD, hu, Tryz.ntmps79, Exit.thenS]
 apply wpS_seq
 apply wpS_region
 simp [wpOpsS, go_sem, Exit.thenS]; refine wpS_cond (t := true) (by simp [Act.eval, Array.replicate]) ?_; simp only [if_true]
 apply wpS_region
 simp [wpOpsS, go_sem, hta, hfd, c1, c2, f1, f2, bodyPostS, results, Tryz.results79]; rfl
theorem idleExpr (a1 a2 : Value) (w : World) :
 CallsD Tryz.prog 79 #[a1, a2] .returning w fun e u' w' => e = .returned (.tuple #[]) /\ u' = .returning /\ w' = w := by
 refine callsD_of_wpS Tryz.func79 rfl fun c₀ cs hu => ?_
 apply wpS_seq
 apply wpS_region
 simp [wpOpsS, go_sem, recoverD, hu, Tryz.ntmps79, Exit.thenS]
 apply wpS_seq
 apply wpS_region
 simp [wpOpsS, go_sem, Exit.thenS]; refine wpS_cond (t := false) (by simp [Act.eval, Array.replicate]) ?_; simp only [Bool.false_eq_true, if_false]; refine wpS_of_wp (wp_skip ?_); cases c₀
 simp_all [bodyPostS, results, Tryz.results79]
theorem jNZ (v : Value) (l : List UInt8) (w : World) (h : SliceAt w v l) :
 Calls Tryz.prog 40 #[v, .func (.func 41) #[] #[]] w (jES (jB 50) (.agg #[.int .i64 0, .int .i64 0, .string ⟨#[]⟩, .int .i64 0, .slice none 0 0, .slice none 0 0, .slice none 0 0]) w (Px.jF0 l)) := by
 have hmf : ∀ (fn : Fn) (first cap : Array Value) (w : World), (Instr.makeFunc fn first cap).run Tryz.prog w = .ok (.func fn first cap) w := fun _ _ _ _ => rfl
 generalize hout : Px.jF0 l = out; have HOUT := hid hout; clear hout; have hw0 : ∀ u, Below w.heap.size w u -> SliceAt u v l := fun u hu => jD6 h hu
 have HSL := hid hw0
 obtain ⟨vp, vc, rfl⟩ : ∃ p c, v = .slice p l.length c := by
  rcases h with ⟨p, c, rfl, rfl⟩ | ⟨b, o, c, rfl, _⟩
  . exact ⟨p, c, rfl⟩
  . exact ⟨_, c, rfl⟩
 clear h hw0
 go_enter_defers Tryz.func40, Tryz.ntmps40
 go_wp2_with fail; have EP := hid (jA2 (jA2 (jA3 w #[.int .i64 0, .int .i64 0, .string ⟨#[]⟩, .int .i64 0, .slice none 0 0, .slice none 0 0, .slice none 0 0] 47) (.cells #[.int .i64 0] 3)) (.cells #[.int .i64 0] 28)); have EQ0 := jA2 (jA3 (w.alloc (.cells #[.int .i64 0, .int .i64 0, .string ⟨#[]⟩, .int .i64 0, .slice none 0 0, .slice none 0 0, .slice none 0 0] 47)) #[.int .i64 0] 3) (.cells #[.int .i64 0] 28); have EE0 := jA3 ((w.alloc (.cells #[.int .i64 0, .int .i64 0, .string ⟨#[]⟩, .int .i64 0, .slice none 0 0, .slice none 0 0, .slice none 0 0] 47)).alloc (.cells #[.int .i64 0] 3)) #[.int .i64 0] 28; simp only [World.size_alloc] at EQ0 EE0; have EQ := hid EQ0; have EE := hid EE0
 have HB := hid ((((Below.refl w.heap.size w).alloc (Nat.le_refl _) (.cells #[.int .i64 0, .int .i64 0, .string ⟨#[]⟩, .int .i64 0, .slice none 0 0, .slice none 0 0, .slice none 0 0] 47)).alloc (by simp) (.cells #[.int .i64 0] 3)).alloc (by simp; omega) (.cells #[.int .i64 0] 28)); clear EQ0 EE0; refine (jIE _ l _ (HSL.out _ HB.out)).mono ?_; rintro e w1 ⟨tv, ts, tp, tc, rfl, hB, hown, hcase⟩; have hsz : w.heap.size + 3 <= w1.heap.size := by have := hB.size; simp only [World.size_alloc] at this; omega
 replace EP := hid (jA0 EP.out hB); replace EQ := hid (jA0 EQ.out hB); replace EE := hid (jA0 EE.out hB)
 replace HB := bT HB hB; have HOWN := hid hown; have HCASE := hid hcase
 clear hB hown hcase; have q0 := jA EQ.out 0 _ rfl; have e0 := jA EE.out 0 _ rfl; have qf := jA1 EQ.out; have ef := jA1 EE.out
 obtain ⟨tpp, tpc, rfl⟩ := jB0 HOWN.out; have mk : ∀ tcv : Int, Hid ((((w1.setCell ⟨w.heap.size + 1, 0, none⟩ (.int .i64 tp)).setCell ⟨w.heap.size + 1 + 1, 0, none⟩ (.int .i64 tcv))).heap[w.heap.size]? = some (.cells #[.int .i64 0, .int .i64 0, .string ⟨#[]⟩, .int .i64 0, .slice none 0 0, .slice none 0 0, .slice none 0 0] 47 (0, 0))) /\
  Hid ((((w1.setCell ⟨w.heap.size + 1, 0, none⟩ (.int .i64 tp)).setCell ⟨w.heap.size + 1 + 1, 0, none⟩ (.int .i64 tcv))).heap[w.heap.size + 1]? = some (.cells #[.int .i64 tp] 3 (0, 0))) /\
  Hid ((((w1.setCell ⟨w.heap.size + 1, 0, none⟩ (.int .i64 tp)).setCell ⟨w.heap.size + 1 + 1, 0, none⟩ (.int .i64 tcv))).heap[w.heap.size + 1 + 1]? = some (.cells #[.int .i64 tcv] 28 (0, 0))) /\
  Hid (Below w.heap.size w ((w1.setCell ⟨w.heap.size + 1, 0, none⟩ (.int .i64 tp)).setCell ⟨w.heap.size + 1 + 1, 0, none⟩ (.int .i64 tcv))) := fun tcv =>
  ⟨hid (jA4 (jA4 EP.out _ 0 _ (by omega)) _ 0 _ (by omega)), hid (jA4 (jAE EQ.out 0 (.int .i64 tp)) _ 0 _ (by omega)), hid (jAE (jA4 EE.out _ 0 _ (by omega)) 0 (.int .i64 tcv)), hid ((HB.out.setCell (by dsimp only; omega) _).setCell (by dsimp only; omega) _)⟩
 have MK := hid mk; clear mk; by_cases hc : tc = 0
 . subst hc
   have hlx : l.length <= 4096 /\ Lx.toks (l.length + 1) 0 l = (ts, none) /\ tp = -1 := by
    rcases HCASE.out with ⟨_, _, _, h⟩ | ⟨_, q, _, _, _, h⟩ | ⟨h1, h2, h3, _⟩
    . omega
    . omega
    . exact ⟨h1, h2, h3⟩
   obtain ⟨hl4, htk, rfl⟩ := hlx; have HTK := hid htk; clear htk; go_wp2_with fail; clear q0 e0 qf ef; obtain ⟨EP2, EQ2, EE2, HB2⟩ := MK.out 0
   have hown2 : ((w1.setCell ⟨w.heap.size + 1, 0, none⟩ (.int .i64 (-1))).setCell ⟨w.heap.size + 1 + 1, 0, none⟩ (.int .i64 0)).ownsRow (w.heap.size + 3) 102 4 (.slice tpp ts.length tpc) ts.length (jBP ts) :=
    jAA (by simpa using HOWN.out) fun b hb => by
     have := (HOWN.out.lt b hb).1; simp only [World.size_alloc] at this; rw [Below.heap_setCell _ _ _ _ (by dsimp only; omega), Below.heap_setCell _ _ _ _ (by dsimp only; omega)]
   have HO2 := hid hown2; have hWs : w.heap.size + 3 <= ((w1.setCell ⟨w.heap.size + 1, 0, none⟩ (.int .i64 (-1))).setCell ⟨w.heap.size + 1 + 1, 0, none⟩ (.int .i64 0)).heap.size := by simpa using hsz
   clear hown2 MK; generalize ((w1.setCell ⟨w.heap.size + 1, 0, none⟩ (.int .i64 (-1))).setCell ⟨w.heap.size + 1 + 1, 0, none⟩ (.int .i64 0)) = W at *; refine (jK8 _).mono ?_; rintro e w2 ⟨rfl, rfl⟩; have EB := hid (heap_alloc_new W (.map jBN 12)); replace EP2 := hid (jA2 EP2.out (.map jBN 12)); replace EQ2 := hid (jA2 EQ2.out (.map jBN 12)); replace EE2 := hid (jA2 EE2.out (.map jBN 12))
   replace HB2 := hid (HB2.out.alloc HB2.out.size (.map jBN 12)); replace HO2 := hid (HO2.out.alloc (.map jBN 12))
   have hV : (W.alloc (.map jBN 12)).heap.size = W.heap.size + 1 := by simp
   obtain ⟨B, hB⟩ : ∃ B, B = W.heap.size := ⟨_, rfl⟩
   have HV := hid hV; have HBB := hid hB
   clear hV; rw [<- hB] at EB ⊢; clear hB; generalize W.alloc (.map jBN 12) = V at *; go_wp2_with fail; have hts : ts.length <= 4096 := by have := Lx.jLZ (l.length + 1) 0 l; rw [HTK.out] at this; simp only at this; omega
   have hrd := jIK V tpp tpc ts l.length B _ HO2.out EB.out hts hl4; have hVs : w.heap.size + 3 < V.heap.size + 1 := by have := HV.out; omega
   have hr := jL5 V.heap.size (.slice tpp ts.length tpc) ts l.length B _ hrd; refine hr.mono ?_; rintro e w3 ⟨hg, hres⟩; have hnr : ∀ b, b < V.heap.size -> w3.heap[b]? = V.heap[b]? := fun b hb => (hg.block b (by simp; omega) (fun e => by simp at e; omega)).trans (Below.heap_alloc V _ b hb)
   have hgs : V.heap.size + 1 <= w3.heap.size := by have := hg.size; simpa using this
   replace EP2 := hid ((hnr _ (by omega)).trans EP2.out); replace EQ2 := hid ((hnr _ (by omega)).trans EQ2.out); replace EE2 := hid ((hnr _ (by omega)).trans EE2.out)
   have HB3 : Hid (Below w.heap.size w w3) := hid ⟨hg.os.trans HB2.out.os, hg.tape.trans HB2.out.tape, hg.output.trans HB2.out.output, by have := HB2.out.size; omega, fun b hb => (hnr b (by omega)).trans (HB2.out.block b hb)⟩; have hlo : V.heap.size + 1 <= (V.alloc (.cells #[.slice tpp ts.length tpc, .int .i64 0, .int .i64 l.length, .map (some B)] 100)).heap.size := by simp
   clear hr hrd hnr hg
   have hpx : out = jL6 (Px.jCY l.length ts) := by
    rw [<- HOUT.out]; exact jJN Px.jCY l ts (by omega) HTK.out
   cases hpr : Px.jCY l.length ts with
   | error p =>
     rw [hpr] at hres hpx; obtain rfl : e = jAW p := hres; obtain rfl : out = .parse p := hpx; have ne1 : w.heap.size + 1 ≠ w.heap.size + 1 + 1 := by omega
     refine leaves_cons (f := 79) (args := #[.pointer (some ⟨w.heap.size + 1, 0, none⟩), .pointer (some ⟨w.heap.size + 1 + 1, 0, none⟩)]) (by simp) (by simp [go_sem]) ?_; refine (toldExpr (w.heap.size + 1) (w.heap.size + 1 + 1) p w3 _ _ EQ2.out EE2.out ne1).mono ?_; rintro e u' w'' ⟨rfl, rfl, rfl⟩; have EP3 := jA4 (jA4 EP2.out (w.heap.size + 1) 0 (.int .i64 p) (by omega)) (w.heap.size + 1 + 1) 0 (.int .i64 3) (by omega); have EQ3 := jA4 (jAE EQ2.out 0 (.int .i64 p)) (w.heap.size + 1 + 1) 0 (.int .i64 3) (by omega); have EE3 := jAE (jA4 EE2.out (w.heap.size + 1) 0 (.int .i64 p) (by omega)) 0 (.int .i64 3); have hbf := (HB3.out.setCell (p := ⟨w.heap.size + 1, 0, none⟩) (by dsimp only; omega) (.int .i64 p)).setCell (p := ⟨w.heap.size + 1 + 1, 0, none⟩) (by dsimp only; omega) (.int .i64 3); generalize (w3.setCell ⟨w.heap.size + 1, 0, none⟩ (.int .i64 p)).setCell ⟨w.heap.size + 1 + 1, 0, none⟩ (.int .i64 3) = U at *; have q0 : U.cell? ⟨w.heap.size + 1, 0, none⟩ = some (.int .i64 p) := jA EQ3 0 _ rfl; have e0 : U.cell? ⟨w.heap.size + 1 + 1, 0, none⟩ = some (.int .i64 3) := jA EE3 0 _ rfl
     have p0 := jA EP3 0 _ rfl; have p1 := jA EP3 1 _ rfl; have p2 := jA EP3 2 _ rfl; have p3 := jA EP3 3 _ rfl; have p4 := jA EP3 4 _ rfl; have p5 := jA EP3 5 _ rfl; have p6 := jA EP3 6 _ rfl; refine ⟨.tuple #[.agg #[.int .i64 0, .int .i64 0, .string ⟨#[]⟩, .int .i64 0, .slice none 0 0, .slice none 0 0, .slice none 0 0], .int .i64 p, .int .i64 3], by simp [results, Tryz.results40, go_sem, p0, p1, p2, p3, p4, p5, p6, q0, e0], hbf, rfl⟩
   | ok x =>
     rw [hpr] at hres hpx; obtain ⟨v, rfl, hnew⟩ := hres; obtain rfl : out = .done x := hpx; obtain ⟨xk, xp, xi, xs, q1, n1, c1, q2, n2, c2, q3, n3, c3, rfl⟩ := jAU 50 _ _ _ hnew.now; have Hnew := hid hnew; have HPR := hid hpr
     clear hnew hpr; have pf := jA1 EP2.out; have qf := jA1 EQ2.out; have ef := jA1 EE2.out
     have q0 : w3.cell? ⟨w.heap.size + 1, 0, none⟩ = some (.int .i64 (-1)) := jA EQ2.out 0 _ rfl; have e0 : w3.cell? ⟨w.heap.size + 1 + 1, 0, none⟩ = some (.int .i64 0) := jA EE2.out 0 _ rfl
     have p0 := jA EP2.out 0 _ rfl; have p1 := jA EP2.out 1 _ rfl; have p2 := jA EP2.out 2 _ rfl; have p3 := jA EP2.out 3 _ rfl; have p4 := jA EP2.out 4 _ rfl; have p5 := jA EP2.out 5 _ rfl; have p6 := jA EP2.out 6 _ rfl; go_wp2_with fail; refine leaves_cons (f := 79) (args := #[.pointer (some ⟨w.heap.size + 1, 0, none⟩), .pointer (some ⟨w.heap.size + 1 + 1, 0, none⟩)]) (by simp) (by simp [go_sem]) ?_; refine (idleExpr _ _ _).mono ?_; rintro e u' w'' ⟨rfl, rfl, rfl⟩; refine ⟨.tuple #[.agg #[.int .i64 xk, .int .i64 xp, .string xs, .int .i64 xi, .slice q1 n1 c1, .slice q2 n2 c2, .slice q3 n3 c3], .int .i64 (-1), .int .i64 0], by simp [results, Tryz.results40, go_sem, p0, p1, p2, p3, p4, p5, p6, q0, e0], ?_, _, rfl, ?_⟩
     . repeat (first | with_reducible exact HB3.out | with_reducible refine Below.setCell ?_ (by dsimp only; omega) _)
     . refine New.stay (w := w) Hnew.out (by omega) ?_
       repeat (first | with_reducible exact Stay.refl _ _ | with_reducible refine Stay.set ?_ _ _ _ (by omega))
 . have hc2 : tc = 2 := by rcases HCASE.out with ⟨_, _, _, h⟩ | ⟨_, q, _, _, _, h⟩ | ⟨_, _, _, h⟩ <;> omega
   subst hc2
   have hpc : ∃ tq : Nat, tp = tq /\ out = .lex tq := by
    rcases HCASE.out with ⟨h1, h2, h3, h4⟩ | ⟨h1, q, h2, h3, h4, h5⟩ | ⟨_, _, _, h⟩
    . rw [<- HOUT.out]; unfold Px.jF0 Px.parsed; rw [if_pos h1]; exact ⟨4096, h3, rfl⟩
    . rw [<- HOUT.out]; unfold Px.jF0 Px.parsed; rw [if_neg (by omega)]
      refine ⟨q, h4, ?_⟩; cases hx : Lx.toks (l.length + 1) 0 l with
      | mk a b => rw [hx] at h2; simp only at h2; subst h2; rfl
    . omega
   obtain ⟨tq, rfl, rfl⟩ := hpc; go_upto_region 3 with fail
   obtain ⟨EP2, EQ2, EE2, HB2⟩ := MK.out 2; generalize ((w1.setCell ⟨w.heap.size + 1, 0, none⟩ (.int .i64 tq)).setCell ⟨w.heap.size + 1 + 1, 0, none⟩ (.int .i64 2)) = W at *; clear q0 e0 qf ef; have pf := jA1 EP2.out; have qf := jA1 EQ2.out; have ef := jA1 EE2.out
   have q0 : W.cell? ⟨w.heap.size + 1, 0, none⟩ = some (.int .i64 tq) := jA EQ2.out 0 _ rfl; have e0 : W.cell? ⟨w.heap.size + 1 + 1, 0, none⟩ = some (.int .i64 2) := jA EE2.out 0 _ rfl
   have p0 := jA EP2.out 0 _ rfl; have p1 := jA EP2.out 1 _ rfl; have p2 := jA EP2.out 2 _ rfl; have p3 := jA EP2.out 3 _ rfl; have p4 := jA EP2.out 4 _ rfl; have p5 := jA EP2.out 5 _ rfl; have p6 := jA EP2.out 6 _ rfl
   go_region
   all_goals
    go_wp2_with fail; refine ⟨.tuple #[.agg #[.int .i64 0, .int .i64 0, .string ⟨#[]⟩, .int .i64 0, .slice none 0 0, .slice none 0 0, .slice none 0 0], .int .i64 tq, .int .i64 2], by simp [results, Tryz.results40, go_sem, p0, p1, p2, p3, p4, p5, p6, q0, e0], ?_, rfl⟩
    repeat (first | with_reducible exact HB2.out | with_reducible refine Below.drew ?_ | with_reducible refine Below.setCell ?_ (by dsimp only; omega) _)
theorem Expr_any (v : Value) (l : List UInt8) (w : World) (h : SliceAt w v l) :
 Calls Tryz.prog 21 #[v] w (jES (jB 50) (.agg #[.int .i64 0, .int .i64 0, .string ⟨#[]⟩, .int .i64 0, .slice none 0 0, .slice none 0 0, .slice none 0 0]) w (Px.jF0 l)) := by
 have hal : Below w.heap.size w (w.alloc (.cells #[.int .i64 0, .int .i64 0, .string ⟨#[]⟩, .int .i64 0, .slice none 0 0, .slice none 0 0, .slice none 0 0] 47)) := (Below.refl _ _).alloc (Nat.le_refl _) _; have hp := jNZ v l _ (jD6 h hal); have ER := hid (jA3 w #[.int .i64 0, .int .i64 0, .string ⟨#[]⟩, .int .i64 0, .slice none 0 0, .slice none 0 0, .slice none 0 0] 47); generalize hout : Px.jF0 l = out at *; clear hout h; have HP := hid hp; clear hp; go_enter Tryz.func21, Tryz.ntmps21; go_wp2_with fail; refine HP.out.mono ?_; rintro e w1 ⟨hb, hres⟩; have hs1 := hb.size; simp only [World.size_alloc] at hs1; replace ER := hid (jA0 ER.out hb); have HB := hid (hal.trans (hb.mono hal.size)); clear hb hal HP; have rf := jA1 ER.out; have r0 := jA ER.out 0 _ rfl; have r1 := jA ER.out 1 _ rfl; have r2 := jA ER.out 2 _ rfl; have r3 := jA ER.out 3 _ rfl; have r4 := jA ER.out 4 _ rfl; have r5 := jA ER.out 5 _ rfl; have r6 := jA ER.out 6 _ rfl; cases out with
 | lex p =>
   obtain rfl : e = _ := hres; go_wp2_with fail; refine bodyPost_ret (v := .tuple #[.agg #[.int .i64 0, .int .i64 0, .string ⟨#[]⟩, .int .i64 0, .slice none 0 0, .slice none 0 0, .slice none 0 0], .int .i64 p, .int .i64 2]) (by simp [results, Tryz.results21, go_sem, r0, r1, r2, r3, r4, r5, r6]) rfl ⟨?_, rfl⟩
   repeat (first | with_reducible exact HB.out | with_reducible refine Below.setCell ?_ (by dsimp only; omega) _)
 | parse p =>
   obtain rfl : e = _ := hres; go_wp2_with fail; refine bodyPost_ret (v := .tuple #[.agg #[.int .i64 0, .int .i64 0, .string ⟨#[]⟩, .int .i64 0, .slice none 0 0, .slice none 0 0, .slice none 0 0], .int .i64 p, .int .i64 3]) (by simp [results, Tryz.results21, go_sem, r0, r1, r2, r3, r4, r5, r6]) rfl ⟨?_, rfl⟩
   repeat (first | with_reducible exact HB.out | with_reducible refine Below.setCell ?_ (by dsimp only; omega) _)
 | done x =>
   obtain ⟨av, rfl, hnew⟩ := hres; obtain ⟨xk, xp, xi, xs, q1, n1, c1, q2, n2, c2, q3, n3, c3, rfl⟩ := jAU 50 _ _ _ hnew.now; have Hnew := hid hnew; clear hnew; go_wp2_with fail; refine bodyPost_ret (v := .tuple #[.agg #[.int .i64 xk, .int .i64 xp, .string xs, .int .i64 xi, .slice q1 n1 c1, .slice q2 n2 c2, .slice q3 n3 c3], .int .i64 (-1), .int .i64 0]) (by simp [results, Tryz.results21, go_sem, r0, r1, r2, r3, r4, r5, r6]) rfl ⟨?_, _, rfl, ?_⟩
   . repeat (first | with_reducible exact HB.out | with_reducible refine Below.setCell ?_ (by dsimp only; omega) _)
   . refine New.stay (w := w) Hnew.out (by simp) ?_
     repeat (first | with_reducible exact Stay.refl _ _ | with_reducible refine Stay.set ?_ _ _ _ (by simp))
def jGH {α : Type} (r : Px.R α) : Px.Outcome α := match r with
 | .error p => .parse p
 | .ok x => .done x
theorem jH4 {α : Type} (read : Nat -> List Lx.Tok -> Px.R α) (l : List UInt8) (ts : List Lx.Tok) (h : ¬ 4096 < l.length) (ht : Lx.toks (l.length + 1) 0 l = (ts, none)) : Px.parsed read l = jGH (read l.length ts) := by
 unfold Px.parsed jGH; rw [if_neg h, ht]; dsimp only; cases read l.length ts <;> rfl
theorem jLX (b1 b2 p : Nat) (w : World) (x1 x2 : Int) (h1 : w.heap[b1]? = some (.cells #[.int .i64 x1] 3 (0, 0))) (h2 : w.heap[b2]? = some (.cells #[.int .i64 x2] 28 (0, 0))) (hne : b1 ≠ b2) :
 CallsD Tryz.prog 43 #[.pointer (some ⟨b1, 0, none⟩), .pointer (some ⟨b2, 0, none⟩)] (.panicking [{ v := jGE p, recovered := false }]) w fun e u' w' =>
  e = .returned (.tuple #[]) /\ u' = .panicking [{ v := jGE p, recovered := true }] /\ w' = (w.setCell ⟨b1, 0, none⟩ (.int .i64 p)).setCell ⟨b2, 0, none⟩ (.int .i64 3) := by
 have c1 : w.cell? ⟨b1, 0, none⟩ = some (.int .i64 x1) := jA h1 0 _ rfl; have c2 : w.cell? ⟨b2, 0, none⟩ = some (.int .i64 x2) := jA h2 0 _ rfl; have f1 := jA1 h1 0; have f2 := jA1 h2 0
 have hta : ∀ u : World, (Instr.typeAssert (.iface 95 (.agg #[.int .i64 p])) 20 95 false).run Tryz.prog u = .ok (.agg #[.int .i64 p]) u := fun u => by kernel_rfl
 have hfd : ∀ u : World, (Instr.field 95 (.agg #[.int .i64 p]) 0).run Tryz.prog u = .ok (.int .i64 p) u := fun u => by kernel_rfl
 refine callsD_of_wpS Tryz.func43 rfl fun c₀ cs hu => ?_
 unfold jGE at hu
 apply wpS_seq
 apply wpS_region
 simp [wpOpsS, go_sem, recoverD, hu, Tryz.ntmps43, Exit.thenS]
 apply wpS_seq
 apply wpS_region
 simp [wpOpsS, go_sem, Exit.thenS]; refine wpS_cond (t := true) (by simp [Act.eval, Array.replicate]) ?_; simp only [if_true]
 apply wpS_region
 simp [wpOpsS, go_sem, hta, hfd, c1, c2, f1, f2, bodyPostS, results, Tryz.results43]; rfl
theorem jMY (a1 a2 : Value) (w : World) :
 CallsD Tryz.prog 43 #[a1, a2] .returning w fun e u' w' => e = .returned (.tuple #[]) /\ u' = .returning /\ w' = w := by
 refine callsD_of_wpS Tryz.func43 rfl fun c₀ cs hu => ?_
 apply wpS_seq
 apply wpS_region
 simp [wpOpsS, go_sem, recoverD, hu, Tryz.ntmps43, Exit.thenS]
 apply wpS_seq
 apply wpS_region
 simp [wpOpsS, go_sem, Exit.thenS]; refine wpS_cond (t := false) (by simp [Act.eval, Array.replicate]) ?_; simp only [Bool.false_eq_true, if_false]; refine wpS_of_wp (wp_skip ?_); cases c₀
 simp_all [bodyPostS, results, Tryz.results43]
theorem jJO (v : Value) (l : List UInt8) (w : World) (h : SliceAt w v l) :
 Calls Tryz.prog 22 #[v, .func (.func 23) #[] #[]] w (jES (jER 50) (.agg #[.slice none 0 0, .slice none 0 0]) w (Px.program l)) := by
 have hmf : ∀ (fn : Fn) (first cap : Array Value) (w : World), (Instr.makeFunc fn first cap).run Tryz.prog w = .ok (.func fn first cap) w := fun _ _ _ _ => rfl
 generalize hout : Px.program l = out; have HOUT := hid hout; clear hout; have hw0 : ∀ u, Below w.heap.size w u -> SliceAt u v l := fun u hu => jD6 h hu
 have HSL := hid hw0
 obtain ⟨vp, vc, rfl⟩ : ∃ p c, v = .slice p l.length c := by
  rcases h with ⟨p, c, rfl, rfl⟩ | ⟨b, o, c, rfl, _⟩
  . exact ⟨p, c, rfl⟩
  . exact ⟨_, c, rfl⟩
 clear h hw0
 go_enter_defers Tryz.func22, Tryz.ntmps22
 go_wp2_with fail; have EP := hid (jA2 (jA2 (jA3 w #[.slice none 0 0, .slice none 0 0] 27) (.cells #[.int .i64 0] 3)) (.cells #[.int .i64 0] 28)); have EQ0 := jA2 (jA3 (w.alloc (.cells #[.slice none 0 0, .slice none 0 0] 27)) #[.int .i64 0] 3) (.cells #[.int .i64 0] 28); have EE0 := jA3 ((w.alloc (.cells #[.slice none 0 0, .slice none 0 0] 27)).alloc (.cells #[.int .i64 0] 3)) #[.int .i64 0] 28; simp only [World.size_alloc] at EQ0 EE0; have EQ := hid EQ0; have EE := hid EE0
 have HB := hid ((((Below.refl w.heap.size w).alloc (Nat.le_refl _) (.cells #[.slice none 0 0, .slice none 0 0] 27)).alloc (by simp) (.cells #[.int .i64 0] 3)).alloc (by simp; omega) (.cells #[.int .i64 0] 28)); clear EQ0 EE0; refine (jIE _ l _ (HSL.out _ HB.out)).mono ?_; rintro e w1 ⟨tv, ts, tp, tc, rfl, hB, hown, hcase⟩; have hsz : w.heap.size + 3 <= w1.heap.size := by have := hB.size; simp only [World.size_alloc] at this; omega
 replace EP := hid (jA0 EP.out hB); replace EQ := hid (jA0 EQ.out hB); replace EE := hid (jA0 EE.out hB)
 replace HB := bT HB hB; have HOWN := hid hown; have HCASE := hid hcase
 clear hB hown hcase; have q0 := jA EQ.out 0 _ rfl; have e0 := jA EE.out 0 _ rfl; have qf := jA1 EQ.out; have ef := jA1 EE.out
 obtain ⟨tpp, tpc, rfl⟩ := jB0 HOWN.out; have mk : ∀ tcv : Int, Hid ((((w1.setCell ⟨w.heap.size + 1, 0, none⟩ (.int .i64 tp)).setCell ⟨w.heap.size + 1 + 1, 0, none⟩ (.int .i64 tcv))).heap[w.heap.size]? = some (.cells #[.slice none 0 0, .slice none 0 0] 27 (0, 0))) /\
  Hid ((((w1.setCell ⟨w.heap.size + 1, 0, none⟩ (.int .i64 tp)).setCell ⟨w.heap.size + 1 + 1, 0, none⟩ (.int .i64 tcv))).heap[w.heap.size + 1]? = some (.cells #[.int .i64 tp] 3 (0, 0))) /\
  Hid ((((w1.setCell ⟨w.heap.size + 1, 0, none⟩ (.int .i64 tp)).setCell ⟨w.heap.size + 1 + 1, 0, none⟩ (.int .i64 tcv))).heap[w.heap.size + 1 + 1]? = some (.cells #[.int .i64 tcv] 28 (0, 0))) /\
  Hid (Below w.heap.size w ((w1.setCell ⟨w.heap.size + 1, 0, none⟩ (.int .i64 tp)).setCell ⟨w.heap.size + 1 + 1, 0, none⟩ (.int .i64 tcv))) := fun tcv =>
  ⟨hid (jA4 (jA4 EP.out _ 0 _ (by omega)) _ 0 _ (by omega)), hid (jA4 (jAE EQ.out 0 (.int .i64 tp)) _ 0 _ (by omega)), hid (jAE (jA4 EE.out _ 0 _ (by omega)) 0 (.int .i64 tcv)), hid ((HB.out.setCell (by dsimp only; omega) _).setCell (by dsimp only; omega) _)⟩
 have MK := hid mk; clear mk; by_cases hc : tc = 0
 . subst hc
   have hlx : l.length <= 4096 /\ Lx.toks (l.length + 1) 0 l = (ts, none) /\ tp = -1 := by
    rcases HCASE.out with ⟨_, _, _, h⟩ | ⟨_, q, _, _, _, h⟩ | ⟨h1, h2, h3, _⟩
    . omega
    . omega
    . exact ⟨h1, h2, h3⟩
   obtain ⟨hl4, htk, rfl⟩ := hlx; have HTK := hid htk; clear htk; go_wp2_with fail; clear q0 e0 qf ef; obtain ⟨EP2, EQ2, EE2, HB2⟩ := MK.out 0
   have hown2 : ((w1.setCell ⟨w.heap.size + 1, 0, none⟩ (.int .i64 (-1))).setCell ⟨w.heap.size + 1 + 1, 0, none⟩ (.int .i64 0)).ownsRow (w.heap.size + 3) 102 4 (.slice tpp ts.length tpc) ts.length (jBP ts) :=
    jAA (by simpa using HOWN.out) fun b hb => by
     have := (HOWN.out.lt b hb).1; simp only [World.size_alloc] at this; rw [Below.heap_setCell _ _ _ _ (by dsimp only; omega), Below.heap_setCell _ _ _ _ (by dsimp only; omega)]
   have HO2 := hid hown2; have hWs : w.heap.size + 3 <= ((w1.setCell ⟨w.heap.size + 1, 0, none⟩ (.int .i64 (-1))).setCell ⟨w.heap.size + 1 + 1, 0, none⟩ (.int .i64 0)).heap.size := by simpa using hsz
   clear hown2 MK; generalize ((w1.setCell ⟨w.heap.size + 1, 0, none⟩ (.int .i64 (-1))).setCell ⟨w.heap.size + 1 + 1, 0, none⟩ (.int .i64 0)) = W at *; refine (jK8 _).mono ?_; rintro e w2 ⟨rfl, rfl⟩; have EB := hid (heap_alloc_new W (.map jBN 12)); replace EP2 := hid (jA2 EP2.out (.map jBN 12)); replace EQ2 := hid (jA2 EQ2.out (.map jBN 12)); replace EE2 := hid (jA2 EE2.out (.map jBN 12))
   replace HB2 := hid (HB2.out.alloc HB2.out.size (.map jBN 12)); replace HO2 := hid (HO2.out.alloc (.map jBN 12))
   have hV : (W.alloc (.map jBN 12)).heap.size = W.heap.size + 1 := by simp
   obtain ⟨B, hB⟩ : ∃ B, B = W.heap.size := ⟨_, rfl⟩
   have HV := hid hV; have HBB := hid hB
   clear hV; rw [<- hB] at EB ⊢; clear hB; generalize W.alloc (.map jBN 12) = V at *; go_wp2_with fail; have hts : ts.length <= 4096 := by have := Lx.jLZ (l.length + 1) 0 l; rw [HTK.out] at this; simp only at this; omega
   have hrd := jIK V tpp tpc ts l.length B _ HO2.out EB.out hts hl4; have hVs : w.heap.size + 3 < V.heap.size + 1 := by have := HV.out; omega
   have hr := jMJ V.heap.size (.slice tpp ts.length tpc) ts l.length B _ hrd; refine hr.mono ?_; rintro e w3 ⟨hg, hres⟩; have hnr : ∀ b, b < V.heap.size -> w3.heap[b]? = V.heap[b]? := fun b hb => (hg.block b (by simp; omega) (fun e => by simp at e; omega)).trans (Below.heap_alloc V _ b hb)
   have hgs : V.heap.size + 1 <= w3.heap.size := by have := hg.size; simpa using this
   replace EP2 := hid ((hnr _ (by omega)).trans EP2.out); replace EQ2 := hid ((hnr _ (by omega)).trans EQ2.out); replace EE2 := hid ((hnr _ (by omega)).trans EE2.out)
   have HB3 : Hid (Below w.heap.size w w3) := hid ⟨hg.os.trans HB2.out.os, hg.tape.trans HB2.out.tape, hg.output.trans HB2.out.output, by have := HB2.out.size; omega, fun b hb => (hnr b (by omega)).trans (HB2.out.block b hb)⟩; have hlo : V.heap.size + 1 <= (V.alloc (.cells #[.slice tpp ts.length tpc, .int .i64 0, .int .i64 l.length, .map (some B)] 100)).heap.size := by simp
   clear hr hrd hnr hg
   have hpx : out = jGH (Px.prog l.length (ts.length + 1) 0 ts) := by
    rw [<- HOUT.out]; exact jH4 (fun stop ts => Px.prog stop (ts.length + 1) 0 ts) l ts (by omega) HTK.out
   cases hpr : Px.prog l.length (ts.length + 1) 0 ts with
   | error p =>
     rw [hpr] at hres hpx; obtain rfl : e = jAW p := hres; obtain rfl : out = .parse p := hpx; have ne1 : w.heap.size + 1 ≠ w.heap.size + 1 + 1 := by omega
     refine leaves_cons (f := 43) (args := #[.pointer (some ⟨w.heap.size + 1, 0, none⟩), .pointer (some ⟨w.heap.size + 1 + 1, 0, none⟩)]) (by simp) (by simp [go_sem]) ?_; refine (jLX (w.heap.size + 1) (w.heap.size + 1 + 1) p w3 _ _ EQ2.out EE2.out ne1).mono ?_; rintro e u' w'' ⟨rfl, rfl, rfl⟩; have EP3 := jA4 (jA4 EP2.out (w.heap.size + 1) 0 (.int .i64 p) (by omega)) (w.heap.size + 1 + 1) 0 (.int .i64 3) (by omega); have EQ3 := jA4 (jAE EQ2.out 0 (.int .i64 p)) (w.heap.size + 1 + 1) 0 (.int .i64 3) (by omega); have EE3 := jAE (jA4 EE2.out (w.heap.size + 1) 0 (.int .i64 p) (by omega)) 0 (.int .i64 3); have hbf := (HB3.out.setCell (p := ⟨w.heap.size + 1, 0, none⟩) (by dsimp only; omega) (.int .i64 p)).setCell (p := ⟨w.heap.size + 1 + 1, 0, none⟩) (by dsimp only; omega) (.int .i64 3); generalize (w3.setCell ⟨w.heap.size + 1, 0, none⟩ (.int .i64 p)).setCell ⟨w.heap.size + 1 + 1, 0, none⟩ (.int .i64 3) = U at *; have q0 : U.cell? ⟨w.heap.size + 1, 0, none⟩ = some (.int .i64 p) := jA EQ3 0 _ rfl; have e0 : U.cell? ⟨w.heap.size + 1 + 1, 0, none⟩ = some (.int .i64 3) := jA EE3 0 _ rfl
     have p0 := jA EP3 0 _ rfl; have p1 := jA EP3 1 _ rfl; refine ⟨.tuple #[.agg #[.slice none 0 0, .slice none 0 0], .int .i64 p, .int .i64 3], by simp [results, Tryz.results22, go_sem, p0, p1, q0, e0], hbf, rfl⟩
   | ok x =>
     rw [hpr] at hres hpx; obtain ⟨v, rfl, hnew⟩ := hres; obtain rfl : out = .done x := hpx; obtain ⟨dv, fv, rfl, hd1, hd2⟩ := hnew.now; obtain ⟨q1, c1, rfl⟩ := hd1.len; obtain ⟨q2, c2, rfl⟩ := hd2.len; clear hd1 hd2
     have Hnew := hid hnew; have HPR := hid hpr
     clear hnew hpr; have pf := jA1 EP2.out; have qf := jA1 EQ2.out; have ef := jA1 EE2.out
     have q0 : w3.cell? ⟨w.heap.size + 1, 0, none⟩ = some (.int .i64 (-1)) := jA EQ2.out 0 _ rfl; have e0 : w3.cell? ⟨w.heap.size + 1 + 1, 0, none⟩ = some (.int .i64 0) := jA EE2.out 0 _ rfl
     have p0 := jA EP2.out 0 _ rfl; have p1 := jA EP2.out 1 _ rfl; go_wp2_with fail; refine leaves_cons (f := 43) (args := #[.pointer (some ⟨w.heap.size + 1, 0, none⟩), .pointer (some ⟨w.heap.size + 1 + 1, 0, none⟩)]) (by simp) (by simp [go_sem]) ?_; refine (jMY _ _ _).mono ?_; rintro e u' w'' ⟨rfl, rfl, rfl⟩; refine ⟨.tuple #[.agg #[.slice q1 x.datas.length c1, .slice q2 x.defs.length c2], .int .i64 (-1), .int .i64 0], by simp [results, Tryz.results22, go_sem, p0, p1, q0, e0], ?_, _, rfl, ?_⟩
     . repeat (first | with_reducible exact HB3.out | with_reducible refine Below.setCell ?_ (by dsimp only; omega) _)
     . refine New.stay (w := w) Hnew.out (by omega) ?_
       repeat (first | with_reducible exact Stay.refl _ _ | with_reducible refine Stay.set ?_ _ _ _ (by omega))
 . have hc2 : tc = 2 := by rcases HCASE.out with ⟨_, _, _, h⟩ | ⟨_, q, _, _, _, h⟩ | ⟨_, _, _, h⟩ <;> omega
   subst hc2
   have hpc : ∃ tq : Nat, tp = tq /\ out = .lex tq := by
    rcases HCASE.out with ⟨h1, h2, h3, h4⟩ | ⟨h1, q, h2, h3, h4, h5⟩ | ⟨_, _, _, h⟩
    . rw [<- HOUT.out]; unfold Px.program Px.parsed; rw [if_pos h1]; exact ⟨4096, h3, rfl⟩
    . rw [<- HOUT.out]; unfold Px.program Px.parsed; rw [if_neg (by omega)]
      refine ⟨q, h4, ?_⟩; cases hx : Lx.toks (l.length + 1) 0 l with
      | mk a b => rw [hx] at h2; simp only at h2; subst h2; rfl
    . omega
   obtain ⟨tq, rfl, rfl⟩ := hpc; go_upto_region 3 with fail
   obtain ⟨EP2, EQ2, EE2, HB2⟩ := MK.out 2; generalize ((w1.setCell ⟨w.heap.size + 1, 0, none⟩ (.int .i64 tq)).setCell ⟨w.heap.size + 1 + 1, 0, none⟩ (.int .i64 2)) = W at *; clear q0 e0 qf ef; have pf := jA1 EP2.out; have qf := jA1 EQ2.out; have ef := jA1 EE2.out
   have q0 : W.cell? ⟨w.heap.size + 1, 0, none⟩ = some (.int .i64 tq) := jA EQ2.out 0 _ rfl; have e0 : W.cell? ⟨w.heap.size + 1 + 1, 0, none⟩ = some (.int .i64 2) := jA EE2.out 0 _ rfl
   have p0 := jA EP2.out 0 _ rfl; have p1 := jA EP2.out 1 _ rfl
   go_region
   all_goals
    go_wp2_with fail; refine ⟨.tuple #[.agg #[.slice none 0 0, .slice none 0 0], .int .i64 tq, .int .i64 2], by simp [results, Tryz.results22, go_sem, p0, p1, q0, e0], ?_, rfl⟩
    repeat (first | with_reducible exact HB2.out | with_reducible refine Below.drew ?_ | with_reducible refine Below.setCell ?_ (by dsimp only; omega) _)
theorem jHP (v : Value) (l : List UInt8) (w : World) (h : SliceAt w v l) :
 Calls Tryz.prog 8 #[v] w (jES (jER 50) (.agg #[.slice none 0 0, .slice none 0 0]) w (Px.program l)) := by
 have hal : Below w.heap.size w (w.alloc (.cells #[.slice none 0 0, .slice none 0 0] 27)) := (Below.refl _ _).alloc (Nat.le_refl _) _; have hp := jJO v l _ (jD6 h hal); have ER := hid (jA3 w #[.slice none 0 0, .slice none 0 0] 27); generalize hout : Px.program l = out at *; clear hout h; have HP := hid hp; clear hp; go_enter Tryz.func8, Tryz.ntmps8; go_wp2_with fail; refine HP.out.mono ?_; rintro e w1 ⟨hb, hres⟩; have hs1 := hb.size; simp only [World.size_alloc] at hs1; replace ER := hid (jA0 ER.out hb); have HB := hid (hal.trans (hb.mono hal.size)); clear hb hal HP; have rf := jA1 ER.out; have r0 := jA ER.out 0 _ rfl; have r1 := jA ER.out 1 _ rfl; cases out with
 | lex p =>
   obtain rfl : e = _ := hres; go_wp2_with fail; refine bodyPost_ret (v := .tuple #[.agg #[.slice none 0 0, .slice none 0 0], .int .i64 p, .int .i64 2]) (by simp [results, Tryz.results8, go_sem, r0, r1]) rfl ⟨?_, rfl⟩
   repeat (first | with_reducible exact HB.out | with_reducible refine Below.setCell ?_ (by dsimp only; omega) _)
 | parse p =>
   obtain rfl : e = _ := hres; go_wp2_with fail; refine bodyPost_ret (v := .tuple #[.agg #[.slice none 0 0, .slice none 0 0], .int .i64 p, .int .i64 3]) (by simp [results, Tryz.results8, go_sem, r0, r1]) rfl ⟨?_, rfl⟩
   repeat (first | with_reducible exact HB.out | with_reducible refine Below.setCell ?_ (by dsimp only; omega) _)
 | done x =>
   obtain ⟨av, rfl, hnew⟩ := hres; obtain ⟨dv, fv, rfl, hd1, hd2⟩ := hnew.now; obtain ⟨q1, c1, rfl⟩ := hd1.len; obtain ⟨q2, c2, rfl⟩ := hd2.len; clear hd1 hd2
   have Hnew := hid hnew; clear hnew; go_wp2_with fail; refine bodyPost_ret (v := .tuple #[.agg #[.slice q1 x.datas.length c1, .slice q2 x.defs.length c2], .int .i64 (-1), .int .i64 0]) (by simp [results, Tryz.results8, go_sem, r0, r1]) rfl ⟨?_, _, rfl, ?_⟩
   . repeat (first | with_reducible exact HB.out | with_reducible refine Below.setCell ?_ (by dsimp only; omega) _)
   . refine New.stay (w := w) Hnew.out (by simp) ?_
     repeat (first | with_reducible exact Stay.refl _ _ | with_reducible refine Stay.set ?_ _ _ _ (by simp))
def glue : List (List UInt8) -> List UInt8
 | [] => []
 | x :: r => x ++ r.flatMap fun y => 32 :: y
theorem jQN (l : List (List UInt8)) (x : List UInt8) (h : l ≠ []) : glue (l ++ [x]) = glue l ++ 32 :: x := by
 cases l with
 | nil => exact absurd rfl h
 | cons a r => simp [glue, List.flatMap_append]
theorem jQM {l : List (List UInt8)} {k : Nat} {x : List UInt8} (h : l[k]? = some x) : glue (l.take (k + 1)) = if k = 0 then x else glue (l.take k) ++ 32 :: x := by
 have hk : k < l.length := (List.getElem?_eq_some_iff.1 h).1; rw [List.take_add_one, h]; cases k with
 | zero => simp [glue]
 | succ k => rw [if_neg (by omega)]; exact jQN _ _ (by intro e; have := congrArg List.length e; rw [List.length_take] at this; simp only [List.length_nil] at this; omega)
def joined (l : List (List UInt8)) : List UInt8 := 40 :: (glue l ++ [41])
theorem jDH {w : World} (a b : List UInt8) (h : a.length + b.length <= 4000000) : (Op.stringOp .add ⟨a.toArray⟩ ⟨b.toArray⟩).run Tryz.prog w = .ok (.string ⟨(a ++ b).toArray⟩) w := by
 refine (run_string_add_sum (P := Tryz.prog) w ⟨a.toArray⟩ ⟨b.toArray⟩ (by simp [ByteArray.size]; omega)).trans ?_
 congr 2
theorem jP5 (l : List (List UInt8)) : ∀ k, (glue (l.take k)).length <= (glue l).length := by
 intro k; cases l with
 | nil => simp
 | cons a r =>
   cases k with
   | zero => simp [glue]
   | succ k =>
     simp only [List.take_succ_cons, glue, List.length_append]; refine Nat.add_le_add_left ?_ _
     induction r generalizing k with
     | nil => simp
     | cons b r ih => cases k with
       | zero => simp
       | succ k => simp only [List.take_succ_cons, List.flatMap_cons, List.length_append]; exact Nat.add_le_add_left (ih k) _
theorem jBX (v : Value) (l : List (List UInt8)) (w : World) (h : jAI 1 (jEL w) w v l) (hn : (glue l).length <= 900000) :
 Calls Tryz.prog 26 #[v] w fun e w' => e = .returned (.string ⟨(joined l).toArray⟩) /\ w' = w := by
 obtain ⟨p, c, rfl⟩ := h.len; have H := hid h; have HN := hid hn
 clear h hn; go_enter Tryz.func26, Tryz.ntmps26; go_wp2_with fail
 go_loopw [3, 4] (fun v i wr => wr = w /\ ∃ k : Nat, i = .int .i64 k /\ k <= l.length /\ v = .string ⟨(40 :: glue (l.take k)).toArray⟩) (fun _ i _ => l.length - (intOf i).toNat)
 case atStart => exact ⟨rfl, 0, rfl, Nat.zero_le _, by simp [glue]⟩
 case round =>
  obtain ⟨rfl, k, rfl, hk, rfl⟩ := hrel; have hle : (40 :: glue (l.take k)).length <= 900001 := by have := jP5 l k; have := HN.out; simp only [List.length_cons]; omega
  have HLE := hid hle; by_cases hlt : k < l.length
  . obtain ⟨x, hx⟩ : ∃ x, l[k]? = some x := ⟨_, List.getElem?_eq_getElem hlt⟩
    have ht := jQM hx; have hle2 := jP5 l (k + 1)
    have hxs : x.length <= 900000 := by
     have := HN.out; rw [ht] at hle2; split at hle2
     . omega
     . simp only [List.length_append, List.length_cons] at hle2; omega
    rcases H.out with ⟨rfl, _⟩ | ⟨g, o, c', hv, h1, h2, h3⟩
    . simp at hlt
    injection hv with hp _ hc
    subst hp; subst hc
    obtain ⟨u, hu, _, hcell⟩ := h3 k x hx; have hu' : u = .string ⟨x.toArray⟩ := hu; subst hu'; have hc0 := hcell 0 (.string ⟨x.toArray⟩) rfl; have HX := hid hx; clear hcell h3 hx; obtain ⟨T, hT⟩ : ∃ T, T = 40 :: glue (l.take k) := ⟨_, rfl⟩
    have HT := hid hT; rw [<- hT] at hle ⊢; clear hT; by_cases hk0 : k = 0
    . subst hk0; have hc1 : wr.cell? ⟨g, o, none⟩ = some (.string ⟨x.toArray⟩) := by simpa using hc0
      have hs := jDH (w := wr) T x (by omega); have hres : T ++ x = 40 :: glue (l.take 1) := by rw [HT.out]; rw [if_pos rfl] at ht; rw [ht]; simp [glue]
      clear ht hle2 hc0; go_wp2_with fail; exact ⟨⟨trivial, 1, rfl, by omega, rfl⟩, by simp [intOf]; omega⟩
    . have hs0 := jDH (w := wr) T [32] (by simp only [List.length_singleton]; omega); have hs := jDH (w := wr) (T ++ [32]) x (by simp only [List.length_append, List.length_singleton]; omega); have hres : T ++ [32] ++ x = 40 :: glue (l.take (k + 1)) := by rw [HT.out, ht, if_neg hk0]; simp
      have hk1 : (0 : Int) < (k : Int) := by omega
      have hc1 : wr.cell? ⟨g, o + k, none⟩ = some (.string ⟨x.toArray⟩) := by simpa using hc0
      clear ht hle2 hc0; go_wp2_with fail; exact ⟨⟨trivial, k + 1, rfl, by omega, rfl⟩, by simp [intOf]; omega⟩
  . obtain rfl : k = l.length := by omega
    obtain ⟨T, hT⟩ : ∃ T, T = 40 :: glue (l.take l.length) := ⟨_, rfl⟩
    have hj : T ++ [41] = joined l := by rw [hT, List.take_length]; rfl
    rw [<- hT] at hle ⊢; have hs := jDH (w := wr) T [41] (by simp only [List.length_singleton]; omega); rw [hj] at hs; clear hT hj HLE; go_wp2_with fail; go_ret; exact ⟨rfl, rfl⟩
theorem jKU (w : World) (l : List UInt8) (hl : l.length <= 1000000) : SliceAt (Lib.bytesWorld w 5 ⟨l.toArray⟩) (.slice (some ⟨w.heap.size, 0, none⟩) l.length (grownCap w l.length 0 5)) l :=
 .inr ⟨w.heap.size, 0, _, rfl, grownCap_ge _ _ _ _, (by have := grownCap_le_maxLen w l.length 0 5 (by unfold maxLen; omega); unfold maxLen at this; omega), jJZ w _ l⟩
theorem jHT (w : World) (l : List UInt8) (hl : l.length <= 1000000) : Calls Tryz.prog 8 #[.slice (some ⟨w.heap.size, 0, none⟩) l.length (grownCap w l.length 0 5)] (Lib.bytesWorld w 5 ⟨l.toArray⟩)
 (jES (jER 50) (.agg #[.slice none 0 0, .slice none 0 0]) (Lib.bytesWorld w 5 ⟨l.toArray⟩) (Px.program l)) :=
 jHP _ l _ (jKU w l hl)
theorem gPow : Tryz.prog.globalNamed "internal/strconv.uint64pow10" = some 0 := by kernel_rfl
theorem gPowType : (Tryz.prog.globals[0]?).map (·.type) = some 204 := by kernel_rfl
theorem cellsPow : Tryz.prog.cellsOf 204 = 20 := by kernel_rfl
theorem cellsU64 : Tryz.prog.cellsOf 195 = 1 := by kernel_rfl
theorem jQ1 {W : World} (h : laidMetH Tryz.prog jJ2 W) : Lib.TabIs Tryz.prog W "internal/strconv.uint64pow10" .u64 Lib.pow10Tab := by
 have h2 := laidMet.tail (laidMet.tail h); exact Lib.tabIs_of_head gPow gPowType Tryz.underlying204 Tryz.underlying195 cellsU64 cellsPow h2
theorem jHB (a b : List UInt8) : (⟨a.toArray⟩ : ByteArray) ++ (⟨b.toArray⟩ : ByteArray) = ⟨(a ++ b).toArray⟩ := by
 apply ByteArray.ext
 simp
theorem bytes_lit1 (a : List UInt8) (x : UInt8) : (⟨a.toArray⟩ : ByteArray) ++ (⟨#[x]⟩ : ByteArray) = ⟨(a ++ [x]).toArray⟩ := jHB a [x]
theorem jHI {f : Nat} {w : World} {v : Value} {x : Px.Prog} (h : jER f w v x) : ∃ (q1 : Option Addr) (c1 : Nat) (q2 : Option Addr) (c2 : Nat), v = .agg #[.slice q1 x.datas.length c1, .slice q2 x.defs.length c2] := by
 obtain ⟨dv, fv, rfl, h1, h2⟩ := h; obtain ⟨q1, c1, rfl⟩ := h1.len; obtain ⟨q2, c2, rfl⟩ := h2.len; exact ⟨_, _, _, _, rfl⟩
theorem jNU (n : Int) (h0 : -9223372036854775808 <= n) (h1 : n <= 9223372036854775807) (w : World) (htab : Lib.TabIs Tryz.prog w "internal/strconv.uint64pow10" .u64 Lib.pow10Tab) :
 Calls Tryz.prog 35 #[.int .i64 n] w fun e w' => e = .returned (.string ⟨(Lib.itoa n).toArray⟩) /\ Below w.heap.size w w' := by
 go_enter Tryz.func35, Tryz.ntmps35; go_wp2_with fail
 have hc : Calls Tryz.prog 73 #[.int .i64 n, .int .i64 10] w fun e w' => e = .returned (.string ⟨(Lib.itoa n).toArray⟩) /\ Below w.heap.size w w' := by
  refine (Tryz.strconv_FormatInt_10 n h0 h1 w htab).mono ?_; rintro e w' ⟨rfl, k, os, rfl⟩; exact ⟨rfl, Lib.below_grow _ _ (Nat.le_refl _) _ _⟩
 refine hc.mono ?_; rintro e w1 ⟨rfl, hb⟩; go_wp2_with fail; go_ret; exact ⟨rfl, hb⟩
namespace Px
def showT : Nat -> TypeE -> List UInt8
 | 0, _ => []
 | f + 1, .mk _ nm args => if args = [] then nm else joined (nm :: args.map (showT f))
def showP : Nat -> Pat -> List UInt8
 | 0, _ => []
 | f + 1, .mk k _ nm i args => if k = 0 then [95] else if k = 2 then Lib.itoa i else if args = [] then nm else joined (nm :: args.map (showP f))
def showE : Nat -> Expr -> List UInt8
 | 0, _ => []
 | f + 1, .mk k _ nm i ns xs al =>
   let l := xs.map (showE f)
   if l = [] /\ (k = 3 \/ k = 5) \/ k = 4 /\ l.length ≠ ns.length + 1 then [63]
   else if k = 0 then Lib.itoa i
   else if k = 1 then nm
   else if k = 2 then (if l = [] then nm else joined (nm :: l))
   else if k = 7 then joined (nm :: l)
   else if k = 3 then joined [[102, 110], joined ns, l.headD []]
   else if k = 6 then joined l
   else if k = 8 then [102, 97, 105, 108]
   else if k = 4 then joined [[108, 101, 116], joined ((ns.zip l).map fun p => joined [p.1, p.2]), l.getLastD []]
   else joined ([99, 97, 115, 101] :: l.headD [] :: al.map fun a => joined [showP f a.1, showE f a.2])
def jD2 (f : Nat) (c : Con) : List UInt8 := joined (c.name :: c.fields.map (showT f))
def jBJ (f : Nat) (d : Data) : List UInt8 := joined ([100, 97, 116, 97] :: d.name :: joined d.params :: d.cons.map (jD2 f))
def jC0 (f : Nat) (d : Def) : List UInt8 := joined [[100, 101, 102], d.name, joined d.params, showE f d.body]
def jB1 (f : Nat) (p : Prog) : List UInt8 := (p.datas.map fun d => jBJ f d ++ [10]).flatten ++ (p.defs.map fun d => jC0 f d ++ [10]).flatten
end Px
end Go.Proofs.YtnhndamfbeiljaaGreatDoor
