/-
  Several texts in one: PJoin, PProgOf, PText.
-/
import Derived.Test.YtnhndamfbeiljaaGreatDoorGRead
import Derived.Test.YtnhndamfbeiljaaGreatDoorGProg
import Derived.Test.YtnhndamfbeiljaaGreatDoorGList
import Derived.Recover
import Derived.BigRegion
import Derived.Deep.DeepCutAuto
import Derived.Test.YtnhndamfbeiljaaGreatDoorKPLetA
import Derived.Test.YtnhndamfbeiljaaGreatDoorGOwn
import Derived.Test.YtnhndamfbeiljaaGreatDoorGTok
import Derived.Lib.AppendIntMem
import Derived.Stop.LaidErr
namespace Go.Proofs.YtnhndamfbeiljaaGreatDoor
open Go Go.RowKit

def glue : List (List UInt8) → List UInt8
  | [] => []
  | x :: r => x ++ r.flatMap fun y => 32 :: y
theorem glue_snoc (l : List (List UInt8)) (x : List UInt8) (h : l ≠ []) : glue (l ++ [x]) = glue l ++ 32 :: x := by
  cases l with
  | nil => exact absurd rfl h
  | cons a r => simp [glue, List.flatMap_append]
theorem glue_take {l : List (List UInt8)} {k : Nat} {x : List UInt8} (h : l[k]? = some x) : glue (l.take (k + 1)) = if k = 0 then x else glue (l.take k) ++ 32 :: x := by
  have hk : k < l.length := (List.getElem?_eq_some_iff.1 h).1
  rw [List.take_add_one, h]
  cases k with
  | zero => simp [glue]
  | succ k => rw [if_neg (by omega)]; exact glue_snoc _ _ (by intro e; have := congrArg List.length e; rw [List.length_take] at this; simp only [List.length_nil] at this; omega)
def joined (l : List (List UInt8)) : List UInt8 := 40 :: (glue l ++ [41])
theorem sum_text {w : World} (a b : List UInt8) (h : a.length + b.length ≤ 4000000) : (Op.stringOp .add ⟨a.toArray⟩ ⟨b.toArray⟩).run Tryz.prog w = .ok (.string ⟨(a ++ b).toArray⟩) w := by
  refine (run_string_add_sum (P := Tryz.prog) w ⟨a.toArray⟩ ⟨b.toArray⟩ (by simp [ByteArray.size]; omega)).trans ?_
  congr 2
theorem glue_le (l : List (List UInt8)) : ∀ k, (glue (l.take k)).length ≤ (glue l).length := by
  intro k
  cases l with
  | nil => simp
  | cons a r =>
    cases k with
    | zero => simp [glue]
    | succ k =>
      simp only [List.take_succ_cons, glue, List.length_append]
      refine Nat.add_le_add_left ?_ _
      induction r generalizing k with
      | nil => simp
      | cons b r ih => cases k with
        | zero => simp
        | succ k => simp only [List.take_succ_cons, List.flatMap_cons, List.length_append]; exact Nat.add_le_add_left (ih k) _

set_option maxHeartbeats 1000000 in
set_option maxRecDepth 100000 in
theorem join_any (v : Value) (l : List (List UInt8)) (w : World) (h : RowAt 1 (StrAt w) w v l) (hn : (glue l).length ≤ 900000) :
    Calls Tryz.prog 26 #[v] w fun e w' => e = .returned (.string ⟨(joined l).toArray⟩) ∧ w' = w := by
  obtain ⟨p, c, rfl⟩ := h.len
  have H := Lib.hid h; have HN := Lib.hid hn
  clear h hn
  go_enter Tryz.func26, Tryz.ntmps26
  go_wp2_with fail
  go_loopw [3, 4] (fun v i wr => wr = w ∧ ∃ k : Nat, i = .int .i64 k ∧ k ≤ l.length ∧ v = .string ⟨(40 :: glue (l.take k)).toArray⟩) (fun _ i _ => l.length - (intOf i).toNat)
  case atStart => exact ⟨rfl, 0, rfl, Nat.zero_le _, by simp [glue]⟩
  case round =>
    obtain ⟨rfl, k, rfl, hk, rfl⟩ := hrel
    have hle : (40 :: glue (l.take k)).length ≤ 900001 := by have := glue_le l k; have := HN.out; simp only [List.length_cons]; omega
    have HLE := Lib.hid hle
    by_cases hlt : k < l.length
    · obtain ⟨x, hx⟩ : ∃ x, l[k]? = some x := ⟨_, List.getElem?_eq_getElem hlt⟩
      have ht := glue_take hx
      have hle2 := glue_le l (k + 1)
      have hxs : x.length ≤ 900000 := by
        have := HN.out
        rw [ht] at hle2; split at hle2
        · omega
        · simp only [List.length_append, List.length_cons] at hle2; omega
      rcases H.out with ⟨rfl, _⟩ | ⟨g, o, c', hv, h1, h2, h3⟩
      · simp at hlt
      injection hv with hp _ hc
      subst hp; subst hc
      obtain ⟨u, hu, _, hcell⟩ := h3 k x hx
      have hu' : u = .string ⟨x.toArray⟩ := hu
      subst hu'
      have hc0 := hcell 0 (.string ⟨x.toArray⟩) rfl
      have HX := Lib.hid hx
      clear hcell h3 hx
      obtain ⟨T, hT⟩ : ∃ T, T = 40 :: glue (l.take k) := ⟨_, rfl⟩
      have HT := Lib.hid hT
      rw [← hT] at hle ⊢
      clear hT
      by_cases hk0 : k = 0
      · subst hk0
        have hc1 : wr.cell? ⟨g, o, none⟩ = some (.string ⟨x.toArray⟩) := by simpa using hc0
        have hs := sum_text (w := wr) T x (by omega)
        have hres : T ++ x = 40 :: glue (l.take 1) := by rw [HT.out]; rw [if_pos rfl] at ht; rw [ht]; simp [glue]
        clear ht hle2 hc0
        go_wp2_with fail
        exact ⟨⟨trivial, 1, rfl, by omega, rfl⟩, by simp [intOf]; omega⟩
      · have hs0 := sum_text (w := wr) T [32] (by simp only [List.length_singleton]; omega)
        have hs := sum_text (w := wr) (T ++ [32]) x (by simp only [List.length_append, List.length_singleton]; omega)
        have hres : T ++ [32] ++ x = 40 :: glue (l.take (k + 1)) := by rw [HT.out, ht, if_neg hk0]; simp
        have hk1 : (0 : Int) < (k : Int) := by omega
        have hc1 : wr.cell? ⟨g, o + k, none⟩ = some (.string ⟨x.toArray⟩) := by simpa using hc0
        clear ht hle2 hc0
        go_wp2_with fail
        exact ⟨⟨trivial, k + 1, rfl, by omega, rfl⟩, by simp [intOf]; omega⟩
    · obtain rfl : k = l.length := by omega
      obtain ⟨T, hT⟩ : ∃ T, T = 40 :: glue (l.take l.length) := ⟨_, rfl⟩
      have hj : T ++ [41] = joined l := by rw [hT, List.take_length]; rfl
      rw [← hT] at hle ⊢
      have hs := sum_text (w := wr) T [41] (by simp only [List.length_singleton]; omega)
      rw [hj] at hs
      clear hT hj HLE
      go_wp2_with fail
      go_ret
      exact ⟨rfl, rfl⟩
end Go.Proofs.YtnhndamfbeiljaaGreatDoor

namespace Go.Proofs.YtnhndamfbeiljaaGreatDoor
open Go Go.RowKit

def ofRProgram {α : Type} (r : Px.R α) : Px.Outcome α := match r with
  | .error p => .parse p
  | .ok x => .done x
theorem parsed_okProgram {α : Type} (read : Nat → List Lx.Tok → Px.R α) (l : List UInt8) (ts : List Lx.Tok) (h : ¬ 4096 < l.length) (ht : Lx.toks (l.length + 1) 0 l = (ts, none)) : Px.parsed read l = ofRProgram (read l.length ts) := by
  unfold Px.parsed ofRProgram; rw [if_neg h, ht]; dsimp only; cases read l.length ts <;> rfl
set_option maxHeartbeats 1000000 in
theorem toldProgram (b1 b2 p : Nat) (w : World) (x1 x2 : Int) (h1 : w.heap[b1]? = some (.cells #[.int .i64 x1] 3 (0, 0))) (h2 : w.heap[b2]? = some (.cells #[.int .i64 x2] 28 (0, 0))) (hne : b1 ≠ b2) :
    CallsD Tryz.prog 43 #[.pointer (some ⟨b1, 0, none⟩), .pointer (some ⟨b2, 0, none⟩)] (.panicking [{ v := wrongV p, recovered := false }]) w fun e u' w' =>
      e = .returned (.tuple #[]) ∧ u' = .panicking [{ v := wrongV p, recovered := true }] ∧ w' = (w.setCell ⟨b1, 0, none⟩ (.int .i64 p)).setCell ⟨b2, 0, none⟩ (.int .i64 3) := by
  have c1 : w.cell? ⟨b1, 0, none⟩ = some (.int .i64 x1) := ent_cell h1 0 _ rfl
  have c2 : w.cell? ⟨b2, 0, none⟩ = some (.int .i64 x2) := ent_cell h2 0 _ rfl
  have f1 := ent_free h1 0; have f2 := ent_free h2 0
  have hta : ∀ u : World, (Instr.typeAssert (.iface 95 (.agg #[.int .i64 p])) 20 95 false).run Tryz.prog u = .ok (.agg #[.int .i64 p]) u := fun u => by kernel_rfl
  have hfd : ∀ u : World, (Instr.field 95 (.agg #[.int .i64 p]) 0).run Tryz.prog u = .ok (.int .i64 p) u := fun u => by kernel_rfl
  refine callsD_of_wpS Tryz.func43 rfl fun c₀ cs hu => ?_
  unfold wrongV at hu
  apply wpS_seq
  apply wpS_region
  simp [wpOpsS, go_sem, recoverD, hu, Tryz.ntmps43, Exit.thenS]
  apply wpS_seq
  apply wpS_region
  simp [wpOpsS, go_sem, Exit.thenS]
  refine wpS_cond (t := true) (by simp [Act.eval, Array.replicate]) ?_
  simp only [if_true]
  apply wpS_region
  simp [wpOpsS, go_sem, hta, hfd, c1, c2, f1, f2, bodyPostS, results, Tryz.results43]
  rfl

theorem idleProgram (a1 a2 : Value) (w : World) :
    CallsD Tryz.prog 43 #[a1, a2] .returning w fun e u' w' => e = .returned (.tuple #[]) ∧ u' = .returning ∧ w' = w := by
  refine callsD_of_wpS Tryz.func43 rfl fun c₀ cs hu => ?_
  apply wpS_seq
  apply wpS_region
  simp [wpOpsS, go_sem, recoverD, hu, Tryz.ntmps43, Exit.thenS]
  apply wpS_seq
  apply wpS_region
  simp [wpOpsS, go_sem, Exit.thenS]
  refine wpS_cond (t := false) (by simp [Act.eval, Array.replicate]) ?_
  simp only [Bool.false_eq_true, if_false]
  refine wpS_of_wp (wp_skip ?_)
  cases c₀
  simp_all [bodyPostS, results, Tryz.results43]

set_option maxHeartbeats 2000000 in
set_option maxRecDepth 100000 in
theorem parsedProgram (v : Value) (l : List UInt8) (w : World) (h : SliceAt w v l) :
    Calls Tryz.prog 22 #[v, .func (.func 23) #[] #[]] w (ParsedPost (ProgAt 50) (.agg #[.slice none 0 0, .slice none 0 0]) w (Px.program l)) := by
  have hmf : ∀ (fn : Fn) (first cap : Array Value) (w : World), (Instr.makeFunc fn first cap).run Tryz.prog w = .ok (.func fn first cap) w := fun _ _ _ _ => rfl
  generalize hout : Px.program l = out
  have HOUT := Lib.hid hout
  clear hout
  have hw0 : ∀ u, Below w.heap.size w u → SliceAt u v l := fun u hu => sliceAt_below h hu
  have HSL := Lib.hid hw0
  obtain ⟨vp, vc, rfl⟩ : ∃ p c, v = .slice p l.length c := by
    rcases h with ⟨p, c, rfl, rfl⟩ | ⟨b, o, c, rfl, _⟩
    · exact ⟨p, c, rfl⟩
    · exact ⟨_, c, rfl⟩
  clear h hw0
  go_enter_defers Tryz.func22, Tryz.ntmps22
  go_wp2_with fail
  have EP := Lib.hid (ent_alloc (ent_alloc (ent_new w #[.slice none 0 0, .slice none 0 0] 27) (.cells #[.int .i64 0] 3)) (.cells #[.int .i64 0] 28))
  have EQ0 := ent_alloc (ent_new (w.alloc (.cells #[.slice none 0 0, .slice none 0 0] 27)) #[.int .i64 0] 3) (.cells #[.int .i64 0] 28)
  have EE0 := ent_new ((w.alloc (.cells #[.slice none 0 0, .slice none 0 0] 27)).alloc (.cells #[.int .i64 0] 3)) #[.int .i64 0] 28
  simp only [World.size_alloc] at EQ0 EE0
  have EQ := Lib.hid EQ0; have EE := Lib.hid EE0
  have HB := Lib.hid ((((Below.refl w.heap.size w).alloc (Nat.le_refl _) (.cells #[.slice none 0 0, .slice none 0 0] 27)).alloc (by simp) (.cells #[.int .i64 0] 3)).alloc (by simp; omega) (.cells #[.int .i64 0] 28))
  clear EQ0 EE0
  refine (tokens_any _ l _ (HSL.out _ HB.out)).mono ?_
  rintro e w1 ⟨tv, ts, tp, tc, rfl, hB, hown, hcase⟩
  have hsz : w.heap.size + 3 ≤ w1.heap.size := by have := hB.size; simp only [World.size_alloc] at this; omega
  replace EP := Lib.hid (ent_below EP.out hB); replace EQ := Lib.hid (ent_below EQ.out hB); replace EE := Lib.hid (ent_below EE.out hB)
  replace HB := Lib.hid (HB.out.trans (hB.mono HB.out.size))
  have HOWN := Lib.hid hown; have HCASE := Lib.hid hcase
  clear hB hown hcase
  have q0 := ent_cell EQ.out 0 _ rfl; have e0 := ent_cell EE.out 0 _ rfl; have qf := ent_free EQ.out; have ef := ent_free EE.out
  obtain ⟨tpp, tpc, rfl⟩ := own_slice HOWN.out
  have mk : ∀ tcv : Int, Hid ((((w1.setCell ⟨w.heap.size + 1, 0, none⟩ (.int .i64 tp)).setCell ⟨w.heap.size + 1 + 1, 0, none⟩ (.int .i64 tcv))).heap[w.heap.size]? = some (.cells #[.slice none 0 0, .slice none 0 0] 27 (0, 0))) ∧
      Hid ((((w1.setCell ⟨w.heap.size + 1, 0, none⟩ (.int .i64 tp)).setCell ⟨w.heap.size + 1 + 1, 0, none⟩ (.int .i64 tcv))).heap[w.heap.size + 1]? = some (.cells #[.int .i64 tp] 3 (0, 0))) ∧
      Hid ((((w1.setCell ⟨w.heap.size + 1, 0, none⟩ (.int .i64 tp)).setCell ⟨w.heap.size + 1 + 1, 0, none⟩ (.int .i64 tcv))).heap[w.heap.size + 1 + 1]? = some (.cells #[.int .i64 tcv] 28 (0, 0))) ∧
      Hid (Below w.heap.size w ((w1.setCell ⟨w.heap.size + 1, 0, none⟩ (.int .i64 tp)).setCell ⟨w.heap.size + 1 + 1, 0, none⟩ (.int .i64 tcv))) := fun tcv =>
    ⟨Lib.hid (ent_other (ent_other EP.out _ 0 _ (by omega)) _ 0 _ (by omega)), Lib.hid (ent_other (ent_set EQ.out 0 (.int .i64 tp)) _ 0 _ (by omega)), Lib.hid (ent_set (ent_other EE.out _ 0 _ (by omega)) 0 (.int .i64 tcv)), Lib.hid ((HB.out.setCell (by dsimp only; omega) _).setCell (by dsimp only; omega) _)⟩
  have MK := Lib.hid mk
  clear mk
  by_cases hc : tc = 0
  · subst hc
    have hlx : l.length ≤ 4096 ∧ Lx.toks (l.length + 1) 0 l = (ts, none) ∧ tp = -1 := by
      rcases HCASE.out with ⟨_, _, _, h⟩ | ⟨_, q, _, _, _, h⟩ | ⟨h1, h2, h3, _⟩
      · omega
      · omega
      · exact ⟨h1, h2, h3⟩
    obtain ⟨hl4, htk, rfl⟩ := hlx
    have HTK := Lib.hid htk
    clear htk
    go_wp2_with fail
    clear q0 e0 qf ef
    obtain ⟨EP2, EQ2, EE2, HB2⟩ := MK.out 0
    have hown2 : ((w1.setCell ⟨w.heap.size + 1, 0, none⟩ (.int .i64 (-1))).setCell ⟨w.heap.size + 1 + 1, 0, none⟩ (.int .i64 0)).ownsRow (w.heap.size + 3) 102 4 (.slice tpp ts.length tpc) ts.length (toksCells ts) :=
      own_stays (by simpa using HOWN.out) fun b hb => by
        have := (HOWN.out.lt b hb).1
        simp only [World.size_alloc] at this
        rw [Below.heap_setCell _ _ _ _ (by dsimp only; omega), Below.heap_setCell _ _ _ _ (by dsimp only; omega)]
    have HO2 := Lib.hid hown2
    have hWs : w.heap.size + 3 ≤ ((w1.setCell ⟨w.heap.size + 1, 0, none⟩ (.int .i64 (-1))).setCell ⟨w.heap.size + 1 + 1, 0, none⟩ (.int .i64 0)).heap.size := by simpa using hsz
    clear hown2 MK
    generalize ((w1.setCell ⟨w.heap.size + 1, 0, none⟩ (.int .i64 (-1))).setCell ⟨w.heap.size + 1 + 1, 0, none⟩ (.int .i64 0)) = W at *
    refine (prims_any _).mono ?_
    rintro e w2 ⟨rfl, rfl⟩
    have EB := Lib.hid (heap_alloc_new W (.map primsEs 12))
    replace EP2 := Lib.hid (ent_alloc EP2.out (.map primsEs 12)); replace EQ2 := Lib.hid (ent_alloc EQ2.out (.map primsEs 12)); replace EE2 := Lib.hid (ent_alloc EE2.out (.map primsEs 12))
    replace HB2 := Lib.hid (HB2.out.alloc HB2.out.size (.map primsEs 12)); replace HO2 := Lib.hid (HO2.out.alloc (.map primsEs 12))
    have hV : (W.alloc (.map primsEs 12)).heap.size = W.heap.size + 1 := by simp
    obtain ⟨B, hB⟩ : ∃ B, B = W.heap.size := ⟨_, rfl⟩
    have HV := Lib.hid hV; have HBB := Lib.hid hB
    clear hV
    rw [← hB] at EB ⊢
    clear hB
    generalize W.alloc (.map primsEs 12) = V at *
    go_wp2_with fail
    have hts : ts.length ≤ 4096 := by have := Lx.toks_len (l.length + 1) 0 l; rw [HTK.out] at this; simp only at this; omega
    have hrd := reader_new V tpp tpc ts l.length B _ HO2.out EB.out hts hl4
    have hVs : w.heap.size + 3 < V.heap.size + 1 := by have := HV.out; omega
    have hr := program_any V.heap.size (.slice tpp ts.length tpc) ts l.length B _ hrd
    refine hr.mono ?_
    rintro e w3 ⟨hg, hres⟩
    have hnr : ∀ b, b < V.heap.size → w3.heap[b]? = V.heap[b]? := fun b hb => (hg.block b (by simp; omega) (fun e => by simp at e; omega)).trans (Below.heap_alloc V _ b hb)
    have hgs : V.heap.size + 1 ≤ w3.heap.size := by have := hg.size; simpa using this
    replace EP2 := Lib.hid ((hnr _ (by omega)).trans EP2.out); replace EQ2 := Lib.hid ((hnr _ (by omega)).trans EQ2.out); replace EE2 := Lib.hid ((hnr _ (by omega)).trans EE2.out)
    have HB3 : Hid (Below w.heap.size w w3) := Lib.hid ⟨hg.os.trans HB2.out.os, hg.tape.trans HB2.out.tape, hg.output.trans HB2.out.output, by have := HB2.out.size; omega, fun b hb => (hnr b (by omega)).trans (HB2.out.block b hb)⟩
    have hlo : V.heap.size + 1 ≤ (V.alloc (.cells #[.slice tpp ts.length tpc, .int .i64 0, .int .i64 l.length, .map (some B)] 100)).heap.size := by simp
    clear hr hrd hnr hg
    have hpx : out = ofRProgram (Px.prog l.length (ts.length + 1) 0 ts) := by
      rw [← HOUT.out]; exact parsed_okProgram (fun stop ts => Px.prog stop (ts.length + 1) 0 ts) l ts (by omega) HTK.out
    cases hpr : Px.prog l.length (ts.length + 1) 0 ts with
    | error p =>
      rw [hpr] at hres hpx
      obtain rfl : e = wrongAt p := hres
      obtain rfl : out = .parse p := hpx
      have ne1 : w.heap.size + 1 ≠ w.heap.size + 1 + 1 := by omega
      refine leaves_cons (f := 43) (args := #[.pointer (some ⟨w.heap.size + 1, 0, none⟩), .pointer (some ⟨w.heap.size + 1 + 1, 0, none⟩)]) (by simp) (by simp [go_sem]) ?_
      refine (toldProgram (w.heap.size + 1) (w.heap.size + 1 + 1) p w3 _ _ EQ2.out EE2.out ne1).mono ?_
      rintro e u' w'' ⟨rfl, rfl, rfl⟩
      have EP3 := ent_other (ent_other EP2.out (w.heap.size + 1) 0 (.int .i64 p) (by omega)) (w.heap.size + 1 + 1) 0 (.int .i64 3) (by omega)
      have EQ3 := ent_other (ent_set EQ2.out 0 (.int .i64 p)) (w.heap.size + 1 + 1) 0 (.int .i64 3) (by omega)
      have EE3 := ent_set (ent_other EE2.out (w.heap.size + 1) 0 (.int .i64 p) (by omega)) 0 (.int .i64 3)
      have hbf := (HB3.out.setCell (p := ⟨w.heap.size + 1, 0, none⟩) (by dsimp only; omega) (.int .i64 p)).setCell (p := ⟨w.heap.size + 1 + 1, 0, none⟩) (by dsimp only; omega) (.int .i64 3)
      generalize (w3.setCell ⟨w.heap.size + 1, 0, none⟩ (.int .i64 p)).setCell ⟨w.heap.size + 1 + 1, 0, none⟩ (.int .i64 3) = U at *
      have q0 : U.cell? ⟨w.heap.size + 1, 0, none⟩ = some (.int .i64 p) := ent_cell EQ3 0 _ rfl; have e0 : U.cell? ⟨w.heap.size + 1 + 1, 0, none⟩ = some (.int .i64 3) := ent_cell EE3 0 _ rfl
      have p0 := ent_cell EP3 0 _ rfl
      have p1 := ent_cell EP3 1 _ rfl
      refine ⟨.tuple #[.agg #[.slice none 0 0, .slice none 0 0], .int .i64 p, .int .i64 3], by simp [results, Tryz.results22, go_sem, p0, p1, q0, e0], hbf, rfl⟩
    | ok x =>
      rw [hpr] at hres hpx
      obtain ⟨v, rfl, hnew⟩ := hres
      obtain rfl : out = .done x := hpx
      obtain ⟨dv, fv, rfl, hd1, hd2⟩ := hnew.now; obtain ⟨q1, c1, rfl⟩ := hd1.len; obtain ⟨q2, c2, rfl⟩ := hd2.len; clear hd1 hd2
      have Hnew := Lib.hid hnew; have HPR := Lib.hid hpr
      clear hnew hpr
      have pf := ent_free EP2.out; have qf := ent_free EQ2.out; have ef := ent_free EE2.out
      have q0 : w3.cell? ⟨w.heap.size + 1, 0, none⟩ = some (.int .i64 (-1)) := ent_cell EQ2.out 0 _ rfl; have e0 : w3.cell? ⟨w.heap.size + 1 + 1, 0, none⟩ = some (.int .i64 0) := ent_cell EE2.out 0 _ rfl
      have p0 := ent_cell EP2.out 0 _ rfl
      have p1 := ent_cell EP2.out 1 _ rfl
      go_wp2_with fail
      refine leaves_cons (f := 43) (args := #[.pointer (some ⟨w.heap.size + 1, 0, none⟩), .pointer (some ⟨w.heap.size + 1 + 1, 0, none⟩)]) (by simp) (by simp [go_sem]) ?_
      refine (idleProgram _ _ _).mono ?_
      rintro e u' w'' ⟨rfl, rfl, rfl⟩
      refine ⟨.tuple #[.agg #[.slice q1 x.datas.length c1, .slice q2 x.defs.length c2], .int .i64 (-1), .int .i64 0], by simp [results, Tryz.results22, go_sem, p0, p1, q0, e0], ?_, _, rfl, ?_⟩
      · repeat (first | with_reducible exact HB3.out | with_reducible refine Below.setCell ?_ (by dsimp only; omega) _)
      · refine New.stay (w := w) Hnew.out (by omega) ?_
        repeat (first | with_reducible exact Stay.refl _ _ | with_reducible refine Stay.set ?_ _ _ _ (by omega))
  · have hc2 : tc = 2 := by rcases HCASE.out with ⟨_, _, _, h⟩ | ⟨_, q, _, _, _, h⟩ | ⟨_, _, _, h⟩ <;> omega
    subst hc2
    have hpc : ∃ tq : Nat, tp = tq ∧ out = .lex tq := by
      rcases HCASE.out with ⟨h1, h2, h3, h4⟩ | ⟨h1, q, h2, h3, h4, h5⟩ | ⟨_, _, _, h⟩
      · rw [← HOUT.out]; unfold Px.program Px.parsed; rw [if_pos h1]; exact ⟨4096, h3, rfl⟩
      · rw [← HOUT.out]; unfold Px.program Px.parsed; rw [if_neg (by omega)]
        refine ⟨q, h4, ?_⟩
        cases hx : Lx.toks (l.length + 1) 0 l with
        | mk a b => rw [hx] at h2; simp only at h2; subst h2; rfl
      · omega
    obtain ⟨tq, rfl, rfl⟩ := hpc
    go_upto_region 3 with fail
    obtain ⟨EP2, EQ2, EE2, HB2⟩ := MK.out 2
    generalize ((w1.setCell ⟨w.heap.size + 1, 0, none⟩ (.int .i64 tq)).setCell ⟨w.heap.size + 1 + 1, 0, none⟩ (.int .i64 2)) = W at *
    clear q0 e0 qf ef
    have pf := ent_free EP2.out; have qf := ent_free EQ2.out; have ef := ent_free EE2.out
    have q0 : W.cell? ⟨w.heap.size + 1, 0, none⟩ = some (.int .i64 tq) := ent_cell EQ2.out 0 _ rfl; have e0 : W.cell? ⟨w.heap.size + 1 + 1, 0, none⟩ = some (.int .i64 2) := ent_cell EE2.out 0 _ rfl
    have p0 := ent_cell EP2.out 0 _ rfl
    have p1 := ent_cell EP2.out 1 _ rfl
    go_region
    all_goals
      go_wp2_with fail
      refine ⟨.tuple #[.agg #[.slice none 0 0, .slice none 0 0], .int .i64 tq, .int .i64 2], by simp [results, Tryz.results22, go_sem, p0, p1, q0, e0], ?_, rfl⟩
      repeat (first | with_reducible exact HB2.out | with_reducible refine Below.drew ?_ | with_reducible refine Below.setCell ?_ (by dsimp only; omega) _)
set_option maxHeartbeats 1000000 in
theorem Program_any (v : Value) (l : List UInt8) (w : World) (h : SliceAt w v l) :
    Calls Tryz.prog 8 #[v] w (ParsedPost (ProgAt 50) (.agg #[.slice none 0 0, .slice none 0 0]) w (Px.program l)) := by
  have hal : Below w.heap.size w (w.alloc (.cells #[.slice none 0 0, .slice none 0 0] 27)) := (Below.refl _ _).alloc (Nat.le_refl _) _
  have hp := parsedProgram v l _ (sliceAt_below h hal)
  have ER := Lib.hid (ent_new w #[.slice none 0 0, .slice none 0 0] 27)
  generalize hout : Px.program l = out at *
  clear hout h
  have HP := Lib.hid hp
  clear hp
  go_enter Tryz.func8, Tryz.ntmps8
  go_wp2_with fail
  refine HP.out.mono ?_
  rintro e w1 ⟨hb, hres⟩
  have hs1 := hb.size
  simp only [World.size_alloc] at hs1
  replace ER := Lib.hid (ent_below ER.out hb)
  have HB := Lib.hid (hal.trans (hb.mono hal.size))
  clear hb hal HP
  have rf := ent_free ER.out
  have r0 := ent_cell ER.out 0 _ rfl
  have r1 := ent_cell ER.out 1 _ rfl
  cases out with
  | lex p =>
    obtain rfl : e = _ := hres
    go_wp2_with fail
    refine bodyPost_ret (v := .tuple #[.agg #[.slice none 0 0, .slice none 0 0], .int .i64 p, .int .i64 2]) (by simp [results, Tryz.results8, go_sem, r0, r1]) rfl ⟨?_, rfl⟩
    repeat (first | with_reducible exact HB.out | with_reducible refine Below.setCell ?_ (by dsimp only; omega) _)
  | parse p =>
    obtain rfl : e = _ := hres
    go_wp2_with fail
    refine bodyPost_ret (v := .tuple #[.agg #[.slice none 0 0, .slice none 0 0], .int .i64 p, .int .i64 3]) (by simp [results, Tryz.results8, go_sem, r0, r1]) rfl ⟨?_, rfl⟩
    repeat (first | with_reducible exact HB.out | with_reducible refine Below.setCell ?_ (by dsimp only; omega) _)
  | done x =>
    obtain ⟨av, rfl, hnew⟩ := hres
    obtain ⟨dv, fv, rfl, hd1, hd2⟩ := hnew.now; obtain ⟨q1, c1, rfl⟩ := hd1.len; obtain ⟨q2, c2, rfl⟩ := hd2.len; clear hd1 hd2
    have Hnew := Lib.hid hnew
    clear hnew
    go_wp2_with fail
    refine bodyPost_ret (v := .tuple #[.agg #[.slice q1 x.datas.length c1, .slice q2 x.defs.length c2], .int .i64 (-1), .int .i64 0]) (by simp [results, Tryz.results8, go_sem, r0, r1]) rfl ⟨?_, _, rfl, ?_⟩
    · repeat (first | with_reducible exact HB.out | with_reducible refine Below.setCell ?_ (by dsimp only; omega) _)
    · refine New.stay (w := w) Hnew.out (by simp) ?_
      repeat (first | with_reducible exact Stay.refl _ _ | with_reducible refine Stay.set ?_ _ _ _ (by simp))
end Go.Proofs.YtnhndamfbeiljaaGreatDoor

namespace Go.Proofs.YtnhndamfbeiljaaGreatDoor
open Go Go.RowKit
set_option linter.unusedVariables false
set_option linter.unusedSimpArgs false

theorem sliceAt_text (w : World) (l : List UInt8) (hl : l.length ≤ 1000000) : SliceAt (Lib.bytesWorld w 5 ⟨l.toArray⟩) (.slice (some ⟨w.heap.size, 0, none⟩) l.length (grownCap w l.length 0 5)) l :=
  .inr ⟨w.heap.size, 0, _, rfl, grownCap_ge _ _ _ _, (by have := grownCap_le_maxLen w l.length 0 5 (by unfold maxLen; omega); unfold maxLen at this; omega), bytesWorld_at w _ l⟩
theorem expr_of_text (w : World) (l : List UInt8) (hl : l.length ≤ 1000000) : Calls Tryz.prog 21 #[.slice (some ⟨w.heap.size, 0, none⟩) l.length (grownCap w l.length 0 5)] (Lib.bytesWorld w 5 ⟨l.toArray⟩)
    (ParsedPost (ExprAt 50) (.agg #[.int .i64 0, .int .i64 0, .string ⟨#[]⟩, .int .i64 0, .slice none 0 0, .slice none 0 0, .slice none 0 0]) (Lib.bytesWorld w 5 ⟨l.toArray⟩) (Px.exprOf l)) :=
  Expr_any _ l _ (sliceAt_text w l hl)
theorem program_of_text (w : World) (l : List UInt8) (hl : l.length ≤ 1000000) : Calls Tryz.prog 8 #[.slice (some ⟨w.heap.size, 0, none⟩) l.length (grownCap w l.length 0 5)] (Lib.bytesWorld w 5 ⟨l.toArray⟩)
    (ParsedPost (ProgAt 50) (.agg #[.slice none 0 0, .slice none 0 0]) (Lib.bytesWorld w 5 ⟨l.toArray⟩) (Px.program l)) :=
  Program_any _ l _ (sliceAt_text w l hl)

theorem gPow : Tryz.prog.globalNamed "internal/strconv.uint64pow10" = some 0 := by kernel_rfl
theorem gPowType : (Tryz.prog.globals[0]?).map (·.type) = some 204 := by kernel_rfl
theorem cellsPow : Tryz.prog.cellsOf 204 = 20 := by kernel_rfl
theorem cellsU64 : Tryz.prog.cellsOf 195 = 1 := by kernel_rfl
theorem pow_table {W : World} (h : laidMetH Tryz.prog laidList W) : Lib.TabIs Tryz.prog W "internal/strconv.uint64pow10" .u64 Lib.pow10Tab := by
  have h2 := laidMet.tail (laidMet.tail h)
  exact Lib.tabIs_of_head gPow gPowType Tryz.underlying204 Tryz.underlying195 cellsU64 cellsPow h2

theorem itoa_any (n : Int) (h0 : -9223372036854775808 ≤ n) (h1 : n ≤ 9223372036854775807) (w : World) (htab : Lib.TabIs Tryz.prog w "internal/strconv.uint64pow10" .u64 Lib.pow10Tab) :
    Calls Tryz.prog 169 #[.int .i64 n] w fun e w' => e = .returned (.string ⟨(Lib.itoa n).toArray⟩) ∧ Below w.heap.size w w' := by
  refine (Tryz.strconv_Itoa n h0 h1 w htab).mono ?_
  rintro e w' ⟨rfl, k, os, rfl⟩
  exact ⟨rfl, Lib.below_grow _ _ (Nat.le_refl _) _ _⟩

theorem bytes_app (a b : List UInt8) : (⟨a.toArray⟩ : ByteArray) ++ (⟨b.toArray⟩ : ByteArray) = ⟨(a ++ b).toArray⟩ := by
  apply ByteArray.ext
  simp
theorem bytes_lit1 (a : List UInt8) (x : UInt8) : (⟨a.toArray⟩ : ByteArray) ++ (⟨#[x]⟩ : ByteArray) = ⟨(a ++ [x]).toArray⟩ := bytes_app a [x]

theorem SrcAt.conv {W : World} {v : Value} {l : List UInt8} (h : SrcAt W v l) : (convert 22 9 v).run Tryz.prog W = .ok (.string ⟨l.toArray⟩) W := by
  rcases h with ⟨rfl, rfl⟩ | ⟨ad, c, rfl, h⟩
  · exact run_convert_bytes_nil (P := Tryz.prog) W 22 5 Tryz.underlying22 Tryz.underlying5 0 0 9 Tryz.underlying9
  · refine run_convert_bytes_back (P := Tryz.prog) W 22 9 5 ad c l Tryz.underlying22 Tryz.underlying5 Tryz.underlying9 (fun j hj => ?_)
    refine h j _ ?_
    rw [List.getElem?_map, List.getElem?_eq_getElem hj]; rfl

theorem sliceAt_below' {w w' : World} {v : Value} {l : List UInt8} (h : SliceAt w v l) (hb : Below w.heap.size w w') : SliceAt w' v l := by
  rcases h with h | ⟨b, off, cap, h1, h2, h3, h4⟩
  · exact .inl h
  · exact .inr ⟨b, off, cap, h1, h2, h3, h4.below hb⟩

/-- A parsed program's value is two slices. -/
theorem progAt_form {f : Nat} {w : World} {v : Value} {x : Px.Prog} (h : ProgAt f w v x) : ∃ (q1 : Option Addr) (c1 : Nat) (q2 : Option Addr) (c2 : Nat), v = .agg #[.slice q1 x.datas.length c1, .slice q2 x.defs.length c2] := by
  obtain ⟨dv, fv, rfl, h1, h2⟩ := h
  obtain ⟨q1, c1, rfl⟩ := h1.len
  obtain ⟨q2, c2, rfl⟩ := h2.len
  exact ⟨_, _, _, _, rfl⟩
theorem parsed_form {w : World} {out : Px.Outcome Px.Prog} {e : Ending} {w' : World} (h : ParsedPost (ProgAt 50) (.agg #[.slice none 0 0, .slice none 0 0]) w out e w') :
    ∃ (q1 : Option Addr) (n1 c1 : Nat) (q2 : Option Addr) (n2 c2 : Nat) (p c : Int), e = .returned (.tuple #[.agg #[.slice q1 n1 c1, .slice q2 n2 c2], .int .i64 p, .int .i64 c]) := by
  obtain ⟨_, h⟩ := h
  cases out with
  | lex p => exact ⟨_, _, _, _, _, _, _, _, h⟩
  | parse p => exact ⟨_, _, _, _, _, _, _, _, h⟩
  | done x =>
    obtain ⟨v, rfl, hn⟩ := h
    obtain ⟨q1, c1, q2, c2, rfl⟩ := progAt_form hn.now
    exact ⟨_, _, _, _, _, _, _, _, rfl⟩

theorem count_take (l : List UInt8) (k : Nat) (h : k < l.length) : (l.take (k + 1)).count 40 = (l.take k).count 40 + if (Lx.at0 l k).toNat = 40 then 1 else 0 := by
  have e : Lx.at0 l k = l[k] := by unfold Lx.at0; rw [List.getD_eq_getElem?_getD, List.getElem?_eq_getElem h]; rfl
  rw [List.take_succ_eq_append_getElem h, List.count_append, e]
  by_cases hc : l[k] = 40
  · rw [hc]; simp
  · have : ¬ (l[k]).toNat = 40 := fun e => hc (UInt8.toNat_inj.1 (by rw [e]; rfl))
    rw [if_neg this, List.count_singleton]
    simp [hc]

end Go.Proofs.YtnhndamfbeiljaaGreatDoor
