/-
  firsts.
-/
import Derived.Test.YtjefnmcalmcciaaFinE
import Derived.Deep.OwnRows
namespace Go.Proofs.Ytjefnmcalmcciaa
open Go Go.RowKit
set_option linter.unusedVariables false
set_option linter.unusedSimpArgs false

def FirstsPost (g : List (List Nat)) (w0 : World) (e : Ending) (w : World) : Prop :=
  ∃ R f, e = .returned (.slice (some ⟨R, 0, none⟩) g.length g.length) ∧ FnAt w R g.length f ∧ w0.heap.size ≤ R ∧ Gr.Fst g f ∧ Below w0.heap.size w0 w

theorem madeInts (n : Nat) : madeCells #[(.int .i64 0 : Value)] n = ((List.range n).map fun _ => iv 0).toArray := by
  apply Array.ext'
  unfold madeCells
  simp [Nat.mod_one, iv]

theorem madeFn (w : World) (n : Nat) : FnAt (w.alloc (.cells (madeCells #[(.int .i64 0 : Value)] n) 3)) w.heap.size n (fun _ => 0) := by
  unfold FnAt
  rw [ent_new, madeInts]
theorem makeInts (n m : Nat) (hm : m ≤ n) (hn : n ≤ 1000000000) (w : World) : (Instr.makeSlice 30 (.int .i64 (m : Int)) (.int .i64 (n : Int))).run Try.prog w = .ok (.slice (some ⟨w.heap.size, 0, none⟩) m n) (w.alloc (.cells (madeCells #[(.int .i64 0 : Value)] n) 3)) := by
  obtain ⟨i, hi, hz, hs, hb⟩ := info_parts info3
  have hr := run_make (P := Try.prog) w 30 3 i (.int .i64 0) Try.underlying30 hi hz .i64 .i64 m n (by omega) (by omega) (by rw [hb]; omega) (by omega)
  simp only [Int.toNat_natCast, hs, Nat.mul_one] at hr
  exact hr
theorem makeSteps (n : Nat) (hn : n ≤ 1000000000) (w : World) : ∃ cs : Array Value, cs.size = n * 3 ∧ (Instr.makeSlice 58 (.int .i64 0) (.int .i64 (n : Int))).run Try.prog w = .ok (.slice (some ⟨w.heap.size, 0, none⟩) 0 n) (w.alloc (.cells cs 70)) := by
  obtain ⟨i, hi, hz, hs, hb⟩ := info_parts infoStep
  have hr := run_make (P := Try.prog) w 58 70 i (.agg #[.int .i64 0, .int .i64 0, .int .i64 0]) Try.underlying58 hi hz .i64 .i64 0 n (by omega) (by omega) (by rw [hb]; omega) (by omega)
  simp only [Int.toNat_natCast, hs, Int.toNat_zero] at hr
  exact ⟨_, by simp [madeCells], hr⟩

theorem five_all (w : World) (a b c d e : Obj) : (((((w.alloc a).alloc b).alloc c).alloc d).alloc e).heap[w.heap.size]? = some a ∧ (((((w.alloc a).alloc b).alloc c).alloc d).alloc e).heap[w.heap.size + 1]? = some b ∧ (((((w.alloc a).alloc b).alloc c).alloc d).alloc e).heap[w.heap.size + 1 + 1]? = some c ∧ (((((w.alloc a).alloc b).alloc c).alloc d).alloc e).heap[w.heap.size + 1 + 1 + 1]? = some d ∧ (((((w.alloc a).alloc b).alloc c).alloc d).alloc e).heap[w.heap.size + 1 + 1 + 1 + 1]? = some e := by
  have n0 := heap_alloc_new w a
  have n1 := heap_alloc_new (w.alloc a) b
  have n2 := heap_alloc_new ((w.alloc a).alloc b) c
  have n3 := heap_alloc_new (((w.alloc a).alloc b).alloc c) d
  have n4 := heap_alloc_new ((((w.alloc a).alloc b).alloc c).alloc d) e
  simp only [World.size_alloc] at n1 n2 n3 n4
  exact ⟨ent_alloc (ent_alloc (ent_alloc (ent_alloc n0 b) c) d) e, ent_alloc (ent_alloc (ent_alloc n1 c) d) e, ent_alloc (ent_alloc n2 d) e, ent_alloc n3 e, n4⟩
theorem five0 (w : World) (a b c d e : Obj) : (((((w.alloc a).alloc b).alloc c).alloc d).alloc e).heap[w.heap.size]? = some a := (five_all w a b c d e).1
theorem five1 (w : World) (a b c d e : Obj) : (((((w.alloc a).alloc b).alloc c).alloc d).alloc e).heap[w.heap.size + 1]? = some b := (five_all w a b c d e).2.1
theorem five2 (w : World) (a b c d e : Obj) : (((((w.alloc a).alloc b).alloc c).alloc d).alloc e).heap[w.heap.size + 1 + 1]? = some c := (five_all w a b c d e).2.2.1
theorem five3 (w : World) (a b c d e : Obj) : (((((w.alloc a).alloc b).alloc c).alloc d).alloc e).heap[w.heap.size + 1 + 1 + 1]? = some d := (five_all w a b c d e).2.2.2.1
theorem five4 (w : World) (a b c d e : Obj) : (((((w.alloc a).alloc b).alloc c).alloc d).alloc e).drew.heap[w.heap.size + 1 + 1 + 1 + 1]? = some e := (five_all w a b c d e).2.2.2.2
theorem fiveB (w : World) (a b c d e : Obj) : Below w.heap.size w (((((w.alloc a).alloc b).alloc c).alloc d).alloc e).drew :=
  below_drew ((((((Below.refl _ _).alloc (Nat.le_refl _) a).alloc (by simp) b).alloc (by simp; omega) c).alloc (by simp; omega) d).alloc (by simp; omega) e)

def FirstsRel (lo F P O L R : Nat) (tv : Value) (g : List (List Nat)) (w0 : World) (k : Nat) (w : World) : Prop :=
  ∃ s, Gr.Inv g s ∧ s.path = [] ∧ FinAt lo F P O L R tv g.length w s ∧ (∀ j, j < k → s.low j ≠ 0) ∧ Below w0.heap.size w0 w

def StartRel (tv : Value) (n : Nat) (w0 : World) (v : Value) (w : World) : Prop :=
  ∃ F P O L R, v = .pointer (some ⟨F, 0, none⟩) ∧ FinAt w0.heap.size F P O L R tv n w ⟨fun _ => 0, fun _ => 0, [], []⟩ ∧ Below w0.heap.size w0 w
theorem start_mk {tv : Value} {n : Nat} {w0 w : World} (F P O L R : Nat) {cs ci : Array Value} (hcs : cs.size = n * 3) (hci : ci = madeCells #[(.int .i64 0 : Value)] n) (hn : n ≤ 1000000000)
    (eF : w.heap[F]? = some (.cells #[tv, .slice (some ⟨P, 0, none⟩) 0 n, .slice (some ⟨O, 0, none⟩) 0 n, .slice (some ⟨L, 0, none⟩) n n, .slice (some ⟨R, 0, none⟩) n n] 60 (0, 0)))
    (eP : w.heap[P]? = some (.cells cs 70 (0, 0))) (eO : w.heap[O]? = some (.cells ci 3 (0, 0))) (eL : w.heap[L]? = some (.cells ci 3 (0, 0))) (eR : w.heap[R]? = some (.cells ci 3 (0, 0)))
    (hF : F = w0.heap.size + 4) (h4 : w0.heap.size ≤ P ∧ w0.heap.size ≤ O ∧ w0.heap.size ≤ L ∧ w0.heap.size ≤ R ∧ P < F ∧ O < F ∧ L < F ∧ R < F) (ol : O ≠ L) (or' : O ≠ R) (lr : L ≠ R) (po : P ≠ O) (pl : P ≠ L) (pr : P ≠ R) (hb : Below w0.heap.size w0 w) :
    StartRel tv n w0 (.pointer (some ⟨F, 0, none⟩)) w := by
  subst hci
  have hsz : (madeCells #[(.int .i64 0 : Value)] n).size = n * 1 := by simp [madeCells]
  refine ⟨F, P, O, L, R, rfl, ⟨eF, ?_, ?_, ?_, ?_, ⟨by omega, by omega, by omega, by omega, po, pl, pr, ol, or', lr⟩, by omega, by omega, by omega, by omega, by omega, by omega⟩, hb⟩
  · exact ⟨rfl, .inr ⟨P, n, cs, rfl, by omega, eP, Nat.zero_le _, by unfold maxLen; omega, hcs, by simp [pathCells]⟩⟩
  · exact ⟨rfl, .inr ⟨O, n, _, rfl, by omega, eO, Nat.zero_le _, by unfold maxLen; omega, hsz, by simp [ivs]⟩⟩
  · unfold FnAt; rw [eL, madeInts]
  · unfold FnAt; rw [eR, madeInts]

set_option maxHeartbeats 4000000 in
set_option maxRecDepth 100000 in
theorem firsts_any {p : Option Addr} {c : Nat} {g : List (List Nat)} {w : World} (hg : RowsAt w (.slice p g.length c) (ints g)) (hgood : Gr.Good g) (hll : ∀ l ∈ g, l.length ≤ 1000000000) (hsm : g.length ≤ 1000000000) :
    Calls Try.prog 20 #[.slice p g.length c] w (FirstsPost g w) := by
  have HG := Lib.hid hg; have HGOOD := Lib.hid hgood; have HLL := Lib.hid hll
  clear hg hgood hll
  obtain ⟨n, hn⟩ : ∃ n, n = g.length := ⟨_, rfl⟩
  have HN := Lib.hid hn
  rw [← hn] at hsm ⊢
  clear hn
  have hcs : ∃ cs : Array Value, cs.size = n * 3 ∧ ∀ w, (Instr.makeSlice 58 (.int .i64 0) (.int .i64 (n : Int))).run Try.prog w = .ok (.slice (some ⟨w.heap.size, 0, none⟩) 0 n) (w.alloc (.cells cs 70)) := by
    obtain ⟨i, hi, hz, hs, hb⟩ := info_parts infoStep
    refine ⟨madeCells (Value.agg #[.int .i64 0, .int .i64 0, .int .i64 0]).cells (n * 3), by simp [madeCells], fun w => ?_⟩
    have hr := run_make (P := Try.prog) w 58 70 i (.agg #[.int .i64 0, .int .i64 0, .int .i64 0]) Try.underlying58 hi hz .i64 .i64 0 n (by omega) (by omega) (by rw [hb]; omega) (by omega)
    simp only [Int.toNat_natCast, hs, Int.toNat_zero] at hr
    exact hr
  obtain ⟨cs, hcs1, mk1⟩ := hcs
  have mk2 := makeInts n n (Nat.le_refl _) hsm
  have mk3 : ∀ w : World, (Instr.makeSlice 30 (.int .i64 0) (.int .i64 (n : Int))).run Try.prog w = .ok (.slice (some ⟨w.heap.size, 0, none⟩) 0 n) (w.alloc (.cells (madeCells #[(.int .i64 0 : Value)] n) 3)) := makeInts n 0 (Nat.zero_le _) hsm
  obtain ⟨ci, hci⟩ : ∃ ci, ci = madeCells #[(.int .i64 0 : Value)] n := ⟨_, rfl⟩
  rw [← hci] at mk2 mk3
  have HCS := Lib.hid hcs1; have HCI := Lib.hid hci
  clear hcs1 hci
  go_enter Try.func20, Try.ntmps20
  go_wp2_with fail
  go_cut [4] (fun v4 wc => Hid (StartRel (.slice p n c) n w v4 wc))
  case first =>
    go_region
    all_goals (go_wp2_with fail; go_meet)
    all_goals
      refine Lib.hid (start_mk _ _ _ _ _ HCS.out HCI.out hsm (five4 w _ _ _ _ _) ?_ ?_ ?_ ?_ (by omega) (by omega) (by omega) (by omega) (by omega) (by omega) (by omega) (by omega) (fiveB w _ _ _ _ _))
      all_goals first | exact five0 w _ _ _ _ _ | exact five1 w _ _ _ _ _ | exact five2 w _ _ _ _ _ | exact five3 w _ _ _ _ _
  case rest =>
    clear mk1 mk2 mk3 HCS HCI
    obtain ⟨F, P, O, L, R, rfl, hf, hb⟩ := hcut.out
    have HR : Hid (FirstsRel w.heap.size F P O L R (.slice p n c) g w 0 wc) := Lib.hid (by
      have e := HN.out
      subst e
      exact ⟨_, Gr.Inv.start HGOOD.out (by unfold Gr.big; omega) _, rfl, hf, fun j hj => absurd hj (Nat.not_lt_zero j), hb⟩)
    clear hf hb hcut
    go_wp2_with fail
    go_loopw [21] (fun i wr => ∃ k : Nat, i = .int .i64 k ∧ k ≤ n ∧ Hid (FirstsRel w.heap.size F P O L R (.slice p n c) g w k wr)) (fun i _ => n - (intOf i).toNat)
    case atStart => exact ⟨0, rfl, Nat.zero_le _, HR⟩
    case round =>
      clear HR
      obtain ⟨k, rfl, hk, HR⟩ := hrel
      obtain ⟨s, hi, hp, hf, hall, hb⟩ := HR.out
      have HI := Lib.hid hi; have HP := Lib.hid hp; have HF := Lib.hid hf; have HALL := Lib.hid hall; have HB := Lib.hid hb
      clear hi hp hf hall hb HR
      by_cases hkn : k < n
      · have f3 := ent_cell HF.out.ent 3 _ rfl
        have fl := HF.out.low.cell (show k < g.length by rw [← HN.out]; exact hkn)
        rw [← HN.out] at f3
        by_cases h0 : s.low k = 0
        · have h0i : (s.low k : Int) = 0 := by omega
          have H0 := Lib.hid h0
          rw [h0i] at fl
          clear h0 h0i
          go_wp2_with fail
          refine (from_any (p := p) (c := c) (by have := HF.out; rw [HN.out] at this; exact this) HI.out HP.out rfl HB.out (by have := HG.out; exact this) HLL.out (by rw [← HN.out]; exact hkn) H0.out).mono ?_
          rintro e w2 ⟨s2, rfl, hi2, hp2, hf2, hk2, ht2, hb2⟩
          have HN2 : Hid (FirstsRel w.heap.size F P O L R (.slice p n c) g w (k + 1) w2) := Lib.hid ⟨s2, hi2, hp2, by rw [HN.out]; exact hf2, (fun j hj => by
            by_cases e : j = k
            · subst e; exact ht2
            · exact hk2 j (HALL.out j (by omega))), hb2⟩
          clear hi2 hp2 hf2 hk2 ht2 hb2 fl f3
          go_wp2
          go_roundw
          case rel => exact ⟨k + 1, by go_num, by omega, HN2⟩
          case measure => simp [intOf]; omega
        · have h0i : ((s.low k : Int) == 0) = false := by simp; omega
          have h0j : ¬ ((s.low k : Int) = 0) := by omega
          have H0 := Lib.hid h0
          clear h0
          have HN2 : Hid (FirstsRel w.heap.size F P O L R (.slice p n c) g w (k + 1) wr) := Lib.hid ⟨s, HI.out, HP.out, HF.out, (fun j hj => by
            by_cases e : j = k
            · subst e; exact H0.out
            · exact HALL.out j (by omega)), HB.out⟩
          go_wp2
          go_roundw
          case rel => exact ⟨k + 1, by go_num, by omega, HN2⟩
          case measure => simp [intOf]; omega
      · have f4 := ent_cell HF.out.ent 4 _ rfl
        rw [← HN.out] at f4
        have hkk : k = n := by omega
        have hfst : Gr.Fst g s.first := fun t ht => HI.out.done HP.out t ht (HALL.out t (by rw [hkk, HN.out]; exact ht))
        have HFST := Lib.hid hfst
        clear hfst hkk
        go_wp2
        go_ret
        exact ⟨R, s.first, by rw [← HN.out]; rfl, HF.out.first, HF.out.hR, HFST.out, HB.out⟩
end Go.Proofs.Ytjefnmcalmcciaa
