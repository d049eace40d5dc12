/-
  turnsOf.
-/
import Derived.Test.YtjefnmcalmcciaaTuA
import Derived.Deep.RegionHeldLaw
namespace Go.Proofs.Ytjefnmcalmcciaa
open Go Go.RowKit
set_option linter.unusedVariables false
set_option linter.unusedSimpArgs false

theorem makeRows (n : Nat) (hn : n ≤ 1000000000) (w : World) : (Instr.makeSlice 22 (.int .i64 (n : Int)) (.int .i64 (n : Int))).run Try.prog w = .ok (.slice (some ⟨w.heap.size, 0, none⟩) n n) (w.alloc (.cells (madeCells #[(.slice none 0 0 : Value)] n) 30)) :=
  run_make_row' (P := Try.prog) 22 30 (.slice none 0 0) 24 Try.underlying22 (by kernel_rfl) rfl .i64 .i64 n (by omega) (by omega) w
theorem madeRows (n : Nat) : madeCells #[(.slice none 0 0 : Value)] n = ((List.range n).map fun _ => (.slice none 0 0 : Value)).toArray := by
  apply Array.ext'
  unfold madeCells
  simp [Nat.mod_one]
theorem four_all (w : World) (a b c d : Obj) : ((((w.alloc a).alloc b).alloc c).alloc d).heap[w.heap.size]? = some a ∧ ((((w.alloc a).alloc b).alloc c).alloc d).heap[w.heap.size + 1]? = some b ∧ ((((w.alloc a).alloc b).alloc c).alloc d).heap[w.heap.size + 1 + 1]? = some c ∧ ((((w.alloc a).alloc b).alloc c).alloc d).heap[w.heap.size + 1 + 1 + 1]? = some d := by
  have n0 := heap_alloc_new w a
  have n1 := heap_alloc_new (w.alloc a) b
  have n2 := heap_alloc_new ((w.alloc a).alloc b) c
  have n3 := heap_alloc_new (((w.alloc a).alloc b).alloc c) d
  simp only [World.size_alloc] at n1 n2 n3
  exact ⟨ent_alloc (ent_alloc (ent_alloc n0 b) c) d, ent_alloc (ent_alloc n1 c) d, ent_alloc n2 d, n3⟩
theorem four0 (w : World) (a b c d : Obj) : ((((w.alloc a).alloc b).alloc c).alloc d).heap[w.heap.size]? = some a := (four_all w a b c d).1
theorem four1 (w : World) (a b c d : Obj) : ((((w.alloc a).alloc b).alloc c).alloc d).heap[w.heap.size + 1]? = some b := (four_all w a b c d).2.1
theorem four2 (w : World) (a b c d : Obj) : ((((w.alloc a).alloc b).alloc c).alloc d).heap[w.heap.size + 1 + 1]? = some c := (four_all w a b c d).2.2.1
theorem four3 (w : World) (a b c d : Obj) : ((((w.alloc a).alloc b).alloc c).alloc d).drew.heap[w.heap.size + 1 + 1 + 1]? = some d := (four_all w a b c d).2.2.2
theorem fourB (w : World) (a b c d : Obj) : Below w.heap.size w ((((w.alloc a).alloc b).alloc c).alloc d).drew :=
  below_drew (((((Below.refl _ _).alloc (Nat.le_refl _) a).alloc (by simp) b).alloc (by simp; omega) c).alloc (by simp; omega) d)

/-- What stands while groups are told apart: of the things ahead of k all are laid, of the last one e of those on which it hangs. -/
def TurnRel (g : List (List Nat)) (f : Nat → Nat) (w0 : World) (B Th Us Wt m k e : Nat) (w : World) : Prop :=
  ∃ v x wt, TurnsAt (w0.heap.size + 4) B Th Us Wt g.length (.slice none 0 0) w v x wt ∧ Gr.Tn g f (fun b => x (2 * b + 1)) wt k e ∧ (∀ r, r < g.length → x (2 * r) = (List.range m).filter fun t => f t = r) ∧ Below w0.heap.size w0 w ∧ w0.heap.size + 4 ≤ w.heap.size
theorem cell_grown {w w1 : World} {o : Obj} {b j : Nat} {u : Value} {r : Option Nat} (h : w.cell? ⟨b, j, none⟩ = some u) (hgr : ((w.alloc o).drew).grownBy w1 r) (hne : r ≠ some b) : w1.cell? ⟨b, j, none⟩ = some u := by
  have hb := World.block_lt_of_cell? w _ h
  rw [World.cell?_of_block (w := w)]
  · exact h
  · exact (hgr.block b (by show b < (w.alloc o).heap.size; simp at hb; simp; omega) (fun e => hne e.symm)).trans (Below.heap_alloc w o b hb)
theorem cell_alloc {w : World} {a : Addr} {u : Value} (h : w.cell? a = some u) (o : Obj) : (w.alloc o).cell? a = some u := by
  rw [World.cell?_of_block (w := w)]
  · exact h
  · exact Below.heap_alloc w o _ (World.block_lt_of_cell? w _ h)
def TurnStart (n : Nat) (w0 : World) (vB : Value) (w : World) : Prop :=
  ∃ B Th Us Wt, vB = .pointer (some ⟨B, 0, none⟩) ∧ TurnsAt (w0.heap.size + 4) B Th Us Wt n (.slice none 0 0) w (fun _ => .slice none 0 0) (fun _ => []) (fun _ => 0) ∧ w0.heap.size ≤ B ∧ w0.heap.size ≤ Th ∧ w0.heap.size ≤ Us ∧ w0.heap.size ≤ Wt ∧ Below w0.heap.size w0 w ∧ w0.heap.size + 4 ≤ w.heap.size
theorem turn_mk {n : Nat} {w0 w : World} (B Th Us Wt : Nat) {cr ci : Array Value} (hcr : cr = madeCells #[(.slice none 0 0 : Value)] n) (hci : ci = madeCells #[(.int .i64 0 : Value)] n)
    (eB : w.heap[B]? = some (.cells #[.slice (some ⟨Th, 0, none⟩) n n, .slice (some ⟨Us, 0, none⟩) n n, .slice (some ⟨Wt, 0, none⟩) n n, .slice none 0 0] 51 (0, 0)))
    (eT : w.heap[Th]? = some (.cells cr 30 (0, 0))) (eU : w.heap[Us]? = some (.cells cr 30 (0, 0))) (eW : w.heap[Wt]? = some (.cells ci 3 (0, 0)))
    (hB : B = w0.heap.size + 3) (h4 : w0.heap.size ≤ Th ∧ w0.heap.size ≤ Us ∧ w0.heap.size ≤ Wt ∧ Th < B ∧ Us < B ∧ Wt < B) (tu : Th ≠ Us) (tw : Th ≠ Wt) (uw : Us ≠ Wt) (hb : Below w0.heap.size w0 w) : TurnStart n w0 (.pointer (some ⟨B, 0, none⟩)) w := by
  subst hcr; subst hci
  refine ⟨B, Th, Us, Wt, rfl, ⟨eB, by rw [eT, madeRows], by rw [eU, madeRows], by unfold FnAt; rw [eW, madeInts], ⟨fun i hi => World.ownsRow_nil _ _ _ _, fun i j _ _ _ b hb => by cases hb⟩, by omega, by omega, by omega, tu, tw, uw, by omega, by omega, by omega, by omega⟩, by omega, by omega, by omega, by omega, hb, by have := ent_lt eB; omega⟩

theorem filter_next {f : Nat → Nat} {k r : Nat} : (List.range (k + 1)).filter (fun t => decide (f t = r)) = (List.range k).filter (fun t => decide (f t = r)) ++ (if f k = r then [k] else []) := by
  rw [List.range_succ, List.filter_append]
  by_cases h : f k = r
  · simp [h]
  · simp [h]

theorem turn_row {g : List (List Nat)} {f : Nat → Nat} {w0 wr w1 : World} {o : Obj} {B Th Us Wt k G g1 cap1 Hs : Nat} {v : Nat → Value} {x : Nat → List Nat} {wt : Nat → Nat} {q0 : Option Addr} {d0 : Nat}
    (ha : TurnsAt (w0.heap.size + 4) B Th Us Wt g.length (.slice none 0 0) wr v x wt) (htn : Gr.Tn g f (fun b => x (2 * b + 1)) wt k 0) (hth : ∀ r, r < g.length → x (2 * r) = (List.range k).filter fun t => f t = r) (hb : Below w0.heap.size w0 wr) (hs : w0.heap.size + 4 ≤ wr.heap.size) (hlT : w0.heap.size ≤ Th)
    (hG : G = f k) (hGl : G < g.length) (hv : v (2 * G) = .slice q0 (x (2 * G)).length d0)
    (hown : w1.ownsRow (w0.heap.size + 4) 3 1 (.slice (some ⟨g1, 0, none⟩) ((x (2 * G)).length + 1) cap1) ((x (2 * G)).length + 1) (ivs (x (2 * G)) ++ [.int .i64 (k : Int)]))
    (hgr : ((wr.alloc o).drew).grownBy w1 (Value.slice q0 (x (2 * G)).length d0).ownBlock) (hat : (Value.slice q0 (x (2 * G)).length d0).ownBlock = some g1 ∨ g1 = Hs) (hHs : wr.heap.size ≤ Hs) :
    TurnRel g f w0 B Th Us Wt (k + 1) k 0 (w1.setCell ⟨Th, G, none⟩ (.slice (some ⟨g1, 0, none⟩) ((x (2 * G)).length + 1) cap1)) := by
  have hy : (x (2 * G) ++ [k]).length = (x (2 * G)).length + 1 := by simp
  have hown2 : w1.ownsRow (w0.heap.size + 4) 3 1 (.slice (some ⟨g1, 0, none⟩) ((x (2 * G)).length + 1) cap1) (x (2 * G) ++ [k]).length (ivs (x (2 * G) ++ [k])) := by rw [hy, ivs_snoc]; exact hown
  have ht := ha.push true hGl hs hown2 (by show World.grownBy _ _ (v (2 * G)).ownBlock; rw [hv]; exact hgr) (fun b hb2 => by
    have hb3 : g1 = b := by simpa [Value.ownBlock] using hb2
    subst hb3
    show (v (2 * G)).ownBlock = _ ∨ _
    rw [hv]
    rcases hat with h | h
    · exact .inl h
    · right; omega)
  have hsz : wr.heap.size ≤ w1.heap.size := by
    have := hgr.size
    have e : ((wr.alloc o).drew).heap.size = wr.heap.size + 1 := by show (wr.alloc o).heap.size = _; simp
    omega
  refine ⟨_, _, _, ht, ?_, fun r hr => ?_, ?_, by simpa using Nat.le_trans hs hsz⟩
  · have e : (fun b => Gr.upd x (cond true (2 * G) (2 * G + 1)) (x (2 * G) ++ [k]) (2 * b + 1)) = fun b => x (2 * b + 1) := funext fun b => Gr.upd_ne _ _ (by simp; omega)
    rw [e]; exact htn
  · rw [filter_next]
    by_cases hrG : r = G
    · subst hrG
      rw [show cond true (2 * r) (2 * r + 1) = 2 * r from rfl, Gr.upd_same, hth r hr, if_pos hG.symm]
    · rw [Gr.upd_ne _ _ (by simp; omega), hth r hr, if_neg (fun e => hrG (by rw [hG, e]))]; simp
  · have hbb : Below w0.heap.size w0 w1 := (below_drew (hb.alloc hb.size o)).grown hgr (by have := hb.size; show w0.heap.size ≤ (wr.alloc o).heap.size; simp; omega) (fun kk hkk => by
      have := (ha.fam.own (2 * G) (by omega)).lt kk (by rw [hv]; exact hkk)
      omega)
    exact hbb.setCell (p := ⟨Th, G, none⟩) hlT _

theorem sumN_take {g : List (List Nat)} {k : Nat} {l : List Nat} (h : g[k]? = some l) : Gr.sumN ((g.take k).map List.length) + l.length ≤ Gr.sumN (g.map List.length) := by
  have hk := Gr.some_lt h
  have e : g[k] = l := by rw [List.getElem?_eq_getElem hk] at h; exact Option.some.inj h
  conv => rhs; rw [← List.take_append_drop k g, List.drop_eq_getElem_cons hk, e]
  rw [List.map_append, Gr.sumN_append, List.map_cons]
  simp only [Gr.sumN]; omega
theorem sumN_le {f : Nat → Nat} {M : Nat} : ∀ (l : List Nat), (∀ x ∈ l, f x ≤ M) → Gr.sumN (l.map f) ≤ l.length * M
  | [], _ => by simp [Gr.sumN]
  | a :: r, h => by
    have h1 := sumN_le r (fun x hx => h x (by simp [hx]))
    have h2 := h a (by simp)
    simp only [List.map_cons, Gr.sumN, List.length_cons]
    rw [Nat.add_mul]; omega
theorem waits_le {n : Nat} {us : Nat → List Nat} {a M : Nat} (h : ∀ b, (us b).length ≤ M) : Gr.waitsOf n us [] a ≤ n * M := by
  have := sumN_le (f := fun b => if b ∈ ([] : List Nat) then 0 else (us b).count a) (M := M) (List.range n) (fun x _ => by
    have := h x
    have := List.count_le_length (a := a) (l := us x)
    simp; omega)
  rw [List.length_range] at this
  exact this
def UserMid (g : List (List Nat)) (w0 : World) (B Th Us Wt : Nat) (x : Nat → List Nat) (wt : Nat → Nat) (w : World) : Prop :=
  ∃ v, TurnsAt (w0.heap.size + 4) B Th Us Wt g.length (.slice none 0 0) w v x wt ∧ Below w0.heap.size w0 w ∧ w0.heap.size + 4 ≤ w.heap.size
theorem turn_user {g : List (List Nat)} {w0 wr w1 : World} {o : Obj} {B Th Us Wt G O g1 cap1 Hs : Nat} {v : Nat → Value} {x : Nat → List Nat} {wt : Nat → Nat} {q0 : Option Addr} {d0 : Nat}
    (ha : TurnsAt (w0.heap.size + 4) B Th Us Wt g.length (.slice none 0 0) wr v x wt) (hb : Below w0.heap.size w0 wr) (hs : w0.heap.size + 4 ≤ wr.heap.size) (hlU : w0.heap.size ≤ Us)
    (hOl : O < g.length) (hv : v (2 * O + 1) = .slice q0 (x (2 * O + 1)).length d0)
    (hown : w1.ownsRow (w0.heap.size + 4) 3 1 (.slice (some ⟨g1, 0, none⟩) ((x (2 * O + 1)).length + 1) cap1) ((x (2 * O + 1)).length + 1) (ivs (x (2 * O + 1)) ++ [.int .i64 (G : Int)]))
    (hgr : ((wr.alloc o).drew).grownBy w1 (Value.slice q0 (x (2 * O + 1)).length d0).ownBlock) (hat : (Value.slice q0 (x (2 * O + 1)).length d0).ownBlock = some g1 ∨ g1 = Hs) (hHs : wr.heap.size ≤ Hs) :
    UserMid g w0 B Th Us Wt (Gr.upd x (2 * O + 1) (x (2 * O + 1) ++ [G])) wt (w1.setCell ⟨Us, O, none⟩ (.slice (some ⟨g1, 0, none⟩) ((x (2 * O + 1)).length + 1) cap1)) := by
  have hy : (x (2 * O + 1) ++ [G]).length = (x (2 * O + 1)).length + 1 := by simp
  have hown2 : w1.ownsRow (w0.heap.size + 4) 3 1 (.slice (some ⟨g1, 0, none⟩) ((x (2 * O + 1)).length + 1) cap1) (x (2 * O + 1) ++ [G]).length (ivs (x (2 * O + 1) ++ [G])) := by rw [hy, ivs_snoc]; exact hown
  have ht := ha.push false hOl hs hown2 (by show World.grownBy _ _ (v (2 * O + 1)).ownBlock; rw [hv]; exact hgr) (fun b hb2 => by
    have hb3 : g1 = b := by simpa [Value.ownBlock] using hb2
    subst hb3
    show (v (2 * O + 1)).ownBlock = _ ∨ _
    rw [hv]
    rcases hat with h | h
    · exact .inl h
    · right; omega)
  have hsz : wr.heap.size ≤ w1.heap.size := by
    have := hgr.size
    have e : ((wr.alloc o).drew).heap.size = wr.heap.size + 1 := by show (wr.alloc o).heap.size = _; simp
    omega
  refine ⟨_, ht, ?_, by simpa using Nat.le_trans hs hsz⟩
  have hbb : Below w0.heap.size w0 w1 := (below_drew (hb.alloc hb.size o)).grown hgr (by have := hb.size; show w0.heap.size ≤ (wr.alloc o).heap.size; simp; omega) (fun kk hkk => by
    have := (ha.fam.own (2 * O + 1) (by omega)).lt kk (by rw [hv]; exact hkk)
    omega)
  exact hbb.setCell (p := ⟨Us, O, none⟩) hlU _

def TurnPost (g : List (List Nat)) (f : Nat → Nat) (w0 : World) (e : Ending) (w : World) : Prop :=
  ∃ B Th Us Wt, e = .returned (.pointer (some ⟨B, 0, none⟩)) ∧ TurnRel g f w0 B Th Us Wt g.length g.length 0 w ∧ w0.heap.size ≤ B ∧ w0.heap.size ≤ Th ∧ w0.heap.size ≤ Us ∧ w0.heap.size ≤ Wt

set_option maxHeartbeats 4000000 in
set_option maxRecDepth 100000 in
theorem turnsOf_any {p : Option Addr} {c R : Nat} {g : List (List Nat)} {f : Nat → Nat} {w : World} (hg : RowsAt w (.slice p g.length c) (ints g)) (hf : FnAt w R g.length f) (hfst : Gr.Fst g f) (hgood : Gr.Good g) (hll : Gr.sumN (g.map List.length) ≤ 100000000) (hsm : g.length ≤ 100000000) :
    Calls Try.prog 23 #[.slice p g.length c, .slice (some ⟨R, 0, none⟩) g.length g.length] w (TurnPost g f w) := by
  have HG := Lib.hid hg; have HGOOD := Lib.hid hgood; have HLL := Lib.hid hll; have HF := Lib.hid hf; have HFST := Lib.hid hfst
  clear hg hgood hll hf hfst
  obtain ⟨n, hn⟩ : ∃ n, n = g.length := ⟨_, rfl⟩
  have HN := Lib.hid hn
  rw [← hn] at hsm ⊢
  clear hn
  have mk1 := makeRows n (by omega)
  have mk2 := makeInts n n (Nat.le_refl _) (by omega)
  obtain ⟨ci, hci⟩ : ∃ ci, ci = madeCells #[(.int .i64 0 : Value)] n := ⟨_, rfl⟩
  obtain ⟨cr, hcr⟩ : ∃ cr, cr = madeCells #[(.slice none 0 0 : Value)] n := ⟨_, rfl⟩
  rw [← hci] at mk2
  rw [← hcr] at mk1
  have HCI := Lib.hid hci; have HCR := Lib.hid hcr
  clear hci hcr
  go_enter Try.func23, Try.ntmps23
  go_wp2_with fail
  go_cut [5] (fun v5 wc => Hid (TurnStart n w v5 wc))
  case first =>
    go_region
    all_goals (go_wp2_with fail; go_meet)
    all_goals
      refine Lib.hid (turn_mk _ _ _ _ HCR.out HCI.out (four3 w _ _ _ _) ?_ ?_ ?_ (by omega) (by omega) (by omega) (by omega) (by omega) (fourB w _ _ _ _))
      all_goals first | exact four0 w _ _ _ _ | exact four1 w _ _ _ _ | exact four2 w _ _ _ _
  case rest =>
    clear mk1 mk2 HCR HCI
    obtain ⟨i0, hi, hz0, hz1, hz2⟩ := info_parts info3
    have I0 := Lib.hid hi; have I00 := Lib.hid hz0; have I01 := Lib.hid hz1; have I02 := Lib.hid hz2
    clear hi hz0 hz1 hz2
    obtain ⟨B, Th, Us, Wt, rfl, ht, hlB, hlT, hlU, hlW, hb, hs4⟩ := hcut.out
    have HR : Hid (TurnRel g f w B Th Us Wt 0 0 0 wc) := Lib.hid ⟨_, _, _, by rw [HN.out] at ht; exact ht, Gr.Tn.start, (fun r hr => by simp), hb, hs4⟩
    clear ht hb hcut hs4
    go_wp2_with fail
    go_loopw [25] (fun i wr => ∃ k : Nat, i = .int .i64 k ∧ k ≤ n ∧ Hid (TurnRel g f w B Th Us Wt k k 0 wr)) (fun i _ => n - (intOf i).toNat)
    case atStart => exact ⟨0, rfl, Nat.zero_le _, HR⟩
    case round =>
      clear HR
      obtain ⟨k, rfl, hk, HR⟩ := hrel
      by_cases hkn : k < n
      · obtain ⟨v, x, wt, ha, htn, hth, hb, hs4⟩ := HR.out
        have HA := Lib.hid ha; have HTN := Lib.hid htn; have HTH := Lib.hid hth; have HB := Lib.hid hb
        clear ha htn hth hb HR
        have hkg : k < g.length := by rw [← HN.out]; exact hkn
        obtain ⟨l, hl⟩ : ∃ l, g[k]? = some l := ⟨_, List.getElem?_eq_getElem hkg⟩
        obtain ⟨b, o, q, d, hpe, hcm, hnl, hnc, hrow, hints⟩ := HG.out.at (ints_at hl)
        replace hrow := cell_up HB.out hrow
        rw [nums_len] at hrow hints
        subst hpe
        have HINT := Lib.hid hints; have HL := Lib.hid hl
        have hlb : (l.length : Int) ≤ 9223372036854775807 := by
          rcases hints with ⟨h1, _⟩ | ⟨_, _, c', h1, h2, h3, _⟩
          · have h9 : (nums l).length = 0 := by rw [h1]; rfl
            rw [nums_len] at h9; omega
          · injection h1 with _ _ e3
            subst e3; rw [nums_len] at h2; omega
        clear hints hl hnl hnc
        obtain ⟨G, hGG⟩ : ∃ G, G = f k := ⟨_, rfl⟩
        have hGl : G < n := by rw [hGG, HN.out]; exact HFST.out.lt hkg
        have ff := (HF.out.below HB.out).cell hkg
        rw [← hGG] at ff
        have HGG := Lib.hid hGG
        have fB0 := ent_cell HA.out.ent 0 _ rfl
        have fT := HA.out.thCell (show G < g.length by rw [← HN.out]; exact hGl)
        obtain ⟨q0, d0, hv0⟩ := HA.out.form (show 2 * G < 2 * g.length by rw [← HN.out]; omega)
        have hown0 := HA.out.fam.own (2 * G) (by rw [← HN.out]; omega)
        rw [hv0] at fT hown0
        have HOWN := Lib.hid hown0; have HV0 := Lib.hid hv0
        have hxl : (x (2 * G)).length ≤ 100000000 := by
          rw [HTH.out G (by rw [← HN.out]; exact hGl)]
          have := List.length_filter_le (fun t => decide (f t = G)) (List.range k)
          rw [List.length_range] at this; omega
        have hGi : (G : Int) < n := by omega
        have hneT : (Value.slice q0 (x (2 * G)).length d0).ownBlock ≠ some Th := fun e => by have := (hown0.lt Th e).1; have := HA.out.hT; omega
        have hneB : (Value.slice q0 (x (2 * G)).length d0).ownBlock ≠ some B := fun e => by have := (hown0.lt B e).1; have := HA.out.hB; omega
        have HNET := Lib.hid hneT; have HNEB := Lib.hid hneB
        rw [← HN.out] at fB0
        replace fB0 : wr.cell? ⟨B, 0, none⟩ = some (.slice (some ⟨Th, 0, none⟩) n n) := fB0
        clear hGG hv0 hown0 hneT hneB hkg
        go_upto_region 6 with fail
        clear ff hrow
        have HB2 : Hid (w.heap.size + 4 ≤ ((wr.alloc (.cells #[.int .i64 (k : Int)] 3)).drew).heap.size) := Lib.hid (by show w.heap.size + 4 ≤ (wr.alloc _).heap.size; simp; omega)
        generalize hX : x (2 * G) = X at *
        have HX := Lib.hid hX
        clear hX
        have hHs : wr.heap.size ≤ ((wr.alloc (.cells #[.int .i64 (k : Int)] 3)).drew).heap.size := by show _ ≤ (wr.alloc _).heap.size; simp
        have HHS := Lib.hid hHs
        clear hHs
        have hs4b := hs4
        go_cut [] (fun wc => Hid (TurnRel g f w B Th Us Wt (k + 1) k 0 wc))
        case first =>
          have fTa := cell_alloc fT (.cells #[.int .i64 (k : Int)] 3)
          have fBa := cell_alloc fB0 (.cells #[.int .i64 (k : Int)] 3)
          go_region_law ((refine step_append_lies _ (by rfl) (.tmp 45) (.tmp 47) 30 (by rfl) (w.heap.size + 4) 3 i0 (.int .i64 0) 1 8 Try.underlying30 I0.out I00.out I01.out I02.out rfl (by decide) _ X.length _ (by rfl) (own_drew (HOWN.out.alloc _)) ⟨wr.heap.size, 0, none⟩ 1 1 [.int .i64 (k : Int)] (by rfl) (by rfl) (fun j u hh => new_one wr _ _ j u hh) (by intro u hu; rw [List.mem_singleton.1 hu]; rfl) (by omega) (by unfold maxLen; omega) (by omega) HB2.out _ rfl ?_; intro g1 cap1 w1 hown hgr hat hlt1; have hBc := cell_grown fB0 hgr HNEB.out; have hTe := ent_grown HA.out.th hgr HNET.out; have hTf := ent_free hTe; have hTc := cell_grown fT hgr HNET.out))
          all_goals
            have HRR := Lib.hid (turn_row HA.out HTN.out HTH.out HB.out hs4b hlT HGG.out (by rw [← HN.out]; exact hGl) (by rw [HX.out]; exact HV0.out) (by rw [HX.out]; exact hown) (by rw [HX.out]; exact hgr) (by rw [HX.out]; exact hat) HHS.out)
            rw [HX.out] at HRR
            clear hown hgr hat hBc hTe hTf hTc fTa fBa
            go_wp2_with fail
            go_meet
            exact HRR
        case rest =>
          have HLB := Lib.hid (below_drew HB.out)
          clear HA HTN HTH HOWN HV0 HNET HNEB HB2 HHS hs4b hs4 hxl fB0 fT HX hGi
          go_wp2_with fail
          go_loopw [52] (fun i wz => ∃ e : Nat, i = .int .i64 e ∧ e ≤ l.length ∧ Hid (TurnRel g f w B Th Us Wt (k + 1) k e wz)) (fun i _ => l.length - (intOf i).toNat)
          case atStart => exact ⟨0, rfl, Nat.zero_le _, hcut⟩
          case round =>
            clear hcut
            obtain ⟨e, rfl, he, HR⟩ := hrel
            by_cases hel : e < l.length
            · obtain ⟨v1, x1, wt1, ha, htn, hth, hb, hs4⟩ := HR.out
              have HA := Lib.hid ha; have HTN := Lib.hid htn; have HTH := Lib.hid hth; have HB3 := Lib.hid hb
              obtain ⟨on, hon⟩ : ∃ on, l[e]? = some on := ⟨_, List.getElem?_eq_getElem hel⟩
              obtain ⟨b3, o3, hp3, _, hll3, hlc3, hcell3⟩ := (HINT.out.below hb).at (nums_at hon)
              subst hp3
              clear hll3
              have hong : on < g.length := (HGOOD.out.hang ⟨l, HL.out, List.mem_of_getElem? hon⟩).2
              obtain ⟨O, hOO⟩ : ∃ O, O = f on := ⟨_, rfl⟩
              have hOl : O < n := by rw [hOO, HN.out]; exact HFST.out.lt hong
              have ff := (HF.out.below hb).cell hong
              rw [← hOO] at ff
              have hoi : (on : Int) < n := by rw [HN.out]; omega
              have HON := Lib.hid hon; have HOO := Lib.hid hOO; have HBZ := Lib.hid hb
              clear ha htn hth hb hon hOO HR
              by_cases hOG : O = G
              · have hbq : ((O : Int) != (G : Int)) = false := by simp; omega
                have hbq2 : ¬ ((O : Int) ≠ (G : Int)) := by omega
                have HOG := Lib.hid hOG
                clear hOG
                have HNEW : Hid (TurnRel g f w B Th Us Wt (k + 1) k (e + 1) wr) := Lib.hid ⟨v1, x1, wt1, HA.out, HTN.out.same HL.out HON.out (by rw [← HOO.out, ← HGG.out]; exact HOG.out), HTH.out, HBZ.out, hs4⟩
                have hoi2 : (O : Int) = (G : Int) := by have := HOG.out; omega
                rw [hoi2] at ff
                clear hbq hbq2 hoi2
                go_wp2
                go_roundw
                case rel => exact ⟨e + 1, by go_num, by omega, HNEW⟩
                case measure => simp [intOf]; omega
              · have hbq : ((O : Int) != (G : Int)) = true := by simp; omega
                have hbq2 : (O : Int) ≠ (G : Int) := by omega
                have HOG := Lib.hid hOG
                clear hOG
                have fB1 : wr.cell? ⟨B, 1, none⟩ = some (.slice (some ⟨Us, 0, none⟩) n n) := by rw [HN.out]; exact ent_cell HA.out.ent 1 _ rfl
                have fU := HA.out.usCell (show O < g.length by rw [← HN.out]; exact hOl)
                obtain ⟨q0, d0, hv0⟩ := HA.out.form (show 2 * O + 1 < 2 * g.length by rw [← HN.out]; omega)
                have hown0 := HA.out.fam.own (2 * O + 1) (by rw [← HN.out]; omega)
                rw [hv0] at fU hown0
                have HOWN := Lib.hid hown0; have HV0 := Lib.hid hv0
                have hxl : (x1 (2 * O + 1)).length ≤ 100000000 := by
                  have h1 : (x1 (2 * O + 1)).length ≤ _ := HTN.out.len O
                  have h2 := sumN_take HL.out
                  have h3 := HLL.out
                  omega
                have hOi : (O : Int) < n := by omega
                have hneU : (Value.slice q0 (x1 (2 * O + 1)).length d0).ownBlock ≠ some Us := fun e => by have := (hown0.lt Us e).1; have := HA.out.hU; omega
                have hneB : (Value.slice q0 (x1 (2 * O + 1)).length d0).ownBlock ≠ some B := fun e => by have := (hown0.lt B e).1; have := HA.out.hB; omega
                have HNEU := Lib.hid hneU; have HNEB := Lib.hid hneB
                clear hv0 hown0 hneU hneB
                go_upto_region 12 with fail
                clear ff hcell3 hbq hbq2
                have HB2 : Hid (w.heap.size + 4 ≤ ((wr.alloc (.cells #[.int .i64 (G : Int)] 3)).drew).heap.size) := Lib.hid (by show w.heap.size + 4 ≤ (wr.alloc _).heap.size; simp; omega)
                generalize hX : x1 (2 * O + 1) = X at *
                have HX := Lib.hid hX
                clear hX
                have hHs : wr.heap.size ≤ ((wr.alloc (.cells #[.int .i64 (G : Int)] 3)).drew).heap.size := by show _ ≤ (wr.alloc _).heap.size; simp
                have HHS := Lib.hid hHs
                clear hHs
                have hs4b := hs4
                have HXX := HX
                go_cut [] (fun wc => Hid (UserMid g w B Th Us Wt (Gr.upd x1 (2 * O + 1) (X ++ [G])) wt1 wc))
                case first =>
                  have fTa := cell_alloc fU (.cells #[.int .i64 (G : Int)] 3)
                  have fBa := cell_alloc fB1 (.cells #[.int .i64 (G : Int)] 3)
                  go_region_law ((refine step_append_lies _ (by rfl) (.tmp 74) (.tmp 76) 30 (by rfl) (w.heap.size + 4) 3 i0 (.int .i64 0) 1 8 Try.underlying30 I0.out I00.out I01.out I02.out rfl (by decide) _ X.length _ (by rfl) (own_drew (HOWN.out.alloc _)) ⟨wr.heap.size, 0, none⟩ 1 1 [.int .i64 (G : Int)] (by rfl) (by rfl) (fun j u hh => new_one wr _ _ j u hh) (by intro u hu; rw [List.mem_singleton.1 hu]; rfl) (by omega) (by unfold maxLen; omega) (by omega) HB2.out _ rfl ?_; intro g1 cap1 w1 hown hgr hat hlt1; have hBc := cell_grown fB1 hgr HNEB.out; have hTe := ent_grown HA.out.us hgr HNEU.out; have hTf := ent_free hTe; have hTc := cell_grown fU hgr HNEU.out))
                  all_goals
                    have HRR := Lib.hid (turn_user HA.out HBZ.out hs4b hlU (by rw [← HN.out]; exact hOl) (by rw [HX.out]; exact HV0.out) (by rw [HX.out]; exact hown) (by rw [HX.out]; exact hgr) (by rw [HX.out]; exact hat) HHS.out)
                    rw [HX.out] at HRR
                    clear hown hgr hat hBc hTe hTf hTc fTa fBa
                    go_wp2_with fail
                    go_meet
                    exact HRR
                case rest =>
                  obtain ⟨v2, ha2, hb2, hs2⟩ := hcut.out
                  have HA2 := Lib.hid ha2; have HB4 := Lib.hid hb2
                  clear ha2 hb2 hcut HA HOWN HV0 HNEU HNEB HB2 HHS hs4b hs4 fB1 fU
                  have fW : wc.cell? ⟨B, 2, none⟩ = some (.slice (some ⟨Wt, 0, none⟩) n n) := by rw [HN.out]; exact ent_cell HA2.out.ent 2 _ rfl
                  have fw := HA2.out.wt.cell (show G < g.length by rw [← HN.out]; exact hGl)
                  have fwf := HA2.out.wt.free G
                  have hGi : (G : Int) < n := by omega
                  have hwb : wt1 G ≤ 10000000000000000 := by
                    have h1 := HTN.out.waits G
                    have h2 := sumN_take HL.out
                    have h3 := HLL.out
                    have h4 := waits_le (n := g.length) (us := fun b => x1 (2 * b + 1)) (a := G) (M := 100000000) (fun b => by
                      have h5 : (x1 (2 * b + 1)).length ≤ _ := HTN.out.len b
                      omega)
                    have h6 : g.length * 100000000 ≤ 100000000 * 100000000 := Nat.mul_le_mul_right _ (by rw [← HN.out]; exact hsm)
                    omega
                  go_wp2
                  have HNEW : Hid (TurnRel g f w B Th Us Wt (k + 1) k (e + 1) (wc.setCell ⟨Wt, G, none⟩ (.int .i64 ((wt1 G : Int) + 1)))) := Lib.hid ⟨v2, _, _, HA2.out.wait G (wt1 G + 1) _ (by omega), (by
                    have h1 := HTN.out.other HL.out HON.out (by rw [← HOO.out, ← HGG.out]; exact HOG.out) (by rw [← HOO.out, ← HN.out]; exact hOl)
                    rw [← HOO.out, ← HGG.out] at h1
                    have e1 : (fun b => Gr.upd x1 (2 * O + 1) (X ++ [G]) (2 * b + 1)) = Gr.upd (fun b => x1 (2 * b + 1)) O (x1 (2 * O + 1) ++ [G]) := funext fun b => by
                      by_cases hbO : b = O
                      · subst hbO; rw [Gr.upd_same, Gr.upd_same, HXX.out]
                      · rw [Gr.upd_ne _ _ hbO, Gr.upd_ne _ _ (by omega)]
                    rw [e1]; exact h1), (fun r hr => by rw [Gr.upd_ne _ _ (by omega)]; exact HTH.out r hr), HB4.out.setCell (p := ⟨Wt, G, none⟩) hlW _, by simpa using hs2⟩
                  go_roundw
                  case rel => exact ⟨e + 1, by go_num, by omega, HNEW⟩
                  case measure => simp [intOf]; omega
            · have hee : e = l.length := by omega
              obtain ⟨v1, x1, wt1, ha, htn, hth, hb, hs4⟩ := HR.out
              have HNEW : Hid (TurnRel g f w B Th Us Wt (k + 1) (k + 1) 0 wr) := Lib.hid ⟨v1, x1, wt1, ha, htn.over HL.out hee, hth, hb, hs4⟩
              clear ha htn hth hb hs4 HR hee
              go_wp2
              go_roundw
              case rel => exact ⟨k + 1, by go_num, by omega, HNEW⟩
              case measure => simp [intOf]; omega
      · have hkk : k = g.length := by rw [← HN.out]; omega
        have hrr := HR.out
        rw [hkk] at hrr
        have HRR := Lib.hid hrr
        clear hrr hkk
        go_wp2
        go_ret
        exact ⟨B, Th, Us, Wt, rfl, HRR.out, hlB, hlT, hlU, hlW⟩
end Go.Proofs.Ytjefnmcalmcciaa
