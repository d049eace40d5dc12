/-
  (*writer).list.
-/
import Derived.Test.YtnhndamfbeiljaaGreatDoorGSwG
import Derived.Deep.RegionHeld3
namespace Go.Proofs.YtnhndamfbeiljaaGreatDoor
open Go Go.RowKit Go.Shelf
set_option linter.unusedVariables false
set_option linter.unusedSimpArgs false
attribute [local go_sem] Oper.semAt_some
namespace Sw
theorem cell_alloc {w : World} {a : Addr} {u : Value} (h : w.cell? a = some u) (o : Obj) : (w.alloc o).cell? a = some u := by
  rw [World.cell?_of_block (w := w)]
  · exact h
  · exact Below.heap_alloc w o _ (World.block_lt_of_cell? w _ h)
theorem box_grown {w w2 : World} {bx : Nat} {u v : Value} {r : Option Nat} {T : TypeId} (h : w.cell? ⟨bx, 0, none⟩ = some u) (hn : ∀ g, r = some g → g ≠ bx) (hgr : (w.alloc (.cells #[v] T)).drew.grownBy w2 r) : w2.cell? ⟨bx, 0, none⟩ = some u := by
  have hb := World.block_lt_of_cell? w _ h
  rw [World.cell?_of_block (w := w)]
  · exact h
  · exact ((grown_undrew hgr).block bx (by simp at hb ⊢; omega) (fun e => hn bx e.symm rfl)).trans (Below.heap_alloc w _ bx hb)
theorem box_set {w : World} {bx B j : Nat} {u v : Value} (h : w.cell? ⟨bx, 0, none⟩ = some u) (hn : bx ≠ B) : (w.setCell ⟨B, j, none⟩ v).cell? ⟨bx, 0, none⟩ = some u := by
  rw [World.cell?_of_block (w := w)]
  · exact h
  · exact Below.heap_setCell w _ _ bx hn
/-- The writer's block behind an append. -/
theorem own_block_ent {lo B bx : Nat} {w w2 : World} {T : List UInt8} {vs : List Value} {wv v : Value} (h : SVx lo B w T vs wv) (hgr : (w.alloc (.cells #[v] 125)).drew.grownBy w2 wv.ownBlock) (hbx : ∃ u, w.heap[bx]? = some (.cells #[u] 119 (0, 0))) :
    w2.cell? ⟨B, 2, none⟩ = some wv ∧ w2.frozen? ⟨B, 2, none⟩ = false ∧ bx ≠ B := by
  obtain ⟨cs, h1, h2, h3⟩ := h
  have hB2 : w2.heap[B]? = some (.cells cs 123 (0, 0)) := ((grown_undrew hgr).block B (by have := h1.lt; simp; omega) (fun e => Lib.ownBlock_ne h3 h1.heap (by decide) e.symm)).trans ((Below.heap_alloc w _ B h1.lt).trans h1.heap)
  refine ⟨(ent_cell hB2 2 _ h2), ent_free hB2 2, fun e => ?_⟩
  obtain ⟨u, hu⟩ := hbx
  subst e
  rw [h1.heap] at hu; simp only [Option.some.injEq, Obj.cells.injEq] at hu; exact absurd hu.2.1 (by decide)

def endV : Value := .func (.func 95) #[] #[]
def blankV : Value := .func (.func 98) #[] #[]
def emit (x : Nat × Fv) : List Value := if 0 < x.1 then [fv x.2, blankV] else [fv x.2]
theorem wrote_byteX {lo B : Nat} {w : World} {T : List UInt8} {vs : List Value} {wv : Value} (h : SVx lo B w T vs wv) (c : UInt8) (hlen : T.length ≤ 100000000) :
    Calls Tryz.prog 52 #[.pointer (some ⟨B, 0, none⟩), .int .u8 c.toNat] w fun e w' => e = .returned .nilIface ∧ SVx lo B w' (T ++ [c]) vs wv ∧ Below lo w w' ∧ KeepB B w w' ∧ Keep w w' := by
  have hlo := h.sv.low
  obtain ⟨cs, h1, h2, h3⟩ := h
  refine (writeByte_any btyW h1 c hlen hlo).mono ?_
  rintro e w' ⟨rfl, ⟨cs', h4, h5⟩, hb, hk⟩
  exact ⟨rfl, ⟨cs', h4, (h5 2 (by omega)).trans h2, own_keepB h3 h1.heap (by decide) (by decide) hk⟩, hb, hk, hk.keep h1.heap⟩
theorem SVx.below {lo B : Nat} {w w' : World} {T : List UInt8} {vs : List Value} {wv : Value} (h : SVx lo B w T vs wv) (hb : Below w.heap.size w w') : SVx lo B w' T vs wv := by
  obtain ⟨cs, h1, h2, h3⟩ := h
  obtain ⟨bv, b1, b2⟩ := h1.own
  exact ⟨cs, ⟨ent_below h1.heap hb, h1.size, h1.low, h1.addr, bv, b1, own_kept b2 hb⟩, h2, own_kept h3 hb⟩
theorem join_wp {P : Program} {c : Code} {a : Act} {w : World} {Q : Exit → Act → World → Prop} (f : Option Addr → Nat → Act) (R : Option Addr → Nat → World → Prop) (h1 : c.wp P (fun e a' w' => e = .normal ∧ ∃ p d, a' = f p d ∧ R p d w') a w) (h2 : ∀ p d w', R p d w' → Q .normal (f p d) w') : c.wp P Q a w :=
  Code.wp_mono (fun e a w ⟨he, p, d, ha, hr⟩ => by subst he; subst ha; exact h2 p d w hr) h1
theorem join_wpIn {P : Program} {F : Fence} {n : Nat} {c : Code} {a : Act} {w : World} {Q : Exit → Act → World → Prop} (f : Option Addr → Nat → Act) (R : Option Addr → Nat → World → Prop) (h1 : c.wpIn F n P (fun e a' w' => e = .normal ∧ ∃ p d, a' = f p d ∧ R p d w') a w) (h2 : ∀ p d w', R p d w' → Q .normal (f p d) w') : c.wpIn F n P Q a w :=
  Code.wpIn_mono (fun e a w ⟨he, p, d, ha, hr⟩ => by subst he; subst ha; exact h2 p d w hr) h1
/-- What one node more leaves. -/
def Pushed (lo B : Nat) (w : World) (T : List UInt8) (vs : List Value) (wv v : Value) (p : Option Addr) (d : Nat) (w' : World) : Prop :=
  SVx lo B w' T (vs ++ [v]) (.slice p (vs.length + 1) d) ∧ Below lo w w' ∧ KeepX B wv w w' ∧ ((Value.slice p (vs.length + 1) d).ownBlock = wv.ownBlock ∨ ∀ g, (Value.slice p (vs.length + 1) d).ownBlock = some g → w.heap.size ≤ g)
theorem SVx.grown {lo B : Nat} {w w' : World} {T : List UInt8} {vs : List Value} {wv : Value} {row : Option Nat} (h : SVx lo B w T vs wv) (hg : w.grownBy w' row) (hr : ∀ r, row = some r → ∃ o, w.heap[r]? = some o ∧ o.isCells = false) : SVx lo B w' T vs wv := by
  obtain ⟨cs, h1, h2, h3⟩ := h
  obtain ⟨bv, b1, b2⟩ := h1.own
  have hk : ∀ (g : Nat) (cur : Array Value) (E : TypeId), w.heap[g]? = some (.cells cur E (0, 0)) → w'.heap[g]? = some (.cells cur E (0, 0)) := fun g cur E hc => by
    refine (hg.block g (Array.getElem?_eq_some_iff.1 hc).1 (fun e => ?_)).trans hc
    obtain ⟨o, ho, hn⟩ := hr g e.symm
    rw [hc] at ho; cases ho; simp [Obj.isCells] at hn
  have own : ∀ {E : TypeId} {v : Value} {n : Nat} {xs : List Value}, w.ownsRow lo E 1 v n xs → w'.ownsRow lo E 1 v n xs := fun {E v n xs} ho => by
    refine ⟨ho.1, ?_⟩
    rcases ho.2 with e | ⟨g, cap, cur, rfl, a1, a2, a3⟩
    · exact .inl e
    · exact .inr ⟨g, cap, cur, rfl, a1, hk g cur E a2, a3⟩
  exact ⟨cs, ⟨hk B cs _ h1.heap, h1.size, h1.low, h1.addr, bv, b1, own b2⟩, h2, own h3⟩
theorem Keep.grown {w w1 w2 : World} {row : Option Nat} (h : Keep w w1) (hg : w1.grownBy w2 row) (hr : ∀ r, row = some r → ∃ o, w1.heap[r]? = some o ∧ o.isCells = false) : Keep w w2 :=
  ⟨Nat.le_trans h.1 hg.size, fun c cs T hc a1 a2 a3 => by
    have h1 := h.2 c cs T hc a1 a2 a3
    refine (hg.block c (Array.getElem?_eq_some_iff.1 h1).1 (fun e => ?_)).trans h1
    obtain ⟨o, ho, hn⟩ := hr c e.symm
    rw [h1] at ho; cases ho; simp [Obj.isCells] at hn⟩
/-- Between two rounds. -/
def LoopI (lo B : Nat) (wS : World) (T : List UInt8) (vs : List Value) (rb : Option Nat) (pre : List (Nat × Fv)) (W : World) : Prop :=
  (∃ wv, SVx lo B W T (vs ++ pre.flatMap emit) wv ∧ ∀ g, wv.ownBlock = some g → rb ≠ some g) ∧ Keep wS W ∧ Below lo wS W ∧ ∀ g, rb = some g → W.heap[g]? = wS.heap[g]?
theorem loopI_own {lo B : Nat} {wS : World} {T : List UInt8} {vs : List Value} {rb : Option Nat} (hrb : ∀ g, rb = some g → g < wS.heap.size) (hlo : lo ≤ wS.heap.size) : OwnFrom wS.heap.size (LoopI lo B wS T vs rb) := by
  rintro pre W W' row ⟨⟨wv, h1, h2⟩, h3, h4, h5⟩ hg hr
  have hr2 : ∀ r, row = some r → ∃ o, W.heap[r]? = some o ∧ o.isCells = false := fun r e => (hr r e).2
  refine ⟨⟨wv, h1.grown hg hr2, h2⟩, h3.grown hg hr2, h4.grown hg (by have := h4.size; omega) (fun k e => by have := (hr k e).1; omega), fun g e => ?_⟩
  refine (hg.block g (by have := h3.1; have := hrb g e; omega) (fun e2 => ?_)).trans (h5 g e)
  have := (hr g e2.symm).1
  have := hrb g e
  omega
/-- What a round keeps. -/
def LoopK (Bs : Nat) (rb : Option Nat) (A B : World) : Prop := ∀ b, b = Bs ∨ rb = some b → B.heap[b]? = A.heap[b]?
theorem loopK_b {wS : World} {Bs : Nat} {rb : Option Nat} (h1 : Bs < wS.heap.size) (h2 : ∀ g, rb = some g → g < wS.heap.size) (W : World) (l : Nat) (o o' : Obj) (hl : wS.heap.size ≤ l) (h : W.heap[l]? = some o) (_ : o.isCells = false) (_ : o.isWalk = false) : LoopK Bs rb W (W.putObj l o') := by
  intro b hb
  have hlt := (Array.getElem?_eq_some_iff.1 h).1
  have hbl : b < l := by
    rcases hb with rfl | hb
    · omega
    · have := h2 b hb; omega
  exact (grownBy_putObj' W l o').block b (by omega) (fun e => by cases e; omega)
theorem loopV_push {lo B Bs : Nat} {wS W w' : World} {T : List UInt8} {VS : List Value} {rb : Option Nat} {wv v : Value} {p : Option Addr} {d : Nat} {cb : Array Value} (q1 : SVx lo B W T VS wv) (q2 : ∀ g, wv.ownBlock = some g → rb ≠ some g) (q3 : Keep wS W) (q4 : Below lo wS W) (q5 : ∀ g, rb = some g → W.heap[g]? = wS.heap[g]?)
    (hrb : ∀ g, rb = some g → B < g ∧ g < wS.heap.size) (hBs : wS.heap[Bs]? = some (.cells cb 120 (0, 0))) (hp : Pushed lo B W T VS wv v p d w') :
    (∃ wv', SVx lo B w' T (VS ++ [v]) wv' ∧ ∀ g, wv'.ownBlock = some g → rb ≠ some g) ∧ Keep wS w' ∧ Below lo wS w' ∧ (∀ g, rb = some g → w'.heap[g]? = wS.heap[g]?) ∧ LoopK Bs rb W w' ∧ KeepsFrom wS.heap.size W w' := by
  obtain ⟨s1, s2, s3, s4⟩ := hp
  have hsz := q3.1
  have hr : ∀ g, rb = some g → w'.heap[g]? = W.heap[g]? := fun g hg => by
    have h1 := hrb g hg
    obtain ⟨o, ho⟩ : ∃ o, W.heap[g]? = some o := ⟨_, Array.getElem?_eq_getElem (by omega)⟩
    rw [ho]
    exact s3.2 g o ho (by omega) (fun e => q2 g e hg)
  have hb : w'.heap[Bs]? = W.heap[Bs]? := by
    have h1 := q3.2 Bs _ _ hBs (by decide) (by decide) (by decide)
    rw [h1]
    refine s3.2 Bs _ h1 (fun e => ?_) (fun e => ?_)
    · obtain ⟨_, cs, hc⟩ := q1.ent
      subst e; rw [h1] at hc; simp only [Option.some.injEq, Obj.cells.injEq] at hc; exact absurd hc.2.1 (by decide)
    · obtain ⟨_, cur, hc⟩ := own_ent q1.own e
      rw [h1] at hc; simp only [Option.some.injEq, Obj.cells.injEq] at hc; exact absurd hc.2.1 (by decide)
  refine ⟨⟨_, s1, fun g hg e => ?_⟩, q3.trans (q1.keep s3), q4.trans s2, fun g hg => (hr g hg).trans (q5 g hg), fun b hbb => ?_, ⟨s3.1, fun k o _ hk ho => s3.2 k o hk (fun e => ?_) (fun e => ?_)⟩⟩
  · rcases s4 with h | h
    · exact q2 g (h ▸ hg) e
    · have := h g hg; have := (hrb g e).2; omega
  · rcases hbb with rfl | hbb
    · exact hb
    · exact hr b hbb
  · obtain ⟨_, cs, hc⟩ := q1.ent
    subst e; rw [hk] at hc; simp only [Option.some.injEq] at hc; subst hc; simp [Obj.isCells] at ho
  · obtain ⟨_, cur, hc⟩ := own_ent q1.own e
    rw [hk] at hc; simp only [Option.some.injEq] at hc; subst hc; simp [Obj.isCells] at ho
theorem emit_len (l : List (Nat × Fv)) : (l.flatMap emit).length ≤ 2 * l.length := by
  induction l with
  | nil => simp
  | cons x r ih =>
    have : (emit x).length ≤ 2 := by unfold emit; split <;> simp
    simp only [List.flatMap_cons, List.length_append, List.length_cons]; omega
theorem flat_emit (a : List (Nat × Fv)) (x : Nat × Fv) : (a ++ [x]).flatMap emit = a.flatMap emit ++ emit x := by simp

set_option maxHeartbeats 4000000 in
set_option maxRecDepth 100000 in
theorem list_any {lo B : Nat} {w1 w : World} {T : List UInt8} {vs : List Value} (h : SV lo B w1 T vs) (hb : Below w1.heap.size w1 w) (gq : Option Addr) (gn gc : Nat) (ls : List (List Fv)) (zs : List Fv) (hz : ls.flatten = zs) (hg : GRow w1.heap.size w (.slice gq gn gc) (ls.map fun l => l.map fv))
    (hT : T.length ≤ 80000000) (hn : zs.length ≤ 1000000) (hm : ls.length ≤ 1000) (hv : vs.length ≤ 10000000) :
    Calls Tryz.prog 55 #[.pointer (some ⟨B, 0, none⟩), .slice gq gn gc] w fun e w' => e = .returned (.tuple #[]) ∧ SV lo B w' (T ++ [40]) (vs ++ [endV] ++ (downto zs zs.length).flatMap emit) ∧ Below lo w w' ∧ Keep w w' := by
  have hlo := h.low
  have hBlt : B < w1.heap.size := by obtain ⟨cs, wv, h1, _⟩ := h; exact h1.lt
  have hsz := hb.size
  have hA : Below w.heap.size w (w.alloc (.cells #[.pointer (some ⟨B, 0, none⟩)] 119)) := (Below.refl _ _).alloc (Nat.le_refl _) _
  obtain ⟨wv, hx1⟩ := h.x
  have hwv1 : ∀ g, wv.ownBlock = some g → g < w1.heap.size := fun g hg2 => by obtain ⟨_, cur, hc⟩ := own_ent hx1.own hg2; exact (Array.getElem?_eq_some_iff.1 hc).1
  have HW := Lib.hid ((hx1.below hb).below hA)
  have HWV := Lib.hid hwv1
  have HG := Lib.hid (hg.keep (w' := w.alloc (.cells #[.pointer (some ⟨B, 0, none⟩)] 119)) fun g cur E _ _ he => ent_below he hA)
  have HBX := Lib.hid (ent_new w #[.pointer (some ⟨B, 0, none⟩)] 119)
  have HA := Lib.hid hA
  have HT := Lib.hid hT
  have HN := Lib.hid hn
  have HM := Lib.hid hm
  have HV := Lib.hid hv
  have HLO1 := Lib.hid hlo
  have HFL : Hid ((ls.map fun l => l.map fv).flatten = zs.map fv) := Lib.hid (by rw [← hz, List.map_flatten])
  refine (callsIn_wide (n := 6)).1 ?_
  refine callsIn_of_wp_marks Tryz.func55 rfl trivial ?_ rfl
  simp only [Tryz.ntmps55, List.size_toArray, List.length_cons, List.length_nil, Nat.reduceAdd, Nat.reduceSub, Array.replicate_succ, Array.replicate_zero, List.push_toArray, List.append_toArray, List.nil_append, List.cons_append]
  clear h hb hg hT hn hm hv hA hlo hz hx1 hwv1
  gi_wp2
  obtain ⟨bx, hbx⟩ : ∃ bx, bx = w.heap.size := ⟨_, rfl⟩
  obtain ⟨w0, hw0⟩ : ∃ w0, w0 = w.alloc (.cells #[.pointer (some ⟨B, 0, none⟩)] 119) := ⟨_, rfl⟩
  rw [← hw0] at HW HG HBX HA ⊢
  rw [← hbx] at HBX ⊢
  have hbxl : w1.heap.size ≤ bx := by omega
  have hbxs : bx < w0.heap.size := ent_lt HBX.out
  have HWS := Lib.hid (show w.heap.size ≤ w0.heap.size by omega)
  clear hbx hw0
  refine ⟨trivial, (callsIn_wide.2 (wrote_byteX HW.out 40 (by have := HT.out; omega))).mono ?_⟩
  rintro e wa ⟨rfl, h1, hb1, hk1, hkk1⟩
  have EXa := Lib.hid (hk1.2 bx _ HBX.out (by omega) (fun cs fr e => by simp only [Obj.cells.injEq] at e; exact absurd e.2.1 (by decide)))
  have GA := Lib.hid (HG.out.keep (w' := wa) fun g cur E hgl hE he => hk1.2 g _ he (by omega) (fun cs fr e => by simp only [Obj.cells.injEq] at e; rcases hE with rfl | rfl <;> exact absurd e.2.1 (by decide)))
  have KA := Lib.hid hkk1
  have BA := Lib.hid hb1
  have SX := Lib.hid h1
  have EB := Lib.hid (show ∃ u, wa.heap[bx]? = some (.cells #[u] 119 (0, 0)) from ⟨_, EXa.out⟩)
  have EX := Lib.hid (ent_cell EXa.out 0 (.pointer (some ⟨B, 0, none⟩)) rfl)
  have HBQ := Lib.hid (show ∀ g, wv.ownBlock = some g → g ≠ bx from fun g hg2 => by have := HWV.out g hg2; omega)
  have hla : lo ≤ wa.heap.size := by have := hb1.size; have := HLO1.out; omega
  have HLO := Lib.hid hla
  clear h1 hb1 hk1 hkk1
  gi_wp2
  refine wpIn_wide.2 ?_
  refine join_wp (fun p d => { tmps := List.toArray (.pointer (some ⟨B, 0, none⟩) :: .slice gq gn gc :: .pointer (some ⟨bx, 0, none⟩) :: undef :: undef :: undef :: .pointer (some ⟨B, 0, none⟩) :: .pointer (some ⟨B, 0, none⟩) :: .pointer (some ⟨B, 0, none⟩) :: .nilIface :: .pointer (some ⟨B, 0, none⟩) :: .pointer (some ⟨B, 0, none⟩) :: .pointer (some ⟨B, 0, none⟩) :: .pointer (some ⟨B, 2, none⟩) :: wv :: .slice (some ⟨wa.heap.size, 0, none⟩) 1 1 :: .slice p (vs.length + 1) d :: .pointer (some ⟨B, 0, none⟩) :: .pointer (some ⟨B, 2, none⟩) :: undef :: undef :: undef :: undef :: undef :: undef :: undef :: undef :: undef :: undef :: undef :: undef :: undef :: undef :: undef :: undef :: undef :: undef :: undef :: undef :: undef :: undef :: undef :: undef :: undef :: undef :: []), defers := [] }) (Pushed lo B wa (T ++ [40]) vs wv (.func (.func 95) #[] #[])) ?_ ?_
  · refine wp_region_held_drew (S := fun (u : World) => u.cell? ⟨bx, 0, none⟩ = some (.pointer (some ⟨B, 0, none⟩))) (by kernel_rfl) (show wa.drew.cell? _ = _ from EX.out) (fun hHeld => ?_)
    refine wpAnyH_take (i := 0) (v := .pointer (some ⟨B, 0, none⟩)) rfl (by kernel_rfl) (by kernel_rfl) (by kernel_rfl) (fun _ _ _ h => by first | exact h | exact h.elim | (cases h.1)) (Or.inl ⟨by rfl, fun w' hSw => by have z0 : w'.cell? ⟨bx, 0, none⟩ = some (.pointer (some ⟨B, 0, none⟩)) := hSw; go_simp⟩) hHeld ?_
    refine wpAnyH_take (i := 1) (v := .pointer (some ⟨B, 0, none⟩)) rfl (by kernel_rfl) (by kernel_rfl) (by kernel_rfl) (fun _ _ _ h => by first | exact h | exact h.elim | (cases h.1)) (Or.inl ⟨by rfl, fun w' hSw => by have z0 : w'.cell? ⟨bx, 0, none⟩ = some (.pointer (some ⟨B, 0, none⟩)) := hSw; go_simp⟩) hHeld ?_
    refine wpAnyH_take (i := 2) (v := .pointer (some ⟨B, 0, none⟩)) rfl (by kernel_rfl) (by kernel_rfl) (by kernel_rfl) (fun _ _ _ h => by first | exact h | exact h.elim | (cases h.1)) (Or.inl ⟨by rfl, fun w' hSw => by go_simp⟩) hHeld ?_
    refine wpAnyH_take (i := 3) (v := .pointer (some ⟨B, 2, none⟩)) rfl (by kernel_rfl) (by kernel_rfl) (by kernel_rfl) (fun _ _ _ h => by first | exact h | exact h.elim | (cases h.1)) (Or.inl ⟨by rfl, fun w' hSw => by go_simp⟩) hHeld ?_
    try simp only [Act.put, List.getElem_toArray, List.getElem_cons_succ, List.getElem_cons_zero, List.setIfInBounds_toArray, List.set_cons_zero, List.set_cons_succ]
    refine wpAnyH_ready (rs := [4, 5]) (by kernel_rfl) (by simp) ?_
    refine AllReadyH.cons rfl (fun K hK => ?_) (AllReadyH.cons rfl (fun K hK => ?_) AllReadyH.nil)
    · have z2 : wa.drew.cell? ⟨B, 2, none⟩ = some wv := SX.out.cell
      go_simp
      clear z2
      refine hK.out _ _ EX.out (fun hHeld => ?_)
      clear hK K
      refine wpAnyH_ready (rs := [5]) (by kernel_rfl) (by simp) ?_
      refine AllReadyH.cons rfl (fun K hK => ?_) AllReadyH.nil
      go_simp
      refine hK.out _ _ (show (wa.alloc (.cells #[.func (.func 95) #[] #[]] 125)).drew.cell? _ = _ from cell_alloc EX.out _) (fun hHeld => ?_)
      clear hK K
      refine wpAnyH_ready (rs := [6]) (by kernel_rfl) (by simp) ?_
      refine AllReadyH.cons rfl (fun K hK => ?_) AllReadyH.nil
      refine step_push (w := wa) rfl _ _ rfl rfl SX.out.own (by have := HV.out; omega) HLO.out rfl rfl ?_
      intro pc cc w2 g1 g2 g3
      obtain ⟨k1, k2, k3, k4⟩ := push_world SX.out _ _ g1 g2 g3
      have hB2 := own_block_ent SX.out g2 EB.out
      have hbx2 := box_grown EX.out HBQ.out g2
      refine hK.out _ _ hbx2 (fun hHeld => ?_)
      clear hK K g1 g2 g3
      refine wpAnyH_take (i := 7) (v := .pointer (some ⟨B, 0, none⟩)) rfl (by kernel_rfl) (by kernel_rfl) (by kernel_rfl) (fun _ _ _ h => by first | exact h | exact h.elim | (cases h.1)) (Or.inl ⟨by rfl, fun w' hSw => by go_simp⟩) hHeld ?_
      try simp only [Act.put, List.getElem_toArray, List.getElem_cons_succ, List.getElem_cons_zero, List.setIfInBounds_toArray, List.set_cons_zero, List.set_cons_succ]
      refine wpAnyH_take (i := 8) (v := .pointer (some ⟨B, 2, none⟩)) rfl (by kernel_rfl) (by kernel_rfl) (by kernel_rfl) (fun _ _ _ h => by first | exact h | exact h.elim | (cases h.1)) (Or.inl ⟨by rfl, fun w' hSw => by go_simp⟩) hHeld ?_
      try simp only [Act.put, List.getElem_toArray, List.getElem_cons_succ, List.getElem_cons_zero, List.setIfInBounds_toArray, List.set_cons_zero, List.set_cons_succ]
      refine wpAnyH_ready (rs := [9]) (by kernel_rfl) (by simp) ?_
      refine AllReadyH.cons rfl (fun K hK => ?_) AllReadyH.nil
      obtain ⟨z2, zf, zb⟩ := hB2
      go_simp
      clear z2 zf
      refine hK.out _ _ (box_set hbx2 zb) (fun hHeld => ?_)
      clear hK K hbx2 zb
      refine wpAnyH_done (by kernel_rfl) ?_ _
      exact ⟨rfl, pc, cc, rfl, k1, k2, k3, k4⟩
    · go_simp
      refine hK.out _ _ (show (wa.alloc (.cells #[.func (.func 95) #[] #[]] 125)).drew.cell? _ = _ from cell_alloc EX.out _) (fun hHeld => ?_)
      clear hK K
      refine wpAnyH_ready (rs := [4]) (by kernel_rfl) (by simp) ?_
      refine AllReadyH.cons rfl (fun K hK => ?_) AllReadyH.nil
      have z2 : (wa.alloc (.cells #[.func (.func 95) #[] #[]] 125)).cell? ⟨B, 2, none⟩ = some wv := cell_alloc SX.out.cell _
      go_simp
      clear z2
      refine hK.out _ _ (show (wa.alloc (.cells #[.func (.func 95) #[] #[]] 125)).drew.cell? _ = _ from cell_alloc EX.out _) (fun hHeld => ?_)
      clear hK K
      refine wpAnyH_ready (rs := [6]) (by kernel_rfl) (by simp) ?_
      refine AllReadyH.cons rfl (fun K hK => ?_) AllReadyH.nil
      refine step_push (w := wa) rfl _ _ rfl rfl SX.out.own (by have := HV.out; omega) HLO.out rfl rfl ?_
      intro pc cc w2 g1 g2 g3
      obtain ⟨k1, k2, k3, k4⟩ := push_world SX.out _ _ g1 g2 g3
      have hB2 := own_block_ent SX.out g2 EB.out
      have hbx2 := box_grown EX.out HBQ.out g2
      refine hK.out _ _ hbx2 (fun hHeld => ?_)
      clear hK K g1 g2 g3
      refine wpAnyH_take (i := 7) (v := .pointer (some ⟨B, 0, none⟩)) rfl (by kernel_rfl) (by kernel_rfl) (by kernel_rfl) (fun _ _ _ h => by first | exact h | exact h.elim | (cases h.1)) (Or.inl ⟨by rfl, fun w' hSw => by go_simp⟩) hHeld ?_
      try simp only [Act.put, List.getElem_toArray, List.getElem_cons_succ, List.getElem_cons_zero, List.setIfInBounds_toArray, List.set_cons_zero, List.set_cons_succ]
      refine wpAnyH_take (i := 8) (v := .pointer (some ⟨B, 2, none⟩)) rfl (by kernel_rfl) (by kernel_rfl) (by kernel_rfl) (fun _ _ _ h => by first | exact h | exact h.elim | (cases h.1)) (Or.inl ⟨by rfl, fun w' hSw => by go_simp⟩) hHeld ?_
      try simp only [Act.put, List.getElem_toArray, List.getElem_cons_succ, List.getElem_cons_zero, List.setIfInBounds_toArray, List.set_cons_zero, List.set_cons_succ]
      refine wpAnyH_ready (rs := [9]) (by kernel_rfl) (by simp) ?_
      refine AllReadyH.cons rfl (fun K hK => ?_) AllReadyH.nil
      obtain ⟨z2, zf, zb⟩ := hB2
      go_simp
      clear z2 zf
      refine hK.out _ _ (box_set hbx2 zb) (fun hHeld => ?_)
      clear hK K hbx2 zb
      refine wpAnyH_done (by kernel_rfl) ?_ _
      exact ⟨rfl, pc, cc, rfl, k1, k2, k3, k4⟩
  intro p0 d0 wb ⟨s1, s2, s3, s4⟩
  have EXb := Lib.hid (s3.2 bx _ EXa.out (by omega) (fun e => HBQ.out bx e rfl))
  have GB := Lib.hid (GA.out.keep (w' := wb) fun g cur E hgl hE he => s3.2 g _ he (by omega) (fun e => by have := HWV.out g e; omega))
  have KB := Lib.hid (KA.out.trans (SX.out.keep s3))
  have BB := Lib.hid (BA.out.trans s2)
  have hwv2 : ∀ g, (Value.slice p0 (vs.length + 1) d0).ownBlock = some g → g < wb.heap.size := fun g hg2 => by obtain ⟨_, cur, hc⟩ := own_ent s1.own hg2; exact (Array.getElem?_eq_some_iff.1 hc).1
  have HWV2 := Lib.hid hwv2
  have SB := Lib.hid s1
  have hsb : wa.heap.size ≤ wb.heap.size := s3.1
  have hsa : w0.heap.size ≤ wa.heap.size := BA.out.size
  clear s1 s2 s3 s4 hwv2 SX EX EB GA KA BA HBQ
  gi_wp2
  refine ⟨trivial, (callsIn_wide.2 (concat_any w1.heap.size _ _ wb GB.out.row (by rw [HFL.out, List.length_map]; exact HN.out) (by rw [List.length_map]; have := HM.out; omega))).mono ?_⟩
  rw [HFL.out, List.length_map]
  rintro e wc ⟨rv, rfl, hbc, hown⟩
  obtain ⟨rq, rc, rfl⟩ := own_sl hown
  have HOC := Lib.hid hown
  have HBC := Lib.hid hbc
  clear hown hbc
  gi_wp2
  refine ⟨trivial, (backward_in Fence.wide _ trivial rfl _ _ _ wc).mono ?_⟩
  rintro e wS ⟨rfl, hwS⟩
  have hBS : Below wc.heap.size wc wS := by rw [hwS]; exact (Below.refl _ _).alloc (Nat.le_refl _) _
  have hES : wS.heap[wc.heap.size]? = some (.cells #[.slice rq zs.length rc] 120 (0, 0)) := by rw [hwS]; exact ent_new wc _ _
  have hsS : wS.heap.size = wc.heap.size + 1 := by rw [hwS]; simp
  have HBS := Lib.hid hBS
  have HES := Lib.hid hES
  obtain ⟨Bs, hBs⟩ : ∃ Bs, Bs = wc.heap.size := ⟨_, rfl⟩
  rw [← hBs] at HES ⊢
  have hBsl : wb.heap.size ≤ Bs := by rw [hBs]; exact HBC.out.size
  have hBss : Bs < wS.heap.size := ent_lt HES.out
  have HOS := Lib.hid (own_kept HOC.out HBS.out)
  have HBbS := Lib.hid (HBC.out.trans (HBS.out.mono HBC.out.size))
  have hsbs : wb.heap.size ≤ wS.heap.size := HBbS.out.size
  clear hwS hBS hES hsS hBs HOC
  gi_wp2
  have hrb : ∀ g, (Value.slice rq zs.length rc).ownBlock = some g → wb.heap.size ≤ g ∧ g < wS.heap.size := fun g hg2 => by
    obtain ⟨a1, cur, hc⟩ := own_ent HOS.out hg2
    exact ⟨a1, (Array.getElem?_eq_some_iff.1 hc).1⟩
  have HRB := Lib.hid hrb
  have hlo0 : lo ≤ wS.heap.size := by have := HLO1.out; omega
  have h0 : LoopI lo B wS (T ++ [40]) (vs ++ [endV]) (Value.slice rq zs.length rc).ownBlock [] wS := ⟨⟨_, by rw [List.flatMap_nil, List.append_nil]; exact SB.out.below HBbS.out, fun g hg2 e => by have := HWV2.out g hg2; have := (HRB.out g e).1; omega⟩, Keep.refl _, Below.refl _ _, fun _ _ => rfl⟩
  have H0 := Lib.hid h0
  have EXS := Lib.hid (ent_below EXb.out HBbS.out)
  clear hrb h0
  trace_state
  refine wpIn_rangeFunc_ownG (α := Nat × Fv) rfl (by decide) (gf := 130) (lb := #[.pointer (some ⟨Bs, 0, none⟩)]) rfl trivial (enters_of Tryz.func130 (by kernel_rfl) rfl)
    (backward_stops Fence.wide _ trivial rfl (by decide) Bs wb.heap.size _ zs HN.out wS (LoopK Bs (Value.slice rq zs.length rc).ownBlock) (fun A B b h hb => h b hb) HES.out HOS.out) (fun h k b hb => (k b hb).trans (h b hb)) (loopK_b hBss (fun g hg2 => (HRB.out g hg2).2)) (Below.refl _ _) (fun _ => rfl)
    (LoopI lo B wS (T ++ [40]) (vs ++ [endV]) (Value.slice rq zs.length rc).ownBlock) (fun _ _ _ => False) (loopI_own (fun g hg2 => (HRB.out g hg2).2) hlo0) (fun _ _ _ _ _ hs _ _ => hs) H0.out (fun x => { tmps := List.toArray (.pointer (some ⟨B, 0, none⟩) :: .slice gq gn gc :: .pointer (some ⟨bx, 0, none⟩) :: undef :: .int .i64 (x.1 : Nat) :: fv x.2 :: .pointer (some ⟨B, 0, none⟩) :: .pointer (some ⟨B, 0, none⟩) :: .pointer (some ⟨B, 0, none⟩) :: .nilIface :: .pointer (some ⟨B, 0, none⟩) :: .pointer (some ⟨B, 0, none⟩) :: .pointer (some ⟨B, 0, none⟩) :: .pointer (some ⟨B, 2, none⟩) :: wv :: .slice (some ⟨wa.heap.size, 0, none⟩) 1 1 :: .slice p0 (vs.length + 1) d0 :: .pointer (some ⟨B, 0, none⟩) :: .pointer (some ⟨B, 2, none⟩) :: .slice gq gn gc :: .slice rq zs.length rc :: .func (.func 130) #[] #[.pointer (some ⟨Bs, 0, none⟩)] :: .int .i64 (x.1 : Nat) :: fv x.2 :: undef :: undef :: undef :: undef :: undef :: undef :: undef :: undef :: undef :: undef :: undef :: undef :: undef :: undef :: undef :: undef :: undef :: undef :: undef :: undef :: undef :: []), defers := [] }) ?assign ?body ?done ?stop
  case assign =>
    intro l x W K hK
    gi_wp2
    exact hK
  case body =>
    rintro l pre ⟨xi, z1, z2⟩ W ⟨⟨wvr, q1, q2⟩, q3, q4, q5⟩ hpl
    have q6 := q3.2 bx _ _ EXS.out (by decide) (by decide) (by decide)
    have SX := Lib.hid q1
    have Q2 := Lib.hid q2
    have Q3 := Lib.hid q3
    have Q4 := Lib.hid q4
    have Q5 := Lib.hid q5
    have EB := Lib.hid (show ∃ u, W.heap[bx]? = some (.cells #[u] 119 (0, 0)) from ⟨_, q6⟩)
    have EX := Lib.hid (ent_cell q6 0 (.pointer (some ⟨B, 0, none⟩)) rfl)
    have HBQ := Lib.hid (show ∀ g, wvr.ownBlock = some g → g ≠ bx from fun g hg2 e => by obtain ⟨_, cur, hc⟩ := own_ent q1.own hg2; subst e; rw [q6] at hc; simp only [Option.some.injEq, Obj.cells.injEq] at hc; exact absurd hc.2.1 (by decide))
    have HLO := Lib.hid (show lo ≤ W.heap.size by have := q3.1; omega)
    have HLE := Lib.hid (show (vs ++ [endV] ++ pre.flatMap emit).length ≤ 90000000 by have := emit_len pre; have := HV.out; have := HN.out; simp only [List.length_append, List.length_cons, List.length_nil]; omega)
    clear q1 q2 q3 q4 q5 q6 hpl SB H0
    obtain ⟨VS, hVS⟩ : ∃ VS, VS = vs ++ [endV] ++ pre.flatMap emit := ⟨_, rfl⟩
    rw [← hVS] at SX HLE
    have HVS := Lib.hid hVS
    clear hVS
    simp only [fv]
    gi_wp2
    refine join_wpIn (fun p d => { tmps := List.toArray (.pointer (some ⟨B, 0, none⟩) :: .slice gq gn gc :: .pointer (some ⟨bx, 0, none⟩) :: undef :: .int .i64 (xi : Nat) :: .func (.func z1) #[] z2 :: .pointer (some ⟨B, 0, none⟩) :: .pointer (some ⟨B, 0, none⟩) :: .pointer (some ⟨B, 0, none⟩) :: .nilIface :: .pointer (some ⟨B, 0, none⟩) :: .pointer (some ⟨B, 0, none⟩) :: .pointer (some ⟨B, 0, none⟩) :: .pointer (some ⟨B, 2, none⟩) :: wv :: .slice (some ⟨wa.heap.size, 0, none⟩) 1 1 :: .slice p0 (vs.length + 1) d0 :: .pointer (some ⟨B, 0, none⟩) :: .pointer (some ⟨B, 2, none⟩) :: .slice gq gn gc :: .slice rq zs.length rc :: .func (.func 130) #[] #[.pointer (some ⟨Bs, 0, none⟩)] :: .int .i64 (xi : Nat) :: .func (.func z1) #[] z2 :: .pointer (some ⟨B, 0, none⟩) :: .pointer (some ⟨B, 0, none⟩) :: .pointer (some ⟨B, 0, none⟩) :: .pointer (some ⟨B, 2, none⟩) :: wvr :: .func (.func z1) #[] z2 :: .slice (some ⟨W.heap.size, 0, none⟩) 1 1 :: .slice p (VS.length + 1) d :: .pointer (some ⟨B, 0, none⟩) :: .pointer (some ⟨B, 2, none⟩) :: undef :: undef :: undef :: undef :: undef :: undef :: undef :: undef :: undef :: undef :: undef :: []), defers := [] }) (Pushed lo B W (T ++ [40]) VS wvr (.func (.func z1) #[] z2)) ?_ ?_
    · refine region_round (S := fun (u : World) => u.cell? ⟨bx, 0, none⟩ = some (.pointer (some ⟨B, 0, none⟩))) (by kernel_rfl) (by kernel_rfl) (show W.drew.cell? _ = _ from EX.out) (fun hHeld => ?_)
      refine wpAnyH_take (i := 0) (v := .pointer (some ⟨B, 0, none⟩)) rfl (by kernel_rfl) (by kernel_rfl) (by kernel_rfl) (fun _ _ _ h => by first | exact h | exact h.elim | (cases h.1)) (Or.inl ⟨by rfl, fun w' hSw => by have z0 : w'.cell? ⟨bx, 0, none⟩ = some (.pointer (some ⟨B, 0, none⟩)) := hSw; go_simp⟩) hHeld ?_
      refine wpAnyH_take (i := 1) (v := .pointer (some ⟨B, 0, none⟩)) rfl (by kernel_rfl) (by kernel_rfl) (by kernel_rfl) (fun _ _ _ h => by first | exact h | exact h.elim | (cases h.1)) (Or.inl ⟨by rfl, fun w' hSw => by have z0 : w'.cell? ⟨bx, 0, none⟩ = some (.pointer (some ⟨B, 0, none⟩)) := hSw; go_simp⟩) hHeld ?_
      refine wpAnyH_take (i := 2) (v := .pointer (some ⟨B, 0, none⟩)) rfl (by kernel_rfl) (by kernel_rfl) (by kernel_rfl) (fun _ _ _ h => by first | exact h | exact h.elim | (cases h.1)) (Or.inl ⟨by rfl, fun w' hSw => by go_simp⟩) hHeld ?_
      refine wpAnyH_take (i := 3) (v := .pointer (some ⟨B, 2, none⟩)) rfl (by kernel_rfl) (by kernel_rfl) (by kernel_rfl) (fun _ _ _ h => by first | exact h | exact h.elim | (cases h.1)) (Or.inl ⟨by rfl, fun w' hSw => by go_simp⟩) hHeld ?_
      refine wpAnyH_take (i := 5) (v := .func (.func z1) #[] z2) rfl (by kernel_rfl) (by kernel_rfl) (by kernel_rfl) (fun _ _ _ h => by first | exact h | exact h.elim | (cases h.1)) (Or.inl ⟨by rfl, fun w' hSw => by go_simp⟩) hHeld ?_
      try simp only [Act.put, List.getElem_toArray, List.getElem_cons_succ, List.getElem_cons_zero, List.setIfInBounds_toArray, List.set_cons_zero, List.set_cons_succ]
      refine wpAnyH_ready (rs := [4, 6]) (by kernel_rfl) (by simp) ?_
      refine AllReadyH.cons rfl (fun K hK => ?_) (AllReadyH.cons rfl (fun K hK => ?_) AllReadyH.nil)
      · have z2 : W.drew.cell? ⟨B, 2, none⟩ = some wvr := SX.out.cell
        go_simp
        clear z2
        refine hK.out _ _ EX.out (fun hHeld => ?_)
        clear hK K
        refine wpAnyH_ready (rs := [6]) (by kernel_rfl) (by simp) ?_
        refine AllReadyH.cons rfl (fun K hK => ?_) AllReadyH.nil
        go_simp
        refine hK.out _ _ (show (W.alloc (.cells #[.func (.func z1) #[] z2] 125)).drew.cell? _ = _ from cell_alloc EX.out _) (fun hHeld => ?_)
        clear hK K
        refine wpAnyH_ready (rs := [7]) (by kernel_rfl) (by simp) ?_
        refine AllReadyH.cons rfl (fun K hK => ?_) AllReadyH.nil
        refine step_push (w := W) rfl _ _ rfl rfl SX.out.own (by have := HLE.out; omega) HLO.out rfl rfl ?_
        intro pc cc w2 g1 g2 g3
        obtain ⟨k1, k2, k3, k4⟩ := push_world SX.out _ _ g1 g2 g3
        have hB2 := own_block_ent SX.out g2 EB.out
        have hbx2 := box_grown EX.out HBQ.out g2
        refine hK.out _ _ hbx2 (fun hHeld => ?_)
        clear hK K g1 g2 g3
        refine wpAnyH_take (i := 8) (v := .pointer (some ⟨B, 0, none⟩)) rfl (by kernel_rfl) (by kernel_rfl) (by kernel_rfl) (fun _ _ _ h => by first | exact h | exact h.elim | (cases h.1)) (Or.inl ⟨by rfl, fun w' hSw => by go_simp⟩) hHeld ?_
        try simp only [Act.put, List.getElem_toArray, List.getElem_cons_succ, List.getElem_cons_zero, List.setIfInBounds_toArray, List.set_cons_zero, List.set_cons_succ]
        refine wpAnyH_take (i := 9) (v := .pointer (some ⟨B, 2, none⟩)) rfl (by kernel_rfl) (by kernel_rfl) (by kernel_rfl) (fun _ _ _ h => by first | exact h | exact h.elim | (cases h.1)) (Or.inl ⟨by rfl, fun w' hSw => by go_simp⟩) hHeld ?_
        try simp only [Act.put, List.getElem_toArray, List.getElem_cons_succ, List.getElem_cons_zero, List.setIfInBounds_toArray, List.set_cons_zero, List.set_cons_succ]
        refine wpAnyH_ready (rs := [10]) (by kernel_rfl) (by simp) ?_
        refine AllReadyH.cons rfl (fun K hK => ?_) AllReadyH.nil
        obtain ⟨z2, zf, zb⟩ := hB2
        go_simp
        clear z2 zf
        refine hK.out _ _ (box_set hbx2 zb) (fun hHeld => ?_)
        clear hK K hbx2 zb
        refine wpAnyH_done (by kernel_rfl) ?_ _
        exact ⟨rfl, pc, cc, rfl, k1, k2, k3, k4⟩
      · go_simp
        refine hK.out _ _ (show (W.alloc (.cells #[.func (.func z1) #[] z2] 125)).drew.cell? _ = _ from cell_alloc EX.out _) (fun hHeld => ?_)
        clear hK K
        refine wpAnyH_ready (rs := [4]) (by kernel_rfl) (by simp) ?_
        refine AllReadyH.cons rfl (fun K hK => ?_) AllReadyH.nil
        have z2 : (W.alloc (.cells #[.func (.func z1) #[] z2] 125)).cell? ⟨B, 2, none⟩ = some wvr := cell_alloc SX.out.cell _
        go_simp
        clear z2
        refine hK.out _ _ (show (W.alloc (.cells #[.func (.func z1) #[] z2] 125)).drew.cell? _ = _ from cell_alloc EX.out _) (fun hHeld => ?_)
        clear hK K
        refine wpAnyH_ready (rs := [7]) (by kernel_rfl) (by simp) ?_
        refine AllReadyH.cons rfl (fun K hK => ?_) AllReadyH.nil
        refine step_push (w := W) rfl _ _ rfl rfl SX.out.own (by have := HLE.out; omega) HLO.out rfl rfl ?_
        intro pc cc w2 g1 g2 g3
        obtain ⟨k1, k2, k3, k4⟩ := push_world SX.out _ _ g1 g2 g3
        have hB2 := own_block_ent SX.out g2 EB.out
        have hbx2 := box_grown EX.out HBQ.out g2
        refine hK.out _ _ hbx2 (fun hHeld => ?_)
        clear hK K g1 g2 g3
        refine wpAnyH_take (i := 8) (v := .pointer (some ⟨B, 0, none⟩)) rfl (by kernel_rfl) (by kernel_rfl) (by kernel_rfl) (fun _ _ _ h => by first | exact h | exact h.elim | (cases h.1)) (Or.inl ⟨by rfl, fun w' hSw => by go_simp⟩) hHeld ?_
        try simp only [Act.put, List.getElem_toArray, List.getElem_cons_succ, List.getElem_cons_zero, List.setIfInBounds_toArray, List.set_cons_zero, List.set_cons_succ]
        refine wpAnyH_take (i := 9) (v := .pointer (some ⟨B, 2, none⟩)) rfl (by kernel_rfl) (by kernel_rfl) (by kernel_rfl) (fun _ _ _ h => by first | exact h | exact h.elim | (cases h.1)) (Or.inl ⟨by rfl, fun w' hSw => by go_simp⟩) hHeld ?_
        try simp only [Act.put, List.getElem_toArray, List.getElem_cons_succ, List.getElem_cons_zero, List.setIfInBounds_toArray, List.set_cons_zero, List.set_cons_succ]
        refine wpAnyH_ready (rs := [10]) (by kernel_rfl) (by simp) ?_
        refine AllReadyH.cons rfl (fun K hK => ?_) AllReadyH.nil
        obtain ⟨z2, zf, zb⟩ := hB2
        go_simp
        clear z2 zf
        refine hK.out _ _ (box_set hbx2 zb) (fun hHeld => ?_)
        clear hK K hbx2 zb
        refine wpAnyH_done (by kernel_rfl) ?_ _
        exact ⟨rfl, pc, cc, rfl, k1, k2, k3, k4⟩
    intro p2 d2 wx hp
    obtain ⟨⟨wv3, q1, q2⟩, q3, q4, q5, kk, kf⟩ := loopV_push SX.out Q2.out Q3.out Q4.out Q5.out (fun g hg2 => ⟨by have := (HRB.out g hg2).1; omega, (HRB.out g hg2).2⟩) HES.out hp
    clear hp
    have KK := Lib.hid kk
    have KF := Lib.hid kf
    clear kk kf SX Q2 Q3 Q4 Q5 EB EX HBQ HLO
    by_cases hxi : 0 < xi
    · have hxi2 : (0 : Int) < (xi : Int) := by omega
      obtain ⟨VS2, hVS2⟩ : ∃ VS2, VS2 = VS ++ [Value.func (.func z1) #[] z2] := ⟨_, rfl⟩
      rw [← hVS2] at q1
      have HLE2 := Lib.hid (show VS2.length ≤ 100000000 by have := HLE.out; rw [hVS2, List.length_append]; simp; omega)
      have HVS2 := Lib.hid hVS2
      clear hVS2
      have q6 := q3.2 bx _ _ EXS.out (by decide) (by decide) (by decide)
      have SX := Lib.hid q1
      have Q2 := Lib.hid q2
      have Q3 := Lib.hid q3
      have Q4 := Lib.hid q4
      have Q5 := Lib.hid q5
      have EB := Lib.hid (show ∃ u, wx.heap[bx]? = some (.cells #[u] 119 (0, 0)) from ⟨_, q6⟩)
      have EX := Lib.hid (ent_cell q6 0 (.pointer (some ⟨B, 0, none⟩)) rfl)
      have HBQ := Lib.hid (show ∀ g, wv3.ownBlock = some g → g ≠ bx from fun g hg2 e => by obtain ⟨_, cur, hc⟩ := own_ent q1.own hg2; subst e; rw [q6] at hc; simp only [Option.some.injEq, Obj.cells.injEq] at hc; exact absurd hc.2.1 (by decide))
      have HLO := Lib.hid (show lo ≤ wx.heap.size by have := q3.1; omega)
      clear q1 q2 q3 q4 q5 q6
      gi_wp2
      refine join_wpIn (fun p d => { tmps := List.toArray (.pointer (some ⟨B, 0, none⟩) :: .slice gq gn gc :: .pointer (some ⟨bx, 0, none⟩) :: undef :: .int .i64 (xi : Nat) :: .func (.func z1) #[] z2 :: .pointer (some ⟨B, 0, none⟩) :: .pointer (some ⟨B, 0, none⟩) :: .pointer (some ⟨B, 0, none⟩) :: .nilIface :: .pointer (some ⟨B, 0, none⟩) :: .pointer (some ⟨B, 0, none⟩) :: .pointer (some ⟨B, 0, none⟩) :: .pointer (some ⟨B, 2, none⟩) :: wv :: .slice (some ⟨wa.heap.size, 0, none⟩) 1 1 :: .slice p0 (vs.length + 1) d0 :: .pointer (some ⟨B, 0, none⟩) :: .pointer (some ⟨B, 2, none⟩) :: .slice gq gn gc :: .slice rq zs.length rc :: .func (.func 130) #[] #[.pointer (some ⟨Bs, 0, none⟩)] :: .int .i64 (xi : Nat) :: .func (.func z1) #[] z2 :: .pointer (some ⟨B, 0, none⟩) :: .pointer (some ⟨B, 0, none⟩) :: .pointer (some ⟨B, 0, none⟩) :: .pointer (some ⟨B, 2, none⟩) :: wvr :: .func (.func z1) #[] z2 :: .slice (some ⟨W.heap.size, 0, none⟩) 1 1 :: .slice p2 (VS.length + 1) d2 :: .pointer (some ⟨B, 0, none⟩) :: .pointer (some ⟨B, 2, none⟩) :: .int .i64 (xi : Nat) :: .bool true :: .pointer (some ⟨B, 0, none⟩) :: .pointer (some ⟨B, 0, none⟩) :: .pointer (some ⟨B, 0, none⟩) :: .pointer (some ⟨B, 2, none⟩) :: wv3 :: .slice (some ⟨wx.heap.size, 0, none⟩) 1 1 :: .slice p (VS2.length + 1) d :: .pointer (some ⟨B, 0, none⟩) :: .pointer (some ⟨B, 2, none⟩) :: []), defers := [] }) (Pushed lo B wx (T ++ [40]) VS2 wv3 (.func (.func 98) #[] #[])) ?_ ?_
      · refine region_round (S := fun (u : World) => u.cell? ⟨bx, 0, none⟩ = some (.pointer (some ⟨B, 0, none⟩))) (by kernel_rfl) (by kernel_rfl) (show wx.drew.cell? _ = _ from EX.out) (fun hHeld => ?_)
        refine wpAnyH_take (i := 0) (v := .pointer (some ⟨B, 0, none⟩)) rfl (by kernel_rfl) (by kernel_rfl) (by kernel_rfl) (fun _ _ _ h => by first | exact h | exact h.elim | (cases h.1)) (Or.inl ⟨by rfl, fun w' hSw => by have z0 : w'.cell? ⟨bx, 0, none⟩ = some (.pointer (some ⟨B, 0, none⟩)) := hSw; go_simp⟩) hHeld ?_
        refine wpAnyH_take (i := 1) (v := .pointer (some ⟨B, 0, none⟩)) rfl (by kernel_rfl) (by kernel_rfl) (by kernel_rfl) (fun _ _ _ h => by first | exact h | exact h.elim | (cases h.1)) (Or.inl ⟨by rfl, fun w' hSw => by have z0 : w'.cell? ⟨bx, 0, none⟩ = some (.pointer (some ⟨B, 0, none⟩)) := hSw; go_simp⟩) hHeld ?_
        refine wpAnyH_take (i := 2) (v := .pointer (some ⟨B, 0, none⟩)) rfl (by kernel_rfl) (by kernel_rfl) (by kernel_rfl) (fun _ _ _ h => by first | exact h | exact h.elim | (cases h.1)) (Or.inl ⟨by rfl, fun w' hSw => by go_simp⟩) hHeld ?_
        refine wpAnyH_take (i := 3) (v := .pointer (some ⟨B, 2, none⟩)) rfl (by kernel_rfl) (by kernel_rfl) (by kernel_rfl) (fun _ _ _ h => by first | exact h | exact h.elim | (cases h.1)) (Or.inl ⟨by rfl, fun w' hSw => by go_simp⟩) hHeld ?_
        try simp only [Act.put, List.getElem_toArray, List.getElem_cons_succ, List.getElem_cons_zero, List.setIfInBounds_toArray, List.set_cons_zero, List.set_cons_succ]
        refine wpAnyH_ready (rs := [4, 5]) (by kernel_rfl) (by simp) ?_
        refine AllReadyH.cons rfl (fun K hK => ?_) (AllReadyH.cons rfl (fun K hK => ?_) AllReadyH.nil)
        · have z2 : wx.drew.cell? ⟨B, 2, none⟩ = some wv3 := SX.out.cell
          go_simp
          clear z2
          refine hK.out _ _ EX.out (fun hHeld => ?_)
          clear hK K
          refine wpAnyH_ready (rs := [5]) (by kernel_rfl) (by simp) ?_
          refine AllReadyH.cons rfl (fun K hK => ?_) AllReadyH.nil
          go_simp
          refine hK.out _ _ (show (wx.alloc (.cells #[.func (.func 98) #[] #[]] 125)).drew.cell? _ = _ from cell_alloc EX.out _) (fun hHeld => ?_)
          clear hK K
          refine wpAnyH_ready (rs := [6]) (by kernel_rfl) (by simp) ?_
          refine AllReadyH.cons rfl (fun K hK => ?_) AllReadyH.nil
          refine step_push (w := wx) rfl _ _ rfl rfl SX.out.own HLE2.out HLO.out rfl rfl ?_
          intro pc cc w2 g1 g2 g3
          obtain ⟨k1, k2, k3, k4⟩ := push_world SX.out _ _ g1 g2 g3
          have hB2 := own_block_ent SX.out g2 EB.out
          have hbx2 := box_grown EX.out HBQ.out g2
          refine hK.out _ _ hbx2 (fun hHeld => ?_)
          clear hK K g1 g2 g3
          refine wpAnyH_take (i := 7) (v := .pointer (some ⟨B, 0, none⟩)) rfl (by kernel_rfl) (by kernel_rfl) (by kernel_rfl) (fun _ _ _ h => by first | exact h | exact h.elim | (cases h.1)) (Or.inl ⟨by rfl, fun w' hSw => by go_simp⟩) hHeld ?_
          try simp only [Act.put, List.getElem_toArray, List.getElem_cons_succ, List.getElem_cons_zero, List.setIfInBounds_toArray, List.set_cons_zero, List.set_cons_succ]
          refine wpAnyH_take (i := 8) (v := .pointer (some ⟨B, 2, none⟩)) rfl (by kernel_rfl) (by kernel_rfl) (by kernel_rfl) (fun _ _ _ h => by first | exact h | exact h.elim | (cases h.1)) (Or.inl ⟨by rfl, fun w' hSw => by go_simp⟩) hHeld ?_
          try simp only [Act.put, List.getElem_toArray, List.getElem_cons_succ, List.getElem_cons_zero, List.setIfInBounds_toArray, List.set_cons_zero, List.set_cons_succ]
          refine wpAnyH_ready (rs := [9]) (by kernel_rfl) (by simp) ?_
          refine AllReadyH.cons rfl (fun K hK => ?_) AllReadyH.nil
          obtain ⟨z2, zf, zb⟩ := hB2
          go_simp
          clear z2 zf
          refine hK.out _ _ (box_set hbx2 zb) (fun hHeld => ?_)
          clear hK K hbx2 zb
          refine wpAnyH_done (by kernel_rfl) ?_ _
          exact ⟨rfl, pc, cc, rfl, k1, k2, k3, k4⟩
        · go_simp
          refine hK.out _ _ (show (wx.alloc (.cells #[.func (.func 98) #[] #[]] 125)).drew.cell? _ = _ from cell_alloc EX.out _) (fun hHeld => ?_)
          clear hK K
          refine wpAnyH_ready (rs := [4]) (by kernel_rfl) (by simp) ?_
          refine AllReadyH.cons rfl (fun K hK => ?_) AllReadyH.nil
          have z2 : (wx.alloc (.cells #[.func (.func 98) #[] #[]] 125)).cell? ⟨B, 2, none⟩ = some wv3 := cell_alloc SX.out.cell _
          go_simp
          clear z2
          refine hK.out _ _ (show (wx.alloc (.cells #[.func (.func 98) #[] #[]] 125)).drew.cell? _ = _ from cell_alloc EX.out _) (fun hHeld => ?_)
          clear hK K
          refine wpAnyH_ready (rs := [6]) (by kernel_rfl) (by simp) ?_
          refine AllReadyH.cons rfl (fun K hK => ?_) AllReadyH.nil
          refine step_push (w := wx) rfl _ _ rfl rfl SX.out.own HLE2.out HLO.out rfl rfl ?_
          intro pc cc w2 g1 g2 g3
          obtain ⟨k1, k2, k3, k4⟩ := push_world SX.out _ _ g1 g2 g3
          have hB2 := own_block_ent SX.out g2 EB.out
          have hbx2 := box_grown EX.out HBQ.out g2
          refine hK.out _ _ hbx2 (fun hHeld => ?_)
          clear hK K g1 g2 g3
          refine wpAnyH_take (i := 7) (v := .pointer (some ⟨B, 0, none⟩)) rfl (by kernel_rfl) (by kernel_rfl) (by kernel_rfl) (fun _ _ _ h => by first | exact h | exact h.elim | (cases h.1)) (Or.inl ⟨by rfl, fun w' hSw => by go_simp⟩) hHeld ?_
          try simp only [Act.put, List.getElem_toArray, List.getElem_cons_succ, List.getElem_cons_zero, List.setIfInBounds_toArray, List.set_cons_zero, List.set_cons_succ]
          refine wpAnyH_take (i := 8) (v := .pointer (some ⟨B, 2, none⟩)) rfl (by kernel_rfl) (by kernel_rfl) (by kernel_rfl) (fun _ _ _ h => by first | exact h | exact h.elim | (cases h.1)) (Or.inl ⟨by rfl, fun w' hSw => by go_simp⟩) hHeld ?_
          try simp only [Act.put, List.getElem_toArray, List.getElem_cons_succ, List.getElem_cons_zero, List.setIfInBounds_toArray, List.set_cons_zero, List.set_cons_succ]
          refine wpAnyH_ready (rs := [9]) (by kernel_rfl) (by simp) ?_
          refine AllReadyH.cons rfl (fun K hK => ?_) AllReadyH.nil
          obtain ⟨z2, zf, zb⟩ := hB2
          go_simp
          clear z2 zf
          refine hK.out _ _ (box_set hbx2 zb) (fun hHeld => ?_)
          clear hK K hbx2 zb
          refine wpAnyH_done (by kernel_rfl) ?_ _
          exact ⟨rfl, pc, cc, rfl, k1, k2, k3, k4⟩
      intro p3 d3 wy hp
      obtain ⟨⟨wv4, q1, q2⟩, q3, q4, q5, kk, kf⟩ := loopV_push SX.out Q2.out Q3.out Q4.out Q5.out (fun g hg2 => ⟨by have := (HRB.out g hg2).1; omega, (HRB.out g hg2).2⟩) HES.out hp
      clear hp
      gi_wp2
      refine ⟨KF.out.trans kf, fun b hb2 => (kk b hb2).trans (KK.out b hb2), ⟨wv4, ?_, q2⟩, q3, q4, q5⟩
      have he : emit (xi, z1, z2) = [fv (z1, z2), blankV] := by unfold emit; rw [if_pos hxi]
      rw [flat_emit, he, ← List.append_assoc, ← HVS.out, show [fv (z1, z2), blankV] = [Value.func (.func z1) #[] z2] ++ [blankV] from rfl, ← List.append_assoc, ← HVS2.out]
      exact q1
    · have hxi2 : ¬ (0 : Int) < (xi : Int) := by omega
      gi_wp2
      refine ⟨KF.out, KK.out, ⟨wv3, ?_, q2⟩, q3, q4, q5⟩
      have he : emit (xi, z1, z2) = [fv (z1, z2)] := by unfold emit; rw [if_neg hxi]
      rw [flat_emit, he, ← List.append_assoc, ← HVS.out]
      exact q1
  case done =>
    rintro D ys W hD rfl ⟨⟨wvr, q1, q2⟩, q3, q4, q5⟩ hK
    have SX := Lib.hid q1
    have Q3 := Lib.hid q3
    have Q4 := Lib.hid q4
    clear q1 q2 q3 q4 q5 H0 SB
    gi_wp2
    refine ⟨by simp, .inl ⟨_, _, rfl, run_takeDeferred hK, ?_⟩⟩
    have hgr := fun o' => grownBy_putObj' W D o'
    have hr : ∀ r, some D = some r → ∃ o, W.heap[r]? = some o ∧ o.isCells = false := fun r e => by cases e; exact ⟨_, hK, rfl⟩
    have hlw : lo ≤ w.heap.size := by have := HLO1.out; omega
    have hDW : D < W.heap.size := (Array.getElem?_eq_some_iff.1 hK).1
    refine ⟨_, results_none rfl _ _ _, rfl, (SX.out.grown (hgr _) hr).sv, ?_, ?_⟩
    · exact ((((HA.out.mono hlw).trans BB.out).trans (HBbS.out.mono (by omega))).trans Q4.out).grown (hgr _) (by omega) (fun k e => by cases e; omega)
    · exact ((((Keep.below HA.out).trans KB.out).trans (Keep.below HBbS.out)).trans Q3.out).grown (hgr _) hr
  case stop =>
    rintro D c pre W hD _ h _
    exact h.elim

end Sw
end Go.Proofs.YtnhndamfbeiljaaGreatDoor
