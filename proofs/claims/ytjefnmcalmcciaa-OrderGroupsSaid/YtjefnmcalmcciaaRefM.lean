/-
  The document's answer, in memory: rows of what is told.
-/
import Derived.Test.YtjefnmcalmcciaaRefP
import Derived.Test.YtjefnmcalmcciaaTuA
namespace Go.Proofs.Ytjefnmcalmcciaa
open Go Go.RowKit
set_option linter.unusedVariables false
set_option linter.unusedSimpArgs false

theorem infoBools : (Try.prog.info? 45).map (fun i => (i.zero, i.size, i.bytes)) = some (some (.slice none 0 0), 1, 24) := by kernel_rfl
theorem infoInts0 : (Try.prog.info? 30).map (fun i => (i.zero, i.size, i.bytes)) = some (some (.slice none 0 0), 1, 24) := by kernel_rfl
theorem makeBools (n : Nat) (hn : n ≤ 1000000000) (w : World) : (Instr.makeSlice 45 (.int .i64 (n : Int)) (.int .i64 (n : Int))).run Try.prog w = .ok (.slice (some ⟨w.heap.size, 0, none⟩) n n) (w.alloc (.cells (madeCells #[(.bool false : Value)] n) 4)) :=
  run_make_row' (P := Try.prog) 45 4 (.bool false) 1 Try.underlying45 (by kernel_rfl) rfl .i64 .i64 n (by omega) (by omega) w
theorem madeBools (n : Nat) : madeCells #[(.bool false : Value)] n = ((List.range n).map fun _ => (.bool false : Value)).toArray := by
  apply Array.ext'
  unfold madeCells
  simp [Nat.mod_one]

/-- A row of so many truths. -/
def BoolsAt (w : World) (b n : Nat) (f : Nat → Bool) : Prop := w.heap[b]? = some (.cells ((List.range n).map fun k => Value.bool (f k)).toArray 4 (0, 0))
theorem BoolsAt.cell {w : World} {b n : Nat} {f : Nat → Bool} (h : BoolsAt w b n f) {k : Nat} (hk : k < n) : w.cell? ⟨b, k, none⟩ = some (.bool (f k)) := ent_cell h k _ (by simp [hk])
theorem BoolsAt.free {w : World} {b n : Nat} {f : Nat → Bool} (h : BoolsAt w b n f) (k : Nat) : w.frozen? ⟨b, k, none⟩ = false := ent_free h k
theorem BoolsAt.set {w : World} {b n : Nat} {f : Nat → Bool} (h : BoolsAt w b n f) (k : Nat) : BoolsAt (w.setCell ⟨b, k, none⟩ (.bool true)) b n (fun j => f j || decide (j = k)) := by
  unfold BoolsAt
  rw [ent_set h k]
  congr 2
  apply Array.ext'
  simp only [Array.toList_setIfInBounds]
  apply List.ext_getElem?
  intro j
  rw [List.getElem?_set]
  by_cases hj : k = j
  · subst hj
    by_cases hkn : k < n
    · simp [hkn]
    · simp [hkn]
  · rw [if_neg hj]
    by_cases hjn : j < n
    · simp [hjn, Ne.symm hj]
    · simp [hjn]
theorem BoolsAt.other {w : World} {b n : Nat} {f : Nat → Bool} (h : BoolsAt w b n f) (c j : Nat) (v : Value) (hne : b ≠ c) : BoolsAt (w.setCell ⟨c, j, none⟩ v) b n f := ent_other h c j v hne
theorem BoolsAt.below {w w' : World} {b n : Nat} {f : Nat → Bool} (h : BoolsAt w b n f) (hb : Below w.heap.size w w') : BoolsAt w' b n f := ent_below h hb
theorem BoolsAt.congr {w : World} {b n : Nat} {f f' : Nat → Bool} (h : BoolsAt w b n f) (he : ∀ k, k < n → f k = f' k) : BoolsAt w b n f' := by
  unfold BoolsAt at h ⊢
  rw [h]
  congr 3
  exact List.map_congr_left fun k hk => by rw [he k (List.mem_range.1 hk)]

theorem nodup_inj {l : List Nat} (h : l.Nodup) {i j : Nat} (hi : i < l.length) (hj : j < l.length) (e : l[i] = l[j]) : i = j := by
  have hp := List.pairwise_iff_getElem.1 (List.nodup_iff_pairwise_ne.1 h)
  rcases Nat.lt_trichotomy i j with h1 | h1 | h1
  · exact absurd e (hp i j hi hj h1)
  · exact h1
  · exact absurd e.symm (hp j i hj hi h1)
def rowV (n b : Nat) : Value := .slice (some ⟨b, 0, none⟩) n n
/-- So many rows of them, in a list of the call's own. -/
structure Mat (lo n : Nat) (w : World) (rv : Value) (bs : List Nat) (R : Nat → Nat → Bool) : Prop where
  own : w.ownsRow lo 45 1 rv bs.length (bs.map (rowV n))
  row : ∀ (i b : Nat), bs[i]? = some b → BoolsAt w b n (R i) ∧ lo ≤ b
  nodup : bs.Nodup
theorem Mat.nil (lo n : Nat) (w : World) (R : Nat → Nat → Bool) : Mat lo n w (.slice none 0 0) [] R := ⟨World.ownsRow_nil _ _ _ _, fun i b h => by simp at h, List.nodup_nil⟩
theorem Mat.neOwn {lo n : Nat} {w : World} {rv : Value} {bs : List Nat} {R : Nat → Nat → Bool} (h : Mat lo n w rv bs R) {i b : Nat} (hb : bs[i]? = some b) : rv.ownBlock ≠ some b := by
  intro e
  obtain ⟨cs, hc⟩ := own_type h.own e
  have := (h.row i b hb).1
  unfold BoolsAt at this
  rw [hc] at this
  injection this with this
  injection this with _ this _
  exact absurd this (by decide)
theorem Mat.below {lo n : Nat} {w w' : World} {rv : Value} {bs : List Nat} {R : Nat → Nat → Bool} (h : Mat lo n w rv bs R) (hb : Below w.heap.size w w') : Mat lo n w' rv bs R :=
  ⟨own_same h.own fun k hk => hb.block k (h.own.lt k hk).2, fun i b hi => ⟨(h.row i b hi).1.below hb, (h.row i b hi).2⟩, h.nodup⟩
/-- Behind the append of one row more. -/
theorem Mat.push {lo n : Nat} {w w' : World} {o : Obj} {rv rv' : Value} {bs : List Nat} {R : Nat → Nat → Bool} {b : Nat} {f : Nat → Bool} (h : Mat lo n w rv bs R) (hb : BoolsAt w b n f) (hl : lo ≤ b) (hn : b ∉ bs)
    (ho : w'.ownsRow lo 45 1 rv' (bs.length + 1) (bs.map (rowV n) ++ [rowV n b])) (hgr : (w.alloc o).grownBy w' rv.ownBlock) : Mat lo n w' rv' (bs ++ [b]) (Gr.upd R bs.length f) := by
  have keep : ∀ {c : Nat} {f : Nat → Bool}, BoolsAt w c n f → BoolsAt w' c n f := by
    intro c f hc
    refine ((hgr.block c (by have := ent_lt hc; simp; omega) (fun e => ?_)).trans (Below.heap_alloc w o c (ent_lt hc))).trans hc
    obtain ⟨cs, hc'⟩ := own_type h.own e.symm
    unfold BoolsAt at hc
    rw [hc'] at hc
    injection hc with hc
    injection hc with _ hc _
    exact absurd hc (by decide)
  refine ⟨by rw [List.length_append, List.map_append]; exact ho, fun i c hi => ?_, ?_⟩
  · rcases Gr.snoc_some hi with hi | ⟨rfl, rfl⟩
    · rw [Gr.upd_ne _ _ (by have := Gr.some_lt hi; omega)]
      exact ⟨keep (h.row i c hi).1, (h.row i c hi).2⟩
    · rw [Gr.upd_same]; exact ⟨keep hb, hl⟩
  · rw [List.nodup_append]
    refine ⟨h.nodup, by simp, fun a ha c hc e => ?_⟩
    rw [List.mem_singleton.1 hc] at e
    exact hn (e ▸ ha)
/-- Behind a store of truth. -/
theorem Mat.set {lo n : Nat} {w : World} {rv : Value} {bs : List Nat} {R : Nat → Nat → Bool} (h : Mat lo n w rv bs R) {i b : Nat} (hb : bs[i]? = some b) (k : Nat) : Mat lo n (w.setCell ⟨b, k, none⟩ (.bool true)) rv bs (Gr.upd2 R i k) := by
  refine ⟨own_other h.own b k _ (h.neOwn hb), fun j c hj => ?_, h.nodup⟩
  have hc := h.row j c hj
  by_cases e : j = i
  · subst e
    rw [hb] at hj
    obtain rfl := Option.some.inj hj
    refine ⟨(hc.1.set k).congr fun x _ => ?_, hc.2⟩
    unfold Gr.upd2; simp
  · refine ⟨(hc.1.other b k _ (fun e2 => ?_)).congr fun x _ => ?_, hc.2⟩
    · subst e2
      have h1 := Gr.some_lt hb; have h2 := Gr.some_lt hj
      have h3 := (List.getElem?_eq_some_iff.1 hb).2; have h4 := (List.getElem?_eq_some_iff.1 hj).2
      exact e (nodup_inj h.nodup h2 h1 (h4.trans h3.symm))
    · unfold Gr.upd2; simp [e]
theorem Mat.at {lo n : Nat} {w : World} {p : Option Addr} {m c : Nat} {bs : List Nat} {R : Nat → Nat → Bool} (h : Mat lo n w (.slice p m c) bs R) {i b : Nat} (hb : bs[i]? = some b) :
    ∃ g, p = some ⟨g, 0, none⟩ ∧ w.cell? ⟨g, i, none⟩ = some (.slice (some ⟨b, 0, none⟩) n n) := by
  rcases h.own.2 with ⟨h1, h2⟩ | ⟨g, cap, cur, h1, h3, h4, h5, h6, h7⟩
  · have := Gr.some_lt hb; omega
  · injection h1 with h1 h1a h1b
    subst h1; subst h1a; subst h1b
    exact ⟨g, rfl, own_cellAt h.own (by rw [List.getElem?_map, hb]; rfl)⟩
end Go.Proofs.Ytjefnmcalmcciaa
