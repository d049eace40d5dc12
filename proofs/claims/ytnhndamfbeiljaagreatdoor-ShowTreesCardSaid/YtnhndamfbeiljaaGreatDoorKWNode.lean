/-
  What waits, by what it is: a list of nodes is written.
-/
import Derived.Test.YtnhndamfbeiljaaGreatDoorKWList
namespace Go.Proofs.YtnhndamfbeiljaaGreatDoor
open Go Go.RowKit
set_option linter.unusedVariables false
set_option linter.unusedSimpArgs false
namespace Sw
theorem reps_app {α : Type} {rep : Value → α → Prop} : ∀ {a b : List Value} {x y : List α}, Reps rep a x → Reps rep b y → Reps rep (a ++ b) (x ++ y)
  | [], _, [], _, _, h => h
  | _ :: _, _, _ :: _, _, h, g => ⟨h.1, reps_app h.2 g⟩
  | [], _, _ :: _, _, h, _ => h.elim
  | _ :: _, _, [], _, h, _ => h.elim
theorem reps_rev {α : Type} {rep : Value → α → Prop} : ∀ {a : List Value} {x : List α}, Reps rep a x → Reps rep a.reverse x.reverse
  | [], [], _ => trivial
  | v :: a, n :: x, h => by
    rw [List.reverse_cons, List.reverse_cons]
    exact reps_app (reps_rev h.2) ⟨h.1, trivial⟩
  | [], _ :: _, h => h.elim
  | _ :: _, [], h => h.elim
theorem reps_pairs {rep : Value → Nd → Prop} (hb : rep blankV .blank) : ∀ {zs : List Fv} {N : List Nd}, Reps rep (zs.map fv) N → Reps rep (zs.flatMap fun y => [fv y, blankV]) (N.flatMap fun y => [y, .blank])
  | [], [], _ => trivial
  | z :: zs, n :: N, h => ⟨h.1, hb, reps_pairs hb h.2⟩
  | [], _ :: _, h => h.elim
  | _ :: _, [], h => h.elim
theorem downto_emit (x : Fv) (r : List Fv) : ∀ k, k ≤ r.length → (downto (x :: r) k).flatMap emit = (r.reverse.take k).flatMap fun y => [fv y, blankV] := by
  intro k
  induction k with
  | zero => intro _; simp [downto]
  | succ k ih =>
    intro hk
    have h1 : (x :: r).length - 1 - k = r.length - 1 - k + 1 := by simp; omega
    have h2 : r.reverse[k]? = some (r[r.length - 1 - k]'(by omega)) := by
      rw [List.getElem?_reverse (by omega), List.getElem?_eq_getElem (by omega)]
    rw [downto_succ, List.flatMap_append, ih (by omega), List.take_add_one, h2, List.flatMap_append]
    congr 1
    rw [h1]
    simp only [List.getElem?_cons_succ, List.flatMap_cons, List.flatMap_nil, List.append_nil, Option.toList_some, emit]
    rw [if_pos (by omega), List.getElem?_eq_getElem (by omega)]
    rfl
theorem downto_all (x : Fv) (r : List Fv) : (downto (x :: r) (x :: r).length).flatMap emit = (r.reverse.flatMap fun y => [fv y, blankV]) ++ [fv x] := by
  rw [List.length_cons, downto_succ, List.flatMap_append, downto_emit x r r.length (Nat.le_refl _), List.take_of_length_le (by simp)]
  congr 1
  simp [emit]
theorem weave_rev (x : Nd) (r : List Nd) : (weave (x :: r)).reverse = .fin :: ((r.reverse.flatMap fun y => [y, .blank]) ++ [x]) := by
  unfold weave
  simp only [List.reverse_cons, List.reverse_append, List.reverse_nil, List.nil_append, List.cons_append, List.cons.injEq, true_and]
  congr 1
  induction r with
  | nil => rfl
  | cons y r ih => simp [ih]
theorem push_reps {rep : Value → Nd → Prop} (hf : rep endV .fin) (hb : rep blankV .blank) {zs : List Fv} {N : List Nd} (h : Reps rep (zs.map fv) N) : Reps rep ([endV] ++ (downto zs zs.length).flatMap emit) (weave N).reverse := by
  match zs, N, h with
  | [], [], _ => exact ⟨hf, trivial⟩
  | x :: r, n :: N, h =>
    rw [downto_all, weave_rev]
    have h3 : Reps rep (r.map fv) N := h.2
    have h4 := reps_rev h3
    rw [← List.map_reverse] at h4
    exact ⟨hf, reps_app (a := r.reverse.flatMap fun y => [fv y, blankV]) (reps_pairs hb h4) ⟨h.1, trivial⟩⟩

/-- The writer, what was written and what waits (the next one first); w0: the world of the call's beginning. -/
def St (w0 : World) (B : Nat) (w : World) (T : List UInt8) (S : List Nd) : Prop := ∃ vs, SV w0.heap.size B w T vs ∧ Reps (NodeV w0 w) vs S.reverse ∧ Below w0.heap.size w0 w
theorem St.below {w0 : World} {B : Nat} {w w' : World} {T : List UInt8} {S : List Nd} (h : St w0 B w T S) (hb : Below w.heap.size w w') : St w0 B w' T S := by
  obtain ⟨vs, h1, h2, h3⟩ := h
  exact ⟨vs, h1.below hb, Reps.mono (fun v n hn => NodeV.keep (Keep.below hb) hn) h2, h3.trans (hb.mono h3.size)⟩
theorem St.base {w0 : World} {B : Nat} {w : World} {T : List UInt8} {S : List Nd} (h : St w0 B w T S) : Below w0.heap.size w0 w := let ⟨_, _, _, h⟩ := h; h
theorem St.drew {w0 : World} {B : Nat} {w : World} {T : List UInt8} {S : List Nd} (h : St w0 B w T S) : St w0 B w.drew T S := h.below (Below.drew (Below.refl _ w))
/-- What a node's writing leaves. -/
def Did (w0 : World) (B : Nat) (T : List UInt8) (S : List Nd) (x : List UInt8 × List Nd) (e : Ending) (w' : World) : Prop := e = .returned (.tuple #[]) ∧ St w0 B w' (T ++ x.1) (x.2 ++ S)
def Small (T : List UInt8) (S : List Nd) (x : List UInt8 × List Nd) : Prop := (T ++ x.1).length ≤ 1000000 ∧ (x.2 ++ S).length ≤ 1000000
theorem reps_len {α : Type} {rep : Value → α → Prop} {a : List Value} {x : List α} (h : Reps rep a x) : a.length = x.length := h.len

/-- A text alone. -/
theorem did_text {w0 : World} {B : Nat} {w : World} {T t : List UInt8} {S : List Nd} {vs : List Value} (h2 : Reps (NodeV w0 w) vs S.reverse) (h3 : Below w0.heap.size w0 w) {e : Ending} {w' : World} (hw : Wrote w0.heap.size B w (T ++ t) vs e w') : Did w0 B T S (t, []) e w' := by
  obtain ⟨rfl, a, b, c, d⟩ := hw
  exact ⟨rfl, vs, a, Reps.mono (fun v n hn => NodeV.keep d hn) h2, h3.trans b⟩
theorem wordN {w0 : World} {B : Nat} {w : World} {T : List UInt8} {S : List Nd} (h : St w0 B w T S) (s : List UInt8) (hs : Small T S (wd s, [])) :
    Calls Tryz.prog 71 #[.pointer (some ⟨B, 0, none⟩), .string ⟨s.toArray⟩] w (Did w0 B T S (wd s, [])) := by
  obtain ⟨vs, h1, h2, h3⟩ := h
  have hl : T.length + s.length ≤ 90000000 := by
    have := hs.1
    simp only [List.length_append] at this
    have h4 : s.length ≤ (wd s).length := by
      unfold wd; split
      · rename_i e; subst e; simp
      · exact Nat.le_refl _
    omega
  exact (word_any h1 s hl).mono fun e w' hw => did_text h2 h3 hw
theorem numberN {w0 : World} {B : Nat} {w : World} {T : List UInt8} {S : List Nd} (h : St w0 B w T S) (n : Int) (h0 : -9223372036854775808 ≤ n) (h1 : n ≤ 9223372036854775807) (hs : Small T S (Lib.itoa n, [])) (htab : Lib.TabIs Tryz.prog w0 "internal/strconv.uint64pow10" .u64 Lib.pow10Tab) :
    Calls Tryz.prog 64 #[.pointer (some ⟨B, 0, none⟩), .int .i64 n] w (Did w0 B T S (Lib.itoa n, [])) := by
  obtain ⟨vs, g1, g2, g3⟩ := h
  exact (number_any g1 n h0 h1 (by have := hs.1; simp only [List.length_append] at this; omega) ((Lib.tabBelow_of_tabIs htab) _ g3)).mono fun e w' hw => did_text g2 g3 hw

theorem nodeV_fv {w0 w : World} {v : Value} {n : Nd} (h : NodeV w0 w v n) : ∃ z : Fv, v = fv z := by
  cases n with
  | blank => exact ⟨(_, #[]), h⟩
  | fin => exact ⟨(_, #[]), h⟩
  | names l => obtain ⟨_, _, _, _, _, rfl, _⟩ := h; exact ⟨(_, _), rfl⟩
  | pairs f l => obtain ⟨_, _, _, _, _, rfl, _⟩ := h; exact ⟨(_, _), rfl⟩
  | _ => obtain ⟨_, _, _, rfl, _⟩ := h; exact ⟨(_, _), rfl⟩
theorem reps_fv {w0 w : World} : ∀ {vs : List Value} {N : List Nd}, Reps (NodeV w0 w) vs N → ∃ zs : List Fv, vs = zs.map fv
  | [], [], _ => ⟨[], rfl⟩
  | v :: vs, n :: N, h => by
    obtain ⟨z, rfl⟩ := nodeV_fv h.1
    obtain ⟨zs, rfl⟩ := reps_fv h.2
    exact ⟨z :: zs, rfl⟩
  | [], _ :: _, h => h.elim
  | _ :: _, [], h => h.elim
/-- Lists of nodes. -/
def RepsL (w0 w : World) : List (List Value) → List (List Nd) → Prop
  | [], [] => True
  | l :: ls, N :: Ns => Reps (NodeV w0 w) l N ∧ RepsL w0 w ls Ns
  | _, _ => False
theorem repsL_fv {w0 w : World} : ∀ {ls : List (List Value)} {Ns : List (List Nd)}, RepsL w0 w ls Ns → ∃ zss : List (List Fv), ls = zss.map (fun l => l.map fv) ∧ Reps (NodeV w0 w) (zss.flatten.map fv) Ns.flatten ∧ zss.length = Ns.length
  | [], [], _ => ⟨[], rfl, trivial, rfl⟩
  | l :: ls, N :: Ns, h => by
    obtain ⟨zs, rfl⟩ := reps_fv h.1
    obtain ⟨zss, rfl, h2, h3⟩ := repsL_fv h.2
    refine ⟨zs :: zss, rfl, ?_, by simp [h3]⟩
    rw [List.flatten_cons, List.map_append, List.flatten_cons]
    exact reps_app h.1 h2
  | [], _ :: _, h => h.elim
  | _ :: _, [], h => h.elim
theorem weave_len (N : List Nd) : N.length ≤ (weave N).length := by
  cases N with
  | nil => simp [weave]
  | cons x r =>
    have : ∀ r : List Nd, r.length ≤ (r.flatMap fun y => [Nd.blank, y]).length := by
      intro r
      induction r with
      | nil => simp
      | cons a r ih => simp only [List.flatMap_cons, List.length_append, List.length_cons, List.length_nil]; omega
    have := this r
    simp only [weave, List.length_cons, List.length_append, List.length_nil]; omega
theorem listN {w0 : World} {B : Nat} {w1 w : World} {T : List UInt8} {S : List Nd} (h : St w0 B w1 T S) (hb : Below w1.heap.size w1 w) (gq : Option Addr) (gn gc : Nat) (ls : List (List Value)) (Ns : List (List Nd)) (N : List Nd) (hN : N = Ns.flatten) (hg : GRow w1.heap.size w (.slice gq gn gc) ls) (hr : RepsL w0 w ls Ns) (hs : Small T S ([40], weave N)) (hm : Ns.length ≤ 1000) :
    Calls Tryz.prog 55 #[.pointer (some ⟨B, 0, none⟩), .slice gq gn gc] w (fun e w' => Did w0 B T S ([40], weave N) e w' ∧ Keep w w') := by
  subst hN
  obtain ⟨vs, h1, h2, h3⟩ := h
  obtain ⟨zss, rfl, h4, h5⟩ := repsL_fv hr
  have hl := h4.len
  rw [List.length_map] at hl
  have hw := weave_len Ns.flatten
  have hs1 := hs.1
  have hs2 := hs.2
  have hv := h2.len
  simp only [List.length_append, List.length_reverse] at hs1 hs2 hv
  refine (list_any h1 hb gq gn gc zss zss.flatten rfl hg (by omega) (by omega) (by omega) (by omega)).mono ?_
  rintro e w' ⟨rfl, g1, g2, g3⟩
  refine ⟨⟨rfl, _, g1, ?_, (h3.trans (hb.mono h3.size)).trans g2⟩, g3⟩
  rw [List.reverse_append, List.append_assoc]
  exact reps_app (Reps.mono (fun v n hn => NodeV.keep g3 (NodeV.keep (Keep.below hb) hn)) h2) (push_reps (rep := NodeV w0 w') rfl rfl (Reps.mono (fun v n hn => NodeV.keep g3 hn) h4))
/-- Slices' values, each with its nodes' values. -/
def RowsV (lo : Nat) (w : World) : List Value → List (List Value) → Prop
  | [], [] => True
  | s :: ss, l :: ls => VRow lo w s l ∧ RowsV lo w ss ls
  | _, _ => False
theorem RowsV.len {lo : Nat} {w : World} : ∀ {ss : List Value} {ls : List (List Value)}, RowsV lo w ss ls → ss.length = ls.length
  | [], [], _ => rfl
  | _ :: _, _ :: _, h => by simp [RowsV.len h.2]
  | [], _ :: _, h => h.elim
  | _ :: _, [], h => h.elim
theorem RowsV.at {lo : Nat} {w : World} : ∀ {ss : List Value} {ls : List (List Value)} (i : Nat) (l : List Value), RowsV lo w ss ls → ls[i]? = some l → ∃ u, ss[i]? = some u ∧ VRow lo w u l
  | s :: ss, x :: ls, 0, l, h, hl => by simp at hl; subst hl; exact ⟨s, rfl, h.1⟩
  | s :: ss, x :: ls, i + 1, l, h, hl => by simpa using RowsV.at i l h.2 (by simpa using hl)
  | [], [], i, l, h, hl => by simp at hl
  | [], _ :: _, _, _, h, _ => h.elim
  | _ :: _, [], _, _, h, _ => h.elim
theorem grow_of {lo : Nat} {wk w' : World} {ss : List Value} {ls : List (List Value)} (h : RowsV lo wk ss ls) (hlo : lo ≤ wk.heap.size) (hn : ss.length ≤ 1000) {n : Nat} (hnn : n = ss.length) (hw : w'.heap = (wk.alloc (.cells ss.toArray 120)).heap) : GRow lo w' (.slice (some ⟨wk.heap.size, 0, none⟩) n n) ls := by
  have hl := h.len
  subst hnn
  have hb : Below wk.heap.size wk (wk.alloc (.cells ss.toArray 120)) := (Below.refl _ _).alloc (Nat.le_refl _) _
  refine ⟨wk.heap.size, ss.length, ss.toArray, by rw [hl], hlo, by omega, by omega, by rw [hw]; exact ent_new wk _ _, fun i l hl2 => ?_⟩
  obtain ⟨u, hu, hv⟩ := h.at i l hl2
  refine ⟨u, by simpa using hu, hv.keep fun g cur _ hg => ?_⟩
  rw [hw]; exact ent_below hg hb
theorem own_vrowN {lo lo' : Nat} {w0 w w2 : World} {v : Value} {n : Nat} {l : List Value} {N : List Nd} (h : w.ownsRow lo' 125 1 v n l) (hlo : lo ≤ lo') (hr : Reps (NodeV w0 w2) l N) : VRow lo w v l := by
  obtain ⟨zs, rfl⟩ := reps_fv hr
  exact own_vrow (own_low h hlo) (fun u hu => by obtain ⟨z, _, rfl⟩ := List.mem_map.1 hu; rfl)
theorem reps_keep {w0 w w' : World} (hb : Below w.heap.size w w') {vs : List Value} {N : List Nd} (h : Reps (NodeV w0 w) vs N) : Reps (NodeV w0 w') vs N := Reps.mono (fun v n hn => NodeV.keep (Keep.below hb) hn) h
theorem reps_map {α : Type} {rep : Value → α → Prop} {rep' : Value → Nd → Prop} {mk : α → Nd} (h : ∀ v x, rep v x → rep' v (mk x)) : ∀ {vs : List Value} {xs : List α}, Reps rep vs xs → Reps rep' vs (xs.map mk)
  | [], [], _ => trivial
  | _ :: _, _ :: _, g => ⟨h _ _ g.1, reps_map h g.2⟩
  | [], _ :: _, h => h.elim
  | _ :: _, [], h => h.elim
/-- A list of texts just made. -/
theorem row_made (w : World) (ss : List (List UInt8)) (hn : ss.length ≤ 1000) : RowAt 1 StrIs (w.alloc (.cells (ss.map fun s => Value.string ⟨s.toArray⟩).toArray 9)) (.slice (some ⟨w.heap.size, 0, none⟩) ss.length ss.length) ss := by
  refine .inr ⟨w.heap.size, 0, ss.length, rfl, Nat.le_refl _, by omega, fun i x hx => ⟨.string ⟨x.toArray⟩, rfl, rfl, fun j z hz => ?_⟩⟩
  have hj : j = 0 := by
    have := (Array.getElem?_eq_some_iff.1 hz).1
    simp [Value.cells] at this; exact this
  subst hj
  have hz' : z = .string ⟨x.toArray⟩ := by simpa [Value.cells] using hz.symm
  subst hz'
  rw [Nat.zero_add, Nat.mul_one, Nat.add_zero]
  exact ent_cell (ent_new w _ _) i _ (by simp [hx])
theorem row_below {α : Type} {sz : Nat} {rep : Value → α → Prop} {w w' : World} {v : Value} {xs : List α} (h : RowAt sz rep w v xs) (hb : Below w.heap.size w w') : RowAt sz rep w' v xs := h.mono hb fun _ _ _ hu => hu
end Sw
end Go.Proofs.YtnhndamfbeiljaaGreatDoor
