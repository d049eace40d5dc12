/-
  Several texts in one: WNode, WAllTypeE, WAllPat, WAllExpr, WAllTree, WNamed, WAllCon.
-/
import Derived.Test.YtnhndamfbeiljaaGreatDoorT00
import Derived.Test.YtnhndamfbeiljaaGreatDoorT20
import Derived.Test.YtnhndamfbeiljaaGreatDoorT19
set_option linter.unusedVariables false
set_option linter.unusedSimpArgs false
set_option maxHeartbeats 4000000
set_option maxRecDepth 100000
namespace Go.Proofs.YtnhndamfbeiljaaGreatDoor
open Go Go.RowKit
open Go.Lib (hid)
open List renaming getElem_toArray → jR, getElem_cons_succ → jR0, getElem_cons_zero → jR1, setIfInBounds_toArray → jR2, set_cons_zero → jR3, set_cons_succ → jR4
namespace Sw
theorem jFT {α : Type} {rep : Value -> α -> Prop} : ∀ {a b : List Value} {x y : List α}, Reps rep a x -> Reps rep b y -> Reps rep (a ++ b) (x ++ y)
 | [], _, [], _, _, h => h
 | _ :: _, _, _ :: _, _, h, g => ⟨h.1, jFT h.2 g⟩
 | [], _, _ :: _, _, h, _ => h.elim
 | _ :: _, _, [], _, h, _ => h.elim
theorem jMH {α : Type} {rep : Value -> α -> Prop} : ∀ {a : List Value} {x : List α}, Reps rep a x -> Reps rep a.reverse x.reverse
 | [], [], _ => trivial
 | v :: a, n :: x, h => by
   rw [List.reverse_cons, List.reverse_cons]; exact jFT (jMH h.2) ⟨h.1, trivial⟩
 | [], _ :: _, h => h.elim
 | _ :: _, [], h => h.elim
theorem jIJ {rep : Value -> Nd -> Prop} (hb : rep jF2 .blank) : ∀ {zs : List Fv} {N : List Nd}, Reps rep (zs.map fv) N -> Reps rep (zs.flatMap fun y => [fv y, jF2]) (N.flatMap fun y => [y, .blank])
 | [], [], _ => trivial
 | z :: zs, n :: N, h => ⟨h.1, hb, jIJ hb h.2⟩
 | [], _ :: _, h => h.elim
 | _ :: _, [], h => h.elim
theorem jN7 (x : Fv) (r : List Fv) : ∀ k, k <= r.length -> (jDD (x :: r) k).flatMap emit = (r.reverse.take k).flatMap fun y => [fv y, jF2] := by
 intro k
 induction k with
 | zero => intro _; simp [jDD]
 | succ k ih =>
   intro hk; have h1 : (x :: r).length - 1 - k = r.length - 1 - k + 1 := by simp; omega
   have h2 : r.reverse[k]? = some (r[r.length - 1 - k]'(by omega)) := by
    rw [List.getElem?_reverse (by omega), List.getElem?_eq_getElem (by omega)]
   rw [downto_succ, List.flatMap_append, ih (by omega), List.take_add_one, h2, List.flatMap_append]
   congr 1
   rw [h1]; simp only [List.getElem?_cons_succ, List.flatMap_cons, List.flatMap_nil, List.append_nil, Option.toList_some, emit]; rw [if_pos (by omega), List.getElem?_eq_getElem (by omega)]; rfl
theorem jOC (x : Fv) (r : List Fv) : (jDD (x :: r) (x :: r).length).flatMap emit = (r.reverse.flatMap fun y => [fv y, jF2]) ++ [fv x] := by
 rw [List.length_cons, downto_succ, List.flatMap_append, jN7 x r r.length (Nat.le_refl _), List.take_of_length_le (by simp)]
 congr 1
 simp [emit]
theorem jPC (x : Nd) (r : List Nd) : (jBV (x :: r)).reverse = .fin :: ((r.reverse.flatMap fun y => [y, .blank]) ++ [x]) := by
 unfold jBV; simp only [List.reverse_cons, List.reverse_append, List.reverse_nil, List.nil_append, List.cons_append, List.cons.injEq, true_and]
 congr 1
 induction r with
 | nil => rfl
 | cons y r ih => simp [ih]
theorem jQ {rep : Value -> Nd -> Prop} (hf : rep endV .fin) (hb : rep jF2 .blank) {zs : List Fv} {N : List Nd} (h : Reps rep (zs.map fv) N) : Reps rep ([endV] ++ (jDD zs zs.length).flatMap emit) (jBV N).reverse := by
 match zs, N, h with
 | [], [], _ => exact ⟨hf, trivial⟩
 | x :: r, n :: N, h =>
   rw [jOC, jPC]; have h3 : Reps rep (r.map fv) N := h.2; have h4 := jMH h3; rw [<- List.map_reverse] at h4; exact ⟨hf, jFT (a := r.reverse.flatMap fun y => [fv y, jF2]) (jIJ hb h4) ⟨h.1, trivial⟩⟩
def St (w0 : World) (B : Nat) (w : World) (T : List UInt8) (S : List Nd) : Prop := ∃ vs, SV w0.heap.size B w T vs /\ Reps (jAG w0 w) vs S.reverse /\ Below w0.heap.size w0 w
theorem St.below {w0 : World} {B : Nat} {w w' : World} {T : List UInt8} {S : List Nd} (h : St w0 B w T S) (hb : Below w.heap.size w w') : St w0 B w' T S := by
 obtain ⟨vs, h1, h2, h3⟩ := h; exact ⟨vs, h1.below hb, Reps.mono (fun v n hn => jAG.keep (Keep.below hb) hn) h2, h3.trans (hb.mono h3.size)⟩
theorem St.base {w0 : World} {B : Nat} {w : World} {T : List UInt8} {S : List Nd} (h : St w0 B w T S) : Below w0.heap.size w0 w := let ⟨_, _, _, h⟩ := h; h
theorem St.drew {w0 : World} {B : Nat} {w : World} {T : List UInt8} {S : List Nd} (h : St w0 B w T S) : St w0 B w.drew T S := h.below (Below.drew (Below.refl _ w))
def Did (w0 : World) (B : Nat) (T : List UInt8) (S : List Nd) (x : List UInt8 × List Nd) (e : Ending) (w' : World) : Prop := e = .returned (.tuple #[]) /\ St w0 B w' (T ++ x.1) (x.2 ++ S)
def Small (T : List UInt8) (S : List Nd) (x : List UInt8 × List Nd) : Prop := (T ++ x.1).length <= 1000000 /\ (x.2 ++ S).length <= 1000000
theorem jGV {w0 : World} {B : Nat} {w : World} {T t : List UInt8} {S : List Nd} {vs : List Value} (h2 : Reps (jAG w0 w) vs S.reverse) (h3 : Below w0.heap.size w0 w) {e : Ending} {w' : World} (hw : Wrote w0.heap.size B w (T ++ t) vs e w') : Did w0 B T S (t, []) e w' := by
 obtain ⟨rfl, a, b, c, d⟩ := hw; exact ⟨rfl, vs, a, Reps.mono (fun v n hn => jAG.keep d hn) h2, h3.trans b⟩
theorem jI9 {w0 : World} {B : Nat} {w : World} {T : List UInt8} {S : List Nd} (h : St w0 B w T S) (s : List UInt8) (hs : Small T S (wd s, [])) :
 Calls Tryz.prog 71 #[.pointer (some ⟨B, 0, none⟩), .string ⟨s.toArray⟩] w (Did w0 B T S (wd s, [])) := by
 obtain ⟨vs, h1, h2, h3⟩ := h
 have hl : T.length + s.length <= 90000000 := by
  have := hs.1; simp only [List.length_append] at this
  have h4 : s.length <= (wd s).length := by
   unfold wd; split
   . rename_i e; subst e; simp
   . exact Nat.le_refl _
  omega
 exact (jI8 h1 s hl).mono fun e w' hw => jGV h2 h3 hw
theorem jL7 {w0 : World} {B : Nat} {w : World} {T : List UInt8} {S : List Nd} (h : St w0 B w T S) (n : Int) (h0 : -9223372036854775808 <= n) (h1 : n <= 9223372036854775807) (hs : Small T S (Lib.itoa n, [])) (htab : Lib.TabIs Tryz.prog w0 "internal/strconv.uint64pow10" .u64 Lib.pow10Tab) :
 Calls Tryz.prog 64 #[.pointer (some ⟨B, 0, none⟩), .int .i64 n] w (Did w0 B T S (Lib.itoa n, [])) := by
 obtain ⟨vs, g1, g2, g3⟩ := h; exact (jO2 g1 n h0 h1 (by have := hs.1; simp only [List.length_append] at this; omega) ((Lib.tabBelow_of_tabIs htab) _ g3)).mono fun e w' hw => jGV g2 g3 hw
theorem nodeV_fv {w0 w : World} {v : Value} {n : Nd} (h : jAG w0 w v n) : ∃ z : Fv, v = fv z := by
 cases n with
 | blank => exact ⟨(_, #[]), h⟩
 | fin => exact ⟨(_, #[]), h⟩
 | names l => obtain ⟨_, _, _, _, _, rfl, _⟩ := h; exact ⟨(_, _), rfl⟩
 | pairs f l => obtain ⟨_, _, _, _, _, rfl, _⟩ := h; exact ⟨(_, _), rfl⟩
 | _ => obtain ⟨_, _, _, rfl, _⟩ := h; exact ⟨(_, _), rfl⟩
theorem jL3 {w0 w : World} : ∀ {vs : List Value} {N : List Nd}, Reps (jAG w0 w) vs N -> ∃ zs : List Fv, vs = zs.map fv
 | [], [], _ => ⟨[], rfl⟩
 | v :: vs, n :: N, h => by
   obtain ⟨z, rfl⟩ := nodeV_fv h.1; obtain ⟨zs, rfl⟩ := jL3 h.2; exact ⟨z :: zs, rfl⟩
 | [], _ :: _, h => h.elim
 | _ :: _, [], h => h.elim
def RepsL (w0 w : World) : List (List Value) -> List (List Nd) -> Prop
 | [], [] => True
 | l :: ls, N :: Ns => Reps (jAG w0 w) l N /\ RepsL w0 w ls Ns
 | _, _ => False
theorem jMI {w0 w : World} : ∀ {ls : List (List Value)} {Ns : List (List Nd)}, RepsL w0 w ls Ns -> ∃ zss : List (List Fv), ls = zss.map (fun l => l.map fv) /\ Reps (jAG w0 w) (zss.flatten.map fv) Ns.flatten /\ zss.length = Ns.length
 | [], [], _ => ⟨[], rfl, trivial, rfl⟩
 | l :: ls, N :: Ns, h => by
   obtain ⟨zs, rfl⟩ := jL3 h.1; obtain ⟨zss, rfl, h2, h3⟩ := jMI h.2; refine ⟨zs :: zss, rfl, ?_, by simp [h3]⟩; rw [List.flatten_cons, List.map_append, List.flatten_cons]; exact jFT h.1 h2
 | [], _ :: _, h => h.elim
 | _ :: _, [], h => h.elim
theorem jC (N : List Nd) : N.length <= (jBV N).length := by
 cases N with
 | nil => simp [jBV]
 | cons x r =>
   have : ∀ r : List Nd, r.length <= (r.flatMap fun y => [Nd.blank, y]).length := by
    intro r
    induction r with
    | nil => simp
    | cons a r ih => simp only [List.flatMap_cons, List.length_append, List.length_cons, List.length_nil]; omega
   have := this r; simp only [jBV, List.length_cons, List.length_append, List.length_nil]; omega
theorem jE3 {w0 : World} {B : Nat} {w1 w : World} {T : List UInt8} {S : List Nd} (h : St w0 B w1 T S) (hb : Below w1.heap.size w1 w) (gq : Option Addr) (gn gc : Nat) (ls : List (List Value)) (Ns : List (List Nd)) (N : List Nd) (hN : N = Ns.flatten) (hg : GRow w1.heap.size w (.slice gq gn gc) ls) (hr : RepsL w0 w ls Ns) (hs : Small T S ([40], jBV N)) (hm : Ns.length <= 1000) :
 Calls Tryz.prog 55 #[.pointer (some ⟨B, 0, none⟩), .slice gq gn gc] w (fun e w' => Did w0 B T S ([40], jBV N) e w' /\ Keep w w') := by
 subst hN; obtain ⟨vs, h1, h2, h3⟩ := h; obtain ⟨zss, rfl, h4, h5⟩ := jMI hr; have hl := h4.len; rw [List.length_map] at hl; have hw := jC Ns.flatten; have hs1 := hs.1; have hs2 := hs.2; have hv := h2.len; simp only [List.length_append, List.length_reverse] at hs1 hs2 hv; refine (jJ0 h1 hb gq gn gc zss zss.flatten rfl hg (by omega) (by omega) (by omega) (by omega)).mono ?_; rintro e w' ⟨rfl, g1, g2, g3⟩; refine ⟨⟨rfl, _, g1, ?_, (h3.trans (hb.mono h3.size)).trans g2⟩, g3⟩; rw [List.reverse_append, List.append_assoc]; exact jFT (Reps.mono (fun v n hn => jAG.keep g3 (jAG.keep (Keep.below hb) hn)) h2) (jQ (rep := jAG w0 w') rfl rfl (Reps.mono (fun v n hn => jAG.keep g3 hn) h4))
def jHO (lo : Nat) (w : World) : List Value -> List (List Value) -> Prop
 | [], [] => True
 | s :: ss, l :: ls => VRow lo w s l /\ jHO lo w ss ls
 | _, _ => False
theorem jHO.len {lo : Nat} {w : World} : ∀ {ss : List Value} {ls : List (List Value)}, jHO lo w ss ls -> ss.length = ls.length
 | [], [], _ => rfl
 | _ :: _, _ :: _, h => by simp [jHO.len h.2]
 | [], _ :: _, h => h.elim
 | _ :: _, [], h => h.elim
theorem jHO.at {lo : Nat} {w : World} : ∀ {ss : List Value} {ls : List (List Value)} (i : Nat) (l : List Value), jHO lo w ss ls -> ls[i]? = some l -> ∃ u, ss[i]? = some u /\ VRow lo w u l
 | s :: ss, x :: ls, 0, l, h, hl => by simp at hl; subst hl; exact ⟨s, rfl, h.1⟩
 | s :: ss, x :: ls, i + 1, l, h, hl => by simpa using jHO.at i l h.2 (by simpa using hl)
 | [], [], i, l, h, hl => by simp at hl
 | [], _ :: _, _, _, h, _ => h.elim
 | _ :: _, [], _, _, h, _ => h.elim
theorem jCJ {lo : Nat} {wk w' : World} {ss : List Value} {ls : List (List Value)} (h : jHO lo wk ss ls) (hlo : lo <= wk.heap.size) (hn : ss.length <= 1000) {n : Nat} (hnn : n = ss.length) (hw : w'.heap = (wk.alloc (.cells ss.toArray 120)).heap) : GRow lo w' (.slice (some ⟨wk.heap.size, 0, none⟩) n n) ls := by
 have hl := h.len; subst hnn; have hb : Below wk.heap.size wk (wk.alloc (.cells ss.toArray 120)) := (Below.refl _ _).alloc (Nat.le_refl _) _; refine ⟨wk.heap.size, ss.length, ss.toArray, by rw [hl], hlo, by omega, by omega, by rw [hw]; exact jA3 wk _ _, fun i l hl2 => ?_⟩; obtain ⟨u, hu, hv⟩ := h.at i l hl2; refine ⟨u, by simpa using hu, hv.keep fun g cur _ hg => ?_⟩; rw [hw]; exact jA0 hg hb
theorem jAO {lo lo' : Nat} {w0 w w2 : World} {v : Value} {n : Nat} {l : List Value} {N : List Nd} (h : w.ownsRow lo' 125 1 v n l) (hlo : lo <= lo') (hr : Reps (jAG w0 w2) l N) : VRow lo w v l := by
 obtain ⟨zs, rfl⟩ := jL3 hr; exact own_vrow (jE5 h hlo) (fun u hu => by obtain ⟨z, _, rfl⟩ := List.mem_map.1 hu; rfl)
theorem jAD {w0 w w' : World} (hb : Below w.heap.size w w') {vs : List Value} {N : List Nd} (h : Reps (jAG w0 w) vs N) : Reps (jAG w0 w') vs N := Reps.mono (fun v n hn => jAG.keep (Keep.below hb) hn) h
theorem jB5 {α : Type} {rep : Value -> α -> Prop} {rep' : Value -> Nd -> Prop} {mk : α -> Nd} (h : ∀ v x, rep v x -> rep' v (mk x)) : ∀ {vs : List Value} {xs : List α}, Reps rep vs xs -> Reps rep' vs (xs.map mk)
 | [], [], _ => trivial
 | _ :: _, _ :: _, g => ⟨h _ _ g.1, jB5 h g.2⟩
 | [], _ :: _, h => h.elim
 | _ :: _, [], h => h.elim
theorem jCQ (w : World) (ss : List (List UInt8)) (hn : ss.length <= 1000) : jAI 1 jD8 (w.alloc (.cells (ss.map fun s => Value.string ⟨s.toArray⟩).toArray 9)) (.slice (some ⟨w.heap.size, 0, none⟩) ss.length ss.length) ss := by
 refine .inr ⟨w.heap.size, 0, ss.length, rfl, Nat.le_refl _, by omega, fun i x hx => ⟨.string ⟨x.toArray⟩, rfl, rfl, fun j z hz => ?_⟩⟩
 have hj : j = 0 := by
  have := (Array.getElem?_eq_some_iff.1 hz).1; simp [Value.cells] at this; exact this
 subst hj; have hz' : z = .string ⟨x.toArray⟩ := by simpa [Value.cells] using hz.symm
 subst hz'; rw [Nat.zero_add, Nat.mul_one, Nat.add_zero]; exact jA (jA3 w _ _) i _ (by simp [hx])
theorem jBQ {α : Type} {sz : Nat} {rep : Value -> α -> Prop} {w w' : World} {v : Value} {xs : List α} (h : jAI sz rep w v xs) (hb : Below w.heap.size w w') : jAI sz rep w' v xs := h.mono hb fun _ _ _ hu => hu
end Sw
namespace Sw
def jLT (u : Value) : Prop := ∃ (i0 : Int) (t1 : ByteArray) (q2 : Option Addr) (n2 c2 : Nat), u = .agg #[.int .i64 i0, .string t1, .slice q2 n2 c2]
theorem jGZ {α : Type} (rep : Value -> α -> Prop) (hsh : ∀ u x, rep u x -> jLT u) (av : Value) (xs : List α) (g : Nat) (w : World) (h : jAI 3 rep w av xs) (hn : xs.length <= 1000000) :
 Calls Tryz.prog 102 #[av, .func (.func g) #[] #[]] w fun e w' => ∃ rv vs, e = .returned rv /\ Below w.heap.size w w' /\ w'.ownsRow w.heap.size 125 1 rv xs.length vs /\ Reps (Clo 134 75 42 g rep w') vs xs := by
 obtain ⟨q, c, rfl⟩ := h.len; have H := hid h; have HSH := hid hsh; have HN := hid hn; clear h hsh hn; go_enter Tryz.func102, Tryz.ntmps102; have mk := jCT xs.length (by have := HN.out; omega); go_wp2_with fail; clear mk; have EW := hid (jA2 (jA3 w #[.func (.func g) #[] #[]] 75) (.cells (madeCells #[(.nilFunc : Value)] xs.length) 125)); have EG := hid (jA3 (w.alloc (.cells #[.func (.func g) #[] #[]] 75)) (madeCells #[(.nilFunc : Value)] xs.length) 125); rw [World.size_alloc] at EG; have HB := hid ((((Below.refl w.heap.size w).alloc (Nat.le_refl _) (.cells #[.func (.func g) #[] #[]] 75)).alloc (by simp) (.cells (madeCells #[(.nilFunc : Value)] xs.length) 125))); have HS0 := hid (size_madeCells #[(.nilFunc : Value)] xs.length)
 go_loopw [13] (fun i wr => ∃ (k : Nat) (cs : Array Value), i = .int .i64 k /\ k <= xs.length /\ Hid (cs.size = xs.length) /\ Hid (wr.heap[w.heap.size]? = some (.cells #[.func (.func g) #[] #[]] 75 (0, 0))) /\ Hid (wr.heap[w.heap.size + 1]? = some (.cells cs 125 (0, 0))) /\
  Hid (∀ j, j < k -> ∃ pb u, cs[j]? = some (.func (.func 134) #[] #[.pointer (some ⟨w.heap.size, 0, none⟩), .pointer (some ⟨pb, 0, none⟩)]) /\ w.heap.size + 2 <= pb /\ wr.heap[pb]? = some (.cells u.cells 42 (0, 0)) /\ ∀ x, xs[j]? = some x -> rep u x) /\
  Hid (Below w.heap.size w wr)) (fun i _ => xs.length - (intOf i).toNat)
 case atStart => exact ⟨0, _, rfl, Nat.zero_le _, HS0, EW, EG, hid (fun j hj => absurd hj (Nat.not_lt_zero j)), HB⟩
 case round =>
  clear EW EG HB HS0; obtain ⟨k, cs, rfl, hk, HS, EW, EG, HC, HB⟩ := hrel; have hs1 := jA6 EG.out; by_cases hlt : k < xs.length
  . obtain ⟨x, hx⟩ : ∃ x, xs[k]? = some x := ⟨_, List.getElem?_eq_getElem hlt⟩
    rcases H.out with ⟨h0, _⟩ | ⟨b, of, c', hv, g1, g2, g3⟩
    . rw [h0] at hlt; simp at hlt
    injection hv with hq1 _ hq2
    subst hq1; subst hq2
    obtain ⟨u, hu, _, hcell⟩ := g3 k x hx; obtain ⟨i0, t1, q2, n2, c2, rfl⟩ := HSH.out u x hu; have HU := hid hu; have HX := hid hx; have up : ∀ j' z, (.agg #[.int .i64 i0, .string t1, .slice q2 n2 c2] : Value).cells[j']? = some z -> wr.cell? ⟨b, of + k * 3 + j', none⟩ = some z := fun j' z hz => (HB.out.cell (World.block_lt_of_cell? w _ (hcell j' z hz))).trans (hcell j' z hz)
    have x0 : wr.cell? ⟨b, of + k * 3, none⟩ = some (.int .i64 i0) := up 0 (.int .i64 i0) rfl; have x1 : wr.cell? ⟨b, of + k * 3 + 1, none⟩ = some (.string t1) := up 1 (.string t1) rfl; have x2 : wr.cell? ⟨b, of + k * 3 + 2, none⟩ = some (.slice q2 n2 c2) := up 2 (.slice q2 n2 c2) rfl; have hk1 : (k : Int) < (xs.length : Int) := by omega
    have hk2 : (xs.length : Int) <= (c : Int) := by omega
    have hk3 := g2; clear g1 g2 g3 hcell hu up hx; go_upto_region 5 with fail
    have HE := hid (jA3 wr #[.int .i64 i0, .string t1, .slice q2 n2 c2] 42); have hsz : (wr.alloc (.cells #[.int .i64 i0, .string t1, .slice q2 n2 c2] 42)).heap.size = wr.heap.size + 1 := by simp
    have HBA := hid (show Below wr.heap.size wr (wr.alloc (.cells #[.int .i64 i0, .string t1, .slice q2 n2 c2] 42)) from (Below.refl _ _).alloc (Nat.le_refl _) _); clear x0 x1 x2; generalize wr.alloc (.cells #[.int .i64 i0, .string t1, .slice q2 n2 c2] 42) = w3 at HE HBA hsz ⊢; have EG3 := hid (jA0 EG.out HBA.out); have EW3 := hid (jA0 EW.out HBA.out); have hkc : k < cs.size := by have := HS.out; omega
    obtain ⟨z, hz⟩ : ∃ z, cs[k]? = some z := ⟨_, Array.getElem?_eq_getElem hkc⟩
    have y0 := jA EG3.out k z hz; have yf := jA1 EG3.out k; have HZ := hid hkc; clear hkc hz; go_wp2_with fail
    go_roundw
    case rel =>
     refine ⟨k + 1, _, by go_num, by omega, hid ((Array.size_setIfInBounds).trans HS.out), hid (jA4 EW3.out _ _ _ (by omega)), hid (jAE EG3.out k _), hid (fun j hj => ?_), hid ((HB.out.trans (HBA.out.mono HB.out.size)).setCell (p := ⟨w.heap.size + 1, k, none⟩) (by simp) _)⟩; by_cases hjk : j = k
     . subst hjk; exact ⟨wr.heap.size, .agg #[.int .i64 i0, .string t1, .slice q2 n2 c2], jCN _ _ _ HZ.out, by omega, jA4 HE.out _ _ _ (by omega), fun y hy => by rw [HX.out] at hy; cases hy; exact HU.out⟩
     . obtain ⟨pb, u, a1, a2, a3, a4⟩ := HC.out j (by omega); exact ⟨pb, u, (jBK _ _ _ _ (fun e => hjk e.symm)).trans a1, a2, jA4 (jA0 a3 HBA.out) _ _ _ (by omega), a4⟩
    case measure => simp [intOf]; omega
  . obtain rfl : k = xs.length := by omega
    go_wp2_with fail; go_ret; have hcl : cs.toList.length = xs.length := HS.out; refine ⟨_, cs.toList, rfl, HB.out, ⟨by rw [hcl]; simp, .inr ⟨w.heap.size + 1, xs.length, cs, rfl, by omega, EG.out, Nat.le_refl _, by have := HN.out; unfold maxLen; omega, by rw [HS.out]; simp, by rw [List.take_of_length_le (by rw [hcl]; omega)]⟩⟩, jDL hcl fun j v x hv hx => ?_⟩; have hj : j < xs.length := (List.getElem?_eq_some_iff.1 hx).1; obtain ⟨pb, u, a1, a2, a3, a4⟩ := HC.out j hj; rw [Array.getElem?_toList, a1] at hv; cases hv; exact ⟨_, pb, u, rfl, EW.out, a3, a4 x hx⟩
end Sw
namespace Sw
def jNM (u : Value) : Prop := ∃ (i0 : Int) (i1 : Int) (t2 : ByteArray) (i3 : Int) (q4 : Option Addr) (n4 c4 : Nat), u = .agg #[.int .i64 i0, .int .i64 i1, .string t2, .int .i64 i3, .slice q4 n4 c4]
theorem jJE {α : Type} (rep : Value -> α -> Prop) (hsh : ∀ u x, rep u x -> jNM u) (av : Value) (xs : List α) (g : Nat) (w : World) (h : jAI 5 rep w av xs) (hn : xs.length <= 1000000) :
 Calls Tryz.prog 137 #[av, .func (.func g) #[] #[]] w fun e w' => ∃ rv vs, e = .returned rv /\ Below w.heap.size w w' /\ w'.ownsRow w.heap.size 125 1 rv xs.length vs /\ Reps (Clo 149 150 84 g rep w') vs xs := by
 obtain ⟨q, c, rfl⟩ := h.len; have H := hid h; have HSH := hid hsh; have HN := hid hn; clear h hsh hn; go_enter Tryz.func137, Tryz.ntmps137; have mk := jCT xs.length (by have := HN.out; omega); go_wp2_with fail; clear mk; have EW := hid (jA2 (jA3 w #[.func (.func g) #[] #[]] 150) (.cells (madeCells #[(.nilFunc : Value)] xs.length) 125)); have EG := hid (jA3 (w.alloc (.cells #[.func (.func g) #[] #[]] 150)) (madeCells #[(.nilFunc : Value)] xs.length) 125); rw [World.size_alloc] at EG; have HB := hid ((((Below.refl w.heap.size w).alloc (Nat.le_refl _) (.cells #[.func (.func g) #[] #[]] 150)).alloc (by simp) (.cells (madeCells #[(.nilFunc : Value)] xs.length) 125))); have HS0 := hid (size_madeCells #[(.nilFunc : Value)] xs.length)
 go_loopw [13] (fun i wr => ∃ (k : Nat) (cs : Array Value), i = .int .i64 k /\ k <= xs.length /\ Hid (cs.size = xs.length) /\ Hid (wr.heap[w.heap.size]? = some (.cells #[.func (.func g) #[] #[]] 150 (0, 0))) /\ Hid (wr.heap[w.heap.size + 1]? = some (.cells cs 125 (0, 0))) /\
  Hid (∀ j, j < k -> ∃ pb u, cs[j]? = some (.func (.func 149) #[] #[.pointer (some ⟨w.heap.size, 0, none⟩), .pointer (some ⟨pb, 0, none⟩)]) /\ w.heap.size + 2 <= pb /\ wr.heap[pb]? = some (.cells u.cells 84 (0, 0)) /\ ∀ x, xs[j]? = some x -> rep u x) /\
  Hid (Below w.heap.size w wr)) (fun i _ => xs.length - (intOf i).toNat)
 case atStart => exact ⟨0, _, rfl, Nat.zero_le _, HS0, EW, EG, hid (fun j hj => absurd hj (Nat.not_lt_zero j)), HB⟩
 case round =>
  clear EW EG HB HS0; obtain ⟨k, cs, rfl, hk, HS, EW, EG, HC, HB⟩ := hrel; have hs1 := jA6 EG.out; by_cases hlt : k < xs.length
  . obtain ⟨x, hx⟩ : ∃ x, xs[k]? = some x := ⟨_, List.getElem?_eq_getElem hlt⟩
    rcases H.out with ⟨h0, _⟩ | ⟨b, of, c', hv, g1, g2, g3⟩
    . rw [h0] at hlt; simp at hlt
    injection hv with hq1 _ hq2
    subst hq1; subst hq2
    obtain ⟨u, hu, _, hcell⟩ := g3 k x hx; obtain ⟨i0, i1, t2, i3, q4, n4, c4, rfl⟩ := HSH.out u x hu; have HU := hid hu; have HX := hid hx; have up : ∀ j' z, (.agg #[.int .i64 i0, .int .i64 i1, .string t2, .int .i64 i3, .slice q4 n4 c4] : Value).cells[j']? = some z -> wr.cell? ⟨b, of + k * 5 + j', none⟩ = some z := fun j' z hz => (HB.out.cell (World.block_lt_of_cell? w _ (hcell j' z hz))).trans (hcell j' z hz)
    have x0 : wr.cell? ⟨b, of + k * 5, none⟩ = some (.int .i64 i0) := up 0 (.int .i64 i0) rfl; have x1 : wr.cell? ⟨b, of + k * 5 + 1, none⟩ = some (.int .i64 i1) := up 1 (.int .i64 i1) rfl; have x2 : wr.cell? ⟨b, of + k * 5 + 2, none⟩ = some (.string t2) := up 2 (.string t2) rfl; have x3 : wr.cell? ⟨b, of + k * 5 + 3, none⟩ = some (.int .i64 i3) := up 3 (.int .i64 i3) rfl; have x4 : wr.cell? ⟨b, of + k * 5 + 4, none⟩ = some (.slice q4 n4 c4) := up 4 (.slice q4 n4 c4) rfl; have hk1 : (k : Int) < (xs.length : Int) := by omega
    have hk2 : (xs.length : Int) <= (c : Int) := by omega
    have hk3 := g2; clear g1 g2 g3 hcell hu up hx; go_upto_region 5 with fail
    have HE := hid (jA3 wr #[.int .i64 i0, .int .i64 i1, .string t2, .int .i64 i3, .slice q4 n4 c4] 84); have hsz : (wr.alloc (.cells #[.int .i64 i0, .int .i64 i1, .string t2, .int .i64 i3, .slice q4 n4 c4] 84)).heap.size = wr.heap.size + 1 := by simp
    have HBA := hid (show Below wr.heap.size wr (wr.alloc (.cells #[.int .i64 i0, .int .i64 i1, .string t2, .int .i64 i3, .slice q4 n4 c4] 84)) from (Below.refl _ _).alloc (Nat.le_refl _) _); clear x0 x1 x2 x3 x4; generalize wr.alloc (.cells #[.int .i64 i0, .int .i64 i1, .string t2, .int .i64 i3, .slice q4 n4 c4] 84) = w3 at HE HBA hsz ⊢; have EG3 := hid (jA0 EG.out HBA.out); have EW3 := hid (jA0 EW.out HBA.out); have hkc : k < cs.size := by have := HS.out; omega
    obtain ⟨z, hz⟩ : ∃ z, cs[k]? = some z := ⟨_, Array.getElem?_eq_getElem hkc⟩
    have y0 := jA EG3.out k z hz; have yf := jA1 EG3.out k; have HZ := hid hkc; clear hkc hz; go_wp2_with fail
    go_roundw
    case rel =>
     refine ⟨k + 1, _, by go_num, by omega, hid ((Array.size_setIfInBounds).trans HS.out), hid (jA4 EW3.out _ _ _ (by omega)), hid (jAE EG3.out k _), hid (fun j hj => ?_), hid ((HB.out.trans (HBA.out.mono HB.out.size)).setCell (p := ⟨w.heap.size + 1, k, none⟩) (by simp) _)⟩; by_cases hjk : j = k
     . subst hjk; exact ⟨wr.heap.size, .agg #[.int .i64 i0, .int .i64 i1, .string t2, .int .i64 i3, .slice q4 n4 c4], jCN _ _ _ HZ.out, by omega, jA4 HE.out _ _ _ (by omega), fun y hy => by rw [HX.out] at hy; cases hy; exact HU.out⟩
     . obtain ⟨pb, u, a1, a2, a3, a4⟩ := HC.out j (by omega); exact ⟨pb, u, (jBK _ _ _ _ (fun e => hjk e.symm)).trans a1, a2, jA4 (jA0 a3 HBA.out) _ _ _ (by omega), a4⟩
    case measure => simp [intOf]; omega
  . obtain rfl : k = xs.length := by omega
    go_wp2_with fail; go_ret; have hcl : cs.toList.length = xs.length := HS.out; refine ⟨_, cs.toList, rfl, HB.out, ⟨by rw [hcl]; simp, .inr ⟨w.heap.size + 1, xs.length, cs, rfl, by omega, EG.out, Nat.le_refl _, by have := HN.out; unfold maxLen; omega, by rw [HS.out]; simp, by rw [List.take_of_length_le (by rw [hcl]; omega)]⟩⟩, jDL hcl fun j v x hv hx => ?_⟩; have hj : j < xs.length := (List.getElem?_eq_some_iff.1 hx).1; obtain ⟨pb, u, a1, a2, a3, a4⟩ := HC.out j hj; rw [Array.getElem?_toList, a1] at hv; cases hv; exact ⟨_, pb, u, rfl, EW.out, a3, a4 x hx⟩
theorem jIQ {α : Type} (rep : Value -> α -> Prop) (hsh : ∀ u x, rep u x -> jNM u) (v : Value) (x : α) (g : Nat) (w : World) (h : rep v x) :
 Calls Tryz.prog 108 #[v, .func (.func g) #[] #[]] w fun e w' => ∃ rv u, e = .returned rv /\ Below w.heap.size w w' /\ w'.ownsRow w.heap.size 125 1 rv 1 [u] /\ Clo 149 150 84 g rep w' u x := by
 obtain ⟨i0, i1, t2, i3, q4, n4, c4, rfl⟩ := hsh v x h; have H := hid h; have HSH := hid hsh; clear h hsh; go_enter Tryz.func108, Tryz.ntmps108; go_wp2_with fail; have EB := hid (jA3 (w.alloc (.cells #[.int .i64 i0, .int .i64 i1, .string t2, .int .i64 i3, .slice q4 n4 c4] 84)) #[.int .i64 i0, .int .i64 i1, .string t2, .int .i64 i3, .slice q4 n4 c4] 84); have HB := hid (((Below.refl w.heap.size w).alloc (Nat.le_refl _) (.cells #[.int .i64 i0, .int .i64 i1, .string t2, .int .i64 i3, .slice q4 n4 c4] 84)).alloc (by simp) (.cells #[.int .i64 i0, .int .i64 i1, .string t2, .int .i64 i3, .slice q4 n4 c4] 84)); rw [World.size_alloc] at EB; generalize (w.alloc (.cells #[.int .i64 i0, .int .i64 i1, .string t2, .int .i64 i3, .slice q4 n4 c4] 84)).alloc (.cells #[.int .i64 i0, .int .i64 i1, .string t2, .int .i64 i3, .slice q4 n4 c4] 84) = w1 at EB HB ⊢; refine (jJE rep HSH.out _ [x] g w1 (.inr ⟨w.heap.size + 1, 0, 1, rfl, Nat.le_refl _, by omega, fun i y hi => ?_⟩) (by simp)).mono ?_
 . have hi0 : i = 0 := by
    have := (List.getElem?_eq_some_iff.1 hi).1; simp at this; exact this
   subst hi0; simp at hi; subst hi; exact ⟨_, H.out, rfl, fun j z hz => by simpa using jA EB.out j z hz⟩
 rintro e w2 ⟨rv, vs, rfl, hb, hown, hr⟩
 match vs, hr with
 | [u], hr =>
   go_wp2_with fail; go_ret; exact ⟨rv, u, rfl, HB.out.trans (hb.mono HB.out.size), jE5 hown HB.out.size, hr.1⟩
end Sw
namespace Sw
def jJH (u : Value) : Prop := ∃ (i0 : Int) (i1 : Int) (t2 : ByteArray) (i3 : Int) (q4 : Option Addr) (n4 c4 : Nat) (q5 : Option Addr) (n5 c5 : Nat) (q6 : Option Addr) (n6 c6 : Nat), u = .agg #[.int .i64 i0, .int .i64 i1, .string t2, .int .i64 i3, .slice q4 n4 c4, .slice q5 n5 c5, .slice q6 n6 c6]
theorem jDG {α : Type} (rep : Value -> α -> Prop) (hsh : ∀ u x, rep u x -> jJH u) (av : Value) (xs : List α) (g : Nat) (w : World) (h : jAI 7 rep w av xs) (hn : xs.length <= 1000000) :
 Calls Tryz.prog 65 #[av, .func (.func g) #[] #[]] w fun e w' => ∃ rv vs, e = .returned rv /\ Below w.heap.size w w' /\ w'.ownsRow w.heap.size 125 1 rv xs.length vs /\ Reps (Clo 104 79 47 g rep w') vs xs := by
 obtain ⟨q, c, rfl⟩ := h.len; have H := hid h; have HSH := hid hsh; have HN := hid hn; clear h hsh hn; go_enter Tryz.func65, Tryz.ntmps65; have mk := jCT xs.length (by have := HN.out; omega); go_wp2_with fail; clear mk; have EW := hid (jA2 (jA3 w #[.func (.func g) #[] #[]] 79) (.cells (madeCells #[(.nilFunc : Value)] xs.length) 125)); have EG := hid (jA3 (w.alloc (.cells #[.func (.func g) #[] #[]] 79)) (madeCells #[(.nilFunc : Value)] xs.length) 125); rw [World.size_alloc] at EG; have HB := hid ((((Below.refl w.heap.size w).alloc (Nat.le_refl _) (.cells #[.func (.func g) #[] #[]] 79)).alloc (by simp) (.cells (madeCells #[(.nilFunc : Value)] xs.length) 125))); have HS0 := hid (size_madeCells #[(.nilFunc : Value)] xs.length)
 go_loopw [13] (fun i wr => ∃ (k : Nat) (cs : Array Value), i = .int .i64 k /\ k <= xs.length /\ Hid (cs.size = xs.length) /\ Hid (wr.heap[w.heap.size]? = some (.cells #[.func (.func g) #[] #[]] 79 (0, 0))) /\ Hid (wr.heap[w.heap.size + 1]? = some (.cells cs 125 (0, 0))) /\
  Hid (∀ j, j < k -> ∃ pb u, cs[j]? = some (.func (.func 104) #[] #[.pointer (some ⟨w.heap.size, 0, none⟩), .pointer (some ⟨pb, 0, none⟩)]) /\ w.heap.size + 2 <= pb /\ wr.heap[pb]? = some (.cells u.cells 47 (0, 0)) /\ ∀ x, xs[j]? = some x -> rep u x) /\
  Hid (Below w.heap.size w wr)) (fun i _ => xs.length - (intOf i).toNat)
 case atStart => exact ⟨0, _, rfl, Nat.zero_le _, HS0, EW, EG, hid (fun j hj => absurd hj (Nat.not_lt_zero j)), HB⟩
 case round =>
  clear EW EG HB HS0; obtain ⟨k, cs, rfl, hk, HS, EW, EG, HC, HB⟩ := hrel; have hs1 := jA6 EG.out; by_cases hlt : k < xs.length
  . obtain ⟨x, hx⟩ : ∃ x, xs[k]? = some x := ⟨_, List.getElem?_eq_getElem hlt⟩
    rcases H.out with ⟨h0, _⟩ | ⟨b, of, c', hv, g1, g2, g3⟩
    . rw [h0] at hlt; simp at hlt
    injection hv with hq1 _ hq2
    subst hq1; subst hq2
    obtain ⟨u, hu, _, hcell⟩ := g3 k x hx; obtain ⟨i0, i1, t2, i3, q4, n4, c4, q5, n5, c5, q6, n6, c6, rfl⟩ := HSH.out u x hu; have HU := hid hu; have HX := hid hx; have up : ∀ j' z, (.agg #[.int .i64 i0, .int .i64 i1, .string t2, .int .i64 i3, .slice q4 n4 c4, .slice q5 n5 c5, .slice q6 n6 c6] : Value).cells[j']? = some z -> wr.cell? ⟨b, of + k * 7 + j', none⟩ = some z := fun j' z hz => (HB.out.cell (World.block_lt_of_cell? w _ (hcell j' z hz))).trans (hcell j' z hz)
    have x0 : wr.cell? ⟨b, of + k * 7, none⟩ = some (.int .i64 i0) := up 0 (.int .i64 i0) rfl; have x1 : wr.cell? ⟨b, of + k * 7 + 1, none⟩ = some (.int .i64 i1) := up 1 (.int .i64 i1) rfl; have x2 : wr.cell? ⟨b, of + k * 7 + 2, none⟩ = some (.string t2) := up 2 (.string t2) rfl; have x3 : wr.cell? ⟨b, of + k * 7 + 3, none⟩ = some (.int .i64 i3) := up 3 (.int .i64 i3) rfl; have x4 : wr.cell? ⟨b, of + k * 7 + 4, none⟩ = some (.slice q4 n4 c4) := up 4 (.slice q4 n4 c4) rfl; have x5 : wr.cell? ⟨b, of + k * 7 + 5, none⟩ = some (.slice q5 n5 c5) := up 5 (.slice q5 n5 c5) rfl; have x6 : wr.cell? ⟨b, of + k * 7 + 6, none⟩ = some (.slice q6 n6 c6) := up 6 (.slice q6 n6 c6) rfl; have hk1 : (k : Int) < (xs.length : Int) := by omega
    have hk2 : (xs.length : Int) <= (c : Int) := by omega
    have hk3 := g2; clear g1 g2 g3 hcell hu up hx; go_upto_region 5 with fail
    have HE := hid (jA3 wr #[.int .i64 i0, .int .i64 i1, .string t2, .int .i64 i3, .slice q4 n4 c4, .slice q5 n5 c5, .slice q6 n6 c6] 47); have hsz : (wr.alloc (.cells #[.int .i64 i0, .int .i64 i1, .string t2, .int .i64 i3, .slice q4 n4 c4, .slice q5 n5 c5, .slice q6 n6 c6] 47)).heap.size = wr.heap.size + 1 := by simp
    have HBA := hid (show Below wr.heap.size wr (wr.alloc (.cells #[.int .i64 i0, .int .i64 i1, .string t2, .int .i64 i3, .slice q4 n4 c4, .slice q5 n5 c5, .slice q6 n6 c6] 47)) from (Below.refl _ _).alloc (Nat.le_refl _) _); clear x0 x1 x2 x3 x4 x5 x6; generalize wr.alloc (.cells #[.int .i64 i0, .int .i64 i1, .string t2, .int .i64 i3, .slice q4 n4 c4, .slice q5 n5 c5, .slice q6 n6 c6] 47) = w3 at HE HBA hsz ⊢; have EG3 := hid (jA0 EG.out HBA.out); have EW3 := hid (jA0 EW.out HBA.out); have hkc : k < cs.size := by have := HS.out; omega
    obtain ⟨z, hz⟩ : ∃ z, cs[k]? = some z := ⟨_, Array.getElem?_eq_getElem hkc⟩
    have y0 := jA EG3.out k z hz; have yf := jA1 EG3.out k; have HZ := hid hkc; clear hkc hz; go_wp2_with fail
    go_roundw
    case rel =>
     refine ⟨k + 1, _, by go_num, by omega, hid ((Array.size_setIfInBounds).trans HS.out), hid (jA4 EW3.out _ _ _ (by omega)), hid (jAE EG3.out k _), hid (fun j hj => ?_), hid ((HB.out.trans (HBA.out.mono HB.out.size)).setCell (p := ⟨w.heap.size + 1, k, none⟩) (by simp) _)⟩; by_cases hjk : j = k
     . subst hjk; exact ⟨wr.heap.size, .agg #[.int .i64 i0, .int .i64 i1, .string t2, .int .i64 i3, .slice q4 n4 c4, .slice q5 n5 c5, .slice q6 n6 c6], jCN _ _ _ HZ.out, by omega, jA4 HE.out _ _ _ (by omega), fun y hy => by rw [HX.out] at hy; cases hy; exact HU.out⟩
     . obtain ⟨pb, u, a1, a2, a3, a4⟩ := HC.out j (by omega); exact ⟨pb, u, (jBK _ _ _ _ (fun e => hjk e.symm)).trans a1, a2, jA4 (jA0 a3 HBA.out) _ _ _ (by omega), a4⟩
    case measure => simp [intOf]; omega
  . obtain rfl : k = xs.length := by omega
    go_wp2_with fail; go_ret; have hcl : cs.toList.length = xs.length := HS.out; refine ⟨_, cs.toList, rfl, HB.out, ⟨by rw [hcl]; simp, .inr ⟨w.heap.size + 1, xs.length, cs, rfl, by omega, EG.out, Nat.le_refl _, by have := HN.out; unfold maxLen; omega, by rw [HS.out]; simp, by rw [List.take_of_length_le (by rw [hcl]; omega)]⟩⟩, jDL hcl fun j v x hv hx => ?_⟩; have hj : j < xs.length := (List.getElem?_eq_some_iff.1 hx).1; obtain ⟨pb, u, a1, a2, a3, a4⟩ := HC.out j hj; rw [Array.getElem?_toList, a1] at hv; cases hv; exact ⟨_, pb, u, rfl, EW.out, a3, a4 x hx⟩
theorem jET {α : Type} (rep : Value -> α -> Prop) (hsh : ∀ u x, rep u x -> jJH u) (v : Value) (x : α) (g : Nat) (w : World) (h : rep v x) :
 Calls Tryz.prog 63 #[v, .func (.func g) #[] #[]] w fun e w' => ∃ rv u, e = .returned rv /\ Below w.heap.size w w' /\ w'.ownsRow w.heap.size 125 1 rv 1 [u] /\ Clo 104 79 47 g rep w' u x := by
 obtain ⟨i0, i1, t2, i3, q4, n4, c4, q5, n5, c5, q6, n6, c6, rfl⟩ := hsh v x h; have H := hid h; have HSH := hid hsh; clear h hsh; go_enter Tryz.func63, Tryz.ntmps63; go_wp2_with fail; have EB := hid (jA3 (w.alloc (.cells #[.int .i64 i0, .int .i64 i1, .string t2, .int .i64 i3, .slice q4 n4 c4, .slice q5 n5 c5, .slice q6 n6 c6] 47)) #[.int .i64 i0, .int .i64 i1, .string t2, .int .i64 i3, .slice q4 n4 c4, .slice q5 n5 c5, .slice q6 n6 c6] 47); have HB := hid (((Below.refl w.heap.size w).alloc (Nat.le_refl _) (.cells #[.int .i64 i0, .int .i64 i1, .string t2, .int .i64 i3, .slice q4 n4 c4, .slice q5 n5 c5, .slice q6 n6 c6] 47)).alloc (by simp) (.cells #[.int .i64 i0, .int .i64 i1, .string t2, .int .i64 i3, .slice q4 n4 c4, .slice q5 n5 c5, .slice q6 n6 c6] 47)); rw [World.size_alloc] at EB; generalize (w.alloc (.cells #[.int .i64 i0, .int .i64 i1, .string t2, .int .i64 i3, .slice q4 n4 c4, .slice q5 n5 c5, .slice q6 n6 c6] 47)).alloc (.cells #[.int .i64 i0, .int .i64 i1, .string t2, .int .i64 i3, .slice q4 n4 c4, .slice q5 n5 c5, .slice q6 n6 c6] 47) = w1 at EB HB ⊢; refine (jDG rep HSH.out _ [x] g w1 (.inr ⟨w.heap.size + 1, 0, 1, rfl, Nat.le_refl _, by omega, fun i y hi => ?_⟩) (by simp)).mono ?_
 . have hi0 : i = 0 := by
    have := (List.getElem?_eq_some_iff.1 hi).1; simp at this; exact this
   subst hi0; simp at hi; subst hi; exact ⟨_, H.out, rfl, fun j z hz => by simpa using jA EB.out j z hz⟩
 rintro e w2 ⟨rv, vs, rfl, hb, hown, hr⟩
 match vs, hr with
 | [u], hr =>
   go_wp2_with fail; go_ret; exact ⟨rv, u, rfl, HB.out.trans (hb.mono HB.out.size), jE5 hown HB.out.size, hr.1⟩
end Sw
namespace Sw
def jOR (u : Value) : Prop := ∃ (t0 : ByteArray) (i1 : Int) (i2 : Int) (i3 : Int) (q4 : Option Addr) (n4 c4 : Nat), u = .agg #[.string t0, .int .i64 i1, .int .i64 i2, .int .i64 i3, .slice q4 n4 c4]
theorem jNG {α : Type} (rep : Value -> α -> Prop) (hsh : ∀ u x, rep u x -> jOR u) (av : Value) (xs : List α) (g : Nat) (w : World) (h : jAI 5 rep w av xs) (hn : xs.length <= 1000000) :
 Calls Tryz.prog 111 #[av, .func (.func g) #[] #[]] w fun e w' => ∃ rv vs, e = .returned rv /\ Below w.heap.size w w' /\ w'.ownsRow w.heap.size 125 1 rv xs.length vs /\ Reps (Clo 142 88 58 g rep w') vs xs := by
 obtain ⟨q, c, rfl⟩ := h.len; have H := hid h; have HSH := hid hsh; have HN := hid hn; clear h hsh hn; go_enter Tryz.func111, Tryz.ntmps111; have mk := jCT xs.length (by have := HN.out; omega); go_wp2_with fail; clear mk; have EW := hid (jA2 (jA3 w #[.func (.func g) #[] #[]] 88) (.cells (madeCells #[(.nilFunc : Value)] xs.length) 125)); have EG := hid (jA3 (w.alloc (.cells #[.func (.func g) #[] #[]] 88)) (madeCells #[(.nilFunc : Value)] xs.length) 125); rw [World.size_alloc] at EG; have HB := hid ((((Below.refl w.heap.size w).alloc (Nat.le_refl _) (.cells #[.func (.func g) #[] #[]] 88)).alloc (by simp) (.cells (madeCells #[(.nilFunc : Value)] xs.length) 125))); have HS0 := hid (size_madeCells #[(.nilFunc : Value)] xs.length)
 go_loopw [13] (fun i wr => ∃ (k : Nat) (cs : Array Value), i = .int .i64 k /\ k <= xs.length /\ Hid (cs.size = xs.length) /\ Hid (wr.heap[w.heap.size]? = some (.cells #[.func (.func g) #[] #[]] 88 (0, 0))) /\ Hid (wr.heap[w.heap.size + 1]? = some (.cells cs 125 (0, 0))) /\
  Hid (∀ j, j < k -> ∃ pb u, cs[j]? = some (.func (.func 142) #[] #[.pointer (some ⟨w.heap.size, 0, none⟩), .pointer (some ⟨pb, 0, none⟩)]) /\ w.heap.size + 2 <= pb /\ wr.heap[pb]? = some (.cells u.cells 58 (0, 0)) /\ ∀ x, xs[j]? = some x -> rep u x) /\
  Hid (Below w.heap.size w wr)) (fun i _ => xs.length - (intOf i).toNat)
 case atStart => exact ⟨0, _, rfl, Nat.zero_le _, HS0, EW, EG, hid (fun j hj => absurd hj (Nat.not_lt_zero j)), HB⟩
 case round =>
  clear EW EG HB HS0; obtain ⟨k, cs, rfl, hk, HS, EW, EG, HC, HB⟩ := hrel; have hs1 := jA6 EG.out; by_cases hlt : k < xs.length
  . obtain ⟨x, hx⟩ : ∃ x, xs[k]? = some x := ⟨_, List.getElem?_eq_getElem hlt⟩
    rcases H.out with ⟨h0, _⟩ | ⟨b, of, c', hv, g1, g2, g3⟩
    . rw [h0] at hlt; simp at hlt
    injection hv with hq1 _ hq2
    subst hq1; subst hq2
    obtain ⟨u, hu, _, hcell⟩ := g3 k x hx; obtain ⟨t0, i1, i2, i3, q4, n4, c4, rfl⟩ := HSH.out u x hu; have HU := hid hu; have HX := hid hx; have up : ∀ j' z, (.agg #[.string t0, .int .i64 i1, .int .i64 i2, .int .i64 i3, .slice q4 n4 c4] : Value).cells[j']? = some z -> wr.cell? ⟨b, of + k * 5 + j', none⟩ = some z := fun j' z hz => (HB.out.cell (World.block_lt_of_cell? w _ (hcell j' z hz))).trans (hcell j' z hz)
    have x0 : wr.cell? ⟨b, of + k * 5, none⟩ = some (.string t0) := up 0 (.string t0) rfl; have x1 : wr.cell? ⟨b, of + k * 5 + 1, none⟩ = some (.int .i64 i1) := up 1 (.int .i64 i1) rfl; have x2 : wr.cell? ⟨b, of + k * 5 + 2, none⟩ = some (.int .i64 i2) := up 2 (.int .i64 i2) rfl; have x3 : wr.cell? ⟨b, of + k * 5 + 3, none⟩ = some (.int .i64 i3) := up 3 (.int .i64 i3) rfl; have x4 : wr.cell? ⟨b, of + k * 5 + 4, none⟩ = some (.slice q4 n4 c4) := up 4 (.slice q4 n4 c4) rfl; have hk1 : (k : Int) < (xs.length : Int) := by omega
    have hk2 : (xs.length : Int) <= (c : Int) := by omega
    have hk3 := g2; clear g1 g2 g3 hcell hu up hx; go_upto_region 5 with fail
    have HE := hid (jA3 wr #[.string t0, .int .i64 i1, .int .i64 i2, .int .i64 i3, .slice q4 n4 c4] 58); have hsz : (wr.alloc (.cells #[.string t0, .int .i64 i1, .int .i64 i2, .int .i64 i3, .slice q4 n4 c4] 58)).heap.size = wr.heap.size + 1 := by simp
    have HBA := hid (show Below wr.heap.size wr (wr.alloc (.cells #[.string t0, .int .i64 i1, .int .i64 i2, .int .i64 i3, .slice q4 n4 c4] 58)) from (Below.refl _ _).alloc (Nat.le_refl _) _); clear x0 x1 x2 x3 x4; generalize wr.alloc (.cells #[.string t0, .int .i64 i1, .int .i64 i2, .int .i64 i3, .slice q4 n4 c4] 58) = w3 at HE HBA hsz ⊢; have EG3 := hid (jA0 EG.out HBA.out); have EW3 := hid (jA0 EW.out HBA.out); have hkc : k < cs.size := by have := HS.out; omega
    obtain ⟨z, hz⟩ : ∃ z, cs[k]? = some z := ⟨_, Array.getElem?_eq_getElem hkc⟩
    have y0 := jA EG3.out k z hz; have yf := jA1 EG3.out k; have HZ := hid hkc; clear hkc hz; go_wp2_with fail
    go_roundw
    case rel =>
     refine ⟨k + 1, _, by go_num, by omega, hid ((Array.size_setIfInBounds).trans HS.out), hid (jA4 EW3.out _ _ _ (by omega)), hid (jAE EG3.out k _), hid (fun j hj => ?_), hid ((HB.out.trans (HBA.out.mono HB.out.size)).setCell (p := ⟨w.heap.size + 1, k, none⟩) (by simp) _)⟩; by_cases hjk : j = k
     . subst hjk; exact ⟨wr.heap.size, .agg #[.string t0, .int .i64 i1, .int .i64 i2, .int .i64 i3, .slice q4 n4 c4], jCN _ _ _ HZ.out, by omega, jA4 HE.out _ _ _ (by omega), fun y hy => by rw [HX.out] at hy; cases hy; exact HU.out⟩
     . obtain ⟨pb, u, a1, a2, a3, a4⟩ := HC.out j (by omega); exact ⟨pb, u, (jBK _ _ _ _ (fun e => hjk e.symm)).trans a1, a2, jA4 (jA0 a3 HBA.out) _ _ _ (by omega), a4⟩
    case measure => simp [intOf]; omega
  . obtain rfl : k = xs.length := by omega
    go_wp2_with fail; go_ret; have hcl : cs.toList.length = xs.length := HS.out; refine ⟨_, cs.toList, rfl, HB.out, ⟨by rw [hcl]; simp, .inr ⟨w.heap.size + 1, xs.length, cs, rfl, by omega, EG.out, Nat.le_refl _, by have := HN.out; unfold maxLen; omega, by rw [HS.out]; simp, by rw [List.take_of_length_le (by rw [hcl]; omega)]⟩⟩, jDL hcl fun j v x hv hx => ?_⟩; have hj : j < xs.length := (List.getElem?_eq_some_iff.1 hx).1; obtain ⟨pb, u, a1, a2, a3, a4⟩ := HC.out j hj; rw [Array.getElem?_toList, a1] at hv; cases hv; exact ⟨_, pb, u, rfl, EW.out, a3, a4 x hx⟩
end Sw
namespace Sw
theorem jIV {α : Type} (rep : Value -> α -> Prop) (hsh : ∀ u x, rep u x -> jLT u) (mk : α -> Nd) (g : Nat) {w0 : World} (hmk : ∀ w v x, Clo 134 75 42 g rep w v x -> jAG w0 w v (mk x)) {B : Nat} {w : World} {T : List UInt8} {S : List Nd} (h : St w0 B w T S)
 (nm : List UInt8) (q : Option Addr) (n c : Nat) (xs : List α) (hx : jAI 3 rep w (.slice q n c) xs) (hs : Small T S (named nm (xs.map mk))) :
 Calls Tryz.prog 61 #[.pointer (some ⟨B, 0, none⟩), .string ⟨nm.toArray⟩, .slice q n c, .func (.func g) #[] #[]] w (Did w0 B T S (named nm (xs.map mk))) := by
 obtain ⟨q', c', he⟩ := hx.len; obtain ⟨rfl, rfl, rfl⟩ := (Value.slice.injEq ..).mp he; clear he; have H := hid h; have HX := hid hx; have HSH := hid hsh; have HMK := hid hmk; by_cases h0 : xs = []
 . subst h0; have hs0 : named nm (([] : List α).map mk) = (wd nm, []) := rfl; rw [hs0] at hs ⊢; have HS := hid hs; clear h hx hsh hmk hs hs0; go_enter Tryz.func61, Tryz.ntmps61; go_wp2_with fail; refine (jI9 H.out nm HS.out).mono ?_; rintro e w1 ⟨rfl, hd⟩; go_wp2_with fail
   go_end0
   exact ⟨rfl, hd⟩
 . have hs0 : named nm (xs.map mk) = ([40], jBV (.word nm :: xs.map mk)) := by unfold named; rw [if_neg (by simpa using h0)]
   rw [hs0] at hs ⊢; have HS := hid hs; have hpos : ¬ ((xs.length : Int) = 0) := by have := List.length_pos_iff.2 h0; omega
   have hposb : ((xs.length : Int) == 0) = false := by simpa using hpos
   have HN : Hid (xs.length <= 1000000) := hid (by have := hs.2; have h2 := jC (.word nm :: xs.map mk); simp only [List.length_append, List.length_cons, List.length_map] at this h2; omega); clear h hx hsh hmk hs hs0 h0; go_enter Tryz.func61, Tryz.ntmps61; go_wp2_with fail; have hr1 := jCQ w [nm] (by simp); have hb1 : Below w.heap.size w (w.alloc (.cells ([nm].map fun s => Value.string ⟨s.toArray⟩).toArray 9)) := (Below.refl _ _).alloc (Nat.le_refl _) _; have HR1 := hid hr1; have HB1 := hid hb1; clear hr1 hb1; refine (jCC _ [nm] _ HR1.out (by simp)).mono ?_; rintro e w2 ⟨rv, vs, rfl, hb2, hown2, hrr2⟩; obtain ⟨p2, c2, rfl⟩ := jAZ hown2; have HB2 := bT HB1 hb2; have HO2 := hid hown2; have HR2 : Hid (Reps (jAG w0 w2) vs [.word nm]) := hid (jB5 (rep' := jAG w0 w2) (mk := .word) (fun v x hv => hv) hrr2); have hsz1 := HB1.out.size; clear hb2 hown2 hrr2; go_wp2_with fail; refine (jGZ rep HSH.out _ xs g w2 (jBQ HX.out HB2.out) HN.out).mono ?_; rintro e w3 ⟨rv3, vs3, rfl, hb3, hown3, hrr3⟩; obtain ⟨p3, c3, rfl⟩ := jAZ hown3; have HB3 := bT HB2 hb3; have HV2 : Hid (VRow w.heap.size w3 (.slice p2 [nm].length c2) vs) := hid (VRow.below (jAO HO2.out hsz1 HR2.out) hb3); have HR2' := hid (jAD hb3 HR2.out); have HR3 : Hid (Reps (jAG w0 w3) vs3 (xs.map mk)) := hid (jB5 (rep' := jAG w0 w3) (fun v x hv => HMK.out w3 v x hv) hrr3); have HV3 : Hid (VRow w.heap.size w3 (.slice p3 xs.length c3) vs3) := hid (jAO hown3 HB2.out.size HR3.out); clear hb3 hown3 hrr3; go_wp2_with fail; have hb4 : Below w3.heap.size w3 (w3.alloc (.cells #[.slice p2 1 c2, .slice p3 xs.length c3] 120)) := (Below.refl _ _).alloc (Nat.le_refl _) _
   refine (jE3 H.out (HB3.out.trans (hb4.mono HB3.out.size)) _ _ _ [vs, vs3] [[.word nm], xs.map mk] (.word nm :: xs.map mk) (by simp)
    (jCJ (lo := w.heap.size) (ls := [vs, vs3]) (wk := w3) (ss := [.slice p2 1 c2, .slice p3 xs.length c3]) ⟨HV2.out, HV3.out, trivial⟩ HB3.out.size (by simp) rfl rfl) ⟨jAD hb4 HR2'.out, jAD hb4 HR3.out, trivial⟩ HS.out (by simp)).mono ?_
   rintro e w5 ⟨⟨rfl, hd⟩, _⟩; go_wp2_with fail
   go_end0
   exact ⟨rfl, hd⟩
theorem jLC {α : Type} (rep : Value -> α -> Prop) (hsh : ∀ u x, rep u x -> jNM u) (mk : α -> Nd) (g : Nat) {w0 : World} (hmk : ∀ w v x, Clo 149 150 84 g rep w v x -> jAG w0 w v (mk x)) {B : Nat} {w : World} {T : List UInt8} {S : List Nd} (h : St w0 B w T S)
 (nm : List UInt8) (q : Option Addr) (n c : Nat) (xs : List α) (hx : jAI 5 rep w (.slice q n c) xs) (hs : Small T S (named nm (xs.map mk))) :
 Calls Tryz.prog 110 #[.pointer (some ⟨B, 0, none⟩), .string ⟨nm.toArray⟩, .slice q n c, .func (.func g) #[] #[]] w (Did w0 B T S (named nm (xs.map mk))) := by
 obtain ⟨q', c', he⟩ := hx.len; obtain ⟨rfl, rfl, rfl⟩ := (Value.slice.injEq ..).mp he; clear he; have H := hid h; have HX := hid hx; have HSH := hid hsh; have HMK := hid hmk; by_cases h0 : xs = []
 . subst h0; have hs0 : named nm (([] : List α).map mk) = (wd nm, []) := rfl; rw [hs0] at hs ⊢; have HS := hid hs; clear h hx hsh hmk hs hs0; go_enter Tryz.func110, Tryz.ntmps110; go_wp2_with fail; refine (jI9 H.out nm HS.out).mono ?_; rintro e w1 ⟨rfl, hd⟩; go_wp2_with fail
   go_end0
   exact ⟨rfl, hd⟩
 . have hs0 : named nm (xs.map mk) = ([40], jBV (.word nm :: xs.map mk)) := by unfold named; rw [if_neg (by simpa using h0)]
   rw [hs0] at hs ⊢; have HS := hid hs; have hpos : ¬ ((xs.length : Int) = 0) := by have := List.length_pos_iff.2 h0; omega
   have hposb : ((xs.length : Int) == 0) = false := by simpa using hpos
   have HN : Hid (xs.length <= 1000000) := hid (by have := hs.2; have h2 := jC (.word nm :: xs.map mk); simp only [List.length_append, List.length_cons, List.length_map] at this h2; omega); clear h hx hsh hmk hs hs0 h0; go_enter Tryz.func110, Tryz.ntmps110; go_wp2_with fail; have hr1 := jCQ w [nm] (by simp); have hb1 : Below w.heap.size w (w.alloc (.cells ([nm].map fun s => Value.string ⟨s.toArray⟩).toArray 9)) := (Below.refl _ _).alloc (Nat.le_refl _) _; have HR1 := hid hr1; have HB1 := hid hb1; clear hr1 hb1; refine (jCC _ [nm] _ HR1.out (by simp)).mono ?_; rintro e w2 ⟨rv, vs, rfl, hb2, hown2, hrr2⟩; obtain ⟨p2, c2, rfl⟩ := jAZ hown2; have HB2 := bT HB1 hb2; have HO2 := hid hown2; have HR2 : Hid (Reps (jAG w0 w2) vs [.word nm]) := hid (jB5 (rep' := jAG w0 w2) (mk := .word) (fun v x hv => hv) hrr2); have hsz1 := HB1.out.size; clear hb2 hown2 hrr2; go_wp2_with fail; refine (jJE rep HSH.out _ xs g w2 (jBQ HX.out HB2.out) HN.out).mono ?_; rintro e w3 ⟨rv3, vs3, rfl, hb3, hown3, hrr3⟩; obtain ⟨p3, c3, rfl⟩ := jAZ hown3; have HB3 := bT HB2 hb3; have HV2 : Hid (VRow w.heap.size w3 (.slice p2 [nm].length c2) vs) := hid (VRow.below (jAO HO2.out hsz1 HR2.out) hb3); have HR2' := hid (jAD hb3 HR2.out); have HR3 : Hid (Reps (jAG w0 w3) vs3 (xs.map mk)) := hid (jB5 (rep' := jAG w0 w3) (fun v x hv => HMK.out w3 v x hv) hrr3); have HV3 : Hid (VRow w.heap.size w3 (.slice p3 xs.length c3) vs3) := hid (jAO hown3 HB2.out.size HR3.out); clear hb3 hown3 hrr3; go_wp2_with fail; have hb4 : Below w3.heap.size w3 (w3.alloc (.cells #[.slice p2 1 c2, .slice p3 xs.length c3] 120)) := (Below.refl _ _).alloc (Nat.le_refl _) _
   refine (jE3 H.out (HB3.out.trans (hb4.mono HB3.out.size)) _ _ _ [vs, vs3] [[.word nm], xs.map mk] (.word nm :: xs.map mk) (by simp)
    (jCJ (lo := w.heap.size) (ls := [vs, vs3]) (wk := w3) (ss := [.slice p2 1 c2, .slice p3 xs.length c3]) ⟨HV2.out, HV3.out, trivial⟩ HB3.out.size (by simp) rfl rfl) ⟨jAD hb4 HR2'.out, jAD hb4 HR3.out, trivial⟩ HS.out (by simp)).mono ?_
   rintro e w5 ⟨⟨rfl, hd⟩, _⟩; go_wp2_with fail
   go_end0
   exact ⟨rfl, hd⟩
theorem jJR {α : Type} (rep : Value -> α -> Prop) (hsh : ∀ u x, rep u x -> jJH u) (mk : α -> Nd) (g : Nat) {w0 : World} (hmk : ∀ w v x, Clo 104 79 47 g rep w v x -> jAG w0 w v (mk x)) {B : Nat} {w : World} {T : List UInt8} {S : List Nd} (h : St w0 B w T S)
 (nm : List UInt8) (q : Option Addr) (n c : Nat) (xs : List α) (hx : jAI 7 rep w (.slice q n c) xs) (hs : Small T S (named nm (xs.map mk))) :
 Calls Tryz.prog 72 #[.pointer (some ⟨B, 0, none⟩), .string ⟨nm.toArray⟩, .slice q n c, .func (.func g) #[] #[]] w (Did w0 B T S (named nm (xs.map mk))) := by
 obtain ⟨q', c', he⟩ := hx.len; obtain ⟨rfl, rfl, rfl⟩ := (Value.slice.injEq ..).mp he; clear he; have H := hid h; have HX := hid hx; have HSH := hid hsh; have HMK := hid hmk; by_cases h0 : xs = []
 . subst h0; have hs0 : named nm (([] : List α).map mk) = (wd nm, []) := rfl; rw [hs0] at hs ⊢; have HS := hid hs; clear h hx hsh hmk hs hs0; go_enter Tryz.func72, Tryz.ntmps72; go_wp2_with fail; refine (jI9 H.out nm HS.out).mono ?_; rintro e w1 ⟨rfl, hd⟩; go_wp2_with fail
   go_end0
   exact ⟨rfl, hd⟩
 . have hs0 : named nm (xs.map mk) = ([40], jBV (.word nm :: xs.map mk)) := by unfold named; rw [if_neg (by simpa using h0)]
   rw [hs0] at hs ⊢; have HS := hid hs; have hpos : ¬ ((xs.length : Int) = 0) := by have := List.length_pos_iff.2 h0; omega
   have hposb : ((xs.length : Int) == 0) = false := by simpa using hpos
   have HN : Hid (xs.length <= 1000000) := hid (by have := hs.2; have h2 := jC (.word nm :: xs.map mk); simp only [List.length_append, List.length_cons, List.length_map] at this h2; omega); clear h hx hsh hmk hs hs0 h0; go_enter Tryz.func72, Tryz.ntmps72; go_wp2_with fail; have hr1 := jCQ w [nm] (by simp); have hb1 : Below w.heap.size w (w.alloc (.cells ([nm].map fun s => Value.string ⟨s.toArray⟩).toArray 9)) := (Below.refl _ _).alloc (Nat.le_refl _) _; have HR1 := hid hr1; have HB1 := hid hb1; clear hr1 hb1; refine (jCC _ [nm] _ HR1.out (by simp)).mono ?_; rintro e w2 ⟨rv, vs, rfl, hb2, hown2, hrr2⟩; obtain ⟨p2, c2, rfl⟩ := jAZ hown2; have HB2 := bT HB1 hb2; have HO2 := hid hown2; have HR2 : Hid (Reps (jAG w0 w2) vs [.word nm]) := hid (jB5 (rep' := jAG w0 w2) (mk := .word) (fun v x hv => hv) hrr2); have hsz1 := HB1.out.size; clear hb2 hown2 hrr2; go_wp2_with fail; refine (jDG rep HSH.out _ xs g w2 (jBQ HX.out HB2.out) HN.out).mono ?_; rintro e w3 ⟨rv3, vs3, rfl, hb3, hown3, hrr3⟩; obtain ⟨p3, c3, rfl⟩ := jAZ hown3; have HB3 := bT HB2 hb3; have HV2 : Hid (VRow w.heap.size w3 (.slice p2 [nm].length c2) vs) := hid (VRow.below (jAO HO2.out hsz1 HR2.out) hb3); have HR2' := hid (jAD hb3 HR2.out); have HR3 : Hid (Reps (jAG w0 w3) vs3 (xs.map mk)) := hid (jB5 (rep' := jAG w0 w3) (fun v x hv => HMK.out w3 v x hv) hrr3); have HV3 : Hid (VRow w.heap.size w3 (.slice p3 xs.length c3) vs3) := hid (jAO hown3 HB2.out.size HR3.out); clear hb3 hown3 hrr3; go_wp2_with fail; have hb4 : Below w3.heap.size w3 (w3.alloc (.cells #[.slice p2 1 c2, .slice p3 xs.length c3] 120)) := (Below.refl _ _).alloc (Nat.le_refl _) _
   refine (jE3 H.out (HB3.out.trans (hb4.mono HB3.out.size)) _ _ _ [vs, vs3] [[.word nm], xs.map mk] (.word nm :: xs.map mk) (by simp)
    (jCJ (lo := w.heap.size) (ls := [vs, vs3]) (wk := w3) (ss := [.slice p2 1 c2, .slice p3 xs.length c3]) ⟨HV2.out, HV3.out, trivial⟩ HB3.out.size (by simp) rfl rfl) ⟨jAD hb4 HR2'.out, jAD hb4 HR3.out, trivial⟩ HS.out (by simp)).mono ?_
   rintro e w5 ⟨⟨rfl, hd⟩, _⟩; go_wp2_with fail
   go_end0
   exact ⟨rfl, hd⟩
theorem jJQ {α : Type} (rep : Value -> α -> Prop) (hsh : ∀ u x, rep u x -> jOR u) (mk : α -> Nd) (g : Nat) {w0 : World} (hmk : ∀ w v x, Clo 142 88 58 g rep w v x -> jAG w0 w v (mk x)) {B : Nat} {w : World} {T : List UInt8} {S : List Nd} (h : St w0 B w T S)
 (nm : List UInt8) (q : Option Addr) (n c : Nat) (xs : List α) (hx : jAI 5 rep w (.slice q n c) xs) (hs : Small T S (named nm (xs.map mk))) :
 Calls Tryz.prog 78 #[.pointer (some ⟨B, 0, none⟩), .string ⟨nm.toArray⟩, .slice q n c, .func (.func g) #[] #[]] w (Did w0 B T S (named nm (xs.map mk))) := by
 obtain ⟨q', c', he⟩ := hx.len; obtain ⟨rfl, rfl, rfl⟩ := (Value.slice.injEq ..).mp he; clear he; have H := hid h; have HX := hid hx; have HSH := hid hsh; have HMK := hid hmk; by_cases h0 : xs = []
 . subst h0; have hs0 : named nm (([] : List α).map mk) = (wd nm, []) := rfl; rw [hs0] at hs ⊢; have HS := hid hs; clear h hx hsh hmk hs hs0; go_enter Tryz.func78, Tryz.ntmps78; go_wp2_with fail; refine (jI9 H.out nm HS.out).mono ?_; rintro e w1 ⟨rfl, hd⟩; go_wp2_with fail
   go_end0
   exact ⟨rfl, hd⟩
 . have hs0 : named nm (xs.map mk) = ([40], jBV (.word nm :: xs.map mk)) := by unfold named; rw [if_neg (by simpa using h0)]
   rw [hs0] at hs ⊢; have HS := hid hs; have hpos : ¬ ((xs.length : Int) = 0) := by have := List.length_pos_iff.2 h0; omega
   have hposb : ((xs.length : Int) == 0) = false := by simpa using hpos
   have HN : Hid (xs.length <= 1000000) := hid (by have := hs.2; have h2 := jC (.word nm :: xs.map mk); simp only [List.length_append, List.length_cons, List.length_map] at this h2; omega); clear h hx hsh hmk hs hs0 h0; go_enter Tryz.func78, Tryz.ntmps78; go_wp2_with fail; have hr1 := jCQ w [nm] (by simp); have hb1 : Below w.heap.size w (w.alloc (.cells ([nm].map fun s => Value.string ⟨s.toArray⟩).toArray 9)) := (Below.refl _ _).alloc (Nat.le_refl _) _; have HR1 := hid hr1; have HB1 := hid hb1; clear hr1 hb1; refine (jCC _ [nm] _ HR1.out (by simp)).mono ?_; rintro e w2 ⟨rv, vs, rfl, hb2, hown2, hrr2⟩; obtain ⟨p2, c2, rfl⟩ := jAZ hown2; have HB2 := bT HB1 hb2; have HO2 := hid hown2; have HR2 : Hid (Reps (jAG w0 w2) vs [.word nm]) := hid (jB5 (rep' := jAG w0 w2) (mk := .word) (fun v x hv => hv) hrr2); have hsz1 := HB1.out.size; clear hb2 hown2 hrr2; go_wp2_with fail; refine (jNG rep HSH.out _ xs g w2 (jBQ HX.out HB2.out) HN.out).mono ?_; rintro e w3 ⟨rv3, vs3, rfl, hb3, hown3, hrr3⟩; obtain ⟨p3, c3, rfl⟩ := jAZ hown3; have HB3 := bT HB2 hb3; have HV2 : Hid (VRow w.heap.size w3 (.slice p2 [nm].length c2) vs) := hid (VRow.below (jAO HO2.out hsz1 HR2.out) hb3); have HR2' := hid (jAD hb3 HR2.out); have HR3 : Hid (Reps (jAG w0 w3) vs3 (xs.map mk)) := hid (jB5 (rep' := jAG w0 w3) (fun v x hv => HMK.out w3 v x hv) hrr3); have HV3 : Hid (VRow w.heap.size w3 (.slice p3 xs.length c3) vs3) := hid (jAO hown3 HB2.out.size HR3.out); clear hb3 hown3 hrr3; go_wp2_with fail; have hb4 : Below w3.heap.size w3 (w3.alloc (.cells #[.slice p2 1 c2, .slice p3 xs.length c3] 120)) := (Below.refl _ _).alloc (Nat.le_refl _) _
   refine (jE3 H.out (HB3.out.trans (hb4.mono HB3.out.size)) _ _ _ [vs, vs3] [[.word nm], xs.map mk] (.word nm :: xs.map mk) (by simp)
    (jCJ (lo := w.heap.size) (ls := [vs, vs3]) (wk := w3) (ss := [.slice p2 1 c2, .slice p3 xs.length c3]) ⟨HV2.out, HV3.out, trivial⟩ HB3.out.size (by simp) rfl rfl) ⟨jAD hb4 HR2'.out, jAD hb4 HR3.out, trivial⟩ HS.out (by simp)).mono ?_
   rintro e w5 ⟨⟨rfl, hd⟩, _⟩; go_wp2_with fail
   go_end0
   exact ⟨rfl, hd⟩
end Sw
namespace Sw
def IsCon (u : Value) : Prop := ∃ (i0 : Int) (t1 : ByteArray) (q2 : Option Addr) (n2 c2 : Nat), u = .agg #[.int .i64 i0, .string t1, .slice q2 n2 c2]
theorem jOO {α : Type} (rep : Value -> α -> Prop) (hsh : ∀ u x, rep u x -> IsCon u) (av : Value) (xs : List α) (g : Nat) (w : World) (h : jAI 3 rep w av xs) (hn : xs.length <= 1000000) :
 Calls Tryz.prog 58 #[av, .func (.func g) #[] #[]] w fun e w' => ∃ rv vs, e = .returned rv /\ Below w.heap.size w w' /\ w'.ownsRow w.heap.size 125 1 rv xs.length vs /\ Reps (Clo 101 130 40 g rep w') vs xs := by
 obtain ⟨q, c, rfl⟩ := h.len; have H := hid h; have HSH := hid hsh; have HN := hid hn; clear h hsh hn; go_enter Tryz.func58, Tryz.ntmps58; have mk := jCT xs.length (by have := HN.out; omega); go_wp2_with fail; clear mk; have EW := hid (jA2 (jA3 w #[.func (.func g) #[] #[]] 130) (.cells (madeCells #[(.nilFunc : Value)] xs.length) 125)); have EG := hid (jA3 (w.alloc (.cells #[.func (.func g) #[] #[]] 130)) (madeCells #[(.nilFunc : Value)] xs.length) 125); rw [World.size_alloc] at EG; have HB := hid ((((Below.refl w.heap.size w).alloc (Nat.le_refl _) (.cells #[.func (.func g) #[] #[]] 130)).alloc (by simp) (.cells (madeCells #[(.nilFunc : Value)] xs.length) 125))); have HS0 := hid (size_madeCells #[(.nilFunc : Value)] xs.length)
 go_loopw [13] (fun i wr => ∃ (k : Nat) (cs : Array Value), i = .int .i64 k /\ k <= xs.length /\ Hid (cs.size = xs.length) /\ Hid (wr.heap[w.heap.size]? = some (.cells #[.func (.func g) #[] #[]] 130 (0, 0))) /\ Hid (wr.heap[w.heap.size + 1]? = some (.cells cs 125 (0, 0))) /\
  Hid (∀ j, j < k -> ∃ pb u, cs[j]? = some (.func (.func 101) #[] #[.pointer (some ⟨w.heap.size, 0, none⟩), .pointer (some ⟨pb, 0, none⟩)]) /\ w.heap.size + 2 <= pb /\ wr.heap[pb]? = some (.cells u.cells 40 (0, 0)) /\ ∀ x, xs[j]? = some x -> rep u x) /\
  Hid (Below w.heap.size w wr)) (fun i _ => xs.length - (intOf i).toNat)
 case atStart => exact ⟨0, _, rfl, Nat.zero_le _, HS0, EW, EG, hid (fun j hj => absurd hj (Nat.not_lt_zero j)), HB⟩
 case round =>
  clear EW EG HB HS0; obtain ⟨k, cs, rfl, hk, HS, EW, EG, HC, HB⟩ := hrel; have hs1 := jA6 EG.out; by_cases hlt : k < xs.length
  . obtain ⟨x, hx⟩ : ∃ x, xs[k]? = some x := ⟨_, List.getElem?_eq_getElem hlt⟩
    rcases H.out with ⟨h0, _⟩ | ⟨b, of, c', hv, g1, g2, g3⟩
    . rw [h0] at hlt; simp at hlt
    injection hv with hq1 _ hq2
    subst hq1; subst hq2
    obtain ⟨u, hu, _, hcell⟩ := g3 k x hx; obtain ⟨i0, t1, q2, n2, c2, rfl⟩ := HSH.out u x hu; have HU := hid hu; have HX := hid hx; have up : ∀ j' z, (.agg #[.int .i64 i0, .string t1, .slice q2 n2 c2] : Value).cells[j']? = some z -> wr.cell? ⟨b, of + k * 3 + j', none⟩ = some z := fun j' z hz => (HB.out.cell (World.block_lt_of_cell? w _ (hcell j' z hz))).trans (hcell j' z hz)
    have x0 : wr.cell? ⟨b, of + k * 3, none⟩ = some (.int .i64 i0) := up 0 (.int .i64 i0) rfl; have x1 : wr.cell? ⟨b, of + k * 3 + 1, none⟩ = some (.string t1) := up 1 (.string t1) rfl; have x2 : wr.cell? ⟨b, of + k * 3 + 2, none⟩ = some (.slice q2 n2 c2) := up 2 (.slice q2 n2 c2) rfl; have hk1 : (k : Int) < (xs.length : Int) := by omega
    have hk2 : (xs.length : Int) <= (c : Int) := by omega
    have hk3 := g2; clear g1 g2 g3 hcell hu up hx; go_upto_region 5 with fail
    have HE := hid (jA3 wr #[.int .i64 i0, .string t1, .slice q2 n2 c2] 40); have hsz : (wr.alloc (.cells #[.int .i64 i0, .string t1, .slice q2 n2 c2] 40)).heap.size = wr.heap.size + 1 := by simp
    have HBA := hid (show Below wr.heap.size wr (wr.alloc (.cells #[.int .i64 i0, .string t1, .slice q2 n2 c2] 40)) from (Below.refl _ _).alloc (Nat.le_refl _) _); clear x0 x1 x2; generalize wr.alloc (.cells #[.int .i64 i0, .string t1, .slice q2 n2 c2] 40) = w3 at HE HBA hsz ⊢; have EG3 := hid (jA0 EG.out HBA.out); have EW3 := hid (jA0 EW.out HBA.out); have hkc : k < cs.size := by have := HS.out; omega
    obtain ⟨z, hz⟩ : ∃ z, cs[k]? = some z := ⟨_, Array.getElem?_eq_getElem hkc⟩
    have y0 := jA EG3.out k z hz; have yf := jA1 EG3.out k; have HZ := hid hkc; clear hkc hz; go_wp2_with fail
    go_roundw
    case rel =>
     refine ⟨k + 1, _, by go_num, by omega, hid ((Array.size_setIfInBounds).trans HS.out), hid (jA4 EW3.out _ _ _ (by omega)), hid (jAE EG3.out k _), hid (fun j hj => ?_), hid ((HB.out.trans (HBA.out.mono HB.out.size)).setCell (p := ⟨w.heap.size + 1, k, none⟩) (by simp) _)⟩; by_cases hjk : j = k
     . subst hjk; exact ⟨wr.heap.size, .agg #[.int .i64 i0, .string t1, .slice q2 n2 c2], jCN _ _ _ HZ.out, by omega, jA4 HE.out _ _ _ (by omega), fun y hy => by rw [HX.out] at hy; cases hy; exact HU.out⟩
     . obtain ⟨pb, u, a1, a2, a3, a4⟩ := HC.out j (by omega); exact ⟨pb, u, (jBK _ _ _ _ (fun e => hjk e.symm)).trans a1, a2, jA4 (jA0 a3 HBA.out) _ _ _ (by omega), a4⟩
    case measure => simp [intOf]; omega
  . obtain rfl : k = xs.length := by omega
    go_wp2_with fail; go_ret; have hcl : cs.toList.length = xs.length := HS.out; refine ⟨_, cs.toList, rfl, HB.out, ⟨by rw [hcl]; simp, .inr ⟨w.heap.size + 1, xs.length, cs, rfl, by omega, EG.out, Nat.le_refl _, by have := HN.out; unfold maxLen; omega, by rw [HS.out]; simp, by rw [List.take_of_length_le (by rw [hcl]; omega)]⟩⟩, jDL hcl fun j v x hv hx => ?_⟩; have hj : j < xs.length := (List.getElem?_eq_some_iff.1 hx).1; obtain ⟨pb, u, a1, a2, a3, a4⟩ := HC.out j hj; rw [Array.getElem?_toList, a1] at hv; cases hv; exact ⟨_, pb, u, rfl, EW.out, a3, a4 x hx⟩
end Sw
end Go.Proofs.YtnhndamfbeiljaaGreatDoor
