/-
  Several texts in one: SLeaf2, SWalk, SFree, SAsk, SCk.
-/
import Derived.Test.YtgoacbomphlhjaaP00
import Derived.Test.YtgoacbomphlhjaaP19
import Derived.Deep.QuietTactic
import Derived.BigQuiet
import Derived.Test.YtgoacbomphlhjaaP13
set_option linter.unusedVariables false
set_option linter.unusedSimpArgs false
namespace Go.Proofs.Ytgoacbomphlhjaa
open Go.Lib (hid)
open List renaming getElem_toArray → jX, getElem_cons_succ → jY, getElem_cons_zero → jZ, setIfInBounds_toArray → JA, set_cons_zero → JB, set_cons_succ → JC
open Go Go.RowKit
set_option maxHeartbeats 4000000 in
theorem patNames_step (f : Nat) (ih : BoundC 74 f) : BoundC 74 (f + 1) := by
 intro p v w hp hw
 cases p with | mk k p nm i xs =>
 obtain ⟨av, rfl, hr⟩ := hp
 obtain ⟨q, cp, rfl⟩ := hr.len
 have HR := hid hr
 have HW : Hid ((xs.map (Sx.pw f)).sum ≤ 400000) := hid (by rw [Sx.pw] at hw; omega)
 clear hr hw
 go_enter Try.func74, Try.ntmps74
 have EP := hid (jI w #[.int .i64 k, .int .i64 p, .string ⟨nm.toArray⟩, .int .i64 i, .slice q xs.length cp] 94)
 have HB := hid ((Below.refl w.heap.size w).alloc (Nat.le_refl _) (.cells #[.int .i64 k, .int .i64 p, .string ⟨nm.toArray⟩, .int .i64 i, .slice q xs.length cp] 94))
 have hsz : w.heap.size + 1 ≤ (w.alloc (.cells #[.int .i64 k, .int .i64 p, .string ⟨nm.toArray⟩, .int .i64 i, .slice q xs.length cp] 94)).heap.size := by simp
 go_upto_region 1 with fail
 generalize w.alloc (.cells #[.int .i64 k, .int .i64 p, .string ⟨nm.toArray⟩, .int .i64 i, .slice q xs.length cp] 94) = w1 at EP HB hsz ⊢
 have e0 := jA EP.out 0 _ rfl; have e1 := jA EP.out 1 _ rfl; have e2 := jA EP.out 2 _ rfl; have e3 := jA EP.out 3 _ rfl; have e4 := jA EP.out 4 _ rfl
 by_cases hk : k = 1
 · have hki : (k : Int) = 1 := by omega
   have HN := hid (jI w1 #[.string ⟨nm.toArray⟩] 9)
   go_wp2_with fail
   go_ret
   refine ⟨_, rfl, HB.out.alloc (by omega) _, fun u hu => ?_⟩
   rw [Sx.boundP, if_pos hk]
   exact row_cell ((hu w1.heap.size (by omega) (by simp)).trans HN.out) rfl rfl
 · have hki : ((k : Int) == 1) = false := beq_eq_false_iff_ne.2 (by omega)
   clear e0 e1 e2 e3 e4
   have hbp : Sx.boundP (f + 1) (.mk k p nm i xs) = xs.flatMap (Sx.boundP f) := by rw [Sx.boundP, if_neg hk]
   have HBP := hid hbp
   clear hk
   have e0 := jA EP.out 0 _ rfl; have e4 := jA EP.out 4 _ rfl
   go_wp2_with fail
   clear e0 e4 hbp hki
   go_loopw [3, 5, 15] (fun v _ j wr => ∃ (m : Nat) (l : List Nm), j = .int .i64 m ∧ m ≤ xs.length ∧ Hid (l = (xs.take m).flatMap (Sx.boundP f)) ∧ Hid (OwnS wr (w.heap.size + 1) v l) ∧ Hid (wr.heap[w.heap.size]? = some (.cells #[.int .i64 k, .int .i64 p, .string ⟨nm.toArray⟩, .int .i64 i, .slice q xs.length cp] 94 (0, 0))) ∧ Hid (Below w.heap.size w wr)) (fun _ _ j _ => xs.length - (intOf j).toNat)
   case atStart => exact ⟨0, [], rfl, Nat.zero_le _, hid (by simp), hid (World.ownsRow_nil _ _ _ _), EP, HB⟩
   case round =>
    clear EP HB hsz
    obtain ⟨m, l, rfl, hm, HLE0, HO, EP, HB⟩ := hrel
    have hs1 := jK EP.out
    by_cases hlt : m < xs.length
    · obtain ⟨y, hy⟩ : ∃ y, xs[m]? = some y := ⟨_, List.getElem?_eq_getElem hlt⟩
      rcases HR.out with ⟨h0, _⟩ | ⟨g, of, c', hv, g1, g2, g3⟩
      · rw [h0] at hlt; simp at hlt
      injection hv with hq1 _ hq2
      subst hq1; subst hq2
      obtain ⟨u, hu, _, hcell⟩ := g3 m y hy
      have hu2 := patAt_below hu HB.out
      obtain ⟨a0, a1, a2, a3, uq, un, uc, rfl⟩ := patAt_sh hu
      have c0 := jE HB.out (hcell 0 _ rfl); have c1 := jE HB.out (hcell 1 _ rfl); have c2 := jE HB.out (hcell 2 _ rfl); have c3 := jE HB.out (hcell 3 _ rfl); have c4 := jE HB.out (hcell 4 _ rfl)
      simp only [Nat.add_zero] at c0
      have hk1 : (m : Int) < (xs.length : Int) := by omega
      have hk2 : (xs.length : Int) ≤ (cp : Int) := by omega
      have hk3 := g2
      have hst := Sx.sum_take (Sx.pw f) xs m y hy
      have HST := hid hst
      have HT := hid (Sx.flat_take (Sx.boundP f) xs m y hy)
      obtain ⟨wa, hwa⟩ : ∃ wa, wa = wr.alloc (.cells #[.int .i64 a0, .int .i64 a1, .string a2, .int .i64 a3, .slice uq un uc] 94) := ⟨_, rfl⟩
      have hba : Below wr.heap.size wr wa := by rw [hwa]; exact (Below.refl _ _).alloc (Nat.le_refl _) _
      have HBA := hid hba
      have HIH := hid (ih y _ wa (patAt_below hu2 hba) (by have := HW.out; omega))
      obtain ⟨va, ca, rfl⟩ := jF HO.out
      clear g1 g2 g3 hcell hu hy hu2 hst
      go_wp2_with fail
      clear c0 c1 c2 c3 c4
      rw [← hwa]
      clear hwa
      replace EP := hid (jC EP.out hba)
      replace HO := hid (jJ HO.out hba)
      replace HB := hid (HB.out.trans (hba.mono (by omega)))
      have hsa := hba.size
      clear hba
      refine HIH.out.mono ?_
      rintro e w2 ⟨v2, rfl, hb, hnew⟩
      have HO2 := hid (jJ HO.out hb)
      have HN2 := hid hnew.now
      have HB2 := hid (HB.out.trans (hb.mono HB.out.size))
      have hs2 := hb.size
      replace EP := hid (jC EP.out hb)
      have hlen : l.length + (Sx.boundP f y).length ≤ 1000000000 := by
       rw [HLE0.out]
       have h1 := nw_len ((xs.take m).flatMap (Sx.boundP f))
       have h2 := Sx.nw_flat (Sx.boundP f) (Sx.pw f) (xs.take m) (fun x _ => Sx.nw_bound f x)
       have h3 := nw_len (Sx.boundP f y)
       have h4 := Sx.nw_bound f y
       have := HST.out; have := HW.out; omega
      have HLE := hid hlen
      clear hb hnew HIH hlen HB HO
      go_wp2_with (at_builtin; refine list_app_s rfl (.tmp 19) (.tmp 21) rfl (w.heap.size + 1) _ _ rfl HO2.out _ rfl _ HN2.out HLE.out (by omega) ?_)
      intro v3 w3 happ
      obtain ⟨p3, q3, rfl⟩ := jF happ.1
      obtain ⟨hb3, ho3⟩ := appd_grow happ HO2.out HB2.out (by omega) (by omega)
      have HB3 := hid hb3
      have HO3 := hid ho3
      have HT3 : Hid (l ++ Sx.boundP f y = (xs.take (m + 1)).flatMap (Sx.boundP f)) := hid (by rw [HT.out, HLE0.out])
      obtain ⟨l3, hl3⟩ : ∃ l3, l3 = l ++ Sx.boundP f y := ⟨_, rfl⟩
      rw [← hl3] at HO3 HT3 ⊢
      clear hl3
      replace EP := hid (happ.at HO2.out EP.out (by omega))
      clear happ hb3 ho3
      go_wp2
      go_roundw
      case rel => exact ⟨m + 1, l3, by go_num, by omega, HT3, HO3, EP, HB3⟩
      case measure => simp [intOf]; omega
    · obtain rfl : m = xs.length := by omega
      obtain ⟨va, ca, rfl⟩ := jF HO.out
      go_wp2_with fail
      go_ret
      have he := HLE0.out
      rw [List.take_length] at he
      rw [HBP.out, ← he]
      exact ⟨_, rfl, HB.out, newS_own HO.out rfl (by omega)⟩
theorem patNames_any : ∀ f, BoundC 74 f
 | 0 => fun p v w hp => hp.elim
 | f + 1 => patNames_step f (patNames_any f)
end Go.Proofs.Ytgoacbomphlhjaa

namespace Go.Proofs.Ytgoacbomphlhjaa
open Go.Lib (hid)
open List renaming getElem_toArray → jX, getElem_cons_succ → jY, getElem_cons_zero → jZ, setIfInBounds_toArray → JA, set_cons_zero → JB, set_cons_succ → JC
open Go Go.RowKit
def cnt (l : List Nm) (s : Nm) : Int := (l.count s : Int)
section
variable {σ : Type} (Inv : Nat → σ → World → Prop) (Own : σ → World → Nat → Prop) (mb : Nat) (W0 : World) (fe fp : FuncId) (e1 e2 p1 p2 : Array Value) (stepE : Nat → σ → List Nm → Px.Expr → σ) (stepP : Nat → σ → List Nm → Px.Pat → σ)
def walkS : Nat → σ → List Nm → Px.Expr → σ
 | 0, s, _, _ => s
 | f + 1, s, vars, .mk k p nm i ns xs al => al.foldl (fun s a => walkS f (stepP f s vars a.1) (vars ++ Sx.boundP f a.1) a.2) (xs.foldl (fun s y => walkS f s (vars ++ ns) y) (stepE (f + 1) s vars (.mk k p nm i ns xs al)))
/-- What stands while a walk goes on; O: what could be written when it began. -/
structure Wst (s : σ) (vars : List Nm) (n : Nat) (O : Nat → Prop) (w wr : World) : Prop where
 bel : Below W0.heap.size W0 wr
 size : w.heap.size ≤ wr.heap.size
 stay : ∀ b, b < w.heap.size → b ≠ mb → ¬ O b → wr.heap[b]? = w.heap[b]?
 own : ∀ b, Own s wr b → O b ∨ w.heap.size ≤ b
 nam : NamesC wr mb n (cnt vars)
 inv : Inv n s wr
def walkV : Value := .agg #[.map (some mb), .func (.func fe) e1 e2, .func (.func fp) p1 p2]
/-- What is asked of those that are told of parts, and of what they keep. -/
structure Told : Prop where
 keep : ∀ n n' s w w', n ≤ n' → Inv n s w → w.heap.size ≤ w'.heap.size → (∀ b, b < w.heap.size → b ≠ mb → w'.heap[b]? = w.heap[b]?) → Inv n' s w' ∧ ∀ b, Own s w' b → Own s w b
 lt : ∀ n s w b, Inv n s w → Own s w b → b < w.heap.size
 old : W0.heap.size ≤ mb
 callE : ∀ args w, (callFunc fe args).run Try.prog w = .ok (.enter fe args) w
 callP : ∀ args w, (callFunc fp args).run Try.prog w = .ok (.enter fp args) w
 expr : ∀ f x v s vars n w, ExprAt f W0 v x → vars.length + Sx.ew f x ≤ 400000 → n ≤ 100000000 → Wst Inv Own mb W0 s vars n (Own s w) w w → Calls Try.prog fe (e1.push v ++ e2) w fun e w' => e = .returned (.tuple #[]) ∧ Wst Inv Own mb W0 (stepE f s vars x) vars (n + 1) (Own s w) w w'
 pat : ∀ f x v s vars n w, PatAt f W0 v x → vars.length + Sx.pw f x ≤ 400000 → n ≤ 100000000 → Wst Inv Own mb W0 s vars n (Own s w) w w → Calls Try.prog fp (p1.push v ++ p2) w fun e w' => e = .returned (.tuple #[]) ∧ Wst Inv Own mb W0 (stepP f s vars x) vars n (Own s w) w w'
variable {Inv Own mb W0 fe fp e1 e2 p1 p2 stepE stepP}
theorem Wst.self {s : σ} {vars : List Nm} {n : Nat} {O : Nat → Prop} {w wr : World} (h : Wst Inv Own mb W0 s vars n O w wr) : Wst Inv Own mb W0 s vars n (Own s wr) wr wr := ⟨h.bel, Nat.le_refl _, fun _ _ _ _ => rfl, fun _ hb => .inl hb, h.nam, h.inv⟩
theorem Wst.then {s s' : σ} {vars vars' : List Nm} {n n' : Nat} {O : Nat → Prop} {a b c : World} (h : Wst Inv Own mb W0 s vars n O a b) (k : Wst Inv Own mb W0 s' vars' n' (Own s b) b c) : Wst Inv Own mb W0 s' vars' n' O a c :=
 ⟨k.bel, Nat.le_trans h.size k.size, fun g h1 h2 h3 => (k.stay g (Nat.lt_of_lt_of_le h1 h.size) h2 (fun e => (h.own g e).elim h3 (fun e => by omega))).trans (h.stay g h1 h2 h3),
  fun g hg => (k.own g hg).elim (fun e => h.own g e) (fun e => .inr (Nat.le_trans h.size e)), k.nam, k.inv⟩
theorem Wst.only (ht : Told Inv Own mb W0 fe fp e1 e2 p1 p2 stepE stepP) {s : σ} {vars vars' : List Nm} {n n' : Nat} {O : Nat → Prop} {w a b : World} (h : Wst Inv Own mb W0 s vars n O w a) (h1 : Below W0.heap.size W0 b) (h2 : a.heap.size ≤ b.heap.size) (h3 : ∀ g, g < a.heap.size → g ≠ mb → b.heap[g]? = a.heap[g]?)
 (hn : NamesC b mb n' (cnt vars')) (hnn : n ≤ n') : Wst Inv Own mb W0 s vars' n' O w b :=
 ⟨h1, Nat.le_trans h.size h2, fun g k1 k2 k3 => (h3 g (Nat.lt_of_lt_of_le k1 h.size) k2).trans (h.stay g k1 k2 k3), fun g hg => h.own g ((ht.keep n n' s a b hnn h.inv h2 h3).2 g hg), hn, (ht.keep n n' s a b hnn h.inv h2 h3).1⟩
theorem Wst.below (ht : Told Inv Own mb W0 fe fp e1 e2 p1 p2 stepE stepP) {s : σ} {vars : List Nm} {n : Nat} {O : Nat → Prop} {w a b : World} (h : Wst Inv Own mb W0 s vars n O w a) (hb : Below a.heap.size a b) : Wst Inv Own mb W0 s vars n O w b :=
 h.only ht (h.bel.trans (hb.mono h.bel.size)) hb.size (fun g hg _ => hb.block g hg) (h.nam.below hb) (Nat.le_refl _)
theorem Wst.map (ht : Told Inv Own mb W0 fe fp e1 e2 p1 p2 stepE stepP) {s : σ} {vars vars' : List Nm} {n n' : Nat} {O : Nat → Prop} {w a b : World} (h : Wst Inv Own mb W0 s vars n O w a) (hg : a.grownBy b (some mb)) (hn : NamesC b mb n' (cnt vars')) (hnn : n ≤ n') : Wst Inv Own mb W0 s vars' n' O w b :=
 h.only ht (h.bel.trans ⟨hg.os, hg.tape, hg.output, hg.size, fun g hb => hg.block g (by have := h.bel.size; omega) (fun e => by have := Option.some.inj e; have := ht.old; omega)⟩) hg.size (fun g h1 h2 => hg.block g h1 (fun e => h2 (Option.some.inj e))) hn hnn
/-- What was made since. -/
theorem Wst.new (ht : Told Inv Own mb W0 fe fp e1 e2 p1 p2 stepE stepP) {s : σ} {vars : List Nm} {n : Nat} {O : Nat → Prop} {w a b : World} (h : Wst Inv Own mb W0 s vars n O w a) (hb : Below a.heap.size a b) (g : Nat) (hg : a.heap.size ≤ g) : g ≠ mb ∧ ¬ Own s b g :=
 ⟨fun e => by have := h.nam.lt; omega, fun e => by have := ht.lt n s a g h.inv ((ht.keep n n s a b (Nat.le_refl _) h.inv hb.size (fun g hg _ => hb.block g hg)).2 g e); omega⟩
theorem Wst.at {s : σ} {vars : List Nm} {n : Nat} {O : Nat → Prop} {w wr : World} (h : Wst Inv Own mb W0 s vars n O w wr) {g : Nat} {o : Obj} (e : w.heap[g]? = some o) (hg : g ≠ mb ∧ ¬ O g) : wr.heap[g]? = some o := (h.stay g (jK e) hg.1 hg.2).trans e
theorem Wst.mono (ht : Told Inv Own mb W0 fe fp e1 e2 p1 p2 stepE stepP) {s : σ} {vars : List Nm} {n n' : Nat} {O : Nat → Prop} {w wr : World} (h : Wst Inv Own mb W0 s vars n O w wr) (hn : n ≤ n') : Wst Inv Own mb W0 s vars n' O w wr := { h with nam := h.nam.mono hn, inv := (ht.keep n n' s wr wr hn h.inv (Nat.le_refl _) (fun _ _ _ => rfl)).1 }
/-- A block of the walk's own. -/
def Loc (Own : σ → World → Nat → Prop) (mb : Nat) (s : σ) (a : World) (g : Nat) : Prop := g < a.heap.size ∧ g ≠ mb ∧ ¬ Own s a g
theorem Loc.step {s s' : σ} {vars : List Nm} {n : Nat} {a b : World} {g : Nat} (h : Loc Own mb s a g) (k : Wst Inv Own mb W0 s' vars n (Own s a) a b) : Loc Own mb s' b g :=
 ⟨Nat.lt_of_lt_of_le h.1 k.size, h.2.1, fun e => (k.own g e).elim h.2.2 (fun e => by have := h.1; omega)⟩
/-- A row that was made in blocks of the walk's own. -/
def KRow (Own : σ → World → Nat → Prop) (mb : Nat) (lo hi : Nat) (v : Value) (l : List Nm) (s : σ) (a : World) : Prop :=
 (∀ u : World, (∀ g, lo ≤ g → g < hi → u.heap[g]? = a.heap[g]?) → RowS u v l) ∧ ∀ g, lo ≤ g → g < hi → Loc Own mb s a g
theorem KRow.step {s s' : σ} {vars : List Nm} {n : Nat} {a b : World} {lo hi : Nat} {v : Value} {l : List Nm} (h : KRow Own mb lo hi v l s a) (k : Wst Inv Own mb W0 s' vars n (Own s a) a b) : KRow Own mb lo hi v l s' b :=
 ⟨fun u hu => h.1 u fun g h1 h2 => (hu g h1 h2).trans (k.stay g (h.2 g h1 h2).1 (h.2 g h1 h2).2.1 (h.2 g h1 h2).2.2), fun g h1 h2 => (h.2 g h1 h2).step k⟩
theorem KRow.row {s : σ} {a : World} {lo hi : Nat} {v : Value} {l : List Nm} (h : KRow Own mb lo hi v l s a) : RowS a v l := h.1 a fun _ _ _ => rfl
theorem sum_two {α : Type} (g : α → Nat) : ∀ l : List α, (l.map fun y => 2 * g y).sum = 2 * (l.map g).sum
 | [] => rfl
 | a :: r => by rw [List.map_cons, List.sum_cons, List.map_cons, List.sum_cons, sum_two g r, Nat.mul_add]
theorem cnt_small {l : List Nm} (h : l.length ≤ 500000) : ∀ s, -500000000 ≤ cnt l s ∧ cnt l s ≤ 500000000 := fun s => by
 have := List.count_le_length (a := s) (l := l)
 unfold cnt; omega
theorem cnt_add (a b : List Nm) (s : Nm) : bumps (cnt a) 1 b s = cnt (a ++ b) s := by rw [bumps_count]; unfold cnt; rw [List.count_append]; push_cast; omega
theorem cnt_drop (a b : List Nm) (s : Nm) : bumps (cnt (a ++ b)) (-1) b s = cnt a s := by rw [bumps_count]; unfold cnt; rw [List.count_append]; push_cast; omega
theorem Wst.added (ht : Told Inv Own mb W0 fe fp e1 e2 p1 p2 stepE stepP) {s : σ} {vars l : List Nm} {n : Nat} {O : Nat → Prop} {w a : World} {lv : Value} (h : Wst Inv Own mb W0 s vars n O w a) (hr : RowS a lv l) (hl : vars.length + nw l ≤ 400000) (hn : n ≤ 500000000) :
 Calls Try.prog 61 #[.map (some mb), lv] a fun e b => e = .returned (.bool (addsB (cnt vars) l)) ∧ Wst Inv Own mb W0 s (vars ++ l) (n + l.length) (Own s a) a b :=
 (addAll_any a mb n (cnt vars) lv l h.nam hr (by omega) (cnt_small (by omega)) hn).mono fun e b he => ⟨he.1, h.self.map ht he.2.1 (he.2.2.cong (cnt_add vars l)) (by omega)⟩
theorem Wst.dropped (ht : Told Inv Own mb W0 fe fp e1 e2 p1 p2 stepE stepP) {s : σ} {vars l : List Nm} {n : Nat} {O : Nat → Prop} {w a : World} {lv : Value} (h : Wst Inv Own mb W0 s (vars ++ l) n O w a) (hr : RowS a lv l) (hl : vars.length + nw l ≤ 400000) (hn : n ≤ 500000000) :
 Calls Try.prog 62 #[.map (some mb), lv] a fun e b => e = .returned (.tuple #[]) ∧ Wst Inv Own mb W0 s vars (n + l.length) (Own s a) a b :=
 (dropAll_any a mb n (cnt (vars ++ l)) lv l h.nam hr (by omega) (cnt_small (by rw [List.length_append]; have := nw_len l; omega)) hn).mono fun e b he => ⟨he.1, h.self.map ht he.2.1 (he.2.2.cong (cnt_drop vars l)) (by omega)⟩
/-- walk's contract. -/
def WalkC (Inv : Nat → σ → World → Prop) (Own : σ → World → Nat → Prop) (mb : Nat) (W0 : World) (fe fp : FuncId) (e1 e2 p1 p2 : Array Value) (stepE : Nat → σ → List Nm → Px.Expr → σ) (stepP : Nat → σ → List Nm → Px.Pat → σ) (f : Nat) : Prop :=
 ∀ x v s vars n w, ExprAt f W0 v x → vars.length + Sx.ew f x ≤ 400000 → n + 2 * Sx.ew f x ≤ 100000000 → Wst Inv Own mb W0 s vars n (Own s w) w w →
  Calls Try.prog 35 #[walkV mb fe fp e1 e2 p1 p2, v] w fun e w' => e = .returned (.tuple #[]) ∧ Wst Inv Own mb W0 (walkS stepE stepP f s vars x) vars (n + 2 * Sx.ew f x) (Own s w) w w'
set_option maxHeartbeats 4000000 in
theorem alt_step (ht : Told Inv Own mb W0 fe fp e1 e2 p1 p2 stepE stepP) (f : Nat) (ih : WalkC Inv Own mb W0 fe fp e1 e2 p1 p2 stepE stepP f) (pt : Px.Pat) (ey : Px.Expr) (a0 a1 a2 a3 a4 b0 b1 b2 b3 b4 b5 b6 : Value) (s : σ) (vars : List Nm) (n : Nat) (w : World)
 (hp : PatAt f W0 (.agg #[a0, a1, a2, a3, a4]) pt) (he : ExprAt f W0 (.agg #[b0, b1, b2, b3, b4, b5, b6]) ey) (hw : vars.length + Sx.pw f pt + Sx.ew f ey ≤ 400000) (hn : n + 2 * (Sx.pw f pt + Sx.ew f ey) ≤ 100000000) (h : Wst Inv Own mb W0 s vars n (Own s w) w w) :
 Calls Try.prog 63 #[walkV mb fe fp e1 e2 p1 p2, .agg #[a0, a1, a2, a3, a4, b0, b1, b2, b3, b4, b5, b6]] w fun e w' => e = .returned (.tuple #[]) ∧ Wst Inv Own mb W0 (walkS stepE stepP f (stepP f s vars pt) (vars ++ Sx.boundP f pt) ey) vars (n + 2 * (Sx.pw f pt + Sx.ew f ey)) (Own s w) w w' := by
 have HP := hid hp; have HE := hid he; have HI := hid ih; have HT := hid ht
 have hcp := ht.callP
 have hbn := Sx.nw_bound f pt
 have hbl : (Sx.boundP f pt).length ≤ nw (Sx.boundP f pt) := nw_len _
 have H0 := hid h
 clear hp he ih ht h
 unfold walkV at *
 go_enter Try.func63, Try.ntmps63
 obtain ⟨ew, ea, hb, hsz⟩ := ent2 w #[.map (some mb), .func (.func fe) e1 e2, .func (.func fp) p1 p2] #[a0, a1, a2, a3, a4, b0, b1, b2, b3, b4, b5, b6] 101 96
 go_upto_region 1 with fail
 have H1 := hid (H0.out.below HT.out hb)
 have HNW := hid (fun g (hg : w.heap.size ≤ g) => H0.out.new HT.out hb g hg)
 have HBA := hid hb
 generalize (w.alloc (.cells #[.map (some mb), .func (.func fe) e1 e2, .func (.func fp) p1 p2] 101)).alloc (.cells #[a0, a1, a2, a3, a4, b0, b1, b2, b3, b4, b5, b6] 96) = w1 at *
 have EW := hid ew; have EA := hid ea
 clear ew ea hb
 have w0 := jA EW.out 0 _ rfl; have w1' := jA EW.out 1 _ rfl; have w2' := jA EW.out 2 _ rfl
 have x0 := jA EA.out 0 _ rfl; have x1 := jA EA.out 1 _ rfl; have x2 := jA EA.out 2 _ rfl; have x3 := jA EA.out 3 _ rfl; have x4 := jA EA.out 4 _ rfl
 have LA : Hid (Loc Own mb s w1 (w.heap.size + 1)) := hid ⟨jK EA.out, HNW.out _ (by omega)⟩
 have LW : Hid (Loc Own mb s w1 w.heap.size) := hid ⟨jK EW.out, HNW.out _ (Nat.le_refl _)⟩
 have H := H1
 clear HNW H1
 go_wp2_with fail
 clear w0 w1' w2'
 clear x0 x1 x2 x3 x4
 refine (HT.out.pat f pt _ s vars n w1 HP.out (by omega) (by omega) H.out.self).mono ?_
 rintro e w2 ⟨rfl, k⟩
 replace EA := hid (k.at EA.out LA.out.2); replace EW := hid (k.at EW.out LW.out.2)
 replace LA := hid (LA.out.step k); replace LW := hid (LW.out.step k); replace H := hid (H.out.then k)
 clear k
 have x0 := jA EA.out 0 _ rfl; have x1 := jA EA.out 1 _ rfl; have x2 := jA EA.out 2 _ rfl; have x3 := jA EA.out 3 _ rfl; have x4 := jA EA.out 4 _ rfl
 go_wp2_with fail
 clear x0 x1 x2 x3 x4
 refine (patNames_any f pt _ w2 (patAt_below HP.out H.out.bel) (by omega)).mono ?_
 rintro e w3 ⟨v3, rfl, hb3, hnew3⟩
 have k := H.out.self.below HT.out hb3
 have KR : Hid (KRow Own mb w2.heap.size w3.heap.size v3 (Sx.boundP f pt) (stepP f s vars pt) w3) := hid ⟨hnew3, fun g h1 h2 => ⟨h2, H.out.new HT.out hb3 g h1⟩⟩
 clear hb3 hnew3
 replace EA := hid (k.at EA.out LA.out.2); replace EW := hid (k.at EW.out LW.out.2)
 replace LA := hid (LA.out.step k); replace LW := hid (LW.out.step k); replace H := hid (H.out.then k)
 clear k
 have w0 := jA EW.out 0 _ rfl; have w1' := jA EW.out 1 _ rfl; have w2' := jA EW.out 2 _ rfl
 go_wp2_with fail
 clear w0 w1' w2'
 refine (H.out.added HT.out KR.out.row (by omega) (by omega)).mono ?_
 rintro e w4 ⟨rfl, k⟩
 replace EA := hid (k.at EA.out LA.out.2); replace EW := hid (k.at EW.out LW.out.2)
 replace LA := hid (LA.out.step k); replace LW := hid (LW.out.step k); replace H := hid (H.out.then k)
 replace KR := hid (KR.out.step k)
 clear k
 have w0 := jA EW.out 0 _ rfl; have w1' := jA EW.out 1 _ rfl; have w2' := jA EW.out 2 _ rfl
 have x5 := jA EA.out 5 _ rfl; have x6 := jA EA.out 6 _ rfl; have x7 := jA EA.out 7 _ rfl; have x8 := jA EA.out 8 _ rfl; have x9 := jA EA.out 9 _ rfl; have x10 := jA EA.out 10 _ rfl; have x11 := jA EA.out 11 _ rfl
 go_wp2_with fail
 clear w0 w1' w2'
 clear x5 x6 x7 x8 x9 x10 x11
 refine (HI.out ey _ _ (vars ++ Sx.boundP f pt) (n + (Sx.boundP f pt).length) w4 HE.out (by rw [List.length_append]; omega) (by omega) H.out.self).mono ?_
 rintro e w5 ⟨rfl, k⟩
 replace EA := hid (k.at EA.out LA.out.2); replace EW := hid (k.at EW.out LW.out.2)
 replace LA := hid (LA.out.step k); replace LW := hid (LW.out.step k); replace H := hid (H.out.then k)
 replace KR := hid (KR.out.step k)
 clear k
 have w0 := jA EW.out 0 _ rfl; have w1' := jA EW.out 1 _ rfl; have w2' := jA EW.out 2 _ rfl
 go_wp2_with fail
 clear w0 w1' w2'
 refine (H.out.dropped HT.out KR.out.row (by omega) (by omega)).mono ?_
 rintro e w6 ⟨rfl, k⟩
 replace H := hid (H.out.then k)
 clear k
 go_wp2_with fail
 refine bodyPost_end (v := .tuple #[]) (by simp [results, Try.results63, go_sem]) rfl ?_
 exact ⟨rfl, H.out.mono HT.out (by omega)⟩
set_option maxHeartbeats 8000000 in
set_option maxRecDepth 100000 in
theorem walk_step (ht : Told Inv Own mb W0 fe fp e1 e2 p1 p2 stepE stepP) (f : Nat) (ih : WalkC Inv Own mb W0 fe fp e1 e2 p1 p2 stepE stepP f) : WalkC Inv Own mb W0 fe fp e1 e2 p1 p2 stepE stepP (f + 1) := by
 intro x v s vars n w hx hw hn h
 have HXX := hid hx
 have hcp := ht.callE
 have HT := hid ht; have HI := hid ih
 have HAL := hid (alt_step ht f ih)
 have H0 := hid h
 cases x with | mk kd p nm i ns xs al =>
 obtain ⟨nv, xv, av, rfl, h1, h2, h3⟩ := hx
 obtain ⟨q1, c1, rfl⟩ := h1.len
 obtain ⟨q2, c2, rfl⟩ := h2.len
 obtain ⟨q3, c3, rfl⟩ := h3.len
 have HR1 := hid h1; have HR2 := hid h2; have HR3 := hid h3
 have hew : Sx.ew (f + 1) (.mk kd p nm i ns xs al) = 1 + nm.length + nw ns + (xs.map (Sx.ew f)).sum + (al.map fun a => Sx.pw f a.1 + Sx.ew f a.2).sum := by rw [Sx.ew]
 have hx2 : (xs.map fun y => 2 * Sx.ew f y).sum = 2 * (xs.map (Sx.ew f)).sum := sum_two (Sx.ew f) xs
 have ha2 : (al.map fun a : Px.Pat × Px.Expr => 2 * (Sx.pw f a.1 + Sx.ew f a.2)).sum = 2 * (al.map fun a => Sx.pw f a.1 + Sx.ew f a.2).sum := sum_two (fun a : Px.Pat × Px.Expr => Sx.pw f a.1 + Sx.ew f a.2) al
 have hnl := nw_len ns
 have HBW : Hid (vars.length + nw ns + (xs.map (Sx.ew f)).sum + (al.map fun a => Sx.pw f a.1 + Sx.ew f a.2).sum ≤ 400000 ∧ n + 2 + 2 * nw ns + (xs.map fun y => 2 * Sx.ew f y).sum + (al.map fun a : Px.Pat × Px.Expr => 2 * (Sx.pw f a.1 + Sx.ew f a.2)).sum ≤ 100000000 ∧ (xs.map fun y => 2 * Sx.ew f y).sum = 2 * (xs.map (Sx.ew f)).sum ∧ (al.map fun a : Px.Pat × Px.Expr => 2 * (Sx.pw f a.1 + Sx.ew f a.2)).sum = 2 * (al.map fun a => Sx.pw f a.1 + Sx.ew f a.2).sum) := hid (by omega)
 have HEW := hid hew; have HX2 := hid hx2; have HA2 := hid ha2; have HWW := hid hw
 have hnl4 : nw ns ≤ 400000 := by omega
 have hvl4 : vars.length ≤ 400000 := by omega
 have hnn4 : n ≤ 100000000 := by omega
 have hvn4 : vars.length + nw ns ≤ 400000 := by omega
 clear h1 h2 h3 hew hx2 ha2 ht ih h hw hn
 unfold walkV at *
 go_enter Try.func35, Try.ntmps35
 obtain ⟨ew, ea, hb, hsz⟩ := ent2 w #[.map (some mb), .func (.func fe) e1 e2, .func (.func fp) p1 p2] #[.int .i64 kd, .int .i64 p, .string ⟨nm.toArray⟩, .int .i64 i, .slice q1 ns.length c1, .slice q2 xs.length c2, .slice q3 al.length c3] 101 53
 go_upto_region 1 with fail
 have H1 := hid (H0.out.below HT.out hb)
 have HNW := hid (fun g (hg : w.heap.size ≤ g) => H0.out.new HT.out hb g hg)
 generalize (w.alloc (.cells #[.map (some mb), .func (.func fe) e1 e2, .func (.func fp) p1 p2] 101)).alloc (.cells #[.int .i64 kd, .int .i64 p, .string ⟨nm.toArray⟩, .int .i64 i, .slice q1 ns.length c1, .slice q2 xs.length c2, .slice q3 al.length c3] 53) = w1 at *
 have EW := hid ew; have EX := hid ea
 clear ew ea hb
 have LX : Hid (Loc Own mb s w1 (w.heap.size + 1)) := hid ⟨jK EX.out, HNW.out _ (by omega)⟩
 have LW : Hid (Loc Own mb s w1 w.heap.size) := hid ⟨jK EW.out, HNW.out _ (Nat.le_refl _)⟩
 have H := H1
 clear HNW H1
 have w0 := jA EW.out 0 _ rfl; have w1' := jA EW.out 1 _ rfl; have w2' := jA EW.out 2 _ rfl
 have x0 := jA EX.out 0 _ rfl; have x1 := jA EX.out 1 _ rfl; have x2 := jA EX.out 2 _ rfl; have x3 := jA EX.out 3 _ rfl; have x4 := jA EX.out 4 _ rfl; have x5 := jA EX.out 5 _ rfl; have x6 := jA EX.out 6 _ rfl
 go_wp2_with fail
 clear w0 w1' w2'
 clear x0 x1 x2 x3 x4 x5 x6
 refine (HT.out.expr (f + 1) _ _ s vars n w1 HXX.out HWW.out hnn4 H.out.self).mono ?_
 rintro e w2 ⟨rfl, k⟩
 replace EX := hid (k.at EX.out LX.out.2); replace EW := hid (k.at EW.out LW.out.2)
 replace LX := hid (LX.out.step k); replace LW := hid (LW.out.step k); replace H := hid (H.out.then k)
 clear k
 have w0 := jA EW.out 0 _ rfl; have w1' := jA EW.out 1 _ rfl; have w2' := jA EW.out 2 _ rfl
 have x4 := jA EX.out 4 _ rfl
 go_wp2_with fail
 clear w0 w1' w2'
 clear x4
 refine (H.out.added HT.out (jQ HR1.out H.out.bel) (by omega) (by omega)).mono ?_
 rintro e w3 ⟨rfl, k⟩
 replace EX := hid (k.at EX.out LX.out.2); replace EW := hid (k.at EW.out LW.out.2)
 replace LX := hid (LX.out.step k); replace LW := hid (LW.out.step k); replace H := hid (H.out.then k)
 clear k
 have x5 := jA EX.out 5 _ rfl
 go_wp2_with fail
 clear x5
 obtain ⟨sb, hsb⟩ : ∃ sb, sb = stepE (f + 1) s vars (.mk kd p nm i ns xs al) := ⟨_, rfl⟩
 rw [← hsb] at H LX LW
 have HSB := hid hsb
 obtain ⟨nb, hnb⟩ : ∃ nb, nb = n + 1 + ns.length := ⟨_, rfl⟩
 rw [← hnb] at H
 clear hsb
 go_loopw [5, 20] (fun _ j wr => ∃ m : Nat, j = .int .i64 m ∧ m ≤ xs.length ∧ Hid (Wst Inv Own mb W0 ((xs.take m).foldl (fun s y => walkS stepE stepP f s (vars ++ ns) y) sb) (vars ++ ns) (nb + ((xs.take m).map (fun y : Px.Expr => 2 * Sx.ew f y)).sum) (Own s w) w wr) ∧ Hid (wr.heap[w.heap.size]? = some (.cells #[.map (some mb), .func (.func fe) e1 e2, .func (.func fp) p1 p2] 101 (0, 0))) ∧ Hid (wr.heap[w.heap.size + 1]? = some (.cells #[.int .i64 kd, .int .i64 p, .string ⟨nm.toArray⟩, .int .i64 i, .slice q1 ns.length c1, .slice q2 xs.length c2, .slice q3 al.length c3] 53 (0, 0))) ∧ Hid (Loc Own mb ((xs.take m).foldl (fun s y => walkS stepE stepP f s (vars ++ ns) y) sb) wr w.heap.size) ∧ Hid (Loc Own mb ((xs.take m).foldl (fun s y => walkS stepE stepP f s (vars ++ ns) y) sb) wr (w.heap.size + 1))) (fun _ j _ => xs.length - (intOf j).toNat)
 case atStart => exact ⟨0, rfl, Nat.zero_le _, hid (by simpa using H.out), EW, EX, hid (by simpa using LW.out), hid (by simpa using LX.out)⟩
 case round =>
  clear H EW EX LW LX
  obtain ⟨m, rfl, hm, H, EW, EX, LW, LX⟩ := hrel
  by_cases hlt : m < xs.length
  · obtain ⟨y, hy⟩ : ∃ y, xs[m]? = some y := ⟨_, List.getElem?_eq_getElem hlt⟩
    rcases HR2.out with ⟨h0, _⟩ | ⟨g, of, c', hv, g1, g2, g3⟩
    · rw [h0] at hlt; simp at hlt
    injection hv with hq1 _ hq2
    subst hq1; subst hq2
    obtain ⟨u, hu, _, hcell⟩ := g3 m y hy
    obtain ⟨z0, z1, z2, z3, zq1, zn1, zc1, zq2, zn2, zc2, zq3, zn3, zc3, rfl⟩ := exprAt_sh hu
    have d0 := jE H.out.bel (hcell 0 _ rfl)
    have d1 := jE H.out.bel (hcell 1 _ rfl)
    have d2 := jE H.out.bel (hcell 2 _ rfl)
    have d3 := jE H.out.bel (hcell 3 _ rfl)
    have d4 := jE H.out.bel (hcell 4 _ rfl)
    have d5 := jE H.out.bel (hcell 5 _ rfl)
    have d6 := jE H.out.bel (hcell 6 _ rfl)
    simp only [Nat.add_zero] at d0
    have hk1 : (m : Int) < (xs.length : Int) := by omega
    have hk2 : (xs.length : Int) ≤ (c2 : Int) := by omega
    have hk3 := g2
    have hst := Sx.sum_take (fun y : Px.Expr => 2 * Sx.ew f y) xs m y hy
    have htk : xs.take (m + 1) = xs.take m ++ [y] := by rw [List.take_add_one, hy]; rfl
    have HTK := hid htk
    have hbw := HBW.out
    try dsimp only at hst
    have HST := hid hst; have HBV := hid hbw
    clear g1 g2 g3 hcell hy htk hst hbw
    have w0 := jA EW.out 0 _ rfl; have w1' := jA EW.out 1 _ rfl; have w2' := jA EW.out 2 _ rfl
    have ew2 := jH EW.out (.cells #[.int .i64 z0, .int .i64 z1, .string z2, .int .i64 z3, .slice zq1 zn1 zc1, .slice zq2 zn2 zc2, .slice zq3 zn3 zc3] 53)
    have v0 := jA ew2 0 _ rfl; have v1 := jA ew2 1 _ rfl; have v2 := jA ew2 2 _ rfl
    go_wp2_with fail
    clear ew2 v0 v1 v2
    clear w0 w1' w2'
    clear d0 d1 d2 d3 d4 d5 d6
    have hba : Below wr.heap.size wr (wr.alloc (.cells #[.int .i64 z0, .int .i64 z1, .string z2, .int .i64 z3, .slice zq1 zn1 zc1, .slice zq2 zn2 zc2, .slice zq3 zn3 zc3] 53)) := (Below.refl _ _).alloc (Nat.le_refl _) _
    have k := H.out.self.below HT.out hba
    generalize wr.alloc (.cells #[.int .i64 z0, .int .i64 z1, .string z2, .int .i64 z3, .slice zq1 zn1 zc1, .slice zq2 zn2 zc2, .slice zq3 zn3 zc3] 53) = wa at k ⊢
    clear hba
    replace EX := hid (k.at EX.out LX.out.2); replace EW := hid (k.at EW.out LW.out.2)
    replace LX := hid (LX.out.step k); replace LW := hid (LW.out.step k); replace H := hid (H.out.then k)
    clear k
    have hst := HST.out; have hbw := HBV.out
    refine (HI.out y _ _ (vars ++ ns) _ wa hu (by rw [List.length_append]; omega) (by omega) H.out.self).mono ?_
    rintro e w5 ⟨rfl, k⟩
    replace EX := hid (k.at EX.out LX.out.2); replace EW := hid (k.at EW.out LW.out.2)
    replace LX := hid (LX.out.step k); replace LW := hid (LW.out.step k); replace H := hid (H.out.then k)
    clear k
    clear hst hbw
    go_wp2_with fail
    go_roundw
    case rel => exact ⟨m + 1, by go_num, by omega, hid (by rw [HTK.out, List.foldl_append, List.map_append, List.sum_append]; exact H.out.mono HT.out (by simp; omega)), EW, EX, hid (by rw [HTK.out, List.foldl_append]; exact LW.out), hid (by rw [HTK.out, List.foldl_append]; exact LX.out)⟩
    case measure => simp [intOf]; omega
  · obtain rfl : m = xs.length := by omega
    rw [List.take_length] at H LX LW
    have w0 := jA EW.out 0 _ rfl; have w1' := jA EW.out 1 _ rfl; have w2' := jA EW.out 2 _ rfl
    have x4 := jA EX.out 4 _ rfl
    go_wp2_with fail
    clear w0 w1' w2'
    clear x4
    have hbw := HBW.out
    refine (H.out.dropped HT.out (jQ HR1.out H.out.bel) (by omega) (by omega)).mono ?_
    rintro e w6 ⟨rfl, k⟩
    replace EX := hid (k.at EX.out LX.out.2); replace EW := hid (k.at EW.out LW.out.2)
    replace LX := hid (LX.out.step k); replace LW := hid (LW.out.step k); replace H := hid (H.out.then k)
    clear k
    have x6 := jA EX.out 6 _ rfl
    go_wp2_with fail
    clear x6
    obtain ⟨sd, hsd⟩ : ∃ sd, sd = xs.foldl (fun s y => walkS stepE stepP f s (vars ++ ns) y) sb := ⟨_, rfl⟩
    rw [← hsd] at H LX LW
    obtain ⟨nd, hnd⟩ : ∃ nd, nd = nb + (xs.map fun y => 2 * Sx.ew f y).sum + ns.length := ⟨_, rfl⟩
    rw [← hnd] at H
    have HSD : Hid (sd = xs.foldl (fun s y => walkS stepE stepP f s (vars ++ ns) y) (stepE (f + 1) s vars (.mk kd p nm i ns xs al))) := hid (by rw [hsd, HSB.out])
    clear hsd hbw HSB
    obtain ⟨wz, hwz⟩ : ∃ x, x = wr := ⟨wr, rfl⟩
    subst hwz
    go_loopw [7, 36] (fun _ j wr => ∃ m : Nat, j = .int .i64 m ∧ m ≤ al.length ∧ Hid (Wst Inv Own mb W0 ((al.take m).foldl (fun s (a : Px.Pat × Px.Expr) => walkS stepE stepP f (stepP f s vars a.1) (vars ++ Sx.boundP f a.1) a.2) sd) vars (nd + ((al.take m).map (fun a : Px.Pat × Px.Expr => 2 * (Sx.pw f a.1 + Sx.ew f a.2))).sum) (Own s w) w wr) ∧ Hid (wr.heap[w.heap.size]? = some (.cells #[.map (some mb), .func (.func fe) e1 e2, .func (.func fp) p1 p2] 101 (0, 0))) ∧ Hid (wr.heap[w.heap.size + 1]? = some (.cells #[.int .i64 kd, .int .i64 p, .string ⟨nm.toArray⟩, .int .i64 i, .slice q1 ns.length c1, .slice q2 xs.length c2, .slice q3 al.length c3] 53 (0, 0))) ∧ Hid (Loc Own mb ((al.take m).foldl (fun s (a : Px.Pat × Px.Expr) => walkS stepE stepP f (stepP f s vars a.1) (vars ++ Sx.boundP f a.1) a.2) sd) wr w.heap.size) ∧ Hid (Loc Own mb ((al.take m).foldl (fun s (a : Px.Pat × Px.Expr) => walkS stepE stepP f (stepP f s vars a.1) (vars ++ Sx.boundP f a.1) a.2) sd) wr (w.heap.size + 1))) (fun _ j _ => al.length - (intOf j).toNat)
    case atStart => exact ⟨0, rfl, Nat.zero_le _, hid (by simpa using H.out), EW, EX, hid (by simpa using LW.out), hid (by simpa using LX.out)⟩
    case round =>
     clear H EW EX LW LX
     obtain ⟨m, rfl, hm, H, EW, EX, LW, LX⟩ := hrel
     by_cases hlt : m < al.length
     · obtain ⟨y, hy⟩ : ∃ y, al[m]? = some y := ⟨_, List.getElem?_eq_getElem hlt⟩
       rcases HR3.out with ⟨h0, _⟩ | ⟨g, of, c', hv, g1, g2, g3⟩
       · rw [h0] at hlt; simp at hlt
       injection hv with hq1 _ hq2
       subst hq1; subst hq2
       obtain ⟨u, hu, _, hcell⟩ := g3 m y hy
       obtain ⟨a0, a1, a2, a3, a4, b0, b1, b2, b3, b4, b5, b6, rfl, hpu, heu⟩ := hu
       obtain ⟨z0, z1, z2, z3, zq, zn, zc, hz⟩ := patAt_sh hpu
       obtain ⟨y0, y1, y2, y3, yq1, yn1, yc1, yq2, yn2, yc2, yq3, yn3, yc3, hy'⟩ := exprAt_sh heu
       simp only [Value.agg.injEq, Array.mk.injEq, List.cons.injEq, and_true] at hz hy'
       obtain ⟨rfl, rfl, rfl, rfl, rfl⟩ := hz
       obtain ⟨rfl, rfl, rfl, rfl, rfl, rfl, rfl⟩ := hy'
       have d0 := jE H.out.bel (hcell 0 _ rfl)
       have d1 := jE H.out.bel (hcell 1 _ rfl)
       have d2 := jE H.out.bel (hcell 2 _ rfl)
       have d3 := jE H.out.bel (hcell 3 _ rfl)
       have d4 := jE H.out.bel (hcell 4 _ rfl)
       have d5 := jE H.out.bel (hcell 5 _ rfl)
       have d6 := jE H.out.bel (hcell 6 _ rfl)
       have d7 := jE H.out.bel (hcell 7 _ rfl)
       have d8 := jE H.out.bel (hcell 8 _ rfl)
       have d9 := jE H.out.bel (hcell 9 _ rfl)
       have d10 := jE H.out.bel (hcell 10 _ rfl)
       have d11 := jE H.out.bel (hcell 11 _ rfl)
       simp only [Nat.add_zero] at d0
       have hk1 : (m : Int) < (al.length : Int) := by omega
       have hk2 : (al.length : Int) ≤ (c3 : Int) := by omega
       have hk3 := g2
       have hst := Sx.sum_take (fun a : Px.Pat × Px.Expr => 2 * (Sx.pw f a.1 + Sx.ew f a.2)) al m y hy
       have htk : al.take (m + 1) = al.take m ++ [y] := by rw [List.take_add_one, hy]; rfl
       have HTK := hid htk
       have hbw := HBW.out
       try dsimp only at hst
       have HST := hid hst; have HBV := hid hbw
       clear g1 g2 g3 hcell hy htk hst hbw
       have w0 := jA EW.out 0 _ rfl; have w1' := jA EW.out 1 _ rfl; have w2' := jA EW.out 2 _ rfl
       have ew2 := jH EW.out (.cells #[.int .i64 z0, .int .i64 z1, .string z2, .int .i64 z3, .slice zq zn zc, .int .i64 y0, .int .i64 y1, .string y2, .int .i64 y3, .slice yq1 yn1 yc1, .slice yq2 yn2 yc2, .slice yq3 yn3 yc3] 96)
       have v0 := jA ew2 0 _ rfl; have v1 := jA ew2 1 _ rfl; have v2 := jA ew2 2 _ rfl
       go_wp2_with fail
       clear ew2 v0 v1 v2
       clear w0 w1' w2'
       clear d0 d1 d2 d3 d4 d5 d6 d7 d8 d9 d10 d11
       have hba : Below wr.heap.size wr (wr.alloc (.cells #[.int .i64 z0, .int .i64 z1, .string z2, .int .i64 z3, .slice zq zn zc, .int .i64 y0, .int .i64 y1, .string y2, .int .i64 y3, .slice yq1 yn1 yc1, .slice yq2 yn2 yc2, .slice yq3 yn3 yc3] 96)) := (Below.refl _ _).alloc (Nat.le_refl _) _
       have k := H.out.self.below HT.out hba
       generalize wr.alloc (.cells #[.int .i64 z0, .int .i64 z1, .string z2, .int .i64 z3, .slice zq zn zc, .int .i64 y0, .int .i64 y1, .string y2, .int .i64 y3, .slice yq1 yn1 yc1, .slice yq2 yn2 yc2, .slice yq3 yn3 yc3] 96) = wa at k ⊢
       clear hba
       replace EX := hid (k.at EX.out LX.out.2); replace EW := hid (k.at EW.out LW.out.2)
       replace LX := hid (LX.out.step k); replace LW := hid (LW.out.step k); replace H := hid (H.out.then k)
       clear k
       have hst := HST.out; have hbw := HBV.out
       refine (HAL.out y.1 y.2 _ _ _ _ _ _ _ _ _ _ _ _ _ vars _ wa hpu heu (by omega) (by omega) H.out.self).mono ?_
       rintro e w5 ⟨rfl, k⟩
       replace EX := hid (k.at EX.out LX.out.2); replace EW := hid (k.at EW.out LW.out.2)
       replace LX := hid (LX.out.step k); replace LW := hid (LW.out.step k); replace H := hid (H.out.then k)
       clear k
       clear hst hbw
       go_wp2_with fail
       go_roundw
       case rel => exact ⟨m + 1, by go_num, by omega, hid (by rw [HTK.out, List.foldl_append, List.map_append, List.sum_append]; exact H.out.mono HT.out (by simp; omega)), EW, EX, hid (by rw [HTK.out, List.foldl_append]; exact LW.out), hid (by rw [HTK.out, List.foldl_append]; exact LX.out)⟩
       case measure => simp [intOf]; omega
     · obtain rfl : m = al.length := by omega
       rw [List.take_length] at H LX LW
       go_wp2_with fail
       refine bodyPost_end (v := .tuple #[]) (by simp [results, Try.results35, go_sem]) rfl ?_
       rw [walkS, ← HSD.out]
       exact ⟨rfl, H.out.mono HT.out (by have := HEW.out; have := HX2.out; have := HA2.out; rw [HEW.out]; omega)⟩
theorem walk_any (ht : Told Inv Own mb W0 fe fp e1 e2 p1 p2 stepE stepP) : ∀ f, WalkC Inv Own mb W0 fe fp e1 e2 p1 p2 stepE stepP f
 | 0 => fun x v s vars n w hx => hx.elim
 | f + 1 => walk_step ht f (walk_any ht f)
end
end Go.Proofs.Ytgoacbomphlhjaa

namespace Go.Proofs.Ytgoacbomphlhjaa
open Go.Lib (hid)
open List renaming getElem_toArray → jX, getElem_cons_succ → jY, getElem_cons_zero → jZ, setIfInBounds_toArray → JA, set_cons_zero → JB, set_cons_succ → JC
open Go Go.RowKit
theorem cnt_pos (l : List Nm) (s : Nm) : decide (0 < cnt l s) = l.contains s := by
 unfold cnt
 rw [Bool.eq_iff_iff]
 simp only [decide_eq_true_eq, List.contains_iff_mem]
 rw [← List.count_pos_iff]; omega
theorem cnt_zero (l : List Nm) (s : Nm) : decide (cnt l s = 0) = !l.contains s := by
 rw [← cnt_pos]
 unfold cnt
 rw [← decide_not]
 congr 1
 rw [eq_iff_iff]; omega
theorem cnt_bump (l : List Nm) (s : Nm) (x : Nm) : bump (cnt l) s (cnt l s + 1) x = cnt (l ++ [s]) x := by
 unfold bump cnt
 rw [List.count_append]
 by_cases h : x = s
 · subst h; simp
 · rw [if_neg h, List.count_singleton]; simp [show (s == x) = false from beq_eq_false_iff_ne.2 (fun e => h e.symm)]
theorem NamesC.same {w w' : World} {mb n : Nat} {c : Nm → Int} (h : NamesC w mb n c) (e : w'.heap[mb]? = w.heap[mb]?) : NamesC w' mb n c := by
 obtain ⟨D, ⟨es, clock, h1, h2⟩, h3⟩ := h
 exact ⟨D, ⟨es, clock, e.trans h1, h2⟩, h3⟩
end Go.Proofs.Ytgoacbomphlhjaa

namespace Go.Proofs.Ytgoacbomphlhjaa
open Go.Lib (hid)
open List renaming getElem_toArray → jX, getElem_cons_succ → jY, getElem_cons_zero → jZ, setIfInBounds_toArray → JA, set_cons_zero → JB, set_cons_succ → JC
open Go Go.RowKit
/-- All blocks that were there are as they were, but those of S. -/
structure KB (S : Nat → Prop) (w w' : World) : Prop where
 os : w'.os = w.os
 tape : w'.tape = w.tape
 output : w'.output = w.output
 size : w.heap.size ≤ w'.heap.size
 block : ∀ b, b < w.heap.size → ¬ S b → w'.heap[b]? = w.heap[b]?
theorem KB.refl (S : Nat → Prop) (w : World) : KB S w w := ⟨rfl, rfl, rfl, Nat.le_refl _, fun _ _ _ => rfl⟩
theorem KB.trans {S : Nat → Prop} {a b c : World} (h : KB S a b) (k : KB S b c) : KB S a c :=
 ⟨k.os.trans h.os, k.tape.trans h.tape, k.output.trans h.output, Nat.le_trans h.size k.size, fun g hg hs => (k.block g (Nat.lt_of_lt_of_le hg h.size) hs).trans (h.block g hg hs)⟩
theorem KB.weak {S T : Nat → Prop} {a b : World} (h : KB S a b) (hs : ∀ g, g < a.heap.size → S g → T g) : KB T a b := ⟨h.os, h.tape, h.output, h.size, fun g hg ht => h.block g hg (fun e => ht (hs g hg e))⟩
theorem KB.of_below {S : Nat → Prop} {a b : World} (h : Below a.heap.size a b) : KB S a b := ⟨h.os, h.tape, h.output, h.size, fun g hg _ => h.block g hg⟩
theorem KB.of_map {S : Nat → Prop} {a b : World} {mb : Nat} (h : a.grownBy b (some mb)) (hm : mb < a.heap.size → S mb) : KB S a b := ⟨h.os, h.tape, h.output, h.size, fun g hg hs => h.block g hg (fun e => by have := Option.some.inj e; subst this; exact hs (hm hg))⟩
theorem KB.below {S : Nat → Prop} {a b : World} {lo : Nat} {w : World} (h : KB S a b) (hw : Below lo w a) (hl : lo ≤ w.heap.size) (hs : ∀ g, g < lo → ¬ S g) : Below lo w b :=
 hw.trans ⟨h.os, h.tape, h.output, h.size, fun g hg => h.block g (by have := hw.size; omega) (hs g hg)⟩
theorem KB.at {S : Nat → Prop} {a b : World} (h : KB S a b) {g : Nat} {o : Obj} (e : a.heap[g]? = some o) (hs : ¬ S g) : b.heap[g]? = some o := (h.block g (jK e) hs).trans e
theorem NamesC.kb {S : Nat → Prop} {a b : World} {mb n : Nat} {c : Nm → Int} (h : NamesC a mb n c) (k : KB S a b) (hs : ¬ S mb) : NamesC b mb n c := h.same (k.block mb h.lt hs)
theorem MapG.same {α : Type} {R : RdU} {enc : α → DU} {w w' : World} {mb n : Nat} {m : Nm → Option α} (h : MapG R enc w mb n m) (e : w'.heap[mb]? = w.heap[mb]?) : MapG R enc w' mb n m := by
 obtain ⟨D, ⟨es, clock, h1, h2⟩, h3⟩ := h
 exact ⟨D, ⟨es, clock, e.trans h1, h2⟩, h3⟩
theorem MapG.kb {α : Type} {R : RdU} {enc : α → DU} {S : Nat → Prop} {a b : World} {mb n : Nat} {m : Nm → Option α} (h : MapG R enc a mb n m) (k : KB S a b) (hs : ¬ S mb) : MapG R enc b mb n m := h.same (k.block mb h.lt hs)
/-- The checker lies at block cb. -/
def CkAt (w : World) (cb : Nat) (at_ : Int) (tb kb bb : Nat) : Prop := w.heap[cb]? = some (.cells #[.int .i64 at_, .map (some tb), .map (some kb), .map (some bb)] 85 (0, 0))
def asked (at_ : Int) (right : Bool) (place : Int) : Int := if right = false ∧ at_ = -1 then place else at_
abbrev Only (cb : Nat) : Nat → Prop := fun b => b = cb
set_option maxHeartbeats 1000000 in
theorem ask_any (w : World) (cb tb kb bb : Nat) (a : Int) (right : Bool) (place : Int) (h : CkAt w cb a tb kb bb) :
 Calls Try.prog 46 #[.pointer (some ⟨cb, 0, none⟩), .bool right, .int .i64 place] w fun e w' => e = .returned (.tuple #[]) ∧ KB (Only cb) w w' ∧ CkAt w' cb (asked a right place) tb kb bb := by
 have EC := hid h
 have hfz := jD h 0
 have e0 := jA h 0 _ rfl
 unfold CkAt at h
 clear h
 go_enter Try.func46, Try.ntmps46
 cases right with
 | true =>
   go_wp2_with fail
   refine bodyPost_end (v := .tuple #[]) (by simp [results, Try.results46, go_sem]) rfl ?_
   exact ⟨rfl, KB.refl _ _, by rw [asked, if_neg (by simp)]; exact EC.out⟩
 | false =>
   by_cases ha : a = -1
   · subst ha
     go_wp2_with fail
     refine bodyPost_end (v := .tuple #[]) (by simp [results, Try.results46, go_sem]) rfl ?_
     exact ⟨rfl, ⟨rfl, rfl, rfl, by simp, fun b _ hb => Below.heap_setCell w ⟨cb, 0, none⟩ _ b hb⟩, by rw [asked, if_pos ⟨rfl, rfl⟩]; exact ent_set EC.out 0 _⟩
   · have hb : (a == -1) = false := beq_eq_false_iff_ne.2 ha
     go_wp2_with fail
     refine bodyPost_end (v := .tuple #[]) (by simp [results, Try.results46, go_sem]) rfl ?_
     exact ⟨rfl, KB.refl _ _, by rw [asked, if_neg (by simp [ha])]; exact EC.out⟩
set_option maxHeartbeats 1000000 in
theorem comeOnce_any (w : World) (lv : Value) (l : List Nm) (hr : RowS w lv l) (hl : nw l ≤ 400000) :
 Calls Try.prog 69 #[lv] w fun e w' => e = .returned (.bool (addsB (fun _ => 0) l)) ∧ Below w.heap.size w w' := by
 have HR := hid hr
 clear hr
 have hmm := @run_makeMap Try.prog
 have HADD := hid (addAll_any (w.alloc (.map #[] 0)) w.heap.size 0 (fun _ => 0) lv l (NamesC.made w) (jQ HR.out ((Below.refl _ w).alloc (Nat.le_refl _) _)) hl (by intro s; omega) (by omega))
 go_enter Try.func69, Try.ntmps69
 go_wp2_with fail
 refine HADD.out.mono ?_
 rintro e w1 ⟨rfl, hg, _⟩
 have HB := hid (below_map ((Below.refl _ w).alloc (Nat.le_refl _) (.map #[] 0)) hg (Nat.le_refl _))
 clear hg
 go_wp2_with fail
 go_ret
 exact ⟨rfl, HB.out⟩
theorem enc_third {a b : C3} (h : encK a = encK b) : a.2.2 = b.2.2 := by
 simp only [encK, DataW.agg.injEq, List.cons.injEq, DataW.lit.injEq, Lit.int.injEq, true_and, and_true] at h
 exact h.2.2
/-- A constructor with so many fields is there. -/
def conIs (m : Nm → Option C3) (s : Nm) (fields : Int) : Bool := match m s with | some a => decide (a.2.2 = fields) | none => false
set_option maxHeartbeats 1000000 in
theorem ckcon_any (w : World) (cb tb kb bb n : Nat) (a : Int) (m : Nm → Option C3) (s : Nm) (fields place : Int) (h : CkAt w cb a tb kb bb) (hm : MapC w kb n m) (hs : s.length ≤ 400000) :
 Calls Try.prog 75 #[.pointer (some ⟨cb, 0, none⟩), .string ⟨s.toArray⟩, .int .i64 fields, .int .i64 place] w fun e w' => e = .returned (.tuple #[]) ∧ KB (Only cb) w w' ∧ CkAt w' cb (asked a (conIs m s fields) place) tb kb bb := by
 have EC := hid h
 obtain ⟨D, o1, t1, n1⟩ := hm
 have O1 := hid o1; have N1 := hid n1
 have HK := hid (keyLit s (by unfold maxLen; omega))
 have hz : (zeroValue 38).run Try.prog w = .ok (mkC (0, 0, 0)) w := by kernel_rfl
 have HZ := hid hz
 have e2 := jA EC.out 2 _ rfl
 unfold CkAt at h
 clear h o1 n1 hz
 go_enter Try.func75, Try.ntmps75
 cases hms : m s with
 | none =>
   have hh := (N1.out s).1
   rw [hms] at hh
   go_wp2_with (first
    | (at_lookup; (refine wpList_lookup_own_ok _ rfl _ _ 35 rfl 9 38 lawStr Try.underlying35 RCon HZ.out (encK (0, 0, 0)) [] (RCon_mk _) kb n D rfl O1.out _ _ rfl HK.out ?_); intro v ps hv; obtain ⟨⟨k1, k2, k3⟩, rfl, hy⟩ := RCon_inv hv; rw [hh, mkC]; clear hv hy))
   refine (ask_any (w.alloc (.cells #[.int .i64 k1, .int .i64 k2, .int .i64 k3] 38)) cb tb kb bb a false place (jH EC.out _)).mono ?_
   rintro e w1 ⟨rfl, hk, hc⟩
   have HKB := hid ((KB.of_below (S := Only cb) ((Below.refl _ w).alloc (Nat.le_refl _) (.cells #[.int .i64 k1, .int .i64 k2, .int .i64 k3] 38))).trans hk)
   have HC := hid hc
   clear hk hc
   go_wp2_with fail
   refine bodyPost_end (v := .tuple #[]) (by simp [results, Try.results75, go_sem]) rfl ?_
   exact ⟨rfl, HKB.out, by rw [conIs, hms]; exact HC.out⟩
 | some b =>
   obtain ⟨b1, b2, b3⟩ := b
   have hh := (N1.out s).1
   rw [hms] at hh
   have HAT := hid ((N1.out s).2 (b1, b2, b3) (encK (0, 0, 0)) hms)
   have HMS := hid hms
   clear hms
   by_cases hf : b3 = fields
   · subst hf
     go_wp2_with (first
      | (at_lookup; (refine wpList_lookup_own_ok _ rfl _ _ 35 rfl 9 38 lawStr Try.underlying35 RCon HZ.out (encK (0, 0, 0)) [] (RCon_mk _) kb n D rfl O1.out _ _ rfl HK.out ?_); intro v ps hv; obtain ⟨⟨k1, k2, k3⟩, rfl, hy⟩ := RCon_inv hv; rw [hh, mkC]; simp only [Prod.mk.injEq] at hy; rw [HAT.out] at hy; have h3 : b3 = k3 := enc_third hy.1; subst h3; clear hv hy))
     refine (ask_any (w.alloc (.cells #[.int .i64 k1, .int .i64 k2, .int .i64 b3] 38)) cb tb kb bb a true place (jH EC.out _)).mono ?_
     rintro e w1 ⟨rfl, hk, hc⟩
     have HKB := hid ((KB.of_below (S := Only cb) ((Below.refl _ w).alloc (Nat.le_refl _) (.cells #[.int .i64 k1, .int .i64 k2, .int .i64 b3] 38))).trans hk)
     have HC := hid hc
     clear hk hc
     go_wp2_with fail
     refine bodyPost_end (v := .tuple #[]) (by simp [results, Try.results75, go_sem]) rfl ?_
     exact ⟨rfl, HKB.out, by rw [conIs, HMS.out]; simpa using HC.out⟩
   · have HF := hid hf
     have hfb : (b3 == fields) = false := beq_eq_false_iff_ne.2 hf
     clear hf
     go_wp2_with (first
      | (at_lookup; (refine wpList_lookup_own_ok _ rfl _ _ 35 rfl 9 38 lawStr Try.underlying35 RCon HZ.out (encK (0, 0, 0)) [] (RCon_mk _) kb n D rfl O1.out _ _ rfl HK.out ?_); intro v ps hv; obtain ⟨⟨k1, k2, k3⟩, rfl, hy⟩ := RCon_inv hv; rw [hh, mkC]; simp only [Prod.mk.injEq] at hy; rw [HAT.out] at hy; have h3 : b3 = k3 := enc_third hy.1; subst h3; clear hv hy))
     refine (ask_any (w.alloc (.cells #[.int .i64 k1, .int .i64 k2, .int .i64 b3] 38)) cb tb kb bb a false place (jH EC.out _)).mono ?_
     rintro e w1 ⟨rfl, hk, hc⟩
     have HKB := hid ((KB.of_below (S := Only cb) ((Below.refl _ w).alloc (Nat.le_refl _) (.cells #[.int .i64 k1, .int .i64 k2, .int .i64 b3] 38))).trans hk)
     have HC := hid hc
     clear hk hc
     go_wp2_with fail
     refine bodyPost_end (v := .tuple #[]) (by simp [results, Try.results75, go_sem]) rfl ?_
     exact ⟨rfl, HKB.out, by rw [conIs, HMS.out]; simpa [HF.out] using HC.out⟩
end Go.Proofs.Ytgoacbomphlhjaa

namespace Go.Proofs.Ytgoacbomphlhjaa
open Go.Lib (hid)
open List renaming getElem_toArray → jX, getElem_cons_succ → jY, getElem_cons_zero → jZ, setIfInBounds_toArray → JA, set_cons_zero → JB, set_cons_succ → JC
open Go Go.RowKit
def exprAsk (m : Nm → Option C3) (vars : List Nm) (a : Int) : Px.Expr → Int
 | .mk k p nm _ ns xs _ => if k = 1 then asked a (vars.contains nm) p else if k = 2 then asked a (conIs m nm xs.length) p else if k = 3 ∨ k = 4 then asked a (addsB (fun _ => 0) ns) p else a
theorem CkAt.kb {S : Nat → Prop} {a b : World} {cb tb kb bb : Nat} {x : Int} (h : CkAt a cb x tb kb bb) (k : KB S a b) (hs : ¬ S cb) : CkAt b cb x tb kb bb := k.at h hs
set_option maxHeartbeats 4000000 in
set_option maxRecDepth 100000 in
theorem ckexpr_any (f : Nat) (x : Px.Expr) (v : Value) (w : World) (cb tb kb bb n n' : Nat) (a : Int) (m : Nm → Option C3) (vars : List Nm) (hx : ExprAt f w v x) (hw : Sx.ew f x ≤ 400000) (hv : vars.length ≤ 400000) (h : CkAt w cb a tb kb bb) (hm : MapC w kb n m) (hn : NamesC w bb n' (cnt vars)) :
 Calls Try.prog 70 #[.pointer (some ⟨cb, 0, none⟩), v] w fun e w' => e = .returned (.tuple #[]) ∧ KB (Only cb) w w' ∧ CkAt w' cb (exprAsk m vars a x) tb kb bb := by
 cases f with
 | zero => exact hx.elim
 | succ f =>
 cases x with | mk k p nm i ns xs al =>
 obtain ⟨nv, xv, av, rfl, r1, r2, r3⟩ := hx
 obtain ⟨q1, c1, rfl⟩ := r1.len
 obtain ⟨q2, c2, rfl⟩ := r2.len
 obtain ⟨q3, c3, rfl⟩ := r3.len
 have hnm : nm.length ≤ 400000 := by rw [Sx.ew] at hw; omega
 have hns : nw ns ≤ 400000 := by rw [Sx.ew] at hw; omega
 have HR := hid r1; have HC := hid h; have HM := hid hm; have HN := hid hn
 have hcb := jK h
 clear r1 r2 r3 h hm hn hw
 go_enter Try.func70, Try.ntmps70
 have EX := hid (jI w #[.int .i64 k, .int .i64 p, .string ⟨nm.toArray⟩, .int .i64 i, .slice q1 ns.length c1, .slice q2 xs.length c2, .slice q3 al.length c3] 53)
 have HB := hid (show Below w.heap.size w (w.alloc (.cells #[.int .i64 k, .int .i64 p, .string ⟨nm.toArray⟩, .int .i64 i, .slice q1 ns.length c1, .slice q2 xs.length c2, .slice q3 al.length c3] 53)) from (Below.refl _ _).alloc (Nat.le_refl _) _)
 go_upto_region 1 with fail
 generalize w.alloc (.cells #[.int .i64 k, .int .i64 p, .string ⟨nm.toArray⟩, .int .i64 i, .slice q1 ns.length c1, .slice q2 xs.length c2, .slice q3 al.length c3] 53) = w1 at EX HB ⊢
 have hs1 := HB.out.size
 have HC1 := hid (show CkAt w1 cb a tb kb bb from jC HC.out HB.out)
 have HK1 := hid (KB.of_below (S := Only cb) HB.out)
 have e0 := jA EX.out 0 _ rfl
 by_cases h1 : k = 1
 · subst h1
   go_upto_region 3 with fail
   obtain ⟨rr, hrr⟩ : ∃ r, vars.contains nm = r := ⟨_, rfl⟩
   have HRR := hid hrr
   clear hrr
   clear e0
   have hbc : bb ≠ cb := fun e => by obtain ⟨D, ⟨es, cl, hb, _⟩, _⟩ := HN.out; rw [e, show w.heap[cb]? = _ from HC.out] at hb; cases hb
   have hdk : KB (Only cb) w1 w1.drew := KB.of_below ((Below.refl _ _).drew)
   have hdc : CkAt w1.drew cb a tb kb bb := ent_drew HC1.out
   have hdr : KB (Only cb) w1 w1.drew ∧ w1.drew.cell? ⟨cb, 3, none⟩ = some (.map (some bb)) := ⟨hdk, jA hdc 3 _ rfl⟩
   refine wp_region_held_drew (S := fun u => KB (Only cb) w1 u ∧ u.cell? ⟨cb, 3, none⟩ = some (.map (some bb))) (by kernel_rfl) (hdr) (fun jM => ?_)
   refine wT 0 (.pointer (some ⟨cb, 0, none⟩)) rfl (Or.inl ⟨by rfl, fun w' hSw => by go_simp⟩) jM ?_
   refine wT 1 (.pointer (some ⟨cb, 0, none⟩)) rfl (Or.inl ⟨by rfl, fun w' hSw => by go_simp⟩) jM ?_
   refine wT 2 (.pointer (some ⟨cb, 0, none⟩)) rfl (Or.inl ⟨by rfl, fun w' hSw => by go_simp⟩) jM ?_
   refine wT 3 (.pointer (some ⟨cb, 3, none⟩)) rfl (Or.inl ⟨by rfl, fun w' hSw => by go_simp⟩) jM ?_
   refine wT 4 (.map (some bb)) rfl (Or.inl ⟨by rfl, fun w' hSw => by have h := hSw.2; go_simp⟩) jM ?_
   refine wT 5 (.pointer (some ⟨w.heap.size, 2, none⟩)) rfl (Or.inl ⟨by rfl, fun w' hSw => by go_simp⟩) jM ?_
   refine wT 6 (.string ⟨nm.toArray⟩) rfl (Or.inl ⟨by rfl, fun w' hSw => by have h := jA (hSw.1.at EX.out (by show w.heap.size ≠ cb; omega)) 2 _ rfl; go_simp⟩) jM ?_
   refine wT 8 (.pointer (some ⟨w.heap.size, 1, none⟩)) rfl (Or.inl ⟨by rfl, fun w' hSw => by go_simp⟩) jM ?_
   refine wT 9 (.int .i64 p) rfl (Or.inl ⟨by rfl, fun w' hSw => by have h := jA (hSw.1.at EX.out (by show w.heap.size ≠ cb; omega)) 1 _ rfl; go_simp⟩) jM ?_
   simp only [Act.put, JA, JB, JC]
   refine wpAnyH_ready (rs := [7]) (by kernel_rfl) (by simp) ?_
   refine AllReadyH.cons rfl (fun K hK => ?_) AllReadyH.nil
   go_simp
   refine (has_any w1.drew bb n' (cnt vars) nm ((HN.out.below HB.out).kb hdr.1 (by show bb ≠ cb; exact hbc)) hnm (fun s => by have := cnt_small (l := vars) (by omega) s; omega)).mono ?_
   rintro e w2 ⟨rfl, rfl⟩
   rw [cnt_pos, HRR.out]
   refine hK.out _ _ hdr (fun jM => ?_)
   clear hK K
   refine wpAnyH_ready (rs := [10]) (by kernel_rfl) (by simp) ?_
   refine AllReadyH.cons rfl (fun K hK => ?_) AllReadyH.nil
   go_simp
   refine (ask_any w1.drew cb tb kb bb a rr (p : Int) hdc).mono ?_
   rintro e w2 ⟨rfl, hk2, hc2⟩
   have HK2 := hid (hdr.1.trans hk2)
   have HC2 := hid hc2
   clear hk2 hc2
   refine hK.out _ _ ⟨HK2.out, jA HC2.out 3 _ rfl⟩ (fun jM => ?_)
   clear hK K
   refine wpAnyH_done (by kernel_rfl) ?_ _
   go_wp2_with fail
   refine bodyPost_end (v := .tuple #[]) (by simp [results, Try.results70, go_sem]) rfl ?_
   exact ⟨rfl, HK1.out.trans HK2.out, by rw [exprAsk, if_pos rfl, HRR.out]; exact HC2.out⟩
 · have t1 : ((k : Int) == 1) = false := beq_eq_false_iff_ne.2 (by omega)
   by_cases h2 : k = 2
   · subst h2
     have e1 := jA EX.out 1 _ rfl; have e2 := jA EX.out 2 _ rfl; have e5 := jA EX.out 5 _ rfl
     go_wp2_with fail
     refine (ckcon_any w1 cb tb kb bb n a m nm (xs.length : Int) (p : Int) HC1.out (HM.out.below HB.out) hnm).mono ?_
     rintro e w2 ⟨rfl, hk, hc⟩
     have HK2 := hid (HK1.out.trans hk)
     have HC2 := hid hc
     clear hk hc
     go_wp2_with fail
     refine bodyPost_end (v := .tuple #[]) (by simp [results, Try.results70, go_sem]) rfl ?_
     exact ⟨rfl, HK2.out, by rw [exprAsk, if_neg (by omega), if_pos rfl]; exact HC2.out⟩
   · have t2 : ((k : Int) == 2) = false := beq_eq_false_iff_ne.2 (by omega)
     by_cases h3 : k = 3 ∨ k = 4
     · have t34 : Hid (exprAsk m vars a (.mk k p nm i ns xs al) = asked a (addsB (fun _ => 0) ns) p) := hid (by rw [exprAsk, if_neg h1, if_neg h2, if_pos h3])
       clear h1 h2 t1 t2
       rcases h3 with h3 | h3
       · subst h3
         go_upto_region 8 with fail
         obtain ⟨rr, hrr⟩ : ∃ r, addsB (fun _ => 0) ns = r := ⟨_, rfl⟩
         have HRR := hid hrr
         clear hrr
         clear e0
         have hdk : KB (Only cb) w1 w1.drew := KB.of_below ((Below.refl _ _).drew)
         have hdc : CkAt w1.drew cb a tb kb bb := ent_drew HC1.out
         have hdr : KB (Only cb) w1 w1.drew ∧ w1.drew.cell? ⟨cb, 3, none⟩ = some (.map (some bb)) := ⟨hdk, jA hdc 3 _ rfl⟩
         refine wp_region_held_drew (S := fun u => KB (Only cb) w1 u ∧ u.cell? ⟨cb, 3, none⟩ = some (.map (some bb))) (by kernel_rfl) (hdr) (fun jM => ?_)
         refine wT 0 (.pointer (some ⟨cb, 0, none⟩)) rfl (Or.inl ⟨by rfl, fun w' hSw => by go_simp⟩) jM ?_
         refine wT 1 (.pointer (some ⟨w.heap.size, 4, none⟩)) rfl (Or.inl ⟨by rfl, fun w' hSw => by go_simp⟩) jM ?_
         refine wT 2 (.slice q1 ns.length c1) rfl (Or.inl ⟨by rfl, fun w' hSw => by have h := jA (hSw.1.at EX.out (by show w.heap.size ≠ cb; omega)) 4 _ rfl; go_simp⟩) jM ?_
         refine wT 4 (.pointer (some ⟨w.heap.size, 1, none⟩)) rfl (Or.inl ⟨by rfl, fun w' hSw => by go_simp⟩) jM ?_
         refine wT 5 (.int .i64 p) rfl (Or.inl ⟨by rfl, fun w' hSw => by have h := jA (hSw.1.at EX.out (by show w.heap.size ≠ cb; omega)) 1 _ rfl; go_simp⟩) jM ?_
         simp only [Act.put, JA, JB, JC]
         refine wpAnyH_ready (rs := [3]) (by kernel_rfl) (by simp) ?_
         refine AllReadyH.cons rfl (fun K hK => ?_) AllReadyH.nil
         go_simp
         refine (comeOnce_any w1.drew _ ns (jQ HR.out HB.out.drew) hns).mono ?_
         rintro e w2 ⟨rfl, hb2⟩
         rw [HRR.out]
         have HK2 := hid (hdr.1.trans (KB.of_below hb2))
         have HC2 := hid (show CkAt w2 cb a tb kb bb from jC hdc hb2)
         clear hb2
         refine hK.out _ _ ⟨HK2.out, jA HC2.out 3 _ rfl⟩ (fun jM => ?_)
         clear hK K
         refine wpAnyH_ready (rs := [6]) (by kernel_rfl) (by simp) ?_
         refine AllReadyH.cons rfl (fun K hK => ?_) AllReadyH.nil
         go_simp
         refine (ask_any w2 cb tb kb bb a rr (p : Int) HC2.out).mono ?_
         rintro e w3 ⟨rfl, hk2, hc2⟩
         have HK3 := hid (HK2.out.trans hk2)
         have HC3 := hid hc2
         clear hk2 hc2
         refine hK.out _ _ ⟨HK3.out, jA HC3.out 3 _ rfl⟩ (fun jM => ?_)
         clear hK K
         refine wpAnyH_done (by kernel_rfl) ?_ _
         go_wp2_with fail
         refine bodyPost_end (v := .tuple #[]) (by simp [results, Try.results70, go_sem]) rfl ?_
         exact ⟨rfl, HK1.out.trans HK3.out, by rw [t34.out, HRR.out]; exact HC3.out⟩
       · subst h3
         go_upto_region 8 with fail
         obtain ⟨rr, hrr⟩ : ∃ r, addsB (fun _ => 0) ns = r := ⟨_, rfl⟩
         have HRR := hid hrr
         clear hrr
         clear e0
         have hdk : KB (Only cb) w1 w1.drew := KB.of_below ((Below.refl _ _).drew)
         have hdc : CkAt w1.drew cb a tb kb bb := ent_drew HC1.out
         have hdr : KB (Only cb) w1 w1.drew ∧ w1.drew.cell? ⟨cb, 3, none⟩ = some (.map (some bb)) := ⟨hdk, jA hdc 3 _ rfl⟩
         refine wp_region_held_drew (S := fun u => KB (Only cb) w1 u ∧ u.cell? ⟨cb, 3, none⟩ = some (.map (some bb))) (by kernel_rfl) (hdr) (fun jM => ?_)
         refine wT 0 (.pointer (some ⟨cb, 0, none⟩)) rfl (Or.inl ⟨by rfl, fun w' hSw => by go_simp⟩) jM ?_
         refine wT 1 (.pointer (some ⟨w.heap.size, 4, none⟩)) rfl (Or.inl ⟨by rfl, fun w' hSw => by go_simp⟩) jM ?_
         refine wT 2 (.slice q1 ns.length c1) rfl (Or.inl ⟨by rfl, fun w' hSw => by have h := jA (hSw.1.at EX.out (by show w.heap.size ≠ cb; omega)) 4 _ rfl; go_simp⟩) jM ?_
         refine wT 4 (.pointer (some ⟨w.heap.size, 1, none⟩)) rfl (Or.inl ⟨by rfl, fun w' hSw => by go_simp⟩) jM ?_
         refine wT 5 (.int .i64 p) rfl (Or.inl ⟨by rfl, fun w' hSw => by have h := jA (hSw.1.at EX.out (by show w.heap.size ≠ cb; omega)) 1 _ rfl; go_simp⟩) jM ?_
         simp only [Act.put, JA, JB, JC]
         refine wpAnyH_ready (rs := [3]) (by kernel_rfl) (by simp) ?_
         refine AllReadyH.cons rfl (fun K hK => ?_) AllReadyH.nil
         go_simp
         refine (comeOnce_any w1.drew _ ns (jQ HR.out HB.out.drew) hns).mono ?_
         rintro e w2 ⟨rfl, hb2⟩
         rw [HRR.out]
         have HK2 := hid (hdr.1.trans (KB.of_below hb2))
         have HC2 := hid (show CkAt w2 cb a tb kb bb from jC hdc hb2)
         clear hb2
         refine hK.out _ _ ⟨HK2.out, jA HC2.out 3 _ rfl⟩ (fun jM => ?_)
         clear hK K
         refine wpAnyH_ready (rs := [6]) (by kernel_rfl) (by simp) ?_
         refine AllReadyH.cons rfl (fun K hK => ?_) AllReadyH.nil
         go_simp
         refine (ask_any w2 cb tb kb bb a rr (p : Int) HC2.out).mono ?_
         rintro e w3 ⟨rfl, hk2, hc2⟩
         have HK3 := hid (HK2.out.trans hk2)
         have HC3 := hid hc2
         clear hk2 hc2
         refine hK.out _ _ ⟨HK3.out, jA HC3.out 3 _ rfl⟩ (fun jM => ?_)
         clear hK K
         refine wpAnyH_done (by kernel_rfl) ?_ _
         go_wp2_with fail
         refine bodyPost_end (v := .tuple #[]) (by simp [results, Try.results70, go_sem]) rfl ?_
         exact ⟨rfl, HK1.out.trans HK3.out, by rw [t34.out, HRR.out]; exact HC3.out⟩
     · have t3 : ((k : Int) == 3) = false := beq_eq_false_iff_ne.2 (by omega)
       have t4 : ((k : Int) == 4) = false := beq_eq_false_iff_ne.2 (by omega)
       have h0 : exprAsk m vars a (.mk k p nm i ns xs al) = a := by rw [exprAsk, if_neg h1, if_neg h2, if_neg h3]
       have H0 := hid h0
       clear h0 h1 h2 h3
       go_wp2_with fail
       refine bodyPost_end (v := .tuple #[]) (by simp [results, Try.results70, go_sem]) rfl ?_
       exact ⟨rfl, HK1.out, by rw [H0.out]; exact HC1.out⟩
end Go.Proofs.Ytgoacbomphlhjaa
