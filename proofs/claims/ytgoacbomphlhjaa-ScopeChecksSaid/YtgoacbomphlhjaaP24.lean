/-
  Several texts in one: SWrong, SPar.
-/
import Derived.Test.YtgoacbomphlhjaaP00
import Derived.Test.YtgoacbomphlhjaaP23
import Derived.Test.YtgoacbomphlhjaaP03
import Derived.Test.YtgoacbomphlhjaaP20
import Derived.BigQuiet
set_option linter.unusedVariables false
set_option linter.unusedSimpArgs false
namespace Go.Proofs.Ytgoacbomphlhjaa
open Go.Lib (hid)
open List renaming getElem_toArray → jX, getElem_cons_succ → jY, getElem_cons_zero → jZ, setIfInBounds_toArray → JA, set_cons_zero → JB, set_cons_succ → JC
open Go Go.RowKit
/-- How many parameters a type has, `->` left out. -/
def tab0 (ds : List Px.Data) : Nm → Option Int := ds.foldl typesStep given
def paramsI (ds : List Px.Data) (nm : Nm) : Int := match tab0 ds nm with | some c => c | none => -1
def lowB (s : Nm) : Bool := 97 ≤ (Lx.at0 s 0).toNat && (Lx.at0 s 0).toNat ≤ 122
def uppB (s : Nm) : Bool := 65 ≤ (Lx.at0 s 0).toNat && (Lx.at0 s 0).toNat ≤ 90
def typBad (ds : List Px.Data) (vars : List Nm) (nm : Nm) (n : Nat) : Bool := (lowB nm && !hasN vars nm) || (uppB nm && decide (paramsI ds nm ≠ (n : Int)))
def one (b : Bool) (p : Nat) : List Nat := if b then [p] else []
def typW (ds : List Px.Data) (vars : List Nm) : Nat → Px.TypeE → List Nat
 | 0, _ => []
 | f + 1, .mk p nm xs => one (typBad ds vars nm xs.length) p ++ xs.flatMap (typW ds vars f)
def conW (ds : List Px.Data) (nm : Nm) (n : Int) (p : Nat) : List Nat := one (!conIs (consTab ds) nm n) p
def patsW (g : Px.Pat → List Nm → List Nat) (b : Px.Pat → List Nm) : List Px.Pat → List Nm → List Nat
 | [], _ => []
 | x :: r, a => g x a ++ patsW g b r (a ++ b x)
def patW (ds : List Px.Data) : Nat → Px.Pat → List Nm → List Nat
 | 0, _, _ => []
 | f + 1, .mk k p nm _ xs, ahead => if k = 1 ∧ hasN ahead nm = true then [p] else (if k = 3 then conW ds nm xs.length p else []) ++ patsW (patW ds f) (Sx.boundP f) xs ahead
def twiceB (l : List Nm) : Bool := !addsB (fun _ => 0) l
def exprH (ds : List Px.Data) (vars : List Nm) (k p : Nat) (nm : Nm) (n : Nat) : List Nat := if k = 1 then one (!hasN vars nm) p else if k = 2 then conW ds nm n p else []
def exprW (ds : List Px.Data) : Nat → Px.Expr → List Nm → List Nat
 | 0, _, _ => []
 | f + 1, .mk k p nm _ ns xs al, vars => ((exprH ds vars k p nm xs.length ++ one (twiceB ns) p) ++ xs.flatMap fun y => exprW ds f y (vars ++ ns)) ++ al.flatMap fun a => patW ds f a.1 [] ++ exprW ds f a.2 (vars ++ Sx.boundP f a.1)
def seeW : List Nm → List (Nm × Nat) → List Nat
 | _, [] => []
 | seen, (s, p) :: r => one (hasN seen s) p ++ seeW (seen ++ [s]) r
def consW (ds : List Px.Data) (ps : List Nm) : List Nm → List Px.Con → List Nat
 | _, [] => []
 | seen, c :: r => (one (hasN seen c.name) c.pos ++ c.fields.flatMap (typW ds ps 50)) ++ consW ds ps (seen ++ [c.name]) r
def datasW (ds : List Px.Data) : List Nm → List Px.Data → List Nat
 | _, [] => []
 | seen, d :: r => (one (twiceB d.params) d.pos ++ consW ds d.params seen d.cons) ++ datasW ds (seen ++ d.cons.map (·.name)) r
def defW (ds : List Px.Data) (names : List Nm) (d : Px.Def) : List Nat := one (twiceB d.params) d.pos ++ exprW ds 50 d.body (names ++ d.params)
def mainW : List Px.Def → List Nat
 | [] => [0]
 | d :: r => if d.name = sMain then one (decide (0 < d.params.length)) d.pos else mainW r
def wrongDatas (p : Px.Prog) : List Nat := seeW givenL (p.datas.map fun d => (d.name, d.pos)) ++ datasW p.datas consL p.datas
def wrongW (p : Px.Prog) : List Nat := ((wrongDatas p ++ seeW [] (p.defs.map fun d => (d.name, d.pos))) ++ p.defs.flatMap (defW p.datas (p.defs.map (·.name)))) ++ mainW p.defs
/-- The first of some places, if none was before. -/
def hdo (a : Int) (l : List Nat) : Int := if a = -1 then (match l with | [] => -1 | p :: _ => (p : Int)) else a
theorem hdo_nil (a : Int) : hdo a [] = a := by unfold hdo; split <;> simp_all
theorem hdo_cons (a : Int) (p : Nat) (l : List Nat) : hdo a (p :: l) = if a = -1 then (p : Int) else a := rfl
theorem hdo_app (a : Int) (l m : List Nat) : hdo a (l ++ m) = hdo (hdo a l) m := by
 cases l with
 | nil => rw [hdo_nil]; rfl
 | cons p r =>
   rw [List.cons_append, hdo_cons, hdo_cons]
   by_cases h : a = -1
   · rw [if_pos h]; unfold hdo; rw [if_neg (by omega)]
   · rw [if_neg h]; unfold hdo; rw [if_neg h]
theorem asked_hdo (a : Int) (r : Bool) (p : Nat) : asked a r (p : Int) = hdo a (one (!r) p) := by
 cases r with
 | true => unfold asked; rw [if_neg (by simp)]; exact (hdo_nil a).symm
 | false =>
   unfold asked one
   simp only [Bool.not_false, if_true, hdo_cons]
   by_cases h : a = -1 <;> simp [h]
theorem fold_hdo {α : Type} (g : Int → α → Int) (h : α → List Nat) : ∀ (l : List α) (a : Int), (∀ x ∈ l, ∀ a, g a x = hdo a (h x)) → l.foldl g a = hdo a (l.flatMap h)
 | [], a, _ => (hdo_nil a).symm
 | x :: r, a, hx => by
   rw [List.foldl_cons, List.flatMap_cons, hdo_app, hx x (by simp), fold_hdo g h r _ (fun y hy => hx y (by simp [hy]))]
/-! What the parser makes. -/
def goodT : Nat → Px.TypeE → Prop
 | 0, _ => True
 | f + 1, .mk _ nm xs => (lowB nm = true ∨ uppB nm = true ∨ (nm = sArr ∧ xs.length = 2)) ∧ nm ≠ [] ∧ ∀ x ∈ xs, goodT f x
def goodP : Nat → Px.Pat → Prop
 | 0, _ => True
 | f + 1, .mk k _ _ _ xs => (k = 1 → xs = []) ∧ ∀ x ∈ xs, goodP f x
def goodX : Nat → Px.Expr → Prop
 | 0, _ => True
 | f + 1, .mk k _ _ _ ns xs al => (k ≠ 3 → k ≠ 4 → ns = []) ∧ (∀ x ∈ xs, goodX f x) ∧ ∀ a ∈ al, goodP f a.1 ∧ goodX f a.2
def goodD (d : Px.Data) : Prop := uppB d.name = true ∧ (∀ s ∈ d.params, lowB s = true) ∧ ∀ c ∈ d.cons, ∀ t ∈ c.fields, goodT 50 t
def goodProg (p : Px.Prog) : Prop := (∀ d ∈ p.datas, goodD d) ∧ ∀ d ∈ p.defs, goodX 50 d.body
theorem low_upp {s : Nm} (h : lowB s = true) : uppB s = false := by
 unfold lowB at h; unfold uppB
 simp only [Bool.and_eq_true, decide_eq_true_eq] at h
 simp only [Bool.and_eq_false_iff, decide_eq_false_iff_not]
 omega
/-- Types' names, as the checker and as the document have them. -/
theorem tab_step (m : Nm → Option Int) (ds : List Px.Data) (nm : Nm) (h : nm ≠ sArr) : ∀ (m' : Nm → Option Int), m nm = m' nm → ds.foldl typesStep m nm = ds.foldl typesStep m' nm := by
 induction ds generalizing m with
 | nil => intro m' e; exact e
 | cons d r ih =>
   intro m' e
   rw [List.foldl_cons, List.foldl_cons]
   apply ih
   unfold typesStep putm
   split
   · rfl
   · exact e
theorem typesTab_ne (ds : List Px.Data) (nm : Nm) (h : nm ≠ sArr) : typesTab ds nm = tab0 ds nm := tab_step _ ds nm h _ (by unfold putm; rw [if_neg h])
theorem tab_low (m : Nm → Option Int) (nm : Nm) (h : uppB nm = false) : ∀ (ds : List Px.Data), (∀ d ∈ ds, goodD d) → ds.foldl typesStep m nm = m nm := by
 intro ds
 induction ds generalizing m with
 | nil => intro _; rfl
 | cons d r ih =>
   intro hg
   rw [List.foldl_cons, ih _ (fun x hx => hg x (by simp [hx]))]
   unfold typesStep putm
   rw [if_neg (fun e => by rw [e, (hg d (by simp)).1] at h; cases h)]
theorem given_low {nm : Nm} (h : uppB nm = false) : given nm = none := by
 unfold given putm
 rw [if_neg (fun e => by subst e; exact absurd h (by decide)), if_neg (fun e => by subst e; exact absurd h (by decide)), if_neg (fun e => by subst e; exact absurd h (by decide))]
theorem field_ok (ds : List Px.Data) (vars : List Nm) (nm : Nm) (n : Nat) (hg : ∀ d ∈ ds, goodD d) (hv : ∀ s ∈ vars, lowB s = true) (h : lowB nm = true ∨ uppB nm = true ∨ (nm = sArr ∧ n = 2)) :
 fieldOk (typesTab ds) vars nm n = !typBad ds vars nm n := by
 rcases h with h | h | ⟨rfl, rfl⟩
 · have hu := low_upp h
   have hne : nm ≠ sArr := fun e => by subst e; exact absurd h (by decide)
   have ht : typesTab ds nm = none := by rw [typesTab_ne ds nm hne, tab0, tab_low _ nm hu ds hg, given_low hu]
   rw [fieldOk_eq, ht, typBad, h, hu]
   simp [hasN]
 · have hl : lowB nm = false := by
    cases hl : lowB nm with
    | false => rfl
    | true => rw [low_upp hl] at h; cases h
   have hne : nm ≠ sArr := fun e => by subst e; exact absurd h (by decide)
   have hnv : vars.contains nm = false := by
    rw [Bool.eq_false_iff]
    intro hc
    have := hv nm (by simpa using hc)
    rw [hl] at this; cases this
   rw [fieldOk_eq, typesTab_ne ds nm hne, typBad, h, hl, hnv, paramsI]
   cases ht : tab0 ds nm with
   | none => simp
   | some c => simp
 · have hnv : vars.contains sArr = false := by
    rw [Bool.eq_false_iff]
    intro hc
    have := hv sArr (by simpa using hc)
    exact absurd this (by decide)
   have ht : typesTab ds sArr = some 2 := by
    rw [typesTab, tab_low _ sArr (by decide) ds hg]; rfl
   rw [fieldOk_eq, ht, typBad, hnv, show lowB sArr = false from by decide, show uppB sArr = false from by decide]
   rfl
theorem field_hdo (ds : List Px.Data) (vars : List Nm) (hg : ∀ d ∈ ds, goodD d) (hv : ∀ s ∈ vars, lowB s = true) : ∀ (f : Nat) (t : Px.TypeE) (a : Int), goodT f t → fieldS (typesTab ds) vars f a t = hdo a (typW ds vars f t)
 | 0, t, a, _ => by rw [fieldS, typW, hdo_nil]
 | f + 1, .mk p nm xs, a, h => by
   rw [goodT] at h
   rw [fieldS, typW, hdo_app, field_ok ds vars nm xs.length hg hv h.1, asked_hdo, Bool.not_not]
   exact fold_hdo _ _ xs _ (fun x hx a => field_hdo ds vars hg hv f x a (h.2.2 x hx))
theorem part_hdo (ds : List Px.Data) : ∀ (f : Nat) (x : Px.Pat) (s : Int × List Nm), goodP f x → partS (consTab ds) f s x = (hdo s.1 (patW ds f x s.2), s.2 ++ Sx.boundP f x) := by
 intro f
 induction f with
 | zero => intro x s _; rw [partS, patW, Sx.boundP, hdo_nil]; simp
 | succ f ih =>
   intro x s hx
   cases x with | mk k p nm i xs =>
   rw [goodP] at hx
   have key : ∀ (xs : List Px.Pat) (s : Int × List Nm), (∀ x ∈ xs, goodP f x) → xs.foldl (partS (consTab ds) f) s = (hdo s.1 (patsW (patW ds f) (Sx.boundP f) xs s.2), s.2 ++ xs.flatMap (Sx.boundP f)) := by
    intro xs
    induction xs with
    | nil => intro s _; rw [List.foldl_nil, patsW, hdo_nil]; simp
    | cons x r ihr =>
      intro s hs
      rw [List.foldl_cons, ih x s (hs x (by simp)), ihr _ (fun y hy => hs y (by simp [hy])), patsW, hdo_app]
      simp [List.append_assoc]
   rw [partS, patW, Sx.boundP]
   by_cases k1 : k = 1
   · have hxs := hx.1 k1
     subst hxs
     rw [if_pos k1, if_pos k1, List.foldl_nil, asked_hdo, Bool.not_not, if_neg (show ¬ k = 3 by omega), patsW]
     by_cases hh : hasN s.2 nm = true
     · rw [if_pos ⟨k1, hh⟩, show s.2.contains nm = true from hh]; rfl
     · rw [if_neg (fun e => hh e.2), show s.2.contains nm = false from by simpa [hasN] using hh]; rfl
   · rw [if_neg k1, if_neg (show ¬ (k = 1 ∧ hasN s.2 nm = true) from fun e => k1 e.1), if_neg k1, key _ _ hx.2]
     by_cases k3 : k = 3
     · rw [if_pos k3, if_pos k3, asked_hdo, conW, hdo_app]
     · rw [if_neg k3, if_neg k3, List.nil_append]
theorem walk_hdo (ds : List Px.Data) : ∀ (f : Nat) (x : Px.Expr) (a : Int) (vars : List Nm), goodX f x → walkS (ckE (consTab ds)) (ckP (consTab ds)) f a vars x = hdo a (exprW ds f x vars) := by
 intro f
 induction f with
 | zero => intro x a vars _; rw [walkS, exprW, hdo_nil]
 | succ f ih =>
   intro x a vars hx
   cases x with | mk k p nm i ns xs al =>
   rw [goodX] at hx
   rw [walkS, exprW, hdo_app, hdo_app]
   have h0 : ckE (consTab ds) (f + 1) a vars (.mk k p nm i ns xs al) = hdo a (exprH ds vars k p nm xs.length ++ one (twiceB ns) p) := by
    rw [ckE, exprAsk, exprH]
    by_cases k1 : k = 1
    · have hn := hx.1 (by omega) (by omega)
      subst hn
      rw [if_pos k1, if_pos k1, asked_hdo, show twiceB [] = false from rfl, show one false p = [] from rfl, List.append_nil]
      rfl
    · rw [if_neg k1, if_neg k1]
      by_cases k2 : k = 2
      · have hn := hx.1 (by omega) (by omega)
        subst hn
        rw [if_pos k2, if_pos k2, asked_hdo, show twiceB [] = false from rfl, show one false p = [] from rfl, List.append_nil, conW]
      · rw [if_neg k2, if_neg k2, List.nil_append]
        by_cases k3 : k = 3 ∨ k = 4
        · rw [if_pos k3, asked_hdo, twiceB]
        · have hn := hx.1 (fun e => k3 (.inl e)) (fun e => k3 (.inr e))
          subst hn
          rw [if_neg k3, show twiceB [] = false from rfl, show one false p = [] from rfl, hdo_nil]
   rw [h0, fold_hdo _ (fun y => exprW ds f y (vars ++ ns)) xs _ (fun y hy a => ih y a _ (hx.2.1 y hy))]
   refine fold_hdo _ _ al _ (fun y hy a => ?_)
   rw [hdo_app, ih y.2 _ _ (hx.2.2 y hy).2, ckP, part_hdo ds f y.1 (a, []) (hx.2.2 y hy).1]
theorem seeD_hdo : ∀ (l : List Px.Data) (s : Int × List Nm), (l.foldl seeD s).1 = hdo s.1 (seeW s.2 (l.map fun d => (d.name, d.pos)))
 | [], s => (hdo_nil s.1).symm
 | d :: r, s => by rw [List.foldl_cons, seeD_hdo r, List.map_cons, seeW, hdo_app, seeD, asked_hdo, Bool.not_not]; rfl
theorem seeF_hdo : ∀ (l : List Px.Def) (s : Int × List Nm), (l.foldl seeF s).1 = hdo s.1 (seeW s.2 (l.map fun d => (d.name, d.pos)))
 | [], s => (hdo_nil s.1).symm
 | d :: r, s => by rw [List.foldl_cons, seeF_hdo r, List.map_cons, seeW, hdo_app, seeF, asked_hdo, Bool.not_not]; rfl
theorem cons_hdo (ds : List Px.Data) (ps : List Nm) (hg : ∀ d ∈ ds, goodD d) (hv : ∀ s ∈ ps, lowB s = true) : ∀ (l : List Px.Con) (s : Int × List Nm), (∀ c ∈ l, ∀ t ∈ c.fields, goodT 50 t) → l.foldl (conS (typesTab ds) ps) s = (hdo s.1 (consW ds ps s.2 l), s.2 ++ l.map (·.name))
 | [], s, _ => by rw [consW, hdo_nil]; simp
 | c :: r, s, h => by
   rw [List.foldl_cons, cons_hdo ds ps hg hv r _ (fun x hx => h x (by simp [hx])), consW, hdo_app, hdo_app, conS, asked_hdo, Bool.not_not,
    fold_hdo _ (typW ds ps 50) c.fields _ (fun t ht a => field_hdo ds ps hg hv 50 t a (h c (by simp) t ht))]
   simp [hasN]
theorem datas_hdo (ds : List Px.Data) (hg : ∀ d ∈ ds, goodD d) : ∀ (l : List Px.Data) (s : Int × List Nm), (∀ d ∈ l, goodD d) → (l.foldl (dataS (typesTab ds)) s).1 = hdo s.1 (datasW ds s.2 l)
 | [], s, _ => (hdo_nil s.1).symm
 | d :: r, s, h => by
   rw [List.foldl_cons, datas_hdo ds hg r _ (fun x hx => h x (by simp [hx])), datasW, hdo_app, hdo_app, dataS, asked_hdo, cons_hdo ds d.params hg (h d (by simp)).2.1 d.cons _ (h d (by simp)).2.2]
   rfl
theorem main_hdo : ∀ (l : List Px.Def) (a : Int), mainS a l = hdo a (mainW l)
 | [], a => by rw [mainS, mainW]; exact asked_hdo a false 0
 | d :: r, a => by
   rw [mainS, mainW]
   split
   · rw [asked_hdo]
     congr 2
     by_cases h : d.params.length = 0
     · simp [h]
     · have h2 : 0 < d.params.length := by omega
       rw [decide_eq_false h, decide_eq_true h2]; rfl
   · exact main_hdo r a
/-- The checker's place is that of the first thing that is wrong. -/
theorem prog_hdo (p : Px.Prog) (h : goodProg p) : progS p = hdo (-1) (wrongW p) := by
 have e4 : progS4 p = hdo (-1) ((wrongDatas p ++ seeW [] (p.defs.map fun d => (d.name, d.pos))) ++ p.defs.flatMap (defW p.datas (p.defs.map (·.name)))) := by
  unfold progS4 progS3 progS2 progS1
  rw [hdo_app, hdo_app, wrongDatas, hdo_app]
  rw [fold_hdo _ (defW p.datas (p.defs.map (·.name))) p.defs _ (fun d hd a => by
   unfold defS defW
   rw [walk_hdo p.datas 50 d.body _ _ (h.2 d hd), asked_hdo, hdo_app]; rfl)]
  rw [seeF_hdo, datas_hdo p.datas h.1 p.datas _ h.1, seeD_hdo]
 unfold progS
 rw [main_hdo, e4, wrongW, ← hdo_app]
end Go.Proofs.Ytgoacbomphlhjaa

namespace Go.Proofs.Ytgoacbomphlhjaa
open Go.Lib (hid)
open List renaming getElem_toArray → jX, getElem_cons_succ → jY, getElem_cons_zero → jZ, setIfInBounds_toArray → JA, set_cons_zero → JB, set_cons_succ → JC
open Go Go.RowKit
theorem parI_some {ds : List Px.Data} {nm : Nm} {c : Int} (h : tab0 ds nm = some c) : paramsI ds nm = c := by rw [paramsI, h]
theorem parI_none {ds : List Px.Data} {nm : Nm} (h : tab0 ds nm = none) : paramsI ds nm = -1 := by rw [paramsI, h]
theorem given_none {nm : Nm} (h1 : nm ≠ sInt) (h2 : nm ≠ sBool) (h3 : nm ≠ sCpx) : given nm = none := by simp [given, putm, h1, h2, h3]
set_option maxHeartbeats 4000000 in
set_option maxRecDepth 100000 in
theorem params_any (f : Nat) (p : Px.Prog) (v : Value) (nm : Nm) (w : World) (hp : ProgAt f w v p) (hw : (p.datas.map Sx.dw).sum ≤ 400000) :
 Calls Try.prog 72 #[v, .string ⟨nm.toArray⟩] w fun e w' => e = .returned (.int .i64 (paramsI p.datas nm)) ∧ Below w.heap.size w w' := by
 obtain ⟨dv, fv, rfl, h1, h2⟩ := hp
 obtain ⟨q1, c1, rfl⟩ := h1.len
 obtain ⟨q2, c2, rfl⟩ := h2.len
 have HR := hid h1
 have hdl : p.datas.length ≤ 400000 := Nat.le_trans (Sx.len_sum Sx.dw _ (fun x _ => by unfold Sx.dw; omega)) hw
 clear h1 h2 hw
 go_enter Try.func72, Try.ntmps72
 have EX := hid (jI w #[.slice q1 p.datas.length c1, .slice q2 p.defs.length c2] 27)
 have HB := hid (show Below w.heap.size w (w.alloc (.cells #[.slice q1 p.datas.length c1, .slice q2 p.defs.length c2] 27)) from (Below.refl _ _).alloc (Nat.le_refl _) _)
 go_upto_region 1 with fail
 generalize w.alloc (.cells #[.slice q1 p.datas.length c1, .slice q2 p.defs.length c2] 27) = w1 at EX HB ⊢
 have e0 := jA EX.out 0 _ rfl; have e1 := jA EX.out 1 _ rfl
 go_wp2_with fail
 go_loopw [5] (fun i wr => ∃ k : Nat, i = .int .i64 ((k : Int) - 1) ∧ k ≤ p.datas.length ∧ Hid (tab0 p.datas nm = ((p.datas.take k).foldl typesStep given) nm) ∧ wr = w1) (fun i _ => (intOf i + 1).toNat)
 case atStart => exact ⟨p.datas.length, by go_num, Nat.le_refl _, hid (by rw [List.take_length]; rfl), rfl⟩
 case round =>
  obtain ⟨k, rfl, hk, HT, rfl⟩ := hrel
  by_cases hk0 : k = 0
  · subst hk0
    have hT : tab0 p.datas nm = given nm := HT.out
    by_cases hf : nm = sInt
    · subst hf
      have HV := hid (parI_some (hT.trans (show given sInt = some 0 by decide)))
      clear hT HT
      go_wp2_with fail
      go_ret
      exact ⟨by rw [HV.out]; rfl, HB.out⟩
    · have ha : ¬ (⟨nm.toArray⟩ : ByteArray) = { data := #[73, 110, 116] } := arr_ne hf
      have ha2 : (nm == [73, 110, 116]) = false := beq_eq_false_iff_ne.2 hf
      have ha3 : ¬ nm.toArray = #[73, 110, 116] := fun e => hf (show nm = [73, 110, 116] by simpa using congrArg Array.toList e)
      by_cases ht : nm = sBool
      · subst ht
        have HV := hid (parI_some (hT.trans (show given sBool = some 0 by decide)))
        clear hT HT
        go_wp2_with fail
        go_ret
        exact ⟨by rw [HV.out]; rfl, HB.out⟩
      · have hb : ¬ (⟨nm.toArray⟩ : ByteArray) = { data := #[66, 111, 111, 108] } := arr_ne ht
        have hb2 : (nm == [66, 111, 111, 108]) = false := beq_eq_false_iff_ne.2 ht
        have hb3 : ¬ nm.toArray = #[66, 111, 111, 108] := fun e => ht (show nm = [66, 111, 111, 108] by simpa using congrArg Array.toList e)
        by_cases hc : nm = sCpx
        · subst hc
          have HV := hid (parI_some (hT.trans (show given sCpx = some 0 by decide)))
          clear hT HT
          go_wp2_with fail
          go_ret
          exact ⟨by rw [HV.out]; rfl, HB.out⟩
        · have hd : ¬ (⟨nm.toArray⟩ : ByteArray) = { data := #[67, 112, 120] } := arr_ne hc
          have hd2 : (nm == [67, 112, 120]) = false := beq_eq_false_iff_ne.2 hc
          have hd3 : ¬ nm.toArray = #[67, 112, 120] := fun e => hc (show nm = [67, 112, 120] by simpa using congrArg Array.toList e)
          have HV := hid (parI_none (hT.trans (given_none hf ht hc)))
          clear hT HT
          go_wp2_with fail
          go_ret
          exact ⟨by rw [HV.out]; rfl, HB.out⟩
  · obtain ⟨m, rfl⟩ : ∃ m, k = m + 1 := ⟨k - 1, by omega⟩
    obtain ⟨d, hd⟩ : ∃ x, p.datas[m]? = some x := ⟨_, List.getElem?_eq_getElem (by omega)⟩
    rcases HR.out with ⟨h0, _⟩ | ⟨g, of, c', hv, g1, g2, g3⟩
    · rw [h0] at hk; simp at hk
    injection hv with hq1 _ hq2
    subst hq1; subst hq2
    obtain ⟨u, hu, _, hcell⟩ := g3 m d hd
    obtain ⟨q3, c3, q4, c4, rfl, _, hcr⟩ := dataAt_sh hu
    have z0 := jE HB.out (hcell 0 _ rfl); have z1 := jE HB.out (hcell 1 _ rfl); have z2 := jE HB.out (hcell 2 _ rfl); have z3 := jE HB.out (hcell 3 _ rfl)
    have hk1 : (m : Int) < (p.datas.length : Int) := by omega
    have hk2 : (p.datas.length : Int) ≤ (c1 : Int) := by omega
    have hk3 := g2
    have hm1 : ((m + 1 : Nat) : Int) - 1 = (m : Int) := by omega
    rw [hm1]
    have HT2 : Hid (tab0 p.datas nm = typesStep ((p.datas.take m).foldl typesStep given) d nm) := hid (by rw [HT.out, take_fold typesStep p.datas m d hd])
    clear g1 g2 g3 hcell hu hd hcr HT
    by_cases he : d.name = nm
    · have HV := hid (parI_some (show tab0 p.datas nm = some (d.params.length : Int) by rw [HT2.out, typesStep, putm, if_pos he.symm]))
      rw [he] at z1
      clear HT2
      go_wp2_with fail
      go_ret
      exact ⟨by rw [HV.out]; rfl, HB.out⟩
    · have hne : (d.name == nm) = false := beq_eq_false_iff_ne.2 he
      have ha : ¬ (⟨d.name.toArray⟩ : ByteArray) = ⟨nm.toArray⟩ := arr_ne he
      have ha3 : ¬ d.name.toArray = nm.toArray := fun e => he (by simpa using congrArg Array.toList e)
      have HT4 := hid (HT2.out.trans (by rw [typesStep, putm, if_neg (fun e => he e.symm)]))
      clear HT2
      go_wp2_with fail
      go_roundw
      case rel => exact ⟨m, by go_num, by omega, HT4, trivial⟩
      case measure => first | (simp [intOf]; done) | (simp [intOf]; omega)
/-- A list of places of the call's own comes back. -/
def RNewO (w : World) (l : List Nat) (e : Ending) (w' : World) : Prop := ∃ v, e = .returned v ∧ Below w.heap.size w w' ∧ OwnI w' w.heap.size v l
theorem ownI_one {w : World} {g b p : Nat} (h : w.heap[g]? = some (.cells #[encI p] 3 (0, 0))) (hb : b ≤ g) : OwnI w b (.slice (some ⟨g, 0, none⟩) 1 1) [p] :=
 ⟨rfl, .inr ⟨g, 1, #[encI p], rfl, hb, h, Nat.le_refl _, by unfold maxLen; omega, rfl, rfl⟩⟩
theorem ownI_nil (w : World) (b : Nat) : OwnI w b (.slice none 0 0) [] := World.ownsRow_nil _ _ _ _
theorem ownI_row {w : World} {b : Nat} {v : Value} {l : List Nat} (h : OwnI w b v l) : RowI w v l := rowI_own h rfl
theorem ownI_base {w : World} {b b' : Nat} {v : Value} {l : List Nat} (h : OwnI w b v l) (hb : b' ≤ b) : OwnI w b' v l := by
 refine ⟨h.1, ?_⟩
 rcases h.2 with h | ⟨g, cap, cur, h1, h2, h3⟩
 · exact .inl h
 · exact .inr ⟨g, cap, cur, h1, Nat.le_trans hb h2, h3⟩
/-- A list of names stays while one of places grows. -/
theorem ownS_stays {w w' : World} {b b' : Nat} {v v' iv : Value} {l l0 : List Nat} {li : List Nm} (h : Appd encI 3 w b v l v' w') (ho : OwnI w b v l0) (hi : OwnS w b' iv li) : OwnS w' b' iv li :=
 own_stays hi fun g hg => h.2.1.block g (hi.lt g hg).2 (fun e => own_type_ne ho hi (by decide) g e.symm hg)
set_option maxHeartbeats 4000000 in
set_option maxRecDepth 100000 in
theorem refcon_any (f : Nat) (p : Px.Prog) (v : Value) (nm : Nm) (n : Int) (pos : Nat) (w : World) (hp : ProgAt f w v p) (hw : (p.datas.map Sx.dw).sum ≤ 400000) :
 Calls Try.prog 51 #[v, .string ⟨nm.toArray⟩, .int .i64 n, .int .i64 pos] w (RNewO w (conW p.datas nm n pos)) := by
 obtain ⟨q1, c1, q2, c2, rfl⟩ := progAt_sh hp
 have HP := hid hp
 have HW := hid hw
 clear hp hw
 go_enter Try.func51, Try.ntmps51
 have EX := hid (jI w #[.slice q1 p.datas.length c1, .slice q2 p.defs.length c2] 27)
 have HB := hid (show Below w.heap.size w (w.alloc (.cells #[.slice q1 p.datas.length c1, .slice q2 p.defs.length c2] 27)) from (Below.refl _ _).alloc (Nat.le_refl _) _)
 go_upto_region 1 with fail
 generalize w.alloc (.cells #[.slice q1 p.datas.length c1, .slice q2 p.defs.length c2] 27) = w1 at EX HB ⊢
 have e0 := jA EX.out 0 _ rfl; have e1 := jA EX.out 1 _ rfl
 go_wp2_with fail
 clear e0 e1 EX
 refine (find_any f p _ nm _ (jP HP.out HB.out) HW.out).mono ?_
 rintro e w2 ⟨rfl, hb2⟩
 have HB2 := hid (HB.out.trans (hb2.mono HB.out.size))
 clear hb2 HP HW HB
 have hs2 := HB2.out.size
 cases hc : consTab p.datas nm with
 | none =>
   have HC := hid (show conW p.datas nm n pos = [pos] by rw [conW, conIs, hc]; rfl)
   rw [findV_none hc]
   clear hc
   have E3 := hid (jI w2 #[encI pos] 3)
   go_wp2_with fail
   go_ret
   rw [HC.out]
   exact ⟨_, rfl, HB2.out.alloc HB2.out.size _, ownI_one E3.out hs2⟩
 | some c =>
   rw [findV_some hc]
   by_cases hn : c.2.2 = n
   · have HC := hid (show conW p.datas nm n pos = [] by rw [conW, conIs, hc]; simp [one, hn])
     rw [hn]
     clear hc
     go_wp2_with fail
     go_ret
     rw [HC.out]
     exact ⟨_, rfl, HB2.out, ownI_nil _ _⟩
   · have HC := hid (show conW p.datas nm n pos = [pos] by rw [conW, conIs, hc]; simp [one, hn])
     have hn2 : (c.2.2 != n) = true := by simp [hn]
     clear hc
     have E3 := hid (jI w2 #[encI pos] 3)
     go_wp2_with fail
     go_ret
     rw [HC.out]
     exact ⟨_, rfl, HB2.out.alloc HB2.out.size _, ownI_one E3.out hs2⟩
theorem addsB_pre : ∀ (a b : List Nm) (c : Nm → Int), addsB c (a ++ b) = true → addsB c a = true
 | [], b, c, _ => rfl
 | s :: r, b, c, h => by
   rw [List.cons_append, addsB, Bool.and_eq_true] at h
   rw [addsB, Bool.and_eq_true]
   exact ⟨h.1, addsB_pre r b _ h.2⟩
theorem addsB_take {l : List Nm} {k : Nat} {s : Nm} (h : l[k]? = some s) : addsB (fun _ => 0) (l.take (k + 1)) = (addsB (fun _ => 0) (l.take k) && !hasN (l.take k) s) := by
 rw [List.take_add_one, h, Option.toList_some, addsB_snoc, bumps_count]
 congr 1
 rw [Bool.eq_iff_iff]
 simp only [decide_eq_true_eq, Bool.not_eq_true', hasN]
 rw [← Bool.not_eq_true, List.contains_iff_mem, ← List.count_pos_iff]
 omega
theorem row_take {α : Type} {sz : Nat} {rep : Value → α → Prop} {w : World} {q : Option Addr} {n c : Nat} {l : List α} (h : RowAt sz rep w (.slice q n c) l) (k : Nat) (hk : k ≤ l.length) : RowAt sz rep w (.slice q k c) (l.take k) := by
 by_cases h0 : k = 0
 · subst h0; exact .inl ⟨rfl, _, _, rfl⟩
 · rcases h with ⟨h1, _⟩ | ⟨g, o, c', hv, g1, g2, g3⟩
   · subst h1; simp at hk; omega
   · injection hv with e1 e2 e3
     subst e1; subst e3
     refine .inr ⟨g, o, c, by rw [List.length_take, Nat.min_eq_left hk], by rw [List.length_take]; omega, g2, fun i x hi => ?_⟩
     rw [List.getElem?_take] at hi
     split at hi
     · exact g3 i x hi
     · cases hi
set_option maxHeartbeats 4000000 in
set_option maxRecDepth 100000 in
theorem twice_any (lv : Value) (l : List Nm) (w : World) (hr : RowS w lv l) (hl : l.length ≤ 400000) :
 Calls Try.prog 26 #[lv] w fun e w' => e = .returned (.bool (twiceB l)) ∧ Below w.heap.size w w' := by
 obtain ⟨q, cp, rfl⟩ := hr.len
 have HR := hid hr
 go_enter Try.func26, Try.ntmps26
 go_wp2_with fail
 go_loopw [3] (fun i wr => ∃ k : Nat, i = .int .i64 k ∧ k ≤ l.length ∧ Hid (addsB (fun _ => 0) (l.take k) = true) ∧ Hid (Below w.heap.size w wr)) (fun i _ => l.length - (intOf i).toNat)
 case atStart => exact ⟨0, rfl, Nat.zero_le _, hid rfl, hid (Below.refl _ _)⟩
 case round =>
  obtain ⟨k, rfl, hk, HN, HB⟩ := hrel
  by_cases hlt : k < l.length
  · obtain ⟨x, hx⟩ : ∃ x, l[k]? = some x := ⟨_, List.getElem?_eq_getElem hlt⟩
    rcases HR.out with ⟨h0, _⟩ | ⟨g, of, c', hv, g1, g2, g3⟩
    · rw [h0] at hlt; simp at hlt
    injection hv with hq1 _ hq2
    subst hq1; subst hq2
    obtain ⟨u, hu, _, hcell⟩ := g3 k x hx
    have hu' : u = .string ⟨x.toArray⟩ := hu
    subst hu'
    have h0 := jE HB.out (hcell 0 _ rfl)
    simp only [Nat.mul_one, Nat.add_zero] at h0
    have hk1 : (k : Int) < (l.length : Int) := by omega
    have hk2 : (l.length : Int) ≤ (cp : Int) := by omega
    have hk4 : (k : Int) ≤ (cp : Int) := by omega
    have HTK := hid (addsB_take hx)
    have hk3 := g2
    have HHAS := fun (w' : World) (hb : Below wr.heap.size wr w') => refHas_any _ (l.take k) x w' (row_take (jQ HR.out (HB.out.trans (hb.mono HB.out.size))) k hk)
    clear g1 g2 g3 hcell hu hx hr
    go_wp2_with fail
    go_quiet ((go_at_call 16; exact Calls.quiet_of_same (HHAS _ (below_drewN (Below.refl _ wr) _))))
    have HBq := hid (below_drewN HB.out nq)
    generalize wr.drewN nq = w2 at HBq ⊢
    cases hh : hasN (l.take k) x with
    | true =>
      have HV := hid (show twiceB l = true by
       have h1 := HTK.out
       rw [hh, Bool.not_true, Bool.and_false] at h1
       rw [twiceB]
       cases h2 : addsB (fun _ => 0) l with
       | false => rfl
       | true =>
         rw [← List.take_append_drop (k + 1) l] at h2
         rw [addsB_pre _ _ _ h2] at h1
         cases h1)
      clear hh HHAS h0
      go_wp2_with fail
      go_ret
      exact ⟨by rw [HV.out]; rfl, HBq.out⟩
    | false =>
      have HN2 := hid (show addsB (fun _ => 0) (l.take (k + 1)) = true by rw [HTK.out, hh, HN.out]; rfl)
      clear hh HHAS h0
      go_wp2_with fail
      go_roundw
      case rel => exact ⟨k + 1, by go_num, by omega, HN2, HBq⟩
      case measure => simp [intOf]; omega
  · obtain rfl : k = l.length := by omega
    have HV := hid (show twiceB l = false by have := HN.out; rw [List.take_length] at this; rw [twiceB, this]; rfl)
    go_wp2_with fail
    go_ret
    exact ⟨by rw [HV.out]; rfl, HB.out⟩
end Go.Proofs.Ytgoacbomphlhjaa
