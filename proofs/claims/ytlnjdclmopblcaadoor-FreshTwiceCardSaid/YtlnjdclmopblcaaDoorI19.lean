import Derived.Test.YtlnjdclmopblcaaDoorI18
import Derived.Test.YtlnjdclmopblcaaDoorI17
import Derived.Lib.ItoaLen
import Derived.Deep.DeepCutAuto
import Derived.Deep.QuietTactic
import Derived.BigQuiet
set_option linter.unusedVariables false
set_option linter.unusedSimpArgs false
set_option maxHeartbeats 40000000
set_option maxRecDepth 100000
namespace Go.Proofs.YtlnjdclmopblcaaDoor
open Go Go.RowKit
open Go.Lib (hid)
namespace Fr
theorem pF (s : Nm) : ∀ (l out : List Nm), s ∈ Sx.once out l ↔ s ∈ out \/ s ∈ l := by
 intro l
 induction l with
 | nil => intro out; simp [Sx.once]
 | cons a r ih =>
   intro out; rw [Sx.once, ih]
   split
   . rename_i h; have ha : a ∈ out := by simpa using h
     constructor
     . rintro (h | h)
       . exact .inl h
       . exact .inr (UZ _ h)
     . rintro (h | h)
       . exact .inl h
       . rcases jf.1 h with rfl | h
         . exact .inl ha
         . exact .inr h
   . simp only [jW, jf, Ja, Qu, or_assoc]
theorem FJ {b : Bool} {p : Nat} (h : one b p = []) : b = false := by
 unfold one at h; cases b with
 | true => simp at h
 | false => rfl
theorem uV (ds : List Px.Data) : ∀ (f : Nat) (x : Px.Expr) (vars but : List Nm), QT ds f x (vars ++ but) = [] -> ∀ u ∈ Sx.qE f x but, u ∈ vars
 | 0, x, vars, but, _, u, hu => by rw [Sx.qE] at hu; cases hu
 | f + 1, .mk k p nm i ns xs al, vars, but, h, u, hu => by
   rw [QT] at h; obtain ⟨h1, h2⟩ := qh.1 h; obtain ⟨h3, h4⟩ := qh.1 h1; obtain ⟨h5, _⟩ := qh.1 h3; rw [Sx.qE] at hu
   rcases jW.1 hu with hu | hu
   . rcases jW.1 hu with hu | hu
     . split at hu
       . rename_i hk; rw [j4] at hu; subst hu; unfold VI at h5; rw [if_pos hk.1] at h5; have h6 := FJ h5
         have h7 : u ∈ vars ++ but := by
          unfold Qi at h6
          exact Classical.byContradiction fun hn => by
           have h8 : (vars ++ but).contains u = false := Gc.2 fun e => hn (uL.1 e)
           rw [h8] at h6; cases h6
         rcases jW.1 h7 with h7 | h7
         . exact h7
         . exact absurd h7 (by simpa using hk.2)
       . cases hu
     . obtain ⟨y, hy, hu⟩ := QS.1 hu; have h6 := dI.1 h4 y hy; rw [jg] at h6; exact uV ds f y vars (but ++ ns) h6 u hu
   . obtain ⟨y, hy, hu⟩ := QS.1 hu; have h6 := dI.1 h2 y hy; obtain ⟨_, h7⟩ := qh.1 h6; rw [jg] at h7; exact uV ds f y.2 vars (but ++ Sx.jV f y.1) h7 u hu
theorem XP : ∀ (l : List (Nm × Nat)) (seen : List Nm), YO seen l = [] -> (l.map (·.1)).Nodup /\ ∀ s ∈ l.map (·.1), s ∉ seen
 | [], seen, _ => ⟨List.nodup_nil, fun s hs => by cases hs⟩
 | (s, p) :: r, seen, h => by
   rw [YO] at h; obtain ⟨h1, h2⟩ := qh.1 h; have h3 := FJ h1; obtain ⟨h4, h5⟩ := XP r (seen ++ [s]) h2; rw [je]; refine ⟨kJ.2 ⟨fun hm => h5 s hm (by simp), h4⟩, fun t ht => ?_⟩
   rcases jf.1 ht with rfl | ht
   . unfold Qi at h3; simpa using h3
   . exact fun hm => h5 t ht (by simp [hm])
theorem XQ : ∀ (l : List Nm) (c : Nm -> Int), l.Nodup -> (∀ s ∈ l, c s = 0) -> yR c l = true
 | [], c, _, _ => rfl
 | s :: r, c, h, hc => by
   obtain ⟨h1, h2⟩ := kJ.1 h; rw [yR, JL (hc s (by simp)), qK]; refine XQ r _ h2 fun t ht => ?_
   unfold bump; rw [if_neg fun e => h1 (by rw [<- e]; exact ht)]; exact hc t (by simp [ht])
theorem Be {l : List Nm} (h : l.Nodup) : Qr l = false := by
 unfold Qr; rw [XQ l _ h fun _ _ => rfl]; rfl
structure vM (p : Px.Prog) : Prop where
 names : (p.defs.map (·.name)).Nodup
 uses : ∀ d ∈ p.defs, ∀ u ∈ Sx.qE 50 d.body d.params, u ∈ p.defs.map (·.name)
 good : ∀ d ∈ p.defs, zC 50 d.body
 whole : ∀ d ∈ p.defs, J9 50 d.body = true
theorem Bf (l : List UInt8) (p : Px.Prog) (h : Px.program l = .done p) (hw : Zv p = []) : vM p := by
 unfold Zv at hw; obtain ⟨h1, _⟩ := qh.1 hw; obtain ⟨h2, h3⟩ := qh.1 h1; obtain ⟨_, h4⟩ := qh.1 h2; have h5 := (XP _ _ h4).1; rw [List.map_map] at h5; refine ⟨h5, fun d hd => ?_, (Px.UO l p h).2, Px.XL l p h⟩; have h6 := dI.1 h3 d hd; unfold Uv at h6; obtain ⟨_, h7⟩ := qh.1 h6; exact uV p.jF 50 d.body _ _ h7
theorem XR (p : Px.Prog) (h : vM p) : vM (prog 50 p) := by
 have hn := xg 50 p; refine ⟨by rw [hn]; exact h.names, ?_, ?_, ?_⟩
 . rw [hn]; exact Ye _ (fun d : Px.Def => ∀ u ∈ Sx.qE 50 d.body d.params, u ∈ p.defs.map (·.name)) p.defs (fun d hd n => LA _ 50 d (h.good d hd) (h.uses d hd) n) 0
 . exact Ye _ (fun d : Px.Def => zC 50 d.body) p.defs (fun d hd n => VM _ 50 d.body _ _ (h.good d hd)) 0
 . exact Ye _ (fun d : Px.Def => J9 50 d.body = true) p.defs (fun d hd n => VL _ 50 d.body _ _ (h.whole d hd)) 0
def Lg (p : Px.Prog) : List Nm := p.defs.flatMap fun d => d.params ++ QF 50 d.body
theorem uW (p : Px.Prog) (h : vM p) : (Lg (prog 50 p)).Nodup /\ ∀ s ∈ Lg (prog 50 p), s ∉ p.defs.map (·.name) := by
 obtain ⟨m, hm⟩ := NI 50 p h.good; obtain ⟨h1, h2⟩ := hm.nodup; exact ⟨h1, fun s hs => (h2 s hs).1⟩
theorem WE {l : List Px.Def} (h : (l.flatMap fun d => d.params ++ QF 50 d.body).Nodup) : ∀ d ∈ l, d.params.Nodup := by
 induction l with
 | nil => intro d hd; cases hd
 | cons a r ih =>
   rw [qP] at h; obtain ⟨h1, h2, _⟩ := List.nodup_append.1 h; intro d hd
   rcases jf.1 hd with rfl | hd
   . exact (List.nodup_append.1 h1).1
   . exact ih h2 d hd
def Vs (p : Px.Prog) : Bool := !Qr (p.defs.map (·.name)) && p.defs.all fun d => ((Sx.gU 50 d.body).all fun s => Qi d.params s || Qi (p.defs.map (·.name)) s) && (!Qr d.params && J9 50 d.body)
theorem XT : ∀ (f : Nat) (x : Px.Expr) (but A : List Nm), ∀ u ∈ Sx.qE f x but, u ∈ Sx.qE f x (A ++ but) \/ u ∈ A
 | 0, x, but, A, u, hu => by rw [Sx.qE] at hu; cases hu
 | f + 1, .mk k p nm i ns xs al, but, A, u, hu => by
   rw [Sx.qE] at hu ⊢
   rcases jW.1 hu with hu | hu
   . rcases jW.1 hu with hu | hu
     . split at hu
       . rename_i hk; rw [j4] at hu; subst hu; by_cases hA : u ∈ A
         . exact .inr hA
         . refine .inl (jW.2 (.inl (jW.2 (.inl ?_)))); have hb : u ∉ but := by simpa using hk.2
           rw [if_pos ⟨hk.1, by simp [hA, hb]⟩]; simp
       . cases hu
     . obtain ⟨y, hy, hu⟩ := QS.1 hu
       rcases XT f y (but ++ ns) A u hu with h | h
       . exact .inl (jW.2 (.inl (jW.2 (.inr (QS.2 ⟨y, hy, by rw [jg]; exact h⟩)))))
       . exact .inr h
   . obtain ⟨y, hy, hu⟩ := QS.1 hu
     rcases XT f y.2 (but ++ Sx.jV f y.1) A u hu with h | h
     . exact .inl (jW.2 (.inr (QS.2 ⟨y, hy, by rw [jg]; exact h⟩)))
     . exact .inr h
theorem VV (p : Px.Prog) (h : vM p) : Vs (prog 50 p) = true := by
 have hr := XR p h; have hp := WE (uW p h).1; unfold Vs; rw [Be hr.names, Ve, qK, Ju]; intro d hd; rw [Be (hp d hd), hr.whole d hd, Ve, qK, Y4, Ju]; intro s hs; unfold Sx.gU at hs; rw [pF] at hs
 rcases hs with hs | hs
 . cases hs
 rcases XT 50 d.body [] d.params s hs with h1 | h1
 . rw [Jl] at h1; have := hr.uses d hd s h1; unfold Qi; simp [this]
 . unfold Qi; simp [h1]
def ku : List Nm -> List Nm -> Bool
 | _, [] => true
 | seen, s :: r => !Qi seen s && ku (seen ++ [s]) r
theorem Bg : ∀ (l seen : List Nm), l.Nodup -> (∀ s ∈ l, s ∉ seen) -> ku seen l = true
 | [], seen, _, _ => rfl
 | s :: r, seen, h, hn => by
   obtain ⟨h1, h2⟩ := kJ.1 h; have h3 : Qi seen s = false := by unfold Qi; simpa using hn s (by simp)
   rw [ku, h3, Ve, qK]; refine Bg r _ h2 fun t ht hm => ?_
   rcases jW.1 hm with hm | hm
   . exact hn t (by simp [ht]) hm
   . rw [j4.1 hm] at ht; exact h1 ht
theorem Lh (p : Px.Prog) (h : vM p) : ku (p.defs.map (·.name)) (Lg (prog 50 p)) = true :=
 Bg _ _ (uW p h).1 (uW p h).2
end Fr
namespace Fr
def yf (ρ : Env) : Prop := ∀ s, (ρ s).length <= s.length + 22
theorem Rm : yf (fun _ => []) := fun s => jh _
theorem Rn (s : Nm) (k : Nat) (hk : k <= 1000000001) : (dot (cut s) k).length <= s.length + 22 := by
 have h1 : (cut s).length <= s.length := by unfold cut; exact (List.takeWhile_prefix _).length_le
 have h2 := Lib.itoa_length_le (k : Int) (by omega) (by omega); unfold dot; rw [jE, JG]; omega
theorem XU {D : List Nm} {s : Nm} {n : Nat} {ρ : Env} (hn : n + (D.length + 1) * 1 <= 1000000000) : (bnd D s n ρ).2.1.length <= s.length + 22 := by
 have h1 := zz D s n ρ; exact Rn s _ (by have : (bnd D s n ρ).1 = new D (cut s) n := rfl; omega)
theorem WG {D : List Nm} {s : Nm} {n : Nat} {ρ : Env} (hn : n + (D.length + 1) * 1 <= 1000000000) (h : yf ρ) : yf (bnd D s n ρ).2.2 := by
 intro x; show (upd ρ s (bnd D s n ρ).2.1 x).length <= _; unfold upd; by_cases e : x = s
 . rw [if_pos e, e]; exact XU hn
 . rw [if_neg e]; exact h x
section
variable {α : Type} {G : α -> Nat -> Env -> Nat × α × Env} {K : Nat} {c : α -> Nat}
theorem Kl (hle : ∀ x n ρ, (G x n ρ).1 <= n + K * c x) (h : ∀ x n ρ, yf ρ -> n + K * c x <= 1000000000 -> yf (G x n ρ).2.2) : ∀ (l : List α) (n : Nat) (ρ : Env), yf ρ -> n + K * (l.map c).sum <= 1000000000 -> yf (qO G l n ρ).2.2
 | [], n, ρ, hr, _ => hr
 | x :: r, n, ρ, hr, hn => by
   rw [je, jy, JU] at hn; rw [qO]; have h1 := hle x n ρ; exact Kl hle h r _ _ (h x n ρ hr (by omega)) (by omega)
theorem uX (hle : ∀ x n ρ, (G x n ρ).1 <= n + K * c x) (sz : α -> Nat) (h : ∀ x n ρ, yf ρ -> n + K * c x <= 1000000000 -> yf (G x n ρ).2.2) (hs : ∀ x n ρ, yf ρ -> n + K * c x <= 1000000000 -> sz (G x n ρ).2.1 <= 23 * sz x) :
 ∀ (l : List α) (n : Nat) (ρ : Env), yf ρ -> n + K * (l.map c).sum <= 1000000000 -> ((qO G l n ρ).2.1.map sz).sum <= 23 * (l.map sz).sum
 | [], n, ρ, hr, _ => by simp [qO]
 | x :: r, n, ρ, hr, hn => by
   rw [je, jy, JU] at hn; rw [qO, je, jy, je, jy, JU]; have h1 := hle x n ρ; have h2 := hs x n ρ hr (by omega); have h3 := uX hle sz h hs r (G x n ρ).1 (G x n ρ).2.2 (h x n ρ hr (by omega)) (by omega); omega
theorem YS (hle : ∀ x n ρ, (G x n ρ).1 <= n + K * c x) (P : α -> Prop) : ∀ (l : List α), (∀ x ∈ l, ∀ n ρ, n + K * c x <= 1000000000 -> P (G x n ρ).2.1) -> ∀ (n : Nat) (ρ : Env), n + K * (l.map c).sum <= 1000000000 -> ∀ y ∈ (qO G l n ρ).2.1, P y
 | [], _, n, ρ, _, y, hy => by simp [qO] at hy
 | x :: r, h, n, ρ, hn, y, hy => by
   rw [je, jy, JU] at hn; rw [qO] at hy; have h1 := hle x n ρ
   rcases jf.1 hy with rfl | hy
   . exact h x (by simp) n ρ (by omega)
   . exact YS hle P r (fun z hz => h z (by simp [hz])) _ _ (by omega) y hy
theorem VW (m : α -> Nat) (h : ∀ x n ρ, m (G x n ρ).2.1 = m x) : ∀ (l : List α) (n : Nat) (ρ : Env), ((qO G l n ρ).2.1.map m).sum = (l.map m).sum
 | [], n, ρ => rfl
 | x :: r, n, ρ => by rw [qO, je, jy, je, jy, h, VW m h r]
end
theorem Bh (D : List Nm) : ∀ (f : Nat) (x : Px.QJ) (n : Nat) (ρ : Env), cP f (pat D f x n ρ).2.1 = cP f x
 | 0, x, n, ρ => rfl
 | f + 1, .mk k p nm i xs, n, ρ => by
   simp only [pat, cP]; rw [VW (cP f) (Bh D f)]
theorem XV (D : List Nm) : ∀ (f : Nat) (x : Px.Expr) (n : Nat) (ρ : Env), cE f (expr D f x n ρ).2 = cE f x
 | 0, x, n, ρ => rfl
 | f + 1, .mk k p nm i ns xs al, n, ρ => by
   simp only [expr, cE]; have h1 := VW (G := GE D f) (cE f) (fun x n ρ => XV D f x n ρ) xs (qO (bnd D) ns n ρ).1 (qO (bnd D) ns n ρ).2.2; rw [VU] at h1
   have h2 := VW (G := GA D f) (cA f) (fun a n ρ => by
    show cP f (pat D f a.1 n ρ).2.1 + cE f (expr D f a.2 _ _).2 = _
    rw [Bh, XV]; rfl) al (run (fun x m => expr D f x m (qO (bnd D) ns n ρ).2.2) xs (qO (bnd D) ns n ρ).1).1 ρ
   rw [XJ] at h2; have h3 := zf (bnd D) ns n ρ; have e : (fun a : Px.QJ × Px.Expr => cP f a.1 + cE f a.2) = cA f := rfl
   dsimp only at h1 h2
   rw [h3, e, h1, h2]
theorem pG (D : List Nm) (f : Nat) (d : Px.Def) (n : Nat) (ρ : Env) : cD f (GD D f d n ρ).2.1 = cD f d := by
 show (qO (bnd D) d.params n ρ).2.1.length + cE f (expr D f d.body _ _).2 = _; rw [zf, XV]; rfl
theorem ym {α : Type} (g h : α -> Nat) : ∀ (l : List α), (∀ x ∈ l, g x <= h x) -> (l.map g).sum <= (l.map h).sum
 | [], _ => jB _
 | x :: r, hx => by
   rw [je, jy, je, jy]; have h1 := hx x (by simp); have h2 := ym g h r fun y hy => hx y (by simp [hy])
   omega
theorem sW : ∀ (f : Nat) (x : Px.QJ), cP f x <= Sx.pw f x
 | 0, x => jB _
 | f + 1, .mk k p nm i xs => by
   rw [cP, Sx.pw]; have := ym (cP f) (Sx.pw f) xs fun x _ => sW f x
   omega
theorem pI : ∀ (f : Nat) (x : Px.Expr), cE f x <= Sx.ew f x
 | 0, x => jB _
 | f + 1, .mk k p nm i ns xs al => by
   rw [cE, Sx.ew]; have h1 := ym (cE f) (Sx.ew f) xs fun x _ => pI f x
   have h2 := ym (fun a : Px.QJ × Px.Expr => cP f a.1 + cE f a.2) (fun a => Sx.pw f a.1 + Sx.ew f a.2) al fun a _ => by
    have := sW f a.1; have := pI f a.2; omega
   have h3 := qC ns; omega
theorem I7 (d : Px.Def) : cD 50 d + 1 <= Sx.fw d := by
 unfold cD Sx.fw; have := pI 50 d.body; have := qC d.params; omega
theorem pJ (D : List Nm) : ∀ (f : Nat) (x : Px.QJ) (n : Nat) (ρ : Env), yf ρ -> n + (D.length + 1) * cP f x <= 1000000000 -> Sx.pw f (pat D f x n ρ).2.1 <= 23 * Sx.pw f x /\ yf (pat D f x n ρ).2.2
 | 0, x, n, ρ, hr, _ => ⟨jh _, hr⟩
 | f + 1, .mk k p nm i xs, n, ρ, hr, hn => by
   rw [cP, JU] at hn; simp only [pat, Sx.pw]; have ih := pJ D f; by_cases hk : k = 1
   . simp only [if_pos hk]; have h0 := zz D nm n ρ; have h1 := XU (D := D) (s := nm) (n := n) (ρ := ρ) (by omega); have h2 := WG (D := D) (s := nm) (n := n) (by omega) hr; have h3 := uX (Zy D f) (Sx.pw f) (fun x n ρ a b => (ih x n ρ a b).2) (fun x n ρ a b => (ih x n ρ a b).1) xs (bnd D nm n ρ).1 (bnd D nm n ρ).2.2 h2 (by omega); have h4 := Kl (Zy D f) (fun x n ρ a b => (ih x n ρ a b).2) xs (bnd D nm n ρ).1 (bnd D nm n ρ).2.2 h2 (by omega); exact ⟨by omega, h4⟩
   . simp only [if_neg hk]; have h3 := uX (Zy D f) (Sx.pw f) (fun x n ρ a b => (ih x n ρ a b).2) (fun x n ρ a b => (ih x n ρ a b).1) xs n ρ hr (by omega); have h4 := Kl (Zy D f) (fun x n ρ a b => (ih x n ρ a b).2) xs n ρ hr (by omega); exact ⟨by omega, h4⟩
theorem Bi (D : List Nm) (ns : List Nm) (n : Nat) (ρ : Env) (hr : yf ρ) (hn : n + (D.length + 1) * ns.length <= 1000000000) : nw (qO (bnd D) ns n ρ).2.1 <= 23 * nw ns /\ yf (qO (bnd D) ns n ρ).2.2 := by
 have hn' : n + (D.length + 1) * (ns.map fun _ => 1).sum <= 1000000000 := by rw [Qj]; exact hn
 exact ⟨uX (zz D) (fun s => s.length + 1) (fun x n ρ a b => WG b a) (fun x n ρ a b => by have := XU (ρ := ρ) (s := x) b; omega) ns n ρ hr hn', Kl (zz D) (fun x n ρ a b => WG b a) ns n ρ hr hn'⟩
theorem EG {ρ : Env} (h : yf ρ) (s : Nm) : (called ρ s).length <= s.length + 22 := by
 unfold called
 split
 . omega
 . exact h s
theorem FK (D : List Nm) : ∀ (f : Nat) (x : Px.Expr) (n : Nat) (ρ : Env), yf ρ -> n + (D.length + 1) * cE f x <= 1000000000 -> Sx.ew f (expr D f x n ρ).2 <= 23 * Sx.ew f x
 | 0, x, n, ρ, hr, _ => jh _
 | f + 1, .mk k p nm i ns xs al, n, ρ, hr, hn => by
   rw [cE, JU, JU] at hn; simp only [expr, Sx.ew]; have ih := FK D f; obtain ⟨h1, h2⟩ := Bi D ns n ρ hr (by omega); have h0 := Zg (bnd D) (D.length + 1) (fun _ => 1) (zz D) ns n ρ; rw [Qj] at h0; have h3 := uX (G := GE D f) (yK D f) (Sx.ew f) (fun x n ρ a b => a) (fun x n ρ a b => ih x n ρ a b) xs (qO (bnd D) ns n ρ).1 (qO (bnd D) ns n ρ).2.2 h2 (by omega); rw [VU] at h3; have h4 := Zg (GE D f) (D.length + 1) (cE f) (yK D f) xs (qO (bnd D) ns n ρ).1 (qO (bnd D) ns n ρ).2.2; rw [VU] at h4
   have Cu : (run (fun x m => expr D f x m (qO (bnd D) ns n ρ).2.2) xs (qO (bnd D) ns n ρ).1).1 + (D.length + 1) * (al.map (cA f)).sum <= 1000000000 := by
    have e : (al.map (cA f)).sum = (al.map fun a => cP f a.1 + cE f a.2).sum := rfl; rw [e]
    dsimp only at h4
    omega
   have h5 := uX (G := GA D f) (Nq D f) (fun a => Sx.pw f a.1 + Sx.ew f a.2) (fun x n ρ a b => a) (fun a n ρ hr hb => by
    unfold cA at hb; rw [JU] at hb; obtain ⟨k1, k2⟩ := pJ D f a.1 n ρ hr (by omega); have k0 := Zy D f a.1 n ρ; have k3 := ih a.2 (pat D f a.1 n ρ).1 (pat D f a.1 n ρ).2.2 k2 (by omega); show Sx.pw f (pat D f a.1 n ρ).2.1 + Sx.ew f (expr D f a.2 _ _).2 <= _
    omega) al _ ρ hr Cu
   rw [XJ] at h5
   have h6 : (if k = 1 then called ρ nm else nm).length <= nm.length + 22 := by
    split
    . exact EG hr nm
    . omega
   dsimp only at h3 h5 ⊢
   omega
def Bj : Nat -> Px.QJ -> Prop
 | 0, _ => False
 | f + 1, .mk _ _ _ _ xs => ∀ x ∈ xs, Bj f x
def XW : Nat -> Px.Expr -> Prop
 | 0, _ => False
 | f + 1, .mk _ _ _ _ _ xs al => (∀ x ∈ xs, XW f x) /\ ∀ a ∈ al, Bj f a.1 /\ XW f a.2
theorem Km {α : Type} {sz : Nat} {Js : Value -> α -> Prop} {w : World} {v : Value} {xs : List α} (h : JO sz Js w v xs) : ∀ x ∈ xs, ∃ u, Js u x := by
 intro x hx
 rcases h with ⟨h0, _⟩ | ⟨g, o, c, _, _, _, h4⟩
 . rw [h0] at hx; cases hx
 . obtain ⟨i, hi⟩ := ZQ.1 hx; obtain ⟨u, hu, _⟩ := h4 i x hi; exact ⟨u, hu⟩
theorem Bl : ∀ (f : Nat) (u : World) (v : Value) (x : Px.QJ), qj f u v x -> Bj f x
 | 0, u, v, x, h => h
 | f + 1, u, v, .mk k p nm i xs, h => by
   obtain ⟨av, _, h1⟩ := h; intro x hx; obtain ⟨z, hz⟩ := Km h1 x hx; exact Bl f u z x hz
theorem XX : ∀ (f : Nat) (u : World) (v : Value) (x : Px.Expr), JB f u v x -> XW f x
 | 0, u, v, x, h => h
 | f + 1, u, v, .mk k p nm i ns xs al, h => by
   obtain ⟨nv, xv, av, _, h1, h2, h3⟩ := h; refine ⟨fun x hx => ?_, fun a ha => ?_⟩
   . obtain ⟨z, hz⟩ := Km h2 x hx; exact XX f u z x hz
   . obtain ⟨z, a0, a1, a2, a3, a4, b0, b1, b2, b3, b4, b5, b6, _, k1, k2⟩ := Km h3 a ha; exact ⟨Bl f u _ _ k1, XX f u _ _ k2⟩
theorem EH {α : Type} (g : α -> Nat) (l : List α) (h : ∀ x ∈ l, 1 <= g x) : l.length <= (l.map g).sum := Sx.ZT g l h
theorem Li : ∀ {f : Nat} {x : Px.QJ}, Bj f x -> 1 <= Sx.pw f x
 | 0, x, h => h.elim
 | f + 1, .mk k p nm i xs, h => by rw [Sx.pw]; omega
theorem GL : ∀ {f : Nat} {x : Px.Expr}, XW f x -> 1 <= Sx.ew f x
 | 0, x, h => h.elim
 | f + 1, .mk k p nm i ns xs al, h => by rw [Sx.ew]; omega
theorem yL {α : Type} (g : α -> Nat) {l : List α} {x : α} (h : x ∈ l) : g x <= (l.map g).sum := by
 induction l with
 | nil => cases h
 | cons a r ih =>
   rw [je, jy]
   rcases jf.1 h with rfl | h
   . omega
   . have := ih h; omega
theorem pK : ∀ (f : Nat) (x : Px.QJ), Bj f x -> Sx.pw f x <= 1000000 -> Nn 1000000 f x
 | 0, x, h, _ => h.elim
 | f + 1, .mk k p nm i xs, h, hw => by
   rw [Sx.pw] at hw; have h1 := EH (Sx.pw f) xs fun x hx => Li (h x hx)
   exact ⟨by omega, by omega, fun x hx => pK f x (h x hx) (by have := yL (Sx.pw f) hx; omega)⟩
theorem EI : ∀ (f : Nat) (x : Px.Expr), XW f x -> Sx.ew f x <= 1000000 -> mP 1000000 f x
 | 0, x, h, _ => h.elim
 | f + 1, .mk k p nm i ns xs al, h, hw => by
   rw [Sx.ew] at hw; have h1 := EH (Sx.ew f) xs fun x hx => GL (h.1 x hx)
   have h2 := EH (fun a : Px.QJ × Px.Expr => Sx.pw f a.1 + Sx.ew f a.2) al fun a ha => by have := GL (h.2 a ha).2; omega
   have h3 := qC ns; refine ⟨by omega, by omega, by omega, fun s hs => ?_, fun x hx => EI f x (h.1 x hx) (by have := yL (Sx.ew f) hx; omega), fun a ha => ?_⟩
   . have h9 : s.length + 1 <= (ns.map fun s => s.length + 1).sum := yL (fun s : Nm => s.length + 1) hs; have e : nw ns = (ns.map fun s => s.length + 1).sum := rfl; omega
   . have h9 : Sx.pw f a.1 + Sx.ew f a.2 <= (al.map fun a => Sx.pw f a.1 + Sx.ew f a.2).sum := yL (fun a : Px.QJ × Px.Expr => Sx.pw f a.1 + Sx.ew f a.2) ha; exact ⟨pK f a.1 (h.2 a ha).1 (by omega), EI f a.2 (h.2 a ha).2 (by omega)⟩
theorem U6 (D : List Nm) (B : Nat) : ∀ (f : Nat) (x : Px.QJ) (n : Nat) (ρ : Env), Nn B f x -> n + (D.length + 1) * cP f x <= 1000000000 -> Nn (B + 22) f (pat D f x n ρ).2.1
 | 0, x, n, ρ, _, _ => trivial
 | f + 1, .mk k p nm i xs, n, ρ, h, hn => by
   rw [cP, JU] at hn; obtain ⟨h1, h2, h3⟩ := h; simp only [pat]; by_cases hk : k = 1
   . simp only [if_pos hk]; have h0 := zz D nm n ρ; have k1 := XU (D := D) (s := nm) (n := n) (ρ := ρ) (by omega); refine ⟨by omega, by rw [zf]; exact h2, YS (Zy D f) (Nn (B + 22) f) xs (fun x hx n ρ hb => U6 D B f x n ρ (h3 x hx) hb) _ _ (by omega)⟩
   . simp only [if_neg hk]; exact ⟨by omega, by rw [zf]; exact h2, YS (Zy D f) (Nn (B + 22) f) xs (fun x hx n ρ hb => U6 D B f x n ρ (h3 x hx) hb) _ _ (by omega)⟩
theorem Bn (D : List Nm) (B : Nat) (ns : List Nm) (n : Nat) (ρ : Env) (h : ∀ s ∈ ns, s.length <= B) (hn : n + (D.length + 1) * ns.length <= 1000000000) : ∀ s ∈ (qO (bnd D) ns n ρ).2.1, s.length <= B + 22 := by
 have hn' : n + (D.length + 1) * (ns.map fun _ => 1).sum <= 1000000000 := by rw [Qj]; exact hn
 exact YS (zz D) (fun s : Nm => s.length <= B + 22) ns (fun s hs n ρ hb => by have := XU (ρ := ρ) (s := s) hb; have := h s hs; omega) n ρ hn'
theorem U7 (D : List Nm) (B : Nat) : ∀ (f : Nat) (x : Px.Expr) (n : Nat) (ρ : Env), mP B f x -> n + (D.length + 1) * cE f x <= 1000000000 -> mP (B + 22) f (expr D f x n ρ).2
 | 0, x, n, ρ, _, _ => trivial
 | f + 1, .mk k p nm i ns xs al, n, ρ, h, hn => by
   rw [cE, JU, JU] at hn; obtain ⟨h1, h2, h3, h4, h5, h6⟩ := h; simp only [expr]; have h0 := Zg (bnd D) (D.length + 1) (fun _ => 1) (zz D) ns n ρ; rw [Qj] at h0; have k4 := Zg (GE D f) (D.length + 1) (cE f) (yK D f) xs (qO (bnd D) ns n ρ).1 (qO (bnd D) ns n ρ).2.2; rw [VU] at k4
   have Cu : (run (fun x m => expr D f x m (qO (bnd D) ns n ρ).2.2) xs (qO (bnd D) ns n ρ).1).1 + (D.length + 1) * (al.map (cA f)).sum <= 1000000000 := by
    have e : (al.map (cA f)).sum = (al.map fun a => cP f a.1 + cE f a.2).sum := rfl; rw [e]
    dsimp only at k4
    omega
   have j5 := YS (G := GE D f) (yK D f) (mP (B + 22) f) xs (fun x hx n ρ hb => U7 D B f x n ρ (h5 x hx) hb) (qO (bnd D) ns n ρ).1 (qO (bnd D) ns n ρ).2.2 (by omega); rw [VU] at j5
   have j6 := YS (G := GA D f) (Nq D f) (fun a => Nn (B + 22) f a.1 /\ mP (B + 22) f a.2) al (fun a ha n ρ hb => by
    unfold cA at hb; rw [JU] at hb; have k0 := Zy D f a.1 n ρ
    exact ⟨U6 D B f a.1 n ρ (h6 a ha).1 (by omega), U7 D B f a.2 _ _ (h6 a ha).2 (by omega)⟩) _ ρ Cu
   rw [XJ] at j6; exact ⟨by rw [zf]; exact h1, by rw [UI]; exact h2, by rw [UI]; exact h3, Bn D B ns n ρ h4 (by omega), j5, j6⟩
theorem Lj (D : List Nm) (B f : Nat) (d : Px.Def) (n : Nat) (ρ : Env) (h : okD B f d) (hn : n + (D.length + 1) * cD f d <= 1000000000) : okD (B + 22) f (GD D f d n ρ).2.1 := by
 obtain ⟨h1, h2, h3⟩ := h; unfold cD at hn; rw [JU] at hn; have h0 := Zg (bnd D) (D.length + 1) (fun _ => 1) (zz D) d.params n ρ; rw [Qj] at h0; exact ⟨by show (qO (bnd D) d.params n ρ).2.1.length <= _; rw [zf]; exact h1, Bn D B d.params n ρ h2 (by omega), U7 D B f d.body _ _ h3 (by omega)⟩
end Fr
namespace Px
theorem Bo (l : List UInt8) (p : Prog) (h : program l = .done p) : (p.jF.map Sx.dw).sum + (p.defs.map Sx.fw).sum <= 25 * l.length := by
 unfold program parsed at h; by_cases h0 : 4096 < l.length
 . rw [if_pos h0] at h; cases h
 rw [if_neg h0] at h; have hw := kr (l.length + 1) 0 l; cases ht : Lx.toks (l.length + 1) 0 l with
 | mk ts r =>
   rw [ht] at h hw; cases r with
   | some q => cases h
   | none =>
     simp only at h hw; cases hn : prog l.length (ts.length + 1) 0 ts with
     | error q => rw [hn] at h; cases h
     | ok y =>
       rw [hn] at h; simp only [Outcome.done.injEq] at h; subst h; have := FI _ _ _ _ _ hn; omega
end Px
namespace Fr
theorem Av (x y : Nat) : 4 * (x * y) <= (x + y) * (x + y) := by
 rcases Nat.le_total x y with h | h
 . obtain ⟨k, rfl⟩ := Nat.le.dest h; have e1 : x * (x + k) = x * x + x * k := JU _ _ _
   have e2 : (x + (x + k)) * (x + (x + k)) = 4 * (x * x) + 4 * (x * k) + k * k := by
    simp only [JU, Qz, Nat.mul_comm k x]; omega
   omega
 . obtain ⟨k, rfl⟩ := Nat.le.dest h; have e1 : (y + k) * y = y * y + k * y := Qz _ _ _
   have e2 : (y + k + y) * (y + k + y) = 4 * (y * y) + 4 * (k * y) + k * k := by
    simp only [JU, Qz, Nat.mul_comm y k]; omega
   omega
def PW (d : Px.Def) : Nat := nw d.params + Sx.ew 50 d.body
structure X8 (M B : Nat) (p : Px.Prog) : Prop where
 jF : p.jF.length <= 62500
 few : p.defs.length + (p.defs.map (cD 50)).sum <= 62500
 wt : (p.defs.map PW).sum <= M
 ok : ∀ d ∈ p.defs, okD B 50 d
theorem X8.mul {M B : Nat} {p : Px.Prog} (h : X8 M B p) : (p.defs.length + 1) * (p.defs.map (cD 50)).sum <= 1000000000 := by
 have h1 := Av (p.defs.length + 1) (p.defs.map (cD 50)).sum; have h2 := h.few; have h3 : (p.defs.length + 1 + (p.defs.map (cD 50)).sum) * (p.defs.length + 1 + (p.defs.map (cD 50)).sum) <= 62501 * 62501 := Nat.mul_le_mul (by omega) (by omega); omega
theorem X8.body {M B : Nat} {p : Px.Prog} (h : X8 M B p) : ∀ d ∈ p.defs, Sx.ew 50 d.body <= M /\ d.params.length <= M := by
 intro d hd; have h1 : PW d <= _ := yL PW hd; have h2 := h.wt; have h3 := qC d.params; unfold PW at h1 h2; omega
theorem EJ (l : List UInt8) (p : Px.Prog) (h : Px.program l = .done p) (hl : l.length <= 2500) (hd : ∀ d ∈ p.defs, XW 50 d.body) : X8 62500 1000000 p := by
 have h1 := Px.Bo l p h; have h2 := Sx.ZT Sx.dw p.jF (fun x _ => by unfold Sx.dw; omega); have h3 := ym (fun d => cD 50 d + 1) Sx.fw p.defs (fun d _ => I7 d)
 have h4 : ∀ (l : List Px.Def), (l.map fun d => cD 50 d + 1).sum = l.length + (l.map (cD 50)).sum := by
  intro l
  induction l with
  | nil => rfl
  | cons a r ih => rw [je, jy, je, jy, JG, ih]; omega
 rw [h4] at h3; have h5 := ym PW Sx.fw p.defs (fun d _ => by unfold PW Sx.fw; omega); refine ⟨by omega, by omega, by omega, fun d Tp => ?_⟩; have h6 : Sx.fw d <= _ := yL Sx.fw Tp; have h7 : Sx.fw d = 1 + d.name.length + nw d.params + Sx.ew 50 d.body := rfl; have h8 := qC d.params; refine ⟨by omega, fun s hs => ?_, EI 50 d.body (hd d Tp) (by omega)⟩; have h9 : s.length + 1 <= (d.params.map fun s => s.length + 1).sum := yL (fun s : Nm => s.length + 1) hs; have e : nw d.params = (d.params.map fun s => s.length + 1).sum := rfl; omega
theorem XY {M B : Nat} {p : Px.Prog} (h : X8 M B p) : X8 (23 * M) (B + 22) (prog 50 p) := by
 have hm := h.mul; have e : (prog 50 p).defs = (qO (GD (p.defs.map (·.name)) 50) p.defs 0 (fun _ => [])).2.1 := (Nv _ _ _ _).symm; have hn : 0 + ((p.defs.map (·.name)).length + 1) * (p.defs.map (cD 50)).sum <= 1000000000 := by rw [Jv]; omega
 refine ⟨h.jF, ?_, ?_, ?_⟩
 . rw [e, zf, VW (cD 50) (pG _ 50)]; exact h.few
 . rw [e]; refine jS (uX (Nr _ 50) PW (fun x n ρ a b => a) (fun d n ρ hr hb => ?_) p.defs 0 _ Rm hn) (Nat.mul_le_mul (jB _) h.wt); unfold cD at hb; rw [JU] at hb; obtain ⟨k1, k2⟩ := Bi (p.defs.map (·.name)) d.params n ρ hr (by omega); have k0 := Zg (bnd (p.defs.map (·.name))) ((p.defs.map (·.name)).length + 1) (fun _ => 1) (zz _) d.params n ρ; rw [Qj] at k0; have k3 := FK (p.defs.map (·.name)) 50 d.body (qO (bnd (p.defs.map (·.name))) d.params n ρ).1 (qO (bnd (p.defs.map (·.name))) d.params n ρ).2.2 k2 (by omega); unfold PW; show nw (qO (bnd (p.defs.map (·.name))) d.params n ρ).2.1 + Sx.ew 50 (expr (p.defs.map (·.name)) 50 d.body (qO (bnd (p.defs.map (·.name))) d.params n ρ).1 (qO (bnd (p.defs.map (·.name))) d.params n ρ).2.2).2 <= _; omega
 . rw [e]; exact YS (Nr _ 50) (fun d => okD (B + 22) 50 d) p.defs (fun d hd n ρ hb => Lj _ B 50 d n ρ (h.ok d hd) hb) 0 _ hn
theorem VX {f : Nat} {u : World} {v : Value} {x : Px.Prog} (h : ZZ f u v x) : zt f u v x := by
 obtain ⟨dv, fv, rfl, h1, h2⟩ := h; refine ⟨dv, fv, rfl, ?_, h2⟩
 rcases h1 with h1 | ⟨g, o, c, a1, a2, a3, a4⟩
 . exact .inl h1
 . refine .inr ⟨g, o, c, a1, a2, a3, fun i x hx => ?_⟩; obtain ⟨z, hz, hr⟩ := a4 i x hx; refine ⟨z, ?_, hr⟩; obtain ⟨nv, cv, rfl, k1, k2⟩ := hz; obtain ⟨q1, c1, rfl⟩ := k1.len; obtain ⟨q2, c2, rfl⟩ := k2.len; exact ⟨_, _, _, _, _, _, _, _, rfl⟩
theorem uY {f : Nat} {u : World} {v : Value} {x : Px.Prog} (h : zt f u v x) : ∀ d ∈ x.defs, XW f d.body := by
 obtain ⟨dv, fv, rfl, h1, h2⟩ := h; intro d hd; obtain ⟨z, hz⟩ := Km h2 d hd; obtain ⟨nv, b0, b1, b2, b3, b4, b5, b6, _, _, k2⟩ := hz; exact XX f u _ _ k2
theorem zD {f : Nat} {w w' : World} {v : Value} {x : Px.Prog} (h : zt f w v x) (hb : Below w.heap.size w w') : zt f w' v x := by
 obtain ⟨dv, fv, rfl, h1, h2⟩ := h; refine ⟨dv, fv, rfl, h1.mono hb (fun u x _ h => h), h2.mono hb (fun u x _ h => ?_)⟩; obtain ⟨nv, b0, b1, b2, b3, b4, b5, b6, rfl, k1, k2⟩ := h; exact ⟨nv, b0, b1, b2, b3, b4, b5, b6, rfl, JM k1 hb, JY k2 hb⟩
theorem Zd {f : Nat} {u : World} {v : Value} {p : Px.Prog} (h : zt f u v p) : ∃ q1 c1 q2 c2, v = .agg #[.slice q1 p.jF.length c1, .slice q2 p.defs.length c2] := by
 obtain ⟨dv, fv, rfl, h1, h2⟩ := h; obtain ⟨q1, c1, rfl⟩ := h1.len; obtain ⟨q2, c2, rfl⟩ := h2.len; exact ⟨_, _, _, _, rfl⟩
end Fr
def pM (f : Nat) : Prop := ∀ (x : Px.Expr) (v bv : Value) (but : List Nm) (w : World), JB f w v x -> Yk w bv but -> but.length + Sx.ew f x <= 40000000 -> Calls Tryd.prog 36 #[v, bv] w (E8 w (Sx.qE f x but))
theorem EK {w w' : World} {base base' : Nat} {v v' iv : Value} {l li : List Nm} (h : uP encS 9 w base v l v' w') (hi : QW w base' iv li) (hd : ∀ b, iv.ownBlock = some b -> v.ownBlock ≠ some b) :
 QW w' base' iv li /\ ∀ b, iv.ownBlock = some b -> v'.ownBlock ≠ some b :=
 ⟨Qp hi fun b hb => h.2.1.block b (hi.lt b hb).2 (fun e => hd b hb e.symm),
  fun b hb => h.2.2.elim (fun e => e ▸ hd b hb) (fun e e2 => by have := e b e2; have := (hi.lt b hb).2; omega)⟩
theorem yH (w : World) : QW (w.alloc (.cells #[] 9)) w.heap.size (.slice (some ⟨w.heap.size, 0, none⟩) 0 0) [] :=
 ⟨rfl, .inr ⟨w.heap.size, 0, #[], rfl, jB _, jb w _ _, jB _, by unfold maxLen; omega, rfl, rfl⟩⟩
theorem UQ {w : World} {b b' : Nat} {v : Value} {l : List Nm} (h : QW w b v l) (hb : b' <= b) : QW w b' v l := by
 refine ⟨h.1, ?_⟩
 rcases h.2 with h | ⟨g, cap, cur, h1, h2, h3⟩
 . exact .inl h
 . exact .inr ⟨g, cap, cur, h1, jS hb h2, h3⟩
theorem Qc {w : World} {base : Nat} {v : Value} {l : List Nm} (h : QW w base v l) : Yk w v l := Ht h rfl
theorem Ll (f : Nat) (ih : pM f) : pM (f + 1) := by
 intro x v bv but w hx hrow hw; cases x with | mk k p nm i ns xs al =>
 obtain ⟨nv, xv, av, rfl, h1, h2, h3⟩ := hx; obtain ⟨q1, c1, rfl⟩ := h1.len; obtain ⟨q2, c2, rfl⟩ := h2.len; obtain ⟨q3, c3, rfl⟩ := h3.len; obtain ⟨qb, cb, rfl⟩ := hrow.len; have HR1 := hid h1; have HR2 := hid h2; have HR3 := hid h3; have I8 := hid hrow; have HW := hid hw
 clear h1 h2 h3 hrow hw; go_enter Tryd.func36, Tryd.ntmps36; have EX := hid (jb w #[.int .i64 k, .int .i64 p, .string ⟨nm.toArray⟩, .int .i64 i, .slice q1 ns.length c1, .slice q2 xs.length c2, .slice q3 al.length c3] 38); have HB := hid ((jD w.heap.size w).alloc (jB _) (.cells #[.int .i64 k, .int .i64 p, .string ⟨nm.toArray⟩, .int .i64 i, .slice q1 ns.length c1, .slice q2 xs.length c2, .slice q3 al.length c3] 38)); have hsz : w.heap.size + 1 <= (w.alloc (.cells #[.int .i64 k, .int .i64 p, .string ⟨nm.toArray⟩, .int .i64 i, .slice q1 ns.length c1, .slice q2 xs.length c2, .slice q3 al.length c3] 38)).heap.size := by simp
 go_upto_region 1 with fail
 generalize w.alloc (.cells #[.int .i64 k, .int .i64 p, .string ⟨nm.toArray⟩, .int .i64 i, .slice q1 ns.length c1, .slice q2 xs.length c2, .slice q3 al.length c3] 38) = w1 at EX HB hsz ⊢; go_upto_region 2 with fail
 go_cut [18] (fun o wx => o = .bool (decide (k = 1) && !Qi but nm) /\ wx = w1)
 case first =>
  have e0 := xK EX 0 rfl; have e2 := xK EX 2 rfl; by_cases hk : k = 1
  . have hkb : ((k : Int) == 1) = true := by simp [hk]
    have uU := hid (Qf _ but nm w1 (JM I8 HB)); have HK := hid hk; clear hk; go_wp2_with fail; refine uU.out.mono ?_; rintro e w2 ⟨rfl, rfl⟩; go_wp2_with fail
    go_meet
    exact ⟨by rw [HK.out]; simp, rfl⟩
  . have hkb : ((k : Int) == 1) = false := qF.2 (by omega); have HK := hid hk; clear hk; go_wp2_with fail
    go_meet
    exact ⟨by rw [jl HK.out]; rfl, rfl⟩
 case rest =>
 obtain ⟨rfl, rfl⟩ := hcut; have HL : Hid ((if k = 1 /\ but.contains nm = false then [nm] else []) = if (decide (k = 1) && !Qi but nm) = true then [nm] else []) := hid (by unfold Qi; simp); generalize (decide (k = 1) && !Qi but nm) = b0 at HL ⊢
 go_upto_if 18 with fail
 go_cut [5] (fun o wx => ∃ l : List Nm, Hid (l = if k = 1 /\ but.contains nm = false then [nm] else []) /\ Hid (QW wx (w.heap.size + 1) o l) /\ Hid (wx.heap[w.heap.size]? = some (.cells #[.int .i64 k, .int .i64 p, .string ⟨nm.toArray⟩, .int .i64 i, .slice q1 ns.length c1, .slice q2 xs.length c2, .slice q3 al.length c3] 38 (0, 0))) /\ Hid (Below w.heap.size w wx))
 case first =>
  cases b0 with
  | true =>
    have e2 := xK EX 2 rfl; have HE := hid (jb wc #[.string ⟨nm.toArray⟩] 9); have QO := hid (show Below wc.heap.size wc (wc.alloc (.cells #[.string ⟨nm.toArray⟩] 9)) from (jD _ _).alloc (jB _) _); have Z8 : Hid (QW (wc.alloc (.cells #[.string ⟨nm.toArray⟩] 9)) (w.heap.size + 1) (.slice none 0 0) []) := hid (jo _ _ _ _); go_wp2_with (at_builtin; refine Qe rfl (.tmp 19) (.tmp 22) rfl (w.heap.size + 1) _ [] rfl Z8 _ rfl [nm] (QY HE rfl rfl) (by simp) (by have := QO.out.size; omega) ?_); intro v3 w3 happ; have HB3 := hid (happ.below Z8.out (HB.out.trans (QO.out.mono HB.out.size)) (by have := QO.out.size; omega) (by omega)); have Ro := hid (happ.at Z8.out (jM EX QO) (by omega)); obtain ⟨p3, q3', rfl⟩ := jH happ.1; have yQ := hid happ.1; clear happ e2; go_wp2
    go_meet
    exact ⟨[nm], hid (by rw [HL.out]; rfl), yQ, Ro, HB3⟩
  | false =>
    go_wp2_with fail
    go_meet
    exact ⟨[], hid (by rw [HL.out]; rfl), hid (jo _ _ _ _), EX, HB⟩
 case rest =>
  clear EX HB hsz HL; obtain ⟨l0, UD, HO, EX, HB⟩ := hcut; have I9 : Hid (l0.length <= 1) := hid (by rw [UD.out]; split <;> simp); have hw1 := ji EX; have jFX : ns.length <= nw ns := qC ns; have hbw : but.length + nw ns + (xs.map (Sx.ew f)).sum + (al.map fun a => Sx.pw f a.1 + Sx.ew f a.2).sum <= 40000000 := by have := HW.out; rw [Sx.ew] at this; omega
  have Zj := hid hbw; have hb4 : but.length <= 40000000 := by omega
  have Tq : ns.length <= 40000000 := by omega
  clear hbw; obtain ⟨pa, ca, rfl⟩ := jH HO; obtain ⟨Z4, XZ⟩ : ∃ Z4 : List Nm, Z4 = but ++ ns := ⟨_, rfl⟩
  have pO := hid XZ; have hinl : Z4.length <= but.length + nw ns := by rw [XZ, jE]; omega
  have Lm := hid hinl; clear XZ hinl; obtain ⟨wA, Bp⟩ : ∃ x, x = wc := ⟨wc, rfl⟩
  subst Bp; go_upto_region 4 with fail
  go_cut [6] (fun iv wx => Hid (QW wx wA.heap.size iv Z4) /\ Hid (Below wA.heap.size wA wx))
  case first =>
   have e4 := xK EX 4 rfl; refine jU (S := fun w' => Below (w.heap.size + 1) wA w') (by kernel_rfl) ((jD _ _).drew) (fun hHeld => ?_); refine wS 1 (.slice qb but.length cb) rfl hHeld ?_; refine wS 3 (.pointer (some ⟨w.heap.size, 4, none⟩)) rfl hHeld ?_; refine wT 4 (.slice q1 ns.length c1) rfl (Or.inl ⟨by rfl, fun w' hSw => by have h4 := (hSw.cell (p := ⟨w.heap.size, 4, none⟩) (by dsimp only; omega)).trans e4; go_simp⟩) hHeld ?_; simp only [Act.put, jd, JE, JF]; refine wR 0 rfl (fun K hK => ?_); go_simp; have hb1 : Below wA.heap.size wA (wA.drew.alloc (.cells #[] 9)) := ((jD _ _).drew).alloc (jB _) _; have VP := hid (yH wA.drew); have HB1 := hid hb1; refine hK.out _ _ (hb1.mono (by omega)) (fun hHeld => ?_); clear hK K hb1; refine wR 2 rfl (fun K hK => ?_); refine qc rfl (.tmp 24) (.tmp 25) rfl wA.heap.size _ [] rfl VP _ rfl but (JM I8 (HB.out.trans (HB1.out.mono (by omega)))) (by simp; omega) HB1.out.size ?_; intro v2 w2 ha2; have HB2 := hid (ha2.below VP.out HB1.out HB1.out.size (jB _)); have zV := hid ha2.1; refine hK.out _ _ (HB2.out.mono (by omega)) (fun hHeld => ?_); clear hK K ha2; refine wR 5 rfl (fun K hK => ?_); refine qc rfl (.tmp 26) (.tmp 28) rfl wA.heap.size _ _ rfl zV _ rfl ns (JM HR1 (HB.out.trans (HB2.out.mono (by omega)))) (by simp; omega) HB2.out.size ?_; intro v3 w3 Xt; have HB3 := hid (Xt.below zV.out HB2.out HB2.out.size (jB _)); have yQ := hid Xt.1; refine hK.out _ _ (HB3.out.mono (by omega)) (fun hHeld => ?_); clear hK K Xt; refine wR 6 rfl (fun K hK => ?_); go_simp; refine hK.out _ _ (HB3.out.mono (by omega)) (fun hHeld => ?_); clear hK K; refine wD ?_; go_wp2_with fail
   go_meet
   exact ⟨hid (by rw [pO.out]; exact yQ.out), HB3⟩
  case rest =>
  obtain ⟨HI, PX⟩ := hcut; obtain ⟨pi, ci, rfl⟩ := jH HI; have jCG := hid (jc HO PX); have HD : Hid (QW wc (w.heap.size + 1) (.slice pi Z4.length ci) Z4 /\ ∀ b, (Value.slice pi Z4.length ci).ownBlock = some b -> (Value.slice pa l0.length ca).ownBlock ≠ some b) := hid ⟨UQ HI (by omega), fun b hb e => by have := (HI.out.lt b hb).1; have := (HO.out.lt b e).2; omega⟩; replace EX := hid (jM EX PX); replace HB := hid (HB.out.trans (PX.out.mono (by omega))); clear HI PX HO; go_wp2_with fail
  go_loopw [5, 7] (fun o j wr => ∃ (m : Nat) (l : List Nm), j = .int .i64 m /\ m <= xs.length /\ Hid (l = l0 ++ (xs.take m).flatMap (fun y => Sx.qE f y Z4)) /\ Hid (QW wr (w.heap.size + 1) o l) /\ Hid (QW wr (w.heap.size + 1) (.slice pi Z4.length ci) Z4 /\ ∀ b, (Value.slice pi Z4.length ci).ownBlock = some b -> o.ownBlock ≠ some b) /\ Hid (wr.heap[w.heap.size]? = some (.cells #[.int .i64 k, .int .i64 p, .string ⟨nm.toArray⟩, .int .i64 i, .slice q1 ns.length c1, .slice q2 xs.length c2, .slice q3 al.length c3] 38 (0, 0))) /\ Hid (Below w.heap.size w wr)) (fun _ j _ => xs.length - (intOf j).toNat)
  case atStart => exact ⟨0, l0, rfl, jh _, hid (by simp), jCG, HD, EX, HB⟩
  case round =>
   clear EX HB jCG HD; obtain ⟨m, l, rfl, hm, Yd, HO, HD, EX, HB⟩ := hrel; have hs1 := ji EX; have e5 := xK EX 5 rfl; obtain ⟨va, uI, rfl⟩ := jH HO; by_cases hlt : m < xs.length
   . obtain ⟨y, hy⟩ : ∃ y, xs[m]? = some y := ⟨_, jA hlt⟩
     rcases HR2.out with ⟨h0, _⟩ | ⟨g, of, c', hv, g1, g2, g3⟩
     . rw [h0] at hlt; simp at hlt
     injection hv with hq1 _ hq2
     subst hq1; subst hq2
     obtain ⟨u, hu, _, hcell⟩ := g3 m y hy; have hu2 := JY hu HB; obtain ⟨a0, a1, a2, a3, PY, PZ, Pb, Pf, Pg, Ph, Pj, Pk, Pm, rfl⟩ := zw hu; have d0 := jC HB (hcell 0 _ rfl); have d1 := jC HB (hcell 1 _ rfl); have d2 := jC HB (hcell 2 _ rfl); have d3 := jC HB (hcell 3 _ rfl); have d4 := jC HB (hcell 4 _ rfl); have d5 := jC HB (hcell 5 _ rfl); have d6 := jC HB (hcell 6 _ rfl)
     simp only [jZ] at d0; have hk1 : (m : Int) < (xs.length : Int) := by omega
     have hk2 : (xs.length : Int) <= (c2 : Int) := by omega
     have hk3 := g2; have hst := Sx.QD (Sx.ew f) xs m y hy; have HST := hid hst; have HT := hid (Sx.YB (fun y => Sx.qE f y Z4) xs m y hy); have YZ := hid (ih y _ _ Z4 wr hu2 (Qc HD.out.1) (by have := Zj.out; have := Lm.out; omega)); clear g1 g2 g3 hcell hu hy hu2 hst; go_wp2_with fail; clear e5 d0 d1 d2 d3 d4 d5 d6; refine YZ.out.mono ?_; rintro e w2 ⟨v2, rfl, hb, hnew⟩; have zV := hid (jc HO hb); have HD2 := hid (show QW w2 (w.heap.size + 1) (.slice pi Z4.length ci) Z4 /\ _ from ⟨jc HD.out.1 hb, HD.out.2⟩); have l9 := hid hnew.now; have HB2 := bT HB hb; have hs2 := hb.size; replace EX := bE EX hb
     have hlen : l.length + (Sx.qE f y Z4).length <= 1000000000 := by
      rw [Yd.out, jE]; have h1 := qC ((xs.take m).flatMap (fun y => Sx.qE f y Z4)); have h2 := Sx.yx (fun y => Sx.qE f y Z4) (Sx.ew f) (xs.take m) (fun x _ => Sx.Yc f x Z4); have h3 := qC (Sx.qE f y Z4); have h4 := Sx.Yc f y Z4; have h5 := I9.out; have := HST.out; have := Zj.out; omega
     have Yn := hid hlen; clear hb hnew YZ hlen HB HO HD; go_wp2_with (at_builtin; refine Qe rfl (.tmp 37) (.tmp 44) rfl (w.heap.size + 1) _ _ rfl zV _ rfl _ l9 Yn (by omega) ?_); intro v3 w3 happ; have HD3 := hid (EK happ HD2.out.1 HD2.out.2); obtain ⟨p3, q3', rfl⟩ := jH happ.1; obtain ⟨hb3, ho3⟩ := ZV happ zV HB2 (by omega) (by omega); have HB3 := hid hb3; have yQ := hid ho3; have HT3 : Hid (l ++ Sx.qE f y Z4 = l0 ++ (xs.take (m + 1)).flatMap (fun y => Sx.qE f y Z4)) := hid (by rw [HT.out, Yd.out, jg]); obtain ⟨l3, hl3⟩ : ∃ l3, l3 = l ++ Sx.qE f y Z4 := ⟨_, rfl⟩
     rw [<- hl3] at yQ HT3 HD3 ⊢; clear hl3; replace EX := hid (happ.at zV.out EX.out (by omega)); clear happ hb3 ho3; go_wp2
     go_roundw
     case rel => exact ⟨m + 1, l3, by go_num, by omega, HT3, yQ, HD3, EX, HB3⟩
     case measure => simp [intOf]; omega
   . obtain rfl : m = xs.length := by omega
     have hll := Yd.out; rw [jY] at hll; have ky := hid hll; clear hll Yd; go_wp2_with fail; clear e5
     have EL : Hid (l.length <= 1 + (xs.map (Sx.ew f)).sum) := hid (by
      rw [ky.out, jE]; have h1 := qC (xs.flatMap (fun y => Sx.qE f y Z4)); have h2 := Sx.yx (fun y => Sx.qE f y Z4) (Sx.ew f) xs (fun x _ => Sx.Yc f x Z4)
      have := I9.out; omega)
     obtain ⟨l1, hl1⟩ : ∃ l1, l1 = l := ⟨l, rfl⟩
     obtain ⟨wB, oC⟩ : ∃ x, x = wr := ⟨wr, rfl⟩
     subst oC; have HL2 : Hid (l = l1 ++ (al.take 0).flatMap (fun a => Sx.qE f a.2 (but ++ Sx.jV f a.1))) := hid (by rw [hl1]; simp); rw [<- hl1] at ky EL; clear hl1
     go_loopw [5, 8] (fun o j wr => ∃ (m : Nat) (l : List Nm), j = .int .i64 m /\ m <= al.length /\ Hid (l = l1 ++ (al.take m).flatMap (fun a => Sx.qE f a.2 (but ++ Sx.jV f a.1))) /\ Hid (QW wr (w.heap.size + 1) o l) /\ Hid (wr.heap[w.heap.size]? = some (.cells #[.int .i64 k, .int .i64 p, .string ⟨nm.toArray⟩, .int .i64 i, .slice q1 ns.length c1, .slice q2 xs.length c2, .slice q3 al.length c3] 38 (0, 0))) /\ Hid (Below w.heap.size w wr)) (fun _ j _ => al.length - (intOf j).toNat)
     case atStart => exact ⟨0, l, rfl, jh _, HL2, HO, EX, HB⟩
     case round =>
      clear EX HB HO HL2 hs1; obtain ⟨m, l, rfl, hm, Yd, HO, EX, HB⟩ := hrel; have hs1 := ji EX; have e6 := xK EX 6 rfl; obtain ⟨va, uI, rfl⟩ := jH HO; by_cases hlt : m < al.length
      . obtain ⟨⟨pt, ey⟩, hy⟩ : ∃ y, al[m]? = some y := ⟨_, jA hlt⟩
        rcases HR3.out with ⟨h0, _⟩ | ⟨g, of, c', hv, g1, g2, g3⟩
        . rw [h0] at hlt; simp at hlt
        injection hv with hq1 _ hq2
        subst hq1; subst hq2
        obtain ⟨u, hu, _, hcell⟩ := g3 m _ hy; obtain ⟨a0, a1, a2, a3, a4, b0, b1, b2, b3, b4, b5, b6, rfl, hpt, dL⟩ := hu; have Pn := hid hpt; have Tt := hid dL
        have hgl : g < w.heap.size := JK w _ (hcell 0 _ rfl)
        have V4 := hid (fun (w' : World) (h : Below (w.heap.size + 1) wr w') =>
         have up : ∀ j z, (Value.agg #[a0, a1, a2, a3, a4, b0, b1, b2, b3, b4, b5, b6]).cells[j]? = some z -> w'.cell? ⟨g, of + m * 12 + j, none⟩ = some z := fun j z hz => (h.cell (p := ⟨g, of + m * 12 + j, none⟩) (by dsimp only; omega)).trans (jC HB (hcell j z hz))
         (show w'.cell? ⟨g, of + m * 12, none⟩ = some a0 /\ w'.cell? ⟨g, of + m * 12 + 1, none⟩ = some a1 /\ w'.cell? ⟨g, of + m * 12 + 2, none⟩ = some a2 /\ w'.cell? ⟨g, of + m * 12 + 3, none⟩ = some a3 /\ w'.cell? ⟨g, of + m * 12 + 4, none⟩ = some a4 /\
           w'.cell? ⟨g, of + m * 12 + 5, none⟩ = some b0 /\ w'.cell? ⟨g, of + m * 12 + 5 + 1, none⟩ = some b1 /\ w'.cell? ⟨g, of + m * 12 + 5 + 2, none⟩ = some b2 /\ w'.cell? ⟨g, of + m * 12 + 5 + 3, none⟩ = some b3 /\ w'.cell? ⟨g, of + m * 12 + 5 + 4, none⟩ = some b4 /\ w'.cell? ⟨g, of + m * 12 + 5 + 5, none⟩ = some b5 /\ w'.cell? ⟨g, of + m * 12 + 5 + 6, none⟩ = some b6
           from ⟨up 0 _ rfl, up 1 _ rfl, up 2 _ rfl, up 3 _ rfl, up 4 _ rfl, up 5 _ rfl, up 6 _ rfl, up 7 _ rfl, up 8 _ rfl, up 9 _ rfl, up 10 _ rfl, up 11 _ rfl⟩))
        have hk1 : (m : Int) < (al.length : Int) := by omega
        have hk2 : (al.length : Int) <= (c3 : Int) := by omega
        have hk3 := g2; have hst := Sx.QD (fun a : Px.QJ × Px.Expr => Sx.pw f a.1 + Sx.ew f a.2) al m _ hy; have HST := hid hst; have pQ : Hid (Sx.pw f pt + Sx.ew f ey <= (al.map fun a => Sx.pw f a.1 + Sx.ew f a.2).sum) := hid (by dsimp only at hst; omega); have HT := hid (Sx.YB (fun a : Px.QJ × Px.Expr => Sx.qE f a.2 (but ++ Sx.jV f a.1)) al m _ hy)
        have hlen : l.length + (Sx.qE f ey (but ++ Sx.jV f pt)).length <= 1000000000 := by
         rw [Yd.out, jE]; have h1 := qC ((al.take m).flatMap (fun a => Sx.qE f a.2 (but ++ Sx.jV f a.1))); have h2 := Sx.yx (fun a : Px.QJ × Px.Expr => Sx.qE f a.2 (but ++ Sx.jV f a.1)) (fun a => Sx.pw f a.1 + Sx.ew f a.2) (al.take m) (fun x _ => by have := Sx.Yc f x.2 (but ++ Sx.jV f x.1); omega); have h3 := qC (Sx.qE f ey (but ++ Sx.jV f pt)); have h4 := Sx.Yc f ey (but ++ Sx.jV f pt); have h5 := EL.out; have := HST.out; have := Zj.out; dsimp only at *; omega
        have Yn := hid hlen; clear g1 g2 g3 hcell hpt dL hy hst hlen; go_wp2_with fail; refine jU (S := fun w' => Below (w.heap.size + 1) wr w') (by kernel_rfl) ((jD _ _).drew) (fun hHeld => ?_); refine wS 0 (.slice va l.length uI) rfl hHeld ?_; refine wS 1 (.pointer (some ⟨w.heap.size, 6, none⟩)) rfl hHeld ?_; refine wT 2 (.slice (some ⟨g, of, none⟩) al.length c3) rfl (Or.inl ⟨by rfl, fun w' hSw => by have h6 := (hSw.cell (p := ⟨w.heap.size, 6, none⟩) (by dsimp only; omega)).trans e6; go_simp⟩) hHeld ?_; refine wS 3 (.int .i64 m) rfl hHeld ?_; refine wS 4 (.pointer (some ⟨g, of + m * 12, none⟩)) rfl hHeld ?_; refine wS 5 (.pointer (some ⟨g, of + m * 12 + 5, none⟩)) rfl hHeld ?_; refine wT 6 (.agg #[b0, b1, b2, b3, b4, b5, b6]) rfl (Or.inl ⟨by rfl, fun w' hSw => by have hx := V4.out w' hSw; obtain ⟨-, -, -, -, -, x5, x6, x7, x8, x9, Tu, Tv⟩ := hx; go_simp⟩) hHeld ?_; refine wS 8 (.slice qb but.length cb) rfl hHeld ?_; refine wS 10 (.pointer (some ⟨w.heap.size, 6, none⟩)) rfl hHeld ?_; refine wT 11 (.slice (some ⟨g, of, none⟩) al.length c3) rfl (Or.inl ⟨by rfl, fun w' hSw => by have h6 := (hSw.cell (p := ⟨w.heap.size, 6, none⟩) (by dsimp only; omega)).trans e6; go_simp⟩) hHeld ?_; refine wS 12 (.int .i64 m) rfl hHeld ?_; refine wS 13 (.pointer (some ⟨g, of + m * 12, none⟩)) rfl hHeld ?_; refine wS 14 (.pointer (some ⟨g, of + m * 12, none⟩)) rfl hHeld ?_; refine wT 15 (.agg #[a0, a1, a2, a3, a4]) rfl (Or.inl ⟨by rfl, fun w' hSw => by have hx := V4.out w' hSw; obtain ⟨x0, x1, x2, x3, x4, -, -, -, -, -, -, -⟩ := hx; go_simp⟩) hHeld ?_; simp only [Act.put, jd, JE, JF]; refine wR 7 rfl (fun K hK => ?_); go_simp; have hb1 : Below wr.heap.size wr (wr.drew.alloc (.cells #[] 9)) := ((jD _ _).drew).alloc (jB _) _; have VP := hid (yH wr.drew); have HB1 := hid hb1; refine hK.out _ _ (hb1.mono (by omega)) (fun hHeld => ?_); clear hK K hb1; refine wR 9 rfl (fun K hK => ?_); refine qc rfl (.tmp 60) (.tmp 61) rfl wr.heap.size _ [] rfl VP _ rfl but (JM I8 (HB.out.trans (HB1.out.mono (by omega)))) (by simp; omega) HB1.out.size ?_; intro v2 w2 ha2; have HB2 := hid (ha2.below VP.out HB1.out HB1.out.size (jB _)); have zV := hid ha2.1; refine hK.out _ _ (HB2.out.mono (by omega)) (fun hHeld => ?_); clear hK K ha2; refine wR 16 rfl (fun K hK => ?_); go_simp; refine (ze f pt _ w2 (qB Pn (HB.out.trans (HB2.out.mono (by omega)))) (by have := pQ.out; have := Zj.out; omega)).mono ?_; rintro e w3 ⟨v3, rfl, hb3, sZ⟩; have HB3 := bT HB2 hb3; have si := hid sZ.now; have yQ := hid (jc zV hb3); refine hK.out _ _ (HB3.out.mono (by omega)) (fun hHeld => ?_); clear hK K hb3 sZ; refine wR 17 rfl (fun K hK => ?_); refine qc rfl (.tmp 62) (.tmp 69) rfl wr.heap.size _ _ rfl yQ _ rfl (Sx.jV f pt) si (by have h1 := qC (Sx.jV f pt); have h2 := Sx.zB f pt; have := pQ.out; have := Zj.out; simp; omega) HB3.out.size ?_; intro v4 w4 Aw; have uT := hid (Aw.below yQ.out HB3.out HB3.out.size (jB _)); have mR := hid Aw.1; refine hK.out _ _ (uT.out.mono (by omega)) (fun hHeld => ?_); clear hK K Aw; refine wR 18 rfl (fun K hK => ?_); go_simp; refine (ih ey _ _ (but ++ Sx.jV f pt) w4 (JY Tt (HB.out.trans (uT.out.mono (by omega)))) (Qc mR) (by have h1 := qC (Sx.jV f pt); have h2 := Sx.zB f pt; have := pQ.out; have := Zj.out; rw [jE]; omega)).mono ?_; rintro e w5 ⟨v5, rfl, hb5, sj⟩; have zy := bT uT hb5; have EM := hid sj.now; have yM := hid (jc HO zy); have Ay := hid (jM EX zy); refine hK.out _ _ (zy.out.mono (by omega)) (fun hHeld => ?_); clear hK K hb5 sj; refine wR 19 rfl (fun K hK => ?_); refine qc rfl (.tmp 53) (.tmp 71) rfl (w.heap.size + 1) _ _ rfl yM _ rfl _ EM Yn (by have := zy.out.size; omega) ?_; intro v6 w6 Z9; obtain ⟨p6, q6, rfl⟩ := jH Z9.1; have vD := hid (Z9.below yM.out (HB.out.trans (zy.out.mono (by omega))) (by have := zy.out.size; omega) (by omega)); have X9 := hid (Z9.below yM.out (zy.out.mono (B' := w.heap.size + 1) (by omega)) (by have := zy.out.size; omega) (jB _)); have Az := hid (Z9.at yM.out Ay.out (by omega)); have uD := hid Z9.1; have Bq : Hid (l ++ Sx.qE f ey (but ++ Sx.jV f pt) = (l1 ++ (al.take (m + 1)).flatMap (fun a => Sx.qE f a.2 (but ++ Sx.jV f a.1)))) := hid (by rw [HT.out, Yd.out, jg]); obtain ⟨l3, hl3⟩ : ∃ l3, l3 = l ++ Sx.qE f ey (but ++ Sx.jV f pt) := ⟨_, rfl⟩
        rw [<- hl3] at uD Bq ⊢; clear hl3 Z9; refine hK.out _ _ X9.out (fun hHeld => ?_); clear hK K; refine wR 20 rfl (fun K hK => ?_); go_simp; refine hK.out _ _ X9.out (fun hHeld => ?_); clear hK K; refine wD ?_; go_wp2_with fail
        go_roundw
        case rel => exact ⟨m + 1, l3, by go_num, by omega, Bq, uD, Az, vD⟩
        case measure => simp [intOf]; omega
      . obtain rfl : m = al.length := by omega
        have hll := Yd.out; rw [jY] at hll
        have hfin : l = Sx.qE (f + 1) (.mk k p nm i ns xs al) but := by
         rw [hll, ky.out, UD.out, Sx.qE, pO.out]
        have HF := hid hfin; clear hll Yd hfin; go_wp2_with fail; go_ret; rw [<- HF.out]; exact ⟨_, rfl, HB.out, UA HO rfl (by omega)⟩
theorem Br : ∀ f, pM f
 | 0 => fun x v bv but w hx => hx.elim
 | f + 1 => Ll f (Br f)
theorem ZX : ∀ (f : Nat) (x : Px.Expr), (Fr.QF f x).length <= Sx.ew f x
 | 0, x => jB _
 | f + 1, .mk k p nm i ns xs al => by
   rw [Fr.QF, Sx.ew, jE, jE, Zp, Zp]; have h1 := Fr.ym (fun x => (Fr.QF f x).length) (Sx.ew f) xs fun x _ => ZX f x
   have h2 := Fr.ym (fun a : Px.QJ × Px.Expr => (Sx.jV f a.1 ++ Fr.QF f a.2).length) (fun a => Sx.pw f a.1 + Sx.ew f a.2) al fun a _ => by
    have h3 := qC (Sx.jV f a.1); have h4 := Sx.zB f a.1; have h5 := ZX f a.2; rw [jE]; omega
   have h6 := qC ns; omega
def Xa (f : Nat) : Prop := ∀ (x : Px.Expr) (v : Value) (w : World), JB f w v x -> Sx.ew f x <= 40000000 -> Calls Tryd.prog 13 #[v] w (E8 w (Fr.QF f x))
theorem WH (f : Nat) (ih : Xa f) : Xa (f + 1) := by
 intro x v w hx hw; cases x with | mk k p nm i ns xs al =>
 obtain ⟨nv, xv, av, rfl, h1, h2, h3⟩ := hx; obtain ⟨q1, c1, rfl⟩ := h1.len; obtain ⟨q2, c2, rfl⟩ := h2.len; obtain ⟨q3, c3, rfl⟩ := h3.len; have HR1 := hid h1; have HR2 := hid h2; have HR3 := hid h3; have HW := hid hw
 have hbw : nw ns + (xs.map (Sx.ew f)).sum + (al.map fun a => Sx.pw f a.1 + Sx.ew f a.2).sum <= 40000000 := by have := HW.out; rw [Sx.ew] at this; omega
 have Zj := hid hbw; clear h1 h2 h3 hw hbw; go_enter Tryd.func13, Tryd.ntmps13; have EX := hid (jb w #[.int .i64 k, .int .i64 p, .string ⟨nm.toArray⟩, .int .i64 i, .slice q1 ns.length c1, .slice q2 xs.length c2, .slice q3 al.length c3] 38); have HB := hid ((jD w.heap.size w).alloc (jB _) (.cells #[.int .i64 k, .int .i64 p, .string ⟨nm.toArray⟩, .int .i64 i, .slice q1 ns.length c1, .slice q2 xs.length c2, .slice q3 al.length c3] 38)); have hsz : w.heap.size + 1 <= (w.alloc (.cells #[.int .i64 k, .int .i64 p, .string ⟨nm.toArray⟩, .int .i64 i, .slice q1 ns.length c1, .slice q2 xs.length c2, .slice q3 al.length c3] 38)).heap.size := by simp
 go_upto_region 1 with fail
 generalize w.alloc (.cells #[.int .i64 k, .int .i64 p, .string ⟨nm.toArray⟩, .int .i64 i, .slice q1 ns.length c1, .slice q2 xs.length c2, .slice q3 al.length c3] 38) = w1 at EX HB hsz ⊢; have OT := hid (UQ (yH w1) hsz); have QO := hid (show Below w1.heap.size w1 (w1.alloc (.cells #[] 9)) from (jD _ _).alloc (jB _) _); have Tw := hid (jM EX QO); have y4 := xK Tw 4 rfl; have Tx := hid (HB.out.trans (QO.out.mono (by omega))); go_wp2_with (at_builtin; refine Qe rfl (.tmp 6) (.tmp 8) rfl (w.heap.size + 1) _ [] rfl OT _ rfl ns (JM HR1 Tx) (by have h1 := qC ns; have := Zj.out; simp; omega) (by have := QO.out.size; omega) ?_); intro v2 w2 happ; obtain ⟨p2, q2', rfl⟩ := jH happ.1; obtain ⟨hb2, ho2⟩ := ZV happ OT Tx (by have := QO.out.size; omega) (by omega); have Kn := hid (happ.at OT.out Tw.out (by omega)); have HB2 := hid hb2; have zV := hid ho2
 clear happ hb2 ho2 y4 hsz OT QO Tx EX Tw HB; go_wp2_with fail
 go_loopw [3, 4] (fun o j wr => ∃ (m : Nat) (l : List Nm), j = .int .i64 m /\ m <= xs.length /\ Hid (l = ns ++ (xs.take m).flatMap (Fr.QF f)) /\ Hid (QW wr (w.heap.size + 1) o l) /\ Hid (wr.heap[w.heap.size]? = some (.cells #[.int .i64 k, .int .i64 p, .string ⟨nm.toArray⟩, .int .i64 i, .slice q1 ns.length c1, .slice q2 xs.length c2, .slice q3 al.length c3] 38 (0, 0))) /\ Hid (Below w.heap.size w wr)) (fun _ j _ => xs.length - (intOf j).toNat)
 case atStart => exact ⟨0, ns, rfl, jh _, hid (by simp), zV, Kn, HB2⟩
 case round =>
  clear Kn HB2 zV; obtain ⟨m, l, rfl, hm, Yd, HO, EX, HB⟩ := hrel; have hs1 := ji EX; have e5 := xK EX 5 rfl; obtain ⟨va, uI, rfl⟩ := jH HO; by_cases hlt : m < xs.length
  . obtain ⟨y, hy⟩ : ∃ y, xs[m]? = some y := ⟨_, jA hlt⟩
    rcases HR2.out with ⟨h0, _⟩ | ⟨g, of, c', hv, g1, g2, g3⟩
    . rw [h0] at hlt; simp at hlt
    injection hv with hq1 _ hq2
    subst hq1; subst hq2
    obtain ⟨u, hu, _, hcell⟩ := g3 m y hy; have hu2 := JY hu HB; obtain ⟨a0, a1, a2, a3, PY, PZ, Pb, Pf, Pg, Ph, Pj, Pk, Pm, rfl⟩ := zw hu; have d0 := jC HB (hcell 0 _ rfl); have d1 := jC HB (hcell 1 _ rfl); have d2 := jC HB (hcell 2 _ rfl); have d3 := jC HB (hcell 3 _ rfl); have d4 := jC HB (hcell 4 _ rfl); have d5 := jC HB (hcell 5 _ rfl); have d6 := jC HB (hcell 6 _ rfl)
    simp only [jZ] at d0; have hk1 : (m : Int) < (xs.length : Int) := by omega
    have hk2 : (xs.length : Int) <= (c2 : Int) := by omega
    have hk3 := g2; have hst := Sx.QD (Sx.ew f) xs m y hy; have HST := hid hst; have HT := hid (Sx.YB (Fr.QF f) xs m y hy); have YZ := hid (ih y _ wr hu2 (by have := Zj.out; omega)); clear g1 g2 g3 hcell hu hy hu2 hst; go_wp2_with fail; clear e5 d0 d1 d2 d3 d4 d5 d6; refine YZ.out.mono ?_; rintro e w2 ⟨v2, rfl, hb, hnew⟩; have zV := hid (jc HO hb); have l9 := hid hnew.now; have HB2 := bT HB hb; have hs2 := hb.size; replace EX := bE EX hb
    have hlen : l.length + (Fr.QF f y).length <= 1000000000 := by
     rw [Yd.out, jE, Zp]; have h1 := qC ns; have h2 := Fr.ym (fun x => (Fr.QF f x).length) (Sx.ew f) (xs.take m) fun x _ => ZX f x
     have h3 := ZX f y; have := HST.out; have := Zj.out; omega
    have Yn := hid hlen; clear hb hnew YZ hlen HB HO; go_wp2_with (at_builtin; refine Qe rfl (.tmp 17) (.tmp 23) rfl (w.heap.size + 1) _ _ rfl zV _ rfl _ l9 Yn (by omega) ?_); intro v3 w3 happ; obtain ⟨p3, q3', rfl⟩ := jH happ.1; obtain ⟨hb3, ho3⟩ := ZV happ zV HB2 (by omega) (by omega); have HB3 := hid hb3; have yQ := hid ho3; have HT3 : Hid (l ++ Fr.QF f y = ns ++ (xs.take (m + 1)).flatMap (Fr.QF f)) := hid (by rw [HT.out, Yd.out, jg]); obtain ⟨l3, hl3⟩ : ∃ l3, l3 = l ++ Fr.QF f y := ⟨_, rfl⟩
    rw [<- hl3] at yQ HT3 ⊢; clear hl3; replace EX := hid (happ.at zV.out EX.out (by omega)); clear happ hb3 ho3; go_wp2
    go_roundw
    case rel => exact ⟨m + 1, l3, by go_num, by omega, HT3, yQ, EX, HB3⟩
    case measure => simp [intOf]; omega
  . obtain rfl : m = xs.length := by omega
    have hll := Yd.out; rw [jY] at hll; have ky := hid hll; clear hll Yd; go_wp2_with fail; clear e5
    have EL : Hid (l.length <= nw ns + (xs.map (Sx.ew f)).sum) := hid (by
     rw [ky.out, jE, Zp]; have h1 := qC ns; have h2 := Fr.ym (fun x => (Fr.QF f x).length) (Sx.ew f) xs fun x _ => ZX f x
     omega)
    obtain ⟨l1, hl1⟩ : ∃ l1, l1 = l := ⟨l, rfl⟩
    have HL2 : Hid (l = l1 ++ (al.take 0).flatMap (fun a => Sx.jV f a.1 ++ Fr.QF f a.2)) := hid (by rw [hl1]; simp); rw [<- hl1] at ky EL; clear hl1
    go_loopw [3, 5] (fun o j wr => ∃ (m : Nat) (l : List Nm), j = .int .i64 m /\ m <= al.length /\ Hid (l = l1 ++ (al.take m).flatMap (fun a => Sx.jV f a.1 ++ Fr.QF f a.2)) /\ Hid (QW wr (w.heap.size + 1) o l) /\ Hid (wr.heap[w.heap.size]? = some (.cells #[.int .i64 k, .int .i64 p, .string ⟨nm.toArray⟩, .int .i64 i, .slice q1 ns.length c1, .slice q2 xs.length c2, .slice q3 al.length c3] 38 (0, 0))) /\ Hid (Below w.heap.size w wr)) (fun _ j _ => al.length - (intOf j).toNat)
    case atStart => exact ⟨0, l, rfl, jh _, HL2, HO, EX, HB⟩
    case round =>
     clear EX HB HO HL2 hs1; obtain ⟨m, l, rfl, hm, Yd, HO, EX, HB⟩ := hrel; have hs1 := ji EX; have e6 := xK EX 6 rfl; obtain ⟨va, uI, rfl⟩ := jH HO; by_cases hlt : m < al.length
     . obtain ⟨⟨pt, ey⟩, hy⟩ : ∃ y, al[m]? = some y := ⟨_, jA hlt⟩
       rcases HR3.out with ⟨h0, _⟩ | ⟨g, of, c', hv, g1, g2, g3⟩
       . rw [h0] at hlt; simp at hlt
       injection hv with hq1 _ hq2
       subst hq1; subst hq2
       obtain ⟨u, hu, _, hcell⟩ := g3 m _ hy; obtain ⟨a0, a1, a2, a3, a4, b0, b1, b2, b3, b4, b5, b6, rfl, hpt, dL⟩ := hu; have Pn := hid hpt; have Tt := hid dL
       have V4 := hid (fun (w' : World) (h : Below w.heap.size w w') =>
        have up : ∀ j z, (Value.agg #[a0, a1, a2, a3, a4, b0, b1, b2, b3, b4, b5, b6]).cells[j]? = some z -> w'.cell? ⟨g, of + m * 12 + j, none⟩ = some z := fun j z hz => jC h (hcell j z hz)
        (show w'.cell? ⟨g, of + m * 12, none⟩ = some a0 /\ w'.cell? ⟨g, of + m * 12 + 1, none⟩ = some a1 /\ w'.cell? ⟨g, of + m * 12 + 2, none⟩ = some a2 /\ w'.cell? ⟨g, of + m * 12 + 3, none⟩ = some a3 /\ w'.cell? ⟨g, of + m * 12 + 4, none⟩ = some a4 /\
          w'.cell? ⟨g, of + m * 12 + 5, none⟩ = some b0 /\ w'.cell? ⟨g, of + m * 12 + 5 + 1, none⟩ = some b1 /\ w'.cell? ⟨g, of + m * 12 + 5 + 2, none⟩ = some b2 /\ w'.cell? ⟨g, of + m * 12 + 5 + 3, none⟩ = some b3 /\ w'.cell? ⟨g, of + m * 12 + 5 + 4, none⟩ = some b4 /\ w'.cell? ⟨g, of + m * 12 + 5 + 5, none⟩ = some b5 /\ w'.cell? ⟨g, of + m * 12 + 5 + 6, none⟩ = some b6
          from ⟨up 0 _ rfl, up 1 _ rfl, up 2 _ rfl, up 3 _ rfl, up 4 _ rfl, up 5 _ rfl, up 6 _ rfl, up 7 _ rfl, up 8 _ rfl, up 9 _ rfl, up 10 _ rfl, up 11 _ rfl⟩))
       have hk1 : (m : Int) < (al.length : Int) := by omega
       have hk2 : (al.length : Int) <= (c3 : Int) := by omega
       have hk3 := g2; have hst : ((al.take m).map fun a => Sx.pw f a.1 + Sx.ew f a.2).sum + (Sx.pw f pt + Sx.ew f ey) <= (al.map fun a => Sx.pw f a.1 + Sx.ew f a.2).sum := Sx.QD (fun a : Px.QJ × Px.Expr => Sx.pw f a.1 + Sx.ew f a.2) al m _ hy; have HST := hid hst; have HT := hid (Sx.YB (fun a : Px.QJ × Px.Expr => Sx.jV f a.1 ++ Fr.QF f a.2) al m _ hy)
       have hlen : l.length + ((Sx.jV f pt).length + (Fr.QF f ey).length) <= 1000000000 := by
        rw [Yd.out, jE, Zp]
        have h2 := Fr.ym (fun a : Px.QJ × Px.Expr => (Sx.jV f a.1 ++ Fr.QF f a.2).length) (fun a => Sx.pw f a.1 + Sx.ew f a.2) (al.take m) fun a _ => by
         have h3 := qC (Sx.jV f a.1); have h4 := Sx.zB f a.1; have h5 := ZX f a.2; rw [jE]; omega
        have h3 := qC (Sx.jV f pt); have h4 := Sx.zB f pt; have h5 := ZX f ey; have := HST.out; have := Zj.out; have := EL.out; omega
       have Yn := hid hlen; clear g1 g2 g3 hcell hpt dL hy hst hlen; obtain ⟨x0, x1, x2, x3, x4, -, -, -, -, -, -, -⟩ := V4.out wr HB.out; go_wp2_with fail; clear x0 x1 x2 x3 x4 e6; refine (ze f pt _ wr (qB Pn HB) (by have := HST.out; have := Zj.out; omega)).mono ?_; rintro e w2 ⟨v2, rfl, hb, hnew⟩; have zV := hid (jc HO hb); have l9 := hid hnew.now; have HB2 := bT HB hb; have hs2 := hb.size; replace EX := bE EX hb; clear hb hnew HB HO; go_wp2_with (at_builtin; refine Qe rfl (.tmp 32) (.tmp 39) rfl (w.heap.size + 1) _ _ rfl zV _ rfl _ l9 (by have := Yn.out; omega) (by omega) ?_); intro v3 w3 happ; obtain ⟨p3, q3', rfl⟩ := jH happ.1; obtain ⟨hb3, ho3⟩ := ZV happ zV HB2 (by omega) (by omega); have HB3 := hid hb3; have yQ := hid ho3; obtain ⟨l2, hl2⟩ : ∃ l2, l2 = l ++ Sx.jV f pt := ⟨_, rfl⟩
       rw [<- hl2] at yQ ⊢; have Rp := hid hl2; clear hl2; replace EX := hid (happ.at zV.out EX.out (by omega)); clear happ hb3 ho3; have hs3 := ji EX; have e6 := xK EX 6 rfl; obtain ⟨-, -, -, -, -, x5, x6, x7, x8, x9, Tu, Tv⟩ := V4.out w3 HB3.out; go_wp2_with fail; clear x5 x6 x7 x8 x9 Tu Tv e6; refine (ih ey _ w3 (JY Tt HB3) (by have := HST.out; have := Zj.out; omega)).mono ?_; rintro e w4 ⟨v4, rfl, hb, hnew⟩; have mR := hid (jc yQ hb); have Ty := hid hnew.now; have uT := bT HB3 hb; have hs4 := hb.size; replace EX := bE EX hb; clear hb hnew HB3 yQ; go_wp2_with (at_builtin; refine Qe rfl (.tmp 41) (.tmp 48) rfl (w.heap.size + 1) _ _ rfl mR _ rfl _ Ty (by have := Yn.out; rw [Rp.out, jE]; omega) (by omega) ?_); intro v5 w5 happ; obtain ⟨p5, jIO, rfl⟩ := jH happ.1; obtain ⟨hb5, UR⟩ := ZV happ mR uT (by omega) (by omega); have zy := hid hb5; have yM := hid UR; have mI : Hid (l2 ++ Fr.QF f ey = l1 ++ (al.take (m + 1)).flatMap (fun a => Sx.jV f a.1 ++ Fr.QF f a.2)) := hid (by rw [HT.out, Rp.out, Yd.out, jg, jg]); obtain ⟨l3, hl3⟩ : ∃ l3, l3 = l2 ++ Fr.QF f ey := ⟨_, rfl⟩
       rw [<- hl3] at yM mI ⊢; clear hl3; replace EX := hid (happ.at mR.out EX.out (by omega)); clear happ hb5 UR; go_wp2
       go_roundw
       case rel => exact ⟨m + 1, l3, by go_num, by omega, mI, yM, EX, zy⟩
       case measure => simp [intOf]; omega
     . obtain rfl : m = al.length := by omega
       have hll := Yd.out; rw [jY] at hll; have HF := hid (show l = Fr.QF (f + 1) (.mk k p nm i ns xs al) by rw [hll, ky.out, Fr.QF]); clear hll Yd; go_wp2_with fail; go_ret; rw [<- HF.out]; exact ⟨_, rfl, HB.out, UA HO rfl (by omega)⟩
theorem VY : ∀ f, Xa f
 | 0 => fun x v w hx => hx.elim
 | f + 1 => WH f (VY f)
end Go.Proofs.YtlnjdclmopblcaaDoor
