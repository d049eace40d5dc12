import Derived.Test.YtlnjdclmopblcaaDoorI12
import Derived.Lib.ItoaNum
import Derived.Maps.OwnSet
import Derived.LaidEql
import Derived.WideKeyRuns
import Derived.Laws.StructEq
import Derived.KernelRfl
import Derived.Deep.DeepCutAuto
import Derived.Deep.QuietTactic
import Derived.BigQuiet
set_option linter.unusedVariables false
set_option linter.unusedSimpArgs false
set_option maxHeartbeats 40000000
set_option maxRecDepth 100000
namespace Go.Proofs.YtlnjdclmopblcaaDoor
namespace Fr
abbrev Env := Nm -> Nm
def cut (s : Nm) : Nm := s.takeWhile (· != 46)
def dot (b : Nm) (k : Nat) : Nm := b ++ 46 :: Lib.itoa k
theorem Uw (s : Nm) : (46 : UInt8) ∉ cut s := by
 unfold cut
 induction s with
 | nil => simp
 | cons c r ih =>
   rw [List.takeWhile_cons]
   split
   . rename_i h; intro hm
     rcases jf.1 hm with e | hm
     . subst e; simp at h
     . exact ih hm
   . simp
theorem bX {b r : Nm} (h : (46 : UInt8) ∉ b) : (b ++ 46 :: r).takeWhile (· != 46) = b := by
 induction b with
 | nil => simp
 | cons c b ih =>
   have hc : c ≠ 46 := fun e => h (by rw [e]; simp)
   rw [JQ, List.takeWhile_cons, if_pos (by simpa using hc), ih fun hm => h (UZ _ hm)]
theorem ofNat_inj {a b : Nat} (ha : a < 10) (hb : b < 10) (e : UInt8.ofNat (48 + a) = UInt8.ofNat (48 + b)) : a = b := by
 have := congrArg UInt8.toNat e; rw [UInt8.toNat_ofNat_of_lt' (by show 48 + a < 256; omega), UInt8.toNat_ofNat_of_lt' (by show 48 + b < 256; omega)] at this; omega
theorem fG (u : Nat) : Lib.decDigits u ≠ [] := fun e => by
 have := Lib.decDigits_length u; have := Lib.nDigits_pos u; rw [e] at *; simp at *; omega
theorem UG {u : Nat} (h : ¬ u < 10) : Lib.decDigits u = Lib.decDigits (u / 10) ++ [UInt8.ofNat (48 + u % 10)] := by rw [Lib.decDigits, dif_neg h]
theorem RP : ∀ (u v : Nat), Lib.decDigits u = Lib.decDigits v -> u = v := by
 intro u
 induction u using Nat.strongRecOn with
 | ind u ih =>
   intro v e; by_cases hu : u < 10
   . by_cases hv : v < 10
     . rw [Lib.decDigits_one hu, Lib.decDigits_one hv] at e
       injection e with e
       exact ofNat_inj hu hv e
     . rw [Lib.decDigits_one hu, UG hv] at e; have := congrArg List.length e; have h0 := Yo.2 (fG (v / 10)); rw [jE, zF, zF] at this; omega
   . by_cases hv : v < 10
     . rw [UG hu, Lib.decDigits_one hv] at e; have := congrArg List.length e; have h0 := Yo.2 (fG (u / 10)); rw [jE, zF, zF] at this; omega
     . rw [UG hu, UG hv] at e; obtain ⟨e1, e2⟩ := List.append_inj' e rfl; have h1 := ih (u / 10) (by omega) _ e1
       injection e2 with e2
       have h2 := ofNat_inj (by omega) (by omega) e2; omega
theorem NH {a b : Nat} (e : Lib.itoa (a : Int) = Lib.itoa (b : Int)) : a = b := by
 unfold Lib.itoa at e; rw [if_neg (by omega), if_neg (by omega)] at e; have := RP _ _ e; omega
theorem Gw {b b' : Nm} {k k' : Nat} (h : (46 : UInt8) ∉ b) (h' : (46 : UInt8) ∉ b') (e : dot b k = dot b' k') : b = b' /\ k = k' := by
 unfold dot at e; have e1 : b = b' := by rw [<- bX (r := Lib.itoa k) h, e, bX h']
 subst e1; have e2 := List.append_cancel_left e
 injection e2 with _ e2
 exact ⟨rfl, NH e2⟩
theorem Du (b : Nm) (k : Nat) : dot b k ≠ [] := by unfold dot; simp
def next (D : List Nm) (b : Nm) : Nat -> Nat -> Nat
 | 0, k => k + 1
 | f + 1, k => if D.contains (dot b (k + 1)) then next D b f (k + 1) else k + 1
theorem fH (D : List Nm) (b : Nm) : ∀ f k, k < next D b f k
 | 0, k => by unfold next; omega
 | f + 1, k => by
   unfold next
   split
   . have := fH D b f (k + 1); omega
   . omega
theorem GG (D : List Nm) (b : Nm) : ∀ f k, dot b (next D b f k) ∉ D \/ (next D b f k = k + f + 1 /\ ∀ j, k < j -> j <= k + f -> dot b j ∈ D)
 | 0, k => .inr ⟨rfl, fun j h1 h2 => by omega⟩
 | f + 1, k => by
   unfold next
   split
   . rename_i h
     rcases GG D b f (k + 1) with h1 | ⟨h1, h2⟩
     . exact .inl h1
     . refine .inr ⟨by omega, fun j h3 h4 => ?_⟩; by_cases e : j = k + 1
       . subst e; simpa using h
       . exact h2 j (by omega) (by omega)
   . rename_i h; exact .inl (by simpa using h)
def new (D : List Nm) (b : Nm) (k : Nat) : Nat := next D b D.length k
theorem Gx (D : List Nm) (b : Nm) (k : Nat) : k < new D b k := fH _ _ _ _
theorem xe (D : List Nm) {b : Nm} (hb : (46 : UInt8) ∉ b) (k : Nat) : dot b (new D b k) ∉ D := by
 rcases GG D b D.length k with h | ⟨h1, h2⟩
 . exact h
 . intro hm
   have hn : ((List.range' (k + 1) (D.length + 1)).map (dot b)).Nodup := by
    refine List.Pairwise.map (dot b) (R := fun x y => x ≠ y) (fun _ _ hne e => hne (Gw hb hb e).2) ?_; exact List.nodup_range'
   have hl := hn.length_le_of_subset (l₂ := D) fun x hx => by
    obtain ⟨j, hj, rfl⟩ := ZB.1 hx; rw [List.mem_range'_1] at hj; by_cases e : j = k + D.length + 1
    . rw [e]; unfold new at hm; rw [h1] at hm; exact hm
    . exact h2 j (by omega) (by omega)
   rw [Jv, List.length_range'] at hl; omega
def upd (ρ : Env) (s c : Nm) : Env := fun x => if x = s then c else ρ x
def bnd (D : List Nm) (s : Nm) (n : Nat) (ρ : Env) : Nat × Nm × Env := (new D (cut s) n, dot (cut s) (new D (cut s) n), upd ρ s (dot (cut s) (new D (cut s) n)))
def qO {α : Type} (g : α -> Nat -> Env -> Nat × α × Env) : List α -> Nat -> Env -> Nat × List α × Env
 | [], n, ρ => (n, [], ρ)
 | x :: r, n, ρ => ((qO g r (g x n ρ).1 (g x n ρ).2.2).1, (g x n ρ).2.1 :: (qO g r (g x n ρ).1 (g x n ρ).2.2).2.1, (qO g r (g x n ρ).1 (g x n ρ).2.2).2.2)
def run {α : Type} (g : α -> Nat -> Nat × α) : List α -> Nat -> Nat × List α
 | [], n => (n, [])
 | x :: r, n => ((run g r (g x n).1).1, (g x n).2 :: (run g r (g x n).1).2)
def called (ρ : Env) (s : Nm) : Nm := if ρ s = [] then s else ρ s
def pat (D : List Nm) : Nat -> Px.QJ -> Nat -> Env -> Nat × Px.QJ × Env
 | 0, p, n, ρ => (n, p, ρ)
 | f + 1, .mk k p nm i xs, n, ρ =>
   let a := if k = 1 then bnd D nm n ρ else (n, nm, ρ)
   let z := qO (pat D f) xs a.1 a.2.2
   (z.1, .mk k p a.2.1 i z.2.1, z.2.2)
def expr (D : List Nm) : Nat -> Px.Expr -> Nat -> Env -> Nat × Px.Expr
 | 0, x, n, _ => (n, x)
 | f + 1, .mk k p nm i ns xs al, n, ρ =>
   let a := qO (bnd D) ns n ρ
   let z := run (fun x n => expr D f x n a.2.2) xs a.1
   let y := run (fun b n => ((expr D f b.2 (pat D f b.1 n ρ).1 (pat D f b.1 n ρ).2.2).1, ((pat D f b.1 n ρ).2.1, (expr D f b.2 (pat D f b.1 n ρ).1 (pat D f b.1 n ρ).2.2).2))) al z.1
   (y.1, .mk k p (if k = 1 then called ρ nm else nm) i a.2.1 z.2 y.2)
def defn (D : List Nm) (f : Nat) (d : Px.Def) (n : Nat) : Nat × Px.Def :=
 let a := qO (bnd D) d.params n (fun _ => [])
 let z := expr D f d.body a.1 a.2.2
 (z.1, ⟨d.pos, d.name, a.2.1, z.2⟩)
def prog (f : Nat) (p : Px.Prog) : Px.Prog := ⟨p.jF, (run (defn (p.defs.map (·.name)) f) p.defs 0).2⟩
theorem xg (f : Nat) (p : Px.Prog) : (prog f p).defs.map (·.name) = p.defs.map (·.name) := by
 have key : ∀ (D : List Nm) (l : List Px.Def) (n : Nat), (run (defn D f) l n).2.map (·.name) = l.map (·.name) := by
  intro D l
  induction l with
  | nil => intro n; rfl
  | cons d r ih => intro n; rw [run, je, je, ih]; rfl
 exact key _ p.defs 0
def Xu (D : List Nm) (n m : Nat) (L : List Nm) : Prop :=
 n <= m /\ ∃ ks : List (Nm × Nat), L = ks.map (fun q => dot q.1 q.2) /\ (∀ q ∈ ks, (46 : UInt8) ∉ q.1 /\ n < q.2 /\ q.2 <= m /\ dot q.1 q.2 ∉ D) /\ (ks.map (·.2)).Nodup
theorem Xu.nil (D : List Nm) (n : Nat) : Xu D n n [] := ⟨jB _, [], rfl, fun q hq => (by cases hq), List.nodup_nil⟩
theorem Xu.app {D : List Nm} {n m l : Nat} {A B : List Nm} (h : Xu D n m A) (k : Xu D m l B) : Xu D n l (A ++ B) := by
 obtain ⟨h0, ka, rfl, h2, h3⟩ := h; obtain ⟨k0, kb, rfl, k2, k3⟩ := k; refine ⟨by omega, ka ++ kb, by rw [QN], fun q hq => ?_, ?_⟩
 . rcases jW.1 hq with hq | hq
   . obtain ⟨a, b, c, d⟩ := h2 q hq; exact ⟨a, b, by omega, d⟩
   . obtain ⟨a, b, c, d⟩ := k2 q hq; exact ⟨a, by omega, c, d⟩
 . rw [QN]; refine List.nodup_append.2 ⟨h3, k3, fun x hx y hy e => ?_⟩; obtain ⟨q, hq, rfl⟩ := ZB.1 hx; obtain ⟨r, hr, rfl⟩ := ZB.1 hy; have := (h2 q hq).2.2.1; have := (k2 r hr).2.1; omega
theorem Xu.nodup {D : List Nm} {n m : Nat} {L : List Nm} (h : Xu D n m L) : L.Nodup /\ ∀ s ∈ L, s ∉ D /\ s ≠ [] := by
 obtain ⟨_, ks, rfl, h2, h3⟩ := h
 constructor
 . have : ∀ ks : List (Nm × Nat), (∀ q ∈ ks, (46 : UInt8) ∉ q.1) -> (ks.map (·.2)).Nodup -> (ks.map fun q => dot q.1 q.2).Nodup := by
    intro ks
    induction ks with
    | nil => intro _ _; exact List.nodup_nil
    | cons q r ih =>
      intro h1 h2; rw [je] at h2 ⊢; obtain ⟨a, b⟩ := kJ.1 h2; refine kJ.2 ⟨fun hm => ?_, ih (fun q hq => h1 q (by simp [hq])) b⟩; obtain ⟨r', hr', e⟩ := ZB.1 hm; have := (Gw (h1 r' (by simp [hr'])) (h1 q (by simp)) e).2; exact a (ZB.2 ⟨r', hr', this⟩)
   exact this ks (fun q hq => (h2 q hq).1) h3
 . intro s hs; obtain ⟨q, hq, rfl⟩ := ZB.1 hs; exact ⟨(h2 q hq).2.2.2, Du _ _⟩
theorem fI (D : List Nm) (s : Nm) (n : Nat) (ρ : Env) : Xu D n (bnd D s n ρ).1 [(bnd D s n ρ).2.1] :=
 ⟨Nat.le_of_lt (Gx _ _ _), [(cut s, new D (cut s) n)], rfl, fun q hq => by
  rw [j4.1 hq]
  exact ⟨Uw s, Gx _ _ _, jB _, xe D (Uw s) n⟩, by simp⟩
theorem Gy {α : Type} (D : List Nm) (g : α -> Nat -> Env -> Nat × α × Env) (B : α -> List Nm) : ∀ (l : List α), (∀ x ∈ l, ∀ n ρ, Xu D n (g x n ρ).1 (B (g x n ρ).2.1)) -> ∀ n ρ, Xu D n (qO g l n ρ).1 ((qO g l n ρ).2.1.flatMap B)
 | [], _, n, ρ => Xu.nil D n
 | x :: r, h, n, ρ => by
   rw [qO, qP]; exact (h x (by simp) n ρ).app (Gy D g B r (fun y hy => h y (by simp [hy])) _ _)
theorem Kg {α : Type} (D : List Nm) (g : α -> Nat -> Nat × α) (B : α -> List Nm) : ∀ (l : List α), (∀ x ∈ l, ∀ n, Xu D n (g x n).1 (B (g x n).2)) -> ∀ n, Xu D n (run g l n).1 ((run g l n).2.flatMap B)
 | [], _, n => Xu.nil D n
 | x :: r, h, n => by
   rw [run, qP]; exact (h x (by simp) n).app (Kg D g B r (fun y hy => h y (by simp [hy])) _)
theorem VJ (l : List Nm) : l.flatMap (fun s => [s]) = l := by induction l with
 | nil => rfl
 | cons a r ih => rw [qP, ih]; rfl
theorem Ux (D : List Nm) (l : List Nm) (n : Nat) (ρ : Env) : Xu D n (qO (bnd D) l n ρ).1 (qO (bnd D) l n ρ).2.1 := by
 have := Gy D (bnd D) (fun s => [s]) l (fun x _ n ρ => fI D x n ρ) n ρ
 rwa [VJ] at this
theorem Gz (D : List Nm) : ∀ (f : Nat) (x : Px.QJ), Zw f x -> ∀ n ρ, Xu D n (pat D f x n ρ).1 (Sx.jV f (pat D f x n ρ).2.1)
 | 0, x, _, n, ρ => Xu.nil D n
 | f + 1, .mk k p nm i xs, h, n, ρ => by
   rw [Zw] at h; simp only [pat]; by_cases hk : k = 1
   . have hx := h.1 hk; subst hx; simp only [if_pos hk, qO, Sx.jV]; exact fI D nm n ρ
   . simp only [if_neg hk, Sx.jV]; exact Gy D (pat D f) (Sx.jV f) xs (fun x hx n ρ => Gz D f x (h.2 x hx) n ρ) n ρ
def QF : Nat -> Px.Expr -> List Nm
 | 0, _ => []
 | f + 1, .mk _ _ _ _ ns xs al => (ns ++ xs.flatMap (QF f)) ++ al.flatMap fun a => Sx.jV f a.1 ++ QF f a.2
theorem VK (D : List Nm) : ∀ (f : Nat) (x : Px.Expr), zC f x -> ∀ n ρ, Xu D n (expr D f x n ρ).1 (QF f (expr D f x n ρ).2)
 | 0, x, _, n, ρ => Xu.nil D n
 | f + 1, .mk k p nm i ns xs al, h, n, ρ => by
   rw [zC] at h; simp only [expr, QF]; have h1 := Kg D (fun x TP => expr D f x TP (qO (bnd D) ns n ρ).2.2) (QF f) xs (fun x hx n => VK D f x (h.2.1 x hx) n _) (qO (bnd D) ns n ρ).1; have h2 := Kg D (fun (b : Px.QJ × Px.Expr) n => ((expr D f b.2 (pat D f b.1 n ρ).1 (pat D f b.1 n ρ).2.2).1, ((pat D f b.1 n ρ).2.1, (expr D f b.2 (pat D f b.1 n ρ).1 (pat D f b.1 n ρ).2.2).2))) (fun a => Sx.jV f a.1 ++ QF f a.2) al (fun a ha n => (Gz D f a.1 (h.2.2 a ha).1 n ρ).app (VK D f a.2 (h.2.2 a ha).2 _ _)) (run (fun x TP => expr D f x TP (qO (bnd D) ns n ρ).2.2) xs (qO (bnd D) ns n ρ).1).1; exact ((Ux D ns n ρ).app h1).app h2
theorem NI (f : Nat) (p : Px.Prog) (h : ∀ d ∈ p.defs, zC f d.body) : ∃ m, Xu (p.defs.map (·.name)) 0 m ((prog f p).defs.flatMap fun d => d.params ++ QF f d.body) :=
 ⟨_, Kg _ _ (fun d => d.params ++ QF f d.body) p.defs (fun d hd n => (Ux _ d.params n _).app (VK _ f d.body (h d hd) _ _)) 0⟩
end Fr
namespace Fr
def Rb (ρ ρ0 : Env) (B B' : List Nm) : Prop := (∀ s ∈ B, ρ s ≠ [] /\ ρ s ∈ B') /\ ∀ s, s ∉ B -> ρ s = ρ0 s
theorem Rb.bnd {D : List Nm} {ρ ρ0 : Env} {B B' : List Nm} (h : Rb ρ ρ0 B B') (s : Nm) (n : Nat) : Rb (bnd D s n ρ).2.2 ρ0 (B ++ [s]) (B' ++ [(bnd D s n ρ).2.1]) := by
 constructor
 . intro x hx; simp only [Fr.bnd, upd]; by_cases e : x = s
   . rw [if_pos e]; exact ⟨Du _ _, by simp⟩
   . rw [if_neg e]
     rcases jW.1 hx with hx | hx
     . exact ⟨(h.1 x hx).1, jW.2 (.inl (h.1 x hx).2)⟩
     . exact absurd (j4.1 hx) e
 . intro x hx; simp only [Fr.bnd, upd]; rw [if_neg fun e => hx (by rw [e]; simp)]; exact h.2 x fun hb => hx (jW.2 (.inl hb))
theorem Dv {α : Type} {ρ0 : Env} (g : α -> Nat -> Env -> Nat × α × Env) (b b' : α -> List Nm) : ∀ (l : List α), (∀ x ∈ l, ∀ n ρ B B', Rb ρ ρ0 B B' -> Rb (g x n ρ).2.2 ρ0 (B ++ b x) (B' ++ b' (g x n ρ).2.1)) -> ∀ n ρ B B', Rb ρ ρ0 B B' -> Rb (qO g l n ρ).2.2 ρ0 (B ++ l.flatMap b) (B' ++ (qO g l n ρ).2.1.flatMap b')
 | [], _, n, ρ, B, B', h => by simpa [qO] using h
 | x :: r, hg, n, ρ, B, B', h => by
   rw [qO, qP, qP, <- jg, <- jg]; exact Dv g b b' r (fun y hy => hg y (by simp [hy])) _ _ _ _ (hg x (by simp) n ρ B B' h)
theorem UH {D : List Nm} {ρ ρ0 : Env} {B B' : List Nm} (h : Rb ρ ρ0 B B') (l : List Nm) (n : Nat) : Rb (qO (bnd D) l n ρ).2.2 ρ0 (B ++ l) (B' ++ (qO (bnd D) l n ρ).2.1) := by
 have := Dv (ρ0 := ρ0) (bnd D) (fun s => [s]) (fun s => [s]) l (fun x _ n ρ B B' h => h.bnd x n) n ρ B B' h
 rwa [VJ, VJ] at this
theorem Dw (D : List Nm) (ρ0 : Env) : ∀ (f : Nat) (x : Px.QJ), Zw f x -> ∀ n ρ B B', Rb ρ ρ0 B B' -> Rb (pat D f x n ρ).2.2 ρ0 (B ++ Sx.jV f x) (B' ++ Sx.jV f (pat D f x n ρ).2.1)
 | 0, x, _, n, ρ, B, B', h => by simpa [pat, Sx.jV] using h
 | f + 1, .mk k p nm i xs, hg, n, ρ, B, B', h => by
   rw [Zw] at hg; simp only [pat]; by_cases hk : k = 1
   . have hx := hg.1 hk; subst hx; simp only [if_pos hk, qO, Sx.jV]; exact h.bnd nm n
   . simp only [if_neg hk, Sx.jV]; exact Dv (pat D f) (Sx.jV f) (Sx.jV f) xs (fun x hx n ρ B B' h => Dw D ρ0 f x (hg.2 x hx) n ρ B B' h) n ρ B B' h
theorem G7 {α β : Type} (g : α -> Nat -> Nat × α) (U : α -> List β) {u : β} : ∀ (l : List α) (n : Nat), u ∈ (run g l n).2.flatMap U -> ∃ x ∈ l, ∃ m, u ∈ U (g x m).2
 | [], n, h => by simp [run] at h
 | x :: r, n, h => by
   rw [run, qP] at h
   rcases jW.1 h with h | h
   . exact ⟨x, by simp, n, h⟩
   . obtain ⟨y, hy, m, hm⟩ := G7 g U r _ h; exact ⟨y, by simp [hy], m, hm⟩
theorem uR (D : List Nm) (ρ0 : Env) : ∀ (f : Nat) (x : Px.Expr), zC f x -> ∀ n ρ B B', Rb ρ ρ0 B B' -> ∀ u ∈ Sx.qE f (expr D f x n ρ).2 B', ∃ s ∈ Sx.qE f x B, u = called ρ0 s
 | 0, x, _, n, ρ, B, B', h, u, hu => by simp [expr, Sx.qE] at hu
 | f + 1, .mk k p nm i ns xs al, hg, n, ρ, B, B', h, u, hu => by
   rw [zC] at hg; simp only [expr, Sx.qE] at hu; rw [Sx.qE]
   rcases jW.1 hu with hu | hu
   . rcases jW.1 hu with hu | hu
     . by_cases hc : k = 1 /\ B'.contains (if k = 1 then called ρ nm else nm) = false
       . rw [if_pos (by simpa using hc)] at hu; obtain ⟨hk, hc⟩ := hc; rw [if_pos hk] at hc hu; have hu := j4.1 hu; subst hu
         have hnb : nm ∉ B := fun hb => by
          have h1 := h.1 nm hb; have : called ρ nm = ρ nm := by unfold called; rw [if_neg h1.1]
          rw [this] at hc; simp [h1.2] at hc
         have e : called ρ nm = called ρ0 nm := by unfold called; rw [h.2 nm hnb]
         refine ⟨nm, jW.2 (.inl (jW.2 (.inl ?_))), e⟩; rw [if_pos ⟨hk, by simpa using hnb⟩]; simp
       . rw [if_neg (by simpa using hc)] at hu; cases hu
     . obtain ⟨x, hx, m, hm⟩ := G7 _ _ _ _ hu; obtain ⟨s, hs, e⟩ := uR D ρ0 f x (hg.2.1 x hx) m _ (B ++ ns) _ (UH h ns n) u hm; exact ⟨s, jW.2 (.inl (jW.2 (.inr (QS.2 ⟨x, hx, hs⟩)))), e⟩
   . obtain ⟨a, ha, m, hm⟩ := G7 _ _ _ _ hu; obtain ⟨s, hs, e⟩ := uR D ρ0 f a.2 (hg.2.2 a ha).2 _ _ (B ++ Sx.jV f a.1) _ (Dw D ρ0 f a.1 (hg.2.2 a ha).1 m ρ B B' h) u hm; exact ⟨s, jW.2 (.inr (QS.2 ⟨a, ha, hs⟩)), e⟩
theorem LA (D : List Nm) (f : Nat) (d : Px.Def) (hg : zC f d.body) (hc : ∀ u ∈ Sx.qE f d.body d.params, u ∈ D) (n : Nat) : ∀ u ∈ Sx.qE f (defn D f d n).2.body (defn D f d n).2.params, u ∈ D := by
 intro u hu; obtain ⟨s, hs, e⟩ := uR D (fun _ => []) f d.body hg _ _ d.params (qO (bnd D) d.params n fun _ => []).2.1 (by simpa using UH (D := D) (ρ := fun _ => []) (ρ0 := fun _ => []) (B := []) (B' := []) ⟨fun s h => (by cases h), fun _ _ => rfl⟩ d.params n) u hu; rw [e]; exact hc s hs
def QA : List (Nm × Nm) -> Nm -> Nm -> Bool
 | [], a, b => a == b
 | q :: r, a, b => if q.1 = a \/ q.2 = b then decide (q.1 = a /\ q.2 = b) else QA r a b
def zS : Nat -> Px.QJ -> Px.QJ -> Bool
 | 0, _, _ => true
 | f + 1, .mk k _ nm i xs, .mk k' _ yX i' xs' => decide (k = k' /\ i = i' /\ xs.length = xs'.length /\ (k = 3 -> nm = yX)) && (List.zip xs xs').all fun q => zS f q.1 q.2
def QV : Nat -> Px.Expr -> Px.Expr -> List (Nm × Nm) -> Bool
 | 0, _, _, _ => true
 | f + 1, .mk k _ nm i ns xs al, .mk k' _ yX i' ns' xs' al', l =>
   decide (k = k' /\ i = i' /\ xs.length = xs'.length /\ ns.length = ns'.length /\ al.length = al'.length) &&
    (if k = 1 then QA l.reverse nm yX else decide (nm = yX) && ((List.zip xs xs').all fun q => QV f q.1 q.2 (l ++ List.zip ns ns')) &&
      (List.zip al al').all fun q => zS f q.1.1 q.2.1 && QV f q.1.2 q.2.2 (l ++ List.zip (Sx.jV f q.1.1) (Sx.jV f q.2.1)))
structure Rs (D : List Nm) (n : Nat) (ρ : Env) (l : List (Nm × Nm)) : Prop where
 look : ∀ s, ρ s ≠ [] -> QA l.reverse s (ρ s) = true
 free : ∀ s, ρ s = [] -> s ∈ D -> QA l.reverse s s = true
 old : ∀ s, ρ s ≠ [] -> ∃ b j, (46 : UInt8) ∉ b /\ ρ s = dot b j /\ j <= n
theorem Rs.more {D : List Nm} {n m : Nat} {ρ : Env} {l : List (Nm × Nm)} (h : Rs D n ρ l) (hn : n <= m) : Rs D m ρ l :=
 ⟨h.look, h.free, fun s hs => by obtain ⟨b, j, h1, h2, h3⟩ := h.old s hs; exact ⟨b, j, h1, h2, by omega⟩⟩
theorem Rs.nil (D : List Nm) (n : Nat) : Rs D n (fun _ => []) [] := ⟨fun s h => absurd rfl h, fun s _ _ => by simp [QA], fun s h => absurd rfl h⟩
theorem Rs.bnd {D : List Nm} {n : Nat} {ρ : Env} {l : List (Nm × Nm)} (h : Rs D n ρ l) (s : Nm) : Rs D (bnd D s n ρ).1 (bnd D s n ρ).2.2 (l ++ [(s, (bnd D s n ρ).2.1)]) := by
 have hc : ∀ t, ρ t ≠ [] -> dot (cut s) (new D (cut s) n) ≠ ρ t := fun t ht e => by
  obtain ⟨b, j, h1, h2, h3⟩ := h.old t ht; rw [h2] at e; have := (Gw (Uw s) h1 e).2; have := Gx D (cut s) n; omega
 refine ⟨fun t ht => ?_, fun t ht hD => ?_, fun t ht => ?_⟩
 . simp only [Fr.bnd, upd] at ht ⊢; rw [List.reverse_append]; simp only [List.reverse_cons, List.reverse_nil, J6, List.singleton_append, QA]; by_cases e : t = s
   . subst e; simp
   . rw [if_neg e] at ht ⊢
     rw [if_neg (by
      rintro (e2 | e2)
      . exact e e2.symm
      . exact hc t ht e2)]
     exact h.look t ht
 . simp only [Fr.bnd, upd] at ht ⊢; by_cases e : t = s
   . rw [if_pos e] at ht; exact absurd ht (Du _ _)
   . rw [if_neg e] at ht; rw [List.reverse_append]; simp only [List.reverse_cons, List.reverse_nil, J6, List.singleton_append, QA]
     rw [if_neg (by
      rintro (e2 | e2)
      . exact e e2.symm
      . exact xe D (Uw s) n (e2 ▸ hD))]
     exact h.free t ht hD
 . simp only [Fr.bnd, upd] at ht ⊢; by_cases e : t = s
   . rw [if_pos e]; exact ⟨_, _, Uw s, rfl, jB _⟩
   . rw [if_neg e] at ht ⊢; obtain ⟨b, j, h1, h2, h3⟩ := h.old t ht; have := Gx D (cut s) n; exact ⟨b, j, h1, h2, by omega⟩
theorem zf {α : Type} (g : α -> Nat -> Env -> Nat × α × Env) : ∀ (l : List α) n ρ, (qO g l n ρ).2.1.length = l.length
 | [], n, ρ => rfl
 | x :: r, n, ρ => by rw [qO, JG, JG, zf g r]
theorem UI {α : Type} (g : α -> Nat -> Nat × α) : ∀ (l : List α) n, (run g l n).2.length = l.length
 | [], n => rfl
 | x :: r, n => by rw [run, JG, JG, UI g r]
theorem Dx {α : Type} {D : List Nm} (g : α -> Nat -> Env -> Nat × α × Env) (b b' : α -> List Nm) : ∀ (l : List α), (∀ x ∈ l, ∀ n ρ, (b x).length = (b' (g x n ρ).2.1).length /\ ∀ L, Rs D n ρ L -> Rs D (g x n ρ).1 (g x n ρ).2.2 (L ++ List.zip (b x) (b' (g x n ρ).2.1))) ->
 ∀ n ρ, (l.flatMap b).length = ((qO g l n ρ).2.1.flatMap b').length /\ ∀ L, Rs D n ρ L -> Rs D (qO g l n ρ).1 (qO g l n ρ).2.2 (L ++ List.zip (l.flatMap b) ((qO g l n ρ).2.1.flatMap b'))
 | [], _, n, ρ => ⟨rfl, fun L h => by simpa [qO] using h⟩
 | x :: r, hg, n, ρ => by
   obtain ⟨h1, h2⟩ := hg x (by simp) n ρ; obtain ⟨h3, h4⟩ := Dx g b b' r (fun y hy => hg y (by simp [hy])) (g x n ρ).1 (g x n ρ).2.2; rw [qO, qP, qP]; refine ⟨by rw [jE, jE, h1, h3], fun L h => ?_⟩; rw [List.zip_append h1, <- jg]; exact h4 _ (h2 L h)
theorem bY {D : List Nm} (l : List Nm) (n : Nat) (ρ : Env) {L : List (Nm × Nm)} (h : Rs D n ρ L) : Rs D (qO (bnd D) l n ρ).1 (qO (bnd D) l n ρ).2.2 (L ++ List.zip l (qO (bnd D) l n ρ).2.1) := by
 have := (Dx (D := D) (bnd D) (fun s => [s]) (fun s => [s]) l (fun x _ n ρ => ⟨rfl, fun L h => h.bnd x⟩) n ρ).2 L h
 rwa [VJ, VJ] at this
theorem NJ (D : List Nm) : ∀ (f : Nat) (x : Px.QJ), Zw f x -> ∀ n ρ, (Sx.jV f x).length = (Sx.jV f (pat D f x n ρ).2.1).length /\ ∀ L, Rs D n ρ L -> Rs D (pat D f x n ρ).1 (pat D f x n ρ).2.2 (L ++ List.zip (Sx.jV f x) (Sx.jV f (pat D f x n ρ).2.1))
 | 0, x, _, n, ρ => ⟨rfl, fun L h => by simpa [pat, Sx.jV] using h⟩
 | f + 1, .mk k p nm i xs, hg, n, ρ => by
   rw [Zw] at hg; simp only [pat]; by_cases hk : k = 1
   . have hx := hg.1 hk; subst hx; simp only [if_pos hk, qO, Sx.jV]; exact ⟨rfl, fun L h => h.bnd nm⟩
   . simp only [if_neg hk, Sx.jV]; exact Dx (pat D f) (Sx.jV f) (Sx.jV f) xs (fun x hx n ρ => NJ D f x (hg.2 x hx) n ρ) n ρ
end Fr
namespace Fr
theorem fJ {α : Type} (g : α -> Nat -> Env -> Nat × α × Env) : ∀ (l : List α) n ρ, ∀ q ∈ List.zip l (qO g l n ρ).2.1, q.1 ∈ l /\ ∃ m τ, q.2 = (g q.1 m τ).2.1
 | [], n, ρ, q, h => by simp at h
 | x :: r, n, ρ, q, h => by
   rw [qO, List.zip_cons_cons] at h
   rcases jf.1 h with rfl | h
   . exact ⟨by simp, n, ρ, rfl⟩
   . obtain ⟨h1, h2⟩ := fJ g r _ _ q h; exact ⟨by simp [h1], h2⟩
theorem G8 {α : Type} (g : α -> Nat -> Nat × α) : ∀ (l : List α), (∀ x ∈ l, ∀ n, n <= (g x n).1) -> ∀ n, ∀ q ∈ List.zip l (run g l n).2, q.1 ∈ l /\ ∃ m, n <= m /\ q.2 = (g q.1 m).2
 | [], _, n, q, h => by simp at h
 | x :: r, hg, n, q, h => by
   rw [run, List.zip_cons_cons] at h
   rcases jf.1 h with rfl | h
   . exact ⟨by simp, n, jB _, rfl⟩
   . obtain ⟨h1, m, h2, h3⟩ := G8 g r (fun y hy => hg y (by simp [hy])) _ q h; exact ⟨by simp [h1], m, jS (hg x (by simp) n) h2, h3⟩
theorem NK {α : Type} (g : α -> Nat -> Nat × α) : ∀ (l : List α), (∀ x ∈ l, ∀ n, n <= (g x n).1) -> ∀ n, n <= (run g l n).1
 | [], _, n => jB _
 | x :: r, hg, n => by
   rw [run]; exact jS (hg x (by simp) n) (NK g r (fun y hy => hg y (by simp [hy])) _)
theorem bZ (D : List Nm) : ∀ (f : Nat) (x : Px.QJ), Zw f x -> ∀ n ρ, zS f x (pat D f x n ρ).2.1 = true
 | 0, x, _, n, ρ => by cases x; rfl
 | f + 1, .mk k p nm i xs, hg, n, ρ => by
   rw [Zw] at hg; simp only [pat]; by_cases hk : k = 1
   . have hx := hg.1 hk; subst hx; simp only [if_pos hk, qO, zS]; simp [hk]
   . simp only [if_neg hk, zS]; rw [Ji]; refine ⟨by simp [zf], ?_⟩; rw [Ju]; intro q hq; obtain ⟨h1, m, τ, h2⟩ := fJ _ _ _ _ q hq; rw [h2]; exact bZ D f q.1 (hg.2 _ h1) m τ
theorem Uy (D : List Nm) (ρ0 : Env) : ∀ (f : Nat) (x : Px.Expr), zC f x -> ∀ n ρ L B B', Rs D n ρ L -> Rb ρ ρ0 B B' -> (∀ u ∈ Sx.qE f x B, u ∈ D) -> QV f x (expr D f x n ρ).2 L = true
 | 0, x, _, n, ρ, L, B, B', _, _, _ => by cases x; rfl
 | f + 1, .mk k p nm i ns xs al, hg, n, ρ, L, B, B', hr, hb, hu => by
   have hg0 := hg; rw [zC] at hg; rw [Sx.qE] at hu; simp only [expr, QV]; rw [Ji]; refine ⟨by simp [zf, UI], ?_⟩; by_cases hk : k = 1
   . rw [if_pos hk, if_pos hk]; unfold called; by_cases hn : ρ nm = []
     . rw [if_pos hn]; have hnb : nm ∉ B := fun h => (hb.1 nm h).1 hn
       refine hr.free nm hn (hu nm (jW.2 (.inl (jW.2 (.inl ?_))))); rw [if_pos ⟨hk, by simpa using hnb⟩]; simp
     . rw [if_neg hn]; exact hr.look nm hn
   . rw [if_neg hk, if_neg hk]; have hbs := Ux D ns n ρ; simp only [Ji, Qv, true_and, Ju]; have hmono : ∀ y ∈ xs, ∀ m, m <= (expr D f y m (qO (bnd D) ns n ρ).2.2).1 := fun y hy m => (VK D f y (hg.2.1 y hy) m _).1
     refine ⟨fun q hq => ?_, fun q hq => ?_⟩
     . obtain ⟨h1, m, h2, h3⟩ := G8 (fun x m => expr D f x m (qO (bnd D) ns n ρ).2.2) xs hmono _ q hq; rw [h3]; exact Uy D ρ0 f q.1 (hg.2.1 _ h1) m _ _ (B ++ ns) _ ((bY ns n ρ hr).more h2) (UH hb ns n) fun u hu' => hu u (jW.2 (.inl (jW.2 (.inr (QS.2 ⟨q.1, h1, hu'⟩)))))
     . obtain ⟨h1, m, h2, h3⟩ := G8 _ al (fun a ha m => jS (Gz D f a.1 (hg.2.2 a ha).1 m ρ).1 (VK D f a.2 (hg.2.2 a ha).2 _ _).1) _ q hq; rw [h3]; have hnm : n <= m := jS hbs.1 (jS (NK (fun x m => expr D f x m (qO (bnd D) ns n ρ).2.2) xs hmono _) h2); refine ⟨bZ D f q.1.1 (hg.2.2 _ h1).1 m ρ, ?_⟩; exact Uy D ρ0 f q.1.2 (hg.2.2 _ h1).2 _ _ _ (B ++ Sx.jV f q.1.1) _ ((NJ D f q.1.1 (hg.2.2 _ h1).1 m ρ).2 L (hr.more hnm)) (Dw D ρ0 f q.1.1 (hg.2.2 _ h1).1 m ρ B B' hb) fun u hu' => hu u (jW.2 (.inr (QS.2 ⟨q.1, h1, hu'⟩)))
theorem LB (D : List Nm) (f : Nat) (d : Px.Def) (hg : zC f d.body) (hc : ∀ u ∈ Sx.qE f d.body d.params, u ∈ D) (n : Nat) : QV f d.body (defn D f d n).2.body (List.zip d.params (defn D f d n).2.params) = true := by
 have h1 := bY (D := D) d.params n (fun _ => []) (Rs.nil D n); have h2 := UH (D := D) (ρ := fun _ => []) (ρ0 := fun _ => []) (B := []) (B' := []) ⟨fun s h => (by cases h), fun _ _ => rfl⟩ d.params n; rw [J6] at h1; rw [J6] at h2; exact Uy D (fun _ => []) f d.body hg _ _ _ d.params _ h1 h2 hc
theorem UJ : ∀ (L : List (Nm × Nm)) (s : Nm), (∀ q ∈ L, q.1 = q.2) -> QA L s s = true
 | [], s, _ => by simp [QA]
 | q :: r, s, h => by
   have e := h q (by simp); rw [QA]; by_cases hq : q.2 = s
   . rw [if_pos (.inr hq)]; simp [e, hq]
   . rw [if_neg (fun h0 => h0.elim (fun h1 => hq (e ▸ h1)) hq)]; exact UJ r s fun q hq => h q (by simp [hq])
theorem Yx {α : Type} : ∀ (l : List α), ∀ q ∈ List.zip l l, q.1 = q.2 /\ q.1 ∈ l
 | [], q, h => by cases h
 | x :: r, q, h => by
   rw [List.zip_cons_cons] at h
   rcases jf.1 h with rfl | h
   . exact ⟨rfl, by simp⟩
   . obtain ⟨a, b⟩ := Yx r q h; exact ⟨a, by simp [b]⟩
theorem xh : ∀ (f : Nat) (x : Px.QJ), zS f x x = true
 | 0, x => by cases x; rfl
 | f + 1, .mk k p nm i xs => by
   simp only [zS, Ji, Ju]; refine ⟨by simp, fun q hq => ?_⟩; rw [<- (Yx xs q hq).1]; exact xh f q.1
theorem Uz : ∀ (f : Nat) (x : Px.Expr) (L : List (Nm × Nm)), (∀ q ∈ L, q.1 = q.2) -> QV f x x L = true
 | 0, x, L, _ => by cases x; rfl
 | f + 1, .mk k p nm i ns xs al, L, h => by
   simp only [QV, Ji]; refine ⟨by simp, ?_⟩; have hz : ∀ l : List Nm, ∀ q ∈ L ++ List.zip l l, q.1 = q.2 := fun l q hq => (jW.1 hq).elim (h q) fun hq => (Yx l q hq).1
   split
   . exact UJ _ _ fun q hq => h q (List.mem_reverse.1 hq)
   . simp only [Ji, Qv, true_and, Ju]; refine ⟨fun q hq => ?_, fun q hq => ?_⟩
     . rw [<- (Yx xs q hq).1]; exact Uz f q.1 _ (hz ns)
     . rw [<- (Yx al q hq).1]; exact ⟨xh f q.1.1, Uz f q.1.2 _ (hz _)⟩
def J9 : Nat -> Px.Expr -> Bool
 | 0, _ => true
 | f + 1, .mk k _ _ _ ns xs al =>
   (if k = 0 \/ k = 1 \/ k = 8 then decide (xs.length + al.length = 0) else if k = 3 then decide (xs.length = 1 /\ ns.length ≠ 0) else if k = 4 then decide (xs.length = ns.length + 1 /\ 2 <= xs.length)
     else if k = 5 then decide (xs.length = 1 /\ al.length ≠ 0) else if k = 6 then decide (2 <= xs.length) else if k = 7 then decide (xs.length = 1 \/ xs.length = 2) else if k = 2 then decide (al.length = 0) else false) &&
   (xs.all (J9 f) && al.all fun a => J9 f a.2)
theorem Ye {α : Type} (g : α -> Nat -> Nat × α) (P : α -> Prop) : ∀ (l : List α), (∀ x ∈ l, ∀ n, P (g x n).2) -> ∀ n, ∀ y ∈ (run g l n).2, P y
 | [], _, n, y, h => by cases h
 | x :: r, hg, n, y, h => by
   rw [run] at h
   rcases jf.1 h with rfl | h
   . exact hg x (by simp) n
   . exact Ye g P r (fun z hz => hg z (by simp [hz])) _ y h
theorem VL (D : List Nm) : ∀ (f : Nat) (x : Px.Expr) n ρ, J9 f x = true -> J9 f (expr D f x n ρ).2 = true
 | 0, x, n, ρ, h => rfl
 | f + 1, .mk k p nm i ns xs al, n, ρ, h => by
   simp only [J9, Ji, Ju] at h; simp only [expr, J9, Ji, Ju, zf, UI]; refine ⟨h.1, Ye _ _ xs (fun x hx m => VL D f x m _ (h.2.1 x hx)) _, ?_⟩; exact Ye _ _ al (fun a ha m => VL D f a.2 _ _ (h.2.2 a ha)) _
theorem fK {α : Type} (g : α -> Nat -> Env -> Nat × α × Env) (P : α -> Prop) : ∀ (l : List α), (∀ x ∈ l, ∀ n ρ, P (g x n ρ).2.1) -> ∀ n ρ, ∀ y ∈ (qO g l n ρ).2.1, P y
 | [], _, n, ρ, y, h => by cases h
 | x :: r, hg, n, ρ, y, h => by
   rw [qO] at h
   rcases jf.1 h with rfl | h
   . exact hg x (by simp) n ρ
   . exact fK g P r (fun z hz => hg z (by simp [hz])) _ _ y h
theorem kW (D : List Nm) : ∀ (f : Nat) (x : Px.QJ) n ρ, Zw f x -> Zw f (pat D f x n ρ).2.1
 | 0, x, n, ρ, h => trivial
 | f + 1, .mk k p nm i xs, n, ρ, h => by
   rw [Zw] at h; simp only [pat, Zw]; refine ⟨fun hk => ?_, fK _ _ xs (fun x hx m τ => kW D f x m τ (h.2 x hx)) _ _⟩; have := h.1 hk; subst this; rfl
theorem VM (D : List Nm) : ∀ (f : Nat) (x : Px.Expr) n ρ, zC f x -> zC f (expr D f x n ρ).2
 | 0, x, n, ρ, h => trivial
 | f + 1, .mk k p nm i ns xs al, n, ρ, h => by
   rw [zC] at h; simp only [expr, zC]; refine ⟨fun h3 h4 => ?_, Ye _ _ xs (fun x hx m => VM D f x m _ (h.2.1 x hx)) _, Ye _ _ al (fun a ha m => ⟨kW D f a.1 _ _ (h.2.2 a ha).1, VM D f a.2 _ _ (h.2.2 a ha).2⟩) _⟩; have := h.1 h3 h4; subst this; rfl
end Fr
end Go.Proofs.YtlnjdclmopblcaaDoor
namespace Go.Proofs.YtlnjdclmopblcaaDoor
open Go Go.RowKit
open Go.Lib (hid)
section
variable {κ : Type} {enc : κ -> Value} {V : World -> κ -> Prop}
def V3 (enc : κ -> Value) (V : World -> κ -> Prop) (w : World) (b : Nat) (L : List (κ × Value)) : Prop :=
 ∃ es clock, w.heap[b]? = some (.map es clock) /\ es.toList.map (fun e => (e.key, e.val)) = L.map (fun p => (enc p.1, p.2)) /\ ∀ p ∈ L, V w p.1
theorem V3.lt {w : World} {b : Nat} {L : List (κ × Value)} (h : V3 enc V w b L) : b < w.heap.size := by
 obtain ⟨es, clock, hb, _⟩ := h; exact (JW.1 hb).1
theorem V3.made (w : World) : V3 enc V (w.alloc (.map #[] 0)) w.heap.size [] := ⟨#[], 0, (MapKept.heap_alloc w _).1, rfl, fun _ h => by cases h⟩
theorem V3.keep {w w' : World} {b : Nat} {L : List (κ × Value)} (h : V3 enc V w b L) (hk : w'.heap[b]? = w.heap[b]?) (hv : ∀ x, V w x -> V w' x) : V3 enc V w' b L := by
 obtain ⟨es, clock, hb, h1, h2⟩ := h; exact ⟨es, clock, hk.trans hb, h1, fun p hp => hv _ (h2 p hp)⟩
end
section
variable {κ : Type} [DecidableEq κ]
def Zx (x : κ) : List (κ × Value) -> Nat -> Option (Nat × Value)
 | [], _ => none
 | p :: r, i => if x = p.1 then some (i, p.2) else Zx x r (i + 1)
def yY (x : κ) (L : List (κ × Value)) : Option Value := (Zx x L 0).map (·.2)
def VN (x : κ) (v : Value) : List (κ × Value) -> List (κ × Value)
 | [] => [(x, v)]
 | p :: r => if x = p.1 then (x, v) :: r else p :: VN x v r
theorem yZ (x : κ) : ∀ (L : List (κ × Value)) (i : Nat), Zx x L i = (Zx x L 0).map fun p => (p.1 + i, p.2)
 | [], _ => rfl
 | p :: r, i => by
   unfold Zx; by_cases h : x = p.1
   . rw [if_pos h, if_pos h]; simp
   . rw [if_neg h, if_neg h, yZ x r (i + 1), yZ x r (0 + 1)]; cases Zx x r 0 with
     | none => rfl
     | some q => simp [Nat.add_assoc, Em 1 i]
theorem LC (x : κ) : yY x [] = none := rfl
theorem YP (x : κ) (p : κ × Value) (r : List (κ × Value)) : yY x (p :: r) = if x = p.1 then some p.2 else yY x r := by
 unfold yY; rw [Zx]; by_cases h : x = p.1
 . rw [if_pos h, if_pos h]; rfl
 . rw [if_neg h, if_neg h, yZ x r (0 + 1)]; cases Zx x r 0 <;> rfl
theorem Vn (x y : κ) (v : Value) : ∀ L : List (κ × Value), yY y (VN x v L) = if y = x then some v else yY y L
 | [] => by rw [VN, YP, LC]
 | p :: r => by
   rw [VN]; by_cases h : x = p.1
   . rw [if_pos h, YP, YP]
     dsimp only
     by_cases h2 : y = x
     . rw [if_pos h2, if_pos h2]
     . rw [if_neg h2, if_neg h2, if_neg (by rw [<- h]; exact h2)]
   . rw [if_neg h, YP, YP, Vn x y v r]; by_cases h2 : y = p.1
     . rw [if_pos h2, if_pos h2, if_neg (by rw [h2]; exact Ne.symm h)]
     . rw [if_neg h2, if_neg h2]
theorem xm {x : κ} {v : Value} : ∀ {L : List (κ × Value)} {p : κ × Value}, p ∈ VN x v L -> p.1 = x \/ p ∈ L
 | [], p, h => by rw [VN, j4] at h; subst h; exact .inl rfl
 | q :: r, p, h => by
   rw [VN] at h
   split at h
   . rcases jf.1 h with rfl | h
     . exact .inl rfl
     . exact .inr (UZ _ h)
   . rcases jf.1 h with rfl | h
     . exact .inr (by simp)
     . rcases xm h with h | h
       . exact .inl h
       . exact .inr (UZ _ h)
structure KeyLaw (P : Program) (kt : TypeId) (enc : κ -> Value) (V : World -> κ -> Prop) : Prop where
 check : ∀ w e x, (Instr.checkKey e 10000 kt (enc x)).run P w = .ok () w
 bits : ∀ x, Instr.sameBits 10000 (enc x) (enc x) = true
 find : ∀ w x (es : List MapEntry) (L : List (κ × Value)), es.map (fun e => (e.key, e.val)) = L.map (fun p => (enc p.1, p.2)) -> V w x -> (∀ p ∈ L, V w p.1) -> (Instr.findKey kt (enc x) es).run P w = .ok (Zx x L 0) w
variable {enc : κ -> Value} {V : World -> κ -> Prop} {P : Program} {kt : TypeId}
theorem V3.look {w : World} {b : Nat} {L : List (κ × Value)} (h : V3 enc V w b L) (K : KeyLaw P kt enc V) {t e : TypeId} (ht : P.underlying t = some (.map kt e)) {z : Value} (hz : (zeroValue e).run P w = .ok z w) (x : κ) (hx : V w x) :
 (Instr.lookup t (.map (some b)) (enc x) false).run P w = .ok ((yY x L).getD z) w /\ (Instr.lookup t (.map (some b)) (enc x) true).run P w = .ok (.tuple #[(yY x L).getD z, .bool (yY x L).isSome]) w := by
 obtain ⟨es, clock, hb, h1, h2⟩ := h; have hf := K.find w x es.toList L h1 hx h2; unfold yY; cases hl : Zx x L 0 with
 | none =>
   rw [hl] at hf
   constructor <;> simp [Instr.lookup, Va ht, Vb hb, K.check, hf, hz, Result.andThen]
 | some q =>
   rw [hl] at hf
   constructor <;> simp [Instr.lookup, Va ht, Vb hb, K.check, hf, Result.andThen]
theorem xu {x : κ} : ∀ {L : List (κ × Value)}, Zx x L 0 = none -> ∀ v, VN x v L = L ++ [(x, v)]
 | [], _, v => rfl
 | p :: r, h, v => by
   unfold Zx at h; by_cases e : x = p.1
   . rw [if_pos e] at h; cases h
   . rw [if_neg e, yZ] at h; rw [VN, if_neg e, xu (by cases hf : Zx x r 0 with | none => rfl | some q => rw [hf] at h; cases h) v, JQ]
theorem xw {x : κ} : ∀ {L : List (κ × Value)} {i : Nat} {u : Value}, Zx x L 0 = some (i, u) -> L[i]? = some (x, u) /\ ∀ v, VN x v L = L.set i (x, v)
 | [], i, u, h => by cases h
 | p :: r, i, u, h => by
   unfold Zx at h; by_cases e : x = p.1
   . rw [if_pos e] at h; cases h; exact ⟨by rw [e]; rfl, fun v => by rw [VN, if_pos e]; rfl⟩
   . rw [if_neg e, yZ] at h; cases hf : Zx x r 0 with
     | none => rw [hf] at h; cases h
     | some q =>
       obtain ⟨j, y⟩ := q; rw [hf] at h; simp only [Option.map_some, Jn, Jr] at h; obtain ⟨rfl, rfl⟩ := h; obtain ⟨h1, h2⟩ := xw hf; exact ⟨by simpa using h1, fun v => by rw [VN, if_neg e, h2 v]; rfl⟩
theorem V3.update {w : World} {b : Nat} {L : List (κ × Value)} (h : V3 enc V w b L) (K : KeyLaw P kt enc V) {t e : TypeId} (ht : P.underlying t = some (.map kt e)) (x : κ) (hx : V w x) (v : Value) (hV : ∀ w' y, (∀ c, c ≠ b -> w'.heap[c]? = w.heap[c]?) -> (∃ es k, w'.heap[b]? = some (.map es k)) -> V w y -> V w' y) :
 ∃ w', (Instr.mapUpdate t (.map (some b)) (enc x) v).run P w = .ok () w' /\ V3 enc V w' b (VN x v L) /\ w.grownBy w' (some b) := by
 obtain ⟨es, clock, hb, h1, h2⟩ := h; have hf := K.find w x es.toList L h1 hx h2; have hset : ∀ o' : Obj, ({ w with heap := w.heap.setIfInBounds b o' } : World).heap[b]? = some o' /\ ∀ r', r' ≠ b -> ({ w with heap := w.heap.setIfInBounds b o' } : World).heap[r']? = w.heap[r']? := fun o' => MapKept.heap_set hb
 have hgrow : ∀ o' : Obj, w.grownBy { w with heap := w.heap.setIfInBounds b o' } (some b) := fun o' => ⟨rfl, rfl, rfl, by simp, fun c hc hne => (hset o').2 c (fun e => hne (by rw [e]))⟩
 cases hl : Zx x L 0 with
 | none =>
   rw [hl] at hf; refine ⟨{ w with heap := w.heap.setIfInBounds b (.map (es.push { key := enc x, val := v, born := clock }) (clock + 1)) }, ?_, ⟨_, _, (hset _).1, ?_, fun p hp => ?_⟩, hgrow _⟩
   . simp [Instr.mapUpdate, Va ht, Vb hb, K.check, hf, MapKept.run_setObj_map _ hb, Result.andThen]
   . rw [xu hl, Array.toList_push, QN, QN, h1]; rfl
   . rcases xm hp with e | hp
     . rw [e]; exact hV _ _ (hset _).2 ⟨_, _, (hset _).1⟩ hx
     . exact hV _ _ (hset _).2 ⟨_, _, (hset _).1⟩ (h2 p hp)
 | some q =>
   obtain ⟨i, u⟩ := q; rw [hl] at hf; obtain ⟨g1, g2⟩ := xw hl; have hkey : (es.toList.map (fun e => (e.key, e.val)))[i]? = some (enc x, u) := by rw [h1, QG, g1]; rfl
   rw [QG] at hkey; obtain ⟨e0, he0, hk0⟩ := Option.map_eq_some_iff.1 hkey; have hk1 : e0.key = enc x := congrArg Prod.fst hk0; rw [zG] at he0; refine ⟨{ w with heap := w.heap.setIfInBounds b (.map (es.modify i fun e => { e with key := enc x, val := v }) clock) }, ?_, ⟨_, _, (hset _).1, ?_, fun p hp => ?_⟩, hgrow _⟩
   . simp [Instr.mapUpdate, Va ht, Vb hb, K.check, hf, MapKept.run_setObj_map _ hb, Result.andThen, Instr.keyThatStays, he0, hk1, K.bits]
   . rw [g2]
     apply List.ext_getElem?
     intro j; have hj := congrArg (fun l => l[j]?) h1; simp only [QG, zG] at hj; simp only [QG, zG, Array.getElem?_modify, List.getElem?_set]; by_cases hij : i = j
     . subst hij; rw [if_pos rfl, he0]; have hL : i < L.length := (jm.1 g1).1; simp [hL]
     . rw [if_neg hij, if_neg hij]; exact hj
   . rcases xm hp with e | hp
     . rw [e]; exact hV _ _ (hset _).2 ⟨_, _, (hset _).1⟩ hx
     . exact hV _ _ (hset _).2 ⟨_, _, (hset _).1⟩ (h2 p hp)
end
def Xv (s : Nm) : Value := .string ⟨s.toArray⟩
theorem fM {x y : Nm} (h : x ≠ y) : ¬ (⟨x.toArray⟩ : ByteArray) = ⟨y.toArray⟩ := fun e => h (by
 have e2 : x.toArray = y.toArray := by injection e
 have := congrArg Array.toList e2
 simpa using this)
theorem kX (x : Nm) : ∀ (es : List MapEntry) (L : List (Nm × Value)) (i : Nat), es.map (fun e => (e.key, e.val)) = L.map (fun p => (Xv p.1, p.2)) -> Instr.findNow .string (Xv x) es i = some (Zx x L i)
 | [], [], i, _ => rfl
 | [], _ :: _, _, h => by simp at h
 | _ :: _, [], _, h => by simp at h
 | e :: es, p :: L, i, h => by
   simp only [je, zh, Jr] at h; obtain ⟨⟨h1, h2⟩, h3⟩ := h; rw [Instr.findNow, Zx, h1, h2]; by_cases hx : x = p.1
   . rw [if_pos hx]
     have : Instr.sameNow .string (Xv x) (Xv p.1) = some true := by
      show some ((⟨x.toArray⟩ : ByteArray) == ⟨p.1.toArray⟩) = some true; rw [hx, (GZ _ _).2 rfl]
     rw [this]
   . rw [if_neg hx]
     have : Instr.sameNow .string (Xv x) (Xv p.1) = some false := by
      show some ((⟨x.toArray⟩ : ByteArray) == ⟨p.1.toArray⟩) = some false
      congr 1
      rw [Gc]; exact fun h => fM hx ((GZ _ _).1 h)
     rw [this]; exact kX x es L (i + 1) h3
theorem vK {P : Program} {kt : TypeId} (hk : P.underlying kt = some .string) : KeyLaw P kt Xv (fun _ _ => True) where
 check w e x := MapKept.run_checkKey hk (by simp [MapKept.IsKey, Xv]) e 9999
 bits x := by simp [Instr.sameBits, Xv, GZ]
 find w x es L h _ _ := MapKept.run_findKey hk (kX x es L 0 h)
abbrev Z6 (w : World) (b : Nat) (L : List (Nm × Value)) : Prop := V3 Xv (fun _ _ => True) w b L
def Dy (f : Nat) : Prop := ∀ (x y : Px.QJ) (v u : Value) (w : World), qj f w v x -> qj f w u y -> Calls Tryd.prog 38 #[v, u] w fun e w' => e = .returned (.bool (Fr.zS f x y)) /\ Below w.heap.size w w'
theorem bg {α : Type} (p : α -> Bool) (l : List α) (m : Nat) (x : α) (h : l[m]? = some x) : (l.take (m + 1)).all p = ((l.take m).all p && p x) := by
 rw [JC, h]; simp
theorem G9 (f : Nat) (ih : Dy f) : Dy (f + 1) := by
 intro x y v u w hx hy; cases x with | mk k p nm i xs =>
 cases y with | mk k' p' yX i' ys =>
 obtain ⟨av, rfl, hr⟩ := hx; obtain ⟨bv, rfl, hs⟩ := hy; obtain ⟨q, cp, rfl⟩ := hr.len; obtain ⟨q', cp', rfl⟩ := hs.len; have HR := hid hr; have HS := hid hs
 clear hr hs; go_enter Tryd.func38, Tryd.ntmps38; have EA := hid ((jM (jb w #[.int .i64 k, .int .i64 p, .string ⟨nm.toArray⟩, .int .i64 i, .slice q xs.length cp] 85) ((jD (w.alloc (.cells #[.int .i64 k, .int .i64 p, .string ⟨nm.toArray⟩, .int .i64 i, .slice q xs.length cp] 85)).heap.size (w.alloc (.cells #[.int .i64 k, .int .i64 p, .string ⟨nm.toArray⟩, .int .i64 i, .slice q xs.length cp] 85))).alloc (jB _) (.cells #[.int .i64 k', .int .i64 p', .string ⟨yX.toArray⟩, .int .i64 i', .slice q' ys.length cp'] 85)))); have EB := hid (jb (w.alloc (.cells #[.int .i64 k, .int .i64 p, .string ⟨nm.toArray⟩, .int .i64 i, .slice q xs.length cp] 85)) #[.int .i64 k', .int .i64 p', .string ⟨yX.toArray⟩, .int .i64 i', .slice q' ys.length cp'] 85); have HB := hid (((jD w.heap.size w).alloc (jB _) (.cells #[.int .i64 k, .int .i64 p, .string ⟨nm.toArray⟩, .int .i64 i, .slice q xs.length cp] 85)).alloc (by simp) (.cells #[.int .i64 k', .int .i64 p', .string ⟨yX.toArray⟩, .int .i64 i', .slice q' ys.length cp'] 85)); have hsa : (w.alloc (.cells #[.int .i64 k, .int .i64 p, .string ⟨nm.toArray⟩, .int .i64 i, .slice q xs.length cp] 85)).heap.size = w.heap.size + 1 := by simp
 rw [hsa] at EB; have hsz : w.heap.size + 2 <= ((w.alloc (.cells #[.int .i64 k, .int .i64 p, .string ⟨nm.toArray⟩, .int .i64 i, .slice q xs.length cp] 85)).alloc (.cells #[.int .i64 k', .int .i64 p', .string ⟨yX.toArray⟩, .int .i64 i', .slice q' ys.length cp'] 85)).heap.size := by simp
 go_upto_region 1 with fail
 generalize (w.alloc (.cells #[.int .i64 k, .int .i64 p, .string ⟨nm.toArray⟩, .int .i64 i, .slice q xs.length cp] 85)).alloc (.cells #[.int .i64 k', .int .i64 p', .string ⟨yX.toArray⟩, .int .i64 i', .slice q' ys.length cp'] 85) = w1 at EA EB HB hsz ⊢; have HP : Hid (Fr.zS (f + 1) (.mk k p nm i xs) (.mk k' p' yX i' ys) = (decide (k = k' /\ i = i' /\ xs.length = ys.length /\ (k = 3 -> nm = yX)) && (List.zip xs ys).all fun q => Fr.zS f q.1 q.2)) := hid (by rw [Fr.zS]); obtain ⟨R, hR⟩ : ∃ R, R = Fr.zS (f + 1) (.mk k p nm i xs) (.mk k' p' yX i' ys) := ⟨_, rfl⟩
 have HRR := hid hR; rw [<- hR] at HP; clear hR
 go_cut [38] (fun o wx => ∃ b : Bool, o = .bool b /\ wx = w1 /\ Hid (if b then R = false else xs.length = ys.length /\ R = (List.zip xs ys).all fun q => Fr.zS f q.1 q.2))
 case first =>
  have a0 := xK EA 0 rfl; have a2 := xK EA 2 rfl; have a3 := xK EA 3 rfl; have a4 := xK EA 4 rfl; have b0 := xK EB 0 rfl; have b2 := xK EB 2 rfl; have b3 := xK EB 3 rfl; have b4 := xK EB 4 rfl; by_cases h1 : k = k'
  case neg =>
   have t1 : ((k : Int) != (k' : Int)) = true := by simp; omega
   go_wp2_with fail
   go_meet
   exact ⟨true, rfl, rfl, hid (by rw [HP.out]; simp [h1])⟩
  have t1 : ((k : Int) != (k' : Int)) = false := by simp [h1]
  by_cases h2 : i = i'
  case neg =>
   have t2 : (i != i') = true := by simp [h2]
   go_wp2_with fail
   go_meet
   exact ⟨true, rfl, rfl, hid (by rw [HP.out]; simp [h2])⟩
  have t2 : (i != i') = false := by simp [h2]
  by_cases h3 : xs.length = ys.length
  case neg =>
   have t3 : ((xs.length : Int) != (ys.length : Int)) = true := by simp; omega
   go_wp2_with fail
   go_meet
   exact ⟨true, rfl, rfl, hid (by rw [HP.out]; simp [h3])⟩
  have t3 : ((xs.length : Int) != (ys.length : Int)) = false := by simp [h3]
  have H1 := hid h1; have H2 := hid h2; have H3 := hid h3
  clear h1 h2 h3; by_cases h5 : k = 3
  case neg =>
   have t4 : ((k : Int) == 3) = false := qF.2 (by omega); have H5 := hid h5; clear h5; go_wp2_with fail
   go_meet
   exact ⟨false, rfl, rfl, hid ⟨H3.out, by rw [HP.out, JL ⟨H1.out, H2.out, H3.out, fun hk => absurd hk H5.out⟩, qK]⟩⟩
  have t4 : ((k : Int) == 3) = true := by simp; omega
  have H5 := hid h5; clear h5; by_cases h6 : nm = yX
  case pos =>
   have H6 := hid h6; have t5 : (⟨nm.toArray⟩ : ByteArray) = ⟨yX.toArray⟩ := by rw [h6]
   clear h6; go_wp2_with fail
   go_meet
   exact ⟨false, rfl, rfl, hid ⟨H3.out, by rw [HP.out, JL ⟨H1.out, H2.out, H3.out, fun _ => H6.out⟩, qK]⟩⟩
  case neg =>
   have H6 := hid h6; clear h6; go_wp2_with fail
   go_meet
   exact ⟨true, by rw [show (nm == yX) = false from qF.2 H6.out]; rfl, rfl, hid (by show R = false; rw [HP.out, jl (fun h => H6.out (h.2.2.2 H5.out)), JV])⟩
 case rest =>
 obtain ⟨b, rfl, rfl, HQ⟩ := hcut; clear HP; cases b with
 | true =>
   go_wp2_with fail; go_ret; exact ⟨by rw [<- HRR.out, show R = false from HQ.out]; rfl, HB.out⟩
 | false =>
   have HL : Hid (xs.length = ys.length) := hid HQ.out.1; have HE : Hid (R = (List.zip xs ys).all fun q => Fr.zS f q.1 q.2) := hid HQ.out.2; clear HQ; go_wp2_with fail
   go_loopw [5] (fun j wr => ∃ m : Nat, j = .int .i64 m /\ m <= xs.length /\ Hid (((List.zip xs ys).take m).all (fun q => Fr.zS f q.1 q.2) = true) /\ Hid (wr.heap[w.heap.size]? = some (.cells #[.int .i64 k, .int .i64 p, .string ⟨nm.toArray⟩, .int .i64 i, .slice q xs.length cp] 85 (0, 0))) /\ Hid (wr.heap[w.heap.size + 1]? = some (.cells #[.int .i64 k', .int .i64 p', .string ⟨yX.toArray⟩, .int .i64 i', .slice q' ys.length cp'] 85 (0, 0))) /\ Hid (Below w.heap.size w wr)) (fun j _ => xs.length - (intOf j).toNat)
   case atStart => exact ⟨0, rfl, jh _, hid (by simp), EA, EB, HB⟩
   case round =>
    clear EA EB HB hsz; obtain ⟨m, rfl, hm, HA, EA, EB, HB⟩ := hrel; have hs1 := ji EB; have a4 := xK EA 4 rfl; have b4 := xK EB 4 rfl; by_cases hlt : m < xs.length
    . obtain ⟨y, hy⟩ : ∃ y, xs[m]? = some y := ⟨_, jA hlt⟩
      obtain ⟨z, hz⟩ : ∃ z, ys[m]? = some z := ⟨_, jA (HL.out ▸ hlt)⟩
      rcases HR.out with ⟨h0, _⟩ | ⟨g, of, c', hv, g1, g2, g3⟩
      . rw [h0] at hlt; simp at hlt
      injection hv with hq1 _ hq2
      subst hq1; subst hq2
      rcases HS.out with ⟨h0, _⟩ | ⟨g', of', c', hv, i1, i2, i3⟩
      . rw [HL.out, h0] at hlt; simp at hlt
      injection hv with hq1 _ hq2
      subst hq1; subst hq2
      obtain ⟨u, hu, _, hcell⟩ := g3 m y hy; have hu2 := qB hu HB; obtain ⟨a0, a1, a2, a3, uq, un, uc, rfl⟩ := yT hu
      have HC := hid (fun (w' : World) (h : Below (w.heap.size + 2) wr w') =>
       have up : ∀ j z, (Value.agg #[.int .i64 a0, .int .i64 a1, .string a2, .int .i64 a3, .slice uq un uc]).cells[j]? = some z -> w'.cell? ⟨g, of + m * 5 + j, none⟩ = some z := fun j z hz => (h.cell (p := ⟨g, of + m * 5 + j, none⟩) (by have := JK w _ (hcell 0 _ rfl); dsimp only at *; omega)).trans (jC HB (hcell j z hz))
       (show w'.cell? ⟨g, of + m * 5, none⟩ = some (.int .i64 a0) /\ w'.cell? ⟨g, of + m * 5 + 1, none⟩ = some (.int .i64 a1) /\ w'.cell? ⟨g, of + m * 5 + 2, none⟩ = some (.string a2) /\ w'.cell? ⟨g, of + m * 5 + 3, none⟩ = some (.int .i64 a3) /\ w'.cell? ⟨g, of + m * 5 + 4, none⟩ = some (.slice uq un uc) from ⟨up 0 _ rfl, up 1 _ rfl, up 2 _ rfl, up 3 _ rfl, up 4 _ rfl⟩))
      obtain ⟨u', hu', _, hcell'⟩ := i3 m z hz; have hu3 := qB hu' HB; obtain ⟨b0, b1, b2, b3, vq, vn, vc, rfl⟩ := yT hu'
      have HD := hid (fun (w' : World) (h : Below (w.heap.size + 2) wr w') =>
       have up : ∀ j z, (Value.agg #[.int .i64 b0, .int .i64 b1, .string b2, .int .i64 b3, .slice vq vn vc]).cells[j]? = some z -> w'.cell? ⟨g', of' + m * 5 + j, none⟩ = some z := fun j z hz => (h.cell (p := ⟨g', of' + m * 5 + j, none⟩) (by have := JK w _ (hcell' 0 _ rfl); dsimp only at *; omega)).trans (jC HB (hcell' j z hz))
       (show w'.cell? ⟨g', of' + m * 5, none⟩ = some (.int .i64 b0) /\ w'.cell? ⟨g', of' + m * 5 + 1, none⟩ = some (.int .i64 b1) /\ w'.cell? ⟨g', of' + m * 5 + 2, none⟩ = some (.string b2) /\ w'.cell? ⟨g', of' + m * 5 + 3, none⟩ = some (.int .i64 b3) /\ w'.cell? ⟨g', of' + m * 5 + 4, none⟩ = some (.slice vq vn vc) from ⟨up 0 _ rfl, up 1 _ rfl, up 2 _ rfl, up 3 _ rfl, up 4 _ rfl⟩))
      have hk1 : (m : Int) < (xs.length : Int) := by omega
      have hk2 : (xs.length : Int) <= (cp : Int) := by omega
      have hk4 : (m : Int) < (ys.length : Int) := by have := HL.out; omega
      have hk3 := g2; have HT := hid (bg (fun q : Px.QJ × Px.QJ => Fr.zS f q.1 q.2) (List.zip xs ys) m (y, z) (by rw [Yg]; exact ⟨hy, hz⟩)); have YZ := hid (fun w' (h : Below wr.heap.size wr w') => ih y z _ _ w' (qB hu2 h) (qB hu3 h)); clear g1 g2 g3 i1 i2 i3 hcell hcell' hu hu' hy hz hu2 hu3; go_wp2_with fail; refine jU (S := fun w' => Below (w.heap.size + 2) wr w') (by kernel_rfl) ((jD _ _).drew) (fun hHeld => ?_); refine wS 0 (.pointer (some ⟨w.heap.size, 4, none⟩)) rfl hHeld ?_; refine wT 1 (.slice (some ⟨g, of, none⟩) xs.length cp) rfl (Or.inl ⟨by rfl, fun w' hSw => by have h4 := (hSw.cell (p := ⟨w.heap.size, 4, none⟩) (by dsimp only; omega)).trans a4; go_simp⟩) hHeld ?_; refine wS 2 (.int .i64 m) rfl hHeld ?_; refine wS 3 (.pointer (some ⟨g, of + m * 5, none⟩)) rfl hHeld ?_; refine wT 4 (.agg #[.int .i64 a0, .int .i64 a1, .string a2, .int .i64 a3, .slice uq un uc]) rfl (Or.inl ⟨by rfl, fun w' hSw => by have hx := HC.out w' hSw; obtain ⟨x0, x1, x2, x3, x4⟩ := hx; go_simp⟩) hHeld ?_; refine wS 5 (.pointer (some ⟨w.heap.size + 1, 4, none⟩)) rfl hHeld ?_; refine wT 6 (.slice (some ⟨g', of', none⟩) ys.length cp') rfl (Or.inl ⟨by rfl, fun w' hSw => by have h4 := (hSw.cell (p := ⟨w.heap.size + 1, 4, none⟩) (by dsimp only; omega)).trans b4; go_simp⟩) hHeld ?_; refine wS 7 (.int .i64 m) rfl hHeld ?_; refine wS 8 (.pointer (some ⟨g', of' + m * 5, none⟩)) rfl hHeld ?_; refine wT 9 (.agg #[.int .i64 b0, .int .i64 b1, .string b2, .int .i64 b3, .slice vq vn vc]) rfl (Or.inl ⟨by rfl, fun w' hSw => by have hx := HD.out w' hSw; obtain ⟨x0, x1, x2, x3, x4⟩ := hx; go_simp⟩) hHeld ?_; simp only [Act.put, jd, JE, JF]; refine wR 10 rfl (fun K hK => ?_); go_simp; refine (YZ.out wr.drew ((jD _ _).drew)).mono ?_; rintro e w2 ⟨rfl, hb0⟩; have hb : Below wr.heap.size wr w2 := ((jD _ _).drew).trans (hb0.mono (by simp)); refine hK.out _ _ (hb.mono (by omega)) (fun hHeld => ?_); clear hK K hb0; refine wR 11 rfl (fun K hK => ?_); go_simp; refine hK.out _ _ (hb.mono (by omega)) (fun hHeld => ?_); clear hK K; refine wD ?_; have HB2 := bT HB hb; replace EA := bE EA hb; replace EB := bE EB hb; have hT := HT.out; rw [HA.out, qK] at hT; cases hs : Fr.zS f y z with
      | false =>
        rw [hs] at hT
        have HF : Hid (R = false) := hid (by
         rw [HE.out]; refine Gc.2 fun h => ?_
         rw [Ju] at h; have := Ju.2 (fun q (hq : q ∈ (List.zip xs ys).take (m + 1)) => h q (UX hq))
         rw [hT] at this; cases this)
        clear hT hs hb; go_wp2_with fail; go_ret; exact ⟨by rw [<- HRR.out, HF.out]; rfl, HB2.out⟩
      | true =>
        rw [hs] at hT; have HT2 := hid hT; clear hT hs hb; go_wp2_with fail
        go_roundw
        case rel => exact ⟨m + 1, by go_num, by omega, HT2, EA, EB, HB2⟩
        case measure => simp [intOf]; omega
    . obtain rfl : m = xs.length := by omega
      have hk4 : ¬ (xs.length : Int) < (xs.length : Int) := by omega
      go_wp2_with fail; go_ret; have he := HA.out; rw [QR (by simp; omega)] at he; exact ⟨by rw [<- HRR.out, HE.out, he]; rfl, HB.out⟩
theorem VO : ∀ f, Dy f
 | 0 => fun x y v u w hx => hx.elim
 | f + 1 => G9 f (VO f)
def OM (v : Value) (q : Nm × Nm) : Prop := v = .agg #[.string ⟨q.1.toArray⟩, .string ⟨q.2.toArray⟩]
def uS (w : World) (v : Value) (l : List (Nm × Nm)) : Prop := JO 2 OM w v l
theorem bq (lv : Value) (l : List (Nm × Nm)) (a b : Nm) (w : World) (hr : uS w lv l) : Calls Tryd.prog 37 #[lv, .string ⟨a.toArray⟩, .string ⟨b.toArray⟩] w fun e w' => e = .returned (.bool (Fr.QA l.reverse a b)) /\ w' = w := by
 obtain ⟨q, cp, rfl⟩ := hr.len; have HR := hid hr; go_enter Tryd.func37, Tryd.ntmps37
 have hcl : l.length <= 9223372036854775807 := by
  rcases hr with ⟨h0, _⟩ | ⟨g, of, c', hv, g1, g2, g3⟩
  . rw [h0]; simp
  . omega
 have hsub : wrap64 ((l.length : Int) - 1) = (l.length : Int) - 1 := by unfold wrap64; omega
 have V4 := hid hcl; clear hr hcl; go_wp2_with fail; clear hsub
 go_loopw [7] (fun j wr => ∃ (m : Nat) (z : Int), j = .int .i64 z /\ z = (m : Int) - 1 /\ m <= l.length /\ Hid (Fr.QA l.reverse a b = Fr.QA (l.take m).reverse a b) /\ wr = w) (fun j _ => (intOf j + 1).toNat)
 case atStart => exact ⟨l.length, _, rfl, by unfold wrap64; have := V4.out; omega, jB _, hid (by rw [jY]), rfl⟩
 case round =>
  obtain ⟨m, z, rfl, hz, hm, HE, rfl⟩ := hrel; cases m with
  | zero =>
    obtain rfl : z = -1 := by omega
    clear hz; have HE2 : Hid (Fr.QA l.reverse a b = (a == b)) := hid (by rw [HE.out]; simp [Fr.QA]); clear HE; go_wp2_with fail; go_ret; exact ⟨by rw [HE2.out]; rfl, rfl⟩
  | succ n =>
    obtain rfl : z = (n : Int) := by omega
    clear hz; obtain ⟨⟨x1, x2⟩, hx⟩ : ∃ x, l[n]? = some x := ⟨_, jA (by omega)⟩
    rcases HR.out with ⟨h0, _⟩ | ⟨g, of, c', hv, g1, g2, g3⟩
    . rw [h0] at hm; simp at hm
    injection hv with hq1 _ hq2
    subst hq1; subst hq2
    obtain ⟨u, hu, _, hcell⟩ := g3 n _ hx; have hu' : u = .agg #[.string ⟨x1.toArray⟩, .string ⟨x2.toArray⟩] := hu; subst hu'; have h0 := hcell 0 _ rfl; have h1 := hcell 1 _ rfl; simp only [jZ] at h0; have hk1 : (n : Int) < (l.length : Int) := by omega
    have hk2 : (l.length : Int) <= (cp : Int) := by omega
    have hk3 := g2
    have HE2 : Hid (Fr.QA l.reverse a b = if x1 = a \/ x2 = b then decide (x1 = a /\ x2 = b) else Fr.QA (l.take n).reverse a b) := hid (by
     rw [HE.out, JC, hx, Option.toList, List.reverse_append]
     rfl)
    clear g1 g2 g3 hcell hu hx HE; by_cases ha : x1 = a
    . subst ha; have IW : Hid (Fr.QA l.reverse x1 b = (x2 == b)) := hid (by rw [HE2.out, if_pos (.inl rfl)]; by_cases hb : x2 = b <;> simp [hb]); clear HE2; go_wp2_with fail; go_ret; exact ⟨by rw [IW.out]; rfl, rfl⟩
    . have jI2 : (x1 == a) = false := qF.2 ha; have jBP := hid ha; clear ha; by_cases hb : x2 = b
      . subst hb; have IW : Hid (Fr.QA l.reverse a x2 = false) := hid (by rw [HE2.out, if_pos (.inr rfl)]; exact jl fun h => jBP.out h.1); clear HE2; go_wp2_with fail; go_ret; exact ⟨by rw [IW.out]; rfl, rfl⟩
      . have jI3 : (x2 == b) = false := qF.2 hb; have IW : Hid (Fr.QA l.reverse a b = Fr.QA (l.take n).reverse a b) := hid (by rw [HE2.out, if_neg (fun h => h.elim jBP.out hb)]); clear HE2 hb; have hsub : wrap64 ((n : Int) - 1) = (n : Int) - 1 := by have := V4.out; unfold wrap64; omega
        go_wp2_with fail
        go_roundw
        case rel => exact ⟨n, _, rfl, rfl, by omega, IW, trivial⟩
        case measure => simp [intOf]
def YW (q : Nm × Nm) : Value := .agg #[.string ⟨q.1.toArray⟩, .string ⟨q.2.toArray⟩]
theorem NN : (Tryd.prog.info? 97).map (fun i => (i.zero, i.size, i.bytes)) = some (some (.agg #[.string ⟨#[]⟩, .string ⟨#[]⟩]), 2, 32) := by kernel_rfl
abbrev Dz (w : World) (base : Nat) (v : Value) (l : List (Nm × Nm)) : Prop := w.ownsRow base 97 2 v l.length (cellsOf (l.map YW))
theorem Vo (l : List (Nm × Nm)) : ∀ u ∈ l.map YW, u.cells.size = 2 := by
 intro u hu; obtain ⟨x, _, rfl⟩ := ZB.1 hu; rfl
theorem IX (l : List (Nm × Nm)) : qw OM (l.map YW) l := by
 induction l with
 | nil => trivial
 | cons a r ih => exact ⟨rfl, ih⟩
theorem bu {w : World} {base : Nat} {v : Value} {l : List (Nm × Nm)} (h : Dz w base v l) : uS w v l := KY h rfl (IX l) (Vo l)
def RQ (w : World) (base : Nat) (v : Value) (l : List (Nm × Nm)) (v' : Value) (w' : World) : Prop :=
 Dz w' base v' l /\ w.grownBy w' v.ownBlock /\ (v'.ownBlock = v.ownBlock \/ ∀ g, v'.ownBlock = some g -> w.heap.size <= g)
theorem RQ.below {w w' : World} {base : Nat} {v v' : Value} {l l0 : List (Nm × Nm)} {B : Nat} {w0 : World} (h : RQ w base v l v' w') (hown : Dz w base v l0) (hb : Below B w0 w) (h1 : B <= w.heap.size) (h2 : B <= base) : Below B w0 w' :=
 hb.grown h.2.1 h1 (fun k hk => by have := (hown.lt k hk).1; omega)
theorem xx {w : World} {ops : Array Oper} {o : Oper} {a : Act} {K : Act -> World -> Prop} {Q : Exit -> Act -> World -> Prop} {X : Prop} (hgd : o.guard = none) (s x : Operand) (ho : o.op = .call { callee := .builtin .append, args := #[s, x], argTypes := #[64, 64] })
 (base : Nat) (v : Value) (l : List (Nm × Nm)) (hs : a.eval s = v) (hown : Dz w base v l) (vx : Value) (hx : a.eval x = vx) (ys : List (Nm × Nm)) (hrow : uS w vx ys) (hl : l.length + ys.length <= 1000000000) (hbase : base <= w.heap.size)
 (h : ∀ v' w', RQ w base v (l ++ ys) v' w' -> K (a.put o.dst v') w') : if Region.wanted o (yielded ops a.tmps) = true then Oper.wp Tryd.prog o a w K Q else X := by
 obtain ⟨i0, h0, h1, h2, h3⟩ := QL NN; refine qy (Js := OM) hgd s x 64 ho base 97 i0 _ 2 32 Tryd.underlying64 h0 h1 h2 h3 rfl (by decide) v l.length (l.map YW) hs hown vx hx ys hrow (fun u x hu c hc => ?_) (by unfold maxLen; omega) (by omega) hbase ?_
 . have e : u = YW x := hu; subst e; simp only [YW, Value.cells, jf, Ja, Qu] at hc
   rcases hc with rfl | rfl <;> rfl
 . intro v' w' us hr hsz ho' hg hlc; refine h v' w' ⟨?_, hg, hlc⟩; have e : us = ys.map YW := u7 hr; subst e; rw [<- QN] at ho'; show w'.ownsRow base 97 2 v' (l ++ ys).length _; rw [jE]; exact ho'
theorem D5 {w : World} {ops : Array Oper} {rest : List Oper} {o : Oper} {a : Act} {Q : Exit -> Act -> World -> Prop} (hgd : o.guard = none) (s x : Operand) (ho : o.op = .call { callee := .builtin .append, args := #[s, x], argTypes := #[64, 64] })
 (base : Nat) (v : Value) (l : List (Nm × Nm)) (hs : a.eval s = v) (hown : Dz w base v l) (vx : Value) (hx : a.eval x = vx) (ys : List (Nm × Nm)) (hrow : uS w vx ys) (hl : l.length + ys.length <= 1000000000) (hbase : base <= w.heap.size)
 (h : ∀ v' w', RQ w base v (l ++ ys) v' w' -> wpList Tryd.prog ops Q rest (a.put o.dst v') w') : wpList Tryd.prog ops Q (o :: rest) a w :=
 QK hgd fun K hK => xx hgd s x ho base v l hs hown vx hx ys hrow hl hbase fun v' w' hA => hK _ _ (h v' w' hA)
theorem D6 (w : World) : Dz (w.alloc (.cells #[] 97)) w.heap.size (.slice (some ⟨w.heap.size, 0, none⟩) 0 0) [] :=
 ⟨rfl, .inr ⟨w.heap.size, 0, #[], rfl, jB _, jb w _ _, jB _, by unfold maxLen; omega, rfl, rfl⟩⟩
theorem YQ {w w' : World} {v : Value} {l : List (Nm × Nm)} (h : uS w v l) (hb : Below w.heap.size w w') : uS w' v l := h.mono hb (fun _ _ _ h => h)
theorem xy {u : World} {ga : Nat} {T : TypeId} {fr : Nat × Nat} (x : Nm × Nm) (h : u.heap[ga]? = some (.cells #[.string ⟨x.1.toArray⟩, .string ⟨x.2.toArray⟩] T fr)) : uS u (.slice (some ⟨ga, 0, none⟩) 1 1) [x] := by
 refine .inr ⟨ga, 0, 1, rfl, by simp, by omega, fun i y hy => ?_⟩; cases i with
 | succ i => simp at hy
 | zero =>
   simp only [zT, Jn] at hy; subst hy; refine ⟨YW x, rfl, rfl, fun j z hz => ?_⟩; have e : (⟨ga, 0 + 0 * 2 + j, none⟩ : Addr) = ⟨ga, j, none⟩ := by congr 1; omega
   rw [e]; exact jK h j z hz
theorem U0 (lv av bv : Value) (l : List (Nm × Nm)) (a b : List Nm) (w : World) (hr : uS w lv l) (ha : Yk w av a) (hb : Yk w bv b) (hn : l.length + a.length <= 100000000) : Calls Tryd.prog 22 #[lv, av, bv] w fun e w' => ∃ v, e = .returned v /\ Below w.heap.size w w' /\ uS w' v (l ++ List.zip a b) := by
 obtain ⟨q, cp, rfl⟩ := hr.len; obtain ⟨qa, ca, rfl⟩ := ha.len; obtain ⟨qb, cb, rfl⟩ := hb.len; go_enter Tryd.func22, Tryd.ntmps22; have HA := hid ha; have Sd := hid hb; have HL := hid hr; have HN := hid hn
 clear ha hb hr hn; have HO := hid (D6 w); have HB0 := hid ((jD w.heap.size w).alloc (jB _) (.cells #[] 97)); go_wp2_with (at_builtin; refine D5 rfl (.tmp 9) (.tmp 10) rfl w.heap.size _ [] rfl HO _ rfl l (YQ HL HB0) (by have := HN.out; simp; omega) HB0.out.size ?_); intro v1 w1 ha1; obtain ⟨p1, c1, rfl⟩ := jH ha1.1; have HB1 := hid (ha1.below HO.out HB0.out HB0.out.size (jB _)); have VP := hid ha1.1; clear ha1 HB0 HO; go_wp2_with fail
 go_loopw [7, 8] (fun o j wr => ∃ (m : Nat) (l' : List (Nm × Nm)), j = .int .i64 m /\ m <= a.length /\ m <= b.length /\ Hid (l' = l ++ (List.zip a b).take m) /\ Hid (Dz wr w.heap.size o l') /\ Hid (Below w.heap.size w wr)) (fun _ j _ => a.length - (intOf j).toNat)
 case atStart => exact ⟨0, _, rfl, jh _, jh _, hid (by simp), VP, HB1⟩
 case round =>
  clear HB1 VP; obtain ⟨m, l', rfl, jI4, hmb, Yd, HO, HB⟩ := hrel; have hs0 := HB.out.size; have hend : (m = a.length \/ m = b.length) -> (List.zip a b).take m = List.zip a b := fun h => QR (by rw [yh]; omega)
  have Fw := hid hend; clear hend; obtain ⟨p2, c2, rfl⟩ := jH HO; by_cases hla : m < a.length
  case neg =>
   have HZ : Hid (l ++ List.zip a b = l') := hid (by rw [Yd.out, Fw.out (.inl (by omega))]); obtain rfl : m = a.length := by omega
   clear Fw; go_wp2_with fail; go_ret; exact ⟨_, rfl, HB.out, by rw [HZ.out]; exact bu HO⟩
  by_cases hlb : m < b.length
  case neg =>
   have HZ : Hid (l ++ List.zip a b = l') := hid (by rw [Yd.out, Fw.out (.inr (by omega))]); obtain rfl : m = b.length := by omega
   clear Fw; have hk1 : (b.length : Int) < (a.length : Int) := by omega
   go_wp2_with fail; go_ret; exact ⟨_, rfl, HB.out, by rw [HZ.out]; exact bu HO⟩
  obtain ⟨x, hx⟩ : ∃ x, a[m]? = some x := ⟨_, jA hla⟩
  obtain ⟨y, hy⟩ : ∃ y, b[m]? = some y := ⟨_, jA hlb⟩
  rcases HA.out with ⟨h0, _⟩ | ⟨g, of, c', hv, g1, g2, g3⟩
  . rw [h0] at hla; simp at hla
  injection hv with hq1 _ hq2
  subst hq1; subst hq2
  rcases Sd.out with ⟨h0, _⟩ | ⟨g', of', c', hv, i1, i2, i3⟩
  . rw [h0] at hlb; simp at hlb
  injection hv with hq1 _ hq2
  subst hq1; subst hq2
  obtain ⟨u, hu, _, hcell⟩ := g3 m x hx; have hu' : u = .string ⟨x.toArray⟩ := hu; subst hu'; obtain ⟨u, hu, _, hcell'⟩ := i3 m y hy; have hu' : u = .string ⟨y.toArray⟩ := hu; subst hu'; have h0 := hcell 0 _ rfl; have h1 := hcell' 0 _ rfl; simp only [qX, jZ] at h0 h1; have hg0 := JK w _ h0; have hg1 := JK w _ h1; have hk1 : (m : Int) < (a.length : Int) := by omega
  have hk2 : (a.length : Int) <= (ca : Int) := by omega
  have hk4 : (m : Int) < (b.length : Int) := by omega
  have hk3 := g2
  have HT : Hid (l' ++ [(x, y)] = l ++ (List.zip a b).take (m + 1)) := hid (by
   have hz : (List.zip a b)[m]? = some (x, y) := by rw [Yg]; exact ⟨hx, hy⟩
   rw [Yd.out, jg, JC, hz]; rfl)
  have hlen : l'.length + 1 <= 1000000000 := by
   rw [Yd.out, jE]; have := HN.out; have : ((List.zip a b).take m).length <= a.length := by rw [Jh, yh]; omega
   omega
  have Yn := hid hlen; have jF3 := hid (fun (w' : World) (h : Below w.heap.size wr w') => (h.cell (p := ⟨g, of + m, none⟩) (by dsimp only at *; omega)).trans (jC HB h0)); have AJ := hid (fun (w' : World) (h : Below w.heap.size wr w') => (h.cell (p := ⟨g', of' + m, none⟩) (by dsimp only at *; omega)).trans (jC HB h1)); clear g1 g2 g3 i1 i2 i3 hcell hcell' hu hx hy h0 h1 hlen; go_wp2_with fail; refine jU (S := fun w' => Below w.heap.size wr w') (by kernel_rfl) ((jD _ _).drew) (fun hHeld => ?_); refine wS 0 (.slice p2 l'.length c2) rfl hHeld ?_; refine wS 1 (.slice (some ⟨g, of, none⟩) a.length ca) rfl hHeld ?_; refine wS 2 (.int .i64 m) rfl hHeld ?_; refine wS 3 (.pointer (some ⟨g, of + m, none⟩)) rfl hHeld ?_; refine wT 4 (.string ⟨x.toArray⟩) rfl (Or.inl ⟨by rfl, fun w' hSw => by have hx := jF3.out w' hSw; go_simp⟩) hHeld ?_; refine wS 5 (.slice (some ⟨g', of', none⟩) b.length cb) rfl hHeld ?_; refine wS 6 (.int .i64 m) rfl hHeld ?_; refine wS 7 (.pointer (some ⟨g', of' + m, none⟩)) rfl hHeld ?_; refine wT 8 (.string ⟨y.toArray⟩) rfl (Or.inl ⟨by rfl, fun w' hSw => by have hx := AJ.out w' hSw; go_simp⟩) hHeld ?_; refine wS 9 (.agg #[.string ⟨x.toArray⟩, .string ⟨y.toArray⟩]) rfl hHeld ?_; simp only [Act.put, jd, JE, JF]; refine wR 10 rfl (fun K hK => ?_); go_simp; have hb1 : Below wr.heap.size wr ((wr.alloc (.cells #[.string ⟨x.toArray⟩, .string ⟨y.toArray⟩] 97)).drew) := ((jD _ _).alloc (jB _) _).drew; have HB1 := hid hb1; have HR1 : Hid (uS ((wr.alloc (.cells #[.string ⟨x.toArray⟩, .string ⟨y.toArray⟩] 97)).drew) (.slice (some ⟨wr.heap.size, 0, none⟩) 1 1) [(x, y)]) := hid (xy (x, y) (show ((wr.alloc (.cells #[.string ⟨x.toArray⟩, .string ⟨y.toArray⟩] 97)).drew).heap[wr.heap.size]? = _ from jb wr #[.string ⟨x.toArray⟩, .string ⟨y.toArray⟩] 97)); have VP := hid (jc HO hb1); refine hK.out _ _ (hb1.mono hs0) (fun hHeld => ?_); clear hK K hb1; refine wR 11 rfl (fun K hK => ?_); refine xx rfl (.tmp 24) (.tmp 34) rfl w.heap.size _ _ rfl VP _ rfl [(x, y)] HR1 (by have := Yn.out; simpa using this) (by have := HB1.out.size; omega) ?_; intro v2 w2 ha2; obtain ⟨p3, c3, rfl⟩ := jH ha2.1; have HB2 := hid (ha2.below VP.out (HB.out.trans (HB1.out.mono hs0)) (by have := HB1.out.size; omega) (jB _)); have IY := hid (ha2.below VP.out (HB1.out.mono hs0) (by have := HB1.out.size; omega) (jB _)); have zV := hid ha2.1; obtain ⟨l3, hl3⟩ : ∃ l3, l3 = l' ++ [(x, y)] := ⟨_, rfl⟩
  rw [<- hl3] at zV HT ⊢; clear hl3 ha2; refine hK.out _ _ IY.out (fun hHeld => ?_); clear hK K; refine wR 12 rfl (fun K hK => ?_); go_simp; refine hK.out _ _ IY.out (fun hHeld => ?_); clear hK K; refine wD ?_; go_wp2_with fail
  go_roundw
  case rel => exact ⟨m + 1, l3, by go_num, by omega, by omega, HT, zV, HB2⟩
  case measure => simp [intOf]; omega
end Go.Proofs.YtlnjdclmopblcaaDoor
