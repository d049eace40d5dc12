import Derived.Test.YtlnjdclmopblcaaDoorI13
import Derived.Shelf.LaysM
import Derived.Shelf.Strconv.Itoa3
import Derived.Shelf.Strings.Search1
import Derived.Shelf.Strings.Search2
import Derived.Test.YtlnjdclmopblcaaDoorProg
import Derived.BigQuiet
import Derived.Lib.AppendIntMem
import Derived.Stop.LaidErr
import Derived.Lib.ItoaLen
import Derived.RangeFuncNested
import Derived.RangeFuncBound
import Derived.RangeFuncCalls
import Derived.RangeFuncLeaves
import Derived.Shelf.Abstract
import Derived.OwnWalkIn
import Derived.TacticsInMore
import Derived.LoopNIn
import Derived.LoopIn
set_option linter.unusedVariables false
set_option linter.unusedSimpArgs false
set_option maxHeartbeats 40000000
set_option maxRecDepth 100000
namespace Go.Proofs.YtlnjdclmopblcaaDoor
open Go Go.RowKit
open Go.Lib (hid)
namespace Fr
abbrev LD (w : World) (base : Nat) (v : Value) (l : List (Nm × Nm)) : Prop := w.ownsRow base 121 2 v l.length (cellsOf (l.map YW))
def sN (D : List Nm) (L : List (Nm × Value)) : Prop := ∀ s, (s ∉ D /\ yY s L = none) \/ (s ∈ D /\ ∃ c : Nat, yY s L = some (.int .i64 c) /\ 0 < c /\ c <= D.length)
def sO (ρ : Env) (L : List (Nm × Value)) : Prop := ∀ s, ∃ a, (yY s L).getD (YW ([], [])) = YW (a, ρ s)
theorem sO.nil : sO (fun _ => []) [] := fun s => ⟨[], rfl⟩
theorem sO.set {ρ : Env} {L : List (Nm × Value)} (h : sO ρ L) (s a c : Nm) : sO (upd ρ s c) (VN s (YW (a, c)) L) := by
 intro x; rw [Vn]; unfold upd; by_cases e : x = s
 . rw [if_pos e, if_pos e]; exact ⟨a, rfl⟩
 . rw [if_neg e, if_neg e]; exact h x
theorem sN.nil : sN [] [] := fun s => .inl ⟨by simp, rfl⟩
theorem sN.more {D : List Nm} {L : List (Nm × Value)} (h : sN D L) (s : Nm) : ∃ c : Nat, ((yY s L).getD (.int .i64 0) = .int .i64 c) /\ c <= D.length /\ sN (D ++ [s]) (VN s (.int .i64 ((c + 1 : Nat) : Int)) L) := by
 have key : ∀ c : Nat, c <= D.length -> sN (D ++ [s]) (VN s (.int .i64 ((c + 1 : Nat) : Int)) L) := by
  intro c hc x; rw [Vn]; by_cases e : x = s
  . rw [if_pos e]; exact .inr ⟨by rw [e]; simp, c + 1, rfl, by omega, by rw [jE]; simp; omega⟩
  . rw [if_neg e]
    rcases h x with ⟨a, b⟩ | ⟨a, c', b1, b2, b3⟩
    . exact .inl ⟨by simp [a, e], b⟩
    . exact .inr ⟨by simp [a], c', b1, b2, by rw [jE]; simp; omega⟩
 rcases h s with ⟨a, b⟩ | ⟨a, c', b1, b2, b3⟩
 . exact ⟨0, by rw [b]; rfl, by omega, key 0 (by omega)⟩
 . exact ⟨c', by rw [b1]; rfl, b3, key c' b3⟩
structure St (w : World) (lo b mt mh : Nat) (hv : Value) (D : List Nm) (n : Nat) (ρ : Env) (hs : List (Nm × Nm)) : Prop where
 uH : w.heap[b]? = some (.cells #[.map (some mt), .int .i64 n, .map (some mh), hv] 52 (0, 0))
 RS : ∃ L, Z6 w mt L /\ sN D L
 hol : ∃ L, Z6 w mh L /\ sO ρ L
 hid : LD w lo hv hs
 lb : lo <= b
 lt : lo <= mt
 lh : lo <= mh
 ne : mt ≠ mh
def Fp (b mt mh : Nat) (hv : Value) (c : Nat) : Prop := c = b \/ c = mt \/ c = mh \/ hv.ownBlock = some c
structure Stp (lo b mt mh : Nat) (hv hv' : Value) (w w' : World) : Prop where
 below : Below lo w w'
 stay : ∀ c, c < w.heap.size -> ¬ Fp b mt mh hv c -> w'.heap[c]? = w.heap[c]?
 own : hv'.ownBlock = hv.ownBlock \/ ∀ g, hv'.ownBlock = some g -> w.heap.size <= g
theorem Stp.fp {lo b mt mh : Nat} {hv hv' : Value} {w w' : World} (h : Stp lo b mt mh hv hv' w w') {c : Nat} (hc : c < w.heap.size) (hn : ¬ Fp b mt mh hv c) : ¬ Fp b mt mh hv' c := by
 rintro (e | e | e | e)
 . exact hn (.inl e)
 . exact hn (.inr (.inl e))
 . exact hn (.inr (.inr (.inl e)))
 . rcases h.own with h1 | h1
   . exact hn (.inr (.inr (.inr (by rw [<- h1]; exact e))))
   . have := h1 c e; omega
theorem Stp.trans {lo b mt mh : Nat} {hv hv' IZ : Value} {w w' w'' : World} (h : Stp lo b mt mh hv hv' w w') (k : Stp lo b mt mh hv' IZ w' w'') : Stp lo b mt mh hv IZ w w'' := by
 have h1 := h.below.size; refine ⟨h.below.trans k.below, fun c hc hn => (k.stay c (by omega) (h.fp hc hn)).trans (h.stay c hc hn), ?_⟩
 rcases k.own with e | e
 . rw [e]; exact h.own
 . exact .inr fun g hg => by have := e g hg; omega
theorem Stp.of_below {lo b mt mh : Nat} {hv : Value} {w w' : World} (h : Below w.heap.size w w') (hl : lo <= w.heap.size) : Stp lo b mt mh hv hv w w' :=
 ⟨h.mono hl, fun c hc _ => h.block c hc, .inl rfl⟩
theorem Stp.refl {lo b mt mh : Nat} {hv : Value} (w : World) : Stp lo b mt mh hv hv w w := ⟨jD _ _, fun _ _ _ => rfl, .inl rfl⟩
theorem St.low {w : World} {lo b mt mh : Nat} {hv : Value} {D : List Nm} {n : Nat} {ρ : Env} {hs : List (Nm × Nm)} (h : St w lo b mt mh hv D n ρ hs) : b < w.heap.size /\ mt < w.heap.size /\ mh < w.heap.size /\ lo <= w.heap.size := by
 obtain ⟨L, h1, _⟩ := h.RS; obtain ⟨L', h2, _⟩ := h.hol; have h3 := ji h.uH; have := h.lb; exact ⟨h3, h1.lt, h2.lt, by omega⟩
theorem St.keep {w w' : World} {lo b mt mh : Nat} {hv : Value} {D : List Nm} {n : Nat} {ρ : Env} {hs : List (Nm × Nm)} (h : St w lo b mt mh hv D n ρ hs) (hk : ∀ c, c < w.heap.size -> Fp b mt mh hv c -> w'.heap[c]? = w.heap[c]?) : St w' lo b mt mh hv D n ρ hs := by
 obtain ⟨l1, l2, l3, l4⟩ := h.low; obtain ⟨L, h1, h2⟩ := h.RS; obtain ⟨L', h3, h4⟩ := h.hol; refine ⟨(hk b l1 (.inl rfl)).trans h.uH, ⟨L, h1.keep (hk mt l2 (.inr (.inl rfl))) (fun _ _ => trivial), h2⟩, ⟨L', h3.keep (hk mh l3 (.inr (.inr (.inl rfl)))) (fun _ _ => trivial), h4⟩, ?_, h.lb, h.lt, h.lh, h.ne⟩; refine ⟨h.hid.1, ?_⟩
 rcases h.hid.2 with e | ⟨g, cap, cur, rfl, a1, a2, a3⟩
 . exact .inl e
 . exact .inr ⟨g, cap, cur, rfl, a1, (hk g (ji a2) (.inr (.inr (.inr rfl)))).trans a2, a3⟩
theorem St.below {w w' : World} {lo b mt mh : Nat} {hv : Value} {D : List Nm} {n : Nat} {ρ : Env} {hs : List (Nm × Nm)} (h : St w lo b mt mh hv D n ρ hs) (hb : Below w.heap.size w w') : St w' lo b mt mh hv D n ρ hs := h.keep fun c hc _ => hb.block c hc
theorem St.set {w : World} {lo b mt mh : Nat} {hv : Value} {D : List Nm} {n : Nat} {ρ : Env} {hs : List (Nm × Nm)} (h : St w lo b mt mh hv D n ρ hs) (g j : Nat) (v : Value) (hg : ¬ Fp b mt mh hv g) : St (w.setCell ⟨g, j, none⟩ v) lo b mt mh hv D n ρ hs :=
 h.keep fun c _ hc => jP w ⟨g, j, none⟩ v c fun e => hg (by have e : c = g := e; rw [<- e]; exact hc)
def Q4 {α : Type} (Js : World -> Value -> α -> Prop) (B : Nat) (w : World) (b mt mh : Nat) (hv : Value) (v : Value) (x : α) : Prop := ∀ u : World, (∀ c, B <= c -> c < w.heap.size -> ¬ Fp b mt mh hv c -> u.heap[c]? = w.heap[c]?) -> Js u v x
theorem Q4.now {α : Type} {Js : World -> Value -> α -> Prop} {B : Nat} {w : World} {b mt mh : Nat} {hv : Value} {v : Value} {x : α} (h : Q4 Js B w b mt mh hv v x) : Js w v x := h w fun _ _ _ _ => rfl
theorem Q4.step {α : Type} {Js : World -> Value -> α -> Prop} {B lo b mt mh : Nat} {hv hv' : Value} {w w' : World} {v : Value} {x : α} (h : Q4 Js B w b mt mh hv v x) (k : Stp lo b mt mh hv hv' w w') : Q4 Js B w' b mt mh hv' v x := by
 intro u hu; have h1 := k.below.size; exact h u fun c hb hc hn => (hu c hb (by omega) (k.fp hc hn)).trans (k.stay c hc hn)
theorem Q4.base {α : Type} {Js : World -> Value -> α -> Prop} {B B' b mt mh : Nat} {hv : Value} {w : World} {v : Value} {x : α} (h : Q4 Js B w b mt mh hv v x) (hb : B' <= B) : Q4 Js B' w b mt mh hv v x :=
 fun u hu => h u fun c hc => hu c (by omega)
theorem Q4.keep {α : Type} {Js : World -> Value -> α -> Prop} {B b mt mh : Nat} {hv : Value} {w w' : World} {v : Value} {x : α} (h : Q4 Js B w b mt mh hv v x) (hs : w.heap.size <= w'.heap.size) (hk : ∀ c, B <= c -> c < w.heap.size -> w'.heap[c]? = w.heap[c]?) : Q4 Js B w' b mt mh hv v x :=
 fun u hu => h u fun c hb hc hn => (hu c hb (by omega) hn).trans (hk c hb hc)
theorem Q4.of {α : Type} {Js : World -> Value -> α -> Prop} {B b mt mh : Nat} {hv : Value} {w : World} {v : Value} {x : α} (h : ∀ u, Js u v x) : Q4 Js B w b mt mh hv v x := fun u _ => h u
end Fr
namespace Fr
section
variable {α : Type} (G : α -> Nat -> Env -> Nat × α × Env) (H : α -> Nat -> Env -> List (Nm × Nm))
def hst : List α -> Nat -> Env -> List (Nm × Nm)
 | [], _, _ => []
 | x :: r, n, ρ => H x n ρ ++ hst r (G x n ρ).1 (G x n ρ).2.2
theorem bz (x : α) : ∀ (l : List α) (n : Nat) (ρ : Env), qO G (l ++ [x]) n ρ = ((G x (qO G l n ρ).1 (qO G l n ρ).2.2).1, (qO G l n ρ).2.1 ++ [(G x (qO G l n ρ).1 (qO G l n ρ).2.2).2.1], (G x (qO G l n ρ).1 (qO G l n ρ).2.2).2.2)
 | [], n, ρ => rfl
 | y :: r, n, ρ => by rw [JQ, qO, bz x r]; rfl
theorem BA (x : α) : ∀ (l : List α) (n : Nat) (ρ : Env), hst G H (l ++ [x]) n ρ = hst G H l n ρ ++ H x (qO G l n ρ).1 (qO G l n ρ).2.2
 | [], n, ρ => by simp [hst, qO]
 | y :: r, n, ρ => by rw [JQ, hst, BA x r, hst, jg]; rfl
theorem Zg (K : Nat) (c : α -> Nat) (hG : ∀ x n ρ, (G x n ρ).1 <= n + K * c x) : ∀ (l : List α) (n : Nat) (ρ : Env), (qO G l n ρ).1 <= n + K * (l.map c).sum
 | [], n, ρ => by rw [qO]; simp
 | y :: r, n, ρ => by
   rw [qO, je, jy, JU]; have h1 := hG y n ρ; have h2 := Zg K c hG r (G y n ρ).1 (G y n ρ).2.2
   dsimp only
   omega
theorem U1 (c : α -> Nat) (hH : ∀ x n ρ, (H x n ρ).length <= c x) : ∀ (l : List α) (n : Nat) (ρ : Env), (hst G H l n ρ).length <= (l.map c).sum
 | [], n, ρ => by rw [hst]; simp
 | y :: r, n, ρ => by
   rw [hst, je, jy, jE]; have h1 := hH y n ρ; have h2 := U1 c hH r (G y n ρ).1 (G y n ρ).2.2; omega
def LF (ext : List (Nm × Nm)) (ρ : Env) : Env := ext.foldr (fun q τ => upd τ q.1 q.2) ρ
theorem fO (A B : List (Nm × Nm)) (ρ : Env) : LF (A ++ B) ρ = LF A (LF B ρ) := List.foldr_append ..
theorem RU (ρ : Env) (s c : Nm) : LF [(s, ρ s)] (upd ρ s c) = ρ := by
 funext x
 show upd (upd ρ s c) s (ρ s) x = ρ x; unfold upd; by_cases e : x = s
 . rw [if_pos e, e]
 . rw [if_neg e, if_neg e]
theorem UK (h : ∀ x n ρ, LF (H x n ρ) (G x n ρ).2.2 = ρ) : ∀ (l : List α) (n : Nat) (ρ : Env), LF (hst G H l n ρ) (qO G l n ρ).2.2 = ρ
 | [], n, ρ => rfl
 | y :: r, n, ρ => by rw [hst, qO, fO, UK h r, h]
theorem fP (hH : ∀ x n ρ, H x n ρ = []) : ∀ (l : List α) (n : Nat) (ρ : Env), hst G H l n ρ = []
 | [], n, ρ => rfl
 | y :: r, n, ρ => by rw [hst, hH, fP hH r]; rfl
theorem Kh (g : Env -> α -> Nat -> Nat × α) (hG : ∀ x n ρ, G x n ρ = ((g ρ x n).1, (g ρ x n).2, ρ)) : ∀ (l : List α) (n : Nat) (ρ : Env), qO G l n ρ = ((run (g ρ) l n).1, (run (g ρ) l n).2, ρ)
 | [], n, ρ => rfl
 | y :: r, n, ρ => by rw [qO, hG, Kh g hG r, run]
end
def UL (s : Nm) (_ : Nat) (ρ : Env) : List (Nm × Nm) := [(s, ρ s)]
def vX (D : List Nm) : Nat -> Px.QJ -> Nat -> Env -> List (Nm × Nm)
 | 0, _, _, _ => []
 | f + 1, .mk k p nm i xs, n, ρ =>
   let a := if k = 1 then bnd D nm n ρ else (n, nm, ρ)
   (if k = 1 then UL nm n ρ else []) ++ hst (pat D f) (vX D f) xs a.1 a.2.2
theorem wE (D : List Nm) (s : Nm) (n : Nat) (ρ : Env) : LF (UL s n ρ) (bnd D s n ρ).2.2 = ρ := RU ρ s _
theorem wF (D : List Nm) : ∀ (f : Nat) (x : Px.QJ) (n : Nat) (ρ : Env), LF (vX D f x n ρ) (pat D f x n ρ).2.2 = ρ
 | 0, x, n, ρ => rfl
 | f + 1, .mk k p nm i xs, n, ρ => by
   simp only [vX, pat]; by_cases hk : k = 1
   . simp only [if_pos hk]; rw [fO, UK (pat D f) (vX D f) (wF D f), wE]
   . simp only [if_neg hk, J6]; rw [UK (pat D f) (vX D f) (wF D f)]
def cP : Nat -> Px.QJ -> Nat
 | 0, _ => 0
 | f + 1, .mk _ _ _ _ xs => 1 + (xs.map (cP f)).sum
def cE : Nat -> Px.Expr -> Nat
 | 0, _ => 0
 | f + 1, .mk _ _ _ _ ns xs al => ns.length + (xs.map (cE f)).sum + (al.map fun a => cP f a.1 + cE f a.2).sum
theorem fQ (D : List Nm) (b : Nm) : ∀ f k, next D b f k <= k + f + 1
 | 0, k => by unfold next; omega
 | f + 1, k => by
   unfold next
   split
   . have := fQ D b f (k + 1); omega
   . omega
theorem zz (D : List Nm) (s : Nm) (n : Nat) (ρ : Env) : (bnd D s n ρ).1 <= n + (D.length + 1) * 1 := by
 have := fQ D (cut s) D.length n; show new D (cut s) n <= _; unfold new; omega
theorem Qj (l : List Nm) : (l.map fun _ => 1).sum = l.length := by induction l with
 | nil => rfl
 | cons a r ih => rw [je, jy, ih, JG]; omega
theorem Zy (D : List Nm) : ∀ (f : Nat) (x : Px.QJ) (n : Nat) (ρ : Env), (pat D f x n ρ).1 <= n + (D.length + 1) * cP f x
 | 0, x, n, ρ => by simp [pat]
 | f + 1, .mk k p nm i xs, n, ρ => by
   simp only [pat, cP]; rw [JU]; by_cases hk : k = 1
   . simp only [if_pos hk]; have h1 := zz D nm n ρ; have h2 := Zg (pat D f) (D.length + 1) (cP f) (Zy D f) xs (bnd D nm n ρ).1 (bnd D nm n ρ).2.2; omega
   . simp only [if_neg hk]; have h2 := Zg (pat D f) (D.length + 1) (cP f) (Zy D f) xs n ρ; omega
theorem Ki (D : List Nm) : ∀ (f : Nat) (x : Px.QJ) (n : Nat) (ρ : Env), (vX D f x n ρ).length <= cP f x
 | 0, x, n, ρ => by simp [vX]
 | f + 1, .mk k p nm i xs, n, ρ => by
   simp only [vX, cP]; rw [jE]; by_cases hk : k = 1
   . simp only [if_pos hk]; have h2 := U1 (pat D f) (vX D f) (cP f) (Ki D f) xs (bnd D nm n ρ).1 (bnd D nm n ρ).2.2; have : (UL nm n ρ).length = 1 := rfl; omega
   . simp only [if_neg hk, Qa]; have h2 := U1 (pat D f) (vX D f) (cP f) (Ki D f) xs n ρ; omega
theorem XA {α : Type} (g : α -> Nat -> Nat × α) (K : Nat) (c : α -> Nat) : ∀ (l : List α), (∀ x ∈ l, ∀ n, (g x n).1 <= n + K * c x) -> ∀ n, (run g l n).1 <= n + K * (l.map c).sum
 | [], _, n => by rw [run]; simp
 | y :: r, h, n => by
   rw [run, je, jy, JU]; have h1 := h y (by simp) n; have h2 := XA g K c r (fun x hx => h x (by simp [hx])) (g y n).1
   dsimp only
   omega
theorem yK (D : List Nm) : ∀ (f : Nat) (x : Px.Expr) (n : Nat) (ρ : Env), (expr D f x n ρ).1 <= n + (D.length + 1) * cE f x
 | 0, x, n, ρ => by simp [expr]
 | f + 1, .mk k p nm i ns xs al, n, ρ => by
   simp only [expr, cE]; rw [JU, JU]; have h1 := Zg (bnd D) (D.length + 1) (fun _ => 1) (zz D) ns n ρ; rw [Qj] at h1; have h2 := XA (fun x TP => expr D f x TP (qO (bnd D) ns n ρ).2.2) (D.length + 1) (cE f) xs (fun x hx n => yK D f x n _) (qO (bnd D) ns n ρ).1
   have h3 := XA (fun (b : Px.QJ × Px.Expr) n => ((expr D f b.2 (pat D f b.1 n ρ).1 (pat D f b.1 n ρ).2.2).1, ((pat D f b.1 n ρ).2.1, (expr D f b.2 (pat D f b.1 n ρ).1 (pat D f b.1 n ρ).2.2).2))) (D.length + 1) (fun a => cP f a.1 + cE f a.2) al (fun a ha n => by
    have h4 := Zy D f a.1 n ρ; have h5 := yK D f a.2 (pat D f a.1 n ρ).1 (pat D f a.1 n ρ).2.2; rw [JU]
    dsimp only
    omega) (run (fun x TP => expr D f x TP (qO (bnd D) ns n ρ).2.2) xs (qO (bnd D) ns n ρ).1).1
   omega
def VQ {α : Type} (lo b mt mh : Nat) (D : List Nm) (Qs : World -> Value -> α -> Prop) (G : α -> Nat -> Env -> Nat × α × Env) (H : α -> Nat -> Env -> List (Nm × Nm)) (w : World) (hv : Value) (n : Nat) (ρ : Env) (hs : List (Nm × Nm)) (x : α) (e : Ending) (w' : World) : Prop :=
 ∃ out hv', e = .returned out /\ St w' lo b mt mh hv' D (G x n ρ).1 (G x n ρ).2.2 (hs ++ H x n ρ) /\ Stp lo b mt mh hv hv' w w' /\ Q4 Qs w.heap.size w' b mt mh hv' out (G x n ρ).2.1
def NP {α : Type} (w0 : World) (lo b mt mh : Nat) (D : List Nm) (F : FuncId) (Qy : Value -> α -> Prop) (Qs : World -> Value -> α -> Prop) (G : α -> Nat -> Env -> Nat × α × Env) (H : α -> Nat -> Env -> List (Nm × Nm)) (c : α -> Nat) (ok : α -> Prop) : Prop :=
 ∀ (x : α) (v : Value) (w : World) (hv : Value) (n : Nat) (ρ : Env) (hs : List (Nm × Nm)), Qy v x -> ok x -> Below lo w0 w -> St w lo b mt mh hv D n ρ hs -> n + (D.length + 1) * c x <= 1000000000 -> hs.length + c x <= 100000000 ->
  Calls Tryd.prog F #[.pointer (some ⟨b, 0, none⟩), v] w (VQ lo b mt mh D Qs G H w hv n ρ hs x)
def Half (w : World) (E : TypeId) (sz g : Nat) (us : List Value) : Prop := ∃ cur, w.heap[g]? = some (.cells cur E (0, 0)) /\ us.length * sz <= cur.size /\ ∀ i u, us[i]? = some u -> u.cells.size = sz /\ ∀ j z, u.cells[j]? = some z -> cur[i * sz + j]? = some z
theorem Half.cell {w : World} {E : TypeId} {sz g : Nat} {us : List Value} (h : Half w E sz g us) {i : Nat} {u : Value} (hu : us[i]? = some u) (j : Nat) (z : Value) (hz : u.cells[j]? = some z) : w.cell? ⟨g, i * sz + j, none⟩ = some z := by
 obtain ⟨cur, h1, _, h2⟩ := h; exact jK h1 _ _ ((h2 i u hu).2 j z hz)
theorem Half.free {w : World} {E : TypeId} {sz g : Nat} {us : List Value} (h : Half w E sz g us) (o : Nat) : w.frozen? ⟨g, o, none⟩ = false := by
 obtain ⟨cur, h1, _⟩ := h; exact jX h1 o
theorem Half.keep {w w' : World} {E : TypeId} {sz g : Nat} {us : List Value} (h : Half w E sz g us) (hk : w'.heap[g]? = w.heap[g]?) : Half w' E sz g us := by
 obtain ⟨cur, h1, h2⟩ := h; exact ⟨cur, hk.trans h1, h2⟩
theorem Half.lt {w : World} {E : TypeId} {sz g : Nat} {us : List Value} (h : Half w E sz g us) : g < w.heap.size := by
 obtain ⟨cur, h1, _⟩ := h; exact ji h1
end Fr
end Go.Proofs.YtlnjdclmopblcaaDoor
namespace Go.Proofs
open Go.Shelf
def Tryd.wG : Go.Shelf.Ren := ⟨fun | 171 => 71 | 243 => 78 | 246 => 81 | 283 => 87 | 284 => 88 | 285 => 89 | 286 => 90 | 129 => 94 | 317 => 93 | 318 => 95 | 319 => 96 | 320 => 97 | 337 => 98 | 338 => 99 | n => n, fun | 3 => 3 | 9 => 9 | 2 => 2 | 4 => 4 | 171 => 155 | 0 => 0 | 53 => 156 | 37 => 22 | 5 => 5 | 173 => 159 | 212 => 165 | 51 => 161 | 20 => 20 | 213 => 166 | 46 => 154 | 232 => 170 | 233 => 171 | n => n, fun | 17 => 1 | 18 => 2 | 19 => 3 | n => n⟩
theorem Tryd.NQ : Go.Proofs.LaysM.n171 Tryd.prog Tryd.wG := {
 mixed := by kernel_rfl
 f129 := Tryd.func94.trans (congrArg some (by kernel_rfl))
 f171 := Tryd.func71.trans (congrArg some (by kernel_rfl))
 f243 := Tryd.func78.trans (congrArg some (by kernel_rfl))
 f246 := Tryd.func81.trans (congrArg some (by kernel_rfl))
 f283 := Tryd.func87.trans (congrArg some (by kernel_rfl))
 f284 := Tryd.func88.trans (congrArg some (by kernel_rfl))
 f285 := Tryd.func89.trans (congrArg some (by kernel_rfl))
 f286 := Tryd.func90.trans (congrArg some (by kernel_rfl))
 f317 := Tryd.func93.trans (congrArg some (by kernel_rfl))
 f318 := Tryd.func95.trans (congrArg some (by kernel_rfl))
 f319 := Tryd.func96.trans (congrArg some (by kernel_rfl))
 f320 := Tryd.func97.trans (congrArg some (by kernel_rfl))
 f337 := Tryd.func98.trans (congrArg some (by kernel_rfl))
 f338 := Tryd.func99.trans (congrArg some (by kernel_rfl))
 t0 := Tryd.underlying0
 a0 := Tryd.isAgg0
 z0 := Tryd.sizeOf0
 v0 := Tryd.zeroValue0
 t2 := Tryd.underlying2
 a2 := Tryd.isAgg2
 z2 := Tryd.sizeOf2
 v2 := Tryd.zeroValue2
 t3 := Tryd.underlying3
 a3 := Tryd.isAgg3
 z3 := Tryd.sizeOf3
 v3 := Tryd.zeroValue3
 t4 := Tryd.underlying4
 a4 := Tryd.isAgg4
 z4 := Tryd.sizeOf4
 v4 := Tryd.zeroValue4
 t5 := Tryd.underlying5
 a5 := Tryd.isAgg5
 z5 := Tryd.sizeOf5
 v5 := Tryd.zeroValue5
 t9 := Tryd.underlying9
 a9 := Tryd.isAgg9
 z9 := Tryd.sizeOf9
 v9 := Tryd.zeroValue9
 t20 := Tryd.underlying20
 a20 := Tryd.isAgg20
 z20 := Tryd.sizeOf20
 v20 := Tryd.zeroValue20
 t37 := Tryd.underlying22
 a37 := Tryd.isAgg22
 z37 := Tryd.sizeOf22
 v37 := Tryd.zeroValue22
 t46 := Tryd.underlying154
 a46 := Tryd.isAgg154
 z46 := Tryd.sizeOf154
 v46 := Tryd.zeroValue154
 t51 := Tryd.underlying161
 a51 := Tryd.isAgg161
 z51 := Tryd.sizeOf161
 v51 := Tryd.zeroValue161
 t53 := Tryd.underlying156
 a53 := Tryd.isAgg156
 z53 := Tryd.sizeOf156
 v53 := Tryd.zeroValue156
 t171 := Tryd.underlying155
 a171 := Tryd.isAgg155
 z171 := Tryd.sizeOf155
 v171 := Tryd.zeroValue155
 t173 := Tryd.underlying159
 a173 := Tryd.isAgg159
 z173 := Tryd.sizeOf159
 v173 := Tryd.zeroValue159
 t212 := Tryd.underlying165
 a212 := Tryd.isAgg165
 z212 := Tryd.sizeOf165
 v212 := Tryd.zeroValue165
 t213 := Tryd.underlying166
 a213 := Tryd.isAgg166
 z213 := Tryd.sizeOf166
 t232 := Tryd.underlying170
 a232 := Tryd.isAgg170
 z232 := Tryd.sizeOf170
 v232 := Tryd.zeroValue170
 t233 := Tryd.underlying171
 a233 := Tryd.isAgg171
 z233 := Tryd.sizeOf171
 v233 := Tryd.zeroValue171
 g17 := by kernel_rfl
 g18 := by kernel_rfl
 g19 := by kernel_rfl
 i0 := by kernel_rfl
 i2 := by kernel_rfl
 i3 := by kernel_rfl
 i4 := by kernel_rfl
 i5 := by kernel_rfl
 i9 := by kernel_rfl
 i20 := by kernel_rfl
 i37 := by kernel_rfl
 i46 := by kernel_rfl
 i51 := by kernel_rfl
 i53 := by kernel_rfl
 i171 := by kernel_rfl
 i173 := by kernel_rfl
 i212 := by kernel_rfl
 i232 := by kernel_rfl
 i233 := by kernel_rfl
 m17 := by kernel_rfl
 m18 := by kernel_rfl
 m19 := by kernel_rfl }
open Go.RowKit Go.Sort Go.Lib in
theorem Tryd.strconv_Itoa (n : Int) (h0 : -9223372036854775808 <= n) (h1 : n <= 9223372036854775807) (w : World) (htab : Lib.TabIs Tryd.prog w "internal/strconv.uint64pow10" .u64 Lib.pow10Tab) :
 Calls Tryd.prog 71 #[.int .i64 n] w fun e w' => e = .returned (.string ⟨(Lib.itoa n).toArray⟩) /\ ∃ k os, w' = grow (w.drewN k) os := Any.strconv_Itoa Tryd.NQ n h0 h1 w htab
def Tryd.BB : Go.Shelf.Ren := ⟨fun | 219 => 80 | 217 => 83 | 225 => 84 | 224 => 85 | 267 => 86 | 266 => 91 | 314 => 92 | n => n, fun | 9 => 9 | 3 => 3 | 4 => 4 | 5 => 5 | 46 => 154 | 146 => 162 | 51 => 161 | n => n, fun | 1 => 0 | n => n⟩
theorem Tryd.RV : Go.Proofs.Lays.n219 Tryd.prog Tryd.BB := {
 mixed := by kernel_rfl
 f217 := Tryd.func83.trans (congrArg some (by kernel_rfl))
 f219 := Tryd.func80.trans (congrArg some (by kernel_rfl))
 f224 := Tryd.func85.trans (congrArg some (by kernel_rfl))
 f225 := Tryd.func84.trans (congrArg some (by kernel_rfl))
 f266 := Tryd.func91.trans (congrArg some (by kernel_rfl))
 f267 := Tryd.func86.trans (congrArg some (by kernel_rfl))
 f314 := Tryd.func92.trans (congrArg some (by kernel_rfl))
 t3 := Tryd.underlying3
 a3 := Tryd.isAgg3
 z3 := Tryd.sizeOf3
 v3 := Tryd.zeroValue3
 t4 := Tryd.underlying4
 a4 := Tryd.isAgg4
 z4 := Tryd.sizeOf4
 v4 := Tryd.zeroValue4
 t5 := Tryd.underlying5
 a5 := Tryd.isAgg5
 z5 := Tryd.sizeOf5
 v5 := Tryd.zeroValue5
 t9 := Tryd.underlying9
 a9 := Tryd.isAgg9
 z9 := Tryd.sizeOf9
 v9 := Tryd.zeroValue9
 t46 := Tryd.underlying154
 a46 := Tryd.isAgg154
 z46 := Tryd.sizeOf154
 v46 := Tryd.zeroValue154
 t51 := Tryd.underlying161
 a51 := Tryd.isAgg161
 z51 := Tryd.sizeOf161
 v51 := Tryd.zeroValue161
 t146 := Tryd.underlying162
 a146 := Tryd.isAgg162
 z146 := Tryd.sizeOf162
 v146 := Tryd.zeroValue162
 g1 := by kernel_rfl }
open Go.RowKit Go.Lib in
theorem Tryd.stringslite_Index_one (s : ByteArray) (c : UInt8) (w : World) :
 Calls Tryd.prog 80 #[.string s, .string ⟨#[c]⟩] w fun e w' => e = .returned (.int .i64 (Lib.indexByte s.data.toList c)) /\ w' = w := Any.stringslite_Index_one Tryd.RV s c w
end Go.Proofs
namespace Go.Proofs.YtlnjdclmopblcaaDoor
open Go Go.RowKit
open Go.Lib (hid)
namespace Fr
theorem GH : ∀ (s : Nm), (Lib.indexByte s 46 = -1 /\ cut s = s) \/ ∃ k : Nat, Lib.indexByte s 46 = k /\ k + 1 <= s.length /\ cut s = s.take k
 | [] => .inl ⟨rfl, rfl⟩
 | c :: r => by
   unfold cut; rw [Lib.indexByte, List.takeWhile_cons]; by_cases hc : c = 46
   . subst hc; exact .inr ⟨0, by simp, by simp, by simp⟩
   . have h1 : (c == 46) = false := qF.2 hc; have h2 : (c != 46) = true := by rw [bne, h1]; rfl
     rw [h1, h2]
     rcases GH r with ⟨a, b⟩ | ⟨k, a, b, d⟩
     . unfold cut at b; rw [a, b]; exact .inl ⟨rfl, rfl⟩
     . unfold cut at d; rw [a, d]; have h3 : ((k : Int) == -1) = false := qF.2 (by omega); rw [h3]; exact .inr ⟨k + 1, by simp, by simp; omega, rfl⟩
theorem NR (s : Nm) (w : World) (hs : s.length <= 4000000000) : Calls Tryd.prog 77 #[.string ⟨s.toArray⟩, .string ⟨#[46]⟩] w fun e w' => ∃ a b, e = .returned (.tuple #[.string ⟨(cut s).toArray⟩, .string a, .bool b]) /\ Below w.heap.size w w' := by
 rcases GH s with ⟨h1, h2⟩ | ⟨k, h1, h2, h3⟩
 . rw [h2]; go_enter Tryd.func77, Tryd.ntmps77; go_wp2_with (go_at_call 80; refine (Tryd.stringslite_Index_one _ _ _).mono ?_; rintro e w' ⟨rfl, rfl⟩; rw [show Lib.indexByte (⟨s.toArray⟩ : ByteArray).data.toList 46 = _ from h1]); go_ret3; exact ⟨_, _, rfl, jD _ _⟩
 . rw [show (⟨(cut s).toArray⟩ : ByteArray) = (⟨s.toArray⟩ : ByteArray).extract 0 k from by rw [h3, Zr]; rfl]; have c1 : (0 : Int) <= (k : Int) := by omega
   have c2 : (k : Int) <= (s.length : Int) := by omega
   clear h3; go_enter Tryd.func77, Tryd.ntmps77; go_wp2_with (go_at_call 80; refine (Tryd.stringslite_Index_one _ _ _).mono ?_; rintro e w' ⟨rfl, rfl⟩; rw [show Lib.indexByte (⟨s.toArray⟩ : ByteArray).data.toList 46 = _ from h1])
   go_quiet (fail)
   go_wp2_with fail; go_ret3; exact ⟨_, _, rfl, ⟨rfl, rfl, rfl, jB _, fun _ _ => rfl⟩⟩
theorem RX (s : Nm) (w : World) (hs : s.length <= 4000000000) : Calls Tryd.prog 70 #[.string ⟨s.toArray⟩, .string ⟨#[46]⟩] w fun e w' => ∃ a b, e = .returned (.tuple #[.string ⟨(cut s).toArray⟩, .string a, .bool b]) /\ Below w.heap.size w w' := by
 have HS := hid hs; clear hs; go_enter Tryd.func70, Tryd.ntmps70; go_wp2_with fail; refine (NR s w HS).mono ?_; rintro e w' ⟨a, b, rfl, hb⟩; go_wp2_with fail; go_ret3; exact ⟨_, _, rfl, hb⟩
end Fr
namespace Fr
variable {lo b mt mh : Nat} {D : List Nm}
theorem St.num {w : World} {hv : Value} {n : Nat} {ρ : Env} {hs : List (Nm × Nm)} (h : St w lo b mt mh hv D n ρ hs) (m : Nat) : St (w.setCell ⟨b, 1, none⟩ (.int .i64 m)) lo b mt mh hv D m ρ hs /\ Stp lo b mt mh hv hv w (w.setCell ⟨b, 1, none⟩ (.int .i64 m)) := by
 have hne : ∀ c, c ≠ b -> (w.setCell ⟨b, 1, none⟩ (.int .i64 m)).heap[c]? = w.heap[c]? := fun c hc => jP w ⟨b, 1, none⟩ _ c hc
 obtain ⟨L, h1, h2⟩ := h.RS; obtain ⟨L', h3, h4⟩ := h.hol; have D7 : ∀ {c es k}, w.heap[c]? = some (.map es k) -> c ≠ b := fun {c es k} e hc => by rw [hc, h.uH] at e; cases e
 have e1 : mt ≠ b := by obtain ⟨es, k, e, _⟩ := h1; exact D7 e
 have e2 : mh ≠ b := by obtain ⟨es, k, e, _⟩ := h3; exact D7 e
 refine ⟨⟨by have := Jf h.uH 1 (.int .i64 m); simpa using this, ⟨L, h1.keep (hne mt e1) (fun _ _ => trivial), h2⟩, ⟨L', h3.keep (hne mh e2) (fun _ _ => trivial), h4⟩, ?_, h.lb, h.lt, h.lh, h.ne⟩, ⟨(jD lo w).setCell (p := ⟨b, 1, none⟩) h.lb _, fun c _ hc => hne c fun e => hc (.inl e), .inl rfl⟩⟩; refine ⟨h.hid.1, ?_⟩
 rcases h.hid.2 with e | ⟨g, cap, cur, rfl, a1, a2, a3⟩
 . exact .inl e
 . refine .inr ⟨g, cap, cur, rfl, a1, (hne g fun e => ?_).trans a2, a3⟩; rw [e, h.uH] at a2; simp only [Jn, kI] at a2; exact absurd a2.2.1 (by decide)
theorem fT (a b : Nm) : (⟨a.toArray⟩ : ByteArray) ++ ⟨b.toArray⟩ = ⟨(a ++ b).toArray⟩ := by
 apply ByteArray.ext
 simp
theorem D8 : Tryd.prog.underlying 48 = some (.map 9 3) := Tryd.underlying48
theorem Kj : Tryd.prog.underlying 49 = some (.map 9 121) := Tryd.underlying49
theorem fU (w : World) : (zeroValue 3).run Tryd.prog w = .ok (.int .i64 0) w := Tryd.zeroValue3 w
theorem BC (w : World) : (zeroValue 121).run Tryd.prog w = .ok (YW ([], [])) w := Tryd.zeroValue121 w
theorem St.look {w : World} {hv : Value} {n : Nat} {ρ : Env} {hs : List (Nm × Nm)} (h : St w lo b mt mh hv D n ρ hs) (s : Nm) : ∃ a : Nm, (Instr.lookup 49 (.map (some mh)) (.string ⟨s.toArray⟩) false).run Tryd.prog w = .ok (.agg #[.string ⟨a.toArray⟩, .string ⟨(ρ s).toArray⟩]) w := by
 obtain ⟨L, h1, h2⟩ := h.hol; obtain ⟨a, ha⟩ := h2 s; refine ⟨a, ?_⟩; have := (h1.look (vK Tryd.underlying9) Kj (BC w) s trivial).1; rw [ha] at this; exact this
theorem St.tell {w : World} {hv : Value} {n : Nat} {ρ : Env} {hs : List (Nm × Nm)} (h : St w lo b mt mh hv D n ρ hs) (hD : D.length <= 1000000) (s : Nm) : ∃ c : Nat, (Instr.lookup 48 (.map (some mt)) (.string ⟨s.toArray⟩) false).run Tryd.prog w = .ok (.int .i64 c) w /\ (c = 0 ↔ s ∉ D) := by
 obtain ⟨L, h1, h2⟩ := h.RS; have := (h1.look (vK Tryd.underlying9) D8 (fU w) s trivial).1
 rcases h2 s with ⟨a, b⟩ | ⟨a, c, b1, b2, b3⟩
 . rw [b] at this; exact ⟨0, this, by simp [a]⟩
 . rw [b1] at this; exact ⟨c, this, by constructor <;> intro hc; omega; exact absurd a hc⟩
theorem XB (a c : Nm) (w : World) : (Instr.field 121 (.agg #[.string ⟨a.toArray⟩, .string ⟨c.toArray⟩]) 1).run Tryd.prog w = .ok (.string ⟨c.toArray⟩) w := by kernel_rfl
theorem D9 (w : World) (hv : Value) (n : Nat) (ρ : Env) (hs : List (Nm × Nm)) (s : Nm) (h : St w lo b mt mh hv D n ρ hs) : Calls Tryd.prog 53 #[.pointer (some ⟨b, 0, none⟩), .string ⟨s.toArray⟩] w fun e w' => e = .returned (.string ⟨(called ρ s).toArray⟩) /\ w' = w := by
 obtain ⟨a, hl⟩ := h.look s; have hf := XB a (ρ s); have c2 := jK h.uH 2 (.map (some mh)) rfl; clear h; go_enter Tryd.func53, Tryd.ntmps53; by_cases he : ρ s = []
 . have hc : called ρ s = s := by unfold called; rw [if_pos he]
   rw [hc]; rw [he] at hl hf; clear he hc; go_wp2_with fail; go_ret; exact ⟨rfl, rfl⟩
 . have hc : called ρ s = ρ s := by unfold called; rw [if_neg he]
   rw [hc]; have hne : ¬ (⟨(ρ s).toArray⟩ : ByteArray) = ⟨#[]⟩ := fM (y := []) he; have he0 := he; clear he hc; have hem : (ρ s).isEmpty = false := by cases h : ρ s with | nil => exact absurd h he0 | cons a r => rfl
   clear he0; generalize ρ s = t at hl hne hf hem ⊢; go_wp2_with fail; go_ret; exact ⟨rfl, rfl⟩
abbrev mO (w : World) : Prop := Lib.TabIs Tryd.prog w "internal/strconv.uint64pow10" .u64 Lib.pow10Tab
theorem NS (n : Nat) (h1 : n <= 9223372036854775807) (w : World) (htab : mO w) : Calls Tryd.prog 71 #[.int .i64 n] w fun e w' => e = .returned (.string ⟨(Lib.itoa n).toArray⟩) /\ Below w.heap.size w w' := by
 refine (Tryd.strconv_Itoa n (by omega) (by omega) w htab).mono ?_; rintro e w' ⟨rfl, k, os, rfl⟩; exact ⟨rfl, Lib.below_grow _ _ (jB _) _ _⟩
theorem BD {w0 : World} (htab : ∀ w, Below lo w0 w -> mO w) (w : World) (hv : Value) (n : Nat) (ρ : Env) (hs : List (Nm × Nm)) (s : Nm) (h : St w lo b mt mh hv D n ρ hs) (hw : Below lo w0 w) (hD : D.length <= 1000000) (hn : n + D.length + 1 <= 1000000000) (hlen : s.length <= 3000000000) :
 Calls Tryd.prog 52 #[.pointer (some ⟨b, 0, none⟩), .string ⟨s.toArray⟩] w fun e w' => e = .returned (.string ⟨(dot (cut s) (new D (cut s) n)).toArray⟩) /\ St w' lo b mt mh hv D (new D (cut s) n) ρ hs /\ Stp lo b mt mh hv hv w w' := by
 have H := hid h; have HW := hid hw; have TQ := hid htab; have HN := hid hn; have HL := hid hlen; have HD := hid hD
 have hlow := h.low; obtain ⟨l1, l2, l3, l4⟩ := hlow; clear h hw htab hn hlen hD; go_enter Tryd.func52, Tryd.ntmps52; go_wp2_with fail; refine (RX s w (by have := HL.out; omega)).mono ?_; rintro e w1 ⟨za, zb, rfl, hb1⟩; have H1 := hid (H.out.below hb1); have V5 := hid (Stp.of_below (b := b) (mt := mt) (mh := mh) (hv := hv) hb1 l4); obtain ⟨B, hB⟩ : ∃ B, B = cut s := ⟨_, rfl⟩
 rw [<- hB]; have HB := hid hB; obtain ⟨N, hN⟩ : ∃ N, N = new D B n := ⟨_, rfl⟩
 have Ia := hid hN; have jBQ : Hid (next D B D.length n = N) := hid hN.symm; have Ib : Hid (dot B N ∉ D) := hid (by rw [hN, hB]; exact xe D (Uw s) n); clear hN hb1 hB; go_wp2_with fail
 go_loopg [8] (D.length + 1) (fun k v8 wr => ∃ f j : Nat, f < k /\ Hid (j + f <= n + D.length) /\ Hid (next D B f j = N) /\ Hid (St wr lo b mt mh hv D j ρ hs) /\ Hid (Stp lo b mt mh hv hv w wr))
 case atStart => exact ⟨D.length, n, by omega, hid (jB _), jBQ, H1, V5⟩
 case round =>
  clear jBQ H1 V5; obtain ⟨f, j, jF4, HJ, HX, H2, HS2⟩ := hrel; have c1 := jK H2.out.uH 1 (.int .i64 j) rfl; have c0 := jK H2.out.uH 0 (.map (some mt)) rfl; have fr := jX H2.out.uH 1
  have hBl : B.length <= 3000000000 := by
   have h1 : B.length <= s.length := by rw [HB.out]; unfold cut; exact (List.takeWhile_prefix _).length_le
   have := HL.out; omega
  have mK := hid hBl; have hB1 : ¬ 9223372036854775807 < B.length + 1 := by omega
  obtain ⟨T1, hT1⟩ : ∃ T1 : Nm, T1 = B ++ [46] := ⟨_, rfl⟩
  have ha1 : (⟨B.toArray⟩ : ByteArray) ++ ⟨#[46]⟩ = ⟨T1.toArray⟩ := by rw [hT1]; exact fT B [46]
  have HT1 := hid hT1; have hadd : wrap64 ((j : Int) + 1) = ((j + 1 : Nat) : Int) := by have := HJ.out; have := HN.out; unfold wrap64; omega
  clear hBl hT1; go_wp2_with fail; clear ha1 hB1 hadd c1 fr; have e1 : ((j : Int) + 1) = ((j + 1 : Nat) : Int) := by omega
  rw [e1]; clear e1; obtain ⟨h3, hs3⟩ := H2.out.num (j + 1); generalize wr.setCell ⟨b, 1, none⟩ (.int .i64 ((j + 1 : Nat) : Int)) = w2 at h3 hs3 ⊢; have hs4 := HS2.out.trans hs3; have hj2 : j + 1 <= 1000000001 := by have := HJ.out; have := HN.out; omega
  refine (NS (j + 1) (by omega) w2 (TQ.out w2 (HW.out.trans hs4.below))).mono ?_; rintro e w3 ⟨rfl, hb3⟩; obtain ⟨I, hI⟩ : ∃ I : Nm, I = Lib.itoa ((j + 1 : Nat) : Int) := ⟨_, rfl⟩
  rw [<- hI]; obtain ⟨C, hC⟩ : ∃ C : Nm, C = dot B (j + 1) := ⟨_, rfl⟩
  have ha2 : (⟨T1.toArray⟩ : ByteArray) ++ ⟨I.toArray⟩ = ⟨C.toArray⟩ := by rw [hC, fT, HT1.out, hI, jg]; rfl
  have hl2 : ¬ 9223372036854775807 < T1.length + I.length := by
   have h1 := Lib.itoa_length_le ((j + 1 : Nat) : Int) (by omega) (by omega); rw [<- hI] at h1; have h2 : T1.length = B.length + 1 := by rw [HT1.out]; simp
   have := mK.out; omega
  have HC := hid hC; have h5 := h3.below hb3; have hs5 := hs4.trans (Stp.of_below (b := b) (mt := mt) (mh := mh) (hv := hv) hb3 h3.low.2.2.2); obtain ⟨c, hlk, fV⟩ := h5.tell HD.out C; have c3 := jK h5.uH 0 (.map (some mt)) rfl; have H5 := hid h5; have Co := hid hs5
  clear h5 hs5 hs4 h3 hs3 hb3 hI hC hj2 c0 H2 HS2; by_cases hz : c = 0
  . have hnd := fV.1 hz
    have jBR : N = j + 1 := by
     rw [<- HX.out]; cases f with
     | zero => rfl
     | succ f => rw [next, if_neg (by rw [<- HC.out]; simpa using hnd)]
    have jBS := hid jBR; have t0 : ((c : Int) == 0) = true := by rw [qd]; omega
    clear hz hnd jBR fV; go_wp2_with fail; go_ret; refine ⟨?_, ?_, Co.out⟩
    . rw [<- HB.out, <- Ia.out, jBS.out, <- HC.out]; rfl
    . rw [<- HB.out, <- Ia.out, jBS.out]; exact H5.out
  . have hd : C ∈ D := Classical.byContradiction fun h => hz (fV.2 h)
    have t0 : ((c : Int) == 0) = false := qF.2 (by omega); cases f with
    | zero =>
      exfalso
      have : N = j + 1 := HX.out.symm; exact Ib.out (by rw [this, <- HC.out]; exact hd)
    | succ f =>
      have kT : Hid (next D B f (j + 1) = N) := hid (by rw [<- HX.out, next, if_pos (by rw [<- HC.out]; simpa using hd)]); clear hz hd fV; go_wp2_with fail
      go_roundg (f + 1)
      case measure => exact jF4
      case rel => exact ⟨f, j + 1, by omega, hid (by have := HJ.out; omega), kT, H5, Co⟩
end Fr
namespace Fr
variable {lo b mt mh : Nat} {D : List Nm}
theorem St.apart {w : World} {hv : Value} {n : Nat} {ρ : Env} {hs : List (Nm × Nm)} (h : St w lo b mt mh hv D n ρ hs) : mt ≠ b /\ mh ≠ b /\ ∀ g, hv.ownBlock = some g -> g ≠ b /\ g ≠ mt /\ g ≠ mh := by
 have D7 : ∀ {c es k}, w.heap[c]? = some (.map es k) -> c ≠ b := fun {c es k} e hc => by rw [hc, h.uH] at e; cases e
 obtain ⟨L, ⟨es1, k1, h1, _⟩, _⟩ := h.RS; obtain ⟨L', ⟨es2, k2, h2, _⟩, _⟩ := h.hol; refine ⟨D7 h1, D7 h2, fun g hg => ?_⟩
 rcases h.hid.2 with ⟨rfl, _⟩ | ⟨g', cap, cur, rfl, a1, a2, a3⟩
 . cases hg
 . have e : g' = g := by simpa [Value.ownBlock] using hg
   subst e; refine ⟨fun e => ?_, fun e => ?_, fun e => ?_⟩
   . rw [e, h.uH] at a2; simp only [Jn, kI] at a2; exact absurd a2.2.1 (by decide)
   . rw [e, h1] at a2; cases a2
   . rw [e, h2] at a2; cases a2
theorem NT : (Tryd.prog.info? 121).map (fun i => (i.zero, i.size, i.bytes)) = some (some (.agg #[.string ⟨#[]⟩, .string ⟨#[]⟩]), 2, 32) := by kernel_rfl
def Ic (w : World) (base : Nat) (v : Value) (l : List (Nm × Nm)) (v' : Value) (w' : World) : Prop :=
 LD w' base v' l /\ w.grownBy w' v.ownBlock /\ (v'.ownBlock = v.ownBlock \/ ∀ g, v'.ownBlock = some g -> w.heap.size <= g)
theorem XC {w : World} {ops : Array Oper} {o : Oper} {a : Act} {K : Act -> World -> Prop} {Q : Exit -> Act -> World -> Prop} {X : Prop} (hgd : o.guard = none) (s x : Operand) (ho : o.op = .call { callee := .builtin .append, args := #[s, x], argTypes := #[50, 50] })
 (base : Nat) (v : Value) (l : List (Nm × Nm)) (hs : a.eval s = v) (hown : LD w base v l) (vx : Value) (hx : a.eval x = vx) (ys : List (Nm × Nm)) (hrow : uS w vx ys) (hl : l.length + ys.length <= 1000000000) (hbase : base <= w.heap.size)
 (h : ∀ v' w', Ic w base v (l ++ ys) v' w' -> K (a.put o.dst v') w') : if Region.wanted o (yielded ops a.tmps) = true then Oper.wp Tryd.prog o a w K Q else X := by
 obtain ⟨i0, h0, h1, h2, h3⟩ := QL NT; refine qy (Js := OM) hgd s x 50 ho base 121 i0 _ 2 32 Tryd.underlying50 h0 h1 h2 h3 rfl (by decide) v l.length (l.map YW) hs hown vx hx ys hrow (fun u x hu c hc => ?_) (by unfold maxLen; omega) (by omega) hbase ?_
 . have e : u = YW x := hu; subst e; simp only [YW, Value.cells, jf, Ja, Qu] at hc
   rcases hc with rfl | rfl <;> rfl
 . intro v' w' us hr hsz ho' hg hlc; refine h v' w' ⟨?_, hg, hlc⟩; have e : us = ys.map YW := u7 hr; subst e; rw [<- QN] at ho'; show w'.ownsRow base 121 2 v' (l ++ ys).length _; rw [jE]; exact ho'
theorem St.push {w w2 w3 : World} {hv v' : Value} {n : Nat} {ρ : Env} {hs : List (Nm × Nm)} (h : St w lo b mt mh hv D n ρ hs) (hb : Below w.heap.size w w2) (x : Nm × Nm) (ha : Ic w2 lo hv (hs ++ [x]) v' w3) :
 St (w3.setCell ⟨b, 3, none⟩ v') lo b mt mh v' D n ρ (hs ++ [x]) /\ Stp lo b mt mh hv v' w (w3.setCell ⟨b, 3, none⟩ v') /\ w3.heap[b]? = some (.cells #[.map (some mt), .int .i64 n, .map (some mh), hv] 52 (0, 0)) := by
 obtain ⟨l1, l2, l3, l4⟩ := h.low; have h2 := h.below hb; obtain ⟨d1, d2, d3⟩ := h2.apart; obtain ⟨ho, hg, hlc⟩ := ha; have hs2 := hb.size; have hk : ∀ c, c < w2.heap.size -> hv.ownBlock ≠ some c -> w3.heap[c]? = w2.heap[c]? := fun c hc hne => hg.block c hc (fun e => hne (by rw [<- e]))
 have k1 : w3.heap[b]? = w2.heap[b]? := hk b (by omega) (fun e => (d3 b e).1 rfl); have k2 : w3.heap[mt]? = w2.heap[mt]? := hk mt (by omega) (fun e => (d3 mt e).2.1 rfl); have k3 : w3.heap[mh]? = w2.heap[mh]? := hk mh (by omega) (fun e => (d3 mh e).2.2 rfl); have e3 := k1.trans h2.uH; have hne : ∀ c, c ≠ b -> (w3.setCell ⟨b, 3, none⟩ v').heap[c]? = w3.heap[c]? := fun c hc => jP w3 ⟨b, 3, none⟩ _ c hc
 obtain ⟨L, m1, m2⟩ := h2.RS; obtain ⟨L', m3, m4⟩ := h2.hol
 have hb0 : Below lo w (w3.setCell ⟨b, 3, none⟩ v') := by
  have hb3 : Below lo w w3 := (hb.mono l4).grown hg (by omega) (fun k hk => (h.hid.lt k hk).1); exact hb3.setCell (p := ⟨b, 3, none⟩) h.lb _
 refine ⟨⟨by have := Jf e3 3 v'; simpa using this, ⟨L, m1.keep ((hne mt d1).trans k2) (fun _ _ => trivial), m2⟩, ⟨L', m3.keep ((hne mh d2).trans k3) (fun _ _ => trivial), m4⟩, ?_, h.lb, h.lt, h.lh, h.ne⟩, ⟨hb0, fun c hc hn => ?_, ?_⟩, e3⟩
 . refine ⟨ho.1, ?_⟩
   rcases ho.2 with e | ⟨g, cap, cur, rfl, a1, a2, a3⟩
   . exact .inl e
   . refine .inr ⟨g, cap, cur, rfl, a1, (hne g fun e => ?_).trans a2, a3⟩; rw [e, e3] at a2; simp only [Jn, kI] at a2; exact absurd a2.2.1 (by decide)
 . rw [hne c fun e => hn (.inl e), hk c (by omega) (fun e => hn (.inr (.inr (.inr e)))), hb.block c hc]
 . rcases hlc with e | e
   . exact .inl e
   . exact .inr fun g hg => by have := e g hg; omega
theorem St.put {w : World} {hv : Value} {n : Nat} {ρ : Env} {hs : List (Nm × Nm)} (h : St w lo b mt mh hv D n ρ hs) (s a c : Nm) : ∃ w', (Instr.mapUpdate 49 (.map (some mh)) (.string ⟨s.toArray⟩) (.agg #[.string ⟨a.toArray⟩, .string ⟨c.toArray⟩])).run Tryd.prog w = .ok () w' /\ St w' lo b mt mh hv D n (upd ρ s c) hs /\ Stp lo b mt mh hv hv w w' := by
 obtain ⟨l1, l2, l3, l4⟩ := h.low; obtain ⟨d1, d2, d3⟩ := h.apart; obtain ⟨L', h3, h4⟩ := h.hol; obtain ⟨w', hr, hm, hg⟩ := h3.update (vK Tryd.underlying9) Kj s trivial (.agg #[.string ⟨a.toArray⟩, .string ⟨c.toArray⟩]) (fun _ _ _ _ _ => trivial); have hk : ∀ k, k < w.heap.size -> k ≠ mh -> w'.heap[k]? = w.heap[k]? := fun k hk hne => hg.block k hk (fun e => hne (by injection e))
 obtain ⟨L, h1, h2⟩ := h.RS; refine ⟨w', hr, ⟨(hk b l1 (Ne.symm d2)).trans h.uH, ⟨L, h1.keep (hk mt l2 h.ne) (fun _ _ => trivial), h2⟩, ⟨_, hm, h4.set s a c⟩, ?_, h.lb, h.lt, h.lh, h.ne⟩, ⟨(jD lo w).grown hg (by omega) (fun k hk => by injection hk with hk; rw [<- hk]; exact h.lh), fun k hk1 hn => hk k hk1 fun e => hn (.inr (.inr (.inl e))), .inl rfl⟩⟩; refine ⟨h.hid.1, ?_⟩
 rcases h.hid.2 with e | ⟨g, cap, cur, rfl, a1, a2, a3⟩
 . exact .inl e
 . exact .inr ⟨g, cap, cur, rfl, a1, (hk g (ji a2) (d3 g rfl).2.2).trans a2, a3⟩
theorem LG {w w' : World} {L : List (Nm × Value)} {s a r : Nm} (h : Z6 w mh L) (ha : (yY s L).getD (YW ([], [])) = YW (a, r)) (hw : Below w.heap.size w w') : (Instr.lookup 49 (.map (some mh)) (.string ⟨s.toArray⟩) false).run Tryd.prog w' = .ok (.agg #[.string ⟨a.toArray⟩, .string ⟨r.toArray⟩]) w' := by
 have h2 : Z6 w' mh L := h.keep (hw.block mh h.lt) (fun _ _ => trivial); have := (h2.look (vK Tryd.underlying9) Kj (BC w') s trivial).1; rw [ha] at this; exact this
theorem BF {w0 : World} (htab : ∀ w, Below lo w0 w -> mO w) (w : World) (hv : Value) (n : Nat) (ρ : Env) (hs : List (Nm × Nm)) (s : Nm) (h : St w lo b mt mh hv D n ρ hs) (hw : Below lo w0 w) (hD : D.length <= 1000000) (hn : n + D.length + 1 <= 1000000000) (hlen : s.length <= 3000000000) (jBT : hs.length + 1 <= 100000000) :
 Calls Tryd.prog 33 #[.pointer (some ⟨b, 0, none⟩), .string ⟨s.toArray⟩] w fun e w' => e = .returned (.string ⟨(bnd D s n ρ).2.1.toArray⟩) /\ ∃ hv', St w' lo b mt mh hv' D (bnd D s n ρ).1 (bnd D s n ρ).2.2 (hs ++ [(s, ρ s)]) /\ Stp lo b mt mh hv hv' w w' := by
 have H := hid h; have HW := hid hw; have TQ := hid htab; have HN := hid hn; have HL := hid hlen; have HD := hid hD; have HH := hid jBT
 clear h hw htab hn hlen hD jBT; go_enter Tryd.func33, Tryd.ntmps33; go_wp2_with fail; refine (BD TQ w hv n ρ hs s H HW HD HN HL).mono ?_; rintro e w1 ⟨rfl, h1, hs1⟩; obtain ⟨C, hC⟩ : ∃ C, C = dot (cut s) (new D (cut s) n) := ⟨_, rfl⟩
 rw [<- hC]; obtain ⟨N, hN⟩ : ∃ N, N = new D (cut s) n := ⟨_, rfl⟩
 rw [<- hN] at h1; have HC := hid hC; have Ia := hid hN
 obtain ⟨L, hm1, hm2⟩ := h1.hol; obtain ⟨a, hl⟩ := hm2 s; have jF5 := hid (fun (w' : World) (hw : Z6 w' mh L) => LG hw hl (jD _ _)); have jBU := hid hm1; have mM := hid (fun (w' : World) (hw : Below w1.heap.size w1 w') => (⟨jK (h1.below hw).uH 2 _ rfl, hm1.keep (hw.block mh hm1.lt) (fun _ _ => trivial)⟩ : w'.cell? ⟨b, 2, none⟩ = some (.map (some mh)) /\ Z6 w' mh L)); obtain ⟨q, c, hq⟩ := jH h1.hid; subst hq; obtain ⟨l1, l2, l3, l4⟩ := h1.low; have H1 := hid h1; have V5 := hid hs1
 clear hC hN h1 hs1 hl hm1 hm2; go_wp2_with fail; have hS0 : w1.drew.cell? ⟨b, 2, none⟩ = some (.map (some mh)) /\ Z6 w1.drew mh L := mM.out w1.drew ((jD _ _).drew); refine jU (S := fun w' => w'.cell? ⟨b, 2, none⟩ = some (.map (some mh)) /\ Z6 w' mh L) (by kernel_rfl) hS0 (fun hHeld => ?_); clear hS0; refine wS 0 (.pointer (some ⟨b, 0, none⟩)) rfl hHeld ?_; refine wS 1 (.pointer (some ⟨b, 0, none⟩)) rfl hHeld ?_; refine wS 2 (.pointer (some ⟨b, 0, none⟩)) rfl hHeld ?_; refine wS 3 (.pointer (some ⟨b, 3, none⟩)) rfl hHeld ?_; refine wS 5 (.string ⟨s.toArray⟩) rfl hHeld ?_; refine wS 6 (.pointer (some ⟨b, 0, none⟩)) rfl hHeld ?_; refine wS 7 (.pointer (some ⟨b, 0, none⟩)) rfl hHeld ?_; refine wS 8 (.pointer (some ⟨b, 2, none⟩)) rfl hHeld ?_; refine wT 9 (.map (some mh)) rfl (Or.inl ⟨by rfl, fun w' hSw => by have hx := hSw.1; go_simp⟩) hHeld ?_; refine wS 10 (.string ⟨s.toArray⟩) rfl hHeld ?_; refine wT 11 (.agg #[.string ⟨a.toArray⟩, .string ⟨(ρ s).toArray⟩]) rfl (Or.inl ⟨by rfl, fun w' hSw => by have hx := jF5.out w' hSw.2; go_simp⟩) hHeld ?_; refine wT 12 (.string ⟨(ρ s).toArray⟩) rfl (Or.inl ⟨by rfl, fun w' hSw => by have hx := XB a (ρ s) w'; go_simp⟩) hHeld ?_; refine wS 13 (.agg #[.string ⟨s.toArray⟩, .string ⟨(ρ s).toArray⟩]) rfl hHeld ?_; simp only [Act.put, jd, JE, JF]; refine Qt (rs := [4, 14]) (by kernel_rfl) (by simp) ?_; refine Jc rfl (fun K hK => ?_) (Jc rfl (fun K hK => ?_) QZ)
 . have cc := jK H1.out.uH 3 _ rfl; go_simp; clear cc; refine hK.out _ _ hHeld (fun hHeld => ?_); clear hK K; refine wR 14 rfl (fun K hK => ?_); go_simp; have hb1 : Below w1.heap.size w1 ((w1.alloc (.cells #[.string ⟨s.toArray⟩, .string ⟨(ρ s).toArray⟩] 121)).drew) := ((jD _ _).alloc (jB _) _).drew; have HB1 := hid hb1; have HR1 : Hid (uS ((w1.alloc (.cells #[.string ⟨s.toArray⟩, .string ⟨(ρ s).toArray⟩] 121)).drew) (.slice (some ⟨w1.heap.size, 0, none⟩) 1 1) [(s, ρ s)]) := hid (xy (s, ρ s) (show ((w1.alloc (.cells #[.string ⟨s.toArray⟩, .string ⟨(ρ s).toArray⟩] 121)).drew).heap[w1.heap.size]? = _ from jb w1 #[.string ⟨s.toArray⟩, .string ⟨(ρ s).toArray⟩] 121)); have VP := hid (jc H1.out.hid hb1); refine hK.out _ _ (mM.out _ hb1) (fun hHeld => ?_); clear hK K hb1; refine wR 15 rfl (fun K hK => ?_); refine XC rfl (.tmp 13) (.tmp 23) rfl lo _ _ rfl VP _ rfl [(s, ρ s)] HR1 (by have := HH.out; simp; omega) (by have := HB1.out.size; omega) ?_; intro v2 w2 ha2; obtain ⟨p3, c3, rfl⟩ := jH ha2.1; obtain ⟨h3, hs3, RY⟩ := H1.out.push HB1.out (s, ρ s) ha2
   have dY : w2.heap[mh]? = w1.heap[mh]? := by
    have := hs3.stay; rw [ha2.2.1.block mh (by have := HB1.out.size; omega) (fun e => (((H1.out.below HB1.out).apart.2.2 mh e.symm).2.2) rfl)]; exact HB1.out.block mh l3
   have hS2 : w2.cell? ⟨b, 2, none⟩ = some (.map (some mh)) /\ Z6 w2 mh L := ⟨xK RY 2 rfl, jBU.out.keep dY (fun _ _ => trivial)⟩
   have wH : (w2.setCell ⟨b, 3, none⟩ (.slice p3 (hs ++ [(s, ρ s)]).length c3)).cell? ⟨b, 2, none⟩ = some (.map (some mh)) /\ Z6 (w2.setCell ⟨b, 3, none⟩ (.slice p3 (hs ++ [(s, ρ s)]).length c3)) mh L :=
    ⟨jK h3.uH 2 _ rfl, hS2.2.keep (jP w2 ⟨b, 3, none⟩ _ mh H1.out.apart.2.1) (fun _ _ => trivial)⟩
   obtain ⟨z3, hz3⟩ : ∃ z, z = (hs ++ [(s, ρ s)]).length := ⟨_, rfl⟩
   rw [<- hz3] at h3 hs3 wH ⊢; have AL := jX RY 3; have AO := xK RY 3 rfl; have H3 := hid h3; have dK := hid (V5.out.trans hs3)
   have NU := hid hS2; have AP := hid wH
   clear ha2 h3 hs3 RY dY hS2 wH hz3; refine hK.out _ _ NU.out (fun hHeld => ?_); clear hK K; refine wR 16 rfl (fun K hK => ?_); go_simp; refine hK.out _ _ NU.out (fun hHeld => ?_); clear hK K; refine wR 17 rfl (fun K hK => ?_); go_simp; refine hK.out _ _ NU.out (fun hHeld => ?_); clear hK K; refine wR 18 rfl (fun K hK => ?_); go_simp; refine hK.out _ _ AP.out (fun hHeld => ?_); clear hK K AL AO hHeld; refine wD ?_; obtain ⟨w4, hr4, h4, hs4⟩ := H3.out.put s s C; have cm := jK H3.out.uH 2 _ rfl; have H4 := hid h4; have Cq := hid (dK.out.trans hs4)
   clear h4 hs4; generalize w2.setCell ⟨b, 3, none⟩ (.slice p3 z3 c3) = w3 at hr4 cm ⊢; go_wp2_with fail; go_ret; refine ⟨?_, _, ?_, Cq.out⟩
   . rw [HC.out]; rfl
   . have e1 : (bnd D s n ρ).1 = N := by rw [Ia.out]; rfl
     have e2 : (bnd D s n ρ).2.2 = upd ρ s C := by rw [HC.out]; rfl
     rw [e1, e2]; exact H4.out
 . go_simp; have hb1 : Below w1.heap.size w1 ((w1.alloc (.cells #[.string ⟨s.toArray⟩, .string ⟨(ρ s).toArray⟩] 121)).drew) := ((jD _ _).alloc (jB _) _).drew; have HB1 := hid hb1; have HR1 : Hid (uS ((w1.alloc (.cells #[.string ⟨s.toArray⟩, .string ⟨(ρ s).toArray⟩] 121)).drew) (.slice (some ⟨w1.heap.size, 0, none⟩) 1 1) [(s, ρ s)]) := hid (xy (s, ρ s) (show ((w1.alloc (.cells #[.string ⟨s.toArray⟩, .string ⟨(ρ s).toArray⟩] 121)).drew).heap[w1.heap.size]? = _ from jb w1 #[.string ⟨s.toArray⟩, .string ⟨(ρ s).toArray⟩] 121)); have VP := hid (jc H1.out.hid hb1); refine hK.out _ _ (mM.out _ hb1) (fun hHeld => ?_); clear hK K hb1; refine wR 4 rfl (fun K hK => ?_); have cc := jK (H1.out.below HB1.out).uH 3 _ rfl; go_simp; clear cc; refine hK.out _ _ (mM.out _ HB1.out) (fun hHeld => ?_); clear hK K; refine wR 15 rfl (fun K hK => ?_); refine XC rfl (.tmp 13) (.tmp 23) rfl lo _ _ rfl VP _ rfl [(s, ρ s)] HR1 (by have := HH.out; simp; omega) (by have := HB1.out.size; omega) ?_; intro v2 w2 ha2; obtain ⟨p3, c3, rfl⟩ := jH ha2.1; obtain ⟨h3, hs3, RY⟩ := H1.out.push HB1.out (s, ρ s) ha2
   have dY : w2.heap[mh]? = w1.heap[mh]? := by
    have := hs3.stay; rw [ha2.2.1.block mh (by have := HB1.out.size; omega) (fun e => (((H1.out.below HB1.out).apart.2.2 mh e.symm).2.2) rfl)]; exact HB1.out.block mh l3
   have hS2 : w2.cell? ⟨b, 2, none⟩ = some (.map (some mh)) /\ Z6 w2 mh L := ⟨xK RY 2 rfl, jBU.out.keep dY (fun _ _ => trivial)⟩
   have wH : (w2.setCell ⟨b, 3, none⟩ (.slice p3 (hs ++ [(s, ρ s)]).length c3)).cell? ⟨b, 2, none⟩ = some (.map (some mh)) /\ Z6 (w2.setCell ⟨b, 3, none⟩ (.slice p3 (hs ++ [(s, ρ s)]).length c3)) mh L :=
    ⟨jK h3.uH 2 _ rfl, hS2.2.keep (jP w2 ⟨b, 3, none⟩ _ mh H1.out.apart.2.1) (fun _ _ => trivial)⟩
   obtain ⟨z3, hz3⟩ : ∃ z, z = (hs ++ [(s, ρ s)]).length := ⟨_, rfl⟩
   rw [<- hz3] at h3 hs3 wH ⊢; have AL := jX RY 3; have AO := xK RY 3 rfl; have H3 := hid h3; have dK := hid (V5.out.trans hs3)
   have NU := hid hS2; have AP := hid wH
   clear ha2 h3 hs3 RY dY hS2 wH hz3; refine hK.out _ _ NU.out (fun hHeld => ?_); clear hK K; refine wR 16 rfl (fun K hK => ?_); go_simp; refine hK.out _ _ NU.out (fun hHeld => ?_); clear hK K; refine wR 17 rfl (fun K hK => ?_); go_simp; refine hK.out _ _ NU.out (fun hHeld => ?_); clear hK K; refine wR 18 rfl (fun K hK => ?_); go_simp; refine hK.out _ _ AP.out (fun hHeld => ?_); clear hK K AL AO hHeld; refine wD ?_; obtain ⟨w4, hr4, h4, hs4⟩ := H3.out.put s s C; have cm := jK H3.out.uH 2 _ rfl; have H4 := hid h4; have Cq := hid (dK.out.trans hs4)
   clear h4 hs4; generalize w2.setCell ⟨b, 3, none⟩ (.slice p3 z3 c3) = w3 at hr4 cm ⊢; go_wp2_with fail; go_ret; refine ⟨?_, _, ?_, Cq.out⟩
   . rw [HC.out]; rfl
   . have e1 : (bnd D s n ρ).1 = N := by rw [Ia.out]; rfl
     have e2 : (bnd D s n ρ).2.2 = upd ρ s C := by rw [HC.out]; rfl
     rw [e1, e2]; exact H4.out
end Fr
namespace Fr
variable {P : Program}
def NV (Q : Exit -> Act -> World -> Prop) : Exit -> Act -> World -> Prop
 | .normal, a, w => Q .normal a w
 | _, _, _ => False
theorem wI {l n : Nat} {row : String} {args : Array Value} {w : World} {R : Value -> World -> Prop} (h : Rows P row args w R) : RowsIn (Fence.wide.inRound l) n P row args w R :=
 fun c cs _ => let ⟨v, w', r, s⟩ := h c cs; ⟨v, w', r, (fenced_inRound P Fence.wide l).symm ▸ stepsIn_wide.2 s⟩
theorem eG {l n : Nat} {o : Oper} {a : Act} {w : World} {K : Act -> World -> Prop} {Q : Exit -> Act -> World -> Prop} (hd : ∀ c, o.op ≠ .defer c) (h : o.wp P a w K (NV Q)) : o.wpIn (Fence.wide.inRound l) n P a w K Q := by
 refine ⟨fun _ _ => trivial, ?_⟩; rw [Oper.semAt_eq _ _ _ hd]; unfold Oper.wp at h; generalize (execOp a.eval o).run P w = r at h ⊢; cases r with
 | ok x w' =>
   cases x with
   | value v => exact h
   | skip => exact h
   | defer d => exact h
   | enter f args =>
     refine ⟨fun e => (by simp [Fence.inRound, Fence.wide] at e), ?_⟩; have h2 : Calls P f args w' _ := h; refine (CallsIn.inRound l (callsIn_wide.2 h2)).mono ?_; intro e w2 he; cases e with
     | returned v => exact he
     | panicked c => exact he.elim
     | outgrown => obtain ⟨_, _, he⟩ := he; exact he.elim
   | row row args =>
     refine ⟨fun e => (by simp [Fence.inRound, Fence.wide] at e), ?_⟩; exact wI h
   | _ => exact h.elim
 | halt x w' =>
   cases x with
   | panic v => exact h.elim
   | _ => exact h.elim
theorem wJ {l n : Nat} {ops : Array Oper} {md : Region.Mode} {Q : Exit -> Act -> World -> Prop} (hd : ∀ (i : Nat) (o : Oper), ops[i]? = some o -> ∀ c, o.op ≠ .defer c) :
 ∀ (fuel : Nat) (listed : Array Bool) (a : Act) (w : World), wpAny P md ops (NV Q) fuel listed a w -> wpAnyIn (Fence.wide.inRound l) n P md ops Q fuel listed a w := by
 intro fuel
 induction fuel with
 | zero => intro listed a w h; exact h
 | succ fuel ih =>
   intro listed a w h; refine ⟨h.1, fun i hi => ?_⟩; have h2 := h.2 i hi; unfold wpOp at h2; unfold wpOpIn; cases ho : ops[i]? with
   | none => rw [ho] at h2; exact ih _ _ _ h2
   | some o =>
     rw [ho] at h2; by_cases hw : Region.wanted o (yielded ops a.tmps) = true
     . simp only [hw, if_true] at h2 ⊢
       rcases h2 with h2 | ⟨_, _, _, h2⟩
       . exact eG (hd i o ho) (Oper.wp_mono (fun a w => ih _ a w) h2)
       . exact h2.elim
     . simp only [hw] at h2 ⊢; exact ⟨fun _ _ => trivial, ih _ _ _ h2⟩
def wK (ops : Array Oper) : Bool := ops.toList.all fun o => match o.op with | .defer _ => false | _ => true
theorem wL {ops : Array Oper} (h : wK ops = true) (i : Nat) (o : Oper) (ho : ops[i]? = some o) (c : Call) : o.op ≠ .defer c := by
 intro e; unfold wK at h; rw [Ju] at h; have hm : o ∈ ops.toList := by rw [<- zG] at ho; exact jI ho
 have := h o hm; rw [e] at this; simp at this
theorem UM {l n id : Nat} {ops : Array Oper} {a : Act} {w : World} {Q : Exit -> Act -> World -> Prop} {S : World -> Prop} (hm : P.follows .mixedOrders = true) (hd : wK ops = true) (hS : S w.drew)
 (h : S w.drew -> wpAnyH P .any ops (NV Q) S ops.size (Array.replicate ops.size false) a w.drew) : (Code.region id ops true).wpIn (Fence.wide.inRound l) n P Q a w :=
 wpIn_region_any hm (wJ (wL hd) _ _ _ _ (wpAny_of_held _ _ _ _ (h hS)))
end Fr
end Go.Proofs.YtlnjdclmopblcaaDoor
namespace Go.Proofs.YtlnjdclmopblcaaDoor
open Go Go.RowKit Go.Shelf
open Go.Lib (hid)
attribute [local go_sem] Oper.semAt_some
namespace Fr
abbrev Fv := Nm × Nm
def fv (x : Fv) : Value := .agg #[.string ⟨x.1.toArray⟩, .string ⟨x.2.toArray⟩]
def Zh (zs : List Fv) (k : Nat) : List (Nat × Fv) := (List.range k).map fun j => (zs.length - 1 - j, zs[zs.length - 1 - j]?.getD ([], []))
theorem kY (zs : List Fv) (k : Nat) : Zh zs (k + 1) = Zh zs k ++ [(zs.length - 1 - k, zs[zs.length - 1 - k]?.getD ([], []))] := by simp [Zh, List.range_succ]
theorem Xw (zs : List Fv) (k : Nat) : (Zh zs k).length = k := by simp [Zh]
theorem wM (F : Fence) (n : Nat) (hF : F.fn 75) (hro : F.round = none) (hn : 1 <= n) (l Bs b o cap : Nat) (cur : Array Value) (zs : List Fv) (hlen : zs.length <= 100000000) (hcap : zs.length <= cap) (Kp : World -> World -> Prop)
 (OO : ∀ A B, Kp A B -> B.heap[Bs]? = A.heap[Bs]? /\ B.heap[b]? = A.heap[b]?) (J Jx : List (Nat × Fv) -> World -> Prop)
 (hY : ∀ pre x W, J pre W -> pre.length < zs.length -> YieldAt F (n - 1) Tryd.prog l #[.int .i64 (x.1 : Nat), fv x.2] W fun e W' =>
   (e = .returned (.bool true) /\ J (pre ++ [x]) W' /\ Kp W W') \/ (e = .returned (.bool false) /\ Jx (pre ++ [x]) W'))
 (W : World) (LH : W.heap[Bs]? = some (.cells #[.slice (some ⟨b, o, none⟩) zs.length cap] 50 (0, 0))) (hb : W.heap[b]? = some (.cells cur 121 (0, 0))) (hcap2 : (cap : Int) <= 9223372036854775807) (hc : ∀ j, j < zs.length -> cur[o + j * 2]? = some (.string ⟨(zs[j]?.getD ([], [])).1.toArray⟩) /\ cur[o + j * 2 + 1]? = some (.string ⟨(zs[j]?.getD ([], [])).2.toArray⟩)) (h0 : J [] W) :
 CallsIn F n Tryd.prog 75 #[.func (.yield l) #[] #[], .pointer (some ⟨Bs, 0, none⟩)] W fun e W' => (∃ v, e = .returned v) /\
  ((∃ ys, ys = Zh zs zs.length /\ J ys W') \/ (∃ pre, (∃ k, k <= zs.length /\ pre = Zh zs k) /\ Jx pre W')) := by
 refine callsIn_of_wp Tryd.func75 rfl hF ?_ hro; simp only [Tryd.ntmps75, Ga, JG, Qa, Nat.reduceAdd, Nat.reduceSub, Ub, Ua, Gb, KH, J6, JQ]; have y0 := xK LH 0 rfl; have hw0 : wrap64 ((zs.length : Int) - 1) = (zs.length : Int) - 1 := by unfold wrap64; omega
 gi_wp2
 gi_loopw [3] (fun i wr => ∃ k : Nat, k <= zs.length /\ i = .int .i64 ((zs.length : Int) - 1 - k) /\ J (Zh zs k) wr /\ wr.heap[Bs]? = some (.cells #[.slice (some ⟨b, o, none⟩) zs.length cap] 50 (0, 0)) /\ wr.heap[b]? = some (.cells cur 121 (0, 0)))
  (fun i _ => (intOf i + 1).toNat)
 case atStart => exact ⟨0, jh _, by simp, h0, LH, hb⟩
 case round =>
  obtain ⟨k, hk, rfl, hJs, e1, e2⟩ := hrel; have H1 := hid e1; have H2 := hid e2; have z0 := xK e1 0 rfl; by_cases hlt : k < zs.length
  . obtain ⟨m, hm⟩ : ∃ m, m = zs.length - 1 - k := ⟨_, rfl⟩
    have jF6 : m < zs.length := by omega
    have hmk : (zs.length : Int) - 1 - k = (m : Int) := by omega
    have hx := hc m jF6; have hsu := kY zs k; rw [<- hm] at hsu; obtain ⟨z, hz⟩ : ∃ z, z = zs[m]?.getD ([], []) := ⟨_, rfl⟩
    rw [<- hz] at hx hsu; have jBV := hid hsu; have hcx := jK e2 _ _ hx.1; have hcy := jK e2 _ _ hx.2; obtain ⟨fn, tmps, assign, body, hy, hR⟩ := hY _ (m, z) wr hJs (by rw [Xw]; exact hlt)
    dsimp only at hy
    rw [hmk]; have hw1 : wrap64 ((m : Int) - 1) = (m : Int) - 1 := by unfold wrap64; omega
    have HM := hid hmk; have hm2 : (m : Int) < (zs.length : Int) := by omega
    clear hm hx hsu hz e1 e2 y0 hmk hc LH hb hw0; obtain ⟨z1, z2⟩ := z
    dsimp only at hcx hcy
    simp only [fv] at hy
    gi_wp2
    refine hR.mono ?_; rintro e W3 (⟨rfl, hJ3, hk3⟩ | ⟨rfl, hJx3⟩)
    . have HK := hid (OO _ _ hk3); clear hk3
      gi_wp2
      go_roundw
      case rel =>
       refine ⟨k + 1, by omega, ?_, by rw [jBV.out]; exact hJ3, HK.out.1.trans H1.out, HK.out.2.trans H2.out⟩; have := HM.out
       congr 1; push_cast; omega
      case measure => simp [intOf]
    . gi_wp2
      refine jG (results_none rfl _ _ _) rfl ?_; exact ⟨⟨_, rfl⟩, .inr ⟨_, ⟨k + 1, by omega, jBV.out.symm⟩, hJx3⟩⟩
  . obtain rfl : k = zs.length := by omega
    have hmk : (zs.length : Int) - 1 - zs.length = -1 := by omega
    rw [hmk]
    gi_wp2
    go_end0
    exact ⟨⟨_, rfl⟩, .inl ⟨_, rfl, hJs⟩⟩
theorem U2 (F : Fence) (n : Nat) (hF : F.fn 75) (hro : F.round = none) (l Bs : Nat) (q : Option Addr) (c : Nat) (J : List (Nat × Fv) -> World -> Prop) (W : World) (LH : W.heap[Bs]? = some (.cells #[.slice q 0 c] 50 (0, 0))) (h0 : J [] W) :
 CallsIn F n Tryd.prog 75 #[.func (.yield l) #[] #[], .pointer (some ⟨Bs, 0, none⟩)] W fun e W' => (∃ v, e = .returned v) /\ J [] W' := by
 refine callsIn_of_wp Tryd.func75 rfl hF ?_ hro; simp only [Tryd.ntmps75, Ga, JG, Qa, Nat.reduceAdd, Nat.reduceSub, Ub, Ua, Gb, KH, J6, JQ]; have y0 := xK LH 0 rfl
 gi_wp2
 gi_loopw [3] (fun i wr => i = .int .i64 (-1) /\ J [] wr) (fun _ _ => 0)
 case atStart => exact ⟨rfl, h0⟩
 case round =>
  obtain ⟨rfl, hJs⟩ := hrel
  gi_wp2
  go_end0
  exact ⟨⟨_, rfl⟩, hJs⟩
theorem VR (F : Fence) (n : Nat) (hF : F.fn 75) (hro : F.round = none) (hn : 1 <= n) (Bs : Nat) (rv : Value) (zs : List Fv) (hlen : zs.length <= 100000000) (w : World) (Kp : World -> World -> Prop)
 (OO : ∀ A B, Kp A B -> B.heap[Bs]? = A.heap[Bs]? /\ ∀ (b : Nat) (cur : Array Value), w.heap[b]? = some (Obj.cells cur 121 (0, 0)) -> B.heap[b]? = A.heap[b]?)
 (LH : w.heap[Bs]? = some (.cells #[rv] 50 (0, 0)))
 (hrow : (zs = [] /\ ∃ q c, rv = .slice q 0 c) \/ ∃ b o cap cur, rv = .slice (some ⟨b, o, none⟩) zs.length cap /\ zs.length <= cap /\ (cap : Int) <= 9223372036854775807 /\ w.heap[b]? = some (.cells cur 121 (0, 0)) /\ ∀ j, j < zs.length -> cur[o + j * 2]? = some (.string ⟨(zs[j]?.getD ([], [])).1.toArray⟩) /\ cur[o + j * 2 + 1]? = some (.string ⟨(zs[j]?.getD ([], [])).2.toArray⟩)) :
 SeqStopsK F n Tryd.prog 75 #[.pointer (some ⟨Bs, 0, none⟩)] (fun x : Nat × Fv => #[.int .i64 (x.1 : Nat), fv x.2]) Kp (fun ys => ys = Zh zs zs.length) (fun pre => ∃ k, k <= zs.length /\ pre = Zh zs k) zs.length w := fun l J Jx W hW _ _ hY h0 => by
 have hB := jM LH hW
 rcases hrow with ⟨rfl, q, c, rfl⟩ | ⟨b, o, cap, cur, rfl, a1, a2, a3, a4⟩
 . exact (U2 F n hF hro l Bs q c J W hB h0).mono fun e W' ⟨he, hj⟩ => ⟨he, .inl ⟨_, rfl, hj⟩⟩
 . have hg := jM a3 hW; refine (wM F n hF hro hn l Bs b o cap cur zs hlen a1 Kp (fun A B h => ⟨(OO A B h).1, (OO A B h).2 b cur a3⟩) J Jx hY W hB hg a2 a4 h0).mono ?_; rintro e W' ⟨he, ⟨ys, rfl, hj⟩ | ⟨pre, ⟨k, hk, rfl⟩, hj⟩⟩
   . exact ⟨he, .inl ⟨_, rfl, hj⟩⟩
   . exact ⟨he, .inr ⟨_, ⟨k, hk, rfl⟩, hj⟩⟩
theorem kZ (F : Fence) (n : Nat) (hF : F.fn 57) (hro : F.round = none) (q : Option Addr) (m c : Nat) (w : World) :
 CallsIn F n Tryd.prog 57 #[.slice q m c] w fun e w' => e = .returned (.func (.func 75) #[] #[.pointer (some ⟨w.heap.size, 0, none⟩)]) /\ w' = w.alloc (.cells #[.slice q m c] 50) := by
 refine callsIn_of_wp Tryd.func57 rfl hF ?_ hro; simp only [Tryd.ntmps57, Ga, JG, Qa, Nat.reduceAdd, Nat.reduceSub, Ub, Ua, Gb, KH, J6, JQ]
 gi_wp2
 go_ret; exact ⟨rfl, rfl⟩
end Fr
end Go.Proofs.YtlnjdclmopblcaaDoor
