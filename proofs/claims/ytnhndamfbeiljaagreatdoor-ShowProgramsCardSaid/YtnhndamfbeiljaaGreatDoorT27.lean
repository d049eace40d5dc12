import Derived.Test.YtnhndamfbeiljaaGreatDoorT26
import Derived.Stop.LaidErr
set_option linter.unusedVariables false
set_option linter.unusedSimpArgs false
set_option maxHeartbeats 4000000
set_option maxRecDepth 100000
namespace Go.Proofs.YtnhndamfbeiljaaGreatDoor
open Go.Lib (hid)
namespace Px
open Lx (tk jBH)
inductive Room : Nat -> Node -> Prop
 | leaf (d : Nat) (t : Lx.Tok) (l : List Node) (k : Nat) : t.kind ≠ 0 -> Room d (.mk t l k)
 | list (d : Nat) (t : Lx.Tok) (l : List Node) (k : Nat) : d ≠ 40 -> (∀ m ∈ l, Room (d + 1) m) -> Room d (.mk t l k)
theorem jQC (stop : Nat) : ∀ (f d : Nat) (ts : List Lx.Tok),
 (∀ n ts', node stop f d ts = .ok (n, ts') -> Room d n) /\ (∀ l ts', rest stop f d ts = .ok (l, ts') -> ∀ m ∈ l, Room d m) := by
 intro f
 induction f with
 | zero => intro d ts; exact ⟨fun n ts' h => (by cases h), fun l ts' h => (by cases h)⟩
 | succ f ih =>
   intro d ts; cases ts with
   | nil => exact ⟨fun n ts' h => (by cases h), fun l ts' h => (by cases h)⟩
   | cons t ts =>
     constructor
     . intro n ts' h; rw [node] at h; by_cases k1 : t.kind = 1
       . rw [if_pos k1] at h; cases h
       . rw [if_neg k1] at h; by_cases k0 : t.kind = 0
         . rw [if_pos k0] at h; by_cases hd : d = 40
           . rw [if_pos hd] at h; cases h
           . rw [if_neg hd] at h; cases hr : rest stop f (d + 1) ts with
             | error p => rw [hr] at h; cases h
             | ok x =>
               obtain ⟨l, ts1⟩ := x; rw [hr] at h; simp only [Except.ok.injEq, Prod.mk.injEq] at h; obtain ⟨rfl, rfl⟩ := h; exact .list _ _ _ _ hd ((ih (d + 1) ts).2 _ _ hr)
         . rw [if_neg k0] at h; simp only [Except.ok.injEq, Prod.mk.injEq] at h; obtain ⟨rfl, rfl⟩ := h; exact .leaf _ _ _ _ k0
     . intro l ts' h; rw [rest] at h; by_cases k1 : t.kind = 1
       . rw [if_pos k1] at h; simp only [Except.ok.injEq, Prod.mk.injEq] at h; obtain ⟨rfl, rfl⟩ := h; exact fun m hm => (by cases hm)
       . rw [if_neg k1] at h; cases hn : node stop f d (t :: ts) with
         | error p => rw [hn] at h; cases h
         | ok x =>
           obtain ⟨n, ts1⟩ := x; rw [hn] at h; simp only at h; have h1 := (ih d (t :: ts)).1 _ _ hn; cases hr : rest stop f d ts1 with
           | error p => rw [hr] at h; cases h
           | ok y =>
             obtain ⟨l', ts2⟩ := y; rw [hr] at h; simp only [Except.ok.injEq, Prod.mk.injEq] at h; obtain ⟨rfl, rfl⟩ := h; exact fun m hm => (List.mem_cons.1 hm).elim (fun e => e ▸ h1) ((ih d ts1).2 _ _ hr m)
theorem jIO (n : Int) : Plain (Lib.itoa n) := by
 rw [Lx.jFG]; have hd := Lx.jFL n.natAbs _ (Lx.jI6 (Lib.decDigits n.natAbs) 0 (List.length_pos_iff.2 (Lx.jLM n.natAbs)))
 split
 . exact jDM (.inr ⟨rfl, hd⟩)
 . exact jDM (.inl hd)
def Back (d : Nat) (n : Node) (s : List UInt8) : Prop :=
 ∀ (p : Nat) (r : List UInt8), Lx.Ends r -> ∃ ts m, tk p (s ++ r) = (ts ++ (tk (p + s.length) r).1, (tk (p + s.length) r).2) /\ Sim (fun _ _ => True) n m /\ 1 <= ts.length /\
  ∀ stop f more, 2 * ts.length <= f -> node stop f d (ts ++ more) = .ok (m, more)
theorem jJ6 (x y : List UInt8) (r : List (List UInt8)) : glue (x :: y :: r) = x ++ 32 :: glue (y :: r) := by
 simp [glue]
theorem jPV (d : Nat) : ∀ (l : List Node) (ss : List (List UInt8)), All2 (Back d) l ss -> ∀ (p : Nat) (r : List UInt8),
 ∃ ts ms, tk p (glue ss ++ 41 :: r) = (ts ++ (tk (p + (glue ss).length + 1) r).1, (tk (p + (glue ss).length + 1) r).2) /\ All2 (Sim (fun _ _ => True)) l ms /\ 1 <= ts.length /\
  ∀ stop f more, 2 * ts.length <= f -> rest stop f d (ts ++ more) = .ok (ms, more) := by
 intro l ss h
 induction h with
 | nil =>
   intro p r; refine ⟨[jBH p 1 [41]], [], ?_, .nil, by simp, fun stop f more hf => ?_⟩
   . show tk p (41 :: r) = _; rw [Lx.jM2]; rfl
   . obtain ⟨f, rfl⟩ : ∃ g, f = g + 1 := ⟨f - 1, by simp at hf; omega⟩
     exact jK6 _ _ _ _ _ _
 | @cons n s l ss h1 h2 ih =>
   intro p r; cases ss with
   | nil =>
     cases h2; obtain ⟨ts, m, e1, e2, e3, e4⟩ := h1 p (41 :: r) (Lx.ends_41 r); refine ⟨ts ++ [jBH (p + s.length) 1 [41]], [m], ?_, .cons e2 .nil, by simp, fun stop f more hf => ?_⟩
     . have : glue [s] = s := by simp [glue]
       rw [this, e1, Lx.jM2]; simp
     . rw [List.length_append] at hf; obtain ⟨f, rfl⟩ : ∃ g, f = g + 2 := ⟨f - 2, by simp at hf; omega⟩
       rw [List.append_assoc]; exact jK5 (e4 stop (f + 1) _ (by simp at hf; omega)) (jK6 _ _ _ _ _ _)
   | cons s2 ss =>
     obtain ⟨ts, m, e1, e2, e3, e4⟩ := h1 p (32 :: (glue (s2 :: ss) ++ 41 :: r)) (Lx.ends_32 _); obtain ⟨us, ms, f1, f2, f3, f4⟩ := ih (p + s.length + 1) r; refine ⟨ts ++ us, m :: ms, ?_, .cons e2 f2, by rw [List.length_append]; omega, fun stop f more hf => ?_⟩
     . have hg : glue (s :: s2 :: ss) ++ 41 :: r = s ++ 32 :: (glue (s2 :: ss) ++ 41 :: r) := by rw [jJ6]; simp
       have hl : p + (glue (s :: s2 :: ss)).length + 1 = p + s.length + 1 + (glue (s2 :: ss)).length + 1 := by rw [jJ6]; simp; omega
       rw [hg, hl, e1, Lx.tk_32, f1, List.append_assoc]
     . rw [List.length_append] at hf; obtain ⟨f, rfl⟩ : ∃ g, f = g + 1 := ⟨f - 1, by omega⟩
       rw [List.append_assoc]; exact jK5 (e4 stop f _ (by omega)) (f4 stop f more (by omega))
theorem jJB : ∀ (k : Nat) (n : Node) (d : Nat) (s : List UInt8), Fits k n -> NodeGood n -> Room d n -> Canon n s -> Back d n s := by
 have leaf2 : ∀ (t : Lx.Tok) (d k : Nat), t.kind = 2 -> NodeGood (.mk t [] k) -> Back d (.mk t [] k) (Lib.itoa t.int) := by
  intro t d k hk hg p r hr
  have hgt : TOk t /\ k = jBG t.text := by
   cases hg with
   | leaf t h1 h2 h3 => exact ⟨h1, rfl⟩
   | list t l h1 h2 h3 => omega
  obtain ⟨hb, hp⟩ := hgt.1.num hk; refine ⟨[jBH p 2 (Lib.itoa t.int)], .mk (jBH p 2 (Lib.itoa t.int)) [] (jBG (Lib.itoa t.int)), ?_, ?_, by simp, fun stop f more hf => ?_⟩
  . rw [Lx.jOW p (Lx.jO6 t.int hb.1 hb.2) hr]; rfl
  . have e : jBG (Lib.itoa t.int) = k := by rw [(jIO t.int).1, hgt.2, hp.1]
    rw [e]; refine .mk _ _ _ _ _ ⟨?_, trivial, ?_, fun _ => ⟨hp, ?_⟩, fun h => absurd hk h⟩ (fun _ => ?_) .nil
    . rw [Lx.jGJ]; exact hk.symm
    . rw [Lx.jGJ]
    . rw [Lx.jGJ]; exact jIO t.int
    . rw [hgt.2, hp.1]
  . obtain ⟨f, rfl⟩ : ∃ g, f = g + 1 := ⟨f - 1, by simp at hf; omega⟩
    exact jIR _ _ _ _ _ _ _ (by decide) (by decide)
 have leafW : ∀ (t : Lx.Tok) (d k : Nat), t.kind ≠ 0 -> t.kind ≠ 2 -> NodeGood (.mk t [] k) -> Back d (.mk t [] k) t.text := by
  intro t d k h0 hk hg p r hr
  have hgt : TOk t /\ k = jBG t.text /\ t.kind ≠ 1 := by
   cases hg with
   | leaf t h1 h2 h3 => exact ⟨h1, rfl, h3⟩
   | list t l h1 h2 h3 => omega
  refine ⟨[jBH p t.kind t.text], .mk (jBH p t.kind t.text) [] (jBG t.text), ?_, ?_, by simp, fun stop f more hf => ?_⟩
  . rw [Lx.jOW p (hgt.1.word h0 hgt.2.2 hk) hr]; rfl
  . rw [hgt.2.1]; refine .mk _ _ _ _ _ ⟨rfl, trivial, ?_, fun e => absurd e hk, fun h => rfl⟩ (fun e => absurd e hk) .nil; show (if t.kind = 2 then _ else 0) = t.int; rw [if_neg hk, hgt.1.zero hk]
  . obtain ⟨f, rfl⟩ : ∃ g, f = g + 1 := ⟨f - 1, by simp at hf; omega⟩
    exact jIR _ _ _ _ _ _ _ hgt.2.2 h0
 have listL : ∀ (t : Lx.Tok) (l : List Node) (ss : List (List UInt8)) (d k : Nat), t.kind = 0 -> NodeGood (.mk t l k) -> Room d (.mk t l k) -> All2 (Back (d + 1)) l ss -> Back d (.mk t l k) (joined ss) := by
  intro t l ss d k h0 hg hroom hb p r hr
  have hgt : TOk t /\ k = 0 := by
   cases hg with
   | leaf t h1 h2 h3 => omega
   | list t l h1 h2 h3 => exact ⟨h1, rfl⟩
  have hd : d ≠ 40 := by
   cases hroom with
   | leaf d t l k h => omega
   | list d t l k h _ => exact h
  obtain ⟨us, ms, f1, f2, f3, f4⟩ := jPV (d + 1) l ss hb (p + 1) r; refine ⟨jBH p 0 [40] :: us, .mk (jBH p 0 [40]) ms 0, ?_, ?_, by simp, fun stop f more hf => ?_⟩
  . have hj : joined ss ++ r = 40 :: (glue ss ++ 41 :: r) := by simp [joined]
    have hl : p + (joined ss).length = p + 1 + (glue ss).length + 1 := by simp [joined]; omega
    rw [hj, hl, Lx.tk_open, f1]; rfl
  . rw [hgt.2]; refine .mk _ _ _ _ _ ⟨h0.symm, trivial, ?_, fun e => by omega, fun _ => (hgt.1.opn h0).symm⟩ (fun _ => rfl) f2; exact (hgt.1.zero (by omega)).symm
  . rw [List.length_cons] at hf; obtain ⟨f, rfl⟩ : ∃ g, f = g + 1 := ⟨f - 1, by omega⟩
    exact jO3 _ _ _ _ _ _ _ _ hd (f4 stop f more (by omega))
 have kids : ∀ (d : Nat) (l : List Node) (ss : List (List UInt8)), All2 Canon l ss -> (∀ m ∈ l, ∀ s, Canon m s -> Back d m s) -> All2 (Back d) l ss := by
  intro d l ss h
  induction h with
  | nil => intro _; exact .nil
  | cons h1 h2 ih => intro hk; exact .cons (hk _ (by simp) _ h1) (ih (fun m hm => hk m (by simp [hm])))
 intro k
 induction k with
 | zero =>
   intro n d s hf hg hroom hc; cases hc with
   | int t k h => exact leaf2 t d k h hg
   | leaf t k h0 h2 => exact leafW t d k h0 h2 hg
   | list t l ss k h0 hs =>
     exact listL t l ss d k h0 hg hroom (kids _ _ _ hs (fun m hm => by rw [show l = [] from hf] at hm; cases hm))
 | succ k ih =>
   intro n d s hf hg hroom hc; cases hc with
   | int t k h => exact leaf2 t d _ h hg
   | leaf t k h0 h2 => exact leafW t d _ h0 h2 hg
   | list t l ss k' h0 hs =>
     refine listL t l ss d _ h0 hg hroom (kids _ _ _ hs (fun m hm s hc => ih m (d + 1) s (hf m hm) (hg.kid hm) ?_ hc)); cases hroom with
     | leaf d t l k h => omega
     | list d t l k _ h => exact h m hm
end Px
namespace Px
open Lx (tk)
theorem jIM (l : List UInt8) (h : l.length <= 4096) : program l = match tk 0 l with
 | (_, some q) => .lex q
 | (ts, none) => match prog l.length (ts.length + 1) 0 ts with
   | .error p => .parse p
   | .ok x => .done x := by
 unfold program parsed; rw [if_neg (by omega)]; have e : Lx.toks (l.length + 1) 0 l = tk 0 l := rfl; rw [e]; cases tk 0 l with
 | mk ts o =>
   cases o with
   | some q => rfl
   | none =>
     simp only
     cases prog l.length (ts.length + 1) 0 ts <;> rfl
section
variable {a b : List UInt8} (hl : a.length + b.length <= 2000)
include hl
end
end Px
namespace Px
open Lx (tk jBH)
structure PartD (n : Node) (d : Data) : Prop where
 room : Room 0 n
 good : NodeGood n
 fits : ∃ k, Fits k n
 head : word n = [100, 97, 116, 97]
 read : data 50 n = .ok d
structure PartF (n : Node) (d : Def) : Prop where
 room : Room 0 n
 good : NodeGood n
 fits : ∃ k, Fits k n
 head : word n = [100, 101, 102]
 read : defn 50 n = .ok d
theorem jNW (stop : Nat) : ∀ (f c : Nat) (ts : List Lx.Tok) (q : Prog), (∀ t ∈ ts, TOk t) -> prog stop f c ts = .ok q ->
 ∃ nd nf, All2 PartD nd q.datas /\ All2 PartF nf q.defs := by
 intro f
 induction f with
 | zero => intro c ts q _ h; cases h; exact ⟨[], [], .nil, .nil⟩
 | succ f ih =>
   intro c ts q ht h; cases ts with
   | nil => rw [jFV] at h; cases h; exact ⟨[], [], .nil, .nil⟩
   | cons t ts =>
     rw [jEB] at h; cases hn : node stop (2 * (t :: ts).length + 2) 0 (t :: ts) with
     | error p => rw [hn] at h; cases h
     | ok x =>
       obtain ⟨n, ts'⟩ := x; rw [hn] at h; simp only at h; obtain ⟨g1, g2⟩ := (jKC stop _ 0 (t :: ts) ht).1 _ _ hn; have g3 := (jQC stop _ 0 (t :: ts)).1 _ _ hn; have g4 := (jKD stop _ 0 (t :: ts)).1 _ _ hn; by_cases hc : c = 100
       . rw [if_pos hc] at h; cases h
       . rw [if_neg hc] at h; by_cases k1 : word n = [100, 97, 116, 97]
         . rw [if_pos k1] at h; cases hd : data 50 n with
           | error p => rw [hd] at h; cases h
           | ok d =>
             rw [hd] at h; simp only at h; cases hr : prog stop f (c + 1) ts' with
             | error p => rw [hr] at h; cases h
             | ok q' =>
               rw [hr] at h; simp only [Except.ok.injEq] at h; subst h; obtain ⟨nd, nf, h1, h2⟩ := ih _ _ _ g2 hr; exact ⟨n :: nd, nf, .cons ⟨g3, g1, ⟨_, g4⟩, k1, hd⟩ h1, h2⟩
         . rw [if_neg k1] at h; by_cases k2 : word n = [100, 101, 102]
           . rw [if_pos k2] at h; cases hd : defn 50 n with
             | error p => rw [hd] at h; cases h
             | ok d =>
               rw [hd] at h; simp only at h; cases hr : prog stop f (c + 1) ts' with
               | error p => rw [hr] at h; cases h
               | ok q' =>
                 rw [hr] at h; simp only [Except.ok.injEq] at h; subst h; obtain ⟨nd, nf, h1, h2⟩ := ih _ _ _ g2 hr; exact ⟨nd, n :: nf, h1, .cons ⟨g3, g1, ⟨_, g4⟩, k2, hd⟩ h2⟩
           . rw [if_neg k2] at h; cases h
theorem jK9 {n : Node} {s : List UInt8} (h : Back 0 n s) (p : Nat) (r : List UInt8) (us : List Lx.Tok) (hu : tk (p + s.length + 1) r = (us, none)) :
 ∃ t ts m, tk p (s ++ 10 :: r) = (t :: (ts ++ us), none) /\ Sim (fun _ _ => True) n m /\ ∀ stop f, 2 * (ts.length + 1) <= f -> node stop f 0 (t :: (ts ++ us)) = .ok (m, us) := by
 obtain ⟨ts, m, e1, e2, e3, e4⟩ := h p (10 :: r) (Lx.ends_10 r); cases ts with
 | nil => simp at e3
 | cons t ts =>
   refine ⟨t, ts, m, ?_, e2, fun stop f hf => e4 stop f us (by simpa using hf)⟩; rw [e1, Lx.tk_10, hu]; rfl
theorem jQR : ∀ (nf : List Node) (fs : List Def), All2 PartF nf fs -> ∀ p : Nat, ∃ ts fs', tk p (fs.map fun d => jC0 50 d ++ [10]).flatten = (ts, none) /\ All2 (SimDef (fun _ _ => True)) fs fs' /\
 ∀ stop g c, ts.length < g -> c + fs.length <= 100 -> prog stop g c ts = .ok ⟨[], fs'⟩ := by
 intro nf fs h
 induction h with
 | nil => intro p; exact ⟨[], [], rfl, .nil, fun stop g c _ _ => jFV _ _ _⟩
 | @cons n d nf fs h1 h2 ih =>
   intro p; obtain ⟨k, hk⟩ := h1.fits; have hb := jJB k n 0 _ hk h1.good h1.room (jOE 50 n d h1.good (h1.good.all hk) h1.head h1.read); obtain ⟨us, fs', f1, f2, f3⟩ := ih (p + (jC0 50 d).length + 1); obtain ⟨t, ts, m, e1, e2, e3⟩ := jK9 hb p _ us f1; have hd := defn_sim 50 e2; rw [h1.read] at hd; cases hm : defn 50 m with
   | error q => rw [hm] at hd; exact hd.elim
   | ok d' =>
     rw [hm] at hd; refine ⟨t :: (ts ++ us), d' :: fs', ?_, .cons hd f2, fun stop g c hg hc => ?_⟩
     . rw [List.map_cons, List.flatten_cons, List.append_assoc]; exact e1
     . rw [List.length_cons, List.length_append] at hg; rw [List.length_cons] at hc; obtain ⟨g, rfl⟩ : ∃ j, g = j + 1 := ⟨g - 1, by omega⟩
       have w1 : word m ≠ [100, 97, 116, 97] := by
        have := jEE e2.word [100, 97, 116, 97] (fun x hx => hx.2.1); rw [ne_eq, this, h1.head]; decide
       have w2 : word m = [100, 101, 102] := by rw [jEE e2.word _ (fun x hx => hx.2.2.1)]; exact h1.head
       rw [jEB, e3 stop _ (by rw [List.length_cons, List.length_append]; omega)]
       simp only
       rw [if_neg (by omega), if_neg w1, if_pos w2, hm]
       simp only
       rw [f3 stop g (c + 1) (by omega) (by omega)]
theorem jOF (T : List UInt8) (S : List Def -> Prop) (N : Nat) (HT : ∀ p : Nat, ∃ ts fs', tk p T = (ts, none) /\ S fs' /\ ∀ stop g c, ts.length < g -> c + N <= 100 -> prog stop g c ts = .ok ⟨[], fs'⟩) :
 ∀ (nd : List Node) (ds : List Data), All2 PartD nd ds -> ∀ p : Nat, ∃ ts ds' fs', tk p ((ds.map fun d => jBJ 50 d ++ [10]).flatten ++ T) = (ts, none) /\ All2 (SimData (fun _ _ => True)) ds ds' /\ S fs' /\
 ∀ stop g c, ts.length < g -> c + (ds.length + N) <= 100 -> prog stop g c ts = .ok ⟨ds', fs'⟩ := by
 intro nd ds h
 induction h with
 | nil =>
   intro p; obtain ⟨ts, fs', h1, h2, h3⟩ := HT p; exact ⟨ts, [], fs', h1, .nil, h2, fun stop g c hg hc => h3 stop g c hg (by simpa using hc)⟩
 | @cons n d nd ds h1 h2 ih =>
   intro p; obtain ⟨k, hk⟩ := h1.fits; have hb := jJB k n 0 _ hk h1.good h1.room (jOG 50 n d h1.good h1.head h1.read); obtain ⟨us, ds', fs', f1, f2, f2', f3⟩ := ih (p + (jBJ 50 d).length + 1); obtain ⟨t, ts, m, e1, e2, e3⟩ := jK9 hb p _ us f1; have hd := data_sim 50 e2; rw [h1.read] at hd; cases hm : data 50 m with
   | error q => rw [hm] at hd; exact hd.elim
   | ok d' =>
     rw [hm] at hd; refine ⟨t :: (ts ++ us), d' :: ds', fs', ?_, .cons hd f2, f2', fun stop g c hg hc => ?_⟩
     . rw [List.map_cons, List.flatten_cons, List.append_assoc, List.append_assoc]; exact e1
     . rw [List.length_cons, List.length_append] at hg; rw [List.length_cons] at hc; obtain ⟨g, rfl⟩ : ∃ j, g = j + 1 := ⟨g - 1, by omega⟩
       have w1 : word m = [100, 97, 116, 97] := by rw [jEE e2.word _ (fun x hx => hx.2.1)]; exact h1.head
       rw [jEB, e3 stop _ (by rw [List.length_cons, List.length_append]; omega)]
       simp only
       rw [if_neg (by omega), if_pos w1, hm]
       simp only
       rw [f3 stop g (c + 1) (by omega) (by omega)]
theorem jJL (l : List UInt8) (q : Prog) (h : program l = .done q) (hs : (jB1 50 q).length <= 4096) :
 ∃ q', program (jB1 50 q) = .done q' /\ jB1 50 q' = jB1 50 q := by
 have hl : l.length <= 4096 := by
  by_cases hl : 4096 < l.length
  . unfold program parsed at h; rw [if_pos hl] at h; cases h
  . omega
 have hok := jOV (l.length + 1) 0 l; rw [jIM _ hl] at h; have htk : Lx.toks (l.length + 1) 0 l = tk 0 l := rfl; rw [htk] at hok; cases ht : tk 0 l with
 | mk ts o =>
   rw [ht] at h hok; cases o with
   | some p => cases h
   | none =>
     simp only at h hok; cases hp : prog l.length (ts.length + 1) 0 ts with
     | error p => rw [hp] at h; cases h
     | ok q0 =>
       rw [hp] at h; simp only [Outcome.done.injEq] at h; subst h; obtain ⟨nd, nf, h1, h2⟩ := jNW _ _ _ _ _ hok hp; have hsz := jQ0 _ _ _ _ _ (by omega) hp; obtain ⟨us, ds', fs', e1, e2, e3, e4⟩ := jOF _ (All2 (SimDef (fun _ _ => True)) q0.defs) q0.defs.length (jQR nf q0.defs h2) nd q0.datas h1 0; refine ⟨⟨ds', fs'⟩, ?_, jKW (ρ := fun _ _ => True) 50 q0 ⟨ds', fs'⟩ ⟨e2, e3⟩⟩; rw [jIM _ hs]; have e5 : tk 0 (jB1 50 q0) = (us, none) := e1; rw [e5]
       simp only
       rw [e4 _ _ 0 (Nat.lt_succ_self _) (by unfold Prog.size at hsz; omega)]
end Px
end Go.Proofs.YtnhndamfbeiljaaGreatDoor
namespace Go.Proofs.YtnhndamfbeiljaaGreatDoor
open Go Go.RowKit
open Go.Lib (hid)

namespace Sw
theorem progK {w w' : World} {v : Value} {q : Px.Prog} (h : jER 50 w v q) (hb : Below w.heap.size w w') : jER 50 w' v q := by
 obtain ⟨dv, fv, rfl, h1, h2⟩ := h; exact ⟨dv, fv, rfl, h1.mono hb (fun u x _ hu => jNB hu hb), h2.mono hb (fun u x _ hu => defK hu hb)⟩
theorem jGP (a0 : Option Addr) (n c : Nat) (l : List UInt8) (w : World) (hs : SliceAt w (.slice a0 n c) l) (hl : l.length = n) (htab : Lib.TabIs Tryz.prog w "internal/strconv.uint64pow10" .u64 Lib.pow10Tab) :
 Calls Tryz.prog 3 #[.slice a0 n c] w fun e w' => e = .returned (.bool true) /\ Below w.heap.size w w' := by
 have HS := hid hs; have HL := hid hl; have HTAB := hid htab
 clear hs hl htab; go_enter Tryz.func3, Tryz.ntmps3; go_wp2_with fail; refine (jKF _ HTAB.out).mono ?_; rintro e w1 ⟨rfl, hb1⟩; have HB1 := hid hb1; clear hb1
 by_cases hlong : 2000 < n
 . have hl2 : (2000 : Int) < (n : Int) := by omega
   go_wp2_with fail; refine (jKF _ ((Lib.tabBelow_of_tabIs HTAB.out) _ HB1.out)).mono ?_; rintro e w2 ⟨rfl, hb2⟩; have HB2 := bT HB1 hb2; clear hb2
   go_wp2_with fail; go_ret; exact ⟨rfl, HB2.out⟩
 . have hl2 : ¬ (2000 : Int) < (n : Int) := by omega
   go_wp2_with fail; refine (jHP _ l _ (jD6 HS.out HB1.out)).mono ?_; rintro e w2 ⟨hb2, hres⟩; have HB2 := bT HB1 hb2; clear hb2
   generalize hout : Px.program l = out at *; cases out with
   | lex p | parse p =>
     obtain rfl : e = _ := hres; go_wp2_with fail; have hal : Below w2.heap.size w2 (w2.alloc (.cells #[.slice none 0 0, .slice none 0 0] 27)) := (Below.refl _ _).alloc (Nat.le_refl _) _; have HB3 := bT HB2 hal; have hz := jE4 (w2.alloc (.cells #[.slice none 0 0, .slice none 0 0] 27)) ((Lib.tabBelow_of_tabIs HTAB.out) _ HB3.out) (.agg #[.slice none 0 0, .slice none 0 0]) ⟨[], []⟩ ⟨_, _, rfl, jB4 _ _ _, jB4 _ _ _⟩ (fun d hd => by cases hd) ⟨(fun d hd => by cases hd), (fun d hd => by cases hd)⟩ (by decide); rw [show Px.jB1 50 ⟨[], []⟩ = [] from rfl] at hz; refine hz.mono ?_; rintro e w4 ⟨rfl, hb4⟩; have HB4 := bT HB3 hb4; clear hb4 hal hz; go_wp2_with fail; go_ret; exact ⟨rfl, HB4.out⟩
   | done q =>
     obtain ⟨v, rfl, hnew⟩ := hres; have hprog := hnew.now
     have hnow : jER 50 (w2.alloc (.cells v.cells 27)) v q := hnew _ (fun b _ hb => by
      show (w2.heap.push _)[b]? = _
      rw [Array.getElem?_push, if_neg (by omega)])
     clear hnew; have hwt := Px.jIL l q hout; have hwh := Px.jGA l q hout; have hag := Px.jJL l q hout; have hnm := Px.jIN l q hout; have HOUT := hid hout; have HPR := hid hprog; have HWT := hid hwt; have HWH := hid hwh; have HAG := hid hag; have HNM := hid hnm
     obtain ⟨q1, c1, q2, c2, rfl⟩ := jHI hprog; have HNEW := hid hnow; clear hout hprog hwt hwh hag hnm hnow; generalize q.datas.length = nd at *; generalize q.defs.length = nf at *; go_wp2_with fail; have hal : Below w2.heap.size w2 (w2.alloc (.cells #[.slice q1 nd c1, .slice q2 nf c2] 27)) := (Below.refl _ _).alloc (Nat.le_refl _) _; have HB3 := bT HB2 hal; refine (jE4 _ ((Lib.tabBelow_of_tabIs HTAB.out) _ HB3.out) _ q HNEW.out (fun d hd => (HWH.out d hd).good) HNM.out (by have := HWT.out; omega)).mono ?_; rintro e wA ⟨rfl, hb4⟩; have HP4 := hid (progK HNEW.out hb4); have EN := hid (jA0 (jA3 w2 #[.slice q1 nd c1, .slice q2 nf c2] 27) hb4); have HBA := bT HB3 hb4; clear hb4 hal; obtain ⟨T, hT⟩ : ∃ T, T = Px.jB1 50 q := ⟨_, rfl⟩
     have hag := HAG.out; rw [<- hT] at hag ⊢; have HTT := hid hT; have HAG2 := hid hag
     clear hT hag HAG; generalize w2.heap.size = pb at *; have y0 := jA EN.out 0 _ rfl; have y1 := jA EN.out 1 _ rfl; go_wp2_with fail; refine (jKX 50 _ q wA HP4.out (fun d hd => (HWH.out d hd).good) (by have := HWT.out; omega) ((Lib.tabBelow_of_tabIs HTAB.out) _ HBA.out)).mono ?_; rw [<- HTT.out]; rintro e w4 ⟨rfl, hb5⟩; have HB4 := bT HBA hb5; clear hb5 y0 y1 EN HP4; by_cases hbig : 4096 < T.length
     . have hbi : (4096 : Int) < (T.length : Int) := by omega
       go_wp2_with fail; go_ret; exact ⟨rfl, HB4.out⟩
     . have hbi : ¬ (4096 : Int) < (T.length : Int) := by omega
       obtain ⟨q', hq1, hq2⟩ := HAG2.out (by omega); have hcv := jQS w4 T; have hpt := jHT w4 T (by omega); rw [hq1] at hpt; have HPT := hid hpt; have HQ1 := hid hq1; have HQ2 := hid hq2
       clear hpt hq1 hq2; go_wp2_with fail; refine HPT.out.mono ?_; rintro e w5 ⟨hb5, v2, rfl, hnew2⟩; have HB5 := hid (HB4.out.trans ((Lib.bytesWorld_below w4 5 ⟨T.toArray⟩).trans (hb5.mono (by rw [Lib.bytesWorld_size]; omega)) |>.mono HB4.out.size))
       have hnow2 : jER 50 (w5.alloc (.cells v2.cells 27)) v2 q' := hnew2 _ (fun b _ hb => by
        show (w5.heap.push _)[b]? = _
        rw [Array.getElem?_push, if_neg (by omega)])
       obtain ⟨q3, c3, q4, c4, rfl⟩ := jHI hnew2.now; have HNEW2 := hid hnow2; clear hb5 hnew2 hnow2 HPT; generalize q'.datas.length = nd2 at *; generalize q'.defs.length = nf2 at *; have hwh2 := Px.jGA T q' HQ1.out; have hnm2 := Px.jIN T q' HQ1.out; have hwt2 : (Px.jB1 50 q').length <= 800000 := by rw [HQ2.out]; omega
       have HWH2 := hid hwh2; have HWT2 := hid hwt2; have HNM2 := hid hnm2
       clear hwh2 hwt2 hnm2 hcv; go_wp2_with fail; have hal : Below w5.heap.size w5 (w5.alloc (.cells #[.slice q3 nd2 c3, .slice q4 nf2 c4] 27)) := (Below.refl _ _).alloc (Nat.le_refl _) _; have HB6 := bT HB5 hal; refine (jE4 _ ((Lib.tabBelow_of_tabIs HTAB.out) _ HB6.out) _ q' HNEW2.out (fun d hd => (HWH2.out d hd).good) HNM2.out HWT2.out).mono ?_; rw [HQ2.out]; rintro e w7 ⟨rfl, hb7⟩; have HB7 := bT HB6 hb7; clear hb7 hal; go_wp2_with fail; go_ret; exact ⟨by simp, HB7.out⟩
end Sw
open Sw
theorem jH2 (w : World) (a0 : Option Addr) (len0 cap0 : Nat) (z0 : List Int) (w0 : IsRow .u8 w a0 len0 cap0 z0) (hL : laidMetH Tryz.prog jJ2 w) :
 Calls Tryz.prog 3 #[.slice a0 len0 cap0] w fun e w' => e = .returned (.bool true) /\ Below w.heap.size w w' := by
 obtain ⟨_, t0, l0, _⟩ := row_src w0; exact jGP a0 len0 cap0 _ w t0 l0 (jQ1 hL)
end Go.Proofs.YtnhndamfbeiljaaGreatDoor
