/-
 A node's text as it is written is read back: a node that is alike.
-/
import Derived.Test.YtpkecbijhckllaaDoorKPBackE
namespace Go.Proofs.YtpkecbijhckllaaDoor
set_option linter.unusedVariables false
set_option linter.unusedSimpArgs false
namespace Px
open Lx (tk mkTok)
/-- There is room for a node's lists, in so many lists. -/
inductive Room : Nat → Node → Prop
 | leaf (d : Nat) (t : Lx.Tok) (l : List Node) (k : Nat) : t.kind ≠ 0 → Room d (.mk t l k)
 | list (d : Nat) (t : Lx.Tok) (l : List Node) (k : Nat) : d ≠ 40 → (∀ m ∈ l, Room (d + 1) m) → Room d (.mk t l k)
theorem node_room (stop : Nat) : ∀ (f d : Nat) (ts : List Lx.Tok),
 (∀ n ts', node stop f d ts = .ok (n, ts') → Room d n) ∧ (∀ l ts', rest stop f d ts = .ok (l, ts') → ∀ m ∈ l, Room d m) := by
 intro f
 induction f with
 | zero => intro d ts; exact ⟨fun n ts' h => (by cases h), fun l ts' h => (by cases h)⟩
 | succ f ih =>
  intro d ts
  cases ts with
  | nil => exact ⟨fun n ts' h => (by cases h), fun l ts' h => (by cases h)⟩
  | cons t ts =>
   constructor
   · intro n ts' h
     rw [node] at h
     by_cases k1 : t.kind = 1
     · rw [if_pos k1] at h; cases h
     · rw [if_neg k1] at h
       by_cases k0 : t.kind = 0
       · rw [if_pos k0] at h
         by_cases hd : d = 40
         · rw [if_pos hd] at h; cases h
         · rw [if_neg hd] at h
           cases hr : rest stop f (d + 1) ts with
           | error p => rw [hr] at h; cases h
           | ok x =>
            obtain ⟨l, ts1⟩ := x
            rw [hr] at h
            simp only [Except.ok.injEq, Prod.mk.injEq] at h
            obtain ⟨rfl, rfl⟩ := h
            exact .list _ _ _ _ hd ((ih (d + 1) ts).2 _ _ hr)
       · rw [if_neg k0] at h
         simp only [Except.ok.injEq, Prod.mk.injEq] at h
         obtain ⟨rfl, rfl⟩ := h
         exact .leaf _ _ _ _ k0
   · intro l ts' h
     rw [rest] at h
     by_cases k1 : t.kind = 1
     · rw [if_pos k1] at h
       simp only [Except.ok.injEq, Prod.mk.injEq] at h
       obtain ⟨rfl, rfl⟩ := h
       exact fun m hm => (by cases hm)
     · rw [if_neg k1] at h
       cases hn : node stop f d (t :: ts) with
       | error p => rw [hn] at h; cases h
       | ok x =>
        obtain ⟨n, ts1⟩ := x
        rw [hn] at h
        simp only at h
        have h1 := (ih d (t :: ts)).1 _ _ hn
        cases hr : rest stop f d ts1 with
        | error p => rw [hr] at h; cases h
        | ok y =>
         obtain ⟨l', ts2⟩ := y
         rw [hr] at h
         simp only [Except.ok.injEq, Prod.mk.injEq] at h
         obtain ⟨rfl, rfl⟩ := h
         exact fun m hm => (List.mem_cons.1 hm).elim (fun e => e ▸ h1) ((ih d ts1).2 _ _ hr m)
theorem plain_itoa (n : Int) : Plain (Lib.itoa n) := by
 rw [Lx.itoa_split]
 have hd := Lx.dec_digits n.natAbs _ (Lx.at0_mem (Lib.decDigits n.natAbs) 0 (List.length_pos_iff.2 (Lx.dec_ne n.natAbs)))
 split
 · exact plain_of_digit (.inr ⟨rfl, hd⟩)
 · exact plain_of_digit (.inl hd)
/-- A text that is read back as a node. -/
def Back (d : Nat) (n : Node) (s : List UInt8) : Prop :=
 ∀ (p : Nat) (r : List UInt8), Lx.Ends r → ∃ ts m, tk p (s ++ r) = (ts ++ (tk (p + s.length) r).1, (tk (p + s.length) r).2) ∧ Sim (fun _ _ => True) n m ∧ 1 ≤ ts.length ∧
  ∀ stop f more, 2 * ts.length ≤ f → node stop f d (ts ++ more) = .ok (m, more)
theorem glue_cons2 (x y : List UInt8) (r : List (List UInt8)) : glue (x :: y :: r) = x ++ 32 :: glue (y :: r) := by
 simp [glue]
theorem rest_back (d : Nat) : ∀ (l : List Node) (ss : List (List UInt8)), All2 (Back d) l ss → ∀ (p : Nat) (r : List UInt8),
 ∃ ts ms, tk p (glue ss ++ 41 :: r) = (ts ++ (tk (p + (glue ss).length + 1) r).1, (tk (p + (glue ss).length + 1) r).2) ∧ All2 (Sim (fun _ _ => True)) l ms ∧ 1 ≤ ts.length ∧
  ∀ stop f more, 2 * ts.length ≤ f → rest stop f d (ts ++ more) = .ok (ms, more) := by
 intro l ss h
 induction h with
 | nil =>
  intro p r
  refine ⟨[mkTok p 1 [41]], [], ?_, .nil, by simp, fun stop f more hf => ?_⟩
  · show tk p (41 :: r) = _
    rw [Lx.tk_close]; rfl
  · obtain ⟨f, rfl⟩ : ∃ g, f = g + 1 := ⟨f - 1, by simp at hf; omega⟩
    exact rest_end' _ _ _ _ _ _
 | @cons n s l ss h1 h2 ih =>
  intro p r
  cases ss with
  | nil =>
   cases h2
   obtain ⟨ts, m, e1, e2, e3, e4⟩ := h1 p (41 :: r) (Lx.ends_41 r)
   refine ⟨ts ++ [mkTok (p + s.length) 1 [41]], [m], ?_, .cons e2 .nil, by simp, fun stop f more hf => ?_⟩
   · have : glue [s] = s := by simp [glue]
     rw [this, e1, Lx.tk_close]; simp
   · rw [List.length_append] at hf
     obtain ⟨f, rfl⟩ : ∃ g, f = g + 2 := ⟨f - 2, by simp at hf; omega⟩
     rw [List.append_assoc]
     exact rest_node (e4 stop (f + 1) _ (by simp at hf; omega)) (rest_end' _ _ _ _ _ _)
  | cons s2 ss =>
   obtain ⟨ts, m, e1, e2, e3, e4⟩ := h1 p (32 :: (glue (s2 :: ss) ++ 41 :: r)) (Lx.ends_32 _)
   obtain ⟨us, ms, f1, f2, f3, f4⟩ := ih (p + s.length + 1) r
   refine ⟨ts ++ us, m :: ms, ?_, .cons e2 f2, by rw [List.length_append]; omega, fun stop f more hf => ?_⟩
   · have hg : glue (s :: s2 :: ss) ++ 41 :: r = s ++ 32 :: (glue (s2 :: ss) ++ 41 :: r) := by rw [glue_cons2]; simp
     have hl : p + (glue (s :: s2 :: ss)).length + 1 = p + s.length + 1 + (glue (s2 :: ss)).length + 1 := by rw [glue_cons2]; simp; omega
     rw [hg, hl, e1, Lx.tk_32, f1, List.append_assoc]
   · rw [List.length_append] at hf
     obtain ⟨f, rfl⟩ : ∃ g, f = g + 1 := ⟨f - 1, by omega⟩
     rw [List.append_assoc]
     exact rest_node (e4 stop f _ (by omega)) (f4 stop f more (by omega))
theorem canon_back : ∀ (k : Nat) (n : Node) (d : Nat) (s : List UInt8), Fits k n → NodeGood n → Room d n → Canon n s → Back d n s := by
 have leaf2 : ∀ (t : Lx.Tok) (d k : Nat), t.kind = 2 → NodeGood (.mk t [] k) → Back d (.mk t [] k) (Lib.itoa t.int) := by
  intro t d k hk hg p r hr
  have hgt : TOk t ∧ k = takesOf t.text := by
   cases hg with
   | leaf t h1 h2 h3 => exact ⟨h1, rfl⟩
   | list t l h1 h2 h3 => omega
  obtain ⟨hb, hp⟩ := hgt.1.num hk
  refine ⟨[mkTok p 2 (Lib.itoa t.int)], .mk (mkTok p 2 (Lib.itoa t.int)) [] (takesOf (Lib.itoa t.int)), ?_, ?_, by simp, fun stop f more hf => ?_⟩
  · rw [Lx.tk_word p (Lx.isTok_itoa t.int hb.1 hb.2) hr]; rfl
  · have e : takesOf (Lib.itoa t.int) = k := by rw [(plain_itoa t.int).1, hgt.2, hp.1]
    rw [e]
    refine .mk _ _ _ _ _ ⟨?_, trivial, ?_, fun _ => ⟨hp, ?_⟩, fun h => absurd hk h⟩ (fun _ => ?_) .nil
    · rw [Lx.mkTok_itoa]; exact hk.symm
    · rw [Lx.mkTok_itoa]
    · rw [Lx.mkTok_itoa]; exact plain_itoa t.int
    · rw [hgt.2, hp.1]
  · obtain ⟨f, rfl⟩ : ∃ g, f = g + 1 := ⟨f - 1, by simp at hf; omega⟩
    exact node_leaf' _ _ _ _ _ _ _ (by decide) (by decide)
 have leafW : ∀ (t : Lx.Tok) (d k : Nat), t.kind ≠ 0 → t.kind ≠ 2 → NodeGood (.mk t [] k) → Back d (.mk t [] k) t.text := by
  intro t d k h0 hk hg p r hr
  have hgt : TOk t ∧ k = takesOf t.text ∧ t.kind ≠ 1 := by
   cases hg with
   | leaf t h1 h2 h3 => exact ⟨h1, rfl, h3⟩
   | list t l h1 h2 h3 => omega
  refine ⟨[mkTok p t.kind t.text], .mk (mkTok p t.kind t.text) [] (takesOf t.text), ?_, ?_, by simp, fun stop f more hf => ?_⟩
  · rw [Lx.tk_word p (hgt.1.word h0 hgt.2.2 hk) hr]; rfl
  · rw [hgt.2.1]
    refine .mk _ _ _ _ _ ⟨rfl, trivial, ?_, fun e => absurd e hk, fun h => rfl⟩ (fun e => absurd e hk) .nil
    show (if t.kind = 2 then _ else 0) = t.int
    rw [if_neg hk, hgt.1.zero hk]
  · obtain ⟨f, rfl⟩ : ∃ g, f = g + 1 := ⟨f - 1, by simp at hf; omega⟩
    exact node_leaf' _ _ _ _ _ _ _ hgt.2.2 h0
 have listL : ∀ (t : Lx.Tok) (l : List Node) (ss : List (List UInt8)) (d k : Nat), t.kind = 0 → NodeGood (.mk t l k) → Room d (.mk t l k) → All2 (Back (d + 1)) l ss → Back d (.mk t l k) (joined ss) := by
  intro t l ss d k h0 hg hroom hb p r hr
  have hgt : TOk t ∧ k = 0 := by
   cases hg with
   | leaf t h1 h2 h3 => omega
   | list t l h1 h2 h3 => exact ⟨h1, rfl⟩
  have hd : d ≠ 40 := by
   cases hroom with
   | leaf d t l k h => omega
   | list d t l k h _ => exact h
  obtain ⟨us, ms, f1, f2, f3, f4⟩ := rest_back (d + 1) l ss hb (p + 1) r
  refine ⟨mkTok p 0 [40] :: us, .mk (mkTok p 0 [40]) ms 0, ?_, ?_, by simp, fun stop f more hf => ?_⟩
  · have hj : joined ss ++ r = 40 :: (glue ss ++ 41 :: r) := by simp [joined]
    have hl : p + (joined ss).length = p + 1 + (glue ss).length + 1 := by simp [joined]; omega
    rw [hj, hl, Lx.tk_open, f1]; rfl
  · rw [hgt.2]
    refine .mk _ _ _ _ _ ⟨h0.symm, trivial, ?_, fun e => by omega, fun _ => (hgt.1.opn h0).symm⟩ (fun _ => rfl) f2
    exact (hgt.1.zero (by omega)).symm
  · rw [List.length_cons] at hf
    obtain ⟨f, rfl⟩ : ∃ g, f = g + 1 := ⟨f - 1, by omega⟩
    exact node_list' _ _ _ _ _ _ _ _ hd (f4 stop f more (by omega))
 have kids : ∀ (d : Nat) (l : List Node) (ss : List (List UInt8)), All2 Canon l ss → (∀ m ∈ l, ∀ s, Canon m s → Back d m s) → All2 (Back d) l ss := by
  intro d l ss h
  induction h with
  | nil => intro _; exact .nil
  | cons h1 h2 ih => intro hk; exact .cons (hk _ (by simp) _ h1) (ih (fun m hm => hk m (by simp [hm])))
 intro k
 induction k with
 | zero =>
  intro n d s hf hg hroom hc
  cases hc with
  | int t k h => exact leaf2 t d k h hg
  | leaf t k h0 h2 => exact leafW t d k h0 h2 hg
  | list t l ss k h0 hs =>
   exact listL t l ss d k h0 hg hroom (kids _ _ _ hs (fun m hm => by rw [show l = [] from hf] at hm; cases hm))
 | succ k ih =>
  intro n d s hf hg hroom hc
  cases hc with
  | int t k h => exact leaf2 t d _ h hg
  | leaf t k h0 h2 => exact leafW t d _ h0 h2 hg
  | list t l ss k' h0 hs =>
   refine listL t l ss d _ h0 hg hroom (kids _ _ _ hs (fun m hm s hc => ih m (d + 1) s (hf m hm) (hg.kid hm) ?_ hc))
   cases hroom with
   | leaf d t l k h => omega
   | list d t l k _ h => exact h m hm
end Px
end Go.Proofs.YtpkecbijhckllaaDoor
