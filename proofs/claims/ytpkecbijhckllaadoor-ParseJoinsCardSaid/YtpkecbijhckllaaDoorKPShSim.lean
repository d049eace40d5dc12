/-
 What is alike is shown alike; what is shown of a text's parts is bounded.
-/
import Derived.Test.YtpkecbijhckllaaDoorKPWhole
namespace Go.Proofs.YtpkecbijhckllaaDoor
set_option linter.unusedVariables false
set_option linter.unusedSimpArgs false
namespace Px
theorem All2.mapEq {α β γ : Type} {S : α → β → Prop} {f : α → γ} {g : β → γ} (h : ∀ a b, S a b → g b = f a) : ∀ {l : List α} {m : List β}, All2 S l m → m.map g = l.map f
 | _, _, .nil => rfl
 | _, _, .cons h1 h2 => by rw [List.map_cons, List.map_cons, h _ _ h1, All2.mapEq h h2]
theorem All2.nilIff {α β : Type} {S : α → β → Prop} {l : List α} {m : List β} (h : All2 S l m) : (m = []) = (l = []) := by
 cases h with
 | nil => simp
 | cons _ _ => simp
variable {ρ : Nat → Nat → Prop}
theorem showT_sim : ∀ (f : Nat) (a b : TypeE), SimT ρ a b → showT f b = showT f a := by
 intro f
 induction f with
 | zero => intro a b _; rfl
 | succ f ih =>
  intro a b h
  cases h with
  | mk p q nm l m h1 h2 =>
   rw [showT, showT, h2.mapEq ih]
   simp only [h2.nilIff]
theorem showP_sim : ∀ (f : Nat) (a b : Pat), SimP ρ a b → showP f b = showP f a := by
 intro f
 induction f with
 | zero => intro a b _; rfl
 | succ f ih =>
  intro a b h
  cases h with
  | mk k p q nm i l m h1 h2 =>
   rw [showP, showP, h2.mapEq ih]
   simp only [h2.nilIff]
theorem alts_eq {f : Nat} (ih : ∀ a b, SimE ρ a b → showE f b = showE f a) : ∀ (al bl : List (Pat × Expr)), All2 (SimP ρ) (al.map (·.1)) (bl.map (·.1)) → All2 (SimE ρ) (al.map (·.2)) (bl.map (·.2)) →
 (bl.map fun a => joined [showP f a.1, showE f a.2]) = al.map fun a => joined [showP f a.1, showE f a.2] := by
 intro al
 induction al with
 | nil =>
  intro bl h1 _
  cases bl with
  | nil => rfl
  | cons b bl => cases h1
 | cons a al ihl =>
  intro bl h1 h2
  cases bl with
  | nil => cases h1
  | cons b bl =>
   rw [List.map_cons, List.map_cons] at h1 h2
   cases h1 with
   | cons x1 y1 =>
    cases h2 with
    | cons x2 y2 =>
     rw [List.map_cons, List.map_cons, ihl bl y1 y2, showP_sim f _ _ x1, ih _ _ x2]
theorem showE_sim : ∀ (f : Nat) (a b : Expr), SimE ρ a b → showE f b = showE f a := by
 intro f
 induction f with
 | zero => intro a b _; rfl
 | succ f ih =>
  intro a b h
  cases h with
  | mk k p q nm i ns xs ys al bl h1 h2 h3 h4 =>
   rw [showE, showE, h2.mapEq ih, alts_eq ih al bl h3 h4]
theorem showCon_sim (f : Nat) (a b : Con) (h : SimCon ρ a b) : showCon f b = showCon f a := by
 unfold showCon; rw [h.name, h.fields.mapEq (showT_sim f)]
theorem showData_sim (f : Nat) (a b : Data) (h : SimData ρ a b) : showData f b = showData f a := by
 unfold showData; rw [h.name, h.params, h.cons.mapEq (showCon_sim f)]
theorem showDef_sim (f : Nat) (a b : Def) (h : SimDef ρ a b) : showDef f b = showDef f a := by
 unfold showDef; rw [h.name, h.params, showE_sim f _ _ h.body]
theorem showProg_sim (f : Nat) (a b : Prog) (h : SimProg ρ a b) : showProg f b = showProg f a := by
 unfold showProg
 rw [h.datas.mapEq (fun x y hxy => by rw [showData_sim f x y hxy]), h.defs.mapEq (fun x y hxy => by rw [showDef_sim f x y hxy])]
theorem showProg_add (f : Nat) (a b c : Prog) (h : showProg f b = showProg f c) (hd : b.datas.map (fun d => showData f d ++ [10]) = c.datas.map (fun d => showData f d ++ [10])) (hf : b.defs.map (fun d => showDef f d ++ [10]) = c.defs.map (fun d => showDef f d ++ [10])) :
 showProg f (a.add b) = showProg f (a.add c) := by
 unfold showProg Prog.add
 simp only [List.map_append, hd, hf]
/-! ### Weights -/
def tw (ts : List Lx.Tok) : Nat := (ts.map fun t => t.text.length + 24).sum
theorem tw_cons (t : Lx.Tok) (ts : List Lx.Tok) : tw (t :: ts) = t.text.length + 24 + tw ts := by simp [tw]
/-- A node weighs at most so much. -/
inductive NW : Node → Nat → Prop
 | mk (t : Lx.Tok) (l : List Node) (k : Nat) (ws : List Nat) : All2 NW l ws → NW (.mk t l k) (t.text.length + 24 + ws.sum)
theorem node_weight (stop : Nat) : ∀ (f d : Nat) (ts : List Lx.Tok),
 (∀ n ts', node stop f d ts = .ok (n, ts') → ∃ W, NW n W ∧ W + tw ts' ≤ tw ts) ∧ (∀ l ts', rest stop f d ts = .ok (l, ts') → ∃ ws, All2 NW l ws ∧ ws.sum + tw ts' ≤ tw ts) := by
 intro f
 induction f with
 | zero => intro d ts; exact ⟨fun n ts' h => (by cases h), fun l ts' h => (by cases h)⟩
 | succ f ih =>
  intro d ts
  cases ts with
  | nil => exact ⟨fun n ts' h => (by cases h), fun l ts' h => (by cases h)⟩
  | cons t ts =>
   constructor
   · intro n ts' h
     rw [node] at h
     by_cases k1 : t.kind = 1
     · rw [if_pos k1] at h; cases h
     · rw [if_neg k1] at h
       by_cases k0 : t.kind = 0
       · rw [if_pos k0] at h
         by_cases hd : d = 40
         · rw [if_pos hd] at h; cases h
         · rw [if_neg hd] at h
           cases hr : rest stop f (d + 1) ts with
           | error p => rw [hr] at h; cases h
           | ok x =>
            obtain ⟨l, ts1⟩ := x
            rw [hr] at h
            simp only [Except.ok.injEq, Prod.mk.injEq] at h
            obtain ⟨rfl, rfl⟩ := h
            obtain ⟨ws, h1, h2⟩ := (ih (d + 1) ts).2 _ _ hr
            exact ⟨_, .mk _ _ _ ws h1, by rw [tw_cons]; omega⟩
       · rw [if_neg k0] at h
         simp only [Except.ok.injEq, Prod.mk.injEq] at h
         obtain ⟨rfl, rfl⟩ := h
         exact ⟨_, .mk _ _ _ [] .nil, by rw [tw_cons]; simp⟩
   · intro l ts' h
     rw [rest] at h
     by_cases k1 : t.kind = 1
     · rw [if_pos k1] at h
       simp only [Except.ok.injEq, Prod.mk.injEq] at h
       obtain ⟨rfl, rfl⟩ := h
       exact ⟨[], .nil, by rw [tw_cons]; simp⟩
     · rw [if_neg k1] at h
       cases hn : node stop f d (t :: ts) with
       | error p => rw [hn] at h; cases h
       | ok x =>
        obtain ⟨n, ts1⟩ := x
        rw [hn] at h
        simp only at h
        obtain ⟨W, h1, h2⟩ := (ih d (t :: ts)).1 _ _ hn
        cases hr : rest stop f d ts1 with
        | error p => rw [hr] at h; cases h
        | ok y =>
         obtain ⟨l', ts2⟩ := y
         rw [hr] at h
         simp only [Except.ok.injEq, Prod.mk.injEq] at h
         obtain ⟨rfl, rfl⟩ := h
         obtain ⟨ws, h3, h4⟩ := (ih d ts1).2 _ _ hr
         exact ⟨W :: ws, .cons h1 h3, by rw [List.sum_cons]; omega⟩
theorem toks_weight : ∀ (f p : Nat) (l : List UInt8), tw (Lx.toks f p l).1 ≤ 25 * l.length := by
 intro f
 induction f with
 | zero => intro p l; simp [Lx.toks, tw]
 | succ f ih =>
  intro p l
  rw [Lx.toks_step]
  by_cases h1 : l.length ≤ Lx.skipC false l
  · rw [if_pos h1]; simp [tw]
  · rw [if_neg h1]
    by_cases h2 : (Lx.tokAt (l.drop (Lx.skipC false l))).2 = 0
    · rw [if_pos h2]; simp [tw]
    · rw [if_neg h2]
      simp only
      rw [tw_cons]
      have hi := ih (p + Lx.skipC false l + (Lx.tokAt (l.drop (Lx.skipC false l))).2) ((l.drop (Lx.skipC false l)).drop (Lx.tokAt (l.drop (Lx.skipC false l))).2)
      have hle := Lx.tokAt_le (l.drop (Lx.skipC false l))
      rw [List.length_drop, List.length_drop] at hi
      rw [List.length_drop] at hle
      have ht : (Lx.mkTok (p + Lx.skipC false l) (Lx.tokAt (l.drop (Lx.skipC false l))).1 ((l.drop (Lx.skipC false l)).take (Lx.tokAt (l.drop (Lx.skipC false l))).2)).text.length ≤ (Lx.tokAt (l.drop (Lx.skipC false l))).2 := by
       simp only [Lx.mkTok, List.length_take]; omega
      omega
theorem glue_sum : ∀ (l : List (List UInt8)), (glue l).length ≤ (l.map fun x => x.length + 1).sum
 | [] => by simp [glue]
 | a :: r => by
  have : ∀ r : List (List UInt8), (r.flatMap fun y => 32 :: y).length = (r.map fun x => x.length + 1).sum := by
   intro r
   induction r with
   | nil => rfl
   | cons b r ih => simp only [List.flatMap_cons, List.length_append, List.length_cons, List.map_cons, List.sum_cons, ih]
  simp only [glue, List.length_append, this r, List.map_cons, List.sum_cons]; omega
theorem joined_sum (l : List (List UInt8)) : (joined l).length ≤ (l.map fun x => x.length + 1).sum + 2 := by
 rw [joined_len]; have := glue_sum l; omega
theorem NW.split {n : Node} {W : Nat} (h : NW n W) : ∃ ws, All2 NW n.list ws ∧ W = n.text.length + 24 + ws.sum := by
 cases h with
 | mk t l k ws h1 => exact ⟨ws, h1, rfl⟩
theorem itoa_le (n : Int) (h : IntOk n) : (Lib.itoa n).length ≤ 20 := by
 have h2 : ∀ k u, u < 10 ^ (k + 1) → (Lib.decDigits u).length ≤ k + 1 := Lx.dec_len_lt
 have h3 := h2 18 n.natAbs (by have := h.1; have := h.2; omega)
 rw [Lx.itoa_split]; split
 · rw [List.length_cons]; omega
 · omega
/-- Of each node's part the text is lighter than the node. -/
theorem each_weight {α : Type} {g : Node → R α} {len : α → List UInt8} : ∀ {l : List Node} {xs : List α} {ws : List Nat}, (∀ n ∈ l, ∀ x W, g n = .ok x → NW n W → (len x).length + 1 ≤ W) → each g l = .ok xs → All2 NW l ws → ((xs.map len).map fun x => x.length + 1).sum ≤ ws.sum := by
 intro l
 induction l with
 | nil =>
  intro xs ws _ h hw
  simp only [each, Except.ok.injEq] at h
  subst h; simp
 | cons n r ih =>
  intro xs ws hg h hw
  cases hw with
  | @cons _ W _ ws h1 h2 =>
   simp only [each] at h
   cases hf : g n with
   | error p => rw [hf] at h; cases h
   | ok x =>
    rw [hf] at h
    cases hr : each g r with
    | error p => rw [hr] at h; cases h
    | ok ys =>
     rw [hr] at h
     simp only [Except.ok.injEq] at h
     subst h
     have e1 := hg n (by simp) x W hf h1
     have e2 := ih (fun m hm => hg m (by simp [hm])) hr h2
     simp only [List.map_cons, List.sum_cons]; omega
end Px
end Go.Proofs.YtpkecbijhckllaaDoor
