/-
 What is parsed has as many parts as its kind has, and numbers of 64 bits.
-/
import Derived.Test.YtpkecbijhckllaaDoorGThy
import Derived.Test.YtpkecbijhckllaaDoorGShw
namespace Go.Proofs.YtpkecbijhckllaaDoor
set_option linter.unusedVariables false
set_option linter.unusedSimpArgs false
namespace Px
/-- As many parts as its kind has (what parse answers; no fail). -/
def WholeE : Nat → Expr → Prop
 | 0, _ => False
 | f + 1, .mk k _ _ i ns xs al => k ≤ 7 ∧ (k = 0 → IntOk i) ∧ (k = 0 ∨ k = 1 → xs = [] ∧ ns = [] ∧ al = []) ∧ (k = 3 → xs.length = 1 ∧ ns ≠ []) ∧ (k = 5 → xs.length = 1 ∧ al ≠ []) ∧
  (k = 4 → xs.length = ns.length + 1 ∧ ns ≠ []) ∧ (k = 6 → 1 < xs.length) ∧ (k = 7 → xs ≠ []) ∧ (∀ x ∈ xs, WholeE f x) ∧ (∀ a ∈ al, OkP f a.1 ∧ WholeE f a.2)
theorem WholeE.good : ∀ {f : Nat} {x : Expr}, WholeE f x → GoodE f x := by
 intro f
 induction f with
 | zero => intro x h; exact h
 | succ f ih =>
  intro x h
  obtain ⟨k, p, nm, i, ns, xs, al⟩ := x
  obtain ⟨h7, hi, h01, h3, h5, h4, h6, h7', hx, ha⟩ := h
  refine ⟨by omega, hi, fun h => ?_, fun h => ?_, h4, fun h => ?_, fun x hm => ih (hx x hm), fun a hm => ⟨(ha a hm).1, ih (ha a hm).2⟩⟩
  · rcases h with h | h | h
    · exact (h01 (.inl h)).1
    · exact (h01 (.inr h)).1
    · omega
  · rcases h with h | h
    · exact (h3 h).1
    · exact (h5 h).1
  · rcases h with h | h
    · have := h6 h; intro e; rw [e] at this; simp at this
    · exact h7' h
/-- All tokens of a node. -/
inductive NodeAll (P : Lx.Tok → Prop) : Node → Prop
 | mk (t : Lx.Tok) (l : List Node) (k : Nat) : P t → (∀ m ∈ l, NodeAll P m) → NodeAll P (.mk t l k)
theorem NodeAll.tok {P : Lx.Tok → Prop} {n : Node} (h : NodeAll P n) : P n.tok := by cases h with | mk t l k h1 h2 => exact h1
theorem NodeAll.kid {P : Lx.Tok → Prop} {n m : Node} (h : NodeAll P n) (hm : m ∈ n.list) : NodeAll P m := by cases h with | mk t l k h1 h2 => exact h2 m hm
theorem node_all (P : Lx.Tok → Prop) (stop : Nat) : ∀ (f d : Nat) (ts : List Lx.Tok), (∀ t ∈ ts, P t) →
 (∀ n ts', node stop f d ts = .ok (n, ts') → NodeAll P n ∧ ∀ t ∈ ts', P t) ∧ (∀ l ts', rest stop f d ts = .ok (l, ts') → (∀ m ∈ l, NodeAll P m) ∧ ∀ t ∈ ts', P t) := by
 intro f
 induction f with
 | zero => intro d ts _; exact ⟨fun n ts' h => (by cases h), fun l ts' h => (by cases h)⟩
 | succ f ih =>
  intro d ts hp
  cases ts with
  | nil => exact ⟨fun n ts' h => (by cases h), fun l ts' h => (by cases h)⟩
  | cons t ts =>
   have hpt := hp t (by simp)
   have hps : ∀ u ∈ ts, P u := fun u hu => hp u (by simp [hu])
   constructor
   · intro n ts' h
     rw [node] at h
     by_cases k1 : t.kind = 1
     · rw [if_pos k1] at h; cases h
     · rw [if_neg k1] at h
       by_cases k0 : t.kind = 0
       · rw [if_pos k0] at h
         by_cases hd : d = 40
         · rw [if_pos hd] at h; cases h
         · rw [if_neg hd] at h
           cases hr : rest stop f (d + 1) ts with
           | error p => rw [hr] at h; cases h
           | ok x =>
            obtain ⟨l, ts1⟩ := x
            rw [hr] at h
            simp only [Except.ok.injEq, Prod.mk.injEq] at h
            obtain ⟨rfl, rfl⟩ := h
            obtain ⟨h1, h2⟩ := (ih (d + 1) ts hps).2 _ _ hr
            exact ⟨.mk _ _ _ hpt h1, h2⟩
       · rw [if_neg k0] at h
         simp only [Except.ok.injEq, Prod.mk.injEq] at h
         obtain ⟨rfl, rfl⟩ := h
         exact ⟨.mk _ _ _ hpt (fun m hm => by cases hm), hps⟩
   · intro l ts' h
     rw [rest] at h
     by_cases k1 : t.kind = 1
     · rw [if_pos k1] at h
       simp only [Except.ok.injEq, Prod.mk.injEq] at h
       obtain ⟨rfl, rfl⟩ := h
       exact ⟨fun m hm => (by cases hm), hps⟩
     · rw [if_neg k1] at h
       cases hn : node stop f d (t :: ts) with
       | error p => rw [hn] at h; cases h
       | ok x =>
        obtain ⟨n, ts1⟩ := x
        rw [hn] at h
        simp only at h
        obtain ⟨h1, h2⟩ := (ih d (t :: ts) hp).1 _ _ hn
        cases hr : rest stop f d ts1 with
        | error p => rw [hr] at h; cases h
        | ok y =>
         obtain ⟨l', ts2⟩ := y
         rw [hr] at h
         simp only [Except.ok.injEq, Prod.mk.injEq] at h
         obtain ⟨rfl, rfl⟩ := h
         obtain ⟨h3, h4⟩ := (ih d ts1 h2).2 _ _ hr
         exact ⟨fun m hm => (List.mem_cons.1 hm).elim (fun e => e ▸ h1) (h3 m), h4⟩
/-- A number's token holds a number of 64 bits. -/
def TInt (t : Lx.Tok) : Prop := t.kind = 2 → IntOk t.int
theorem natV_small (D : List UInt8) (hd : ∀ c ∈ D, Lx.digitB c = true) (hl : D.length ≤ 18) : Lx.natV D 0 < 1000000000000000000 := by
 have h := Lx.natV_bound D 0 1 hd (by omega)
 have h2 : (10 : Nat) ^ D.length ≤ 10 ^ 18 := Nat.pow_le_pow_right (by omega) hl
 have h3 : (10 : Nat) ^ 18 = 1000000000000000000 := by decide
 omega
theorem way_int {l : List UInt8} {n : Nat} (h : Lx.Way l 2 n) : IntOk (Lx.numV (l.take n)) := by
 generalize hk : (2 : Int) = k at h
 have key : ∀ D : List UInt8, (∀ c ∈ D, Lx.digitB c = true) → D.length ≤ 18 → IntOk (Lx.natV D 0 : Int) ∧ IntOk (-(Lx.natV D 0 : Int)) := by
  intro D h1 h2
  have := natV_small D h1 h2
  exact ⟨⟨by omega, by omega⟩, ⟨by omega, by omega⟩⟩
 cases h with
 | arrow => omega
 | neg h1 h2 h3 h4 =>
  have e0 : Lx.at0 (l.take (1 + Lx.cnt Lx.digitB (l.drop 1))) 0 = Lx.at0 l 0 := at0_take _ _ _ (by omega)
  unfold Lx.numV
  rw [e0, if_pos h1]
  have hdr : (l.take (1 + Lx.cnt Lx.digitB (l.drop 1))).drop 1 = (l.drop 1).take (Lx.cnt Lx.digitB (l.drop 1)) := by rw [List.drop_take]; congr 1; omega
  rw [hdr]
  exact (key _ (Lx.cnt_spec Lx.digitB (l.drop 1)) (by rw [List.length_take]; omega)).2
 | pos h1 h2 h3 =>
  have hl := Lx.cnt_le Lx.digitB l
  have hpos : 0 < Lx.cnt Lx.digitB l := by
   cases l with
   | nil => exact absurd h1 (by decide)
   | cons c r => rw [Lx.cnt, if_pos (by exact h1)]; omega
  have e0 : Lx.at0 (l.take (Lx.cnt Lx.digitB l)) 0 = Lx.at0 l 0 := at0_take _ _ _ hpos
  unfold Lx.numV
  rw [e0, if_neg (Lx.digit_not_blank _ h1).2.2.1]
  exact (key _ (Lx.cnt_spec Lx.digitB l) (by rw [List.length_take]; omega)).1
 | name => omega
 | con => omega
 | one h1 h2 => rcases Lx.single_cases (Lx.at0 l 0) with e | e | e | e <;> omega
 | none => omega
theorem toks_int : ∀ (f p : Nat) (l : List UInt8), ∀ t ∈ (Lx.toks f p l).1, TInt t := by
 intro f
 induction f with
 | zero => intro p l t h; simp [Lx.toks] at h
 | succ f ih =>
  intro p l t h
  rw [Lx.toks_step] at h
  by_cases h1 : l.length ≤ Lx.skipC false l
  · rw [if_pos h1] at h; simp at h
  · rw [if_neg h1] at h
    by_cases h2 : (Lx.tokAt (l.drop (Lx.skipC false l))).2 = 0
    · rw [if_pos h2] at h; simp at h
    · rw [if_neg h2] at h
      rcases List.mem_cons.1 h with rfl | h
      · intro hk
        have hw := Lx.way (l.drop (Lx.skipC false l))
        have hk' : (Lx.tokAt (l.drop (Lx.skipC false l))).1 = 2 := hk
        rw [hk'] at hw
        have := way_int hw
        simp only [Lx.mkTok, hk', if_true]
        exact this
      · exact ih _ _ t h
theorem each_mem {α : Type} {f : Node → R α} : ∀ {l : List Node} {xs : List α}, each f l = .ok xs → ∀ x ∈ xs, ∃ n ∈ l, f n = .ok x := by
 intro l
 induction l with
 | nil => intro xs h; simp only [each, Except.ok.injEq] at h; subst h; intro x hx; cases hx
 | cons n r ih =>
  intro xs h
  simp only [each] at h
  cases hf : f n with
  | error p => rw [hf] at h; cases h
  | ok x =>
   rw [hf] at h
   cases hr : each f r with
   | error p => rw [hr] at h; cases h
   | ok ys =>
    rw [hr] at h
    simp only [Except.ok.injEq] at h
    subst h
    intro y hy
    rcases List.mem_cons.1 hy with rfl | hy
    · exact ⟨n, by simp, hf⟩
    · obtain ⟨m, hm, he⟩ := ih hr y hy
      exact ⟨m, by simp [hm], he⟩
theorem pat_ok : ∀ (f : Nat) (n : Node) (p : Pat), NodeAll TInt n → pat f n = .ok p → OkP f p := by
 intro f
 induction f with
 | zero => intro n p _ h; cases h
 | succ f ih =>
  intro n p hn h
  rw [pat] at h
  by_cases h1 : isListB n = true
  · rw [if_pos h1] at h
    cases hq : nodes n 2 9 with
    | error q => rw [hq] at h; cases h
    | ok l =>
     rw [hq] at h
     simp only at h
     obtain ⟨rfl, _⟩ := nodes_is hq
     cases hc : conName (n.list.headD n) with
     | error q => rw [hc] at h; cases h
     | ok nm =>
      rw [hc] at h
      simp only at h
      cases he : each (pat f) n.list.tail with
      | error q => rw [he] at h; cases h
      | ok xs =>
       rw [he] at h
       simp only [Except.ok.injEq] at h
       subst h
       refine ⟨fun h => absurd h (by decide), fun a ha => ?_⟩
       obtain ⟨m, hm, hp⟩ := each_mem he a ha
       exact ih m a (hn.kid (List.mem_of_mem_tail hm)) hp
  · rw [if_neg h1] at h
    by_cases h2 : isIntB n = true
    · rw [if_pos h2] at h
      simp only [Except.ok.injEq] at h
      subst h
      exact ⟨fun _ => hn.tok (by unfold isIntB at h2; simpa using h2), fun a ha => by cases ha⟩
    · rw [if_neg h2] at h
      have fin : ∀ {k : Nat} {nm : List UInt8}, k ≠ 2 → (Except.ok (Pat.mk k n.pos nm 0 []) : R Pat) = .ok p → OkP (f + 1) p := by
       intro k nm hk e
       simp only [Except.ok.injEq] at e
       subst e
       exact ⟨fun h => absurd h hk, fun a ha => by cases ha⟩
      repeat' split at h
      all_goals first | exact fin (by decide) h | cases h
theorem expr_whole : ∀ (f : Nat) (n : Node) (x : Expr), NodeAll TInt n → (∀ m, NodeAll TInt m → True) → expr f n = .ok x → WholeE f x := by
 intro f
 induction f with
 | zero => intro n x _ _ h; cases h
 | succ f ih =>
  intro n x hn _ h
  have kids : ∀ m ∈ n.list, ∀ y, expr f m = .ok y → WholeE f y := fun m hm y hy => ih m y (hn.kid hm) (fun _ _ => trivial) hy
  rw [expr] at h
  by_cases h1 : isListB n = true
  · rw [if_pos h1] at h
    unfold listExpr at h
    by_cases w1 : word n = [102, 110]
    · rw [if_pos w1] at h
      unfold fnExpr at h
      cases hq : nodes n 3 3 with
      | error q => rw [hq] at h; cases h
      | ok l =>
       rw [hq] at h
       simp only at h
       obtain ⟨rfl, hl⟩ := nodes_is hq
       cases hc : names (n.list.getD 1 n) 1 with
       | error q => rw [hc] at h; cases h
       | ok ns =>
        rw [hc] at h
        simp only at h
        cases he : expr f (n.list.getD 2 n) with
        | error q => rw [he] at h; cases h
        | ok y =>
         rw [he] at h
         simp only [Except.ok.injEq] at h
         subst h
         have hns : ns ≠ [] := by
          unfold names at hc
          cases hz : nodes (n.list.getD 1 n) 1 8 with
          | error q => rw [hz] at hc; cases hc
          | ok l2 =>
           rw [hz] at hc
           simp only at hc
           obtain ⟨_, h4⟩ := nodes_is hz
           intro e
           have := each_len hc
           rw [e] at this; simp at this; omega
         refine ⟨by omega, fun h => by omega, fun h => by omega, fun _ => ⟨rfl, hns⟩, fun h => by omega, fun h => by omega, fun h => by omega, fun h => by omega, fun z hz => ?_, fun a ha => by cases ha⟩
         rw [List.mem_singleton] at hz
         subst hz
         exact kids _ (getD_mem (by omega)) _ he
    · rw [if_neg w1] at h
      by_cases w2 : word n = [108, 101, 116]
      · rw [if_pos w2] at h
        unfold letExpr at h
        cases hq : nodes n 3 3 with
        | error q => rw [hq] at h; cases h
        | ok l =>
         rw [hq] at h
         simp only at h
         obtain ⟨rfl, hl⟩ := nodes_is hq
         cases hc : nodes (n.list.getD 1 n) 1 8 with
         | error q => rw [hc] at h; cases h
         | ok ps =>
          rw [hc] at h
          simp only at h
          obtain ⟨hpe, hpl⟩ := nodes_is hc
          cases hb : each (pair (expr f)) ps with
          | error q => rw [hb] at h; cases h
          | ok bs =>
           rw [hb] at h
           simp only at h
           cases he : expr f (n.list.getD 2 n) with
           | error q => rw [he] at h; cases h
           | ok y =>
            rw [he] at h
            simp only [Except.ok.injEq] at h
            subst h
            have hbl := each_len hb
            refine ⟨by omega, fun h => by omega, fun h => by omega, fun h => by omega, fun h => by omega, fun _ => ⟨by simp, by intro e; have := congrArg List.length e; rw [List.length_map, hbl, List.length_nil] at this; omega⟩, fun h => by omega, fun h => by omega, fun z hz => ?_, fun a ha => by cases ha⟩
            rcases List.mem_append.1 hz with hz | hz
            · obtain ⟨b, hb1, rfl⟩ := List.mem_map.1 hz
              obtain ⟨m, hm, hp⟩ := each_mem hb b hb1
              rw [hpe] at hm
              have hmn : NodeAll TInt m := (hn.kid (getD_mem (by omega))).kid hm
              unfold pair at hp
              cases hz2 : nodes m 2 2 with
              | error q => rw [hz2] at hp; cases hp
              | ok l2 =>
               rw [hz2] at hp
               simp only at hp
               obtain ⟨rfl, h4⟩ := nodes_is hz2
               cases hz3 : name (m.list.headD m) with
               | error q => rw [hz3] at hp; cases hp
               | ok s =>
                rw [hz3] at hp
                simp only at hp
                cases hz4 : expr f (m.list.getD 1 m) with
                | error q => rw [hz4] at hp; cases hp
                | ok e =>
                 rw [hz4] at hp
                 simp only [Except.ok.injEq] at hp
                 subst hp
                 exact ih _ _ (hmn.kid (getD_mem (by omega))) (fun _ _ => trivial) hz4
            · rw [List.mem_singleton] at hz
              subst hz
              exact kids _ (getD_mem (by omega)) _ he
      · rw [if_neg w2] at h
        by_cases w3 : word n = [99, 97, 115, 101]
        · rw [if_pos w3] at h
          unfold caseExpr at h
          cases hq : nodes n 3 18 with
          | error q => rw [hq] at h; cases h
          | ok l =>
           rw [hq] at h
           simp only at h
           obtain ⟨rfl, hl⟩ := nodes_is hq
           cases he : expr f (n.list.getD 1 n) with
           | error q => rw [he] at h; cases h
           | ok y =>
            rw [he] at h
            simp only at h
            cases hb : each (alt f (expr f)) (n.list.drop 2) with
            | error q => rw [hb] at h; cases h
            | ok alts1 =>
             rw [hb] at h
             simp only [Except.ok.injEq] at h
             subst h
             have hbl := each_len hb
             rw [List.length_drop] at hbl
             refine ⟨by omega, fun h => by omega, fun h => by omega, fun h => by omega, fun _ => ⟨rfl, by intro e; rw [e] at hbl; simp at hbl; omega⟩, fun h => by omega, fun h => by omega, fun h => by omega, fun z hz => ?_, fun a ha => ?_⟩
             · rw [List.mem_singleton] at hz
               subst hz
               exact kids _ (getD_mem (by omega)) _ he
             · obtain ⟨m, hm, hp⟩ := each_mem hb a ha
               have hmn : NodeAll TInt m := hn.kid (List.mem_of_mem_drop hm)
               unfold alt at hp
               cases hz2 : nodes m 2 2 with
               | error q => rw [hz2] at hp; cases hp
               | ok l2 =>
                rw [hz2] at hp
                simp only at hp
                obtain ⟨rfl, h4⟩ := nodes_is hz2
                cases hz3 : pat f (m.list.headD m) with
                | error q => rw [hz3] at hp; cases hp
                | ok s =>
                 rw [hz3] at hp
                 simp only at hp
                 cases hz4 : expr f (m.list.getD 1 m) with
                 | error q => rw [hz4] at hp; cases hp
                 | ok e =>
                  rw [hz4] at hp
                  simp only [Except.ok.injEq] at hp
                  subst hp
                  exact ⟨pat_ok f _ _ (hmn.kid (headD_mem (by omega))) hz3, ih _ _ (hmn.kid (getD_mem (by omega))) (fun _ _ => trivial) hz4⟩
        · rw [if_neg w3] at h
          unfold plainExpr at h
          cases hq : nodes n 2 9 with
          | error q => rw [hq] at h; cases h
          | ok l =>
           rw [hq] at h
           simp only at h
           obtain ⟨rfl, hl⟩ := nodes_is hq
           by_cases ht : 0 < (n.list.headD n).takes
           · rw [if_pos ht] at h
             cases hh : hold n (1 + (n.list.headD n).takes) (1 + (n.list.headD n).takes) with
             | error q => rw [hh] at h; cases h
             | ok u =>
              rw [hh] at h
              simp only at h
              cases hb : each (expr f) n.list.tail with
              | error q => rw [hb] at h; cases h
              | ok xs =>
               rw [hb] at h
               simp only [Except.ok.injEq] at h
               subst h
               have hbl := each_len hb
               rw [List.length_tail] at hbl
               refine ⟨by omega, fun h => by omega, fun h => by omega, fun h => by omega, fun h => by omega, fun h => by omega, fun h => by omega, fun _ => by intro e; rw [e] at hbl; simp at hbl; omega, fun z hz => ?_, fun a ha => by cases ha⟩
               obtain ⟨m, hm, hp⟩ := each_mem hb z hz
               exact kids m (List.mem_of_mem_tail hm) z hp
           · rw [if_neg ht] at h
             by_cases hcn : isConB (n.list.headD n) = true
             · rw [if_pos hcn] at h
               cases hb : each (expr f) n.list.tail with
               | error q => rw [hb] at h; cases h
               | ok xs =>
                rw [hb] at h
                simp only [Except.ok.injEq] at h
                subst h
                refine ⟨by omega, fun h => by omega, fun h => by omega, fun h => by omega, fun h => by omega, fun h => by omega, fun h => by omega, fun h => by omega, fun z hz => ?_, fun a ha => by cases ha⟩
                obtain ⟨m, hm, hp⟩ := each_mem hb z hz
                exact kids m (List.mem_of_mem_tail hm) z hp
             · rw [if_neg hcn] at h
               cases hb : each (expr f) n.list with
               | error q => rw [hb] at h; cases h
               | ok xs =>
                rw [hb] at h
                simp only [Except.ok.injEq] at h
                subst h
                have hbl := each_len hb
                refine ⟨by omega, fun h => by omega, fun h => by omega, fun h => by omega, fun h => by omega, fun h => by omega, fun _ => by omega, fun h => by omega, fun z hz => ?_, fun a ha => by cases ha⟩
                obtain ⟨m, hm, hp⟩ := each_mem hb z hz
                exact kids m hm z hp
  · rw [if_neg h1] at h
    have fin : ∀ {k : Nat} {nm : List UInt8} {i : Int}, k ≤ 2 → (k = 0 → IntOk i) → (Except.ok (Expr.mk k n.pos nm i [] [] []) : R Expr) = .ok x → WholeE (f + 1) x := by
     intro k nm i hk hi e
     simp only [Except.ok.injEq] at e
     subst e
     exact ⟨by omega, hi, fun _ => ⟨rfl, rfl, rfl⟩, fun h => by omega, fun h => by omega, fun h => by omega, fun h => by omega, fun h => by omega, fun z hz => (by cases hz), fun a ha => (by cases ha)⟩
    by_cases h2 : isIntB n = true
    · rw [if_pos h2] at h
      exact fin (by omega) (fun _ => hn.tok (by unfold isIntB at h2; simpa using h2)) h
    · rw [if_neg h2] at h
      repeat' split at h
      all_goals first | exact fin (by omega) (fun h => by omega) h | cases h
/-- A program's expressions are whole. -/
def WholeP (q : Prog) : Prop := ∀ d ∈ q.defs, WholeE 50 d.body
theorem prog_whole (stop : Nat) : ∀ (f c : Nat) (ts : List Lx.Tok) (q : Prog), (∀ t ∈ ts, TInt t) → prog stop f c ts = .ok q → WholeP q := by
 intro f
 induction f with
 | zero => intro c ts q _ h; cases h; intro d hd; cases hd
 | succ f ih =>
  intro c ts q hts h
  cases ts with
  | nil => rw [prog_nil] at h; cases h; intro d hd; cases hd
  | cons t ts =>
   rw [prog_cons] at h
   cases hn : node stop (2 * (t :: ts).length + 2) 0 (t :: ts) with
   | error p => rw [hn] at h; cases h
   | ok x =>
    obtain ⟨n, ts1⟩ := x
    rw [hn] at h
    simp only at h
    obtain ⟨hna, hts1⟩ := (node_all TInt stop _ 0 (t :: ts) hts).1 _ _ hn
    by_cases h100 : c = 100
    · rw [if_pos h100] at h; cases h
    · rw [if_neg h100] at h
      by_cases k1 : word n = [100, 97, 116, 97]
      · rw [if_pos k1] at h
        cases hd : data 50 n with
        | error p => rw [hd] at h; cases h
        | ok d =>
         rw [hd] at h
         simp only at h
         cases hp : prog stop f (c + 1) ts1 with
         | error p => rw [hp] at h; cases h
         | ok q' =>
          rw [hp] at h
          simp only [Except.ok.injEq] at h
          subst h
          exact fun d' hd' => ih _ _ _ hts1 hp d' hd'
      · rw [if_neg k1] at h
        by_cases k2 : word n = [100, 101, 102]
        · rw [if_pos k2] at h
          cases hd : defn 50 n with
          | error p => rw [hd] at h; cases h
          | ok d =>
           rw [hd] at h
           simp only at h
           cases hp : prog stop f (c + 1) ts1 with
           | error p => rw [hp] at h; cases h
           | ok q' =>
            rw [hp] at h
            simp only [Except.ok.injEq] at h
            subst h
            intro d' hd'
            rcases List.mem_cons.1 hd' with rfl | hd'
            · unfold defn at hd
              cases hz : nodes n 4 4 with
              | error q => rw [hz] at hd; cases hd
              | ok l =>
               rw [hz] at hd
               simp only at hd
               obtain ⟨rfl, hl⟩ := nodes_is hz
               cases h3 : name (n.list.getD 1 n) with
               | error q => rw [h3] at hd; cases hd
               | ok s =>
                rw [h3] at hd
                simp only at hd
                cases h4 : names (n.list.getD 2 n) 0 with
                | error q => rw [h4] at hd; cases hd
                | ok ps =>
                 rw [h4] at hd
                 simp only at hd
                 cases h5 : expr 50 (n.list.getD 3 n) with
                 | error q => rw [h5] at hd; cases hd
                 | ok x =>
                  rw [h5] at hd
                  simp only [Except.ok.injEq] at hd
                  subst hd
                  exact expr_whole 50 _ _ (hna.kid (getD_mem (by omega))) (fun _ _ => trivial) h5
            · exact ih _ _ _ hts1 hp d' hd'
        · rw [if_neg k2] at h; cases h
theorem program_whole (l : List UInt8) (q : Prog) (h : program l = .done q) : WholeP q := by
 unfold program parsed at h
 by_cases hl : 4096 < l.length
 · rw [if_pos hl] at h; cases h
 · rw [if_neg hl] at h
   cases ht : Lx.toks (l.length + 1) 0 l with
   | mk ts o =>
    rw [ht] at h
    cases o with
    | some q' => cases h
    | none =>
     simp only at h
     cases hx : prog l.length (ts.length + 1) 0 ts with
     | error p => rw [hx] at h; cases h
     | ok q' =>
      rw [hx] at h
      simp only [Outcome.done.injEq] at h
      subst h
      have hi := toks_int (l.length + 1) 0 l
      rw [ht] at hi
      exact prog_whole _ _ _ _ _ hi hx
end Px
end Go.Proofs.YtpkecbijhckllaaDoor
