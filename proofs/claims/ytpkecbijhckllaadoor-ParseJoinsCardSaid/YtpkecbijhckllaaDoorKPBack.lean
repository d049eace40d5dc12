/-
 Nodes as they are written: what is shown of parsed parts is their nodes' text.
-/
import Derived.Test.YtpkecbijhckllaaDoorKPShW
namespace Go.Proofs.YtpkecbijhckllaaDoor
set_option linter.unusedVariables false
set_option linter.unusedSimpArgs false
namespace Px
open Lx (tk mkTok)
/-- A token as it comes of a text. -/
structure TOk (t : Lx.Tok) : Prop where
 opn : t.kind = 0 → t.text = [40]
 num : t.kind = 2 → (-1000000000000000000 < t.int ∧ t.int < 1000000000000000000) ∧ Plain t.text
 word : t.kind ≠ 0 → t.kind ≠ 1 → t.kind ≠ 2 → Lx.IsTok t.kind t.text
 zero : t.kind ≠ 2 → t.int = 0
theorem isTok_arrow : Lx.IsTok 5 [45, 62] := by
 refine ⟨by simp, by decide, by decide, fun r hr => ?_⟩
 rfl
theorem u8_of {c : UInt8} {k : Nat} (h : c.toNat = k) (hk : k < 256) : c = UInt8.ofNat k := by
 apply UInt8.toNat_inj.1
 rw [h, UInt8.toNat_ofNat']
 omega
theorem single5 (c : UInt8) (h : Lx.single c = 5) : Lx.IsTok 5 [c] := by
 have hc : c.toNat = 95 ∨ c.toNat = 43 ∨ c.toNat = 45 ∨ c.toNat = 42 ∨ c.toNat = 47 ∨ c.toNat = 37 ∨ c.toNat = 61 ∨ c.toNat = 60 := by
  unfold Lx.single at h
  split at h
  · omega
  · split at h
    · omega
    · split at h
      · assumption
      · omega
 have key : ∀ k : Nat, k < 256 → c.toNat = k → (Lx.blankB (UInt8.ofNat k) = false ∧ (UInt8.ofNat k).toNat ≠ 59 ∧ Lx.digitB (UInt8.ofNat k) = false ∧ Lx.smallB (UInt8.ofNat k) = false ∧ Lx.greatB (UInt8.ofNat k) = false ∧ ¬ Lx.single (UInt8.ofNat k) < 0) → Lx.IsTok 5 [c] := by
  intro k hk hck ⟨h1, h2, h3, h4, h5, h6⟩
  have e := u8_of hck hk
  rw [← e] at h1 h2 h3 h4 h5 h6
  have := Lx.isTok_single c h1 h2 h3 h4 h5 h6
  rw [h] at this; exact this
 rcases hc with e | e | e | e | e | e | e | e
 · exact key 95 (by omega) e (by decide)
 · exact key 43 (by omega) e (by decide)
 · exact key 45 (by omega) e (by decide)
 · exact key 42 (by omega) e (by decide)
 · exact key 47 (by omega) e (by decide)
 · exact key 37 (by omega) e (by decide)
 · exact key 61 (by omega) e (by decide)
 · exact key 60 (by omega) e (by decide)
theorem cons_of {l : List UInt8} (h : 0 < l.length) : l = Lx.at0 l 0 :: l.drop 1 := by
 cases l with
 | nil => simp at h
 | cons c r => rfl
theorem way_ok {l : List UInt8} {k : Int} {n : Nat} (h : Lx.Way l k n) (hn : n ≠ 0) (p : Nat) : TOk (mkTok p k (l.take n)) := by
 have hint : k = 2 → Lx.Way l 2 n := fun e => by rw [e] at h; exact h
 have hnum : k = 2 → (-1000000000000000000 < (mkTok p k (l.take n)).int ∧ (mkTok p k (l.take n)).int < 1000000000000000000) := by
  intro e
  subst e
  have hw := h
  show -1000000000000000000 < (if (2 : Int) = 2 then Lx.numV (l.take n) else 0) ∧ (if (2 : Int) = 2 then Lx.numV (l.take n) else 0) < 1000000000000000000
  rw [if_pos rfl]
  generalize hk : (2 : Int) = k' at hw
  have key : ∀ D : List UInt8, (∀ c ∈ D, Lx.digitB c = true) → D.length ≤ 18 → (-1000000000000000000 < (Lx.natV D 0 : Int) ∧ (Lx.natV D 0 : Int) < 1000000000000000000) ∧ (-1000000000000000000 < -(Lx.natV D 0 : Int) ∧ -(Lx.natV D 0 : Int) < 1000000000000000000) := by
   intro D h1 h2
   have := natV_small D h1 h2
   exact ⟨⟨by omega, by omega⟩, ⟨by omega, by omega⟩⟩
  cases hw with
  | arrow => omega
  | neg h1 h2 h3 h4 =>
   have e0 : Lx.at0 (l.take (1 + Lx.cnt Lx.digitB (l.drop 1))) 0 = Lx.at0 l 0 := at0_take _ _ _ (by omega)
   unfold Lx.numV
   rw [e0, if_pos h1]
   have hdr : (l.take (1 + Lx.cnt Lx.digitB (l.drop 1))).drop 1 = (l.drop 1).take (Lx.cnt Lx.digitB (l.drop 1)) := by rw [List.drop_take]; congr 1; omega
   rw [hdr]
   exact (key _ (Lx.cnt_spec Lx.digitB (l.drop 1)) (by rw [List.length_take]; omega)).2
  | pos h1 h2 h3 =>
   have hpos : 0 < Lx.cnt Lx.digitB l := by omega
   have e0 : Lx.at0 (l.take (Lx.cnt Lx.digitB l)) 0 = Lx.at0 l 0 := at0_take _ _ _ hpos
   unfold Lx.numV
   rw [e0, if_neg (Lx.digit_not_blank _ h1).2.2.1]
   exact (key _ (Lx.cnt_spec Lx.digitB l) (by rw [List.length_take]; omega)).1
  | name => omega
  | con => omega
  | one h1 h2 => rcases Lx.single_cases (Lx.at0 l 0) with e | e | e | e <;> omega
  | none => omega
 refine ⟨fun e => ?_, fun e => ⟨hnum e, way_plain (hint e)⟩, fun e0 e1 e2 => ?_, fun e => if_neg e⟩
 · have e' : k = 0 := e
   subst e'
   have h40 := Lx.way_open h hn
   have hl : 0 < l.length := by
    cases l with
    | nil => exact absurd h40 (by decide)
    | cons c r => simp
   have hn1 : n = 1 := by
    generalize hk : (0 : Int) = k' at h
    cases h with
    | arrow => omega
    | neg => omega
    | pos => omega
    | name => omega
    | con => omega
    | one => rfl
    | none => omega
   subst hn1
   show l.take 1 = [40]
   rw [cons_of hl, List.take_succ_cons, List.take_zero]
   congr 1
   exact u8_of (k := 40) h40 (by omega)
 · have e0' : k ≠ 0 := e0
   have e1' : k ≠ 1 := e1
   have e2' : k ≠ 2 := e2
   show Lx.IsTok k (l.take n)
   have hw := h
   cases hw with
   | arrow h1 h2 =>
    have hl : 1 < l.length := Lx.ne_out l 1 (fun c => c.toNat == 62) (by decide) (by simp [h2])
    have : l.take 2 = [45, 62] := by
     cases l with
     | nil => simp at hl
     | cons c r =>
      cases r with
      | nil => simp at hl
      | cons d r =>
       have hc : c = 45 := u8_of (k := 45) h1 (by omega)
       have hd : d = 62 := u8_of (k := 62) h2 (by omega)
       subst hc; subst hd; rfl
    rw [this]; exact isTok_arrow
   | neg => omega
   | pos => omega
   | name hs =>
    have hl : 0 < l.length := Lx.ne_out l 0 Lx.smallB (by decide) hs
    rw [cons_of hl, List.take_succ_cons]
    exact Lx.isTok_small _ _ hs (Lx.cnt_spec Lx.wordB (l.drop 1))
   | con hs =>
    have hl : 0 < l.length := Lx.ne_out l 0 Lx.greatB (by decide) hs
    rw [cons_of hl, List.take_succ_cons]
    exact Lx.isTok_great _ _ hs (Lx.cnt_spec Lx.wordB (l.drop 1))
   | one hs _ =>
    have h5 : Lx.single (Lx.at0 l 0) = 5 := by rcases Lx.single_cases (Lx.at0 l 0) with e | e | e | e <;> omega
    have hl : 0 < l.length := Lx.ne_out l 0 (fun c => decide (Lx.single c = 5)) (by decide) (by simp [h5])
    have : l.take 1 = [Lx.at0 l 0] := by
     cases l with
     | nil => simp at hl
     | cons c r => rfl
    rw [this, h5]
    exact single5 _ h5
   | none => omega
theorem toks_ok : ∀ (f p : Nat) (l : List UInt8), ∀ t ∈ (Lx.toks f p l).1, TOk t := by
 intro f
 induction f with
 | zero => intro p l t h; simp [Lx.toks] at h
 | succ f ih =>
  intro p l t h
  rw [Lx.toks_step] at h
  by_cases h1 : l.length ≤ Lx.skipC false l
  · rw [if_pos h1] at h; simp at h
  · rw [if_neg h1] at h
    by_cases h2 : (Lx.tokAt (l.drop (Lx.skipC false l))).2 = 0
    · rw [if_pos h2] at h; simp at h
    · rw [if_neg h2] at h
      rcases List.mem_cons.1 h with rfl | h
      · exact way_ok (Lx.way _) h2 _
      · exact ih _ _ t h
/-- A node as it comes of a text's tokens. -/
inductive NodeGood : Node → Prop
 | leaf (t : Lx.Tok) : TOk t → t.kind ≠ 0 → t.kind ≠ 1 → NodeGood (.mk t [] (takesOf t.text))
 | list (t : Lx.Tok) (l : List Node) : TOk t → t.kind = 0 → (∀ m ∈ l, NodeGood m) → NodeGood (.mk t l 0)
theorem NodeGood.kid {n m : Node} (h : NodeGood n) (hm : m ∈ n.list) : NodeGood m := by
 cases h with
 | leaf t h1 h2 h3 => cases hm
 | list t l h1 h2 h3 => exact h3 m hm
theorem node_good (stop : Nat) : ∀ (f d : Nat) (ts : List Lx.Tok), (∀ t ∈ ts, TOk t) →
 (∀ n ts', node stop f d ts = .ok (n, ts') → NodeGood n ∧ ∀ t ∈ ts', TOk t) ∧ (∀ l ts', rest stop f d ts = .ok (l, ts') → (∀ m ∈ l, NodeGood m) ∧ ∀ t ∈ ts', TOk t) := by
 intro f
 induction f with
 | zero => intro d ts _; exact ⟨fun n ts' h => (by cases h), fun l ts' h => (by cases h)⟩
 | succ f ih =>
  intro d ts hp
  cases ts with
  | nil => exact ⟨fun n ts' h => (by cases h), fun l ts' h => (by cases h)⟩
  | cons t ts =>
   have hpt := hp t (by simp)
   have hps : ∀ u ∈ ts, TOk u := fun u hu => hp u (by simp [hu])
   constructor
   · intro n ts' h
     rw [node] at h
     by_cases k1 : t.kind = 1
     · rw [if_pos k1] at h; cases h
     · rw [if_neg k1] at h
       by_cases k0 : t.kind = 0
       · rw [if_pos k0] at h
         by_cases hd : d = 40
         · rw [if_pos hd] at h; cases h
         · rw [if_neg hd] at h
           cases hr : rest stop f (d + 1) ts with
           | error p => rw [hr] at h; cases h
           | ok x =>
            obtain ⟨l, ts1⟩ := x
            rw [hr] at h
            simp only [Except.ok.injEq, Prod.mk.injEq] at h
            obtain ⟨rfl, rfl⟩ := h
            obtain ⟨h1, h2⟩ := (ih (d + 1) ts hps).2 _ _ hr
            exact ⟨.list _ _ hpt k0 h1, h2⟩
       · rw [if_neg k0] at h
         simp only [Except.ok.injEq, Prod.mk.injEq] at h
         obtain ⟨rfl, rfl⟩ := h
         exact ⟨.leaf _ hpt k0 k1, hps⟩
   · intro l ts' h
     rw [rest] at h
     by_cases k1 : t.kind = 1
     · rw [if_pos k1] at h
       simp only [Except.ok.injEq, Prod.mk.injEq] at h
       obtain ⟨rfl, rfl⟩ := h
       exact ⟨fun m hm => (by cases hm), hps⟩
     · rw [if_neg k1] at h
       cases hn : node stop f d (t :: ts) with
       | error p => rw [hn] at h; cases h
       | ok x =>
        obtain ⟨n, ts1⟩ := x
        rw [hn] at h
        simp only at h
        obtain ⟨h1, h2⟩ := (ih d (t :: ts) hp).1 _ _ hn
        cases hr : rest stop f d ts1 with
        | error p => rw [hr] at h; cases h
        | ok y =>
         obtain ⟨l', ts2⟩ := y
         rw [hr] at h
         simp only [Except.ok.injEq, Prod.mk.injEq] at h
         obtain ⟨rfl, rfl⟩ := h
         obtain ⟨h3, h4⟩ := (ih d ts1 h2).2 _ _ hr
         exact ⟨fun m hm => (List.mem_cons.1 hm).elim (fun e => e ▸ h1) (h3 m), h4⟩
theorem NodeGood.all {k : Nat} : ∀ {n : Node}, Fits k n → NodeGood n → NodeAll TInt n := by
 induction k with
 | zero =>
  intro n hf h
  cases h with
  | leaf t h1 h2 h3 => exact .mk _ _ _ (fun e => ⟨by have := (h1.num e).1; omega, by have := (h1.num e).1; omega⟩) (fun m hm => by cases hm)
  | list t l h1 h2 h3 => exact .mk _ _ _ (fun e => by omega) (fun m hm => by rw [show l = [] from hf] at hm; cases hm)
 | succ k ih =>
  intro n hf h
  cases h with
  | leaf t h1 h2 h3 => exact .mk _ _ _ (fun e => ⟨by have := (h1.num e).1; omega, by have := (h1.num e).1; omega⟩) (fun m hm => by cases hm)
  | list t l h1 h2 h3 => exact .mk _ _ _ (fun e => by omega) (fun m hm => ih (hf m hm) (h3 m hm))
/-- A node's text, as it is written. -/
inductive Canon : Node → List UInt8 → Prop
 | int (t : Lx.Tok) (k : Nat) : t.kind = 2 → Canon (.mk t [] k) (Lib.itoa t.int)
 | leaf (t : Lx.Tok) (k : Nat) : t.kind ≠ 0 → t.kind ≠ 2 → Canon (.mk t [] k) t.text
 | list (t : Lx.Tok) (l : List Node) (ss : List (List UInt8)) (k : Nat) : t.kind = 0 → All2 Canon l ss → Canon (.mk t l k) (joined ss)
theorem canon_leaf {n : Node} (h : NodeGood n) (hl : isListB n = false) (h2 : n.tok.kind ≠ 2) : Canon n n.text := by
 cases h with
 | leaf t h1 h3 h4 => exact .leaf t _ h3 h2
 | list t l h1 h3 h4 => unfold isListB at hl; simp [Node.tok, h3] at hl
theorem canon_int {n : Node} (h : NodeGood n) (h2 : n.tok.kind = 2) : Canon n (Lib.itoa n.tok.int) := by
 cases h with
 | leaf t h1 h3 h4 => exact .int t _ h2
 | list t l h1 h3 h4 => have : t.kind = 2 := h2; omega
theorem canon_list {n : Node} (h : NodeGood n) (hl : isListB n = true) {ss : List (List UInt8)} (hs : All2 Canon n.list ss) : Canon n (joined ss) := by
 cases h with
 | leaf t h1 h3 h4 => unfold isListB at hl; simp [Node.tok] at hl; exact absurd hl h3
 | list t l h1 h3 h4 => exact .list t l ss _ h3 hs
theorem good_plain {n : Node} (h : NodeGood n) (h2 : n.tok.kind = 2) : Plain n.text := by
 cases h with
 | leaf t h1 h3 h4 => exact (h1.num h2).2
 | list t l h1 h3 h4 => have : t.kind = 2 := h2; omega
/-- A node that is a word with a meaning. -/
theorem canon_word {n : Node} (h : NodeGood n) (hl : isListB n = false) {s : List UInt8} (ht : n.text = s) (hs : ∀ x, Plain x → x ≠ s) : Canon n s := by
 rw [← ht]
 exact canon_leaf h hl (fun e => hs _ (good_plain h e) ht)
theorem name_canon {n : Node} (h : NodeGood n) {s : List UInt8} (hn : name n = .ok s) : Canon n s := by
 have hs := name_is hn
 subst hs
 unfold name at hn
 split at hn
 · rename_i hb
   have hk := kind_name hb
   refine canon_leaf h ?_ hk
   unfold isNameB at hb; simp only [Bool.and_eq_true, beq_iff_eq] at hb
   unfold isListB; rw [hb.1.2]; rfl
 · cases hn
theorem conName_canon {n : Node} (h : NodeGood n) {s : List UInt8} (hn : conName n = .ok s) : Canon n s := by
 have hs := conName_is hn
 subst hs
 unfold conName at hn
 split at hn
 · rename_i hb
   have hk := kind_con hb
   refine canon_leaf h ?_ hk
   unfold isConB at hb; simp only [beq_iff_eq] at hb
   unfold isListB; rw [hb]; rfl
 · cases hn
theorem each_canon {α : Type} {g : Node → R α} {len : α → List UInt8} : ∀ {l : List Node} {xs : List α}, (∀ n ∈ l, ∀ x, g n = .ok x → Canon n (len x)) → each g l = .ok xs → All2 Canon l (xs.map len) := by
 intro l
 induction l with
 | nil => intro xs _ h; simp only [each, Except.ok.injEq] at h; subst h; exact .nil
 | cons n r ih =>
  intro xs hg h
  simp only [each] at h
  cases hf : g n with
  | error p => rw [hf] at h; cases h
  | ok x =>
   rw [hf] at h
   cases hr : each g r with
   | error p => rw [hr] at h; cases h
   | ok ys =>
    rw [hr] at h
    simp only [Except.ok.injEq] at h
    subst h
    exact .cons (hg n (by simp) x hf) (ih (fun m hm => hg m (by simp [hm])) hr)
theorem nodes_len {n : Node} {a b : Nat} {l : List Node} (h : nodes n a b = .ok l) : l = n.list ∧ a ≤ l.length ∧ l.length ≤ b ∧ isListB n = true := by
 unfold nodes at h
 by_cases h1 : isListB n = true
 · rw [if_pos h1] at h
   unfold hold at h
   by_cases h2 : n.list.length < a
   · rw [if_pos h2] at h; cases h
   · rw [if_neg h2] at h
     cases hb : n.list[b]? with
     | some m => rw [hb] at h; cases h
     | none =>
      rw [hb] at h
      simp only [Except.ok.injEq] at h
      subst h
      exact ⟨rfl, by omega, by simpa using hb, h1⟩
 · rw [if_neg h1] at h; cases h
theorem names_canon {n : Node} (h : NodeGood n) {a : Nat} {ns : List (List UInt8)} (hn : names n a = .ok ns) : Canon n (joined ns) := by
 unfold names at hn
 cases hq : nodes n a 8 with
 | error p => rw [hq] at hn; cases hn
 | ok l =>
  rw [hq] at hn
  simp only at hn
  obtain ⟨rfl, _, _, hl⟩ := nodes_len hq
  have := each_canon (len := id) (fun m hm x hx => name_canon (h.kid hm) hx) hn
  rw [List.map_id] at this
  exact canon_list h hl this
theorem word_head {n : Node} {s : List UInt8} (h : word n = s) (hs : s ≠ []) : ∃ a r, n.list = a :: r ∧ isListB a = false ∧ a.text = s := by
 unfold word at h
 cases hl : n.list with
 | nil => rw [hl] at h; exact absurd h.symm hs
 | cons a r =>
  rw [hl] at h
  simp only at h
  split at h
  · exact absurd h.symm hs
  · rename_i hb
    exact ⟨a, r, rfl, by simpa using hb, h⟩
theorem typeE_canon : ∀ (f : Nat) (n : Node) (t : TypeE), NodeGood n → typeE f n = .ok t → Canon n (showT f t) := by
 intro f
 induction f with
 | zero => intro n t _ h; cases h
 | succ f ih =>
  intro n t hg h
  rw [typeE] at h
  by_cases h1 : (isConB n || isNameB n) = true
  · rw [if_pos h1] at h
    simp only [Except.ok.injEq] at h
    subst h
    rw [showT, if_pos rfl]
    rw [Bool.or_eq_true] at h1
    rcases h1 with h1 | h1
    · exact conName_canon hg (by unfold conName; rw [if_pos h1])
    · exact name_canon hg (by unfold name; rw [if_pos h1])
  · rw [if_neg h1] at h
    cases hq : nodes n 2 9 with
    | error p => rw [hq] at h; cases h
    | ok l =>
     rw [hq] at h
     simp only at h
     obtain ⟨rfl, hl, _, hlb⟩ := nodes_len hq
     have key : ∀ nm : List UInt8, (if word n = [45, 62] then (match hold n 3 3 with | .error p => .error p | .ok _ => .ok ([45, 62] : List UInt8)) else conName (n.list.headD n)) = .ok nm → Canon (n.list.headD n) nm := by
      intro nm hnm
      split at hnm
      · rename_i hw
        obtain ⟨a, r, hlr, hb, ht⟩ := word_head hw (by simp)
        split at hnm
        · cases hnm
        · simp only [Except.ok.injEq] at hnm
          subst hnm
          rw [hlr]
          exact canon_word (hg.kid (by rw [hlr]; simp)) hb ht (fun x hx => hx.2.2.2.2.2.2.1)
      · exact conName_canon (hg.kid (headD_mem (by omega))) hnm
     revert h
     generalize (if word n = [45, 62] then (match hold n 3 3 with | .error p => .error p | .ok _ => .ok ([45, 62] : List UInt8)) else conName (n.list.headD n)) = A at key ⊢
     intro h
     cases A with
     | error p => cases h
     | ok nm =>
      simp only at h
      have hk := key nm rfl
      cases he : each (typeE f) n.list.tail with
      | error p => rw [he] at h; cases h
      | ok xs =>
       rw [he] at h
       simp only [Except.ok.injEq] at h
       subst h
       have hs := each_canon (len := showT f) (fun m hm x hx => ih m x (hg.kid (List.mem_of_mem_tail hm)) hx) he
       have hxl := each_len he
       rw [List.length_tail] at hxl
       rw [showT, if_neg (by intro e; rw [e] at hxl; simp at hxl; omega)]
       refine canon_list hg hlb ?_
       cases hnl : n.list with
       | nil => rw [hnl] at hl; simp at hl
       | cons a r =>
        rw [hnl] at hk hs
        exact .cons hk hs
theorem pat_canon : ∀ (f : Nat) (n : Node) (t : Pat), NodeGood n → pat f n = .ok t → Canon n (showP f t) := by
 intro f
 induction f with
 | zero => intro n t _ h; cases h
 | succ f ih =>
  intro n t hg h
  rw [pat] at h
  by_cases h1 : isListB n = true
  · rw [if_pos h1] at h
    cases hq : nodes n 2 9 with
    | error p => rw [hq] at h; cases h
    | ok l =>
     rw [hq] at h
     simp only at h
     obtain ⟨rfl, hl, _, hlb⟩ := nodes_len hq
     cases hc : conName (n.list.headD n) with
     | error p => rw [hc] at h; cases h
     | ok nm =>
      rw [hc] at h
      simp only at h
      have hk := conName_canon (hg.kid (headD_mem (by omega))) hc
      cases he : each (pat f) n.list.tail with
      | error p => rw [he] at h; cases h
      | ok xs =>
       rw [he] at h
       simp only [Except.ok.injEq] at h
       subst h
       have hs := each_canon (len := showP f) (fun m hm x hx => ih m x (hg.kid (List.mem_of_mem_tail hm)) hx) he
       have hxl := each_len he
       rw [List.length_tail] at hxl
       rw [showP, if_neg (by decide), if_neg (by decide), if_neg (by intro e; rw [e] at hxl; simp at hxl; omega)]
       refine canon_list hg hlb ?_
       cases hnl : n.list with
       | nil => rw [hnl] at hl; simp at hl
       | cons a r =>
        rw [hnl] at hk hs
        exact .cons hk hs
  · rw [if_neg h1] at h
    by_cases h2 : isIntB n = true
    · rw [if_pos h2] at h
      simp only [Except.ok.injEq] at h
      subst h
      rw [showP, if_neg (by decide), if_pos rfl]
      exact canon_int hg (by unfold isIntB at h2; simpa using h2)
    · rw [if_neg h2] at h
      have h2k := kind_ne (by simpa using h2)
      by_cases h3 : isConB n = true
      · rw [if_pos h3] at h
        simp only [Except.ok.injEq] at h
        subst h
        rw [showP, if_neg (by decide), if_neg (by decide), if_pos rfl]
        exact canon_leaf hg (by simpa using h1) h2k
      · rw [if_neg h3] at h
        by_cases h4 : isNameB n = true
        · rw [if_pos h4] at h
          simp only [Except.ok.injEq] at h
          subst h
          rw [showP, if_neg (by decide), if_neg (by decide), if_pos rfl]
          exact canon_leaf hg (by simpa using h1) h2k
        · rw [if_neg h4] at h
          by_cases h5 : n.text = [95]
          · rw [if_pos h5] at h
            simp only [Except.ok.injEq] at h
            subst h
            rw [showP, if_pos rfl, ← h5]
            exact canon_leaf hg (by simpa using h1) h2k
          · rw [if_neg h5] at h; cases h
end Px
end Go.Proofs.YtpkecbijhckllaaDoor
