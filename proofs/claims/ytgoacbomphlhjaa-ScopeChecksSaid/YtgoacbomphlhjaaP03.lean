/-
  Several texts in one: Good, RefA, RefB, RefC, PlacePure.
-/
import Derived.Test.YtgoacbomphlhjaaP00
import Derived.Test.YtgoacbomphlhjaaP02
import Derived.Test.YtgoacbomphlhjaaP01
set_option linter.unusedVariables false
set_option linter.unusedSimpArgs false
namespace Go.Proofs.Ytgoacbomphlhjaa
open Go.Lib (hid)
open List renaming getElem_toArray → jX, getElem_cons_succ → jY, getElem_cons_zero → jZ, setIfInBounds_toArray → JA, set_cons_zero → JB, set_cons_succ → JC
namespace Px
open Lx (tk mkTok)
theorem natV_small (D : List UInt8) (hd : ∀ c ∈ D, Lx.jT c = true) (hl : D.length ≤ 18) : Lx.natV D 0 < 1000000000000000000 := by
 have h := Lx.natV_bound D 0 1 hd (by omega)
 have h2 : (10 : Nat) ^ D.length ≤ 10 ^ 18 := Nat.pow_le_pow_right (by omega) hl
 have h3 : (10 : Nat) ^ 18 = 1000000000000000000 := by decide
 omega
/-- A token as it comes of a text. -/
structure TOk (t : Lx.Tok) : Prop where
 opn : t.kind = 0 → t.text = [40]
 num : t.kind = 2 → (-1000000000000000000 < t.int ∧ t.int < 1000000000000000000) ∧ Plain t.text
 word : t.kind ≠ 0 → t.kind ≠ 1 → t.kind ≠ 2 → Lx.IsTok t.kind t.text
 zero : t.kind ≠ 2 → t.int = 0
theorem isTok_arrow : Lx.IsTok 5 [45, 62] := by
 refine ⟨by simp, by decide, by decide, fun r hr => ?_⟩
 rfl
theorem u8_of {c : UInt8} {k : Nat} (h : c.toNat = k) (hk : k < 256) : c = UInt8.ofNat k := by
 apply UInt8.toNat_inj.1
 rw [h, UInt8.toNat_ofNat']
 omega
theorem single5 (c : UInt8) (h : Lx.single c = 5) : Lx.IsTok 5 [c] := by
 have hc : c.toNat = 95 ∨ c.toNat = 43 ∨ c.toNat = 45 ∨ c.toNat = 42 ∨ c.toNat = 47 ∨ c.toNat = 37 ∨ c.toNat = 61 ∨ c.toNat = 60 := by
  unfold Lx.single at h
  split at h
  · omega
  · split at h
    · omega
    · split at h
      · assumption
      · omega
 have key : ∀ k : Nat, k < 256 → c.toNat = k → (Lx.blankB (UInt8.ofNat k) = false ∧ (UInt8.ofNat k).toNat ≠ 59 ∧ Lx.jT (UInt8.ofNat k) = false ∧ Lx.smallB (UInt8.ofNat k) = false ∧ Lx.greatB (UInt8.ofNat k) = false ∧ ¬ Lx.single (UInt8.ofNat k) < 0) → Lx.IsTok 5 [c] := by
  intro k hk hck ⟨h1, h2, h3, h4, h5, h6⟩
  have e := u8_of hck hk
  rw [← e] at h1 h2 h3 h4 h5 h6
  have := Lx.isTok_single c h1 h2 h3 h4 h5 h6
  rw [h] at this; exact this
 rcases hc with e | e | e | e | e | e | e | e
 · exact key 95 (by omega) e (by decide)
 · exact key 43 (by omega) e (by decide)
 · exact key 45 (by omega) e (by decide)
 · exact key 42 (by omega) e (by decide)
 · exact key 47 (by omega) e (by decide)
 · exact key 37 (by omega) e (by decide)
 · exact key 61 (by omega) e (by decide)
 · exact key 60 (by omega) e (by decide)
theorem cons_of {l : List UInt8} (h : 0 < l.length) : l = Lx.at0 l 0 :: l.drop 1 := by
 cases l with
 | nil => simp at h
 | cons c r => rfl
theorem way_ok {l : List UInt8} {k : Int} {n : Nat} (h : Lx.Way l k n) (hn : n ≠ 0) (p : Nat) : TOk (mkTok p k (l.take n)) := by
 have hint : k = 2 → Lx.Way l 2 n := fun e => by rw [e] at h; exact h
 have hnum : k = 2 → (-1000000000000000000 < (mkTok p k (l.take n)).int ∧ (mkTok p k (l.take n)).int < 1000000000000000000) := by
  intro e
  subst e
  have hw := h
  show -1000000000000000000 < (if (2 : Int) = 2 then Lx.numV (l.take n) else 0) ∧ (if (2 : Int) = 2 then Lx.numV (l.take n) else 0) < 1000000000000000000
  rw [if_pos rfl]
  generalize hk : (2 : Int) = k' at hw
  have key : ∀ D : List UInt8, (∀ c ∈ D, Lx.jT c = true) → D.length ≤ 18 → (-1000000000000000000 < (Lx.natV D 0 : Int) ∧ (Lx.natV D 0 : Int) < 1000000000000000000) ∧ (-1000000000000000000 < -(Lx.natV D 0 : Int) ∧ -(Lx.natV D 0 : Int) < 1000000000000000000) := by
   intro D h1 h2
   have := natV_small D h1 h2
   exact ⟨⟨by omega, by omega⟩, ⟨by omega, by omega⟩⟩
  cases hw with
  | arrow => omega
  | neg h1 h2 h3 h4 =>
    have e0 : Lx.at0 (l.take (1 + Lx.cnt Lx.jT (l.drop 1))) 0 = Lx.at0 l 0 := at0_take _ _ _ (by omega)
    unfold Lx.numV
    rw [e0, if_pos h1]
    have hdr : (l.take (1 + Lx.cnt Lx.jT (l.drop 1))).drop 1 = (l.drop 1).take (Lx.cnt Lx.jT (l.drop 1)) := by rw [List.drop_take]; congr 1; omega
    rw [hdr]
    exact (key _ (Lx.cnt_spec Lx.jT (l.drop 1)) (by rw [List.length_take]; omega)).2
  | pos h1 h2 h3 =>
    have hpos : 0 < Lx.cnt Lx.jT l := by omega
    have e0 : Lx.at0 (l.take (Lx.cnt Lx.jT l)) 0 = Lx.at0 l 0 := at0_take _ _ _ hpos
    unfold Lx.numV
    rw [e0, if_neg (Lx.digit_not_blank _ h1).2.2.1]
    exact (key _ (Lx.cnt_spec Lx.jT l) (by rw [List.length_take]; omega)).1
  | name => omega
  | con => omega
  | one h1 h2 => rcases Lx.single_cases (Lx.at0 l 0) with e | e | e | e <;> omega
  | none => omega
 refine ⟨fun e => ?_, fun e => ⟨hnum e, way_plain (hint e)⟩, fun e0 e1 e2 => ?_, fun e => if_neg e⟩
 · have e' : k = 0 := e
   subst e'
   have h40 := Lx.way_open h hn
   have hl : 0 < l.length := by
    cases l with
    | nil => exact absurd h40 (by decide)
    | cons c r => simp
   have hn1 : n = 1 := by
    generalize hk : (0 : Int) = k' at h
    cases h with
    | arrow => omega
    | neg => omega
    | pos => omega
    | name => omega
    | con => omega
    | one => rfl
    | none => omega
   subst hn1
   show l.take 1 = [40]
   rw [cons_of hl, List.take_succ_cons, List.take_zero]
   congr 1
   exact u8_of (k := 40) h40 (by omega)
 · have e0' : k ≠ 0 := e0
   have e1' : k ≠ 1 := e1
   have e2' : k ≠ 2 := e2
   show Lx.IsTok k (l.take n)
   have hw := h
   cases hw with
   | arrow h1 h2 =>
     have hl : 1 < l.length := Lx.ne_out l 1 (fun c => c.toNat == 62) (by decide) (by simp [h2])
     have : l.take 2 = [45, 62] := by
      cases l with
      | nil => simp at hl
      | cons c r =>
        cases r with
        | nil => simp at hl
        | cons d r =>
          have hc : c = 45 := u8_of (k := 45) h1 (by omega)
          have hd : d = 62 := u8_of (k := 62) h2 (by omega)
          subst hc; subst hd; rfl
     rw [this]; exact isTok_arrow
   | neg => omega
   | pos => omega
   | name hs =>
     have hl : 0 < l.length := Lx.ne_out l 0 Lx.smallB (by decide) hs
     rw [cons_of hl, List.take_succ_cons]
     exact Lx.isTok_small _ _ hs (Lx.cnt_spec Lx.wordB (l.drop 1))
   | con hs =>
     have hl : 0 < l.length := Lx.ne_out l 0 Lx.greatB (by decide) hs
     rw [cons_of hl, List.take_succ_cons]
     exact Lx.isTok_great _ _ hs (Lx.cnt_spec Lx.wordB (l.drop 1))
   | one hs _ =>
     have h5 : Lx.single (Lx.at0 l 0) = 5 := by rcases Lx.single_cases (Lx.at0 l 0) with e | e | e | e <;> omega
     have hl : 0 < l.length := Lx.ne_out l 0 (fun c => decide (Lx.single c = 5)) (by decide) (by simp [h5])
     have : l.take 1 = [Lx.at0 l 0] := by
      cases l with
      | nil => simp at hl
      | cons c r => rfl
     rw [this, h5]
     exact single5 _ h5
   | none => omega
theorem toks_ok : ∀ (f p : Nat) (l : List UInt8), ∀ t ∈ (Lx.toks f p l).1, TOk t := by
 intro f
 induction f with
 | zero => intro p l t h; simp [Lx.toks] at h
 | succ f ih =>
   intro p l t h
   rw [Lx.toks_step] at h
   by_cases h1 : l.length ≤ Lx.skipC false l
   · rw [if_pos h1] at h; simp at h
   · rw [if_neg h1] at h
     by_cases h2 : (Lx.tokAt (l.drop (Lx.skipC false l))).2 = 0
     · rw [if_pos h2] at h; simp at h
     · rw [if_neg h2] at h
       rcases List.mem_cons.1 h with rfl | h
       · exact way_ok (Lx.way _) h2 _
       · exact ih _ _ t h
/-- A node as it comes of a text's tokens. -/
inductive NodeGood : Node → Prop
 | leaf (t : Lx.Tok) : TOk t → t.kind ≠ 0 → t.kind ≠ 1 → NodeGood (.mk t [] (takesOf t.text))
 | list (t : Lx.Tok) (l : List Node) : TOk t → t.kind = 0 → (∀ m ∈ l, NodeGood m) → NodeGood (.mk t l 0)
theorem NodeGood.kid {n m : Node} (h : NodeGood n) (hm : m ∈ n.list) : NodeGood m := by
 cases h with
 | leaf t h1 h2 h3 => cases hm
 | list t l h1 h2 h3 => exact h3 m hm
theorem node_good (stop : Nat) : ∀ (f d : Nat) (ts : List Lx.Tok), (∀ t ∈ ts, TOk t) →
 (∀ n ts', node stop f d ts = .ok (n, ts') → NodeGood n ∧ ∀ t ∈ ts', TOk t) ∧ (∀ l ts', rest stop f d ts = .ok (l, ts') → (∀ m ∈ l, NodeGood m) ∧ ∀ t ∈ ts', TOk t) := by
 intro f
 induction f with
 | zero => intro d ts _; exact ⟨fun n ts' h => (by cases h), fun l ts' h => (by cases h)⟩
 | succ f ih =>
   intro d ts hp
   cases ts with
   | nil => exact ⟨fun n ts' h => (by cases h), fun l ts' h => (by cases h)⟩
   | cons t ts =>
     have hpt := hp t (by simp)
     have hps : ∀ u ∈ ts, TOk u := fun u hu => hp u (by simp [hu])
     constructor
     · intro n ts' h
       rw [node] at h
       by_cases k1 : t.kind = 1
       · rw [if_pos k1] at h; cases h
       · rw [if_neg k1] at h
         by_cases k0 : t.kind = 0
         · rw [if_pos k0] at h
           by_cases hd : d = 40
           · rw [if_pos hd] at h; cases h
           · rw [if_neg hd] at h
             cases hr : rest stop f (d + 1) ts with
             | error p => rw [hr] at h; cases h
             | ok x =>
               obtain ⟨l, ts1⟩ := x
               rw [hr] at h
               simp only [Except.ok.injEq, Prod.mk.injEq] at h
               obtain ⟨rfl, rfl⟩ := h
               obtain ⟨h1, h2⟩ := (ih (d + 1) ts hps).2 _ _ hr
               exact ⟨.list _ _ hpt k0 h1, h2⟩
         · rw [if_neg k0] at h
           simp only [Except.ok.injEq, Prod.mk.injEq] at h
           obtain ⟨rfl, rfl⟩ := h
           exact ⟨.leaf _ hpt k0 k1, hps⟩
     · intro l ts' h
       rw [rest] at h
       by_cases k1 : t.kind = 1
       · rw [if_pos k1] at h
         simp only [Except.ok.injEq, Prod.mk.injEq] at h
         obtain ⟨rfl, rfl⟩ := h
         exact ⟨fun m hm => (by cases hm), hps⟩
       · rw [if_neg k1] at h
         cases hn : node stop f d (t :: ts) with
         | error p => rw [hn] at h; cases h
         | ok x =>
           obtain ⟨n, ts1⟩ := x
           rw [hn] at h
           simp only at h
           obtain ⟨h1, h2⟩ := (ih d (t :: ts) hp).1 _ _ hn
           cases hr : rest stop f d ts1 with
           | error p => rw [hr] at h; cases h
           | ok y =>
             obtain ⟨l', ts2⟩ := y
             rw [hr] at h
             simp only [Except.ok.injEq, Prod.mk.injEq] at h
             obtain ⟨rfl, rfl⟩ := h
             obtain ⟨h3, h4⟩ := (ih d ts1 h2).2 _ _ hr
             exact ⟨fun m hm => (List.mem_cons.1 hm).elim (fun e => e ▸ h1) (h3 m), h4⟩
end Px
end Go.Proofs.Ytgoacbomphlhjaa

namespace Go.Proofs.Ytgoacbomphlhjaa
open Go.Lib (hid)
open List renaming getElem_toArray → jX, getElem_cons_succ → jY, getElem_cons_zero → jZ, setIfInBounds_toArray → JA, set_cons_zero → JB, set_cons_succ → JC
open Go Go.RowKit
theorem Lx.at0_in (l : List UInt8) (k : Nat) (h : k < l.length) : Lx.at0 l k ∈ l := by
 unfold Lx.at0; rw [List.getD_eq_getElem?_getD, List.getElem?_eq_getElem h]; exact List.getElem_mem h
def memB (c : UInt8) (l : List UInt8) : Bool := l.any fun x => x.toNat == c.toNat
theorem memB_at (c : UInt8) (l : List UInt8) (j : Nat) (hj : j < l.length) (h : (Lx.at0 l j).toNat = c.toNat) : memB c l = true := by
 rw [memB, List.any_eq_true]; exact ⟨Lx.at0 l j, Lx.at0_in l j hj, by simp [h]⟩
theorem memB_none (c : UInt8) (l : List UInt8) (h : ∀ j, j < l.length → (Lx.at0 l j).toNat ≠ c.toNat) : memB c l = false := by
 rw [memB, List.any_eq_false]
 intro x hx
 obtain ⟨j, hj, rfl⟩ := List.getElem_of_mem hx
 have := h j hj
 simp [Lx.at0, List.getD_eq_getElem?_getD, List.getElem?_eq_getElem hj] at this
 simpa using this
theorem str_at (l : List UInt8) (k : Nat) (h : k < (ByteArray.mk l.toArray).size) : (ByteArray.mk l.toArray)[k]'h = Lx.at0 l k := by
 have h' : k < l.length := by simpa [ByteArray.size] using h
 unfold Lx.at0
 rw [List.getD_eq_getElem?_getD, List.getElem?_eq_getElem h']
 rfl
theorem jV (l : List UInt8) (k : Nat) (h : k < l.length) : k < (ByteArray.mk l.toArray).size := by simpa [ByteArray.size] using h
set_option maxHeartbeats 400000 in
theorem in_any (c : UInt8) (l : List UInt8) (w : World) (hm : l.length ≤ 1000000) :
 Calls Try.prog 64 #[.int .u8 c.toNat, .string ⟨l.toArray⟩] w fun e w' => e = .returned (.bool (memB c l)) ∧ w = w' := by
 go_enter Try.func64, Try.ntmps64
 go_wp2_with fail
 go_loop [5] (fun i => ∃ k : Nat, k ≤ l.length ∧ i = .int .i64 k ∧ Hid (∀ j, j < k → (Lx.at0 l j).toNat ≠ c.toNat)) (fun i => l.length - (intOf i).toNat)
 case atStart => exact ⟨0, by omega, rfl, fun j h => absurd h (by omega)⟩
 case round =>
  obtain ⟨k, hk, rfl, hno⟩ := hrel
  by_cases hlt : k < l.length
  · have e := str_at l k (jV l k hlt)
    by_cases h : (Lx.at0 l k).toNat = c.toNat
    · have h1 : ((((ByteArray.mk l.toArray)[k]'(jV l k hlt)).toNat : Int) == (c.toNat : Int)) = true := by rw [e]; simp [h]
      have HM := hid (memB_at c l k hlt h)
      clear e h
      go_wp2
      go_ret
      exact ⟨ret_bool HM.out.symm, rfl⟩
    · have h1 : ((((ByteArray.mk l.toArray)[k]'(jV l k hlt)).toNat : Int) == (c.toNat : Int)) = false := by rw [e]; simp; omega
      have HN : Hid (∀ j, j < k + 1 → (Lx.at0 l j).toNat ≠ c.toNat) := fun j hj => by
       by_cases hjk : j = k
       · subst hjk; exact h
       · exact hno.out j (by omega)
      clear e h
      go_wp2
      go_round
      case rel => exact ⟨k + 1, by omega, by go_num, HN⟩
      case measure => simp [intOf]; omega
  · obtain rfl : k = l.length := by omega
    have HM := hid (memB_none c l hno.out)
    clear hno
    go_wp2
    go_ret
    exact ⟨ret_bool HM.out.symm, rfl⟩
def digitsL : List UInt8 := [48, 49, 50, 51, 52, 53, 54, 55, 56, 57]
def smallL : List UInt8 := [97, 98, 99, 100, 101, 102, 103, 104, 105, 106, 107, 108, 109, 110, 111, 112, 113, 114, 115, 116, 117, 118, 119, 120, 121, 122]
def greatL : List UInt8 := [65, 66, 67, 68, 69, 70, 71, 72, 73, 74, 75, 76, 77, 78, 79, 80, 81, 82, 83, 84, 85, 86, 87, 88, 89, 90]
def insideL : List UInt8 := [97, 98, 99, 100, 101, 102, 103, 104, 105, 106, 107, 108, 109, 110, 111, 112, 113, 114, 115, 116, 117, 118, 119, 120, 121, 122, 65, 66, 67, 68, 69, 70, 71, 72, 73, 74, 75, 76, 77, 78, 79, 80, 81, 82, 83, 84, 85, 86, 87, 88, 89, 90, 48, 49, 50, 51, 52, 53, 54, 55, 56, 57, 39]
def blankL : List UInt8 := [32, 10, 9, 13]
def symL : List UInt8 := [95, 43, 45, 42, 47, 37, 61, 60]
theorem mem_digits (c : UInt8) : memB c digitsL = Lx.jT c := by rw [Bool.eq_iff_iff]; simp [memB, digitsL, Lx.jT]; omega
theorem mem_small (c : UInt8) : memB c smallL = Lx.smallB c := by rw [Bool.eq_iff_iff]; simp [memB, smallL, Lx.smallB]; omega
theorem mem_great (c : UInt8) : memB c greatL = Lx.greatB c := by rw [Bool.eq_iff_iff]; simp [memB, greatL, Lx.greatB]; omega
theorem mem_blank (c : UInt8) : memB c blankL = Lx.blankB c := by rw [Bool.eq_iff_iff]; simp [memB, blankL, Lx.blankB]; omega
theorem mem_inside (c : UInt8) : memB c insideL = Lx.wordB c := by
 have e : insideL = smallL ++ (greatL ++ (digitsL ++ [39])) := rfl
 have h39 : memB c [39] = (c.toNat == 39) := by rw [Bool.eq_iff_iff]; simp [memB]; omega
 have ha : ∀ a b : List UInt8, memB c (a ++ b) = (memB c a || memB c b) := fun a b => by simp [memB]
 rw [e, ha, ha, ha, mem_small, mem_great, mem_digits, h39]
 unfold Lx.wordB
 cases Lx.smallB c <;> cases Lx.greatB c <;> cases Lx.jT c <;> simp
/-- At the document's sets. -/
theorem in_digits (c : UInt8) (w : World) : Calls Try.prog 64 #[.int .u8 c.toNat, .string ⟨#[48, 49, 50, 51, 52, 53, 54, 55, 56, 57]⟩] w fun e w' => e = .returned (.bool (Lx.jT c)) ∧ w = w' := by
 rw [← mem_digits]; exact in_any c digitsL w (by decide)
theorem in_small (c : UInt8) (w : World) : Calls Try.prog 64 #[.int .u8 c.toNat, .string ⟨smallL.toArray⟩] w fun e w' => e = .returned (.bool (Lx.smallB c)) ∧ w = w' := by
 rw [← mem_small]; exact in_any c smallL w (by decide)
theorem in_great (c : UInt8) (w : World) : Calls Try.prog 64 #[.int .u8 c.toNat, .string ⟨greatL.toArray⟩] w fun e w' => e = .returned (.bool (Lx.greatB c)) ∧ w = w' := by
 rw [← mem_great]; exact in_any c greatL w (by decide)
theorem in_blank (c : UInt8) (w : World) : Calls Try.prog 64 #[.int .u8 c.toNat, .string ⟨#[32, 10, 9, 13]⟩] w fun e w' => e = .returned (.bool (Lx.blankB c)) ∧ w = w' := by
 rw [← mem_blank]; exact in_any c blankL w (by decide)
theorem in_sym (c : UInt8) (w : World) : Calls Try.prog 64 #[.int .u8 c.toNat, .string ⟨symL.toArray⟩] w fun e w' => e = .returned (.bool (memB c symL)) ∧ w = w' :=
 in_any c symL w (by decide)
end Go.Proofs.Ytgoacbomphlhjaa

namespace Go.Proofs.Ytgoacbomphlhjaa
open Go.Lib (hid)
open List renaming getElem_toArray → jX, getElem_cons_succ → jY, getElem_cons_zero → jZ, setIfInBounds_toArray → JA, set_cons_zero → JB, set_cons_succ → JC
open Go Go.RowKit
set_option maxHeartbeats 1000000 in
theorem take_any (l L : List UInt8) (a : Nat) (w : World) (ha : a ≤ l.length) (hm : l.length ≤ 1000000) (hL : L.length ≤ 1000000) (h0 : memB 0 L = false) :
 Calls Try.prog 66 #[.string ⟨l.toArray⟩, .int .i64 a, .string ⟨L.toArray⟩] w fun e w' => e = .returned (.int .i64 (Lx.cnt (fun c => memB c L) (l.drop a))) ∧ w = w' := by
 go_enter Try.func66, Try.ntmps66
 go_wp2_with fail
 go_loop [7] (fun i => ∃ k : Nat, a + k ≤ l.length ∧ i = .int .i64 k ∧ Hid (k + Lx.cnt (fun c => memB c L) (l.drop (a + k)) = Lx.cnt (fun c => memB c L) (l.drop a))) (fun i => l.length - (intOf i).toNat)
 case atStart => exact ⟨0, by omega, rfl, by show 0 + _ = _; rw [Nat.zero_add, Nat.add_zero]⟩
 case round =>
  obtain ⟨k, hk, rfl, hc⟩ := hrel
  cases hb : memB (Lx.at0 l (a + k)) L
  · have hs := Lx.cnt_stop (fun c => memB c L) l (a + k) hb
    have Hc : Hid (Lx.cnt (fun c => memB c L) (l.drop a) = k) := by have := hc.out; rw [hs] at this; exact hid (by omega)
    clear hs hc
    rw [Hc.out]
    have Hb := hid hb; clear hb
    by_cases hlt : a + k < l.length
    · go_wp2_with fail
      refine (in_any _ L _ hL).mono ?_; rintro e w1 ⟨rfl, rfl⟩
      rw [str_at l (a + k) (jV l (a + k) hlt), Hb.out]
      go_wp2_with fail
      go_ret
      exact ⟨by rw [Hc.out]; rfl, rfl⟩
    · go_wp2_with fail
      go_ret
      exact ⟨by rw [Hc.out]; rfl, rfl⟩
  · obtain ⟨hlt, hs⟩ := Lx.cnt_step (fun c => memB c L) l (a + k) h0 hb
    have Hc : Hid ((k + 1) + Lx.cnt (fun c => memB c L) (l.drop (a + (k + 1))) = Lx.cnt (fun c => memB c L) (l.drop a)) := by have := hc.out; rw [hs] at this; rw [← Nat.add_assoc a]; exact hid (by omega)
    clear hs hc
    generalize Lx.cnt (fun c => memB c L) (l.drop a) = T at *
    have Hb := hid hb; clear hb
    go_wp2_with fail
    refine (in_any _ L _ hL).mono ?_; rintro e w1 ⟨rfl, rfl⟩
    rw [str_at l (a + k) (jV l (a + k) hlt), Hb.out]
    go_wp2_with fail
    go_round
    case rel => exact ⟨k + 1, by omega, by go_num, Hc⟩
    case measure => simp [intOf]; omega
set_option maxHeartbeats 1000000 in
theorem refSkip_any (l : List UInt8) (a : Nat) (w : World) (ha : a ≤ l.length) (hm : l.length ≤ 1000000) :
 Calls Try.prog 36 #[.string ⟨l.toArray⟩, .int .i64 a] w fun e w' => e = .returned (.int .i64 ((a + Lx.skipC false (l.drop a) : Nat) : Int)) ∧ w = w' := by
 generalize hT : a + Lx.skipC false (l.drop a) = T
 have HT := hid hT; clear hT
 go_enter Try.func36, Try.ntmps36
 go_wp2_with fail
 go_loop [1] (fun i => ∃ k : Nat, k ≤ l.length ∧ i = .int .i64 k ∧ Hid (k + Lx.skipC false (l.drop k) = T)) (fun i => l.length - (intOf i).toNat)
 case atStart => exact ⟨a, ha, rfl, HT⟩
 case round =>
  clear HT ha a
  obtain ⟨k, hk, rfl, hc⟩ := hrel
  by_cases hlt : k < l.length
  · have e := str_at l k (jV l k hlt)
    have He := hid e; clear e
    cases hb : Lx.blankB (Lx.at0 l k)
    · by_cases hs : (Lx.at0 l k).toNat = 59
      · obtain ⟨_, h2⟩ := Lx.skip_semi l k hs
        have h3 := Lx.skip_note l k hlt (by omega)
        have Hc : Hid (k + Lx.skipC true (l.drop k) = T) := by have := hc.out; exact hid (by omega)
        have h1 : ((((ByteArray.mk l.toArray)[k]'(jV l k hlt)).toNat : Int) != 59) = false := by rw [He.out]; simp [hs]
        have Hb := hid hb; have Hs := hid hs
        clear hb hs h2 h3 hc
        go_wp2_with fail
        refine (in_blank _ _).mono ?_; rintro e w1 ⟨rfl, rfl⟩
        have hbl : Lx.blankB ((ByteArray.mk l.toArray)[k]'(jV l k hlt)) = false := by rw [He.out, Hb.out]
        rw [hbl]
        clear hbl
        go_wp2_with fail
        clear h1
        go_loop [1] (fun i => ∃ j : Nat, k ≤ j ∧ j ≤ l.length ∧ i = .int .i64 j ∧ Hid (j + Lx.skipC true (l.drop j) = T)) (fun i => l.length - (intOf i).toNat)
        case atStart => exact ⟨k, by omega, by omega, rfl, Hc⟩
        case round =>
         clear Hc
         obtain ⟨j, hkj, hj, rfl, hd⟩ := hrel
         by_cases hjl : j < l.length
         · have e := str_at l j (jV l j hjl)
           by_cases h10 : (Lx.at0 l j).toNat = 10
           · have h1 : ((((ByteArray.mk l.toArray)[j]'(jV l j hjl)).toNat : Int) != 10) = false := by rw [e]; simp [h10]
             have h4 := Lx.skip_line l j (fun _ => h10)
             have Hd : Hid (j + Lx.skipC false (l.drop j) = T) := by have := hd.out; rw [h4] at this; exact hid this
             have hjk : k < j := by
              rcases Nat.lt_or_ge k j with h | h
              · exact h
              · obtain rfl : k = j := by omega
                have := Hs.out; omega
             clear h4 hd e h10
             go_wp2
             go_round
             case rel => exact ⟨j, by omega, rfl, Hd⟩
             case measure => simp [intOf]; omega
           · have h1 : ((((ByteArray.mk l.toArray)[j]'(jV l j hjl)).toNat : Int) != 10) = true := by rw [e]; simp; omega
             have h4 := Lx.skip_note l j hjl h10
             have Hd : Hid ((j + 1) + Lx.skipC true (l.drop (j + 1)) = T) := by have := hd.out; exact hid (by omega)
             clear h4 hd e h10
             go_wp2
             go_round
             case rel => exact ⟨j + 1, by omega, by omega, by go_num, Hd⟩
             case measure => simp [intOf]; omega
         · have h4 := Lx.skip_line l j (fun h => absurd h hjl)
           have Hd : Hid (j + Lx.skipC false (l.drop j) = T) := by have := hd.out; rw [h4] at this; exact hid this
           clear h4 hd
           go_wp2
           go_round
           case rel => exact ⟨j, by omega, rfl, Hd⟩
           case measure => simp [intOf]; omega
      · have h2 := Lx.skip_end l k hb hs
        have Hc : Hid (T = k) := by have := hc.out; exact hid (by omega)
        have h1 : ((((ByteArray.mk l.toArray)[k]'(jV l k hlt)).toNat : Int) != 59) = true := by rw [He.out]; simp; omega
        have Hb := hid hb
        clear hb hs h2 hc
        go_wp2_with fail
        refine (in_blank _ _).mono ?_; rintro e w1 ⟨rfl, rfl⟩
        have hbl : Lx.blankB ((ByteArray.mk l.toArray)[k]'(jV l k hlt)) = false := by rw [He.out, Hb.out]
        rw [hbl]
        clear hbl
        go_wp2_with fail
        go_ret
        exact ⟨by rw [Hc.out]; rfl, rfl⟩
    · obtain ⟨_, h2⟩ := Lx.skip_blank l k hb
      have Hc : Hid ((k + 1) + Lx.skipC false (l.drop (k + 1)) = T) := by have := hc.out; exact hid (by omega)
      have Hb := hid hb
      clear hb h2 hc
      go_wp2_with fail
      refine (in_blank _ _).mono ?_; rintro e w1 ⟨rfl, rfl⟩
      have hbl : Lx.blankB ((ByteArray.mk l.toArray)[k]'(jV l k hlt)) = true := by rw [He.out, Hb.out]
      rw [hbl]
      clear hbl
      go_wp2_with fail
      go_round
      case rel => exact ⟨k + 1, by omega, by go_num, Hc⟩
      case measure => simp [intOf]; omega
  · have h2 : Lx.skipC false (l.drop k) = 0 := by rw [List.drop_eq_nil_of_le (by omega)]; rfl
    have Hc : Hid (T = k) := by have := hc.out; exact hid (by omega)
    clear h2 hc
    go_wp2_with fail
    go_ret
    exact ⟨by rw [Hc.out]; rfl, rfl⟩
end Go.Proofs.Ytgoacbomphlhjaa

namespace Go.Proofs.Ytgoacbomphlhjaa
open Go.Lib (hid)
open List renaming getElem_toArray → jX, getElem_cons_succ → jY, getElem_cons_zero → jZ, setIfInBounds_toArray → JA, set_cons_zero → JB, set_cons_succ → JC
open Go Go.RowKit
theorem natV_step (D : List UInt8) (i : Nat) (h : i < D.length) : Lx.natV (D.take (i + 1)) 0 = Lx.natV (D.take i) 0 * 10 + ((Lx.at0 D i).toNat - 48) := by
 have e : D.take (i + 1) = D.take i ++ [Lx.at0 D i] := by
  rw [List.take_succ_eq_append_getElem h]
  simp [Lx.at0, List.getD_eq_getElem?_getD, List.getElem?_eq_getElem h]
 rw [e, Lx.natV_append, Lx.natV_cons]; rfl
theorem cnt_digit (D : List UInt8) (i : Nat) (h : i < Lx.cnt Lx.jT D) : Lx.jT (Lx.at0 D i) = true := by
 have hl := Lx.cnt_le Lx.jT D
 have hm := Lx.cnt_spec Lx.jT D
 refine hm _ ?_
 rw [← Lx.take_at0 D (Lx.cnt Lx.jT D) i h]
 exact Lx.at0_in _ _ (by rw [List.length_take]; omega)
theorem natV_small (D : List UInt8) (i : Nat) (h : i ≤ Lx.cnt Lx.jT D) (h17 : i ≤ 18) : Lx.natV (D.take i) 0 < 1000000000000000000 := by
 have hb := Lx.natV_bound (D.take i) 0 1 (fun c hc => by
  refine Lx.cnt_spec Lx.jT D c ?_
  have : D.take i = (D.take (Lx.cnt Lx.jT D)).take i := by rw [List.take_take, Nat.min_eq_left h]
  rw [this] at hc
  exact List.mem_of_mem_take hc) (by omega)
 have hp := Lx.pow18 (D.take i).length (by rw [List.length_take]; omega)
 omega
theorem natV_small17 (D : List UInt8) (i : Nat) (h : i ≤ Lx.cnt Lx.jT D) (h17 : i ≤ 17) : Lx.natV (D.take i) 0 < 100000000000000000 := by
 have hb := Lx.natV_bound (D.take i) 0 1 (fun c hc => by
  refine Lx.cnt_spec Lx.jT D c ?_
  have : D.take i = (D.take (Lx.cnt Lx.jT D)).take i := by rw [List.take_take, Nat.min_eq_left h]
  rw [this] at hc
  exact List.mem_of_mem_take hc) (by omega)
 have hp : 10 ^ (D.take i).length ≤ 100000000000000000 := Nat.le_trans (Nat.pow_le_pow_right (by omega) (show (D.take i).length ≤ 17 by rw [List.length_take]; omega)) (Nat.le_refl (10 ^ 17))
 omega
theorem take_int (l L : List UInt8) (i : Int) (w : World) (h : 0 ≤ i) (ha : i ≤ l.length) (hm : l.length ≤ 1000000) (hL : L.length ≤ 1000000) (h0 : memB 0 L = false) :
 Calls Try.prog 66 #[.string ⟨l.toArray⟩, .int .i64 i, .string ⟨L.toArray⟩] w fun e w' => e = .returned (.int .i64 (Lx.cnt (fun c => memB c L) (l.drop i.toNat))) ∧ w = w' := by
 obtain ⟨k, rfl⟩ := Int.eq_ofNat_of_zero_le h
 rw [Int.toNat_natCast]
 exact take_any l L k w (by omega) hm hL h0
set_option maxHeartbeats 2000000 in
set_option maxRecDepth 100000 in
theorem number_pos_bad (l : List UInt8) (a : Nat) (w : World) (ha : a < l.length) (hm : l.length ≤ 1000000) (hd : Lx.jT (Lx.at0 l a) = true)
 (hbad : 18 < Lx.cnt Lx.jT (l.drop a) ∨ Lx.wordB (Lx.at0 l (a + Lx.cnt Lx.jT (l.drop a))) = true) :
 Calls Try.prog 65 #[.string ⟨l.toArray⟩, .int .i64 a] w fun e w' => e = .returned (.tuple #[.int .i64 0, .int .i64 0, .bool false]) ∧ w = w' := by
 have e := str_at l a (jV l a ha)
 have hb := Lx.digit_bd _ hd
 have h1 : ((((ByteArray.mk l.toArray)[a]'(jV l a ha)).toNat : Int) == 45) = false := by rw [e]; simp; omega
 clear hb
 have hle := Lx.cnt_le Lx.jT (l.drop a)
 rw [List.length_drop] at hle
 have hfun : (fun c => memB c digitsL) = Lx.jT := funext mem_digits
 have hfits : ∀ i, i < Lx.cnt Lx.jT (l.drop a) → Lx.jT (Lx.at0 l (a + i)) = true := fun i hi => by
  have := cnt_digit (l.drop a) i hi; rwa [Lx.at0_drop] at this
 have hst := natV_step (l.drop a)
 have hsm := natV_small17 (l.drop a)
 have htk := take_any l digitsL a w (by omega) hm (by decide) (by decide)
 rw [hfun] at htk
 generalize hN : Lx.cnt Lx.jT (l.drop a) = N at *
 have HN := hid hN; have HT := hid htk; have HF := hid hfits; have HST := hid hst; have HSM := hid hsm; have HFUN := hid hfun
 clear hN htk hfits hst hsm e hd hfun
 go_enter Try.func65, Try.ntmps65
 go_wp2_with fail
 refine HT.out.mono ?_; rintro e w1 ⟨rfl, rfl⟩
 by_cases h18 : 18 < N
 · have h18' : (18 : Int) < (N : Int) := by omega
   clear hbad
   go_wp2_with fail
   go_ret3
   exact ⟨rfl, rfl⟩
 · have h18' : ¬ (18 : Int) < (N : Int) := by omega
   have hw : Lx.wordB (Lx.at0 l (a + N)) = true := hbad.resolve_left h18
   have hin : (a + N) < l.length := Lx.ne_out l _ Lx.wordB (by decide) hw
   have Hw := hid hw
   clear hbad hw
   go_wp2_with fail
   refine (in_any _ insideL _ (by decide)).mono ?_; rintro e w1 ⟨rfl, rfl⟩
   rw [str_at l (a + N) (jV l (a + N) hin), mem_inside, Hw.out]
   go_wp2_with fail
   go_ret3
   exact ⟨rfl, rfl⟩
set_option maxHeartbeats 2000000 in
set_option maxRecDepth 100000 in
theorem number_pos_ok (l : List UInt8) (a : Nat) (w : World) (ha : a < l.length) (hm : l.length ≤ 1000000) (hd : Lx.jT (Lx.at0 l a) = true)
 (h18 : ¬ 18 < Lx.cnt Lx.jT (l.drop a)) (hw : Lx.wordB (Lx.at0 l (a + Lx.cnt Lx.jT (l.drop a))) = false) :
 Calls Try.prog 65 #[.string ⟨l.toArray⟩, .int .i64 a] w fun e w' => e = .returned (.tuple #[.int .i64 (((Lx.natV ((l.drop a).take (Lx.cnt Lx.jT (l.drop a))) 0 : Nat) : Int)), .int .i64 ((Lx.cnt Lx.jT (l.drop a) : Nat) : Int), .bool true]) ∧ w = w' := by
 have e := str_at l a (jV l a ha)
 have hb := Lx.digit_bd _ hd
 have h1 : ((((ByteArray.mk l.toArray)[a]'(jV l a ha)).toNat : Int) == 45) = false := by rw [e]; simp; omega
 clear hb
 have hle := Lx.cnt_le Lx.jT (l.drop a)
 rw [List.length_drop] at hle
 have hfun : (fun c => memB c digitsL) = Lx.jT := funext mem_digits
 have hfits : ∀ i, i < Lx.cnt Lx.jT (l.drop a) → Lx.jT (Lx.at0 l (a + i)) = true := fun i hi => by
  have := cnt_digit (l.drop a) i hi; rwa [Lx.at0_drop] at this
 have hst := natV_step (l.drop a)
 have hsm := natV_small17 (l.drop a)
 have htk := take_any l digitsL a w (by omega) hm (by decide) (by decide)
 rw [hfun] at htk
 generalize hN : Lx.cnt Lx.jT (l.drop a) = N at *
 have HN := hid hN; have HT := hid htk; have HF := hid hfits; have HST := hid hst; have HSM := hid hsm; have HFUN := hid hfun
 clear hN htk hfits hst hsm e hd hfun
 go_enter Try.func65, Try.ntmps65
 go_wp2_with fail
 refine HT.out.mono ?_; rintro e w1 ⟨rfl, rfl⟩
 have h18' : ¬ (18 : Int) < (N : Int) := by omega
 have Hw := hid hw; clear hw
 by_cases hin : (a + N) < l.length
 · go_wp2_with fail
   refine (in_any _ insideL _ (by decide)).mono ?_; rintro e w1 ⟨rfl, rfl⟩
   rw [str_at l (a + N) (jV l (a + N) hin), mem_inside, Hw.out]
   go_wp2_with fail
   go_loop [9, 10] (fun v i => ∃ k : Nat, k ≤ N ∧ i = .int .i64 k ∧ v = .int .i64 (Lx.natV ((l.drop a).take k) 0 : Nat)) (fun _ i => N - (intOf i).toNat)
   case atStart => exact ⟨0, by omega, rfl, rfl⟩
   case round =>
    obtain ⟨k, hk, rfl, rfl⟩ := hrel
    by_cases hlt : k < N
    · have hdg := Lx.digit_bd _ (HF.out k hlt)
      have hv := HSM.out k (by omega) (by omega)
      have hs := HST.out k (by rw [List.length_drop]; omega)
      rw [Lx.at0_drop] at hs
      have hkl : a + k < l.length := by omega
      have e := str_at l (a + k) (jV l _ hkl)
      have hb0 : (48 : Int) ≤ (((ByteArray.mk l.toArray)[a + k]'(jV l _ hkl)).toNat : Int) := by rw [e]; omega
      have hb1 : (((ByteArray.mk l.toArray)[a + k]'(jV l _ hkl)).toNat : Int) ≤ 57 := by rw [e]; omega
      have hsum : (10 : Int) * (Lx.natV ((l.drop a).take k) 0 : Nat) + ((((ByteArray.mk l.toArray)[a + k]'(jV l _ hkl)).toNat : Int) - 48) = ((Lx.natV ((l.drop a).take (k + 1)) 0 : Nat) : Int) := by rw [e]; omega
      generalize Lx.natV ((l.drop a).take k) 0 = V at *
      generalize hV' : Lx.natV ((l.drop a).take (k + 1)) 0 = V' at *
      have HS := hid hsum; have HV' := hid hV'
      clear hs hsum e hdg hV'
      go_wp2
      go_round
      case rel => exact ⟨k + 1, by omega, by go_num, by rw [HV'.out, HS.out]⟩
      case measure => simp [intOf]; omega
    · obtain rfl : k = N := by omega
      have HV := hid (natV_small (l.drop a) k (by rw [HN.out]; omega) (by omega))
      generalize hV : Lx.natV ((l.drop a).take k) 0 = V at *
      have HVe := hid hV; clear hV
      have hV1 : (V : Int) < 1000000000000000000 := by have := HV.out; omega
      go_wp2
      go_ret3
      exact ⟨by rw [HVe.out]; rfl, rfl⟩
 · go_wp2_with fail
   go_loop [9, 10] (fun v i => ∃ k : Nat, k ≤ N ∧ i = .int .i64 k ∧ v = .int .i64 (Lx.natV ((l.drop a).take k) 0 : Nat)) (fun _ i => N - (intOf i).toNat)
   case atStart => exact ⟨0, by omega, rfl, rfl⟩
   case round =>
    obtain ⟨k, hk, rfl, rfl⟩ := hrel
    by_cases hlt : k < N
    · have hdg := Lx.digit_bd _ (HF.out k hlt)
      have hv := HSM.out k (by omega) (by omega)
      have hs := HST.out k (by rw [List.length_drop]; omega)
      rw [Lx.at0_drop] at hs
      have hkl : a + k < l.length := by omega
      have e := str_at l (a + k) (jV l _ hkl)
      have hb0 : (48 : Int) ≤ (((ByteArray.mk l.toArray)[a + k]'(jV l _ hkl)).toNat : Int) := by rw [e]; omega
      have hb1 : (((ByteArray.mk l.toArray)[a + k]'(jV l _ hkl)).toNat : Int) ≤ 57 := by rw [e]; omega
      have hsum : (10 : Int) * (Lx.natV ((l.drop a).take k) 0 : Nat) + ((((ByteArray.mk l.toArray)[a + k]'(jV l _ hkl)).toNat : Int) - 48) = ((Lx.natV ((l.drop a).take (k + 1)) 0 : Nat) : Int) := by rw [e]; omega
      generalize Lx.natV ((l.drop a).take k) 0 = V at *
      generalize hV' : Lx.natV ((l.drop a).take (k + 1)) 0 = V' at *
      have HS := hid hsum; have HV' := hid hV'
      clear hs hsum e hdg hV'
      go_wp2
      go_round
      case rel => exact ⟨k + 1, by omega, by go_num, by rw [HV'.out, HS.out]⟩
      case measure => simp [intOf]; omega
    · obtain rfl : k = N := by omega
      have HV := hid (natV_small (l.drop a) k (by rw [HN.out]; omega) (by omega))
      generalize hV : Lx.natV ((l.drop a).take k) 0 = V at *
      have HVe := hid hV; clear hV
      have hV1 : (V : Int) < 1000000000000000000 := by have := HV.out; omega
      go_wp2
      go_ret3
      exact ⟨by rw [HVe.out]; rfl, rfl⟩
set_option maxHeartbeats 2000000 in
set_option maxRecDepth 100000 in
theorem number_neg_bad (l : List UInt8) (a : Nat) (w : World) (ha : a < l.length) (hm : l.length ≤ 1000000) (h45 : (Lx.at0 l a).toNat = 45) (hd : Lx.jT (Lx.at0 l (a + 1)) = true)
 (hbad : 18 < Lx.cnt Lx.jT (l.drop (a + 1)) ∨ Lx.wordB (Lx.at0 l ((a + 1) + Lx.cnt Lx.jT (l.drop (a + 1)))) = true) :
 Calls Try.prog 65 #[.string ⟨l.toArray⟩, .int .i64 a] w fun e w' => e = .returned (.tuple #[.int .i64 0, .int .i64 0, .bool false]) ∧ w = w' := by
 have e := str_at l a (jV l a ha)
 have h1 : ((((ByteArray.mk l.toArray)[a]'(jV l a ha)).toNat : Int) == 45) = true := by rw [e]; simp [h45]
 have ha1 : a + 1 < l.length := Lx.ne_out l (a + 1) Lx.jT (by decide) hd
 have hle := Lx.cnt_le Lx.jT (l.drop (a + 1))
 rw [List.length_drop] at hle
 have hfun : (fun c => memB c digitsL) = Lx.jT := funext mem_digits
 have hfits : ∀ i, i < Lx.cnt Lx.jT (l.drop (a + 1)) → Lx.jT (Lx.at0 l ((a + 1) + i)) = true := fun i hi => by
  have := cnt_digit (l.drop (a + 1)) i hi; rwa [Lx.at0_drop] at this
 have hst := natV_step (l.drop (a + 1))
 have hsm := natV_small17 (l.drop (a + 1))
 have htk := take_int l digitsL ((a : Int) + 1) w (by omega) (by omega) hm (by decide) (by decide)
 rw [hfun, show ((a : Int) + 1).toNat = a + 1 by omega] at htk
 generalize hN : Lx.cnt Lx.jT (l.drop (a + 1)) = N at *
 have HN := hid hN; have HT := hid htk; have HF := hid hfits; have HST := hid hst; have HSM := hid hsm; have HFUN := hid hfun
 clear hN htk hfits hst hsm e hd hfun h45
 go_enter Try.func65, Try.ntmps65
 go_wp2_with fail
 refine HT.out.mono ?_; rintro e w1 ⟨rfl, rfl⟩
 by_cases h18 : 18 < N
 · have h18' : (18 : Int) < (N : Int) := by omega
   clear hbad
   go_wp2_with fail
   go_ret3
   exact ⟨rfl, rfl⟩
 · have h18' : ¬ (18 : Int) < (N : Int) := by omega
   have hw : Lx.wordB (Lx.at0 l (a + 1 + N)) = true := hbad.resolve_left h18
   have hin : (a + 1 + N) < l.length := Lx.ne_out l _ Lx.wordB (by decide) hw
   have Hw := hid hw
   clear hbad hw
   go_wp2_with fail
   refine (in_any _ insideL _ (by decide)).mono ?_; rintro e w1 ⟨rfl, rfl⟩
   rw [str_at l (a + 1 + N) (jV l (a + 1 + N) hin), mem_inside, Hw.out]
   go_wp2_with fail
   go_ret3
   exact ⟨rfl, rfl⟩
set_option maxHeartbeats 2000000 in
set_option maxRecDepth 100000 in
theorem number_neg_ok (l : List UInt8) (a : Nat) (w : World) (ha : a < l.length) (hm : l.length ≤ 1000000) (h45 : (Lx.at0 l a).toNat = 45) (hd : Lx.jT (Lx.at0 l (a + 1)) = true)
 (h18 : ¬ 18 < Lx.cnt Lx.jT (l.drop (a + 1))) (hw : Lx.wordB (Lx.at0 l ((a + 1) + Lx.cnt Lx.jT (l.drop (a + 1)))) = false) :
 Calls Try.prog 65 #[.string ⟨l.toArray⟩, .int .i64 a] w fun e w' => e = .returned (.tuple #[.int .i64 (-((Lx.natV ((l.drop (a + 1)).take (Lx.cnt Lx.jT (l.drop (a + 1)))) 0 : Nat) : Int)), .int .i64 ((1 + Lx.cnt Lx.jT (l.drop (a + 1)) : Nat) : Int), .bool true]) ∧ w = w' := by
 have e := str_at l a (jV l a ha)
 have h1 : ((((ByteArray.mk l.toArray)[a]'(jV l a ha)).toNat : Int) == 45) = true := by rw [e]; simp [h45]
 have ha1 : a + 1 < l.length := Lx.ne_out l (a + 1) Lx.jT (by decide) hd
 have hle := Lx.cnt_le Lx.jT (l.drop (a + 1))
 rw [List.length_drop] at hle
 have hfun : (fun c => memB c digitsL) = Lx.jT := funext mem_digits
 have hfits : ∀ i, i < Lx.cnt Lx.jT (l.drop (a + 1)) → Lx.jT (Lx.at0 l ((a + 1) + i)) = true := fun i hi => by
  have := cnt_digit (l.drop (a + 1)) i hi; rwa [Lx.at0_drop] at this
 have hst := natV_step (l.drop (a + 1))
 have hsm := natV_small17 (l.drop (a + 1))
 have htk := take_int l digitsL ((a : Int) + 1) w (by omega) (by omega) hm (by decide) (by decide)
 rw [hfun, show ((a : Int) + 1).toNat = a + 1 by omega] at htk
 generalize hN : Lx.cnt Lx.jT (l.drop (a + 1)) = N at *
 have HN := hid hN; have HT := hid htk; have HF := hid hfits; have HST := hid hst; have HSM := hid hsm; have HFUN := hid hfun
 clear hN htk hfits hst hsm e hd hfun h45
 go_enter Try.func65, Try.ntmps65
 go_wp2_with fail
 refine HT.out.mono ?_; rintro e w1 ⟨rfl, rfl⟩
 have h18' : ¬ (18 : Int) < (N : Int) := by omega
 have Hw := hid hw; clear hw
 by_cases hin : (a + 1 + N) < l.length
 · go_wp2_with fail
   refine (in_any _ insideL _ (by decide)).mono ?_; rintro e w1 ⟨rfl, rfl⟩
   rw [str_at l (a + 1 + N) (jV l (a + 1 + N) hin), mem_inside, Hw.out]
   go_wp2_with fail
   go_loop [9, 10] (fun v i => ∃ k : Nat, k ≤ N ∧ i = .int .i64 k ∧ v = .int .i64 (Lx.natV ((l.drop (a + 1)).take k) 0 : Nat)) (fun _ i => N - (intOf i).toNat)
   case atStart => exact ⟨0, by omega, rfl, rfl⟩
   case round =>
    obtain ⟨k, hk, rfl, rfl⟩ := hrel
    by_cases hlt : k < N
    · have hdg := Lx.digit_bd _ (HF.out k hlt)
      have hv := HSM.out k (by omega) (by omega)
      have hs := HST.out k (by rw [List.length_drop]; omega)
      rw [Lx.at0_drop] at hs
      have hkl : (a + 1) + k < l.length := by omega
      have e := str_at l ((a + 1) + k) (jV l _ hkl)
      have hb0 : (48 : Int) ≤ (((ByteArray.mk l.toArray)[(a + 1) + k]'(jV l _ hkl)).toNat : Int) := by rw [e]; omega
      have hb1 : (((ByteArray.mk l.toArray)[(a + 1) + k]'(jV l _ hkl)).toNat : Int) ≤ 57 := by rw [e]; omega
      have hsum : (10 : Int) * (Lx.natV ((l.drop (a + 1)).take k) 0 : Nat) + ((((ByteArray.mk l.toArray)[(a + 1) + k]'(jV l _ hkl)).toNat : Int) - 48) = ((Lx.natV ((l.drop (a + 1)).take (k + 1)) 0 : Nat) : Int) := by rw [e]; omega
      generalize Lx.natV ((l.drop (a + 1)).take k) 0 = V at *
      generalize hV' : Lx.natV ((l.drop (a + 1)).take (k + 1)) 0 = V' at *
      have HS := hid hsum; have HV' := hid hV'
      clear hs hsum e hdg hV'
      go_wp2
      go_round
      case rel => exact ⟨k + 1, by omega, by go_num, by rw [HV'.out, HS.out]⟩
      case measure => simp [intOf]; omega
    · obtain rfl : k = N := by omega
      have HV := hid (natV_small (l.drop (a + 1)) k (by rw [HN.out]; omega) (by omega))
      generalize hV : Lx.natV ((l.drop (a + 1)).take k) 0 = V at *
      have HVe := hid hV; clear hV
      have hV1 : (V : Int) < 1000000000000000000 := by have := HV.out; omega
      go_wp2
      go_ret3
      exact ⟨by rw [HVe.out]; rfl, rfl⟩
 · go_wp2_with fail
   go_loop [9, 10] (fun v i => ∃ k : Nat, k ≤ N ∧ i = .int .i64 k ∧ v = .int .i64 (Lx.natV ((l.drop (a + 1)).take k) 0 : Nat)) (fun _ i => N - (intOf i).toNat)
   case atStart => exact ⟨0, by omega, rfl, rfl⟩
   case round =>
    obtain ⟨k, hk, rfl, rfl⟩ := hrel
    by_cases hlt : k < N
    · have hdg := Lx.digit_bd _ (HF.out k hlt)
      have hv := HSM.out k (by omega) (by omega)
      have hs := HST.out k (by rw [List.length_drop]; omega)
      rw [Lx.at0_drop] at hs
      have hkl : (a + 1) + k < l.length := by omega
      have e := str_at l ((a + 1) + k) (jV l _ hkl)
      have hb0 : (48 : Int) ≤ (((ByteArray.mk l.toArray)[(a + 1) + k]'(jV l _ hkl)).toNat : Int) := by rw [e]; omega
      have hb1 : (((ByteArray.mk l.toArray)[(a + 1) + k]'(jV l _ hkl)).toNat : Int) ≤ 57 := by rw [e]; omega
      have hsum : (10 : Int) * (Lx.natV ((l.drop (a + 1)).take k) 0 : Nat) + ((((ByteArray.mk l.toArray)[(a + 1) + k]'(jV l _ hkl)).toNat : Int) - 48) = ((Lx.natV ((l.drop (a + 1)).take (k + 1)) 0 : Nat) : Int) := by rw [e]; omega
      generalize Lx.natV ((l.drop (a + 1)).take k) 0 = V at *
      generalize hV' : Lx.natV ((l.drop (a + 1)).take (k + 1)) 0 = V' at *
      have HS := hid hsum; have HV' := hid hV'
      clear hs hsum e hdg hV'
      go_wp2
      go_round
      case rel => exact ⟨k + 1, by omega, by go_num, by rw [HV'.out, HS.out]⟩
      case measure => simp [intOf]; omega
    · obtain rfl : k = N := by omega
      have HV := hid (natV_small (l.drop (a + 1)) k (by rw [HN.out]; omega) (by omega))
      generalize hV : Lx.natV ((l.drop (a + 1)).take k) 0 = V at *
      have HVe := hid hV; clear hV
      have hV1 : (V : Int) < 1000000000000000000 := by have := HV.out; omega
      go_wp2
      go_ret3
      exact ⟨by rw [HVe.out]; rfl, rfl⟩
end Go.Proofs.Ytgoacbomphlhjaa

namespace Go.Proofs.Ytgoacbomphlhjaa
open Go.Lib (hid)
open List renaming getElem_toArray → jX, getElem_cons_succ → jY, getElem_cons_zero → jZ, setIfInBounds_toArray → JA, set_cons_zero → JB, set_cons_succ → JC
namespace Lx
theorem small_not (c : UInt8) (h : smallB c = true) : jT c = false ∧ c.toNat ≠ 45 ∧ blankB c = false ∧ c.toNat ≠ 59 := by
 simp [smallB] at h
 refine ⟨?_, by omega, ?_, by omega⟩
 · unfold jT; simp; omega
 · unfold blankB; simp; omega
theorem great_not (c : UInt8) (h : greatB c = true) : jT c = false ∧ smallB c = false ∧ c.toNat ≠ 45 ∧ blankB c = false ∧ c.toNat ≠ 59 := by
 simp [greatB] at h
 refine ⟨?_, ?_, by omega, ?_, by omega⟩
 · unfold jT; simp; omega
 · unfold smallB; simp; omega
 · unfold blankB; simp; omega
end Lx
end Go.Proofs.Ytgoacbomphlhjaa
