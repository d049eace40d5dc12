import Derived.Test.YtlnjdclmopblcaaDoorI03
import Derived.Deep.QuietTactic
import Derived.BigQuiet
import Derived.Maps.Own
import Derived.Maps.OwnOps
import Derived.Maps.Views
import Derived.StringKeys
import Derived.Maps.OwnSet
import Derived.Maps.RangeWalk
set_option linter.unusedVariables false
set_option linter.unusedSimpArgs false
set_option maxHeartbeats 40000000
set_option maxRecDepth 100000
namespace Go.Proofs.YtlnjdclmopblcaaDoor
open Go Go.RowKit
open Go.Lib (hid)
def nV (n : Px.Node) (lv : Value) : Value := .agg #[.int .i64 n.tok.kind, .int .i64 n.tok.pos, .string ⟨n.tok.text.toArray⟩, .int .i64 n.tok.int, .bool (Px.jR n), lv]
def Qw : Nat -> World -> Value -> Px.Node -> Prop
 | 0, _, _, _ => False
 | k + 1, u, v, n => ∃ lv, v = nV n lv /\ JO 6 (Qw k u) u lv n.list
theorem Qw.below : ∀ {k : Nat} {w w' : World} {v : Value} {n : Px.Node}, Qw k w v n -> Below w.heap.size w w' -> Qw k w' v n := by
 intro k
 induction k with
 | zero => intro w w' v n h; exact h.elim
 | succ k ih =>
   intro w w' v n ⟨lv, hv, hr⟩ hb; exact ⟨lv, hv, hr.mono hb (fun u x _ hu => ih hu hb)⟩
theorem yF (n : Px.Node) (lv : Value) (K : Int) (w : World) : Calls Tryd.prog 41 #[nV n lv, .int .i64 K] w fun e w' => e = .returned (.bool (!Px.jR n && n.tok.kind == K)) /\ Below w.heap.size w w' := by
 go_enter Tryd.func41, Tryd.ntmps41; unfold nV; have hb : Below w.heap.size w (w.alloc (.cells #[.int .i64 n.tok.kind, .int .i64 n.tok.pos, .string ⟨n.tok.text.toArray⟩, .int .i64 n.tok.int, .bool (Px.jR n), lv] 73)) := (jD _ _).alloc (jB _) _; have HB := hid hb; clear hb; generalize Px.jR n = b at *; cases b with
 | true =>
   go_wp2_with fail; go_ret; exact ⟨rfl, HB.out⟩
 | false =>
   go_wp2_with fail; go_ret; exact ⟨rfl, HB.out⟩
def Zb (n : Px.Node) (least most : Nat) : Int := match Px.nodes n least most with | .error p => (p : Int) | .ok _ => -1
theorem Qg (k : Nat) (n : Px.Node) (v : Value) (least most : Nat) (w : World) (hn : Qw k w v n) (h1 : least <= 1000) (h2 : most <= 1000) :
 Calls Tryd.prog 42 #[v, .int .i64 least, .int .i64 most] w fun e w' => e = .returned (.int .i64 (Zb n least most)) /\ Below w.heap.size w w' := by
 cases k with
 | zero => exact hn.elim
 | succ k =>
 obtain ⟨lv, rfl, hr⟩ := hn; go_enter Tryd.func42, Tryd.ntmps42; unfold nV; have hb : Below w.heap.size w (w.alloc (.cells #[.int .i64 n.tok.kind, .int .i64 n.tok.pos, .string ⟨n.tok.text.toArray⟩, .int .i64 n.tok.int, .bool (Px.jR n), lv] 73)) := (jD _ _).alloc (jB _) _; have HB := hid hb; clear hb; obtain ⟨q, c, rfl⟩ := hr.len; have HR := hid hr; clear hr
 have hsz : Zb n least most = if Px.jR n = true then (if n.list.length < least then (n.tok.pos : Int) else match n.list[most]? with | some m => (m.tok.pos : Int) | none => -1) else (n.tok.pos : Int) := by
  unfold Zb Px.nodes Px.hold Px.Node.pos; by_cases hl : Px.jR n = true
  . rw [if_pos hl, if_pos hl]; by_cases hs : n.list.length < least
    . rw [if_pos hs, if_pos hs]
    . rw [if_neg hs, if_neg hs]; cases n.list[most]? <;> rfl
  . rw [if_neg hl, if_neg hl]
 have HS := hid hsz; clear hsz; cases hb : Px.jR n with
 | false =>
   rw [hb] at HS; go_wp2_with fail; go_ret; exact ⟨by rw [HS.out]; simp, by rw [<- hb]; exact HB.out⟩
 | true =>
   rw [hb] at HS HB; have hs := HS.out; rw [if_pos rfl] at hs; by_cases hlt : n.list.length < least
   . have jB7 : (n.list.length : Int) < (least : Int) := by omega
     rw [if_pos hlt] at hs; clear HS; go_wp2_with fail; go_ret; exact ⟨(by first | rfl | exact congrArg (fun z => Ending.returned (.int .i64 z)) hs.symm), HB.out⟩
   . have jB7 : ¬ (n.list.length : Int) < (least : Int) := by omega
     rw [if_neg hlt] at hs; by_cases hgt : most < n.list.length
     . have hgi : (most : Int) < (n.list.length : Int) := by omega
       obtain ⟨m, hm⟩ : ∃ m, n.list[most]? = some m := ⟨_, jA hgt⟩
       rw [hm] at hs
       dsimp only at hs
       rcases HR.out with ⟨h0, _⟩ | ⟨g, o, c', hv, g1, g2, g3⟩
       . rw [h0] at hgt; simp at hgt
       . injection hv with hq _ hc
         subst hq; subst hc
         obtain ⟨u, hu, _, hcell⟩ := g3 most m hm; cases k with
         | zero => exact hu.elim
         | succ k =>
           obtain ⟨kv, rfl, _⟩ := hu
           have hc1 : (w.alloc (.cells #[.int .i64 n.tok.kind, .int .i64 n.tok.pos, .string ⟨n.tok.text.toArray⟩, .int .i64 n.tok.int, .bool true, .slice (some ⟨g, o, none⟩) n.list.length c] 73)).cell? ⟨g, o + most * 6 + 1, none⟩ = some (.int .i64 m.tok.pos) := by
            have e := hcell 1 (.int .i64 m.tok.pos) rfl; exact (HB.out.cell (JK _ _ e)).trans e
           clear HS HR g3 hcell hm; go_wp2_with fail; go_ret; exact ⟨(by first | rfl | exact congrArg (fun z => Ending.returned (.int .i64 z)) hs.symm), HB.out⟩
     . have hgi : ¬ (most : Int) < (n.list.length : Int) := by omega
       have hm : n.list[most]? = none := List.getElem?_eq_none (by omega); rw [hm] at hs; clear HS; go_wp2_with fail; go_ret; exact ⟨(by first | rfl | exact congrArg (fun z => Ending.returned (.int .i64 z)) hs.symm), HB.out⟩
namespace Px
open Lx (Tok)
def Hl : List (List UInt8) := [[100, 97, 116, 97], [100, 101, 102], [102, 110], [108, 101, 116], [99, 97, 115, 101], [99, 112, 120], [114, 101], [105, 109], [99, 97, 100, 100], [99, 109, 117, 108]]
def Hm (s : List UInt8) : Bool := Hl.contains s
theorem Yt {n : Node} (h : jq n) (hl : jR n = false) (s : List UInt8) (ht : n.tok.text = s) (hp : ¬ Plain s) : n.tok.kind = (Lx.Jp s).1 := by
 cases h with
 | leaf t ho h0 h1 =>
   have e : t.text = s := ht; have h2 : t.kind ≠ 2 := fun h2 => hp (by rw [<- e]; exact (ho.num h2).2)
   have hw := (ho.word h0 h1 h2).is [] Lx.Kq; rw [Jl, e] at hw; rw [hw]; rfl
 | list t l ho h0 hm =>
   unfold jR at hl; have : (Node.mk t l 0).tok.kind = 0 := h0; rw [this] at hl; simp at hl
theorem K8 {n : Node} (h : jq n) (hl : jR n = false) : n.takes = qQ n.tok.text := by
 cases h with
 | leaf t ho h0 h1 => rfl
 | list t l ho h0 hm =>
   unfold jR at hl; have : (Node.mk t l 0).tok.kind = 0 := h0; rw [this] at hl; simp at hl
theorem KP {n : Node} (h : jq n) (hl : jR n = true) : n.takes = 0 := by
 cases h with
 | leaf t ho h0 h1 =>
   unfold jR at hl; have : (Node.mk t [] (qQ t.text)).tok.kind = t.kind := rfl; rw [this] at hl; exact absurd (by simpa using hl) h0
 | list t l ho h0 hm => rfl
theorem Fx {n : Node} (h : jq n) (hl : jR n = false) : n.list = [] := by
 cases h with
 | leaf t ho h0 h1 => rfl
 | list t l ho h0 hm =>
   unfold jR at hl; have : (Node.mk t l 0).tok.kind = 0 := h0; rw [this] at hl; simp at hl
theorem YY (s : List UInt8) (h : qQ s ≠ 0) : s ∈ ([[43], [45], [42], [47], [37], [61], [60], [99, 112, 120], [99, 97, 100, 100], [99, 109, 117, 108], [114, 101], [105, 109]] : List (List UInt8)) := by
 unfold qQ at h; simp only [jf, Ja, Qu]
 split at h
 . rename_i h1
   rcases h1 with h | h | h | h | h | h | h | h | h | h <;> simp [h]
 . split at h
   . rename_i h1
     rcases h1 with h | h <;> simp [h]
   . exact absurd rfl h
def uN (n : Node) : Nat := if jR n || (n.tok.kind != 3 && n.tok.kind != 5) then 0 else qQ n.tok.text
theorem gQ {n : Node} (h : jq n) : uN n = n.takes := by
 unfold uN; cases hl : jR n with
 | true => rw [KP h hl]; rfl
 | false =>
   rw [K8 h hl, Bool.false_or]; by_cases ht : qQ n.tok.text = 0
   . rw [ht]; simp
   . have hw := YY _ ht
     have hk : n.tok.kind = 3 \/ n.tok.kind = 5 := by
      simp only [jf, Ja, Qu] at hw
      rcases hw with e | e | e | e | e | e | e | e | e | e | e | e
      all_goals
       have := Yt h hl _ e (by unfold Plain; decide); rw [this]
       first | exact .inl rfl | exact .inr rfl
     have hb : (n.tok.kind != 3 && n.tok.kind != 5) = false := by
      rcases hk with e | e <;> rw [e] <;> rfl
     rw [hb]; rfl
def Ew (n : Node) : Bool := (!jR n && n.tok.kind == 3) && !Hm n.tok.text
theorem MU {n : Node} (h : jq n) : Ew n = qR n := by
 unfold Ew qR Node.text; cases hl : jR n with
 | true =>
   have : n.tok.kind = 0 := by unfold jR at hl; simpa using hl
   rw [this]; simp
 | false =>
   by_cases hk : n.tok.kind = 3
   . rw [K8 h hl, hk]; simp only [Ve, qK, BEq.rfl, Y4]; by_cases ht : qQ n.tok.text = 0
     . rw [ht]; unfold Hm Hl; simp only [List.contains_cons, List.contains_nil, Bool.or_false, BEq.rfl, Y4]; have n1 : (n.tok.text == [99, 112, 120]) = false := by rw [qF]; intro e; rw [e] at ht; exact absurd ht (by decide)
       have n2 : (n.tok.text == [114, 101]) = false := by rw [qF]; intro e; rw [e] at ht; exact absurd ht (by decide)
       have n3 : (n.tok.text == [105, 109]) = false := by rw [qF]; intro e; rw [e] at ht; exact absurd ht (by decide)
       have n4 : (n.tok.text == [99, 97, 100, 100]) = false := by rw [qF]; intro e; rw [e] at ht; exact absurd ht (by decide)
       have n5 : (n.tok.text == [99, 109, 117, 108]) = false := by rw [qF]; intro e; rw [e] at ht; exact absurd ht (by decide)
       rw [n1, n2, n3, n4, n5]; simp [Bool.or_assoc]
     . have hw := YY _ ht; have ht' : (qQ n.tok.text == 0) = false := by rw [qF]; exact ht
       rw [ht', Bool.and_false]; simp only [jf, Ja, Qu] at hw
       rcases hw with e | e | e | e | e | e | e | e | e | e | e | e
       all_goals
        first
        | (exfalso
           have := Yt h hl _ e (by unfold Plain; decide); rw [hk] at this
           exact absurd this (by decide))
        | (rw [e]; rfl)
   . have : (n.tok.kind == 3) = false := by rw [qF]; exact hk
     rw [this]; simp
end Px
theorem iF (w : World) (T : TypeId) (k : Nat) (s : List UInt8) (h : Px.Hl[k]? = some s) : (w.alloc (.cells #[.string ⟨#[100, 97, 116, 97]⟩, .string ⟨#[100, 101, 102]⟩, .string ⟨#[102, 110]⟩, .string ⟨#[108, 101, 116]⟩, .string ⟨#[99, 97, 115, 101]⟩, .string ⟨#[99, 112, 120]⟩, .string ⟨#[114, 101]⟩, .string ⟨#[105, 109]⟩, .string ⟨#[99, 97, 100, 100]⟩, .string ⟨#[99, 109, 117, 108]⟩] T)).cell? ⟨w.heap.size, k, none⟩ = some (.string ⟨s.toArray⟩) := by
 have hk : k < 10 := (jm.1 h).1; rw [jT]
 match k, hk, h with
 | 0, _, h => cases h; rfl
 | 1, _, h => cases h; rfl
 | 2, _, h => cases h; rfl
 | 3, _, h => cases h; rfl
 | 4, _, h => cases h; rfl
 | 5, _, h => cases h; rfl
 | 6, _, h => cases h; rfl
 | 7, _, h => cases h; rfl
 | 8, _, h => cases h; rfl
 | 9, _, h => cases h; rfl
theorem MV (k : Nat) (s x : List UInt8) (h : Px.Hl[k]? = some x) (hn : (Px.Hl.take k).contains s = false) : (Px.Hl.take (k + 1)).contains s = (x == s) := by
 rw [JC, h, zM, List.contains_append, hn]; by_cases e : x = s
 . subst e; simp
 . have e2 : ¬ s = x := fun h => e h.symm
   simp [e, e2]
theorem Gm (s : List UInt8) (w : World) : Calls Tryd.prog 61 #[.string ⟨s.toArray⟩] w fun e w' => e = .returned (.bool (Px.Hm s)) /\ Below w.heap.size w w' := by
 go_enter Tryd.func61, Tryd.ntmps61; have hb : Below w.heap.size w (w.alloc (.cells #[.string ⟨#[100, 97, 116, 97]⟩, .string ⟨#[100, 101, 102]⟩, .string ⟨#[102, 110]⟩, .string ⟨#[108, 101, 116]⟩, .string ⟨#[99, 97, 115, 101]⟩, .string ⟨#[99, 112, 120]⟩, .string ⟨#[114, 101]⟩, .string ⟨#[105, 109]⟩, .string ⟨#[99, 97, 100, 100]⟩, .string ⟨#[99, 109, 117, 108]⟩] 9)) := (jD _ _).alloc (jB _) _; have HB := hid hb; have hat := iF w 9; have HAT := hid hat; clear hb hat; go_wp2_with fail
 go_loopw [4] (fun i wr => wr = w.alloc (.cells #[.string ⟨#[100, 97, 116, 97]⟩, .string ⟨#[100, 101, 102]⟩, .string ⟨#[102, 110]⟩, .string ⟨#[108, 101, 116]⟩, .string ⟨#[99, 97, 115, 101]⟩, .string ⟨#[99, 112, 120]⟩, .string ⟨#[114, 101]⟩, .string ⟨#[105, 109]⟩, .string ⟨#[99, 97, 100, 100]⟩, .string ⟨#[99, 109, 117, 108]⟩] 9) /\ ∃ k : Nat, i = .int .i64 k /\ k <= 10 /\ (Px.Hl.take k).contains s = false) (fun i _ => (10 - intOf i).toNat)
 case atStart => exact ⟨rfl, 0, rfl, by omega, rfl⟩
 case round =>
  obtain ⟨rfl, k, rfl, hk, hno⟩ := hrel; by_cases hlt : k < 10
  . obtain ⟨x, hx⟩ : ∃ x, Px.Hl[k]? = some x := ⟨_, jA hlt⟩
    have hc := HAT.out k x hx; have ht := MV k s x hx hno; have HT := hid ht; clear ht; by_cases he : x = s
    . subst he; go_wp2_with fail; go_ret; refine ⟨?_, HB.out⟩
      have h1 : Px.Hm x = true := by
       unfold Px.Hm; rw [uL]; exact jI hx
      show Ending.returned (.bool true) = _; rw [h1]
    . have hne : (x == s) = false := by rw [qF]; exact he
      go_wp2_with fail
      go_roundw
      case rel => exact ⟨by trivial, k + 1, by go_num, by omega, by rw [HT.out]; exact hne⟩
      case measure => simp [intOf]; omega
  . have hk10 : k = 10 := by omega
    subst hk10; go_wp2_with fail; go_ret; refine ⟨?_, HB.out⟩; show Ending.returned (.bool false) = _; have h1 : Px.Hm s = false := hno; rw [h1]
def qN {α : Type} (w : World) (Js : World -> Value -> α -> Prop) (sh : Value -> Prop) (r : Px.R α) (e : Ending) (w' : World) : Prop :=
 Below w.heap.size w w' /\ ∃ v k, e = .returned (.tuple #[v, .int .i64 k]) /\ sh v /\ (match r with | .ok x => k = -1 /\ New Js w w' v x | .error p => k = (p : Int))
theorem Jm {α : Type} {w w' : World} {Js : World -> Value -> α -> Prop} {sh : Value -> Prop} {r : Px.R α} {e : Ending} {x : α} (h : qN w Js sh r e w') (hr : r = .ok x) : ∃ v, e = .returned (.tuple #[v, .int .i64 (-1)]) /\ sh v /\ New Js w w' v x /\ Below w.heap.size w w' := by
 obtain ⟨hb, v, k, rfl, hs, hm⟩ := h; rw [hr] at hm; obtain ⟨rfl, hn⟩ := hm; exact ⟨v, rfl, hs, hn, hb⟩
theorem Jb {α : Type} {w w' : World} {Js : World -> Value -> α -> Prop} {sh : Value -> Prop} {r : Px.R α} {e : Ending} {p : Nat} (h : qN w Js sh r e w') (hr : r = .error p) : ∃ v, e = .returned (.tuple #[v, .int .i64 (p : Int)]) /\ sh v /\ Below w.heap.size w w' := by
 obtain ⟨hb, v, k, rfl, hs, hm⟩ := h; rw [hr] at hm; obtain rfl : k = (p : Int) := hm; exact ⟨v, rfl, hs, hb⟩
theorem Jq {α : Type} {w w' : World} {Js : World -> Value -> α -> Prop} {sh : Value -> Prop} {r : Px.R α} {x : α} {v : Value} (hr : r = .ok x) (hb : Below w.heap.size w w') (hs : sh v) (hn : New Js w w' v x) : qN w Js sh r (.returned (.tuple #[v, .int .i64 (-1)])) w' := by
 subst hr; exact ⟨hb, v, -1, rfl, hs, rfl, hn⟩
theorem jr {α : Type} {w w' : World} {Js : World -> Value -> α -> Prop} {sh : Value -> Prop} {r : Px.R α} {p : Nat} {v : Value} (hr : r = .error p) (hb : Below w.heap.size w w') (hs : sh v) : qN w Js sh r (.returned (.tuple #[v, .int .i64 (p : Int)])) w' := by
 subst hr; exact ⟨hb, v, p, rfl, hs, rfl⟩
theorem K9 {B : Nat} {a w : World} (h : Below B a w) (n : Nat) : Below B a (w.drewN n) := h.trans ⟨rfl, rfl, rfl, jB _, fun _ _ => rfl⟩
def kN (v : Value) : Prop := ∃ s : ByteArray, v = .string s
theorem Ex (w w' : World) (s : List UInt8) : New zA w w' (.string ⟨s.toArray⟩) s := fun _ _ => rfl
theorem YJ (n : Px.Node) (lv : Value) (w : World) (hg : Px.jq n) : Calls Tryd.prog 46 #[nV n lv] w (qN w zA kN (Px.name n)) := by
 have hnm := Px.MU hg; have hp : Px.name n = if Px.Ew n = true then .ok n.tok.text else .error n.tok.pos := by unfold Px.name; rw [hnm]; rfl
 have HP := hid hp; clear hnm hp; go_enter Tryd.func46, Tryd.ntmps46; unfold nV; have EN := hid (jb w #[.int .i64 n.tok.kind, .int .i64 n.tok.pos, .string ⟨n.tok.text.toArray⟩, .int .i64 n.tok.int, .bool (Px.jR n), lv] 73); have HB := hid ((jD w.heap.size w).alloc (jB _) (.cells #[.int .i64 n.tok.kind, .int .i64 n.tok.pos, .string ⟨n.tok.text.toArray⟩, .int .i64 n.tok.int, .bool (Px.jR n), lv] 73)); go_wp2_with fail; refine (yF n lv 3 _).mono ?_; rintro e w1 ⟨rfl, hb⟩; replace EN := bE EN hb; replace HB := bT HB hb; clear hb; have c1 := xK EN 1 rfl; have c2 := xK EN 2 rfl; have hnr : Px.Ew n = ((!Px.jR n && n.tok.kind == 3) && !Px.Hm n.tok.text) := rfl; rw [hnr] at HP; clear hnr; generalize (!Px.jR n && n.tok.kind == 3) = b at *; cases b with
 | false =>
   go_wp2_with fail
   go_quiet (fail)
   go_wp2_with fail; go_ret2; exact jr (by rw [HP.out]; rfl) (K9 HB _) ⟨_, rfl⟩
 | true =>
   go_wp2_with fail; refine (Gm n.tok.text _).mono ?_; rintro e w2 ⟨rfl, hb⟩; replace EN := bE EN hb; replace HB := bT HB hb; clear hb c1 c2; have c1 := xK EN 1 rfl; have c2 := xK EN 2 rfl; generalize Px.Hm n.tok.text = r at *; cases r with
   | true =>
     go_wp2_with fail
     go_quiet (fail)
     go_wp2_with fail; go_ret2; exact jr (by rw [HP.out]; rfl) (K9 HB _) ⟨_, rfl⟩
   | false =>
     go_wp2_with fail; go_ret2; exact Jq (by rw [HP.out]; rfl) HB ⟨_, rfl⟩ (Ex _ _ _)
theorem KZ (n : Px.Node) (lv : Value) (w : World) (hg : Px.jq n) : Calls Tryd.prog 43 #[nV n lv] w (qN w zA kN (Px.qD n)) := by
 have hp : Px.qD n = if (!Px.jR n && n.tok.kind == 4) = true then .ok n.tok.text else .error n.tok.pos := by
  unfold Px.qD Px.qY Px.jR Px.Node.text Px.Node.pos; by_cases h4 : n.tok.kind = 4
  . rw [h4]; rfl
  . have : (n.tok.kind == 4) = false := by rw [qF]; exact h4
    rw [this]; simp
 have HP := hid hp; clear hp; go_enter Tryd.func43, Tryd.ntmps43; unfold nV; have EN := hid (jb w #[.int .i64 n.tok.kind, .int .i64 n.tok.pos, .string ⟨n.tok.text.toArray⟩, .int .i64 n.tok.int, .bool (Px.jR n), lv] 73); have HB := hid ((jD w.heap.size w).alloc (jB _) (.cells #[.int .i64 n.tok.kind, .int .i64 n.tok.pos, .string ⟨n.tok.text.toArray⟩, .int .i64 n.tok.int, .bool (Px.jR n), lv] 73)); go_wp2_with fail; refine (yF n lv 4 _).mono ?_; rintro e w1 ⟨rfl, hb⟩; replace EN := bE EN hb; replace HB := bT HB hb; clear hb; have c1 := xK EN 1 rfl; have c2 := xK EN 2 rfl; generalize (!Px.jR n && n.tok.kind == 4) = b at *; cases b with
 | false =>
   go_wp2_with fail
   go_quiet (fail)
   go_wp2_with fail; go_ret2; exact jr (by rw [HP.out]; rfl) (K9 HB _) ⟨_, rfl⟩
 | true =>
   go_wp2_with fail; go_ret2; exact Jq (by rw [HP.out]; rfl) HB ⟨_, rfl⟩ (Ex _ _ _)
def Px.Yu (n : Px.Node) (s : List UInt8) : Bool := Px.jR n && (match n.list with | [] => false | m :: _ => (!Px.jR m && m.tok.kind == 3) && m.tok.text == s)
theorem Px.head_eq {n : Px.Node} (h : Px.jq n) (s : List UInt8) (hne : s ≠ []) (hs : ¬ Px.Plain s) (hk : (Lx.Jp s).1 = 3) : Px.Yu n s = decide (Px.word n = s) := by
 unfold Px.Yu Px.word; cases hl : Px.jR n with
 | false =>
   rw [Px.Fx h hl]; simp [hne.symm]
 | true =>
   cases hn : n.list with
   | nil => simp [hne.symm]
   | cons m r =>
     have hm : Px.jq m := h.kid (by rw [hn]; simp)
     dsimp only
     by_cases hlt : Px.jR m = true
     . simp [hlt, hne.symm]
     . have hlm : Px.jR m = false := by simpa using hlt
       simp only [hlm, Ve, qK, Bool.false_eq_true, if_false]; by_cases ht : m.tok.text = s
       . have hk3 := Px.Yt hm hlm s ht hs; rw [hk] at hk3; have ht2 : m.text = s := ht; rw [hk3, ht, ht2]; simp
       . have h1 : (m.tok.text == s) = false := by rw [qF]; exact ht
         have ht2 : ¬ m.text = s := ht; rw [h1]; simp [ht2]
theorem VC (k : Nat) (n : Px.Node) (v : Value) (s : List UInt8) (w : World) (hn : Qw k w v n) : Calls Tryd.prog 25 #[v, .string ⟨s.toArray⟩] w fun e w' => e = .returned (.bool (Px.Yu n s)) /\ Below w.heap.size w w' := by
 cases k with
 | zero => exact hn.elim
 | succ k =>
 obtain ⟨lv, rfl, hr⟩ := hn; obtain ⟨q, c, rfl⟩ := hr.len; have HR := hid hr; clear hr; have hh : Px.Yu n s = (Px.jR n && (match n.list with | [] => false | m :: _ => (!Px.jR m && m.tok.kind == 3) && m.tok.text == s)) := rfl; have HH := hid hh; clear hh; go_enter Tryd.func25, Tryd.ntmps25; unfold nV; have EN := hid (jb w #[.int .i64 n.tok.kind, .int .i64 n.tok.pos, .string ⟨n.tok.text.toArray⟩, .int .i64 n.tok.int, .bool (Px.jR n), (.slice q n.list.length c)] 73); have HB := hid ((jD w.heap.size w).alloc (jB _) (.cells #[.int .i64 n.tok.kind, .int .i64 n.tok.pos, .string ⟨n.tok.text.toArray⟩, .int .i64 n.tok.int, .bool (Px.jR n), (.slice q n.list.length c)] 73)); cases hb : Px.jR n with
 | false =>
   rw [hb] at HH EN HB; go_wp2_with fail; go_ret; exact ⟨by rw [HH.out]; rfl, HB.out⟩
 | true =>
   rw [hb] at HH EN HB; by_cases hl : n.list = []
   . rw [hl] at HH EN HB HR ⊢; have hz : ¬ (0 : Int) < (([] : List Px.Node).length : Int) := by simp
     go_wp2_with fail; go_ret; exact ⟨by rw [HH.out]; rfl, HB.out⟩
   . obtain ⟨m, r, hl⟩ := List.exists_cons_of_ne_nil hl; rw [hl] at HH; have hz : (0 : Int) < (n.list.length : Int) := by rw [hl]; simp
     rcases HR.out with ⟨h0, _⟩ | ⟨g, o, c', hv, g1, g2, g3⟩
     . rw [hl] at h0; cases h0
     . injection hv with hq _ hc
       subst hq; subst hc
       obtain ⟨u, hu, _, hcell⟩ := g3 0 m (by rw [hl]; rfl); cases k with
       | zero => exact hu.elim
       | succ k =>
         obtain ⟨kv, rfl, _⟩ := hu; have hm0 := hcell 0 (.int .i64 m.tok.kind) rfl; have hm1 := hcell 1 (.int .i64 m.tok.pos) rfl; have hm2 := hcell 2 (.string ⟨m.tok.text.toArray⟩) rfl; have dY := hcell 3 (.int .i64 m.tok.int) rfl; have Oi := hcell 4 (.bool (Px.jR m)) rfl; have Oj := hcell 5 kv rfl; simp only [KX, jZ] at hm0 hm1 hm2 dY Oi Oj; have up : ∀ (W : World), Below w.heap.size w W -> ∀ j z, w.cell? ⟨g, j, none⟩ = some z -> W.cell? ⟨g, j, none⟩ = some z := fun W hb j z hz => (hb.cell (JK w _ hz)).trans hz
         have k0 := up _ HB.out _ _ hm0; have k1 := up _ HB.out _ _ hm1; have k2 := up _ HB.out _ _ hm2; have k3 := up _ HB.out _ _ dY; have k4 := up _ HB.out _ _ Oi; have k5 := up _ HB.out _ _ Oj
         have M2 := hid hm2; have UP := hid up
         clear hm0 hm1 hm2 dY Oi Oj g3 hcell HR up; clear hl; generalize n.list.length = NL at *; go_wp2_with fail; refine (yF m kv 3 _).mono ?_; rintro e w1 ⟨rfl, hb1⟩; replace EN := bE EN hb1; replace HB := bT HB hb1; clear hb1 k0 k1 k2 k3 k4 k5; have k2 := UP.out _ HB.out _ _ M2.out; have e5 := xK EN 5 rfl; generalize (!Px.jR m && m.tok.kind == 3) = b at *; cases b with
         | false =>
           go_wp2_with fail; go_ret; exact ⟨by rw [HH.out]; rfl, HB.out⟩
         | true =>
           by_cases ht : m.tok.text = s
           . subst ht; go_wp2_with fail; go_ret; exact ⟨by rw [HH.out]; simp, HB.out⟩
           . skip
             have h1 : (m.tok.text == s) = false := by rw [qF]; exact ht
             go_wp2_with fail; go_ret; exact ⟨by rw [HH.out, h1]; simp, HB.out⟩
theorem Gn {a b : List UInt8} (h : a ≠ b) : ¬ (⟨a.toArray⟩ : ByteArray) = ⟨b.toArray⟩ := by intro e; exact h (by injection e with e; simpa using e)
theorem Fy (n : Px.Node) (lv : Value) (w : World) : Calls Tryd.prog 66 #[nV n lv] w fun e w' => e = .returned (.int .i64 (Px.uN n : Nat)) /\ Below w.heap.size w w' := by
 have hh : Px.uN n = if (Px.jR n || (n.tok.kind != 3 && n.tok.kind != 5)) = true then 0 else Px.qQ n.tok.text := rfl
 have HH := hid hh; clear hh; go_enter Tryd.func66, Tryd.ntmps66; unfold nV; have HB := hid ((jD w.heap.size w).alloc (jB _) (.cells #[.int .i64 n.tok.kind, .int .i64 n.tok.pos, .string ⟨n.tok.text.toArray⟩, .int .i64 n.tok.int, .bool (Px.jR n), lv] 73)); cases hb : Px.jR n with
 | true =>
   rw [hb] at HH HB; go_wp2_with fail; go_ret; exact ⟨by rw [HH.out]; rfl, HB.out⟩
 | false =>
   rw [hb] at HH HB; by_cases Sl : n.tok.kind = 3 \/ n.tok.kind = 5
   . have hx : Px.uN n = Px.qQ n.tok.text := by
      rw [HH.out]
      rcases Sl with e | e <;> rw [e] <;> rfl
     have HX := hid hx; clear HH hx; generalize n.tok.kind = K at *; by_cases h3 : K = 3
     . subst h3; clear Sl
       by_cases Sm : n.tok.text = [43]
       . rw [Sm] at HX HB ⊢; go_wp2_with fail; go_ret; exact ⟨by rw [HX.out]; rfl, HB.out⟩
       by_cases h_1 : n.tok.text = [45]
       . rw [h_1] at HX HB ⊢; go_wp2_with fail; go_ret; exact ⟨by rw [HX.out]; rfl, HB.out⟩
       by_cases h_2 : n.tok.text = [42]
       . rw [h_2] at HX HB ⊢; go_wp2_with fail; go_ret; exact ⟨by rw [HX.out]; rfl, HB.out⟩
       by_cases h_3 : n.tok.text = [47]
       . rw [h_3] at HX HB ⊢; go_wp2_with fail; go_ret; exact ⟨by rw [HX.out]; rfl, HB.out⟩
       by_cases h_4 : n.tok.text = [37]
       . rw [h_4] at HX HB ⊢; go_wp2_with fail; go_ret; exact ⟨by rw [HX.out]; rfl, HB.out⟩
       by_cases h_5 : n.tok.text = [61]
       . rw [h_5] at HX HB ⊢; go_wp2_with fail; go_ret; exact ⟨by rw [HX.out]; rfl, HB.out⟩
       by_cases h_6 : n.tok.text = [60]
       . rw [h_6] at HX HB ⊢; go_wp2_with fail; go_ret; exact ⟨by rw [HX.out]; rfl, HB.out⟩
       by_cases h_7 : n.tok.text = [99, 112, 120]
       . rw [h_7] at HX HB ⊢; go_wp2_with fail; go_ret; exact ⟨by rw [HX.out]; rfl, HB.out⟩
       by_cases h_8 : n.tok.text = [99, 97, 100, 100]
       . rw [h_8] at HX HB ⊢; go_wp2_with fail; go_ret; exact ⟨by rw [HX.out]; rfl, HB.out⟩
       by_cases h_9 : n.tok.text = [99, 109, 117, 108]
       . rw [h_9] at HX HB ⊢; go_wp2_with fail; go_ret; exact ⟨by rw [HX.out]; rfl, HB.out⟩
       by_cases h_10 : n.tok.text = [114, 101]
       . rw [h_10] at HX HB ⊢; go_wp2_with fail; go_ret; exact ⟨by rw [HX.out]; rfl, HB.out⟩
       by_cases h_11 : n.tok.text = [105, 109]
       . rw [h_11] at HX HB ⊢; go_wp2_with fail; go_ret; exact ⟨by rw [HX.out]; rfl, HB.out⟩
       have hz : Px.qQ n.tok.text = 0 := by
        by_cases ht : Px.qQ n.tok.text = 0
        . exact ht
        . have hw := Px.YY _ ht; simp only [jf, Ja, Qu] at hw
          simp_all
       rw [hz] at HX; replace Sm := qF.2 Sm; replace h_1 := qF.2 h_1; replace h_2 := qF.2 h_2; replace h_3 := qF.2 h_3; replace h_4 := qF.2 h_4; replace h_5 := qF.2 h_5; replace h_6 := qF.2 h_6; replace h_7 := qF.2 h_7; replace h_8 := qF.2 h_8; replace h_9 := qF.2 h_9; replace h_10 := qF.2 h_10; replace h_11 := qF.2 h_11; clear hz; generalize n.tok.text = T at *; go_wp2_with fail; go_ret; exact ⟨by rw [HX.out]; rfl, HB.out⟩
     . have h5 : K = 5 := Sl.resolve_left h3; subst h5; clear Sl h3
       by_cases Sm : n.tok.text = [43]
       . rw [Sm] at HX HB ⊢; go_wp2_with fail; go_ret; exact ⟨by rw [HX.out]; rfl, HB.out⟩
       by_cases h_1 : n.tok.text = [45]
       . rw [h_1] at HX HB ⊢; go_wp2_with fail; go_ret; exact ⟨by rw [HX.out]; rfl, HB.out⟩
       by_cases h_2 : n.tok.text = [42]
       . rw [h_2] at HX HB ⊢; go_wp2_with fail; go_ret; exact ⟨by rw [HX.out]; rfl, HB.out⟩
       by_cases h_3 : n.tok.text = [47]
       . rw [h_3] at HX HB ⊢; go_wp2_with fail; go_ret; exact ⟨by rw [HX.out]; rfl, HB.out⟩
       by_cases h_4 : n.tok.text = [37]
       . rw [h_4] at HX HB ⊢; go_wp2_with fail; go_ret; exact ⟨by rw [HX.out]; rfl, HB.out⟩
       by_cases h_5 : n.tok.text = [61]
       . rw [h_5] at HX HB ⊢; go_wp2_with fail; go_ret; exact ⟨by rw [HX.out]; rfl, HB.out⟩
       by_cases h_6 : n.tok.text = [60]
       . rw [h_6] at HX HB ⊢; go_wp2_with fail; go_ret; exact ⟨by rw [HX.out]; rfl, HB.out⟩
       by_cases h_7 : n.tok.text = [99, 112, 120]
       . rw [h_7] at HX HB ⊢; go_wp2_with fail; go_ret; exact ⟨by rw [HX.out]; rfl, HB.out⟩
       by_cases h_8 : n.tok.text = [99, 97, 100, 100]
       . rw [h_8] at HX HB ⊢; go_wp2_with fail; go_ret; exact ⟨by rw [HX.out]; rfl, HB.out⟩
       by_cases h_9 : n.tok.text = [99, 109, 117, 108]
       . rw [h_9] at HX HB ⊢; go_wp2_with fail; go_ret; exact ⟨by rw [HX.out]; rfl, HB.out⟩
       by_cases h_10 : n.tok.text = [114, 101]
       . rw [h_10] at HX HB ⊢; go_wp2_with fail; go_ret; exact ⟨by rw [HX.out]; rfl, HB.out⟩
       by_cases h_11 : n.tok.text = [105, 109]
       . rw [h_11] at HX HB ⊢; go_wp2_with fail; go_ret; exact ⟨by rw [HX.out]; rfl, HB.out⟩
       have hz : Px.qQ n.tok.text = 0 := by
        by_cases ht : Px.qQ n.tok.text = 0
        . exact ht
        . have hw := Px.YY _ ht; simp only [jf, Ja, Qu] at hw
          simp_all
       rw [hz] at HX; replace Sm := qF.2 Sm; replace h_1 := qF.2 h_1; replace h_2 := qF.2 h_2; replace h_3 := qF.2 h_3; replace h_4 := qF.2 h_4; replace h_5 := qF.2 h_5; replace h_6 := qF.2 h_6; replace h_7 := qF.2 h_7; replace h_8 := qF.2 h_8; replace h_9 := qF.2 h_9; replace h_10 := qF.2 h_10; replace h_11 := qF.2 h_11; clear hz; generalize n.tok.text = T at *; go_wp2_with fail; go_ret; exact ⟨by rw [HX.out]; rfl, HB.out⟩
   . have h3 : ¬ n.tok.kind = 3 := fun e => Sl (.inl e)
     have h5 : ¬ n.tok.kind = 5 := fun e => Sl (.inr e)
     have hx : Px.uN n = 0 := by
      rw [HH.out]; have e3 : (n.tok.kind != 3) = true := by simpa using h3
      have e5 : (n.tok.kind != 5) = true := by simpa using h5
      rw [e3, e5]; rfl
     have HX := hid hx; have b3 : (n.tok.kind != 3) = true := vQ.2 h3; have b5 : (n.tok.kind != 5) = true := vQ.2 h5; clear HH hx Sl; generalize n.tok.kind = K at *; go_wp2_with fail; go_ret; exact ⟨by rw [HX.out]; rfl, HB.out⟩
abbrev Nm := List UInt8
def Qm (w : World) (mb n : Nat) (c : Nm -> Int) : Prop :=
 ∃ D : DataW Unit, w.ownsMap Tryd.prog 9 (plainElem Tryd.prog 3) mb n D /\ Maps.Tidy D /\ ∀ s : Nm, D.atKey (.string s) (.lit (.int .i64 0)) = .lit (.int .i64 (c s))
theorem Qm.made (w : World) : Qm (w.alloc (.map #[] 0)) w.heap.size 0 (fun _ => 0) := ⟨.map [], World.ownsMap_made _ _ _ _, Maps.tidy_empty, fun _ => rfl⟩
theorem Qm.kept {w w' : World} {mb n : Nat} {c : Nm -> Int} {row : Option Nat} (h : Qm w mb n c) (hg : w.grownBy w' row) (hne : some mb ≠ row) : Qm w' mb n c := by
 obtain ⟨D, h1, h2, h3⟩ := h; exact ⟨D, h1.kept hg hne, h2, h3⟩
theorem Qm.lt {w : World} {mb n : Nat} {c : Nm -> Int} (h : Qm w mb n c) : mb < w.heap.size := by
 obtain ⟨D, h1, _⟩ := h; exact h1.lt
theorem xA {w w' : World} (h : Below w.heap.size w w') : w.grownBy w' none := ⟨h.os, h.tape, h.output, h.size, fun k hk _ => h.block k hk⟩
theorem Qm.below {w w' : World} {mb n : Nat} {c : Nm -> Int} (h : Qm w mb n c) (hb : Below w.heap.size w w') : Qm w' mb n c := h.kept (xA hb) (by simp)
theorem Qm.mono {w : World} {mb n n' : Nat} {c : Nm -> Int} (h : Qm w mb n c) (hn : n <= n') : Qm w mb n' c := by
 obtain ⟨D, h1, h2, h3⟩ := h; exact ⟨D, h1.mono hn, h2, h3⟩
def bump (c : Nm -> Int) (s : Nm) (k : Int) : Nm -> Int := fun x => if x = s then k else c x
def yR (c : Nm -> Int) : List Nm -> Bool
 | [] => true
 | s :: r => decide (c s = 0) && yR (bump c s (c s + 1)) r
def xB (c : Nm -> Int) (k : Int) : List Nm -> Nm -> Int
 | [], x => c x
 | s :: r, x => xB (bump c s (c s + k)) k r x
theorem Ho (k : Int) (l : List Nm) : ∀ (c : Nm -> Int) (x : Nm), xB c k l x = c x + k * (l.count x : Int) := by
 induction l with
 | nil => intro c x; simp [xB]
 | cons s r ih =>
   intro c x; rw [xB, ih]; unfold bump; by_cases h : x = s
   . subst h; rw [if_pos rfl, List.count_cons_self]; push_cast; rw [Int.mul_add]; omega
   . rw [if_neg h, List.count_cons_of_ne (fun e => h e.symm)]
theorem dZ (l : List Nm) (s : Nm) : ∀ (c : Nm -> Int), yR c (l ++ [s]) = (yR c l && decide (xB c 1 l s = 0)) := by
 induction l with
 | nil => intro c; show (decide (c s = 0) && true) = (true && decide (xB c 1 [] s = 0)); rw [Y4, qK]; rfl
 | cons a r ih => intro c; rw [JQ, yR, ih, yR, xB, Bool.and_assoc]
abbrev DU := DataW Unit
abbrev OB := Value -> Option (DU × List MemPlace)
def Yj {α : Type} (R : OB) (enc : α -> DU) (w : World) (mb n : Nat) (m : Nm -> Option α) : Prop :=
 ∃ D, w.ownsMap Tryd.prog 9 R mb n D /\ Maps.Tidy D /\ ∀ s : Nm, Maps.has D (.string s) = (m s).isSome /\ ∀ a z, m s = some a -> D.atKey (.string s) z = enc a
variable {α : Type} {R : OB} {enc : α -> DU}
theorem Yj.made (w : World) : Yj R enc (w.alloc (.map #[] 0)) w.heap.size 0 (fun _ => none) := ⟨.map [], World.ownsMap_made _ _ _ _, Maps.tidy_empty, fun _ => ⟨rfl, fun a z h => by cases h⟩⟩
theorem Yj.kept {w w' : World} {mb n : Nat} {m : Nm -> Option α} {row : Option Nat} (h : Yj R enc w mb n m) (hg : w.grownBy w' row) (hne : some mb ≠ row) : Yj R enc w' mb n m := by
 obtain ⟨D, h1, h2, h3⟩ := h; exact ⟨D, h1.kept hg hne, h2, h3⟩
theorem Yj.lt {w : World} {mb n : Nat} {m : Nm -> Option α} (h : Yj R enc w mb n m) : mb < w.heap.size := by
 obtain ⟨D, h1, _⟩ := h; exact h1.lt
theorem Yj.below {w w' : World} {mb n : Nat} {m : Nm -> Option α} (h : Yj R enc w mb n m) (hb : Below w.heap.size w w') : Yj R enc w' mb n m := h.kept (xA hb) (by simp)
theorem Yj.mono {w : World} {mb n n' : Nat} {m : Nm -> Option α} (h : Yj R enc w mb n m) (hn : n <= n') : Yj R enc w mb n' m := by
 obtain ⟨D, h1, h2, h3⟩ := h; exact ⟨D, h1.mono hn, h2, h3⟩
def VD (m : Nm -> Option α) (s : Nm) (a : α) : Nm -> Option α := fun x => if x = s then some a else m x
theorem MW {D : DU} {m : Nm -> Option α} (ht : Maps.Tidy D) (h : ∀ s : Nm, Maps.has D (.string s) = (m s).isSome /\ ∀ a z, m s = some a -> D.atKey (.string s) z = enc a) (s : Nm) (a : α) :
 Maps.Tidy (D.put (.string s) (enc a)) /\ ∀ x : Nm, Maps.has (D.put (.string s) (enc a)) (.string x) = (VD m s a x).isSome /\ ∀ b z, VD m s a x = some b -> (D.put (.string s) (enc a)).atKey (.string x) z = enc b := by
 have hk : WideAt.IsKeyLit (Lit.string s) := trivial; refine ⟨ht.put hk _, fun x => ?_⟩; unfold VD; by_cases e : x = s
 . subst e; rw [if_pos rfl]; refine ⟨Maps.has_put_same ht.isMap hk _, fun b z hb => ?_⟩; cases hb; exact Maps.atKey_put_same ht.isMap hk _ _
 . rw [if_neg e]; have hne : (Lit.string x) ≠ Lit.string s := fun h => e (by injection h)
   refine ⟨by rw [Maps.has_put_other hne]; exact (h x).1, fun b z hb => ?_⟩; rw [Maps.atKey_put_other hne]; exact (h x).2 b z hb
theorem Yj.put {w w' : World} {mb n n' : Nat} {m : Nm -> Option α} {D : DU} (ht : Maps.Tidy D) (h : ∀ s : Nm, Maps.has D (.string s) = (m s).isSome /\ ∀ a z, m s = some a -> D.atKey (.string s) z = enc a) (s : Nm) (a : α)
 (ho : w'.ownsMap Tryd.prog 9 R mb n' (D.put (.string s) (enc a))) : Yj R enc w' mb n' (VD m s a) := by
 obtain ⟨h1, h2⟩ := MW ht h s a; exact ⟨_, ho, h1, h2⟩
section
variable {H : Type} {P : Program} (w : World) {ops : Array Oper} {rest : List Oper} {o : Oper} {a : Act} {Q : Exit -> Act -> World -> Prop}
end
def MX : Nm := [73, 110, 116]
def Hq : Nm := [66, 111, 111, 108]
def MZ : Nm := [67, 112, 120]
def given : Nm -> Option Int := VD (VD (VD (fun _ => none) MX 0) Hq 0) MZ 0
def nw (l : List Nm) : Nat := (l.map fun s => s.length + 1).sum
theorem Ud (a b : List Nm) : nw (a ++ b) = nw a + nw b := by simp [nw]
theorem Gp (s : Nm) (l : List Nm) : nw (s :: l) = s.length + 1 + nw l := by simp [nw]
theorem qC (l : List Nm) : l.length <= nw l := by
 induction l with
 | nil => simp
 | cons a r ih => rw [Gp, JG]; omega
theorem Qm.ne {w : World} {mb n : Nat} {c : Nm -> Int} (h : Qm w mb n c) {a : Addr} {v : Value} (hc : w.cell? a = some v) : a.block ≠ mb := by
 obtain ⟨D, ⟨es, clock, hb, _⟩, _⟩ := h; intro e; unfold World.cell? at hc; rw [e, hb] at hc; cases hc
abbrev C3 := Int × Int × Int
theorem Ka : (Tryd.prog.info? 9).map (fun i => (i.zero, i.size, i.bytes)) = some (some (.string ⟨#[]⟩), 1, 16) := by kernel_rfl
theorem qM {w : World} {g : Nat} {o : Option Obj} (h : Hid (w.heap[g]? = o)) : Hid (w.drew.heap[g]? = o) := h
def Gq (v : Value) : Prop := ∃ p n c, v = .slice p n c
theorem Sn (w : World) (x : ByteArray) (T : TypeId) (j : Nat) (u : Value) (h : ([Value.string x] : List Value)[j]? = some u) :
 (w.alloc (.cells #[.string x] T)).cell? ((⟨w.heap.size, 0, none⟩ : Addr).add j) = some u := by
 have e : (⟨w.heap.size, 0, none⟩ : Addr).add j = ⟨w.heap.size, j, none⟩ := by unfold Addr.add; split <;> simp_all
 rw [e, jT]
 simpa using h
theorem Jk {k g o : Nat} {w : World} {u : Value} {m : Px.Node} {i : Nat} (hu : Qw k w u m) (hc : ∀ j z, u.cells[j]? = some z -> w.cell? ⟨g, o + i * 6 + j, none⟩ = some z) :
 ∃ k' kv, k = k' + 1 /\ u = nV m kv /\ JO 6 (Qw k' w) w kv m.list /\ w.cell? ⟨g, o + i * 6, none⟩ = some (.int .i64 m.tok.kind) /\ w.cell? ⟨g, o + i * 6 + 1, none⟩ = some (.int .i64 m.tok.pos) /\ w.cell? ⟨g, o + i * 6 + 2, none⟩ = some (.string ⟨m.tok.text.toArray⟩) /\
  w.cell? ⟨g, o + i * 6 + 3, none⟩ = some (.int .i64 m.tok.int) /\ w.cell? ⟨g, o + i * 6 + 4, none⟩ = some (.bool (Px.jR m)) /\ w.cell? ⟨g, o + i * 6 + 5, none⟩ = some kv := by
 cases k with
 | zero => exact hu.elim
 | succ k =>
   obtain ⟨kv, rfl, hr⟩ := hu; exact ⟨k, kv, rfl, rfl, hr, hc 0 (.int .i64 m.tok.kind) rfl, hc 1 (.int .i64 m.tok.pos) rfl, hc 2 (.string ⟨m.tok.text.toArray⟩) rfl, hc 3 (.int .i64 m.tok.int) rfl, hc 4 (.bool (Px.jR m)) rfl, hc 5 kv rfl⟩
theorem jC {w W : World} (h : Below w.heap.size w W) {a : Addr} {z : Value} (hz : w.cell? a = some z) : W.cell? a = some z := (h.cell (JK w _ hz)).trans hz
def yt (l : List (List UInt8)) : List Value := l.map fun s => .string ⟨s.toArray⟩
theorem df (l : List (List UInt8)) (s : List UInt8) : yt (l ++ [s]) = yt l ++ [.string ⟨s.toArray⟩] := by simp [yt]
theorem xG {w : World} {base : Nat} {v : Value} {l : List (List UInt8)} {n : Nat} (h : w.ownsRow base 9 1 v n (yt l)) : JO 1 (zA w) w v l := by
 have hl : l.length = n := by have := h.1; simpa [yt] using this
 subst hl
 rcases h.2 with ⟨rfl, hn⟩ | ⟨g, cap, cur, rfl, hb, hh, hn, hm, hsz, htk⟩
 . exact .inl ⟨JP hn, none, 0, rfl⟩
 . refine .inr ⟨g, 0, cap, rfl, by omega, by unfold maxLen at hm; omega, fun i x hx => ⟨_, rfl, rfl, fun j z hz => ?_⟩⟩
   have hj : j = 0 := by
    have := (JW.1 hz).1; simp [Value.cells] at this; exact this
   subst hj; have hz' : z = .string ⟨x.toArray⟩ := by simpa [Value.cells] using hz.symm
   subst hz'; have := Zn h rfl i (.string ⟨x.toArray⟩) (by unfold yt; rw [QG, hx]; rfl); have e : (⟨g, 0, none⟩ : Addr).add i = ⟨g, 0 + i * 1 + 0, none⟩ := by unfold Addr.add; split <;> simp_all
   rw [e] at this; exact this
theorem JJ {n : Px.Node} {a b : Nat} {l : List Px.Node} (h : Px.nodes n a b = .ok l) : l = n.list /\ a <= l.length /\ l.length <= b /\ Px.jR n = true := by
 unfold Px.nodes Px.hold at h; by_cases h1 : Px.jR n = true
 . rw [if_pos h1] at h; by_cases h2 : n.list.length < a
   . rw [if_pos h2] at h; cases h
   . rw [if_neg h2] at h; cases h3 : n.list[b]? with
     | some m => rw [h3] at h; cases h
     | none =>
       rw [h3] at h; obtain rfl : n.list = l := by simpa using h
       exact ⟨rfl, by omega, by simpa using h3, h1⟩
 . rw [if_neg h1] at h; cases h
theorem Ma {w W : World} {base n : Nat} {v : Value} {l : List (List UInt8)} (h : W.ownsRow base 9 1 v n (yt l)) (hb : w.heap.size <= base) : New (fun u => JO 1 (zA u) u) w W v l :=
 fun u hu => xG (Wp h fun k hk => hu k (by have := (h.lt k hk).1; omega) (h.lt k hk).2)
theorem dh {w : World} {base e size n : Nat} {v : Value} {xs : List Value} (h : w.ownsRow base e size v n xs) : Gq v := by
 obtain ⟨p, c, rfl⟩ := jH h; exact ⟨p, _, c, rfl⟩
theorem Ue (k : Nat) (n : Px.Node) (v : Value) (w : World) (hn : Qw k w v n) (hg : Px.jq n) : Calls Tryd.prog 44 #[v] w (qN w (fun u => JO 1 (zA u) u) Gq (Px.names n 0)) := by
 cases k with
 | zero => exact hn.elim
 | succ k =>
 have Vv := hid hn; obtain ⟨lv, rfl, hr⟩ := hn; obtain ⟨q, c, rfl⟩ := hr.len; have HR := hid hr; have HG := hid (fun m hm => hg.kid (m := m) hm); obtain ⟨i0, hi, hq0, hq1, hq2⟩ := QL Ka; have I0 := hid hi; have PQ := hid hq0; have PR := hid hq1; have PS := hid hq2
 clear hi hq0 hq1 hq2 hr; go_enter Tryd.func44, Tryd.ntmps44; unfold nV; have EN := hid (jb w #[.int .i64 n.tok.kind, .int .i64 n.tok.pos, .string ⟨n.tok.text.toArray⟩, .int .i64 n.tok.int, .bool (Px.jR n), (.slice q n.list.length c)] 73); have HB := hid ((jD w.heap.size w).alloc (jB _) (.cells #[.int .i64 n.tok.kind, .int .i64 n.tok.pos, .string ⟨n.tok.text.toArray⟩, .int .i64 n.tok.int, .bool (Px.jR n), (.slice q n.list.length c)] 73)); go_wp2_with fail; refine (Qg (k + 1) n _ 0 8 _ (Vv.out.below HB.out) (by omega) (by omega)).mono ?_; rintro e w1 ⟨rfl, hb⟩; replace EN := bE EN hb; replace HB := bT HB hb; clear hb; unfold Zb; cases hnd : Px.nodes n 0 8 with
 | error p =>
   dsimp only
   have hge : (p : Int) >= 0 := by omega
   go_wp2_with fail; go_ret2; exact jr (by unfold Px.names; rw [hnd]) HB ⟨_, _, _, rfl⟩
 | ok l =>
   dsimp only
   have hni := JJ hnd; have hll := hni.1; have hlen := hni.2.2.1; clear hni; subst hll; have hnm : Px.names n 0 = Px.each Px.name n.list := by unfold Px.names; rw [hnd]
   have VE := hid hnm; clear hnd hnm; go_wp2_with fail
   go_loopw [2, 3, 5, 6, 7, 8] (fun _ _ v i _ _ wr => ∃ (j : Nat) (xs : List (List UInt8)), i = .int .i64 j /\ j <= n.list.length /\ Hid (Px.each Px.name (n.list.take j) = .ok xs) /\ xs.length = j /\ Hid (wr.ownsRow (w.heap.size + 1) 9 1 v xs.length (yt xs)) /\ Hid (wr.heap[w.heap.size]? = some (.cells #[.int .i64 n.tok.kind, .int .i64 n.tok.pos, .string ⟨n.tok.text.toArray⟩, .int .i64 n.tok.int, .bool (Px.jR n), (.slice q n.list.length c)] 73)) /\ Hid (Below w.heap.size w wr)) (fun _ _ _ i _ _ _ => n.list.length - (intOf i).toNat)
   case atStart => exact ⟨0, [], rfl, jh _, hid (by simp [Px.each]), rfl, hid (jo _ _ _ _), EN, HB⟩
   case round =>
    clear EN HB; obtain ⟨j, xs, rfl, hj, HE, hxl, HO, EN, HB⟩ := hrel; have hs1 := ji EN; have e5 := xK EN 5 rfl; by_cases hlt : j < n.list.length
    . have hstep := Px.qU (f := Px.name) (jA hlt) HE.out; have hgg : n.list[j]? = some n.list[j] := jA hlt; obtain ⟨m, hm⟩ : ∃ m, n.list[j]? = some m := ⟨_, jA hlt⟩
      have hgm : Px.jq m := HG.out m (jI hm)
      rcases HR.out with ⟨h0, _⟩ | ⟨g, of, c', hv, g1, g2, g3⟩
      . rw [h0] at hlt; simp at hlt
      injection hv with hq1 _ hq2
      subst hq1; subst hq2
      obtain ⟨u, hu, _, hcell⟩ := g3 j m hm; obtain ⟨k1, kv, hk1, rfl, hkr, m0, m1, m2, m3, m4, m5⟩ := Jk hu hcell; have HU := hid hu; have HM := hid hm; have iG := hid hgm
      have hlc : (n.list.length : Int) <= 9223372036854775807 := by omega
      clear hu hm hgm hcell g3 hkr; replace m0 := jC HB m0; replace m1 := jC HB m1; replace m2 := jC HB m2; replace m3 := jC HB m3; replace m4 := jC HB m4; replace m5 := jC HB m5; have hmm : n.list[j] = m := by have := HM.out; rw [hgg] at this; exact Y6 this
      rw [hmm] at hstep; have HST := hid hstep; clear hstep hgg hmm; go_wp2_with fail; refine (YJ m kv _ iG).mono ?_; intro e w2 ht; cases hnm : Px.name m with
      | error p =>
        obtain ⟨z, rfl, ⟨s, rfl⟩, hb⟩ := Jb ht hnm; have hge : (p : Int) >= 0 := by omega
        have hbd := HST.out.2 p hnm; clear ht HST; go_wp2_with fail; go_ret2; exact jr (by rw [VE.out]; exact hbd) (HB.out.trans (hb.mono HB.out.size)) ⟨_, _, _, rfl⟩
      | ok s =>
        obtain ⟨z, rfl, _, hnew, hb⟩ := Jm ht hnm; obtain rfl := hnew.now; have hgd := HST.out.1 s hnm; have rF := hid hgd; have zV := hid (jc HO hb)
        have jB8 := bE EN hb; have HB2 := bT HB hb; have hs2 := hb.size; clear ht HST hnew hnm hgd hb; go_wp2_with (at_builtin; refine qi _ rfl (.tmp 33) (.tmp 35) 34 rfl (w.heap.size + 1) 9 i0 (.string ⟨#[]⟩) 1 16 Tryd.underlying34 I0 PQ PR PS rfl (by decide) _ xs.length _ rfl (zV.out.alloc _) ⟨w2.heap.size, 0, none⟩ 1 1 [.string ⟨s.toArray⟩] rfl (by decide) rfl ?c1 ?c2 ?c3 ?c4 ?c5 ?_)
        case c1 => exact fun j u h => Sn w2 ⟨s.toArray⟩ _ j u h
        case c2 => intro u hu; rw [j4.1 hu]; rfl
        case c3 => unfold maxLen; omega
        case c4 => omega
        case c5 => simp; omega
        intro v' w3 hown hgr hloc; have uo : ∀ kk, u5.ownBlock = some kk -> w.heap.size + 1 <= kk := fun kk hkk => (zV.out.lt kk hkk).1
        have HB3 := hid ((HB2.out.alloc HB2.out.size (.cells #[.string ⟨s.toArray⟩] 9)).grown hgr (by have := HB2.out.size; simp; omega) (fun kk hkk => by have := uo kk hkk; omega)); have jDV := hid ((hgr.block w.heap.size (by have := ji jB8; simp; omega) (fun e => by have := uo _ e.symm; omega)).trans (JA jB8 (.cells #[.string ⟨s.toArray⟩] 9))); have H2 := hid (show w3.ownsRow (w.heap.size + 1) 9 1 v' (xs ++ [s]).length (yt (xs ++ [s])) by rw [df, jE, hxl]; exact hown); clear hgr hown hloc uo; go_wp2
        go_roundw
        case rel => exact ⟨j + 1, xs ++ [s], by go_num, by omega, rF, by simp [hxl], H2, jDV, HB3⟩
        case measure => simp [intOf]; omega
    . have Ey : j = n.list.length := by omega
      subst Ey; have he := HE.out; rw [jY] at he; have uh := hid he; clear he; go_wp2; go_ret2; refine Jq (by rw [VE.out]; exact uh.out) HB (dh HO) ?_; exact Ma HO (by omega)
end Go.Proofs.YtlnjdclmopblcaaDoor
