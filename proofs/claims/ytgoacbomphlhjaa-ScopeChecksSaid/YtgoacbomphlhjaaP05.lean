/-
  Several texts in one: RName, SMap, SMapG, SAll, SNames.
-/
import Derived.Test.YtgoacbomphlhjaaP00
import Derived.Test.YtgoacbomphlhjaaP04
import Derived.Deep.QuietTactic
import Derived.BigQuiet
import Derived.Maps.Own
import Derived.Maps.OwnOps
import Derived.Maps.Views
import Derived.StringKeys
import Derived.Maps.OwnSet
import Derived.Maps.RangeWalk
set_option linter.unusedVariables false
set_option linter.unusedSimpArgs false
namespace Go.Proofs.Ytgoacbomphlhjaa
open Go.Lib (hid)
open List renaming getElem_toArray → jX, getElem_cons_succ → jY, getElem_cons_zero → jZ, setIfInBounds_toArray → JA, set_cons_zero → JB, set_cons_succ → JC
open Go Go.RowKit
/-- A part and where it is wrong: what a part's reader answers. -/
def RTold {α : Type} (w : World) (rep : World → Value → α → Prop) (sh : Value → Prop) (r : Px.R α) (e : Ending) (w' : World) : Prop :=
 Below w.heap.size w w' ∧ ∃ v k, e = .returned (.tuple #[v, .int .i64 k]) ∧ sh v ∧ (match r with | .ok x => k = -1 ∧ New rep w w' v x | .error p => k = (p : Int))
theorem rtold_ok {α : Type} {w w' : World} {rep : World → Value → α → Prop} {sh : Value → Prop} {r : Px.R α} {e : Ending} {x : α} (h : RTold w rep sh r e w') (hr : r = .ok x) : ∃ v, e = .returned (.tuple #[v, .int .i64 (-1)]) ∧ sh v ∧ New rep w w' v x ∧ Below w.heap.size w w' := by
 obtain ⟨hb, v, k, rfl, hs, hm⟩ := h
 rw [hr] at hm
 obtain ⟨rfl, hn⟩ := hm
 exact ⟨v, rfl, hs, hn, hb⟩
theorem jN {α : Type} {w w' : World} {rep : World → Value → α → Prop} {sh : Value → Prop} {r : Px.R α} {e : Ending} {p : Nat} (h : RTold w rep sh r e w') (hr : r = .error p) : ∃ v, e = .returned (.tuple #[v, .int .i64 (p : Int)]) ∧ sh v ∧ Below w.heap.size w w' := by
 obtain ⟨hb, v, k, rfl, hs, hm⟩ := h
 rw [hr] at hm
 obtain rfl : k = (p : Int) := hm
 exact ⟨v, rfl, hs, hb⟩
theorem jO {α : Type} {w w' : World} {rep : World → Value → α → Prop} {sh : Value → Prop} {r : Px.R α} {x : α} {v : Value} (hr : r = .ok x) (hb : Below w.heap.size w w') (hs : sh v) (hn : New rep w w' v x) : RTold w rep sh r (.returned (.tuple #[v, .int .i64 (-1)])) w' := by
 subst hr; exact ⟨hb, v, -1, rfl, hs, rfl, hn⟩
theorem jL {α : Type} {w w' : World} {rep : World → Value → α → Prop} {sh : Value → Prop} {r : Px.R α} {p : Nat} {v : Value} (hr : r = .error p) (hb : Below w.heap.size w w') (hs : sh v) : RTold w rep sh r (.returned (.tuple #[v, .int .i64 (p : Int)])) w' := by
 subst hr; exact ⟨hb, v, p, rfl, hs, rfl⟩
theorem below_dn {B : Nat} {a w : World} (h : Below B a w) (n : Nat) : Below B a (w.drewN n) := h.trans ⟨rfl, rfl, rfl, Nat.le_refl _, fun _ _ => rfl⟩
def ShStr (v : Value) : Prop := ∃ s : ByteArray, v = .string s
theorem new_str (w w' : World) (s : List UInt8) : New StrAt w w' (.string ⟨s.toArray⟩) s := fun _ _ => rfl
set_option maxHeartbeats 1000000 in
theorem name_any (n : Px.Node) (lv : Value) (w : World) (hg : Px.NodeGood n) : Calls Try.prog 43 #[nV n lv] w (RTold w StrAt ShStr (Px.name n)) := by
 have hnm := Px.nameR_eq hg
 have hp : Px.name n = if Px.nameR n = true then .ok n.tok.text else .error n.tok.pos := by unfold Px.name; rw [hnm]; rfl
 have HP := hid hp
 clear hnm hp
 go_enter Try.func43, Try.ntmps43
 unfold nV
 have EN := hid (jI w #[.int .i64 n.tok.kind, .int .i64 n.tok.pos, .string ⟨n.tok.text.toArray⟩, .int .i64 n.tok.int, .bool (Px.jS n), lv] 73)
 have HB := hid ((Below.refl w.heap.size w).alloc (Nat.le_refl _) (.cells #[.int .i64 n.tok.kind, .int .i64 n.tok.pos, .string ⟨n.tok.text.toArray⟩, .int .i64 n.tok.int, .bool (Px.jS n), lv] 73))
 go_wp2_with fail
 refine (token_any n lv 3 _).mono ?_
 rintro e w1 ⟨rfl, hb⟩
 replace EN := hid (jC EN.out hb)
 replace HB := hid (HB.out.trans (hb.mono HB.out.size))
 clear hb
 have c1 := jA EN.out 1 _ rfl
 have c2 := jA EN.out 2 _ rfl
 have hnr : Px.nameR n = ((!Px.jS n && n.tok.kind == 3) && !Px.resB n.tok.text) := rfl
 rw [hnr] at HP
 clear hnr
 generalize (!Px.jS n && n.tok.kind == 3) = b at *
 cases b with
 | false =>
   go_wp2_with fail
   go_quiet (fail)
   go_wp2_with fail
   go_ret2
   exact jL (by rw [HP.out]; rfl) (below_dn HB.out _) ⟨_, rfl⟩
 | true =>
   go_wp2_with fail
   refine (reserved_any n.tok.text _).mono ?_
   rintro e w2 ⟨rfl, hb⟩
   replace EN := hid (jC EN.out hb)
   replace HB := hid (HB.out.trans (hb.mono HB.out.size))
   clear hb c1 c2
   have c1 := jA EN.out 1 _ rfl
   have c2 := jA EN.out 2 _ rfl
   generalize Px.resB n.tok.text = r at *
   cases r with
   | true =>
     go_wp2_with fail
     go_quiet (fail)
     go_wp2_with fail
     go_ret2
     exact jL (by rw [HP.out]; rfl) (below_dn HB.out _) ⟨_, rfl⟩
   | false =>
     go_wp2_with fail
     go_ret2
     exact jO (by rw [HP.out]; rfl) HB.out ⟨_, rfl⟩ (new_str _ _ _)
set_option maxHeartbeats 1000000 in
theorem con_any (n : Px.Node) (lv : Value) (w : World) (hg : Px.NodeGood n) : Calls Try.prog 40 #[nV n lv] w (RTold w StrAt ShStr (Px.conName n)) := by
 have hp : Px.conName n = if (!Px.jS n && n.tok.kind == 4) = true then .ok n.tok.text else .error n.tok.pos := by
  unfold Px.conName Px.isConB Px.jS Px.Node.text Px.Node.pos
  by_cases h4 : n.tok.kind = 4
  · rw [h4]; rfl
  · have : (n.tok.kind == 4) = false := by rw [beq_eq_false_iff_ne]; exact h4
    rw [this]; simp
 have HP := hid hp
 clear hp
 go_enter Try.func40, Try.ntmps40
 unfold nV
 have EN := hid (jI w #[.int .i64 n.tok.kind, .int .i64 n.tok.pos, .string ⟨n.tok.text.toArray⟩, .int .i64 n.tok.int, .bool (Px.jS n), lv] 73)
 have HB := hid ((Below.refl w.heap.size w).alloc (Nat.le_refl _) (.cells #[.int .i64 n.tok.kind, .int .i64 n.tok.pos, .string ⟨n.tok.text.toArray⟩, .int .i64 n.tok.int, .bool (Px.jS n), lv] 73))
 go_wp2_with fail
 refine (token_any n lv 4 _).mono ?_
 rintro e w1 ⟨rfl, hb⟩
 replace EN := hid (jC EN.out hb)
 replace HB := hid (HB.out.trans (hb.mono HB.out.size))
 clear hb
 have c1 := jA EN.out 1 _ rfl
 have c2 := jA EN.out 2 _ rfl
 generalize (!Px.jS n && n.tok.kind == 4) = b at *
 cases b with
 | false =>
   go_wp2_with fail
   go_quiet (fail)
   go_wp2_with fail
   go_ret2
   exact jL (by rw [HP.out]; rfl) (below_dn HB.out _) ⟨_, rfl⟩
 | true =>
   go_wp2_with fail
   go_ret2
   exact jO (by rw [HP.out]; rfl) HB.out ⟨_, rfl⟩ (new_str _ _ _)
/-- Does a list begin with a word. -/
def Px.headB (n : Px.Node) (s : List UInt8) : Bool := Px.jS n && (match n.list with | [] => false | m :: _ => (!Px.jS m && m.tok.kind == 3) && m.tok.text == s)
theorem Px.head_eq {n : Px.Node} (h : Px.NodeGood n) (s : List UInt8) (hne : s ≠ []) (hs : ¬ Px.Plain s) (hk : (Lx.tokAt s).1 = 3) : Px.headB n s = decide (Px.word n = s) := by
 unfold Px.headB Px.word
 cases hl : Px.jS n with
 | false =>
   rw [Px.good_list h hl]
   simp [hne.symm]
 | true =>
   cases hn : n.list with
   | nil => simp [hne.symm]
   | cons m r =>
     have hm : Px.NodeGood m := h.kid (by rw [hn]; simp)
     dsimp only
     by_cases hlt : Px.jS m = true
     · simp [hlt, hne.symm]
     · have hlm : Px.jS m = false := by simpa using hlt
       simp only [hlm, Bool.not_false, Bool.true_and, Bool.false_eq_true, if_false]
       by_cases ht : m.tok.text = s
       · have hk3 := Px.good_kind hm hlm s ht hs
         rw [hk] at hk3
         have ht2 : m.text = s := ht
         rw [hk3, ht, ht2]; simp
       · have h1 : (m.tok.text == s) = false := by rw [beq_eq_false_iff_ne]; exact ht
         have ht2 : ¬ m.text = s := ht
         rw [h1]; simp [ht2]
set_option maxHeartbeats 2000000 in
theorem head_any (k : Nat) (n : Px.Node) (v : Value) (s : List UInt8) (w : World) (hn : NdAt k w v n) : Calls Try.prog 20 #[v, .string ⟨s.toArray⟩] w fun e w' => e = .returned (.bool (Px.headB n s)) ∧ Below w.heap.size w w' := by
 cases k with
 | zero => exact hn.elim
 | succ k =>
 obtain ⟨lv, rfl, hr⟩ := hn
 obtain ⟨q, c, rfl⟩ := hr.len
 have HR := hid hr
 clear hr
 have hh : Px.headB n s = (Px.jS n && (match n.list with | [] => false | m :: _ => (!Px.jS m && m.tok.kind == 3) && m.tok.text == s)) := rfl
 have HH := hid hh
 clear hh
 go_enter Try.func20, Try.ntmps20
 unfold nV
 have EN := hid (jI w #[.int .i64 n.tok.kind, .int .i64 n.tok.pos, .string ⟨n.tok.text.toArray⟩, .int .i64 n.tok.int, .bool (Px.jS n), (.slice q n.list.length c)] 73)
 have HB := hid ((Below.refl w.heap.size w).alloc (Nat.le_refl _) (.cells #[.int .i64 n.tok.kind, .int .i64 n.tok.pos, .string ⟨n.tok.text.toArray⟩, .int .i64 n.tok.int, .bool (Px.jS n), (.slice q n.list.length c)] 73))
 cases hb : Px.jS n with
 | false =>
   rw [hb] at HH EN HB
   go_wp2_with fail
   go_ret
   exact ⟨by rw [HH.out]; rfl, HB.out⟩
 | true =>
   rw [hb] at HH EN HB
   by_cases hl : n.list = []
   · rw [hl] at HH EN HB HR ⊢
     have hz : ¬ (0 : Int) < (([] : List Px.Node).length : Int) := by simp
     go_wp2_with fail
     go_ret
     exact ⟨by rw [HH.out]; rfl, HB.out⟩
   · obtain ⟨m, r, hl⟩ := List.exists_cons_of_ne_nil hl
     rw [hl] at HH
     have hz : (0 : Int) < (n.list.length : Int) := by rw [hl]; simp
     rcases HR.out with ⟨h0, _⟩ | ⟨g, o, c', hv, g1, g2, g3⟩
     · rw [hl] at h0; cases h0
     · injection hv with hq _ hc
       subst hq; subst hc
       obtain ⟨u, hu, _, hcell⟩ := g3 0 m (by rw [hl]; rfl)
       cases k with
       | zero => exact hu.elim
       | succ k =>
         obtain ⟨kv, rfl, _⟩ := hu
         have hm0 := hcell 0 (.int .i64 m.tok.kind) rfl
         have hm1 := hcell 1 (.int .i64 m.tok.pos) rfl
         have hm2 := hcell 2 (.string ⟨m.tok.text.toArray⟩) rfl
         have hm3 := hcell 3 (.int .i64 m.tok.int) rfl
         have hm4 := hcell 4 (.bool (Px.jS m)) rfl
         have hm5 := hcell 5 kv rfl
         simp only [Nat.zero_mul, Nat.add_zero] at hm0 hm1 hm2 hm3 hm4 hm5
         have up : ∀ (W : World), Below w.heap.size w W → ∀ j z, w.cell? ⟨g, j, none⟩ = some z → W.cell? ⟨g, j, none⟩ = some z := fun W hb j z hz => (hb.cell (World.block_lt_of_cell? w _ hz)).trans hz
         have k0 := up _ HB.out _ _ hm0; have k1 := up _ HB.out _ _ hm1; have k2 := up _ HB.out _ _ hm2; have k3 := up _ HB.out _ _ hm3; have k4 := up _ HB.out _ _ hm4; have k5 := up _ HB.out _ _ hm5
         have M2 := hid hm2; have UP := hid up
         clear hm0 hm1 hm2 hm3 hm4 hm5 g3 hcell HR up
         clear hl
         generalize n.list.length = NL at *
         go_wp2_with fail
         refine (token_any m kv 3 _).mono ?_
         rintro e w1 ⟨rfl, hb1⟩
         replace EN := hid (jC EN.out hb1)
         replace HB := hid (HB.out.trans (hb1.mono HB.out.size))
         clear hb1 k0 k1 k2 k3 k4 k5
         have k2 := UP.out _ HB.out _ _ M2.out
         have e5 := jA EN.out 5 _ rfl
         generalize (!Px.jS m && m.tok.kind == 3) = b at *
         cases b with
         | false =>
           go_wp2_with fail
           go_ret
           exact ⟨by rw [HH.out]; rfl, HB.out⟩
         | true =>
           by_cases ht : m.tok.text = s
           · subst ht
             go_wp2_with fail
             go_ret
             exact ⟨by rw [HH.out]; simp, HB.out⟩
           · have hne2 : ¬ (⟨m.tok.text.toArray⟩ : ByteArray) = ⟨s.toArray⟩ := by intro e; exact ht (by injection e with e; simpa using e)
             have h1 : (m.tok.text == s) = false := by rw [beq_eq_false_iff_ne]; exact ht
             go_wp2_with fail
             go_ret
             exact ⟨by rw [HH.out, h1]; simp, HB.out⟩
theorem arr_ne {a b : List UInt8} (h : a ≠ b) : ¬ (⟨a.toArray⟩ : ByteArray) = ⟨b.toArray⟩ := by intro e; exact h (by injection e with e; simpa using e)
set_option maxHeartbeats 4000000 in
theorem takes_any (n : Px.Node) (lv : Value) (w : World) : Calls Try.prog 58 #[nV n lv] w fun e w' => e = .returned (.int .i64 (Px.takesR n : Nat)) ∧ Below w.heap.size w w' := by
 have hh : Px.takesR n = if (Px.jS n || (n.tok.kind != 3 && n.tok.kind != 5)) = true then 0 else Px.takesOf n.tok.text := rfl
 have HH := hid hh
 clear hh
 go_enter Try.func58, Try.ntmps58
 unfold nV
 have EN := hid (jI w #[.int .i64 n.tok.kind, .int .i64 n.tok.pos, .string ⟨n.tok.text.toArray⟩, .int .i64 n.tok.int, .bool (Px.jS n), lv] 73)
 have HB := hid ((Below.refl w.heap.size w).alloc (Nat.le_refl _) (.cells #[.int .i64 n.tok.kind, .int .i64 n.tok.pos, .string ⟨n.tok.text.toArray⟩, .int .i64 n.tok.int, .bool (Px.jS n), lv] 73))
 cases hb : Px.jS n with
 | true =>
   rw [hb] at HH EN HB
   go_wp2_with fail
   go_ret
   exact ⟨by rw [HH.out]; rfl, HB.out⟩
 | false =>
   rw [hb] at HH EN HB
   by_cases h35 : n.tok.kind = 3 ∨ n.tok.kind = 5
   · have hx : Px.takesR n = Px.takesOf n.tok.text := by
      rw [HH.out]
      rcases h35 with e | e <;> rw [e] <;> rfl
     have HX := hid hx
     clear HH hx
     generalize n.tok.kind = K at *
     by_cases h3 : K = 3
     · subst h3; clear h35
       by_cases h_0 : n.tok.text = [43]
       · rw [h_0] at HX EN HB ⊢
         go_wp2_with fail
         go_ret
         exact ⟨by rw [HX.out]; rfl, HB.out⟩
       by_cases h_1 : n.tok.text = [45]
       · rw [h_1] at HX EN HB ⊢
         go_wp2_with fail
         go_ret
         exact ⟨by rw [HX.out]; rfl, HB.out⟩
       by_cases h_2 : n.tok.text = [42]
       · rw [h_2] at HX EN HB ⊢
         go_wp2_with fail
         go_ret
         exact ⟨by rw [HX.out]; rfl, HB.out⟩
       by_cases h_3 : n.tok.text = [47]
       · rw [h_3] at HX EN HB ⊢
         go_wp2_with fail
         go_ret
         exact ⟨by rw [HX.out]; rfl, HB.out⟩
       by_cases h_4 : n.tok.text = [37]
       · rw [h_4] at HX EN HB ⊢
         go_wp2_with fail
         go_ret
         exact ⟨by rw [HX.out]; rfl, HB.out⟩
       by_cases h_5 : n.tok.text = [61]
       · rw [h_5] at HX EN HB ⊢
         go_wp2_with fail
         go_ret
         exact ⟨by rw [HX.out]; rfl, HB.out⟩
       by_cases h_6 : n.tok.text = [60]
       · rw [h_6] at HX EN HB ⊢
         go_wp2_with fail
         go_ret
         exact ⟨by rw [HX.out]; rfl, HB.out⟩
       by_cases h_7 : n.tok.text = [99, 112, 120]
       · rw [h_7] at HX EN HB ⊢
         go_wp2_with fail
         go_ret
         exact ⟨by rw [HX.out]; rfl, HB.out⟩
       by_cases h_8 : n.tok.text = [99, 97, 100, 100]
       · rw [h_8] at HX EN HB ⊢
         go_wp2_with fail
         go_ret
         exact ⟨by rw [HX.out]; rfl, HB.out⟩
       by_cases h_9 : n.tok.text = [99, 109, 117, 108]
       · rw [h_9] at HX EN HB ⊢
         go_wp2_with fail
         go_ret
         exact ⟨by rw [HX.out]; rfl, HB.out⟩
       by_cases h_10 : n.tok.text = [114, 101]
       · rw [h_10] at HX EN HB ⊢
         go_wp2_with fail
         go_ret
         exact ⟨by rw [HX.out]; rfl, HB.out⟩
       by_cases h_11 : n.tok.text = [105, 109]
       · rw [h_11] at HX EN HB ⊢
         go_wp2_with fail
         go_ret
         exact ⟨by rw [HX.out]; rfl, HB.out⟩
       have hz : Px.takesOf n.tok.text = 0 := by
        by_cases ht : Px.takesOf n.tok.text = 0
        · exact ht
        · have hw := Px.takes_words _ ht
          simp only [List.mem_cons, List.not_mem_nil, or_false] at hw
          simp_all
       rw [hz] at HX
       replace h_0 := beq_eq_false_iff_ne.2 h_0
       replace h_1 := beq_eq_false_iff_ne.2 h_1
       replace h_2 := beq_eq_false_iff_ne.2 h_2
       replace h_3 := beq_eq_false_iff_ne.2 h_3
       replace h_4 := beq_eq_false_iff_ne.2 h_4
       replace h_5 := beq_eq_false_iff_ne.2 h_5
       replace h_6 := beq_eq_false_iff_ne.2 h_6
       replace h_7 := beq_eq_false_iff_ne.2 h_7
       replace h_8 := beq_eq_false_iff_ne.2 h_8
       replace h_9 := beq_eq_false_iff_ne.2 h_9
       replace h_10 := beq_eq_false_iff_ne.2 h_10
       replace h_11 := beq_eq_false_iff_ne.2 h_11
       clear hz
       generalize n.tok.text = T at *
       go_wp2_with fail
       go_ret
       exact ⟨by rw [HX.out]; rfl, HB.out⟩
     · have h5 : K = 5 := h35.resolve_left h3
       subst h5; clear h35 h3
       by_cases h_0 : n.tok.text = [43]
       · rw [h_0] at HX EN HB ⊢
         go_wp2_with fail
         go_ret
         exact ⟨by rw [HX.out]; rfl, HB.out⟩
       by_cases h_1 : n.tok.text = [45]
       · rw [h_1] at HX EN HB ⊢
         go_wp2_with fail
         go_ret
         exact ⟨by rw [HX.out]; rfl, HB.out⟩
       by_cases h_2 : n.tok.text = [42]
       · rw [h_2] at HX EN HB ⊢
         go_wp2_with fail
         go_ret
         exact ⟨by rw [HX.out]; rfl, HB.out⟩
       by_cases h_3 : n.tok.text = [47]
       · rw [h_3] at HX EN HB ⊢
         go_wp2_with fail
         go_ret
         exact ⟨by rw [HX.out]; rfl, HB.out⟩
       by_cases h_4 : n.tok.text = [37]
       · rw [h_4] at HX EN HB ⊢
         go_wp2_with fail
         go_ret
         exact ⟨by rw [HX.out]; rfl, HB.out⟩
       by_cases h_5 : n.tok.text = [61]
       · rw [h_5] at HX EN HB ⊢
         go_wp2_with fail
         go_ret
         exact ⟨by rw [HX.out]; rfl, HB.out⟩
       by_cases h_6 : n.tok.text = [60]
       · rw [h_6] at HX EN HB ⊢
         go_wp2_with fail
         go_ret
         exact ⟨by rw [HX.out]; rfl, HB.out⟩
       by_cases h_7 : n.tok.text = [99, 112, 120]
       · rw [h_7] at HX EN HB ⊢
         go_wp2_with fail
         go_ret
         exact ⟨by rw [HX.out]; rfl, HB.out⟩
       by_cases h_8 : n.tok.text = [99, 97, 100, 100]
       · rw [h_8] at HX EN HB ⊢
         go_wp2_with fail
         go_ret
         exact ⟨by rw [HX.out]; rfl, HB.out⟩
       by_cases h_9 : n.tok.text = [99, 109, 117, 108]
       · rw [h_9] at HX EN HB ⊢
         go_wp2_with fail
         go_ret
         exact ⟨by rw [HX.out]; rfl, HB.out⟩
       by_cases h_10 : n.tok.text = [114, 101]
       · rw [h_10] at HX EN HB ⊢
         go_wp2_with fail
         go_ret
         exact ⟨by rw [HX.out]; rfl, HB.out⟩
       by_cases h_11 : n.tok.text = [105, 109]
       · rw [h_11] at HX EN HB ⊢
         go_wp2_with fail
         go_ret
         exact ⟨by rw [HX.out]; rfl, HB.out⟩
       have hz : Px.takesOf n.tok.text = 0 := by
        by_cases ht : Px.takesOf n.tok.text = 0
        · exact ht
        · have hw := Px.takes_words _ ht
          simp only [List.mem_cons, List.not_mem_nil, or_false] at hw
          simp_all
       rw [hz] at HX
       replace h_0 := beq_eq_false_iff_ne.2 h_0
       replace h_1 := beq_eq_false_iff_ne.2 h_1
       replace h_2 := beq_eq_false_iff_ne.2 h_2
       replace h_3 := beq_eq_false_iff_ne.2 h_3
       replace h_4 := beq_eq_false_iff_ne.2 h_4
       replace h_5 := beq_eq_false_iff_ne.2 h_5
       replace h_6 := beq_eq_false_iff_ne.2 h_6
       replace h_7 := beq_eq_false_iff_ne.2 h_7
       replace h_8 := beq_eq_false_iff_ne.2 h_8
       replace h_9 := beq_eq_false_iff_ne.2 h_9
       replace h_10 := beq_eq_false_iff_ne.2 h_10
       replace h_11 := beq_eq_false_iff_ne.2 h_11
       clear hz
       generalize n.tok.text = T at *
       go_wp2_with fail
       go_ret
       exact ⟨by rw [HX.out]; rfl, HB.out⟩
   · have h3 : ¬ n.tok.kind = 3 := fun e => h35 (.inl e)
     have h5 : ¬ n.tok.kind = 5 := fun e => h35 (.inr e)
     have hx : Px.takesR n = 0 := by
      rw [HH.out]
      have e3 : (n.tok.kind != 3) = true := by simpa using h3
      have e5 : (n.tok.kind != 5) = true := by simpa using h5
      rw [e3, e5]; rfl
     have HX := hid hx
     have b3 : (n.tok.kind != 3) = true := bne_iff_ne.2 h3
     have b5 : (n.tok.kind != 5) = true := bne_iff_ne.2 h5
     clear HH hx h35
     generalize n.tok.kind = K at *
     go_wp2_with fail
     go_ret
     exact ⟨by rw [HX.out]; rfl, HB.out⟩
end Go.Proofs.Ytgoacbomphlhjaa

namespace Go.Proofs.Ytgoacbomphlhjaa
open Go.Lib (hid)
open List renaming getElem_toArray → jX, getElem_cons_succ → jY, getElem_cons_zero → jZ, setIfInBounds_toArray → JA, set_cons_zero → JB, set_cons_succ → JC
open Go Go.RowKit
abbrev Nm := List UInt8
theorem lawStr : Maps.Keyed Try.prog 9 := Maps.string_keyed Try.underlying9
theorem zeroInt (w : World) : (zeroValue 3).run Try.prog w = .ok (.int .i64 0) w := by kernel_rfl
theorem keyNm (s : Nm) (h : s.length ≤ maxLen) : keyOf Try.prog 9 (.string ⟨s.toArray⟩) = some (.string s) := by
 have := WideMaps.keyOf_string_mk (P := Try.prog) (k := 9) Try.underlying9 (s := ⟨s.toArray⟩) (by simpa [ByteArray.size] using h)
 simpa using this
/-- Block mb counts names. -/
def NamesC (w : World) (mb n : Nat) (c : Nm → Int) : Prop :=
 ∃ D : DataW Unit, w.ownsMap Try.prog 9 (plainElem Try.prog 3) mb n D ∧ Maps.Tidy D ∧ ∀ s : Nm, D.atKey (.string s) (.lit (.int .i64 0)) = .lit (.int .i64 (c s))
theorem NamesC.made (w : World) : NamesC (w.alloc (.map #[] 0)) w.heap.size 0 (fun _ => 0) := ⟨.map [], World.ownsMap_made _ _ _ _, Maps.tidy_empty, fun _ => rfl⟩
theorem NamesC.kept {w w' : World} {mb n : Nat} {c : Nm → Int} {row : Option Nat} (h : NamesC w mb n c) (hg : w.grownBy w' row) (hne : some mb ≠ row) : NamesC w' mb n c := by
 obtain ⟨D, h1, h2, h3⟩ := h
 exact ⟨D, h1.kept hg hne, h2, h3⟩
theorem NamesC.lt {w : World} {mb n : Nat} {c : Nm → Int} (h : NamesC w mb n c) : mb < w.heap.size := by
 obtain ⟨D, h1, _⟩ := h
 exact h1.lt
theorem grown_same {w w' : World} (h : Below w.heap.size w w') : w.grownBy w' none := ⟨h.os, h.tape, h.output, h.size, fun k hk _ => h.block k hk⟩
theorem NamesC.below {w w' : World} {mb n : Nat} {c : Nm → Int} (h : NamesC w mb n c) (hb : Below w.heap.size w w') : NamesC w' mb n c := h.kept (grown_same hb) (by simp)
theorem NamesC.mono {w : World} {mb n n' : Nat} {c : Nm → Int} (h : NamesC w mb n c) (hn : n ≤ n') : NamesC w mb n' c := by
 obtain ⟨D, h1, h2, h3⟩ := h
 exact ⟨D, h1.mono hn, h2, h3⟩
theorem NamesC.cong {w : World} {mb n : Nat} {c c' : Nm → Int} (h : NamesC w mb n c) (he : ∀ s, c s = c' s) : NamesC w mb n c' := by
 obtain ⟨D, h1, h2, h3⟩ := h
 exact ⟨D, h1, h2, fun s => by rw [← he s]; exact h3 s⟩
def bump (c : Nm → Int) (s : Nm) (k : Int) : Nm → Int := fun x => if x = s then k else c x
theorem names_put {D : DataW Unit} {c : Nm → Int} (ht : Maps.Tidy D) (h : ∀ s : Nm, D.atKey (.string s) (.lit (.int .i64 0)) = .lit (.int .i64 (c s))) (s : Nm) (k : Int) :
 Maps.Tidy (D.put (.string s) (.lit (.int .i64 k))) ∧ ∀ x : Nm, (D.put (.string s) (.lit (.int .i64 k))).atKey (.string x) (.lit (.int .i64 0)) = .lit (.int .i64 (bump c s k x)) := by
 have hk : WideAt.IsKeyLit (Lit.string s) := trivial
 refine ⟨ht.put hk _, fun x => ?_⟩
 unfold bump
 by_cases e : x = s
 · subst e; rw [if_pos rfl]; exact Maps.atKey_put_same ht.isMap hk _ _
 · rw [if_neg e, Maps.atKey_put_other (fun h => e (by injection h))]; exact h x
/-- The counts are small. -/
def Small (c : Nm → Int) : Prop := ∀ s, -1000000000 ≤ c s ∧ c s ≤ 1000000000
theorem i64_wf {a : Int} (h1 : -2000000000 ≤ a) (h2 : a ≤ 2000000000) : (Lit.int .i64 a).wf = true := WalkArith.wf_i64 (by omega)
set_option maxHeartbeats 1000000 in
theorem has_any (w : World) (mb n : Nat) (c : Nm → Int) (s : Nm) (h : NamesC w mb n c) (hs : s.length ≤ 400000) (hc : Small c) :
 Calls Try.prog 32 #[.map (some mb), .string ⟨s.toArray⟩] w fun e w' => e = .returned (.bool (decide (0 < c s))) ∧ w' = w := by
 obtain ⟨D, hown, ht, hD⟩ := h
 have HOWN := hid hown
 have HKEY := hid (keyNm s (by unfold maxLen; omega))
 have hDs := hD s
 obtain ⟨hcs1, hcs2⟩ := hc s
 clear hown ht hD hc
 go_enter Try.func32, Try.ntmps32
 go_wp2_with (at_lookup; refine wpList_lookup_own_int _ rfl _ _ 83 rfl 9 3 .i64 lawStr Try.underlying83 Try.underlying3 (zeroInt _) mb n D rfl HOWN.out _ _ rfl HKEY.out ?_; intro c0 hat hwc)
 rw [hDs] at hat
 injection hat with hat
 injection hat with _ hat
 subst hat
 clear hwc hDs
 by_cases h0 : 0 < c s
 · go_wp2
   go_ret
   simp [h0]
 · go_wp2
   go_ret
   simp [h0]
set_option maxHeartbeats 2000000 in
set_option maxRecDepth 100000 in
theorem add_any (w : World) (mb n : Nat) (c : Nm → Int) (s : Nm) (h : NamesC w mb n c) (hs : s.length ≤ 400000) (hc : Small c) (hn : n ≤ 1000000000) :
 Calls Try.prog 33 #[.map (some mb), .string ⟨s.toArray⟩] w fun e w' => e = .returned (.bool (decide (c s = 0))) ∧ w.grownBy w' (some mb) ∧ NamesC w' mb (n + 1) (bump c s (c s + 1)) := by
 obtain ⟨D, hown, ht, hD⟩ := h
 have HOWN := hid hown
 have HKEY := hid (keyNm s (by unfold maxLen; omega))
 have hDs := hD s
 obtain ⟨hcs1, hcs2⟩ := hc s
 have HPUT := hid (names_put ht hD s (c s + 1))
 clear hown ht hD hc
 go_enter Try.func33, Try.ntmps33
 have hw64 : wrap64 (c s + 1) = c s + 1 := by unfold wrap64; omega
 go_wp2_with (first
  | (at_lookup; (refine wpList_lookup_own_int _ rfl _ _ 83 rfl 9 3 .i64 lawStr Try.underlying83 Try.underlying3 (zeroInt _) mb n D rfl HOWN.out _ _ rfl HKEY.out ?_); intro c0 hat hwc; rw [hDs] at hat; injection hat with hat; injection hat with _ hat; subst hat; clear hwc)
  | (at_mapUpdate; (refine wpList_mapUpdate_own _ rfl _ _ _ 83 rfl 9 3 lawStr Try.underlying83 _ mb n D rfl HOWN.out (by unfold maxLen; omega) _ _ _ rfl rfl HKEY.out _ [] (plainElem_int Try.underlying3 (i64_wf (by omega) (by omega))) ?_); intro w1 hown1 hgr1; have HOWN1 := hid hown1; have hD1 := HPUT.out.2 s; rw [show bump c s (c s + 1) s = c s + 1 from if_pos rfl] at hD1)
  | (at_lookup; (refine wpList_lookup_own_int _ rfl _ _ 83 rfl 9 3 .i64 lawStr Try.underlying83 Try.underlying3 (zeroInt _) mb (n + 1) _ rfl HOWN1.out _ _ rfl HKEY.out ?_); intro c1 hat1 hwc1; rw [hD1] at hat1; injection hat1 with hat1; injection hat1 with _ hat1; subst hat1; clear hwc1))
 have HN : Hid (NamesC w1 mb (n + 1) (bump c s (c s + 1))) := hid ⟨_, HOWN1.out, HPUT.out.1, HPUT.out.2⟩
 have HG := hid hgr1
 clear hown1 hgr1 hD1 hDs
 by_cases h0 : c s = 0
 · have h1 : c s + 1 = 1 := by omega
   go_wp2
   go_ret
   exact ⟨by simp [h0], HG.out, HN.out⟩
 · have h1 : ¬ c s + 1 = 1 := by omega
   go_wp2
   go_ret
   exact ⟨(by simp [h0]; omega), HG.out, HN.out⟩
/-- All are there, one by one: none was ahead. -/
def addsB (c : Nm → Int) : List Nm → Bool
 | [] => true
 | s :: r => decide (c s = 0) && addsB (bump c s (c s + 1)) r
def bumps (c : Nm → Int) (k : Int) : List Nm → Nm → Int
 | [], x => c x
 | s :: r, x => bumps (bump c s (c s + k)) k r x
theorem bumps_count (k : Int) (l : List Nm) : ∀ (c : Nm → Int) (x : Nm), bumps c k l x = c x + k * (l.count x : Int) := by
 induction l with
 | nil => intro c x; simp [bumps]
 | cons s r ih =>
   intro c x
   rw [bumps, ih]
   unfold bump
   by_cases h : x = s
   · subst h; rw [if_pos rfl, List.count_cons_self]; push_cast; rw [Int.mul_add]; omega
   · rw [if_neg h, List.count_cons_of_ne (fun e => h e.symm)]
theorem bumps_snoc (k : Int) (l : List Nm) (s : Nm) : ∀ (c : Nm → Int), bump (bumps c k l) s (bumps c k l s + k) = bumps c k (l ++ [s]) := by
 intro c
 funext x
 rw [bumps_count]
 unfold bump
 by_cases h : x = s
 · subst h; rw [if_pos rfl, bumps_count, List.count_append, List.count_singleton_self]; push_cast; rw [Int.mul_add]; omega
 · rw [if_neg h, bumps_count, bumps_count, List.count_append, List.count_singleton]; simp [show (s == x) = false from beq_eq_false_iff_ne.2 (fun e => h e.symm)]
theorem addsB_snoc (l : List Nm) (s : Nm) : ∀ (c : Nm → Int), addsB c (l ++ [s]) = (addsB c l && decide (bumps c 1 l s = 0)) := by
 induction l with
 | nil => intro c; show (decide (c s = 0) && true) = (true && decide (bumps c 1 [] s = 0)); rw [Bool.and_true, Bool.true_and]; rfl
 | cons a r ih => intro c; rw [List.cons_append, addsB, ih, addsB, bumps, Bool.and_assoc]
end Go.Proofs.Ytgoacbomphlhjaa

namespace Go.Proofs.Ytgoacbomphlhjaa
open Go.Lib (hid)
open List renaming getElem_toArray → jX, getElem_cons_succ → jY, getElem_cons_zero → jZ, setIfInBounds_toArray → JA, set_cons_zero → JB, set_cons_succ → JC
open Go Go.RowKit
abbrev DU := DataW Unit
abbrev RdU := Value → Option (DU × List MemPlace)
/-- Block mb maps names, as m says. -/
def MapG {α : Type} (R : RdU) (enc : α → DU) (w : World) (mb n : Nat) (m : Nm → Option α) : Prop :=
 ∃ D, w.ownsMap Try.prog 9 R mb n D ∧ Maps.Tidy D ∧ ∀ s : Nm, Maps.has D (.string s) = (m s).isSome ∧ ∀ a z, m s = some a → D.atKey (.string s) z = enc a
variable {α : Type} {R : RdU} {enc : α → DU}
theorem MapG.made (w : World) : MapG R enc (w.alloc (.map #[] 0)) w.heap.size 0 (fun _ => none) := ⟨.map [], World.ownsMap_made _ _ _ _, Maps.tidy_empty, fun _ => ⟨rfl, fun a z h => by cases h⟩⟩
theorem MapG.kept {w w' : World} {mb n : Nat} {m : Nm → Option α} {row : Option Nat} (h : MapG R enc w mb n m) (hg : w.grownBy w' row) (hne : some mb ≠ row) : MapG R enc w' mb n m := by
 obtain ⟨D, h1, h2, h3⟩ := h
 exact ⟨D, h1.kept hg hne, h2, h3⟩
theorem MapG.lt {w : World} {mb n : Nat} {m : Nm → Option α} (h : MapG R enc w mb n m) : mb < w.heap.size := by
 obtain ⟨D, h1, _⟩ := h
 exact h1.lt
theorem MapG.below {w w' : World} {mb n : Nat} {m : Nm → Option α} (h : MapG R enc w mb n m) (hb : Below w.heap.size w w') : MapG R enc w' mb n m := h.kept (grown_same hb) (by simp)
theorem MapG.mono {w : World} {mb n n' : Nat} {m : Nm → Option α} (h : MapG R enc w mb n m) (hn : n ≤ n') : MapG R enc w mb n' m := by
 obtain ⟨D, h1, h2, h3⟩ := h
 exact ⟨D, h1.mono hn, h2, h3⟩
def putm (m : Nm → Option α) (s : Nm) (a : α) : Nm → Option α := fun x => if x = s then some a else m x
theorem mapg_put {D : DU} {m : Nm → Option α} (ht : Maps.Tidy D) (h : ∀ s : Nm, Maps.has D (.string s) = (m s).isSome ∧ ∀ a z, m s = some a → D.atKey (.string s) z = enc a) (s : Nm) (a : α) :
 Maps.Tidy (D.put (.string s) (enc a)) ∧ ∀ x : Nm, Maps.has (D.put (.string s) (enc a)) (.string x) = (putm m s a x).isSome ∧ ∀ b z, putm m s a x = some b → (D.put (.string s) (enc a)).atKey (.string x) z = enc b := by
 have hk : WideAt.IsKeyLit (Lit.string s) := trivial
 refine ⟨ht.put hk _, fun x => ?_⟩
 unfold putm
 by_cases e : x = s
 · subst e
   rw [if_pos rfl]
   refine ⟨Maps.has_put_same ht.isMap hk _, fun b z hb => ?_⟩
   cases hb
   exact Maps.atKey_put_same ht.isMap hk _ _
 · rw [if_neg e]
   have hne : (Lit.string x) ≠ Lit.string s := fun h => e (by injection h)
   refine ⟨by rw [Maps.has_put_other hne]; exact (h x).1, fun b z hb => ?_⟩
   rw [Maps.atKey_put_other hne]
   exact (h x).2 b z hb
theorem MapG.put {w w' : World} {mb n n' : Nat} {m : Nm → Option α} {D : DU} (ht : Maps.Tidy D) (h : ∀ s : Nm, Maps.has D (.string s) = (m s).isSome ∧ ∀ a z, m s = some a → D.atKey (.string s) z = enc a) (s : Nm) (a : α)
 (ho : w'.ownsMap Try.prog 9 R mb n' (D.put (.string s) (enc a))) : MapG R enc w' mb n' (putm m s a) := by
 obtain ⟨h1, h2⟩ := mapg_put ht h s a
 exact ⟨_, ho, h1, h2⟩
section
variable {H : Type} {P : Program} (w : World) {ops : Array Oper} {rest : List Oper} {o : Oper} {a : Act} {Q : Exit → Act → World → Prop}
/-- An entry of a map literal. -/
theorem wpList_insert_own (hg : o.guard = none) (m x v : Operand) (t : TypeId) (hop : o.op = Op.insert t m x v)
 (k e : TypeId) (K : Maps.Keyed P k) (ht : P.underlying t = some (.map k e)) (R : Value → Option (DataW H × List MemPlace)) (b n : Nat) (D : DataW H)
 (hm : a.eval m = .map (some b)) (hown : w.ownsMap P k R b n D) (hn : n < maxLen) (key val : Value) (kl : Lit) (hx : a.eval x = key) (hv : a.eval v = val) (hkey : keyOf P k key = some kl)
 (d : DataW H) (ps : List MemPlace) (hval : R val = some (d, ps))
 (hK : ∀ w', w'.ownsMap P k R b (n + 1) (D.put kl d) → w.grownBy w' (some b) → wpList P ops Q rest (a.put o.dst undef) w') :
 wpList P ops Q (o :: rest) a w := by
 refine wpList_plain hg fun K' hK' => ?_
 obtain ⟨w', hrun, r1, r2⟩ := hown.update K ht hn hkey hval
 unfold Oper.wp
 simp [execOp, hop, hm, hx, hv, hrun, Result.andThen]
 exact hK' _ _ (hK w' r1 r2)
end
theorem below_map {lo mb : Nat} {w a b : World} (h : Below lo w a) (hg : a.grownBy b (some mb)) (hm : lo ≤ mb) (hl : lo ≤ w.heap.size := by omega) : Below lo w b := h.grown hg (Nat.le_trans hl h.size) (fun k e => by injection e; omega)
/-- Integers as entries. -/
noncomputable abbrev RInt : RdU := plainElem Try.prog 3
def encN (a : Int) : DU := .lit (.int .i64 a)
noncomputable abbrev MapI := MapG RInt encN
def sInt : Nm := [73, 110, 116]
def sBool : Nm := [66, 111, 111, 108]
def sCpx : Nm := [67, 112, 120]
/-- Given's types. -/
def given : Nm → Option Int := putm (putm (putm (fun _ => none) sInt 0) sBool 0) sCpx 0
theorem keyLit (s : Nm) (h : s.length ≤ maxLen) : keyOf Try.prog 9 (.string { data := s.toArray }) = some (.string s) := keyNm s h
set_option maxHeartbeats 2000000 in
set_option maxRecDepth 100000 in
theorem given_any (w : World) : Calls Try.prog 17 #[] w fun e w' => ∃ mb, e = .returned (.map (some mb)) ∧ Below w.heap.size w w' ∧ w.heap.size ≤ mb ∧ MapI w' mb 3 given := by
 have K1 := hid (keyLit sInt (by decide))
 have K2 := hid (keyLit sBool (by decide))
 have K3 := hid (keyLit sCpx (by decide))
 have HV : Hid (RInt (.int .i64 0) = some (encN 0, [])) := hid (plainElem_int Try.underlying3 (by decide))
 have H0 := hid (MapG.made (R := RInt) (enc := encN) w)
 obtain ⟨D, h1, h2, h3⟩ := H0.out
 have O0 := hid h1
 have T0 := hid h2
 have N0 := hid h3
 clear h1 h2 h3
 have P1 := hid (mapg_put T0.out N0.out sInt 0)
 have P2 := hid (mapg_put P1.out.1 P1.out.2 sBool 0)
 have P3 := hid (mapg_put P2.out.1 P2.out.2 sCpx 0)
 have hmm := @run_makeMap Try.prog
 go_enter Try.func17, Try.ntmps17
 go_wp2_with (first
  | (refine wpList_insert_own _ rfl _ _ _ 64 rfl 9 3 lawStr Try.underlying64 _ w.heap.size 0 D rfl O0.out (by decide) _ _ _ rfl rfl K1.out _ [] HV.out ?_; intro w1 o1 g1; have O1 := hid o1; have G1 := hid g1; clear o1 g1)
  | (refine wpList_insert_own _ rfl _ _ _ 64 rfl 9 3 lawStr Try.underlying64 _ w.heap.size 1 _ rfl O1.out (by decide) _ _ _ rfl rfl K2.out _ [] HV.out ?_; intro w2 o2 g2; have O2 := hid o2; have G2 := hid g2; clear o2 g2)
  | (refine wpList_insert_own _ rfl _ _ _ 64 rfl 9 3 lawStr Try.underlying64 _ w.heap.size 2 _ rfl O2.out (by decide) _ _ _ rfl rfl K3.out _ [] HV.out ?_; intro w3 o3 g3; have O3 := hid o3; have G3 := hid g3; clear o3 g3))
 go_ret
 refine ⟨w.heap.size, rfl, ?_, Nat.le_refl _, _, O3.out, P3.out.1, P3.out.2⟩
 have hb0 : Below w.heap.size w (w.alloc (.map #[] 0)) := (Below.refl _ w).alloc (Nat.le_refl _) _
 exact (below_map (below_map (below_map hb0 G1.out (Nat.le_refl _)) G2.out (Nat.le_refl _)) G3.out (Nat.le_refl _))
end Go.Proofs.Ytgoacbomphlhjaa

namespace Go.Proofs.Ytgoacbomphlhjaa
open Go.Lib (hid)
open List renaming getElem_toArray → jX, getElem_cons_succ → jY, getElem_cons_zero → jZ, setIfInBounds_toArray → JA, set_cons_zero → JB, set_cons_succ → JC
open Go Go.RowKit
/-- So much is in a list of names. -/
def nw (l : List Nm) : Nat := (l.map fun s => s.length + 1).sum
theorem nw_append (a b : List Nm) : nw (a ++ b) = nw a + nw b := by simp [nw]
theorem nw_cons (s : Nm) (l : List Nm) : nw (s :: l) = s.length + 1 + nw l := by simp [nw]
theorem nw_mem {s : Nm} {l : List Nm} (h : s ∈ l) : s.length + 1 ≤ nw l := by
 induction l with
 | nil => cases h
 | cons a r ih =>
   rw [nw_cons]
   rcases List.mem_cons.1 h with rfl | h
   · omega
   · have := ih h; omega
theorem nw_len (l : List Nm) : l.length ≤ nw l := by
 induction l with
 | nil => simp
 | cons a r ih => rw [nw_cons, List.length_cons]; omega
theorem NamesC.ne {w : World} {mb n : Nat} {c : Nm → Int} (h : NamesC w mb n c) {a : Addr} {v : Value} (hc : w.cell? a = some v) : a.block ≠ mb := by
 obtain ⟨D, ⟨es, clock, hb, _⟩, _⟩ := h
 intro e
 unfold World.cell? at hc
 rw [e, hb] at hc
 cases hc
theorem only_refl (mb : Nat) (w : World) : w.grownBy w (some mb) := ⟨rfl, rfl, rfl, Nat.le_refl _, fun _ _ _ => rfl⟩
theorem grown_trans {mb : Nat} {a b c : World} (h : a.grownBy b (some mb)) (k : b.grownBy c (some mb)) : a.grownBy c (some mb) :=
 ⟨k.os.trans h.os, k.tape.trans h.tape, k.output.trans h.output, Nat.le_trans h.size k.size, fun b hb hne => (k.block b (Nat.lt_of_lt_of_le hb h.size) hne).trans (h.block b hb hne)⟩
theorem grown_cell {w w' : World} {mb : Nat} (h : w.grownBy w' (some mb)) {a : Addr} {v : Value} (hc : w.cell? a = some v) (hne : a.block ≠ mb) : w'.cell? a = some v := by
 have hlt := World.block_lt_of_cell? w _ hc
 rw [World.cell?_of_block (w := w) (h.block a.block hlt (fun e => hne (Option.some.inj e)))]
 exact hc
theorem small_bumps {c : Nm → Int} {l : List Nm} {k : Int} (hk : k = 1 ∨ k = -1) (hc : ∀ s, -500000000 ≤ c s ∧ c s ≤ 500000000) (hl : l.length ≤ 1000000) : Small (bumps c k l) := by
 intro s
 rw [bumps_count]
 have h1 := hc s
 have h2 := List.count_le_length (a := s) (l := l)
 rcases hk with rfl | rfl <;> omega
set_option maxHeartbeats 4000000 in
theorem addAll_any (w : World) (mb n : Nat) (c : Nm → Int) (lv : Value) (l : List Nm) (h : NamesC w mb n c) (hr : RowAt 1 (StrAt w) w lv l) (hl : nw l ≤ 400000) (hc : ∀ s, -500000000 ≤ c s ∧ c s ≤ 500000000) (hn : n ≤ 500000000) :
 Calls Try.prog 61 #[.map (some mb), lv] w fun e w' => e = .returned (.bool (addsB c l)) ∧ w.grownBy w' (some mb) ∧ NamesC w' mb (n + l.length) (bumps c 1 l) := by
 obtain ⟨q, cp, rfl⟩ := hr.len
 have hlen : l.length ≤ 400000 := by have := nw_len l; omega
 have HR := hid hr; have HN0 := hid h; have HC := hid hc; have HL := hid hl
 clear hr h hc hl
 go_enter Try.func61, Try.ntmps61
 go_wp2_with fail
 go_loopw [5, 7, 10] (fun o _ i wr => ∃ k : Nat, i = .int .i64 k ∧ k ≤ l.length ∧ o = .bool (addsB c (l.take k)) ∧ Hid (w.grownBy wr (some mb) ∧ NamesC wr mb (n + k) (bumps c 1 (l.take k)))) (fun _ _ i _ => l.length - (intOf i).toNat)
 case atStart => exact ⟨0, rfl, Nat.zero_le _, rfl, hid ⟨only_refl _ _, HN0.out⟩⟩
 case round =>
  obtain ⟨k, rfl, hk, rfl, HW⟩ := hrel
  by_cases hlt : k < l.length
  · obtain ⟨s, hs⟩ : ∃ s, l[k]? = some s := ⟨_, List.getElem?_eq_getElem hlt⟩
    rcases HR.out with ⟨h0, _⟩ | ⟨g, of, c', hv, g1, g2, g3⟩
    · rw [h0] at hlt; simp at hlt
    injection hv with hq1 _ hq2
    subst hq1; subst hq2
    obtain ⟨u, hu, _, hcell⟩ := g3 k s hs
    have hu' : u = .string ⟨s.toArray⟩ := hu
    subst hu'
    have h0 := hcell 0 _ rfl
    have hc1 := grown_cell HW.out.1 h0 (HN0.out.ne h0)
    have hk1 : (k : Int) < (l.length : Int) := by omega
    have hk2 : (l.length : Int) ≤ (cp : Int) := by omega
    have hs4 : s.length ≤ 400000 := by have := nw_mem (List.mem_of_getElem? hs); have := HL.out; omega
    have htk : l.take (k + 1) = l.take k ++ [s] := by rw [List.take_add_one, hs]; rfl
    have HTK := hid htk
    have HADD := hid (add_any wr mb (n + k) _ s HW.out.2 (by omega) (small_bumps (.inl rfl) HC.out (by rw [List.length_take]; omega)) (by omega))
    simp only [Nat.mul_one, Nat.add_zero] at hc1
    clear g1 g2 g3 hcell h0 hu hs htk
    go_wp2_with fail
    refine HADD.out.mono ?_
    rintro e w1 ⟨rfl, hg, hnm⟩
    have HW1 : Hid (w.grownBy w1 (some mb) ∧ NamesC w1 mb (n + (k + 1)) (bumps c 1 (l.take (k + 1)))) := hid ⟨grown_trans HW.out.1 hg, by rw [HTK.out, ← bumps_snoc]; exact hnm⟩
    have hb : addsB c (l.take (k + 1)) = (addsB c (l.take k) && decide (bumps c 1 (l.take k) s = 0)) := by rw [HTK.out, addsB_snoc]
    have HB := hid hb
    clear hg hnm hb HADD
    by_cases hz : bumps c 1 (l.take k) s = 0
    · rw [decide_eq_true hz]
      go_wp2_with fail
      go_roundw
      case rel => exact ⟨k + 1, by go_num, by omega, by rw [HB.out, decide_eq_true hz, Bool.and_true], HW1⟩
      case measure => simp [intOf]; omega
    · rw [decide_eq_false hz]
      go_wp2_with fail
      go_roundw
      case rel => exact ⟨k + 1, by go_num, by omega, by rw [HB.out, decide_eq_false hz, Bool.and_false], HW1⟩
      case measure => simp [intOf]; omega
  · obtain rfl : k = l.length := by omega
    go_wp2_with fail
    go_ret
    have := HW.out
    rw [List.take_length] at this ⊢
    exact ⟨rfl, this⟩
set_option maxHeartbeats 4000000 in
theorem dropAll_any (w : World) (mb n : Nat) (c : Nm → Int) (lv : Value) (l : List Nm) (h : NamesC w mb n c) (hr : RowAt 1 (StrAt w) w lv l) (hl : nw l ≤ 400000) (hc : ∀ s, -500000000 ≤ c s ∧ c s ≤ 500000000) (hn : n ≤ 500000000) :
 Calls Try.prog 62 #[.map (some mb), lv] w fun e w' => e = .returned (.tuple #[]) ∧ w.grownBy w' (some mb) ∧ NamesC w' mb (n + l.length) (bumps c (-1) l) := by
 obtain ⟨q, cp, rfl⟩ := hr.len
 have hlen : l.length ≤ 400000 := by have := nw_len l; omega
 have HR := hid hr; have HN0 := hid h; have HC := hid hc; have HL := hid hl
 clear hr h hc hl
 go_enter Try.func62, Try.ntmps62
 go_wp2_with fail
 go_loopw [5, 8] (fun _ i wr => ∃ k : Nat, i = .int .i64 k ∧ k ≤ l.length ∧ Hid (w.grownBy wr (some mb) ∧ NamesC wr mb (n + k) (bumps c (-1) (l.take k)))) (fun _ i _ => l.length - (intOf i).toNat)
 case atStart => exact ⟨0, rfl, Nat.zero_le _, hid ⟨only_refl _ _, HN0.out⟩⟩
 case round =>
  obtain ⟨k, rfl, hk, HW⟩ := hrel
  by_cases hlt : k < l.length
  · obtain ⟨s, hs⟩ : ∃ s, l[k]? = some s := ⟨_, List.getElem?_eq_getElem hlt⟩
    rcases HR.out with ⟨h0, _⟩ | ⟨g, of, c', hv, g1, g2, g3⟩
    · rw [h0] at hlt; simp at hlt
    injection hv with hq1 _ hq2
    subst hq1; subst hq2
    obtain ⟨u, hu, _, hcell⟩ := g3 k s hs
    have hu' : u = .string ⟨s.toArray⟩ := hu
    subst hu'
    have h0 := hcell 0 _ rfl
    have hc1 := grown_cell HW.out.1 h0 (HN0.out.ne h0)
    have hk1 : (k : Int) < (l.length : Int) := by omega
    have hk2 : (l.length : Int) ≤ (cp : Int) := by omega
    have hs4 : s.length ≤ 400000 := by have := nw_mem (List.mem_of_getElem? hs); have := HL.out; omega
    have htk : l.take (k + 1) = l.take k ++ [s] := by rw [List.take_add_one, hs]; rfl
    have HTK := hid htk
    have HSM := hid (small_bumps (k := -1) (.inr rfl) HC.out (l := l.take k) (by rw [List.length_take]; omega))
    obtain ⟨hg0, hn0⟩ := HW.out
    obtain ⟨D, hown, ht, hD⟩ := hn0
    have HOWN := hid hown
    have HKEY := hid (keyNm s (by unfold maxLen; omega))
    have hDs := hD s
    obtain ⟨cs, hcs⟩ : ∃ cs, cs = bumps c (-1) (l.take k) s := ⟨_, rfl⟩
    rw [← hcs] at hDs
    have hsm1 := (HSM.out s).1
    have hsm2 := (HSM.out s).2
    rw [← hcs] at hsm1 hsm2
    have HPUT := hid (names_put ht hD s (cs - 1))
    have HCS := hid hcs
    have hw64 : wrap64 (cs - 1) = cs - 1 := by unfold wrap64; omega
    have HG0 := hid hg0
    simp only [Nat.mul_one, Nat.add_zero] at hc1
    clear g1 g2 g3 hcell h0 hu hs htk hg0 hown ht hD hcs
    go_wp2_with (first
     | (at_lookup; (refine wpList_lookup_own_int _ rfl _ _ 83 rfl 9 3 .i64 lawStr Try.underlying83 Try.underlying3 (zeroInt _) mb (n + k) D rfl HOWN.out _ _ rfl HKEY.out ?_); intro c0 hat hwc; rw [hDs] at hat; injection hat with hat; injection hat with _ hat; subst hat; clear hwc)
     | (at_mapUpdate; (refine wpList_mapUpdate_own _ rfl _ _ _ 83 rfl 9 3 lawStr Try.underlying83 _ mb (n + k) D rfl HOWN.out (by unfold maxLen; omega) _ _ _ rfl rfl HKEY.out _ [] (plainElem_int Try.underlying3 (i64_wf (by omega) (by omega))) ?_); intro w1 hown1 hgr1))
    have HW1 : Hid (w.grownBy w1 (some mb) ∧ NamesC w1 mb (n + (k + 1)) (bumps c (-1) (l.take (k + 1)))) := hid ⟨grown_trans HG0.out hgr1, by rw [HTK.out, ← bumps_snoc, ← HCS.out]; exact ⟨_, hown1, HPUT.out.1, HPUT.out.2⟩⟩
    clear hown1 hgr1
    go_wp2
    go_roundw
    case rel => exact ⟨k + 1, by go_num, by omega, HW1⟩
    case measure => simp [intOf]; omega
  · obtain rfl : k = l.length := by omega
    go_wp2_with fail
    refine bodyPost_end (v := .tuple #[]) (by simp [results, Try.results62, go_sem]) rfl ?_
    have := HW.out
    rw [List.take_length] at this
    exact ⟨rfl, this⟩
end Go.Proofs.Ytgoacbomphlhjaa

namespace Go.Proofs.Ytgoacbomphlhjaa
open Go.Lib (hid)
open List renaming getElem_toArray → jX, getElem_cons_succ → jY, getElem_cons_zero → jZ, setIfInBounds_toArray → JA, set_cons_zero → JB, set_cons_succ → JC
open Go Go.RowKit
/-- Constructors as entries. -/
abbrev C3 := Int × Int × Int
def encK (a : C3) : DU := .agg [.lit (.int .i64 a.1), .lit (.int .i64 a.2.1), .lit (.int .i64 a.2.2)]
def mkC (a : C3) : Value := .agg #[.int .i64 a.1, .int .i64 a.2.1, .int .i64 a.2.2]
def RCons3 : List Value → Option (DU × List MemPlace)
 | [.int .i64 a, .int .i64 b, .int .i64 c] => some (encK (a, b, c), [])
 | _ => none
def RCon : RdU
 | .agg cs => RCons3 cs.toList
 | _ => none
theorem RCon_mk (a : C3) : RCon (mkC a) = some (encK a, []) := rfl
theorem RCon_inv {v : Value} {y : DU × List MemPlace} (h : RCon v = some y) : ∃ a, v = mkC a ∧ y = (encK a, []) := by
 unfold RCon at h
 split at h
 · rename_i cs
   unfold RCons3 at h
   split at h
   · rename_i a b c e
     refine ⟨(a, b, c), ?_, by simpa using h.symm⟩
     have : cs = #[.int .i64 a, .int .i64 b, .int .i64 c] := by rw [← Array.toList_inj]; exact e
     rw [this]; rfl
   · cases h
 · cases h
theorem RInt_inv {v : Value} {y : DU × List MemPlace} (h : RInt v = some y) : ∃ a : Int, v = .int .i64 a ∧ y = (encN a, []) := by
 obtain ⟨a, h1, h2, _⟩ := plainElem_int_inv Try.underlying3 h
 exact ⟨a, h1, h2⟩
theorem keyStr_inv {v : Value} {l : Lit} (h : keyOf Try.prog 9 v = some l) : ∃ s : ByteArray, v = .string s ∧ l = .string s.data.toList ∧ s.size ≤ maxLen := WideMaps.string_of_keyOf Try.underlying9 h
abbrev MapC := MapG RCon encK
def named {α : Type} (m : Nm → Option α) (s : Nm) : Int := if (m s).isSome then 1 else 0
/-- So many names have been added: those that are no more left. -/
def NamedBut {α : Type} (m : Nm → Option α) (left : Lit → Bool) (s : Nm) : Int := if (m s).isSome && !left (.string s) then 1 else 0
theorem namedBut_small {α : Type} (m : Nm → Option α) (left : Lit → Bool) : Small (NamedBut m left) := by intro s; unfold NamedBut; split <;> omega
theorem namedBut_step {α : Type} {m : Nm → Option α} {left : Lit → Bool} {s : Nm} (h1 : (m s).isSome) (h2 : left (.string s) = true) (x : Nm) :
 bump (NamedBut m left) s (NamedBut m left s + 1) x = NamedBut m (fun z => left z && !z.sameKey (.string s)) x := by
 unfold bump
 by_cases e : x = s
 · subst e
   rw [if_pos rfl]
   unfold NamedBut
   simp [h1, h2, WideAt.sameKey_self (show WideAt.IsKeyLit (Lit.string x) from trivial)]
 · rw [if_neg e]
   unfold NamedBut
   have := Maps.sameKey_ne (show (Lit.string x) ≠ Lit.string s from fun h => e (by injection h))
   simp only [this, Bool.not_false, Bool.and_true]
theorem namedBut_end {α : Type} {m : Nm → Option α} {left : Lit → Bool} (h : ∀ k, left k = false) (s : Nm) : NamedBut m left s = named m s := by
 unfold NamedBut named
 rw [h]; simp
set_option maxHeartbeats 4000000 in
set_option maxRecDepth 100000 in
theorem namesI_any (w : World) (b n : Nat) (m : Nm → Option Int) (h : MapI w b n m) (hl : ∀ s, (m s).isSome → s.length ≤ 400000) (hn : n ≤ 500000000) :
 Calls Try.prog 44 #[.map (some b)] w fun e w' => ∃ nb, e = .returned (.map (some nb)) ∧ Below w.heap.size w w' ∧ w.heap.size ≤ nb ∧ NamesC w' nb n (named m) := by
 obtain ⟨D, h1, h2, h3⟩ := h
 have hmm := @run_makeMap Try.prog
 have hbl := h1.lt
 have O0 := hid h1
 have T0 := hid h2
 have N0 := hid h3
 have HL := hid hl
 have hsz := h1.size_le
 clear h1 h2 h3 hl
 have e1 : (w.alloc (.map #[] 0)).heap.size = w.heap.size + 1 := by simp
 go_enter Try.func44, Try.ntmps44
 go_wp2_with (first
  | (at_range; refine wpList_range_own _ rfl _ 64 rfl 9 3 lawStr Try.underlying64 RInt b n D rfl (O0.out.alloc _) ?_; intro w0 hrg0 hg0 hs0)
  | go_in)
 go_frame
 rw [e1] at hrg0 hs0 ⊢
 have hst : Hid (∃ (left : Lit → Bool) (cnt : Nat), w0.ranges Try.prog 9 RInt b (w.heap.size + 1) n D left cnt ∧ (∀ s, left (.string s) = true → (m s).isSome) ∧ cnt ≤ n ∧ NamesC w0 w.heap.size (n - cnt) (NamedBut m left) ∧ Below w.heap.size w w0) := by
  refine hid ⟨_, _, hrg0, fun s hs => ?_, hsz, ?_, ((Below.refl _ w).alloc (Nat.le_refl _) _).grown hg0 (by simp) (fun j hj => by cases hj)⟩
  · rw [← (N0.out s).1]; exact hs
  · refine (((NamesC.made w).kept hg0 (by simp)).mono (Nat.zero_le _)).cong (fun s => ?_)
    unfold NamedBut
    rw [(N0.out s).1]
    cases (m s).isSome <;> rfl
 clear hrg0 hs0 hg0
 go_loopw [4] (fun _ wr => ∃ (left : Lit → Bool) (cnt : Nat), wr.ranges Try.prog 9 RInt b (w.heap.size + 1) n D left cnt ∧ (∀ s, left (.string s) = true → (m s).isSome) ∧ cnt ≤ n ∧ NamesC wr w.heap.size (n - cnt) (NamedBut m left) ∧ Below w.heap.size w wr)
  (fun _ wr => wr.rangeLeft b (w.heap.size + 1))
 case atStart => exact hst.out
 case round =>
  obtain ⟨left, cnt, hrg, hlf, hcn, hnm, hb⟩ := hrel
  have RG := hid hrg; have LF := hid hlf; have NM := hid hnm; have BW := hid hb
  clear hrg hlf hnm hb
  go_wp2_with (first
   | (at_next; refine wpList_next_ranges _ rfl _ rfl 9 lawStr RInt Value.string (Value.int .i64) (fun key kl hk => by obtain ⟨s, e, _⟩ := keyStr_inv hk; exact ⟨s, e⟩) (fun v y hv => by obtain ⟨a, e, _⟩ := RInt_inv hv; exact ⟨a, e⟩) b (w.heap.size + 1) n D left cnt rfl RG.out ?_ ?_)
   | go_in)
  · intro hc0 hl0
    have HE : Hid (NamesC wr w.heap.size n (named m)) := hid ((NM.out.mono (by omega)).cong (namedBut_end hl0))
    clear hl0
    go_wp2_with fail
    go_ret
    exact ⟨_, rfl, BW.out, Nat.le_refl _, HE.out⟩
  · intro x c kl ya yb w1 cnt1 hkl hlx hry hat hrg1 hlt hg1 hs1 hen
    obtain ⟨x', ex, rfl, hxl⟩ := keyStr_inv hkl
    injection ex with ex
    subst ex
    obtain ⟨l, rfl⟩ : ∃ l : List UInt8, x = ⟨l.toArray⟩ := ⟨x.data.toList, by cases x; simp⟩
    have hlx : left (.string l) = true := hlx
    have hrg1 : w1.ranges Try.prog 9 RInt b (w.heap.size + 1) n D (fun z => left z && !z.sameKey (Lit.string l)) cnt1 := hrg1
    have RG1 := hid hrg1
    have hsome := LF.out _ hlx
    have hxl4 := HL.out _ hsome
    have NM1 := hid (NM.out.kept hg1 (by simp))
    have ADD := hid (add_any w1 w.heap.size (n - cnt) _ l NM1.out hxl4 (namedBut_small _ _) (by omega))
    have STEP := hid (namedBut_step hsome hlx)
    have B1 : Hid (Below w.heap.size w w1) := hid (BW.out.grown hg1 BW.out.size (fun j hj => by cases hj; exact Nat.le_succ _))
    have LF1 : Hid (∀ s, (fun z => left z && !z.sameKey (Lit.string l)) (.string s) = true → (m s).isSome) := hid (fun s hs => LF.out s (by simp only [Bool.and_eq_true] at hs; exact hs.1))
    clear hkl hry hat hrg1 hg1 hsome LF NM NM1
    go_wp2_with fail
    have HC := ADD.out
    refine HC.mono ?_
    rintro e w2 ⟨rfl, hg2, hn2⟩
    have RG2 := hid (RG1.out.kept hg2 (fun e => by have := Option.some.inj e; omega) (fun e => by have := Option.some.inj e; omega))
    have B2 : Hid (Below w.heap.size w w2) := hid (below_map B1.out hg2 (Nat.le_refl _))
    have N2 : Hid (NamesC w2 w.heap.size (n - cnt1) (NamedBut m (fun z => left z && !z.sameKey (Lit.string l)))) := hid ((hn2.mono (by omega)).cong STEP.out)
    clear hg2 hn2 HC ADD
    go_wp2_with fail
    go_roundw
    case rel => exact ⟨_, cnt1, RG2.out, LF1.out, by omega, N2.out, B2.out⟩
    case measure => rw [RG2.out.left_eq, RG.out.left_eq]; exact hlt
set_option maxHeartbeats 4000000 in
set_option maxRecDepth 100000 in
theorem namesC_any (w : World) (b n : Nat) (m : Nm → Option C3) (h : MapC w b n m) (hl : ∀ s, (m s).isSome → s.length ≤ 400000) (hn : n ≤ 500000000) :
 Calls Try.prog 45 #[.map (some b)] w fun e w' => ∃ nb, e = .returned (.map (some nb)) ∧ Below w.heap.size w w' ∧ w.heap.size ≤ nb ∧ NamesC w' nb n (named m) := by
 obtain ⟨D, h1, h2, h3⟩ := h
 have hmm := @run_makeMap Try.prog
 have hbl := h1.lt
 have O0 := hid h1
 have T0 := hid h2
 have N0 := hid h3
 have HL := hid hl
 have hsz := h1.size_le
 clear h1 h2 h3 hl
 have e1 : (w.alloc (.map #[] 0)).heap.size = w.heap.size + 1 := by simp
 go_enter Try.func45, Try.ntmps45
 go_wp2_with (first
  | (at_range; refine wpList_range_own _ rfl _ 35 rfl 9 38 lawStr Try.underlying35 RCon b n D rfl (O0.out.alloc _) ?_; intro w0 hrg0 hg0 hs0)
  | go_in)
 go_frame
 rw [e1] at hrg0 hs0 ⊢
 have hst : Hid (∃ (left : Lit → Bool) (cnt : Nat), w0.ranges Try.prog 9 RCon b (w.heap.size + 1) n D left cnt ∧ (∀ s, left (.string s) = true → (m s).isSome) ∧ cnt ≤ n ∧ NamesC w0 w.heap.size (n - cnt) (NamedBut m left) ∧ Below w.heap.size w w0) := by
  refine hid ⟨_, _, hrg0, fun s hs => ?_, hsz, ?_, ((Below.refl _ w).alloc (Nat.le_refl _) _).grown hg0 (by simp) (fun j hj => by cases hj)⟩
  · rw [← (N0.out s).1]; exact hs
  · refine (((NamesC.made w).kept hg0 (by simp)).mono (Nat.zero_le _)).cong (fun s => ?_)
    unfold NamedBut
    rw [(N0.out s).1]
    cases (m s).isSome <;> rfl
 clear hrg0 hs0 hg0
 go_loopw [4] (fun _ wr => ∃ (left : Lit → Bool) (cnt : Nat), wr.ranges Try.prog 9 RCon b (w.heap.size + 1) n D left cnt ∧ (∀ s, left (.string s) = true → (m s).isSome) ∧ cnt ≤ n ∧ NamesC wr w.heap.size (n - cnt) (NamedBut m left) ∧ Below w.heap.size w wr)
  (fun _ wr => wr.rangeLeft b (w.heap.size + 1))
 case atStart => exact hst.out
 case round =>
  obtain ⟨left, cnt, hrg, hlf, hcn, hnm, hb⟩ := hrel
  have RG := hid hrg; have LF := hid hlf; have NM := hid hnm; have BW := hid hb
  clear hrg hlf hnm hb
  go_wp2_with (first
   | (at_next; refine wpList_next_ranges _ rfl _ rfl 9 lawStr RCon Value.string mkC (fun key kl hk => by obtain ⟨s, e, _⟩ := keyStr_inv hk; exact ⟨s, e⟩) (fun v y hv => by obtain ⟨a, e, _⟩ := RCon_inv hv; exact ⟨a, e⟩) b (w.heap.size + 1) n D left cnt rfl RG.out ?_ ?_)
   | go_in)
  · intro hc0 hl0
    have HE : Hid (NamesC wr w.heap.size n (named m)) := hid ((NM.out.mono (by omega)).cong (namedBut_end hl0))
    clear hl0
    go_wp2_with fail
    go_ret
    exact ⟨_, rfl, BW.out, Nat.le_refl _, HE.out⟩
  · intro x c1 c2 c3 kl ya yb w1 cnt1 hkl hlx hry hat hrg1 hlt hg1 hs1 hen
    obtain ⟨x', ex, rfl, hxl⟩ := keyStr_inv hkl
    injection ex with ex
    subst ex
    obtain ⟨l, rfl⟩ : ∃ l : List UInt8, x = ⟨l.toArray⟩ := ⟨x.data.toList, by cases x; simp⟩
    have hlx : left (.string l) = true := hlx
    have hrg1 : w1.ranges Try.prog 9 RCon b (w.heap.size + 1) n D (fun z => left z && !z.sameKey (Lit.string l)) cnt1 := hrg1
    have RG1 := hid hrg1
    have hsome := LF.out _ hlx
    have hxl4 := HL.out _ hsome
    have NM1 := hid (NM.out.kept hg1 (by simp))
    have ADD := hid (add_any w1 w.heap.size (n - cnt) _ l NM1.out hxl4 (namedBut_small _ _) (by omega))
    have STEP := hid (namedBut_step hsome hlx)
    have B1 : Hid (Below w.heap.size w w1) := hid (BW.out.grown hg1 BW.out.size (fun j hj => by cases hj; exact Nat.le_succ _))
    have LF1 : Hid (∀ s, (fun z => left z && !z.sameKey (Lit.string l)) (.string s) = true → (m s).isSome) := hid (fun s hs => LF.out s (by simp only [Bool.and_eq_true] at hs; exact hs.1))
    clear hkl hry hat hrg1 hg1 hsome LF NM NM1
    go_wp2_with fail
    have HC := ADD.out
    refine HC.mono ?_
    rintro e w2 ⟨rfl, hg2, hn2⟩
    have RG2 := hid (RG1.out.kept hg2 (fun e => by have := Option.some.inj e; omega) (fun e => by have := Option.some.inj e; omega))
    have B2 : Hid (Below w.heap.size w w2) := hid (below_map B1.out hg2 (Nat.le_refl _))
    have N2 : Hid (NamesC w2 w.heap.size (n - cnt1) (NamedBut m (fun z => left z && !z.sameKey (Lit.string l)))) := hid ((hn2.mono (by omega)).cong STEP.out)
    clear hg2 hn2 HC ADD
    go_wp2_with fail
    go_roundw
    case rel => exact ⟨_, cnt1, RG2.out, LF1.out, by omega, N2.out, B2.out⟩
    case measure => rw [RG2.out.left_eq, RG.out.left_eq]; exact hlt
end Go.Proofs.Ytgoacbomphlhjaa
