/-
  Several texts in one: WGrow, WConcat, WRound, WBackw, WPush.
-/
import Derived.Test.YtnhndamfbeiljaaGreatDoorGSwN
import Derived.Lib.AppendZeros
import Derived.Lib.SliceRun
import Derived.RangeFuncNested
import Derived.RangeFuncBound
import Derived.RangeFuncCalls
import Derived.RangeFuncLeaves
import Derived.Shelf.Abstract
import Derived.OwnWalkIn
import Derived.TacticsInMore
import Derived.LoopNIn
import Derived.LoopIn
namespace Go.Proofs.YtnhndamfbeiljaaGreatDoor
open Go Go.RowKit
set_option linter.unusedVariables false
set_option linter.unusedSimpArgs false
namespace Sw

/-- A list of nodes' values, from block lo on. -/
def VRow (lo : Nat) (w : World) (v : Value) (l : List Value) : Prop :=
  (∀ u ∈ l, u.oneCell' = true) ∧ ((l = [] ∧ ∃ p c, v = .slice p 0 c) ∨ ∃ g o c cur, v = .slice (some ⟨g, o, none⟩) l.length c ∧ lo ≤ g ∧ l.length ≤ c ∧ (c : Int) ≤ 9223372036854775807 ∧ w.heap[g]? = some (.cells cur 125 (0, 0)) ∧ ∀ i x, l[i]? = some x → cur[o + i]? = some x)
theorem VRow.len {lo : Nat} {w : World} {v : Value} {l : List Value} (h : VRow lo w v l) : ∃ p c, v = .slice p l.length c := by
  rcases h.2 with ⟨rfl, p, c, rfl⟩ | ⟨g, o, c, cur, h, _⟩
  · exact ⟨p, c, rfl⟩
  · exact ⟨_, c, h⟩
theorem VRow.keep {lo : Nat} {w w' : World} {v : Value} {l : List Value} (h : VRow lo w v l) (hk : ∀ g cur, lo ≤ g → w.heap[g]? = some (.cells cur 125 (0, 0)) → w'.heap[g]? = some (.cells cur 125 (0, 0))) : VRow lo w' v l := by
  refine ⟨h.1, ?_⟩
  rcases h.2 with h | ⟨g, o, c, cur, a1, a2, a3, a4, a5, a6⟩
  · exact .inl h
  · exact .inr ⟨g, o, c, cur, a1, a2, a3, a4, hk g cur a2 a5, a6⟩
theorem VRow.below {lo : Nat} {w w' : World} {v : Value} {l : List Value} (h : VRow lo w v l) (hb : Below w.heap.size w w') : VRow lo w' v l := h.keep fun _ _ _ hg => ent_below hg hb
/-- A list of lists of nodes. -/
def GRow (lo : Nat) (w : World) (v : Value) (ls : List (List Value)) : Prop :=
  ∃ g c cs, v = .slice (some ⟨g, 0, none⟩) ls.length c ∧ lo ≤ g ∧ ls.length ≤ c ∧ (c : Int) ≤ 9223372036854775807 ∧ w.heap[g]? = some (.cells cs 120 (0, 0)) ∧ ∀ (i : Nat) (l : List Value), ls[i]? = some l → ∃ u : Value, cs[i]? = some u ∧ VRow lo w u l
theorem GRow.row {lo : Nat} {w : World} {v : Value} {ls : List (List Value)} (h : GRow lo w v ls) : RowAt 1 (VRow lo w) w v ls := by
  obtain ⟨g, c, cs, h1, h2, h3, h4, h5, h6⟩ := h
  refine .inr ⟨g, 0, c, h1, h3, h4, fun i x hx => ?_⟩
  obtain ⟨u, hu, hv⟩ := h6 i x hx
  obtain ⟨p, d, rfl⟩ := hv.len
  refine ⟨_, hv, rfl, fun j z hz => ?_⟩
  have hj : j = 0 := by
    have := (Array.getElem?_eq_some_iff.1 hz).1
    simp [Value.cells] at this; exact this
  subst hj
  have hz' : z = .slice p x.length d := by simpa [Value.cells] using hz.symm
  subst hz'
  simpa using ent_cell h5 i _ hu
theorem GRow.keep {lo : Nat} {w w' : World} {v : Value} {ls : List (List Value)} (h : GRow lo w v ls) (hk : ∀ g cur E, lo ≤ g → E = 125 ∨ E = 120 → w.heap[g]? = some (.cells cur E (0, 0)) → w'.heap[g]? = some (.cells cur E (0, 0))) : GRow lo w' v ls := by
  obtain ⟨g, c, cs, h1, h2, h3, h4, h5, h6⟩ := h
  exact ⟨g, c, cs, h1, h2, h3, h4, hk g cs _ h2 (.inr rfl) h5, fun i l hl => let ⟨u, hu, hv⟩ := h6 i l hl; ⟨u, hu, hv.keep fun g cur hg he => hk g cur _ hg (.inl rfl) he⟩⟩
theorem add_off (g o j : Nat) : (⟨g, o, none⟩ : Addr).add j = ⟨g, o + j, none⟩ := by unfold Addr.add; split <;> simp_all
theorem own_vrow {lo : Nat} {w : World} {v : Value} {n : Nat} {l : List Value} (h : w.ownsRow lo 125 1 v n l) (h1 : ∀ u ∈ l, u.oneCell' = true) : VRow lo w v l := by
  have hl : l.length = n := by have := h.1; simpa using this
  subst hl
  refine ⟨h1, ?_⟩
  rcases h.2 with ⟨rfl, hn⟩ | ⟨g, cap, cur, rfl, a1, a2, a3, a4, a5⟩
  · exact .inl ⟨List.eq_nil_of_length_eq_zero hn, none, 0, rfl⟩
  · refine .inr ⟨g, 0, cap, cur, rfl, a1, a3, by unfold maxLen at a4; omega, a2, fun i x hx => ?_⟩
    have hi := (List.getElem?_eq_some_iff.1 hx).1
    rw [← a5.2, List.getElem?_take_of_lt (by omega), Array.getElem?_toList] at hx
    rw [Nat.zero_add]; exact hx

theorem run_append_zero (w : World) (base : Nat) (t ty e : TypeId) (i : TypeInfo) (size : Nat) (ht : Tryz.prog.underlying t = some (.slice e)) (hi : Tryz.prog.info? e = some i)
    (v : Value) (n : Nat) (xs : List Value) (hown : w.ownsRow base e size v n xs) (q : Option Addr) (c : Nat) : (Builtin.append_ #[t, t] ty #[v, .slice q 0 c]).run Tryz.prog w = .ok v w := by
  have hfc : ∀ q : Option Addr, (Builtin.firstCells i.size 0 (.slice q 0 c)).run Tryz.prog w = .ok #[] w := by
    intro q
    cases q <;> simp [Builtin.firstCells, loadCells, loadCellsFrom]
  rcases hown.2 with ⟨rfl, rfl⟩ | ⟨g, cap, cur, rfl, hbg, hg, hnc, hcm, hcs, htake⟩
  · simp [Builtin.append_, run_underlying ht, sizeOf, typeInfo, hi, Builtin.lenOf, hfc]
  · simp [Builtin.append_, run_underlying ht, sizeOf, typeInfo, hi, Builtin.lenOf, hfc, hnc, storeCells]
/-- 'append(s, row...)', at lists of nodes: its run. -/
theorem run_append_v (w : World) (base ty lo : Nat) (v : Value) (n : Nat) (xs : List Value) (hown : w.ownsRow base 125 1 v n xs) (xv : Value) (l : List Value) (hrow : VRow lo w xv l) (h63 : n + l.length ≤ 1000000000) (hbase : base ≤ w.heap.size) :
    ∃ v' w', (Builtin.append_ #[120, 120] ty #[v, xv]).run Tryz.prog w = .ok v' w' ∧ w'.ownsRow base 125 1 v' (n + l.length) (xs ++ l) ∧ w.grownBy w' v.ownBlock ∧ (v'.ownBlock = v.ownBlock ∨ ∀ g, v'.ownBlock = some g → w.heap.size ≤ g) := by
  obtain ⟨i0, hi, hz0, hz1, hz2⟩ := info_parts (show (Tryz.prog.info? 125).map (fun i => (i.zero, i.size, i.bytes)) = some (some .nilFunc, 1, 8) by kernel_rfl)
  by_cases hl : l = []
  · subst hl
    obtain ⟨q, c, rfl⟩ := hrow.len
    exact ⟨v, w, run_append_zero w base _ ty _ i0 1 Tryz.underlying120 hi v n xs hown q c, by simpa using hown, ⟨rfl, rfl, rfl, Nat.le_refl _, fun _ _ _ => rfl⟩, .inl rfl⟩
  · rcases hrow.2 with ⟨h0, _⟩ | ⟨g, o, c, cur, rfl, _, _, _, h3, h4⟩
    · exact absurd h0 hl
    exact run_append_loc w base _ ty _ i0 .nilFunc 1 8 Tryz.underlying120 hi hz0 hz1 hz2 rfl (by decide) v n xs hown ⟨g, o, none⟩ l.length c (List.length_pos_iff.2 hl) l (by simp) (fun j u hj => by rw [add_off]; exact ent_cell h3 _ _ (h4 j u hj)) hrow.1 (by unfold maxLen; omega) (by omega) hbase
theorem wpList_append_v {w : World} {ops : Array Oper} {rest : List Oper} {o : Oper} {a : Act} {Q : Exit → Act → World → Prop} (hgd : o.guard = none) (s x : Operand)
    (ho : o.op = .call { callee := .builtin .append, args := #[s, x], argTypes := #[120, 120] }) (base lo : Nat) (v : Value) (n : Nat) (xs : List Value) (hs : a.eval s = v) (hown : w.ownsRow base 125 1 v n xs)
    (xv : Value) (hx : a.eval x = xv) (l : List Value) (hrow : VRow lo w xv l) (h63 : n + l.length ≤ 1000000000) (hbase : base ≤ w.heap.size)
    (h : ∀ v' w', w'.ownsRow base 125 1 v' (n + l.length) (xs ++ l) → w.grownBy w' v.ownBlock → (v'.ownBlock = v.ownBlock ∨ ∀ g, v'.ownBlock = some g → w.heap.size ≤ g) → wpList Tryz.prog ops Q rest (a.put o.dst v') w') : wpList Tryz.prog ops Q (o :: rest) a w := by
  refine wpList_plain hgd fun K hK => ?_
  obtain ⟨v', w', hr, h2, h3, h4⟩ := run_append_v w base o.type lo v n xs hown xv l hrow h63 hbase
  unfold Oper.wp execOp
  simp only [ho, resolve, invoke, builtin, Sem.run_bind, Sem.run_pure, Result.andThen_ok, List.map_toArray, List.map_cons, List.map_nil, hs, hx, hr]
  exact hK _ _ (h v' w' h2 h3 h4)

set_option maxHeartbeats 1000000 in
set_option maxRecDepth 100000 in
theorem grow_any (n : Nat) (hn : n ≤ 1000000) (w : World) :
    Calls Tryz.prog 131 #[.slice none 0 0, .int .i64 n] w fun e w' => ∃ rv, e = .returned rv ∧ Below w.heap.size w w' ∧ w'.ownsRow w.heap.size 125 1 rv 0 [] := by
  obtain ⟨i0, hi, hz0, hz1, hz2⟩ := info_parts (show (Tryz.prog.info? 125).map (fun i => (i.zero, i.size, i.bytes)) = some (some .nilFunc, 1, 8) by kernel_rfl)
  have h1 : ¬ ((n : Int) < 0) := by omega
  have h3 : wrap64 ((n : Int)) = (n : Int) := by unfold wrap64; omega
  go_enter Tryz.func131, Tryz.ntmps131
  by_cases h0 : n = 0
  · subst h0
    go_wp2_with fail
    go_ret
    exact ⟨_, rfl, Below.refl _ _, World.ownsRow_nil _ _ _ _⟩
  · have h4 : (n : Int) > 0 := by omega
    have hr := fun ty => Lib.run_append_nil_zeros (P := Tryz.prog) w 120 3 ty 125 i0 .nilFunc .i64 .i64 Tryz.underlying120 Tryz.underlying3 hi hz0 n (by omega) (by omega) (by omega) (by rw [hz2]; omega)
    have hcap : grownCap w n 0 125 ≤ maxLen := grownCap_le_maxLen _ _ _ _ (by unfold maxLen; omega)
    have hge : n ≤ grownCap w n 0 125 := grownCap_ge _ _ _ _
    have hm : maxLen ≤ 9223372036854775807 := by unfold maxLen; decide
    obtain ⟨c, hc⟩ : ∃ c, c = grownCap w n 0 125 := ⟨_, rfl⟩
    rw [← hc] at hcap hge hr
    have hc1 : (0 : Int) ≤ (c : Int) := by omega
    have HR := Lib.hid hr
    have HC := Lib.hid hcap
    have HG := Lib.hid hge
    clear hr hc hcap hge
    go_wp2_with (at_builtin; refine Lib.wpList_append_run _ rfl _ _ _ _ rfl _ _ rfl rfl _ _ (HR.out _) ?_)
    go_ret
    have hcs : (Builtin.zeroCells #[Value.nilFunc] n ++ Builtin.zeroCells #[Value.nilFunc] (c - n)).size = c := by
      have := HG.out
      simp [Builtin.zeroCells]; omega
    refine ⟨_, rfl, (Below.drew (Below.refl _ w)).alloc (Nat.le_refl _) _, ⟨rfl, .inr ⟨w.heap.size, c, _, rfl, Nat.le_refl _, heap_alloc_new w.drew _, Nat.zero_le _, HC.out, by rw [hcs]; simp, by simp⟩⟩⟩

end Sw
end Go.Proofs.YtnhndamfbeiljaaGreatDoor

namespace Go.Proofs.YtnhndamfbeiljaaGreatDoor
open Go Go.RowKit
set_option linter.unusedVariables false
set_option linter.unusedSimpArgs false
namespace Sw

theorem flat_take {l : List (List Value)} {k : Nat} {x : List Value} (h : l[k]? = some x) : (l.take (k + 1)).flatten = (l.take k).flatten ++ x := by
  rw [List.take_add_one, h]; simp
theorem flat_le (l : List (List Value)) (k : Nat) : (l.take k).flatten.length ≤ l.flatten.length := by
  have : l.flatten = (l.take k).flatten ++ (l.drop k).flatten := by rw [← List.flatten_append, List.take_append_drop]
  rw [this]; simp
set_option maxHeartbeats 4000000 in
set_option maxRecDepth 100000 in
theorem concat_any (lo : Nat) (gv : Value) (ls : List (List Value)) (w : World) (h : RowAt 1 (VRow lo w) w gv ls) (hn : ls.flatten.length ≤ 1000000) (hm : ls.length ≤ 1000000) :
    Calls Tryz.prog 97 #[gv] w fun e w' => ∃ rv, e = .returned rv ∧ Below w.heap.size w w' ∧ w'.ownsRow w.heap.size 125 1 rv ls.flatten.length ls.flatten := by
  obtain ⟨q, c, rfl⟩ := h.len
  have H := Lib.hid h
  have HN := Lib.hid hn
  have hc : (ls.length : Int) ≤ 9223372036854775807 := by omega
  clear h hn
  go_enter Tryz.func97, Tryz.ntmps97
  go_wp2_with fail
  go_loopw [3, 11] (fun sz i wr => wr = w ∧ ∃ k A : Nat, i = .int .i64 k ∧ k ≤ ls.length ∧ sz = .int .i64 A ∧ Hid (A = (ls.take k).flatten.length)) (fun _ i _ => ls.length - (intOf i).toNat)
  case atStart => exact ⟨rfl, 0, 0, rfl, Nat.zero_le _, rfl, Lib.hid (by simp)⟩
  case round =>
    obtain ⟨rfl, k, A, rfl, hk, rfl, HA⟩ := hrel
    by_cases hlt : k < ls.length
    · obtain ⟨x, hx⟩ : ∃ x, ls[k]? = some x := ⟨_, List.getElem?_eq_getElem hlt⟩
      have HL : Hid (A + x.length = (ls.take (k + 1)).flatten.length) := Lib.hid (by rw [flat_take hx, List.length_append, HA.out])
      have hn2 : (A : Int) + (x.length : Int) ≤ 1000000 := by have := flat_le ls (k + 1); have := HN.out; have := HL.out; omega
      rcases H.out with ⟨h0, _⟩ | ⟨b, of, c', hv, g1, g2, g3⟩
      · rw [h0] at hlt; simp at hlt
      injection hv with hq1 _ hq2
      subst hq1; subst hq2
      obtain ⟨u, hu, _, hcell⟩ := g3 k x hx
      obtain ⟨xq, xc, rfl⟩ := hu.len
      have x0 : wr.cell? ⟨b, of + k, none⟩ = some (.slice xq x.length xc) := by simpa using hcell 0 (.slice xq x.length xc) rfl
      have hk1 : (k : Int) < (ls.length : Int) := by omega
      have hk2 : (ls.length : Int) ≤ (c : Int) := by omega
      have hk3 := g2
      have hn1 : (x.length : Int) ≤ 1000000 := by omega
      have hw : wrap64 ((A : Int) + (x.length : Int)) = (A : Int) + (x.length : Int) := by unfold wrap64; omega
      have hneg : ¬ ((A : Int) + (x.length : Int) < 0) := by omega
      clear g1 g2 g3 hcell hu hx
      go_wp2_with fail
      go_roundw
      case rel => exact ⟨by trivial, k + 1, A + x.length, by go_num, by omega, by go_num, HL⟩
      case measure => simp [intOf]; omega
    · obtain rfl : k = ls.length := by omega
      have HA2 : Hid (A = ls.flatten.length) := Lib.hid (by have := HA.out; rwa [List.take_length] at this)
      have hA : A ≤ 1000000 := by have := HA2.out; have := HN.out; omega
      have HAA := Lib.hid hA
      clear hA HA
      go_wp2_with fail
      refine (grow_any A HAA.out wr).mono ?_
      rintro e w1 ⟨rv, rfl, hb, hown⟩
      have HB := Lib.hid hb
      have HO := Lib.hid hown
      clear hb hown
      go_wp2_with fail
      go_loopw [6, 27] (fun v i wx => ∃ (k m : Nat) (xs : List Value), i = .int .i64 k ∧ k ≤ ls.length ∧ Hid (wx.ownsRow wr.heap.size 125 1 v m xs) ∧ Hid (m = (ls.take k).flatten.length ∧ xs = (ls.take k).flatten) ∧ Hid (Below wr.heap.size wr wx)) (fun _ i _ => ls.length - (intOf i).toNat)
      case atStart => exact ⟨0, 0, [], rfl, Nat.zero_le _, HO, Lib.hid (by simp), HB⟩
      case round =>
        clear HO HB
        obtain ⟨k, m, xs, rfl, hk, HO, HX, HB⟩ := hrel
        rename World => wx
        by_cases hlt : k < ls.length
        · obtain ⟨x, hx⟩ : ∃ x, ls[k]? = some x := ⟨_, List.getElem?_eq_getElem hlt⟩
          have HL : Hid (m + x.length = (ls.take (k + 1)).flatten.length ∧ xs ++ x = (ls.take (k + 1)).flatten) := Lib.hid (by rw [flat_take hx, List.length_append, HX.out.1, HX.out.2]; exact ⟨rfl, rfl⟩)
          have HM : Hid (m + x.length ≤ 1000000) := Lib.hid (by have := flat_le ls (k + 1); have := HN.out; have := HL.out.1; omega)
          rcases H.out with ⟨h0, _⟩ | ⟨b, of, c', hv, g1, g2, g3⟩
          · rw [h0] at hlt; simp at hlt
          injection hv with hq1 _ hq2
          subst hq1; subst hq2
          obtain ⟨u, hu, _, hcell⟩ := g3 k x hx
          obtain ⟨xq, xc, rfl⟩ := hu.len
          have hcl : wr.cell? ⟨b, of + k, none⟩ = some (.slice xq x.length xc) := by simpa using hcell 0 (.slice xq x.length xc) rfl
          have x0 : wx.cell? ⟨b, of + k, none⟩ = some (.slice xq x.length xc) := (HB.out.cell (World.block_lt_of_cell? wr _ hcl)).trans hcl
          have HV := Lib.hid (VRow.below hu HB.out)
          have hk1 : (k : Int) < (ls.length : Int) := by omega
          have hk2 : (ls.length : Int) ≤ (c : Int) := by omega
          have hk3 := g2
          have hsz := HB.out.size
          clear g1 g2 g3 hcell hu hx hcl
          go_wp2_with (at_builtin; refine wpList_append_v rfl (.tmp 31) (.tmp 32) rfl wr.heap.size lo _ m xs rfl HO.out _ rfl x HV.out (by have := HM.out; omega) (by omega) ?_)
          intro v' w' h1 h2 h3
          have HO2 := Lib.hid h1
          have HB2 := Lib.hid (HB.out.grown h2 (by omega) (fun k hk => (HO.out.lt k hk).1))
          clear h1 h2 h3
          go_wp2_with fail
          go_roundw
          case rel => exact ⟨k + 1, _, _, by go_num, by omega, HO2, HL, HB2⟩
          case measure => simp [intOf]; omega
        · obtain rfl : k = ls.length := by omega
          have HX2 : Hid (m = ls.flatten.length ∧ xs = ls.flatten) := Lib.hid (by have := HX.out; rwa [List.take_length] at this)
          go_wp2_with fail
          go_ret
          have ho := HO.out
          rw [HX2.out.1, HX2.out.2] at ho
          exact ⟨_, rfl, HB.out, ho⟩
end Sw
end Go.Proofs.YtnhndamfbeiljaaGreatDoor

namespace Go.Proofs.YtnhndamfbeiljaaGreatDoor
open Go Go.RowKit
set_option linter.unusedVariables false
set_option linter.unusedSimpArgs false
namespace Sw
variable {P : Program}
def OnlyN (Q : Exit → Act → World → Prop) : Exit → Act → World → Prop
  | .normal, a, w => Q .normal a w
  | _, _, _ => False
theorem rowsIn_round {l n : Nat} {row : String} {args : Array Value} {w : World} {R : Value → World → Prop} (h : Rows P row args w R) : RowsIn (Fence.wide.inRound l) n P row args w R :=
  fun c cs _ => let ⟨v, w', r, s⟩ := h c cs; ⟨v, w', r, (fenced_inRound P Fence.wide l).symm ▸ stepsIn_wide.2 s⟩
theorem opIn_of_op {l n : Nat} {o : Oper} {a : Act} {w : World} {K : Act → World → Prop} {Q : Exit → Act → World → Prop} (hd : ∀ c, o.op ≠ .defer c) (h : o.wp P a w K (OnlyN Q)) : o.wpIn (Fence.wide.inRound l) n P a w K Q := by
  refine ⟨fun _ _ => trivial, ?_⟩
  rw [Oper.semAt_eq _ _ _ hd]
  unfold Oper.wp at h
  generalize (execOp a.eval o).run P w = r at h ⊢
  cases r with
  | ok x w' =>
    cases x with
    | value v => exact h
    | skip => exact h
    | defer d => exact h
    | enter f args =>
      refine ⟨fun e => (by simp [Fence.inRound, Fence.wide] at e), ?_⟩
      have h2 : Calls P f args w' _ := h
      refine (CallsIn.inRound l (callsIn_wide.2 h2)).mono ?_
      intro e w2 he
      cases e with
      | returned v => exact he
      | panicked c => exact he.elim
      | outgrown => obtain ⟨_, _, he⟩ := he; exact he.elim
    | row row args =>
      refine ⟨fun e => (by simp [Fence.inRound, Fence.wide] at e), ?_⟩
      exact rowsIn_round h
    | _ => exact h.elim
  | halt x w' =>
    cases x with
    | panic v => exact h.elim
    | _ => exact h.elim
theorem anyIn_of_any {l n : Nat} {ops : Array Oper} {md : Region.Mode} {Q : Exit → Act → World → Prop} (hd : ∀ (i : Nat) (o : Oper), ops[i]? = some o → ∀ c, o.op ≠ .defer c) :
    ∀ (fuel : Nat) (listed : Array Bool) (a : Act) (w : World), wpAny P md ops (OnlyN Q) fuel listed a w → wpAnyIn (Fence.wide.inRound l) n P md ops Q fuel listed a w := by
  intro fuel
  induction fuel with
  | zero => intro listed a w h; exact h
  | succ fuel ih =>
    intro listed a w h
    refine ⟨h.1, fun i hi => ?_⟩
    have h2 := h.2 i hi
    unfold wpOp at h2
    unfold wpOpIn
    cases ho : ops[i]? with
    | none => rw [ho] at h2; exact ih _ _ _ h2
    | some o =>
      rw [ho] at h2
      by_cases hw : Region.wanted o (yielded ops a.tmps) = true
      · simp only [hw, if_true] at h2 ⊢
        rcases h2 with h2 | ⟨_, _, _, h2⟩
        · exact opIn_of_op (hd i o ho) (Oper.wp_mono (fun a w => ih _ a w) h2)
        · exact h2.elim
      · simp only [hw] at h2 ⊢
        exact ⟨fun _ _ => trivial, ih _ _ _ h2⟩
def noDefer (ops : Array Oper) : Bool := ops.toList.all fun o => match o.op with | .defer _ => false | _ => true
theorem noDefer_spec {ops : Array Oper} (h : noDefer ops = true) (i : Nat) (o : Oper) (ho : ops[i]? = some o) (c : Call) : o.op ≠ .defer c := by
  intro e
  unfold noDefer at h
  rw [List.all_eq_true] at h
  have hm : o ∈ ops.toList := by rw [← Array.getElem?_toList] at ho; exact List.mem_of_getElem? ho
  have := h o hm
  rw [e] at this
  simp at this
/-- The beginning. -/
theorem region_round {l n id : Nat} {ops : Array Oper} {a : Act} {w : World} {Q : Exit → Act → World → Prop} {S : World → Prop} (hm : P.follows .mixedOrders = true) (hd : noDefer ops = true) (hS : S w.drew)
    (h : S w.drew → wpAnyH P .any ops (OnlyN Q) S ops.size (Array.replicate ops.size false) a w.drew) : (Code.region id ops true).wpIn (Fence.wide.inRound l) n P Q a w :=
  wpIn_region_any hm (anyIn_of_any (noDefer_spec hd) _ _ _ _ (wpAny_of_held _ _ _ _ (h hS)))
end Sw
end Go.Proofs.YtnhndamfbeiljaaGreatDoor

namespace Go.Proofs.YtnhndamfbeiljaaGreatDoor
open Go Go.RowKit Go.Shelf
set_option linter.unusedVariables false
set_option linter.unusedSimpArgs false
attribute [local go_sem] Oper.semAt_some
namespace Sw
/-- A function's value. -/
abbrev Fv := Nat × Array Value
def fv (x : Fv) : Value := .func (.func x.1) #[] x.2
/-- What has come when k rounds are over. -/
def downto (zs : List Fv) (k : Nat) : List (Nat × Fv) := (List.range k).map fun j => (zs.length - 1 - j, zs[zs.length - 1 - j]?.getD (0, #[]))
theorem downto_succ (zs : List Fv) (k : Nat) : downto zs (k + 1) = downto zs k ++ [(zs.length - 1 - k, zs[zs.length - 1 - k]?.getD (0, #[]))] := by simp [downto, List.range_succ]
theorem downto_length (zs : List Fv) (k : Nat) : (downto zs k).length = k := by simp [downto]

set_option maxRecDepth 100000 in
set_option maxHeartbeats 2000000 in
theorem backward1_in (F : Fence) (n : Nat) (hF : F.fn 130) (hro : F.round = none) (hn : 1 ≤ n) (l Bs b cap : Nat) (cur : Array Value) (zs : List Fv) (hlen : zs.length ≤ 1000000) (hcap : zs.length ≤ cap) (Kp : World → World → Prop)
    (hKp : ∀ A B, Kp A B → B.heap[Bs]? = A.heap[Bs]? ∧ B.heap[b]? = A.heap[b]?) (J Jx : List (Nat × Fv) → World → Prop)
    (hY : ∀ pre x W, J pre W → pre.length < zs.length → YieldAt F (n - 1) Tryz.prog l #[.int .i64 (x.1 : Nat), fv x.2] W fun e W' =>
      (e = .returned (.bool true) ∧ J (pre ++ [x]) W' ∧ Kp W W') ∨ (e = .returned (.bool false) ∧ Jx (pre ++ [x]) W'))
    (W : World) (hBs : W.heap[Bs]? = some (.cells #[.slice (some ⟨b, 0, none⟩) zs.length cap] 120 (0, 0))) (hb : W.heap[b]? = some (.cells cur 125 (0, 0))) (hc : ∀ j, j < zs.length → cur[j]? = some (fv (zs[j]?.getD (0, #[])))) (h0 : J [] W) :
    CallsIn F n Tryz.prog 130 #[.func (.yield l) #[] #[], .pointer (some ⟨Bs, 0, none⟩)] W fun e W' => (∃ v, e = .returned v) ∧
      ((∃ ys, ys = downto zs zs.length ∧ J ys W') ∨ (∃ pre, (∃ k, k ≤ zs.length ∧ pre = downto zs k) ∧ Jx pre W')) := by
  refine callsIn_of_wp Tryz.func130 rfl hF ?_ hro
  simp only [Tryz.ntmps130, List.size_toArray, List.length_cons, List.length_nil, Nat.reduceAdd, Nat.reduceSub, Array.replicate_succ, Array.replicate_zero, List.push_toArray, List.append_toArray, List.nil_append, List.cons_append]
  have y0 := ent_cell hBs 0 _ rfl
  have hw0 : wrap64 ((zs.length : Int) - 1) = (zs.length : Int) - 1 := by unfold wrap64; omega
  gi_wp2
  gi_loopw [3] (fun i wr => ∃ k : Nat, k ≤ zs.length ∧ i = .int .i64 ((zs.length : Int) - 1 - k) ∧ J (downto zs k) wr ∧ wr.heap[Bs]? = some (.cells #[.slice (some ⟨b, 0, none⟩) zs.length cap] 120 (0, 0)) ∧ wr.heap[b]? = some (.cells cur 125 (0, 0)))
    (fun i _ => (intOf i + 1).toNat)
  case atStart => exact ⟨0, Nat.zero_le _, by simp, h0, hBs, hb⟩
  case round =>
    obtain ⟨k, hk, rfl, hJs, e1, e2⟩ := hrel
    have H1 := Lib.hid e1
    have H2 := Lib.hid e2
    have z0 := ent_cell e1 0 _ rfl
    by_cases hlt : k < zs.length
    · obtain ⟨m, hm⟩ : ∃ m, m = zs.length - 1 - k := ⟨_, rfl⟩
      have hml : m < zs.length := by omega
      have hmk : (zs.length : Int) - 1 - k = (m : Int) := by omega
      have hx := hc m hml
      have hsu := downto_succ zs k
      rw [← hm] at hsu
      obtain ⟨z, hz⟩ : ∃ z, z = zs[m]?.getD (0, #[]) := ⟨_, rfl⟩
      rw [← hz] at hx hsu
      have HSU := Lib.hid hsu
      have hcx := ent_cell e2 _ _ hx
      obtain ⟨fn, tmps, assign, body, hy, hR⟩ := hY _ (m, z) wr hJs (by rw [downto_length]; exact hlt)
      dsimp only at hy
      rw [hmk]
      have hw1 : wrap64 ((m : Int) - 1) = (m : Int) - 1 := by unfold wrap64; omega
      have HM := Lib.hid hmk
      have hcm : (zs.length : Int) ≤ (cap : Int) := by omega
      have hm2 : (m : Int) < (zs.length : Int) := by omega
      clear hm hx hsu hz e1 e2 y0 hmk hc hBs hb hw0
      obtain ⟨z1, z2⟩ := z
      simp only [fv] at hcx hy
      gi_wp2
      refine hR.mono ?_
      rintro e W3 (⟨rfl, hJ3, hk3⟩ | ⟨rfl, hJx3⟩)
      · have HK := Lib.hid (hKp _ _ hk3)
        clear hk3
        gi_wp2
        go_roundw
        case rel =>
          refine ⟨k + 1, by omega, ?_, by rw [HSU.out]; exact hJ3, HK.out.1.trans H1.out, HK.out.2.trans H2.out⟩
          have := HM.out
          congr 1; push_cast; omega
        case measure => simp [intOf]
      · gi_wp2
        refine bodyPost_ret (results_none rfl _ _ _) rfl ?_
        exact ⟨⟨_, rfl⟩, .inr ⟨_, ⟨k + 1, by omega, HSU.out.symm⟩, hJx3⟩⟩
    · obtain rfl : k = zs.length := by omega
      have hmk : (zs.length : Int) - 1 - zs.length = -1 := by omega
      rw [hmk]
      gi_wp2
      go_end0
      exact ⟨⟨_, rfl⟩, .inl ⟨_, rfl, hJs⟩⟩

set_option maxRecDepth 100000 in
set_option maxHeartbeats 1000000 in
/-- .. of no nodes. -/
theorem backward1_nil_in (F : Fence) (n : Nat) (hF : F.fn 130) (hro : F.round = none) (l Bs : Nat) (q : Option Addr) (c : Nat) (J : List (Nat × Fv) → World → Prop) (W : World) (hBs : W.heap[Bs]? = some (.cells #[.slice q 0 c] 120 (0, 0))) (h0 : J [] W) :
    CallsIn F n Tryz.prog 130 #[.func (.yield l) #[] #[], .pointer (some ⟨Bs, 0, none⟩)] W fun e W' => (∃ v, e = .returned v) ∧ J [] W' := by
  refine callsIn_of_wp Tryz.func130 rfl hF ?_ hro
  simp only [Tryz.ntmps130, List.size_toArray, List.length_cons, List.length_nil, Nat.reduceAdd, Nat.reduceSub, Array.replicate_succ, Array.replicate_zero, List.push_toArray, List.append_toArray, List.nil_append, List.cons_append]
  have y0 := ent_cell hBs 0 _ rfl
  gi_wp2
  gi_loopw [3] (fun i wr => i = .int .i64 (-1) ∧ J [] wr) (fun _ _ => 0)
  case atStart => exact ⟨rfl, h0⟩
  case round =>
    obtain ⟨rfl, hJs⟩ := hrel
    gi_wp2
    go_end0
    exact ⟨⟨_, rfl⟩, hJs⟩

/-- The iterator over a list of the call's own. -/
theorem backward_stops (F : Fence) (n : Nat) (hF : F.fn 130) (hro : F.round = none) (hn : 1 ≤ n) (Bs lo : Nat) (rv : Value) (zs : List Fv) (hlen : zs.length ≤ 1000000) (w : World) (Kp : World → World → Prop)
    (hKp : ∀ A B b, Kp A B → b = Bs ∨ rv.ownBlock = some b → B.heap[b]? = A.heap[b]?)
    (hBs : w.heap[Bs]? = some (.cells #[rv] 120 (0, 0))) (hown : w.ownsRow lo 125 1 rv zs.length (zs.map fv)) :
    SeqStopsK F n Tryz.prog 130 #[.pointer (some ⟨Bs, 0, none⟩)] (fun x : Nat × Fv => #[.int .i64 (x.1 : Nat), fv x.2]) Kp (fun ys => ys = downto zs zs.length) (fun pre => ∃ k, k ≤ zs.length ∧ pre = downto zs k) zs.length w := fun l J Jx W hW _ _ hY h0 => by
  have hB := ent_below hBs hW
  rcases hown.2 with ⟨rfl, h0n⟩ | ⟨g, cap, cur, rfl, a1, a2, a3, a4, a5, a6⟩
  · have hz : zs = [] := List.length_eq_zero_iff.1 h0n
    subst hz
    exact (backward1_nil_in F n hF hro l Bs none 0 J W hB h0).mono fun e W' ⟨he, hj⟩ => ⟨he, .inl ⟨_, rfl, hj⟩⟩
  · have hg := ent_below a2 hW
    refine (backward1_in F n hF hro hn l Bs g cap cur zs hlen a3 Kp (fun A B h => ⟨hKp A B Bs h (.inl rfl), hKp A B g h (.inr rfl)⟩) J Jx hY W hB hg (fun j hj => ?_) h0).mono ?_
    · have hx : (zs.map fv)[j]? = some (fv (zs[j]?.getD (0, #[]))) := by rw [List.getElem?_map, List.getElem?_eq_getElem hj]; rfl
      rw [← a6, List.getElem?_take_of_lt (by omega), Array.getElem?_toList] at hx
      exact hx
    · rintro e W' ⟨he, ⟨ys, rfl, hj⟩ | ⟨pre, ⟨k, hk, rfl⟩, hj⟩⟩
      · exact ⟨he, .inl ⟨_, rfl, hj⟩⟩
      · exact ⟨he, .inr ⟨_, ⟨k, hk, rfl⟩, hj⟩⟩
set_option maxHeartbeats 1000000 in
theorem backward_in (F : Fence) (n : Nat) (hF : F.fn 96) (hro : F.round = none) (q : Option Addr) (m c : Nat) (w : World) :
    CallsIn F n Tryz.prog 96 #[.slice q m c] w fun e w' => e = .returned (.func (.func 130) #[] #[.pointer (some ⟨w.heap.size, 0, none⟩)]) ∧ w' = w.alloc (.cells #[.slice q m c] 120) := by
  refine callsIn_of_wp Tryz.func96 rfl hF ?_ hro
  simp only [Tryz.ntmps96, List.size_toArray, List.length_cons, List.length_nil, Nat.reduceAdd, Nat.reduceSub, Array.replicate_succ, Array.replicate_zero, List.push_toArray, List.append_toArray, List.nil_append, List.cons_append]
  gi_wp2
  go_ret
  exact ⟨rfl, rfl⟩
end Sw
end Go.Proofs.YtnhndamfbeiljaaGreatDoor

namespace Go.Proofs.YtnhndamfbeiljaaGreatDoor
open Go Go.RowKit
set_option linter.unusedVariables false
set_option linter.unusedSimpArgs false
namespace Sw
theorem own_sl {w : World} {base e size n : Nat} {v : Value} {xs : List Value} (h : w.ownsRow base e size v n xs) : ∃ p cap, v = .slice p n cap := by
  rcases h.2 with ⟨rfl, h0⟩ | ⟨g, cap, cur, rfl, _⟩
  · exact ⟨none, 0, by rw [h0]⟩
  · exact ⟨_, _, rfl⟩
theorem own_ent {w : World} {base e size n : Nat} {v : Value} {xs : List Value} (h : w.ownsRow base e size v n xs) {g : Nat} (hg : v.ownBlock = some g) : base ≤ g ∧ ∃ cur, w.heap[g]? = some (.cells cur e (0, 0)) := by
  rcases h.2 with ⟨rfl, _⟩ | ⟨g', cap, cur, rfl, a1, a2, _⟩
  · simp [Value.ownBlock] at hg
  · simp only [Value.ownBlock, Option.some.injEq] at hg
    subst hg
    exact ⟨a1, cur, a2⟩
/-- The writer; wv: the list of what waits. -/
def SVx (lo B : Nat) (w : World) (T : List UInt8) (vs : List Value) (wv : Value) : Prop :=
  ∃ cs, WB 123 3 lo B w cs T ∧ cs[2]? = some wv ∧ w.ownsRow lo 125 1 wv vs.length vs
theorem SVx.sv {lo B : Nat} {w : World} {T : List UInt8} {vs : List Value} {wv : Value} (h : SVx lo B w T vs wv) : SV lo B w T vs := let ⟨cs, a, b, c⟩ := h; ⟨cs, wv, a, b, c⟩
theorem SV.x {lo B : Nat} {w : World} {T : List UInt8} {vs : List Value} (h : SV lo B w T vs) : ∃ wv, SVx lo B w T vs wv := let ⟨cs, wv, a, b, c⟩ := h; ⟨wv, cs, a, b, c⟩
theorem SVx.cell {lo B : Nat} {w : World} {T : List UInt8} {vs : List Value} {wv : Value} (h : SVx lo B w T vs wv) : w.cell? ⟨B, 2, none⟩ = some wv := let ⟨cs, a, b, c⟩ := h; (a.cell 2).trans b
theorem SVx.free {lo B : Nat} {w : World} {T : List UInt8} {vs : List Value} {wv : Value} (h : SVx lo B w T vs wv) : w.frozen? ⟨B, 2, none⟩ = false := let ⟨cs, a, b, c⟩ := h; a.free 2
theorem SVx.own {lo B : Nat} {w : World} {T : List UInt8} {vs : List Value} {wv : Value} (h : SVx lo B w T vs wv) : w.ownsRow lo 125 1 wv vs.length vs := let ⟨cs, a, b, c⟩ := h; c
theorem SVx.ent {lo B : Nat} {w : World} {T : List UInt8} {vs : List Value} {wv : Value} (h : SVx lo B w T vs wv) : lo ≤ B ∧ ∃ cs, w.heap[B]? = some (.cells cs 123 (0, 0)) := let ⟨cs, a, b, c⟩ := h; ⟨a.low, cs, a.heap⟩
/-- Blocks but the writer's, and that of what waits, stay. -/
def KeepX (B : Nat) (wv : Value) (w w' : World) : Prop := w.heap.size ≤ w'.heap.size ∧ ∀ c o, w.heap[c]? = some o → c ≠ B → wv.ownBlock ≠ some c → w'.heap[c]? = some o
theorem SVx.keep {lo B : Nat} {w w' : World} {T : List UInt8} {vs : List Value} {wv : Value} (h : SVx lo B w T vs wv) (hk : KeepX B wv w w') : Keep w w' := by
  refine ⟨hk.1, fun c cs T hc h1 h2 h3 => hk.2 c _ hc (fun e => ?_) (fun e => ?_)⟩
  · obtain ⟨_, cs', hB⟩ := h.ent
    subst e; rw [hc] at hB; simp only [Option.some.injEq, Obj.cells.injEq] at hB; exact h1 hB.2.1
  · obtain ⟨_, cur, hg⟩ := own_ent h.own e
    rw [hc] at hg; simp only [Option.some.injEq, Obj.cells.injEq] at hg; exact h3 hg.2.1
theorem grown_undrew {w w2 : World} {r : Option Nat} (h : w.drew.grownBy w2 r) : w.grownBy w2 r := ⟨h.os, h.tape, h.output, h.size, h.block⟩
theorem push_world {lo B : Nat} {w w2 : World} {T : List UInt8} {vs : List Value} {wv : Value} (h : SVx lo B w T vs wv) (v v' : Value) (hown : w2.ownsRow lo 125 1 v' (vs.length + 1) (vs ++ [v]))
    (hgr0 : (w.alloc (.cells #[v] 125)).drew.grownBy w2 wv.ownBlock) (hloc : v'.ownBlock = wv.ownBlock ∨ ∀ g, v'.ownBlock = some g → (w.alloc (.cells #[v] 125)).heap.size ≤ g) :
    SVx lo B (w2.setCell ⟨B, 2, none⟩ v') T (vs ++ [v]) v' ∧ Below lo w (w2.setCell ⟨B, 2, none⟩ v') ∧ KeepX B wv w (w2.setCell ⟨B, 2, none⟩ v') ∧ (v'.ownBlock = wv.ownBlock ∨ ∀ g, v'.ownBlock = some g → w.heap.size ≤ g) := by
  have hgr := grown_undrew hgr0
  obtain ⟨cs, h1, h2, h3⟩ := h
  obtain ⟨bv, b1, b2⟩ := h1.own
  have hlt := h1.lt
  have hs : w.heap.size ≤ w2.heap.size := by have := hgr.size; simp at this; omega
  have hk2 : ∀ c, c < w.heap.size → wv.ownBlock ≠ some c → w2.heap[c]? = w.heap[c]? := fun c hc hn => (hgr.block c (by simp; omega) (fun e => hn e.symm)).trans (Below.heap_alloc w _ c hc)
  have hneB : wv.ownBlock ≠ some B := Lib.ownBlock_ne h3 h1.heap (by decide)
  have hB2 : w2.heap[B]? = some (.cells cs 123 (0, 0)) := (hk2 B hlt hneB).trans h1.heap
  have hx : KeepX B wv w (w2.setCell ⟨B, 2, none⟩ v') := ⟨by simpa [World.setCell] using hs, fun c o hc hb hn => ((Below.heap_setCell w2 ⟨B, 2, none⟩ v' c hb).trans (hk2 c (Array.getElem?_eq_some_iff.1 hc).1 hn)).trans hc⟩
  refine ⟨⟨cs.setIfInBounds 2 v', ⟨heap_setCell_same w2 B 2 _ _ _ hB2, set_size h1.size _ _, h1.low, (by rw [set_other _ _ _ _ (by decide)]; exact h1.addr), bv, (set_other _ _ _ _ (by decide)).trans b1, ?_⟩, set_get _ _ _ (by have := h1.size; omega), ?_⟩, ?_, hx, ?_⟩
  · refine ⟨b2.1, ?_⟩
    rcases b2.2 with e | ⟨g, cap, cur, rfl, a1, a2, a3⟩
    · exact .inl e
    · refine .inr ⟨g, cap, cur, rfl, a1, hx.2 g _ a2 (fun e => ?_) (fun e => ?_), a3⟩
      · subst e; rw [h1.heap] at a2; simp only [Option.some.injEq, Obj.cells.injEq] at a2; exact absurd a2.2.1 (by decide)
      · obtain ⟨_, cur', hg⟩ := own_ent h3 e
        rw [hg] at a2; simp only [Option.some.injEq, Obj.cells.injEq] at a2; exact absurd a2.2.1 (by decide)
  · rw [show (vs ++ [v]).length = vs.length + 1 by simp]
    exact own_set hown (Lib.ownBlock_ne hown hB2 (by decide))
  · have hb1 : Below lo w (w.alloc (.cells #[v] 125)) := (Below.refl lo w).alloc (by have := h1.low; omega) _
    exact (hb1.grown hgr (by have := h1.low; simp; omega) (fun k hk => (own_ent h3 hk).1)).setCell (p := ⟨B, 2, none⟩) h1.low _
  · rcases hloc with e | e
    · exact .inl e
    · exact .inr fun g hg => by have := e g hg; simp at this; omega
/-- 'append(waiting, v)', in a region. -/
theorem step_push {w : World} {ops : Array Oper} {o : Oper} {a : Act} {K : Act → World → Prop} {Q : Exit → Act → World → Prop} {X : Prop} (hgd : o.guard = none) (s x : Operand)
    (ho : o.op = .call { callee := .builtin .append, args := #[s, x], argTypes := #[120, 120] }) {lo : Nat} {vs : List Value} {wv v : Value} (hs : a.eval s = wv) (hown : w.ownsRow lo 125 1 wv vs.length vs) (hlen : vs.length ≤ 100000000) (hlo : lo ≤ w.heap.size)
    (hv : v.oneCell' = true) (hx : a.eval x = .slice (some ⟨w.heap.size, 0, none⟩) 1 1)
    (h : ∀ p c w2, w2.ownsRow lo 125 1 (.slice p (vs.length + 1) c) (vs.length + 1) (vs ++ [v]) → (w.alloc (.cells #[v] 125)).drew.grownBy w2 wv.ownBlock → ((Value.slice p (vs.length + 1) c).ownBlock = wv.ownBlock ∨ ∀ g, (Value.slice p (vs.length + 1) c).ownBlock = some g → (w.alloc (.cells #[v] 125)).heap.size ≤ g) → K (a.put o.dst (.slice p (vs.length + 1) c)) w2) :
    if Region.wanted o (yielded ops a.tmps) = true then Oper.wp Tryz.prog o a (w.alloc (.cells #[v] 125)).drew K Q else X := by
  have hw : Region.wanted o (yielded ops a.tmps) = true := by simp [Region.wanted, hgd]
  rw [if_pos hw]
  obtain ⟨i0, hi, hz0, hz1, hz2⟩ := info_parts (show (Tryz.prog.info? 125).map (fun i => (i.zero, i.size, i.bytes)) = some (some .nilFunc, 1, 8) by kernel_rfl)
  obtain ⟨v', w', hr, h2, h3, h4⟩ := run_append_loc (w.alloc (.cells #[v] 125)).drew lo _ o.type _ i0 .nilFunc 1 8 Tryz.underlying120 hi hz0 hz1 hz2 rfl (by decide) wv vs.length vs (hown.alloc _).drew ⟨w.heap.size, 0, none⟩ 1 1 (by decide) [v] rfl
    (fun j u hj => by
      match j, hj with
      | 0, hj => simp at hj; subst hj; rw [add_off]; exact ent_cell (w := (w.alloc (.cells #[v] 125)).drew) (ent_new w #[v] 125) 0 _ rfl) (fun u hu => by rw [List.mem_singleton] at hu; subst hu; exact hv) (by unfold maxLen; omega) (by omega) (show lo ≤ (w.alloc (.cells #[v] 125)).heap.size by simp; omega)
  obtain ⟨p, c, rfl⟩ := own_sl h2
  unfold Oper.wp execOp
  simp only [ho, resolve, invoke, builtin, Sem.run_bind, Sem.run_pure, Result.andThen_ok, List.map_toArray, List.map_cons, List.map_nil, hs, hx, hr]
  exact h p c w' h2 h3 h4
end Sw
end Go.Proofs.YtnhndamfbeiljaaGreatDoor
