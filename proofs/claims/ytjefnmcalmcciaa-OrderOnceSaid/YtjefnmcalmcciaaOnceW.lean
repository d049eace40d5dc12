/-
  OrderOnce: its walk.
-/
import Derived.Test.YtjefnmcalmcciaaOnceP
namespace Go.Proofs.Ytjefnmcalmcciaa
open Go Go.RowKit
set_option linter.unusedVariables false
set_option linter.unusedSimpArgs false

/-- Rows of the call's own, in a list of the call's own. -/
structure Nest (base : Nat) (w : World) (mv : Value) (rows : List (List Int)) (vs : List Value) : Prop where
  own : w.ownsRow base 30 1 mv rows.length vs
  row : ∀ (k : Nat) (l : List Int), rows[k]? = some l → ∃ u : Value, vs[k]? = some u ∧ w.ownsRow base 3 1 u l.length (zvs l)
theorem Nest.rows {base : Nat} {w : World} {mv : Value} {rows : List (List Int)} {vs : List Value} (h : Nest base w mv rows vs) : RowsAt w mv rows := by
  rcases h.own.2 with ⟨rfl, hn⟩ | ⟨g, cap, cur, rfl, hb, hg, h2, h3, h4⟩
  · exact .inl ⟨List.eq_nil_of_length_eq_zero hn, none, 0, rfl⟩
  · refine .inr ⟨g, 0, cap, rfl, h2, by unfold maxLen at h3; omega, fun i l hl => ?_⟩
    obtain ⟨u, hu, ho⟩ := h.row i l hl
    exact ⟨u, by rw [Nat.zero_add]; exact own_cellAt h.own hu, own_intsI ho⟩
/-- Behind an append to the list. -/
theorem Nest.push {base : Nat} {w w' : World} {mv mv' u : Value} {rows : List (List Int)} {vs : List Value} {l : List Int} {o : Obj} (h : Nest base w mv rows vs) (hu : w.ownsRow base 3 1 u l.length (zvs l))
    (ho : w'.ownsRow base 30 1 mv' (rows.length + 1) (vs ++ [u])) (hgr : (w.alloc o).grownBy w' mv.ownBlock) : Nest base w' mv' (rows ++ [l]) (vs ++ [u]) := by
  have keep : ∀ {x : Value} {y : List Int}, w.ownsRow base 3 1 x y.length (zvs y) → w'.ownsRow base 3 1 x y.length (zvs y) := by
    intro x y hx
    refine own_same hx fun b hb => ?_
    obtain ⟨cs, hc⟩ := own_type hx hb
    refine (hgr.block b (by have := ent_lt hc; simp; omega) (fun e => ?_)).trans (Below.heap_alloc w o b (ent_lt hc))
    obtain ⟨cs', hc'⟩ := own_type h.own e.symm
    rw [hc] at hc'
    injection hc' with hc'
    injection hc' with _ hc' _
    exact absurd hc' (by decide)
  have hvl : vs.length = rows.length := by have := h.own.1; omega
  refine ⟨by rw [List.length_append]; exact ho, fun k l' hk => ?_⟩
  rcases Gr.snoc_some hk with hk | ⟨rfl, rfl⟩
  · obtain ⟨u', hu', ho'⟩ := h.row k l' hk
    exact ⟨u', by rw [List.getElem?_append_left (Gr.some_lt hu')]; exact hu', keep ho'⟩
  · exact ⟨u, by rw [← hvl]; simp, keep hu⟩
theorem Nest.grown {base : Nat} {w w' : World} {mv u : Value} {rows : List (List Int)} {vs : List Value} {r : Option Nat} (h : Nest base w mv rows vs) (hgr : w.grownBy w' r) (hr : ∀ b, r = some b → w.heap.size ≤ b) : Nest base w' mv rows vs := by
  refine ⟨own_same h.own fun b hb => hgr.block b (h.own.lt b hb).2 (fun e => by have := hr b e.symm; have := (h.own.lt b hb).2; omega), fun k l hk => ?_⟩
  obtain ⟨u', hu', ho'⟩ := h.row k l hk
  exact ⟨u', hu', own_same ho' fun b hb => hgr.block b (ho'.lt b hb).2 (fun e => by have := hr b e.symm; have := (ho'.lt b hb).2; omega)⟩
theorem Nest.below {base : Nat} {w w' : World} {mv : Value} {rows : List (List Int)} {vs : List Value} (h : Nest base w mv rows vs) (hb : Below w.heap.size w w') : Nest base w' mv rows vs := by
  refine ⟨own_same h.own fun b hbb => hb.block b (h.own.lt b hbb).2, fun k l hk => ?_⟩
  obtain ⟨u', hu', ho'⟩ := h.row k l hk
  exact ⟨u', hu', own_same ho' fun b hbb => hb.block b (ho'.lt b hbb).2⟩

def OnceRel (ls : List (List Int)) (a : Nat) (w w2 : World) (mv : Value) (k : Nat) (wr : World) : Prop :=
  ∃ vs, Nest w2.heap.size wr mv (moreL ls a k) vs ∧ Below w2.heap.size w2 wr

set_option maxHeartbeats 4000000 in
set_option maxRecDepth 100000 in
theorem orderOnce_walk (w : World) (v : Value) (ls : List (List Int)) (hr : RowsAt w v ls) (hs : ls.length ≤ 140737488351232) (hl : ∀ l ∈ ls, l.length ≤ 140737488351232) (a : Int) (hwa : (Lit.int .i64 a).wf = true) :
    Calls Try.prog 6 #[v, .int .i64 a] w fun e w' => e = .returned (.bool true) ∧ Below w.heap.size w w' := by
  obtain ⟨p0, c0, rfl⟩ := hr.len
  have HR := Lib.hid hr; have HL := Lib.hid hl
  clear hr hl
  go_enter Try.func6, Try.ntmps6
  go_wp2_with fail
  refine (lives_any _).mono ?_
  rintro e w1 ⟨rfl, hb1⟩
  have HB1 := Lib.hid hb1; clear hb1
  go_wp2_with fail
  refine (small_any _ ls _ (HR.out.below HB1.out) hs HL.out).mono ?_
  rintro e w1' ⟨rfl, rfl⟩
  have early : ∀ wx, Below w.heap.size w wx → True := fun _ _ => trivial
  cases hsm : smallB ls with
  | false =>
    go_wp2_with fail
    refine (lives_any _).mono ?_
    rintro e w2 ⟨rfl, hb2⟩
    have HB2 := Lib.hid (HB1.out.trans (hb2.mono HB1.out.size)); clear hb2
    go_wp2_with fail
    go_ret
    exact ⟨rfl, HB2.out⟩
  | true =>
    obtain ⟨hn40, hs400⟩ := small_yes hsm
    clear hsm
    by_cases hn0 : ls.length = 0
    · have hn0i : (ls.length : Int) = 0 := by omega
      have hn0b : ((ls.length : Int) == 0) = true := by rw [hn0i]; rfl
      clear hn0
      go_wp2_with fail
      refine (lives_any _).mono ?_
      rintro e w2 ⟨rfl, hb2⟩
      have HB2 := Lib.hid (HB1.out.trans (hb2.mono HB1.out.size)); clear hb2
      go_wp2_with fail
      go_ret
      exact ⟨rfl, HB2.out⟩
    · have hn0i : ¬ ((ls.length : Int) = 0) := by omega
      have hn0b : ((ls.length : Int) == 0) = false := beq_eq_false_iff_ne.2 hn0i
      have hpos : 0 < ls.length := by omega
      clear hn0
      go_wp2_with fail
      refine (Groups_any _ ls _ (HR.out.below HB1.out) (by omega) (by omega)).mono ?_
      rintro e w2 hpost
      have hpf : ∃ (q : Option Addr) (d : Nat) (L1 : List (List Int)) (e1 : Int), e = .returned (.tuple #[.slice q L1.length d, .int .i64 e1]) ∧ RowsAt w2 (.slice q L1.length d) L1 ∧ L1.length ≤ 40 ∧ Below w1.heap.size w1 w2 ∧
          ((allB ls.length ls = false ∧ L1 = [] ∧ e1 = 1) ∨ (allB ls.length ls = true ∧ e1 = 0 ∧ ∃ L, L1 = ints L ∧ Gr.IsGroups (natG ls) L)) := by
        rcases hpost with ⟨h1, rfl, h2⟩ | ⟨h1, L, lv, rfl, h2, h3, h4, h5⟩
        · exact ⟨none, 0, [], 1, rfl, .inl ⟨rfl, none, 0, rfl⟩, by simp, h2, .inl ⟨h1, rfl, rfl⟩⟩
        · obtain ⟨q, d, rfl⟩ := h3.len
          exact ⟨q, d, ints L, 0, rfl, h3, by rw [ints_len]; omega, h5, .inr ⟨h1, rfl, L, rfl, h2⟩⟩
      obtain ⟨q1, d1, L1, e1, rfl, hrow1, hL1, hb2, hcase⟩ := hpf
      have HB2 := Lib.hid (HB1.out.trans (hb2.mono HB1.out.size)); have HROW1 := Lib.hid hrow1; have HC1 := Lib.hid hcase
      clear hpost hrow1 hb2 hcase
      have hunn : (0 : Int) ≤ IntKind.u64.wrap a := by simp [IntKind.wrap, IntKind.signed, IntKind.bits]; omega
      obtain ⟨U, hU⟩ : ∃ U : Nat, IntKind.u64.wrap a = (U : Int) := ⟨(IntKind.u64.wrap a).toNat, by omega⟩
      obtain ⟨A, hA⟩ : ∃ A : Nat, A = U % ls.length := ⟨_, rfl⟩
      have hAl : A < ls.length := by rw [hA]; exact Nat.mod_lt _ hpos
      have hT1 : ((U : Int)).tmod (ls.length : Int) = (A : Int) := by rw [hA]; rfl
      have hT2 : ((U : Int)) % (ls.length : Int) = (A : Int) := by rw [hA]; rfl
      have hW : wrap64 (A : Int) = (A : Int) := by unfold wrap64; omega
      have HU := Lib.hid hU; have HT1 := Lib.hid hT1; have HT2 := Lib.hid hT2; have HW := Lib.hid hW
      clear hA hunn hU hT1 hT2 hW
      have HRR : Hid (OnceRel ls A w w2 (.slice none 0 0) 0 w2) := Lib.hid ⟨[], ⟨World.ownsRow_nil _ _ _ _, fun k l h => by simp [moreL] at h⟩, Below.refl _ _⟩
      go_wp2_with fail
      go_loopw [7, 33] (fun mv i wr => ∃ k : Nat, i = .int .i64 k ∧ k ≤ ls.length ∧ Hid (OnceRel ls A w w2 mv k wr)) (fun _ i _ => ls.length - (intOf i).toNat)
      case atStart => exact ⟨0, rfl, Nat.zero_le _, HRR⟩
      case round =>
        clear HRR
        obtain ⟨k, rfl, hk, HRR⟩ := hrel
        by_cases hkn : k < ls.length
        · obtain ⟨vs, hne, hbe⟩ := HRR.out
          obtain ⟨l, hlk⟩ : ∃ l, ls[k]? = some l := ⟨_, List.getElem?_eq_getElem hkn⟩
          obtain ⟨b, o, q, d, hpe, hcm, hzz, hnc, hcell, hints⟩ := HR.out.at hlk
          subst hpe
          have HBE := Lib.hid (HB2.out.trans (hbe.mono HB2.out.size))
          replace hcell := cell_up HBE.out hcell
          have HI := Lib.hid hints; have HNE := Lib.hid hne; have HBZ := Lib.hid hbe
          have hll : l.length ≤ 400 := by
            have h1 := sum_snoc ls k l hlk
            have h2 : Gr.sumN ((ls.take (k + 1)).map List.length) ≤ Gr.sumN (ls.map List.length) := by
              conv => rhs; rw [← List.take_append_drop (k + 1) ls, List.map_append, Gr.sumN_append]
              omega
            omega
          have htw : twice ls A k = l ++ l ++ if k = A then [(k : Int)] else [] := by
            unfold twice
            rw [List.getD_eq_getElem?_getD, hlk]; rfl
          have HTW := Lib.hid htw
          have hbs := hbe.size
          have hbase2 : w2.heap.size ≤ (wr.alloc (.cells #[] 3)).heap.size := by simp; omega
          have HBS := Lib.hid hbase2
          clear hne hbe hints htw hzz hlk HRR hbase2
          go_wp2_with (at_builtin; go_loud (refine wpList_append_ints _ rfl (.tmp 38) (.tmp 39) rfl w2.heap.size _ 0 [] l rfl rfl (World.ownsRow_made wr #[] 0 hbs (by unfold maxLen; omega) rfl) _ rfl ((HI.out.below HBE.out).below ((Below.refl _ _).alloc (Nat.le_refl _) _)) (by simp; omega) HBS.out ?_))
          intro v3 w3 hown3 hgr3 hlo3
          have hb3 : Below wr.heap.size wr w3 := ((Below.refl _ _).alloc (Nat.le_refl _) (.cells #[] 3)).grown hgr3 (by simp) (fun kk hkk => by
            have : kk = wr.heap.size := by simpa [Value.ownBlock] using hkk.symm
            omega)
          have hown3' : w3.ownsRow w2.heap.size 3 1 v3 l.length (zvs l) := by simpa using hown3
          have HO3 := Lib.hid hown3'; have HB3 := Lib.hid hb3
          have HBS3 := Lib.hid (show w2.heap.size ≤ w3.heap.size by have := hb3.size; omega)
          have hob3 : ∀ kk, v3.ownBlock = some kk → wr.heap.size ≤ kk := fun kk hkk => by
            rcases hlo3 kk hkk with h9 | h9
            · have : kk = wr.heap.size := by simpa [Value.ownBlock] using h9.symm
              omega
            · have h10 : (wr.alloc (.cells #[] 3)).heap.size = wr.heap.size + 1 := by simp
              omega
          have HOB3 := Lib.hid hob3
          clear hown3 hown3' hgr3 hb3 hlo3 hob3
          go_wp2_with (at_builtin; go_loud (refine wpList_append_ints _ rfl (.tmp 40) (.tmp 41) rfl w2.heap.size v3 l.length l l rfl rfl HO3.out _ rfl ((HI.out.below HBE.out).below HB3.out) (by omega) HBS3.out ?_))
          intro v4 w4 hown4 hgr4 hlo4
          have hb4 : Below wr.heap.size wr w4 := HB3.out.grown hgr4 (HB3.out.size) (fun kk hkk => HOB3.out kk hkk)
          have hob4 : ∀ kk, v4.ownBlock = some kk → wr.heap.size ≤ kk := fun kk hkk => by
            rcases hlo4 kk hkk with h9 | h9
            · exact HOB3.out kk h9
            · have := HB3.out.size; omega
          obtain ⟨p4, c4, rfl⟩ := own_form hown4
          have hll3 : (l ++ l).length = l.length + l.length := List.length_append
          have hown4' : w4.ownsRow w2.heap.size 3 1 (.slice p4 (l.length + l.length) c4) (l ++ l).length (zvs (l ++ l)) := hll3 ▸ hown4
          clear hll3
          have HO4 := Lib.hid hown4'; have HB4 := Lib.hid hb4; have HOB4 := Lib.hid hob4
          have hne4 := HNE.out.below hb4
          have HNE4 := Lib.hid hne4
          have HBS4 := Lib.hid (show w2.heap.size ≤ w4.heap.size by have := hb4.size; omega)
          clear hown4 hown4' hgr4 hlo4 hb4 hob4 hne4 HO3 HB3 HBS3 HOB3 HBS hbs
          obtain ⟨i1, hj, hy0, hy1, hy2⟩ := info_parts infoInts
          have J0 := Lib.hid hj; have J00 := Lib.hid hy0; have J01 := Lib.hid hy1; have J02 := Lib.hid hy2
          clear hj hy0 hy1 hy2
          have hml : (moreL ls A k).length = k := moreL_len ls A k
          by_cases hkA : k = A
          · subst hkA
            have hrow : twice ls k k = l ++ l ++ [(k : Int)] := by rw [HTW.out, if_pos rfl]
            have hsn : moreL ls k (k + 1) = moreL ls k k ++ [l ++ l ++ [(k : Int)]] := by unfold moreL; rw [List.range_succ, List.map_append, List.map_singleton, hrow]
            have HSN := Lib.hid hsn
            have hll4 : (l ++ l).length = l.length + l.length := List.length_append
            have HLL4 := Lib.hid hll4
            have HBS6 := Lib.hid (show w2.heap.size ≤ (w4.alloc (.cells #[.int .i64 (k : Int)] 3)).heap.size by have := HBS4.out; simp; omega)
            have hino : IntsAt (w4.alloc (.cells #[.int .i64 (k : Int)] 3)) (.slice (some ⟨w4.heap.size, 0, none⟩) 1 1) [(k : Int)] := ints_one (ent_new w4 _ _)
            have HINO := Lib.hid hino
            have hlen9 : (l ++ l).length + [(k : Int)].length ≤ 1000000000 := by rw [hll4]; simp; omega
            have HL9 := Lib.hid hlen9
            have hox : w4.ownsRow w2.heap.size 3 1 (.slice p4 (l.length + l.length) c4) (l.length + l.length) (zvs (l ++ l)) := by have := HO4.out; rw [hll4] at this; exact this
            have HOX := Lib.hid hox
            clear hrow hsn hll4 hino hlen9 hox
            have hU := HU.out; have hT1 := HT1.out; have hT2 := HT2.out; have hW := HW.out
            go_wp2_with (at_builtin; go_loud (refine wpList_append_ints _ rfl (.tmp 52) (.tmp 54) rfl w2.heap.size _ (l.length + l.length) (l ++ l) [(k : Int)] rfl HLL4.out.symm (HOX.out.alloc _) _ rfl HINO.out HL9.out HBS6.out ?_))
            intro v5 w5 hown5 hgr5 hlo5
            clear hU hT1 hT2 hW
            have hb5 : Below wr.heap.size wr w5 := (HB4.out.alloc HB4.out.size _).grown hgr5 (by have := HB4.out.size; simp; omega) (fun kk hkk => HOB4.out kk hkk)
            have hne5 := HNE.out.below (hb5.mono (Nat.le_refl _))
            obtain ⟨NN, hNN⟩ : ∃ NN, NN = (l ++ l ++ [(k : Int)]).length := ⟨_, rfl⟩
            have hown5n : w5.ownsRow w2.heap.size 3 1 v5 NN (zvs (l ++ l ++ [(k : Int)])) := by rw [hNN]; simpa [Nat.add_assoc] using hown5
            clear hown5
            have HNE5 := Lib.hid hne5; have HO5 := Lib.hid hown5n; have HB5 := Lib.hid hb5; have HNN := Lib.hid hNN
            have hbs5 : w2.heap.size ≤ w5.heap.size := by have := hb5.size; have := HBZ.out.size; omega
            obtain ⟨p5, c5, rfl⟩ := own_form hown5n
            have hown6' := HNE5.out.own
            rw [hml] at hown6'
            have HOWN6 := Lib.hid hown6'
            have HBS7 : Hid (∀ o, w2.heap.size ≤ (w5.alloc o).heap.size) := Lib.hid (fun o => by simp; omega)
            have HBSV := Lib.hid hbs5
            have HQ1 := Lib.hid (show k + 1 ≤ maxLen by unfold maxLen; omega)
            have HQ2 := Lib.hid (show (k + 1) * 24 ≤ 140737488355328 by omega)
            clear hown5n hgr5 hlo5 hb5 hne5 hbs5 hown6' hNN
            go_wp2_with (at_builtin; go_loud (refine wpList_append_lies _ rfl (.tmp 56) (.tmp 58) 22 rfl w2.heap.size 30 i1 (.slice none 0 0) 1 24 Try.underlying22 J0.out J00.out J01.out J02.out rfl (by decide) _ k vs rfl (HOWN6.out.alloc _) ⟨w5.heap.size, 0, none⟩ 1 1 [.slice p5 NN c5] rfl rfl (fun j u hh => new_one w5 _ _ j u hh) (by intro u hu; rw [List.mem_singleton.1 hu]; rfl) (by decide) HQ1.out HQ2.out (HBS7.out _) _ rfl ?_))
            intro g6 c6 w6 hown6 hgr6 hat6 hlt6
            have hpush := HNE5.out.push (l := l ++ l ++ [(k : Int)]) (u := .slice p5 NN c5) (by have h9 := HO5.out; have e9 := HNN.out; rw [← e9]; exact h9) (by rw [hml]; exact hown6) hgr6
            rw [← HSN.out] at hpush
            have hbz6 : Below w2.heap.size w2 w6 := ((HBZ.out.trans (HB5.out.mono HBZ.out.size)).alloc (by have := HBSV.out; omega) _).grown hgr6 (by have := HBSV.out; simp; omega) (fun kk hkk => (HOWN6.out.lt kk hkk).1)
            have HN : Hid (OnceRel ls k w w2 (.slice (some ⟨g6, 0, none⟩) (k + 1) c6) (k + 1) w6) := Lib.hid ⟨_, hpush, hbz6⟩
            clear hown6 hgr6 hat6 hlt6 hpush hbz6
            go_wp2
            go_roundw
            case rel => exact ⟨k + 1, by go_num, by omega, HN⟩
            case measure => simp [intOf]; omega
          · have hbq : ((k : Int) == (A : Int)) = false := beq_eq_false_iff_ne.2 (fun e => hkA (Int.ofNat_inj.1 e))
            have hrow : twice ls A k = l ++ l := by rw [HTW.out, if_neg hkA, List.append_nil]
            have HROW := Lib.hid hrow
            have hsn : moreL ls A (k + 1) = moreL ls A k ++ [l ++ l] := by unfold moreL; rw [List.range_succ, List.map_append, List.map_singleton, hrow]
            have HSN := Lib.hid hsn
            have hown5 := HNE4.out.own
            rw [hml] at hown5
            have HOWN5 := Lib.hid hown5
            have HBS5 := Lib.hid (show w2.heap.size ≤ (w4.alloc (.cells #[.slice p4 (l.length + l.length) c4] 30)).heap.size by have := HBS4.out; simp; omega)
            have HQ1 := Lib.hid (show k + 1 ≤ maxLen by unfold maxLen; omega)
            have HQ2 := Lib.hid (show (k + 1) * 24 ≤ 140737488355328 by omega)
            clear hrow hsn hkA hown5
            have hU := HU.out; have hT1 := HT1.out; have hT2 := HT2.out; have hW := HW.out
            go_wp2_with (at_builtin; go_loud (refine wpList_append_lies _ rfl (.tmp 56) (.tmp 58) 22 rfl w2.heap.size 30 i1 (.slice none 0 0) 1 24 Try.underlying22 J0.out J00.out J01.out J02.out rfl (by decide) _ k vs rfl (HOWN5.out.alloc _) ⟨w4.heap.size, 0, none⟩ 1 1 [.slice p4 (l.length + l.length) c4] rfl rfl (fun j u hh => new_one w4 _ _ j u hh) (by intro u hu; rw [List.mem_singleton.1 hu]; rfl) (by decide) HQ1.out HQ2.out HBS5.out _ rfl ?_))
            intro g6 c6 w6 hown6 hgr6 hat6 hlt6
            clear hU hT1 hT2 hW hbq
            have hpush := HNE4.out.push (l := l ++ l) HO4.out (by rw [hml]; exact hown6) hgr6
            rw [← HSN.out] at hpush
            have hbz6 : Below w2.heap.size w2 w6 := ((HBZ.out.trans (HB4.out.mono HBZ.out.size)).alloc (by have := HBS4.out; omega) _).grown hgr6 (by have := HBS4.out; simp; omega) (fun kk hkk => (HOWN5.out.lt kk hkk).1)
            have HN : Hid (OnceRel ls A w w2 (.slice (some ⟨g6, 0, none⟩) (k + 1) c6) (k + 1) w6) := Lib.hid ⟨_, hpush, hbz6⟩
            clear hown6 hgr6 hat6 hlt6 hpush hbz6
            go_wp2
            go_roundw
            case rel => exact ⟨k + 1, by go_num, by omega, HN⟩
            case measure => simp [intOf]; omega
        · have hkk : k = ls.length := by omega
          obtain ⟨vs, hne, hbe⟩ := HRR.out
          rw [hkk] at hne
          have hrows := hne.rows
          have hml : (moreL ls A ls.length).length = ls.length := moreL_len ls A _
          have hsum := moreL_sum ls A ls.length (Nat.le_refl _)
          rw [List.take_length] at hsum
          have HBE := Lib.hid (HB2.out.trans (hbe.mono HB2.out.size)); have HROWS := Lib.hid hrows; have HBZ := Lib.hid hbe
          have hsum2 : Gr.sumN ((moreL ls A ls.length).map List.length) ≤ 100000000 := by omega
          have hlen2 : (moreL ls A ls.length).length ≤ 100000000 := by omega
          have HS2 := Lib.hid hsum2; have HL2 := Lib.hid hlen2
          have hmem := moreL_mem hAl
          have HMEM := Lib.hid hmem; have HML := Lib.hid hml
          obtain ⟨p9, c9, rfl⟩ := hrows.len
          clear hne hbe hrows hml hsum hsum2 hlen2 hmem hkk HRR
          go_wp2_with fail
          refine (Groups_any _ (moreL ls A ls.length) _ HROWS.out HL2.out HS2.out).mono ?_
          rintro e w7 hpost
          have hpf : ∃ (q : Option Addr) (d : Nat), e = .returned (.tuple #[.slice q L1.length d, .int .i64 e1]) ∧ RowsAt w7 (.slice q L1.length d) L1 ∧ Below wr.heap.size wr w7 := by
            rcases hpost with ⟨h1, rfl, h2⟩ | ⟨h1, L, lv, rfl, h2, h3, h4, h5⟩
            · rw [HML.out, HMEM.out] at h1
              rcases HC1.out with ⟨_, rfl, rfl⟩ | ⟨h6, _⟩
              · exact ⟨none, 0, rfl, .inl ⟨rfl, none, 0, rfl⟩, h2⟩
              · rw [h1] at h6; cases h6
            · rw [HML.out, HMEM.out] at h1
              rcases HC1.out with ⟨h6, _⟩ | ⟨_, rfl, L0, rfl, h7⟩
              · rw [h1] at h6; cases h6
              · have h8 := Gr.groups_congr (g := natG ls) (g' := natG (moreL ls A ls.length)) (by rw [natG_len, natG_len, HML.out]) (Gr.reach_once (moreL_hang hAl)) h7
                obtain rfl := h2.uniq h8
                obtain ⟨q, d, rfl⟩ := h3.len
                exact ⟨q, d, rfl, h3, h5⟩
          obtain ⟨q2, d2, rfl, hrow2, hb7⟩ := hpf
          have hr1 : RowsAt w7 (.slice q1 L1.length d1) L1 := (HROW1.out.below HBZ.out).below hb7
          have HR1 := Lib.hid hr1; have HR2 := Lib.hid hrow2
          have HB7 := Lib.hid (HBE.out.trans (hb7.mono HBE.out.size))
          have hlr : ∀ l ∈ L1, l.length ≤ 1000000000 := by
            rcases HC1.out with ⟨_, rfl, _⟩ | ⟨_, _, L0, rfl, h7⟩
            · intro l hl; cases hl
            · intro l hl
              obtain ⟨l0, hl0, rfl⟩ := List.mem_map.1 hl
              obtain ⟨pp, hpp⟩ := List.mem_iff_getElem?.1 hl0
              obtain ⟨i, _, rfl⟩ := h7.1 pp l0 hpp
              have := Gr.nodup_le (natG ls).length _ (Gr.grp_nodup (natG ls) i) (fun x hx => (Gr.mem_grp.1 hx).1)
              rw [natG_len] at this
              simp; omega
          have HLR := Lib.hid hlr
          clear hpost hrow2 hb7 hr1 hlr
          go_wp2_with fail
          refine (equalFunc_same _ _ L1 _ HR1.out HR2.out (by omega) HLR.out).mono ?_
          rintro e w8 ⟨rfl, nq, rfl⟩
          go_wp2_with fail
          go_ret
          exact ⟨rfl, below_drewN HB7.out _⟩
end Go.Proofs.Ytjefnmcalmcciaa
