/-
  OrderLone: its walk.
-/
import Derived.Test.YtjefnmcalmcciaaLoneP
namespace Go.Proofs.Ytjefnmcalmcciaa
open Go Go.RowKit
set_option linter.unusedVariables false
set_option linter.unusedSimpArgs false

/-- A list of integers that the call owns. -/
def IntsOwn (w2 : World) (l : List Int) (v : Value) (wr : World) : Prop := wr.ownsRow w2.heap.size 3 1 v l.length (zvs l) ∧ Below w2.heap.size w2 wr
def upto (n : Nat) : List Int := (List.range n).map fun (i : Nat) => (i : Int)
theorem upto_len (n : Nat) : (upto n).length = n := by simp [upto]
theorem upto_succ (n : Nat) : upto (n + 1) = upto n ++ [(n : Int)] := by simp [upto, List.range_succ]

theorem natG_snoc (ls : List (List Int)) (l : List Int) : natG (ls ++ [l]) = natG ls ++ [l.map Int.toNat] := by simp [natG]
theorem upto_nat (n : Nat) : (upto n).map Int.toNat = List.range n := by
  unfold upto
  rw [List.map_map]
  conv => rhs; rw [← List.map_id (List.range n)]
  exact List.map_congr_left fun x _ => by simp
theorem allB_mono {n m : Nat} (h : n ≤ m) {ls : List (List Int)} (ha : allB n ls = true) : allB m ls = true := by
  have h1 := ok_all ha
  refine all_yes fun k l hl => row_yes fun j x hx => ?_
  have := h1 l (List.mem_of_getElem? hl) x (List.mem_of_getElem? hx)
  unfold okB
  simp; omega
theorem allB_snoc {ls : List (List Int)} {l : List Int} (h : allB ls.length ls = true) (hl : ∀ x ∈ l, 0 ≤ x ∧ x < ls.length) : allB (ls ++ [l]).length (ls ++ [l]) = true := by
  have h1 := ok_all h
  refine all_yes fun k l' hk => row_yes fun j x hx => ?_
  have hx' := List.mem_of_getElem? hx
  have : 0 ≤ x ∧ x < ls.length := by
    rcases List.mem_append.1 (List.mem_of_getElem? hk) with h2 | h2
    · exact h1 l' h2 x hx'
    · rw [List.mem_singleton.1 h2] at hx'; exact hl x hx'
  unfold okB
  simp; omega
/-- What one thing more makes of the groups. -/
theorem lone_more {ls : List (List Int)} {l : List Int} {L : List (List Nat)} (h : allB ls.length ls = true) (hl : ∀ x ∈ l, 0 ≤ x ∧ x < ls.length) (hg : Gr.IsGroups (natG ls) L) : Gr.IsGroups (natG (ls ++ [l])) (L ++ [[ls.length]]) := by
  rw [natG_snoc]
  have := Gr.lone_groups (good_natG h) hg (x := l.map Int.toNat) (fun j hj => by
    obtain ⟨x, hx, rfl⟩ := List.mem_map.1 hj
    have := hl x hx
    rw [natG_len]; omega)
  rwa [natG_len] at this

theorem lone_rows {wr w6 : World} {ls : List (List Int)} {vs : List Value} {v6 u : Value} {l : List Int} (hval : ∀ (j : Nat) (l : List Int), ls[j]? = some l → ∃ u, vs[j]? = some u ∧ IntsAt wr u l) (hu : IntsAt wr u l) (hb : Below wr.heap.size wr w6)
    (hown : w6.ownsRow wr.heap.size 30 1 v6 (ls.length + 1) (vs ++ [u])) : RowsAt w6 v6 (ls ++ [l]) := by
  have hvl : vs.length = ls.length := by have := hown.1; simp at this; omega
  refine rows_of_own (base := wr.heap.size) (vs := vs ++ [u]) (by rw [List.length_append]; exact hown) fun k l' hk => ?_
  rcases Gr.snoc_some hk with hk | ⟨rfl, rfl⟩
  · obtain ⟨u', hu', hi⟩ := hval k l' hk
    exact ⟨u', by rw [List.getElem?_append_left (Gr.some_lt hu')]; exact hu', hi.below hb⟩
  · exact ⟨u, by rw [← hvl]; simp, hu.below hb⟩
theorem lone_post {ls : List (List Int)} {l : List Int} {L : List (List Nat)} (h : allB ls.length ls = true) (hl : ∀ x ∈ l, 0 ≤ x ∧ x < ls.length) (hg : Gr.IsGroups (natG ls) L) {w0 w : World} {e : Ending} (hp : GroupsPost (ls ++ [l]) w0 e w) :
    ∃ q d, e = .returned (.tuple #[.slice q (L.length + 1) d, .int .i64 0]) ∧ RowsAt w (.slice q (L.length + 1) d) (ints (L ++ [[ls.length]])) ∧ Below w0.heap.size w0 w := by
  rcases hp with ⟨h1, _⟩ | ⟨h1, L2, lv, rfl, h2, h3, h4, h5⟩
  · rw [allB_snoc h hl] at h1; cases h1
  · obtain rfl := h2.uniq (lone_more h hl hg)
    obtain ⟨q, d, rfl⟩ := h3.len
    have e : (ints (L ++ [[ls.length]])).length = L.length + 1 := by rw [ints_len]; simp
    rw [e] at h3 ⊢
    exact ⟨q, d, rfl, h3, h5⟩

theorem held_more {w10 w' w2 : World} {a b c : Addr} {x y z : Value} (h : w'.cell? a = some x ∧ w'.cell? b = some y ∧ w'.cell? c = some z ∧ Hid (Below w10.heap.size w10 w')) (hq : ∃ k, w2 = w'.drewN k) : w2.cell? a = some x ∧ w2.cell? b = some y ∧ w2.cell? c = some z ∧ Hid (Below w10.heap.size w10 w2) := by
  obtain ⟨k, rfl⟩ := hq
  exact ⟨h.1, h.2.1, h.2.2.1, Lib.hid (below_drewN h.2.2.2.out _)⟩

theorem held_more2 {w10 w' w2 : World} {a b : Addr} {x y : Value} (h : w'.cell? a = some x ∧ w'.cell? b = some y ∧ Hid (Below w10.heap.size w10 w')) (hq : ∃ k, w2 = w'.drewN k) : w2.cell? a = some x ∧ w2.cell? b = some y ∧ Hid (Below w10.heap.size w10 w2) := by
  obtain ⟨k, rfl⟩ := hq
  exact ⟨h.1, h.2.1, Lib.hid (below_drewN h.2.2.out _)⟩
theorem held_alloc2 {w10 w' : World} {a b : Addr} {x y : Value} (h : w'.cell? a = some x ∧ w'.cell? b = some y ∧ Hid (Below w10.heap.size w10 w')) (o : Obj) : (w'.alloc o).cell? a = some x ∧ (w'.alloc o).cell? b = some y ∧ Hid (Below w10.heap.size w10 (w'.alloc o)) :=
  ⟨cell_alloc h.1 o, cell_alloc h.2.1 o, Lib.hid (h.2.2.out.alloc h.2.2.out.size o)⟩

set_option maxHeartbeats 4000000 in
set_option maxRecDepth 100000 in
theorem orderLone_walk (w : World) (v : Value) (ls : List (List Int)) (hr : RowsAt w v ls) (hs : ls.length ≤ 140737488351232) (hl : ∀ l ∈ ls, l.length ≤ 140737488351232) :
    Calls Try.prog 8 #[v] w fun e w' => e = .returned (.bool true) ∧ Below w.heap.size w w' := by
  obtain ⟨p0, c0, rfl⟩ := hr.len
  have HR := Lib.hid hr; have HL := Lib.hid hl
  clear hr hl
  go_enter Try.func8, Try.ntmps8
  go_wp2_with fail
  refine (lives_any _).mono ?_
  rintro e w1 ⟨rfl, hb1⟩
  have HB1 := Lib.hid hb1; clear hb1
  go_wp2_with fail
  refine (small_any _ ls _ (HR.out.below HB1.out) hs HL.out).mono ?_
  rintro e w1' ⟨rfl, rfl⟩
  cases hsm : smallB ls with
  | false =>
    go_wp2_with fail
    refine (lives_any _).mono ?_
    rintro e w2 ⟨rfl, hb2⟩
    have HB2 := Lib.hid (HB1.out.trans (hb2.mono HB1.out.size)); clear hb2
    go_wp2_with fail
    go_ret
    exact ⟨rfl, HB2.out⟩
  | true =>
    obtain ⟨hn40, hs400⟩ := small_yes hsm
    clear hsm
    go_wp2_with fail
    refine (Groups_any _ ls _ (HR.out.below HB1.out) (by omega) (by omega)).mono ?_
    rintro e w2 (⟨_, rfl, hb2⟩ | ⟨hall, L, lv, rfl, hgr, hrow, hLl, hb2⟩)
    · have HB2 := Lib.hid (HB1.out.trans (hb2.mono HB1.out.size)); clear hb2
      go_wp2_with fail
      go_ret
      exact ⟨rfl, HB2.out⟩
    · have HB2 := Lib.hid (HB1.out.trans (hb2.mono HB1.out.size))
      have HALL := Lib.hid hall; have HGR := Lib.hid hgr; have HROW := Lib.hid hrow
      obtain ⟨p1, c1, rfl⟩ := hrow.len
      rw [ints_len]
      have hLi : (L.length : Int) ≤ 40 := by omega
      clear hgr hrow hb2 hall
      have HI0 : Hid (IntsOwn w2 (upto 0) (.slice none 0 0) w2) := Lib.hid ⟨World.ownsRow_nil _ _ _ _, Below.refl _ _⟩
      go_wp2_with fail
      go_loopw [5, 29] (fun av i wr => ∃ k : Nat, i = .int .i64 k ∧ k ≤ ls.length ∧ Hid (IntsOwn w2 (upto k) av wr)) (fun _ i _ => ls.length - (intOf i).toNat)
      case atStart => exact ⟨0, rfl, Nat.zero_le _, HI0⟩
      case round =>
        clear HI0
        obtain ⟨k, rfl, hk, HI⟩ := hrel
        by_cases hkn : k < ls.length
        · obtain ⟨hown, hbe⟩ := HI.out
          rw [upto_len] at hown
          have HOWN := Lib.hid hown; have HBE := Lib.hid hbe
          have HINO : Hid (IntsAt (wr.alloc (.cells #[.int .i64 (k : Int)] 3)) (.slice (some ⟨wr.heap.size, 0, none⟩) 1 1) [(k : Int)]) := Lib.hid (ints_one (ent_new wr _ _))
          have HBS := Lib.hid (show w2.heap.size ≤ (wr.alloc (.cells #[.int .i64 (k : Int)] 3)).heap.size by have := hbe.size; simp; omega)
          have HLN := Lib.hid (show (upto k).length + [(k : Int)].length ≤ 1000000000 by rw [upto_len]; simp; omega)
          clear hown hbe HI
          go_wp2_with (at_builtin; go_loud (refine wpList_append_ints _ rfl (.tmp 32) (.tmp 34) rfl w2.heap.size _ k (upto k) [(k : Int)] rfl (upto_len k).symm (HOWN.out.alloc _) _ rfl HINO.out HLN.out HBS.out ?_))
          intro v5 w5 hown5 hgr5 hlo5
          have hb5 : Below w2.heap.size w2 w5 := (HBE.out.alloc HBE.out.size _).grown hgr5 (by have := HBE.out.size; simp; omega) (fun kk hkk => (HOWN.out.lt kk hkk).1)
          have hown6 : w5.ownsRow w2.heap.size 3 1 v5 (upto (k + 1)).length (zvs (upto (k + 1))) := by rw [upto_succ, List.length_append]; exact hown5
          have HN : Hid (IntsOwn w2 (upto (k + 1)) v5 w5) := Lib.hid ⟨hown6, hb5⟩
          clear hown5 hown6 hgr5 hlo5 hb5
          go_wp2
          go_roundw
          case rel => exact ⟨k + 1, by go_num, by omega, HN⟩
          case measure => simp [intOf]; omega
        · have hkk : k = ls.length := by omega
          have hi := HI.out
          rw [hkk] at hi
          obtain ⟨hown, hbe⟩ := hi
          rw [upto_len] at hown
          obtain ⟨p5, c5, rfl⟩ := own_form hown
          have HINU := Lib.hid (own_intsI hown); have HBE := Lib.hid hbe
          have HBW := Lib.hid (HB2.out.trans (hbe.mono HB2.out.size))
          clear hown hbe HI hkk
          have hsmu : Gr.sumN ((ls ++ [upto ls.length]).map List.length) ≤ 100000000 := by rw [List.map_append, Gr.sumN_append]; simp only [List.map_cons, List.map_nil, Gr.sumN, upto_len]; omega
          have hsmn : Gr.sumN ((ls ++ [[]]).map List.length) ≤ 100000000 := by rw [List.map_append, Gr.sumN_append]; simp only [List.map_cons, List.map_nil, Gr.sumN, List.length_nil]; omega
          have hlnu : ∀ l : List Int, (ls ++ [l]).length ≤ 100000000 := fun l => by simp; omega
          have HS1 := Lib.hid hsmu; have HS2 := Lib.hid hsmn; have HLL := Lib.hid hlnu
          clear hsmu hsmn hlnu
          go_wp2_with fail
          refine (clone_any _ ls _ (HR.out.below HBW.out) (by omega)).mono ?_
          rintro e w3 ⟨v3, rfl, vs3, hown3, hb3, hval3⟩
          have HO3 := Lib.hid hown3; have HB3 := Lib.hid hb3; have HV3 := Lib.hid hval3
          obtain ⟨p3, c3, rfl⟩ := own_form hown3
          clear hown3 hb3 hval3
          have HZ3 := Lib.hid (show wr.heap.size ≤ (w3.alloc (.cells #[.slice p5 ls.length c5] 30)).heap.size by have := HB3.out.size; simp; omega)
          go_wp2_with (at_builtin; go_loud (refine wpList_append_rows _ rfl (.tmp 39) (.tmp 41) rfl wr.heap.size _ ls.length vs3 rfl (HO3.out.alloc _) (some ⟨w3.heap.size, 0, none⟩) 1 1 rfl [.slice p5 ls.length c5] rfl (.inr ⟨_, 0, rfl, fun j u hh => by rw [Nat.zero_add, ← add0]; exact new_one w3 _ _ j u hh⟩) (by intro u hu; rw [List.mem_singleton.1 hu]; rfl) (by omega) HZ3.out ?_))
          intro v6 w6 hown6 hgr6 hlo6
          have hb6 : Below wr.heap.size wr w6 := (HB3.out.alloc HB3.out.size _).grown hgr6 HZ3.out (fun kk hkk => (HO3.out.lt kk hkk).1)
          have HROW6 := Lib.hid (lone_rows HV3.out HINU.out hb6 hown6); have HB6 := Lib.hid hb6
          obtain ⟨p6, c6, rfl⟩ := own_form hown6
          clear hown6 hgr6 hlo6 hb6 HO3 HB3 HV3 HZ3
          go_wp2_with fail
          refine (Groups_any _ (ls ++ [upto ls.length]) _ HROW6.out (HLL.out _) HS1.out).mono ?_
          intro e w7 hp7
          obtain ⟨q7, d7, rfl, hrow7, hb7⟩ := lone_post HALL.out (fun x hx => by obtain ⟨y, hy, rfl⟩ := List.mem_map.1 hx; have := List.mem_range.1 hy; omega) HGR.out hp7
          have HROW7 := Lib.hid hrow7; have HB7 := Lib.hid (HB6.out.trans (hb7.mono HB6.out.size))
          have HBW7 := Lib.hid (HBW.out.trans (HB7.out.mono HBW.out.size))
          clear hp7 hrow7 hb7 HROW6 HB6
          go_wp2_with fail
          refine (clone_any _ ls _ (HR.out.below HBW7.out) (by omega)).mono ?_
          rintro e w8 ⟨v8, rfl, vs8, hown8, hb8, hval8⟩
          have HO8 := Lib.hid hown8; have HB8 := Lib.hid hb8; have HV8 := Lib.hid hval8
          obtain ⟨p8, c8, rfl⟩ := own_form hown8
          clear hown8 hb8 hval8
          have HZ8 := Lib.hid (show w7.heap.size ≤ (w8.alloc (.cells #[.slice none 0 0] 30)).heap.size by have := HB8.out.size; simp; omega)
          go_wp2_with (at_builtin; go_loud (refine wpList_append_rows _ rfl (.tmp 48) (.tmp 49) rfl w7.heap.size _ ls.length vs8 rfl (HO8.out.alloc _) (some ⟨w8.heap.size, 0, none⟩) 1 1 rfl [.slice none 0 0] rfl (.inr ⟨_, 0, rfl, fun j u hh => by rw [Nat.zero_add, ← add0]; exact new_one w8 _ _ j u hh⟩) (by intro u hu; rw [List.mem_singleton.1 hu]; rfl) (by omega) HZ8.out ?_))
          intro v9 w9 hown9 hgr9 hlo9
          have hb9 : Below w7.heap.size w7 w9 := (HB8.out.alloc HB8.out.size _).grown hgr9 HZ8.out (fun kk hkk => (HO8.out.lt kk hkk).1)
          have HROW9 := Lib.hid (lone_rows (l := []) HV8.out (.inl ⟨rfl, none, 0, rfl⟩) hb9 hown9); have HB9 := Lib.hid hb9
          obtain ⟨p9, c9, rfl⟩ := own_form hown9
          clear hown9 hgr9 hlo9 hb9 HO8 HB8 HV8 HZ8
          go_wp2_with fail
          refine (Groups_any _ (ls ++ [[]]) _ HROW9.out (HLL.out _) HS2.out).mono ?_
          intro e w10 hp10
          obtain ⟨q10, d10, rfl, hrow10, hb10⟩ := lone_post HALL.out (fun x hx => by cases hx) HGR.out hp10
          have HROW10 := Lib.hid hrow10; have HB10 := Lib.hid (HB9.out.trans (hb10.mono HB9.out.size))
          have HBW10 := Lib.hid (HBW7.out.trans (HB10.out.mono HBW7.out.size))
          have HRA := Lib.hid (((HROW.out.below HBE.out).below HB7.out).below HB10.out)
          have HRB := Lib.hid (HROW7.out.below HB10.out)
          clear hp10 hrow10 hb10 HROW9 HB9 HROW HROW7 HS1 HS2 HLL HBE HB7 HBW HBW7 HB1 HB2 HINU HALL HL
          have HLT : Hid (∀ l ∈ L ++ [[ls.length]], l.length ≤ 1000000000) := Lib.hid (fun l hl => by
            rcases List.mem_append.1 hl with hl | hl
            · obtain ⟨pp, hpp⟩ := List.mem_iff_getElem?.1 hl
              obtain ⟨i, _, rfl⟩ := HGR.out.1 pp l hpp
              have := Gr.nodup_le (natG ls).length _ (Gr.grp_nodup (natG ls) i) (fun x hx => (Gr.mem_grp.1 hx).1)
              rw [natG_len] at this
              omega
            · rw [List.mem_singleton.1 hl]; simp)
          -- MARK
          go_wp2_with fail
          have HE0 : Hid (Below w10.heap.size w10 w10) := Lib.hid (Below.refl _ _)
          go_loopw [78] (fun i wx => ∃ k : Nat, i = .int .i64 k ∧ k ≤ L.length ∧ Hid (Below w10.heap.size w10 wx)) (fun i _ => L.length - (intOf i).toNat)
          case atStart => exact ⟨0, rfl, Nat.zero_le _, HE0⟩
          case round =>
            clear HE0
            obtain ⟨j, rfl, hj, HE⟩ := hrel
            by_cases hjl : j < L.length
            · obtain ⟨l, hl⟩ : ∃ l, L[j]? = some l := ⟨_, List.getElem?_eq_getElem hjl⟩
              have hlb : (L ++ [[ls.length]])[j]? = some l := by rw [List.getElem?_append_left hjl]; exact hl
              obtain ⟨ba, oa, qa, da, ea, hca, hza, hda, fa, ia⟩ := HRA.out.at (ints_at hl)
              obtain ⟨bb, ob, qb, db, eb, hcb, hzb, hdb, fb, ib⟩ := HRB.out.at (ints_at hlb)
              obtain ⟨bc, oc, qc, dc, ec, hcc, hzc, hdc, fc, ic⟩ := HROW10.out.at (ints_at hlb)
              subst ea; subst eb; subst ec
              rw [nums_len] at fa fb fc ia ib ic
              have IA := Lib.hid ia; have IB := Lib.hid ib; have IC := Lib.hid ic
              have hll : (nums l).length ≤ 1000000000 := by rw [nums_len]; exact HLT.out l (List.mem_of_getElem? hlb)
              have HLZ := Lib.hid hll
              have hji : (j : Int) < L.length + 1 := by omega
              have hji2 : (j : Int) < L.length := by omega
              have hjn : j < L.length + 1 := by omega
              replace fa := cell_up HE.out fa; replace fb := cell_up HE.out fb; replace fc := cell_up HE.out fc
              clear ia ib ic hl hlb hza hzb hzc hll
              go_wp2_with fail
              refine wp_region_held_drew (S := (fun w' => w'.cell? ⟨ba, oa + j, none⟩ = some (.slice qa l.length da) ∧ w'.cell? ⟨bb, ob + j, none⟩ = some (.slice qb l.length db) ∧ w'.cell? ⟨bc, oc + j, none⟩ = some (.slice qc l.length dc) ∧ Hid (Below w10.heap.size w10 w'))) (by kernel_rfl) (⟨fa, fb, fc, Lib.hid (below_drew HE.out)⟩) (fun hHeld => ?_)
              clear fa fb fc
              refine wpAnyH_take (i := 0) (v := .slice (some ⟨ba, oa, none⟩) L.length c1) rfl (by kernel_rfl) (by kernel_rfl) (by kernel_rfl) (fun _ _ _ h => h) (Or.inl ⟨by rfl, fun w' hSw => by go_simp⟩) hHeld ?_
              refine wpAnyH_take (i := 1) (v := .int .i64 j) rfl (by kernel_rfl) (by kernel_rfl) (by kernel_rfl) (fun _ _ _ h => h) (Or.inl ⟨by rfl, fun w' hSw => by go_simp⟩) hHeld ?_
              refine wpAnyH_take (i := 2) (v := .pointer (some ⟨ba, oa + j, none⟩)) rfl (by kernel_rfl) (by kernel_rfl) (by kernel_rfl) (fun _ _ _ h => h) (Or.inl ⟨by rfl, fun w' hSw => by go_simp⟩) hHeld ?_
              refine wpAnyH_take (i := 3) (v := .slice qa l.length da) rfl (by kernel_rfl) (by kernel_rfl) (by kernel_rfl) (fun _ _ _ h => h) (Or.inl ⟨by rfl, fun w' hSw => by have h1 := hSw.1; go_simp⟩) hHeld ?_
              refine wpAnyH_take (i := 4) (v := .slice (some ⟨bb, ob, none⟩) (L.length + 1) d7) rfl (by kernel_rfl) (by kernel_rfl) (by kernel_rfl) (fun _ _ _ h => h) (Or.inl ⟨by rfl, fun w' hSw => by go_simp⟩) hHeld ?_
              refine wpAnyH_take (i := 5) (v := .int .i64 j) rfl (by kernel_rfl) (by kernel_rfl) (by kernel_rfl) (fun _ _ _ h => h) (Or.inl ⟨by rfl, fun w' hSw => by go_simp⟩) hHeld ?_
              refine wpAnyH_take (i := 6) (v := .pointer (some ⟨bb, ob + j, none⟩)) rfl (by kernel_rfl) (by kernel_rfl) (by kernel_rfl) (fun _ _ _ h => h) (Or.inl ⟨by rfl, fun w' hSw => by go_simp⟩) hHeld ?_
              refine wpAnyH_take (i := 7) (v := .slice qb l.length db) rfl (by kernel_rfl) (by kernel_rfl) (by kernel_rfl) (fun _ _ _ h => h) (Or.inl ⟨by rfl, fun w' hSw => by have h1 := hSw.2.1; go_simp⟩) hHeld ?_
              simp only [Act.put, List.setIfInBounds_toArray, List.set_cons_zero, List.set_cons_succ]
              refine wpAnyH_ready (rs := [8]) (by kernel_rfl) (by simp) ?_
              refine AllReadyH.cons rfl (fun K hK => ?_) AllReadyH.nil
              go_simp
              refine (equal_any _ _ (nums l) (nums l) _ (IA.out.below hHeld.2.2.2.out) (IB.out.below hHeld.2.2.2.out) HLZ.out HLZ.out).mono ?_
              rintro e wn ⟨rfl, hq⟩
              rw [show decide (nums l = nums l) = true by simp]
              refine hK.out _ _ (held_more hHeld hq) (fun hHeld => ?_); clear hK K hq
              refine wpAnyH_ready (rs := [9]) (by kernel_rfl) (by simp) ?_
              refine AllReadyH.cons rfl (fun K hK => ?_) AllReadyH.nil
              go_simp
              refine hK.out _ _ hHeld (fun hHeld => ?_); clear hK K
              refine wpAnyH_ready (rs := [10]) (by kernel_rfl) (by simp) ?_
              refine AllReadyH.cons rfl (fun K hK => ?_) AllReadyH.nil
              go_simp
              refine hK.out _ _ hHeld (fun hHeld => ?_); clear hK K
              refine wpAnyH_take (i := 11) (v := .slice (some ⟨ba, oa, none⟩) L.length c1) rfl (by kernel_rfl) (by kernel_rfl) (by kernel_rfl) (fun _ _ _ h => h) (Or.inl ⟨by go_simp, fun w' hSw => by go_simp⟩) hHeld ?_
              simp only [Act.put, List.setIfInBounds_toArray, List.set_cons_zero, List.set_cons_succ]
              refine wpAnyH_take (i := 12) (v := .int .i64 j) rfl (by kernel_rfl) (by kernel_rfl) (by kernel_rfl) (fun _ _ _ h => h) (Or.inl ⟨by go_simp, fun w' hSw => by go_simp⟩) hHeld ?_
              simp only [Act.put, List.setIfInBounds_toArray, List.set_cons_zero, List.set_cons_succ]
              refine wpAnyH_take (i := 13) (v := .pointer (some ⟨ba, oa + j, none⟩)) rfl (by kernel_rfl) (by kernel_rfl) (by kernel_rfl) (fun _ _ _ h => h) (Or.inl ⟨by go_simp, fun w' hSw => by go_simp⟩) hHeld ?_
              simp only [Act.put, List.setIfInBounds_toArray, List.set_cons_zero, List.set_cons_succ]
              refine wpAnyH_take (i := 14) (v := .slice qa l.length da) rfl (by kernel_rfl) (by kernel_rfl) (by kernel_rfl) (fun _ _ _ h => h) (Or.inl ⟨by go_simp, fun w' hSw => by have h1 := hSw.1; go_simp⟩) hHeld ?_
              simp only [Act.put, List.setIfInBounds_toArray, List.set_cons_zero, List.set_cons_succ]
              refine wpAnyH_take (i := 15) (v := .slice (some ⟨bc, oc, none⟩) (L.length + 1) d10) rfl (by kernel_rfl) (by kernel_rfl) (by kernel_rfl) (fun _ _ _ h => h) (Or.inl ⟨by go_simp, fun w' hSw => by go_simp⟩) hHeld ?_
              simp only [Act.put, List.setIfInBounds_toArray, List.set_cons_zero, List.set_cons_succ]
              refine wpAnyH_take (i := 16) (v := .int .i64 j) rfl (by kernel_rfl) (by kernel_rfl) (by kernel_rfl) (fun _ _ _ h => h) (Or.inl ⟨by go_simp, fun w' hSw => by go_simp⟩) hHeld ?_
              simp only [Act.put, List.setIfInBounds_toArray, List.set_cons_zero, List.set_cons_succ]
              refine wpAnyH_take (i := 17) (v := .pointer (some ⟨bc, oc + j, none⟩)) rfl (by kernel_rfl) (by kernel_rfl) (by kernel_rfl) (fun _ _ _ h => h) (Or.inl ⟨by go_simp, fun w' hSw => by go_simp⟩) hHeld ?_
              simp only [Act.put, List.setIfInBounds_toArray, List.set_cons_zero, List.set_cons_succ]
              refine wpAnyH_take (i := 18) (v := .slice qc l.length dc) rfl (by kernel_rfl) (by kernel_rfl) (by kernel_rfl) (fun _ _ _ h => h) (Or.inl ⟨by go_simp, fun w' hSw => by have h1 := hSw.2.2.1; go_simp⟩) hHeld ?_
              simp only [Act.put, List.setIfInBounds_toArray, List.set_cons_zero, List.set_cons_succ]
              refine wpAnyH_ready (rs := [19]) (by kernel_rfl) (by simp) ?_
              refine AllReadyH.cons rfl (fun K hK => ?_) AllReadyH.nil
              go_simp
              refine (equal_any _ _ (nums l) (nums l) _ (IA.out.below hHeld.2.2.2.out) (IC.out.below hHeld.2.2.2.out) HLZ.out HLZ.out).mono ?_
              rintro e wn ⟨rfl, hq⟩
              rw [show decide (nums l = nums l) = true by simp]
              refine hK.out _ _ (held_more hHeld hq) (fun hHeld => ?_); clear hK K hq
              refine wpAnyH_ready (rs := [20]) (by kernel_rfl) (by simp) ?_
              refine AllReadyH.cons rfl (fun K hK => ?_) AllReadyH.nil
              go_simp
              refine hK.out _ _ hHeld (fun hHeld => ?_); clear hK K
              refine wpAnyH_ready (rs := [21]) (by kernel_rfl) (by simp) ?_
              refine AllReadyH.cons rfl (fun K hK => ?_) AllReadyH.nil
              go_simp
              refine hK.out _ _ hHeld (fun hHeld => ?_); clear hK K
              refine wpAnyH_done (by kernel_rfl) ?_ _
              have HN := hHeld.2.2.2
              clear hHeld
              go_simp
              go_wp2
              go_roundw
              case rel => exact ⟨j + 1, by go_num, by omega, HN⟩
              case measure => simp [intOf]; omega
            · have hjj : j = L.length := by omega
              have hlb : (L ++ [[ls.length]])[L.length]? = some [ls.length] := by simp
              obtain ⟨bb, ob, qb, db, eb, hcb, hzb, hdb, fb, ib⟩ := HRB.out.at (ints_at hlb)
              obtain ⟨bc, oc, qc, dc, ec, hcc, hzc, hdc, fc, ic⟩ := HROW10.out.at (ints_at hlb)
              subst eb; subst ec
              have hn1 : (nums [ls.length]).length = 1 := rfl
              rw [hn1] at fb fc ib ic
              have IB := Lib.hid ib; have IC := Lib.hid ic
              have HLZ : Hid ((nums [ls.length]).length ≤ 1000000000) := Lib.hid (by rw [hn1]; omega)
              have hji : (L.length : Int) < L.length + 1 := by omega
              have hjn : L.length < L.length + 1 := by omega
              replace fb := cell_up HE.out fb; replace fc := cell_up HE.out fc
              clear ib ic hlb hzb hzc hn1 hjj
              go_wp2_with fail
              have HCC := Lib.hid fc
              clear fb fc
              refine (equal_any _ _ (nums [ls.length]) (nums [ls.length]) _ (IB.out.below (HE.out.alloc HE.out.size _)) (ints_one (ent_new _ _ _)) HLZ.out HLZ.out).mono ?_
              rintro e w11 ⟨rfl, hq⟩
              have HB11 : Hid (Below wr.heap.size wr w11) := Lib.hid (by obtain ⟨nq, rfl⟩ := hq; exact below_drewN ((Below.refl _ _).alloc (Nat.le_refl _) _) _)
              rw [show decide (nums [ls.length] = nums [ls.length]) = true by simp]
              have fc2 := cell_up HB11.out HCC.out
              clear hq
              go_wp2_with fail
              refine (equal_any _ _ (nums [ls.length]) (nums [ls.length]) _ (IC.out.below ((HE.out.trans (HB11.out.mono HE.out.size)).alloc (by have := HE.out.size; have := HB11.out.size; omega) _)) (ints_one (ent_new _ _ _)) HLZ.out HLZ.out).mono ?_
              rintro e w12 ⟨rfl, hq⟩
              have HB12 : Hid (Below w11.heap.size w11 w12) := Lib.hid (by obtain ⟨nq, rfl⟩ := hq; exact below_drewN ((Below.refl _ _).alloc (Nat.le_refl _) _) _)
              rw [show decide (nums [ls.length] = nums [ls.length]) = true by simp]
              clear hq fc2
              go_wp2_with fail
              go_ret
              exact ⟨rfl, ((HBW10.out.trans (HE.out.mono HBW10.out.size)).trans (HB11.out.mono (by have := HBW10.out.size; have := HE.out.size; omega))).trans (HB12.out.mono (by have := HBW10.out.size; have := HE.out.size; have := HB11.out.size; omega))⟩
end Go.Proofs.Ytjefnmcalmcciaa
