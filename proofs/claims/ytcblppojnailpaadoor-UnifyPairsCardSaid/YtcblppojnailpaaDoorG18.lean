/-
  Several texts in one: UPairsW, ULaid, UNodes.
-/
import Derived.Test.YtcblppojnailpaaDoorG14
import Derived.Test.YtcblppojnailpaaDoorG15
import Derived.Test.YtcblppojnailpaaDoorG16
import Derived.Test.YtcblppojnailpaaDoorG17
import Derived.Test.YtcblppojnailpaaDoorCards
import Derived.Test.YtcblppojnailpaaDoorTie
import Derived.WalkKit
import Derived.ProofKit
import Derived.OpenShut
import Derived.ShutString
import Derived.ChangeOld
import Derived.Deep.DeepHandedRow
import Derived.Deep.DeepWitnessRowRef
import Derived.Lib.LaidTab
import Derived.Lib.AppendIntMem
import Derived.Stop.LaidErr
import Derived.Test.YtcblppojnailpaaDoorG13
import Derived.Deep.Slices
import Derived.Deep.Fields
import Derived.ChangeMaps5
import Derived.HandedShaped
import Derived.SizedLaws
namespace Go.Proofs.YtcblppojnailpaaDoor
open Go Go.RowKit
set_option linter.unusedVariables false
set_option linter.unusedSimpArgs false
def varV (j : Nat) : Value := .agg #[.int .i64 j, .string ⟨#[]⟩, .slice none 0 0]
def varsV (k : Nat) : List Value := (List.range k).map varV
theorem varsV_succ (k : Nat) : varsV (k + 1) = varsV k ++ [varV k] := by unfold varsV; rw [List.range_succ, List.map_append]; rfl
theorem varsV_size (k : Nat) : ∀ v ∈ varsV k, v.cells.size = 3 := fun v hv => by obtain ⟨j, _, rfl⟩ := List.mem_map.1 hv; rfl
theorem reps_vars {base : Nat} {w : World} {ob : Option Nat} (hb : base ≤ w.heap.size) (ho : ∀ g, ob = some g → g < w.heap.size) : ∀ k, Reps (Kept TyP base w ob) (varsV k) ((List.range k).map Ux.Ty.v)
 | 0 => trivial
 | k + 1 => by
   rw [varsV_succ, List.range_succ, List.map_append]
   exact Reps.snoc ⟨w.heap.size, w.heap.size, hb, Nat.le_refl _, fun g hg => .inl (ho g hg), fun u _ => tyP_v.2 ⟨_, _, _, _, rfl⟩⟩ (reps_vars hb ho k)
theorem pairs_chg {w w' : World} {sb : Nat} (hm : ∃ es k, w.heap[sb]? = some (.map es k)) (hc : Chg (· = sb) w w') {v : Value} {L : Ux.Pairs} (h : RowAt 4 (PairP w) w v L) : RowAt 4 (PairP w') w' v L := by
 rcases h with h | ⟨g, o, c, h1, h2, h3, h4⟩
 · exact .inl h
 · refine .inr ⟨g, o, c, h1, h2, h3, fun i x hx => ?_⟩
   obtain ⟨u, a, b, d⟩ := h4 i x hx
   obtain ⟨k, s, q, m, c2, rfl, ht⟩ := a
   have d0 := d 0 _ rfl
   have hg : g ≠ sb ∧ g < w.heap.size := by
    have e := d0
    unfold World.cell? at e
    refine ⟨fun e2 => ?_, ?_⟩
    · obtain ⟨es, kk, hm⟩ := hm
      subst e2
      simp [hm] at e
    · rcases Nat.lt_or_ge g w.heap.size with hl | hl
      · exact hl
      · simp [Array.getElem?_eq_none hl] at e
   refine ⟨_, ⟨k, s, q, m, c2, rfl, tyP_chg hm hc ht⟩, b, fun j z hz => ?_⟩
   rw [World.cell?_of_block (w := w) (hc.block g hg.2 hg.1)]
   exact d j z hz
theorem RUPost.yes {L' : Ux.Pairs} {w : World} {e : Ending} {w' : World} (h : RUPost (some L') w e w') : ∃ lv', e = .returned (.tuple #[lv', .bool true]) ∧ Below w.heap.size w w' ∧ RowAt 4 (PairP w') w' lv' L' := by
 obtain ⟨lv', h1, h2, h3⟩ := h
 exact ⟨lv', h1, h2, h3 L' rfl⟩
theorem RUPost.no {w : World} {e : Ending} {w' : World} (h : RUPost none w e w') : ∃ lv', e = .returned (.tuple #[lv', .bool false]) ∧ Below w.heap.size w w' := by
 obtain ⟨lv', h1, h2, h3⟩ := h
 exact ⟨lv', h1, h2⟩
theorem subC_none {w w' : World} {b : Nat} (h : SubC 0 w b (fun _ => none)) (hb : w'.heap[b]? = w.heap[b]?) : SubC 0 w' b (fun _ => none) := by
 obtain ⟨U, h1, h2, h3⟩ := h
 exact ⟨[], (sub_none h1).keep hb (fun x hx => by cases hx), Nat.le_refl _, fun x hx => by cases hx⟩
set_option maxHeartbeats 4000000 in
set_option maxRecDepth 100000 in
theorem unifyPairs_walk (v : Value) (ll : List (List Ux.Nod)) (w : World) (hl : RowsR w v ll) (htab : Lib.TabIs Tryd.prog w "internal/strconv.uint64pow10" .u64 Lib.pow10Tab) :
 Calls Tryd.prog 3 #[v] w (fun e w' => e = .returned (.bool true) ∧ Below w.heap.size w w') := by
 have HTB := Lib.hid (fun (w' : World) (hb : Below w.heap.size w w') => (Lib.tabBelow_of_tabIs htab) w' hb)
 have HLV := Lib.hid (fun (w' : World) (hb : Below w.heap.size w w') => lives_any w' ((Lib.tabBelow_of_tabIs htab) w' hb))
 have HRU := Lib.hid (refUnify_any Ux.sOk19)
 clear htab
 obtain ⟨lq, lc, rfl⟩ := (show RowAt 1 (fun z l => RowAt 3 NodV w z l) w v ll from hl).len
 have HR := Lib.hid (fun (w' : World) (hb : Below w.heap.size w w') => (show RowsR w' (.slice lq ll.length lc) ll from RowsR.below hl hb))
 clear hl
 obtain ⟨n0, hn0⟩ : ∃ n0, n0 = ll.length := ⟨_, rfl⟩
 rw [← hn0] at HR ⊢
 have HN0 := Lib.hid hn0
 clear hn0
 go_enter Tryd.func3, Tryd.ntmps3
 go_wp2_with fail
 refine (HLV.out w (Below.refl _ _)).mono ?_
 rintro e w1 ⟨rfl, hb1⟩
 have HB1 := Lib.hid hb1
 clear hb1
 go_wp2_with fail
 refine (fits_any ll _ w1 (HR.out w1 HB1.out)).mono ?_
 rintro e w2 ⟨rfl, hb2⟩
 have HB2 := Lib.hid (HB1.out.trans (hb2.mono HB1.out.size))
 clear hb2 HB1
 cases hfit : fitB ll with
 | false =>
   go_wp2_with fail
   refine (HLV.out w2 HB2.out).mono ?_
   rintro e w3 ⟨rfl, hb3⟩
   have HB3 := Lib.hid (HB2.out.trans (hb3.mono HB2.out.size))
   clear hb3
   go_wp2_with fail
   go_ret
   exact ⟨rfl, HB3.out⟩
 | true =>
 have HF := Lib.hid (show n0 ≤ 12 ∧ ∀ (i : Nat) (l : List Ux.Nod), ll[i]? = some l → l.length ≤ 9 by
  unfold fitB at hfit
  rw [Bool.and_eq_true, List.all_eq_true] at hfit
  refine ⟨by have := HN0.out; have := hfit.2; simp at this; omega, fun i l h => ?_⟩
  have := hfit.1 l (List.mem_of_getElem? h)
  simpa using this)
 clear hfit
 have hmm := @run_makeMap Tryd.prog
 go_upto_region 7 with fail
 clear hmm
 have hba : Below w2.heap.size w2 ((w2.alloc (.map #[] 0)).alloc (.cells #[.int .i64 (-1), .string ⟨#[97, 108, 108]⟩, .slice none 0 0] 30)) := ((Below.refl _ _).alloc (Nat.le_refl _) _).alloc (by simp) _
 have ET := Lib.hid (ent_new (w2.alloc (.map #[] 0)) #[.int .i64 (-1), .string ⟨#[97, 108, 108]⟩, .slice none 0 0] 30)
 rw [show (w2.alloc (.map #[] 0)).heap.size = w2.heap.size + 1 by simp] at ET
 have HS0 : Hid (SubC 0 ((w2.alloc (.map #[] 0)).alloc (.cells #[.int .i64 (-1), .string ⟨#[97, 108, 108]⟩, .slice none 0 0] 30)) w2.heap.size (fun _ => none)) := Lib.hid ((SubC.new w2).below ((Below.refl _ _).alloc (Nat.le_refl _) _))
 have HB := Lib.hid (HB2.out.trans (hba.mono HB2.out.size))
 have HLO := Lib.hid (show w.heap.size ≤ w2.heap.size ∧ w2.heap.size < w2.heap.size + 1 from ⟨HB2.out.size, by omega⟩)
 clear hba HB2
 obtain ⟨tb, htb⟩ : ∃ b, b = w2.heap.size + 1 := ⟨_, rfl⟩
 rw [← htb] at ET HLO ⊢
 clear htb
 obtain ⟨sb, hsb⟩ : ∃ b, b = w2.heap.size := ⟨_, rfl⟩
 rw [← hsb] at HS0 HLO ⊢
 clear hsb
 generalize ((w2.alloc (.map #[] 0)).alloc (.cells #[.int .i64 (-1), .string ⟨#[97, 108, 108]⟩, .slice none 0 0] 30)) = wf at ET HS0 HB ⊢
 obtain ⟨i0, hi, hz0, hz1, hz2⟩ := infoParts infoTy
 have I := Lib.hid hi; have I0 := Lib.hid hz0; have I1 := Lib.hid hz1; have I2 := Lib.hid hz2
 clear hi hz0 hz1 hz2
 go_wp2_with fail
 go_loopw [6] (fun i wr => ∃ (k : Nat) (p : Option Addr) (d : Nat), i = .int .i64 k ∧ k ≤ 6 ∧ Hid (wr.heap[tb]? = some (.cells #[.int .i64 (-1), .string ⟨#[97, 108, 108]⟩, .slice p k d] 30 (0, 0))) ∧ Hid (wr.ownsRow (tb + 1) 30 3 (.slice p k d) k (cellsOf (varsV k))) ∧ Hid (Below tb wf wr)) (fun i _ => 6 - (intOf i).toNat)
 case atStart => exact ⟨0, none, 0, rfl, Nat.zero_le _, ET, Lib.hid (own_none _ _ _ _ (by have := ent_lt ET.out; omega)), Lib.hid (Below.refl _ _)⟩
 case round =>
  obtain ⟨k, p, d, rfl, hk, EY, HO, HBR⟩ := hrel
  by_cases hlt : k < 6
  · have hk1 : (k : Int) < 6 := by omega
    have y2 := ent_cell EY.out 2 (.slice p k d) rfl
    have hty := ent_lt EY.out
    go_wp2_with (at_builtin; refine wpList_append_loc _ rfl (.tmp 32) (.tmp 35) 28 rfl (tb + 1) 30 i0 _ 3 48 Tryd.underlying28 I.out I0.out I1.out I2.out rfl (by decide) _ k _ rfl (HO.out.alloc _) ⟨wr.heap.size, 0, none⟩ 1 1 [.int .i64 k, .string ⟨#[]⟩, .slice none 0 0] rfl (by decide) rfl ?c1 ?c2 ?c3 ?c4 ?c5 ?_)
    case c1 => exact fun j u h => three_cells wr _ _ _ _ j u h
    case c2 => simp [Value.oneCell']
    case c3 => unfold maxLen; omega
    case c4 => omega
    case c5 => simp; omega
    intro v' w' h1 h2 h3
    have hby : Below wr.heap.size wr (wr.alloc (.cells #[.int .i64 k, .string ⟨#[]⟩, .slice none 0 0] 30)) := (Below.refl _ _).alloc (Nat.le_refl _) _
    have hbw : Below tb wf w' := (HBR.out.trans (hby.mono (Nat.le_of_lt hty))).grown h2 (by have := HBR.out.size; simp; omega) (fun j hj => by have := (HO.out.lt j hj).1; omega)
    have hey : w'.heap[tb]? = some (.cells #[.int .i64 (-1), .string ⟨#[97, 108, 108]⟩, .slice p k d] 30 (0, 0)) :=
     (h2.block tb (by simp; omega) (fun e => by have := (HO.out.lt _ e.symm).1; omega)).trans (ent_below EY.out hby)
    obtain ⟨p7, d7, rfl⟩ := own_slice h1
    have hne : (Value.slice p7 (k + 1) d7).ownBlock ≠ some tb := fun e => by have := (h1.lt _ e).1; omega
    have HEY := Lib.hid (show (w'.setCell ⟨tb, 2, none⟩ (.slice p7 (k + 1) d7)).heap[tb]? = some (.cells #[.int .i64 (-1), .string ⟨#[97, 108, 108]⟩, .slice p7 (k + 1) d7] 30 (0, 0)) from ent_put3 _ hey 2 _ rfl)
    have HO2 : Hid ((w'.setCell ⟨tb, 2, none⟩ (.slice p7 (k + 1) d7)).ownsRow (tb + 1) 30 3 (.slice p7 (k + 1) d7) (k + 1) (cellsOf (varsV (k + 1)))) := Lib.hid (by
     rw [varsV_succ, varV, cells_three]
     exact own_same h1 fun b hb => Below.heap_setCell w' ⟨tb, 2, none⟩ (.slice p7 (k + 1) d7) b (fun e => hne (by rw [hb, e])))
    have HBn := Lib.hid (hbw.setCell (p := ⟨tb, 2, none⟩) (by dsimp only; omega) (.slice p7 (k + 1) d7))
    have y2b := ent_cell hey 2 (.slice p k d) rfl
    have yfb := ent_free hey 2
    clear h1 h2 h3 hbw hey hne y2 hby EY HO HBR
    go_wp2_with fail
    clear y2b yfb
    exact ⟨⟨k + 1, p7, d7, by go_num, by omega, HEY, HO2, HBn⟩, by simp [intOf]; omega⟩
  · obtain rfl : k = 6 := by omega
    have hrow : TyP wr (.agg #[.int .i64 (-1), .string ⟨#[97, 108, 108]⟩, .slice p 6 d]) Ux.allT :=
     tyP_a.2 ⟨-1, _, by decide, rfl, row_lo HO.out (by simp) (reps_vars (by have := ent_lt EY.out; omega) (fun g hg => (HO.out.lt g hg).2) 6) (varsV_size 6) wr (fun _ _ _ => rfl), own_free HO.out fun _ _ => rfl⟩
    have HA_0 := Lib.hid hrow
    have S_0 := Lib.hid (subC_none HS0.out (HBR.out.block sb HLO.out.2))
    have HB_0 := Lib.hid (HB.out.trans (HBR.out.mono (by have := HLO.out; omega)))
    have M_0 : Hid (RowAt 4 (PairP wr) wr (.slice none 0 0) []) := Lib.hid (.inl ⟨rfl, none, 0, rfl⟩)
    have E5_0 := EY
    clear hrow EY HO HBR HS0 HB ET hk hlt I I0 I1 I2
    obtain ⟨p5, hp5⟩ : ∃ x, x = p := ⟨_, rfl⟩
    obtain ⟨c5, hc5⟩ : ∃ x, x = d := ⟨_, rfl⟩
    rw [← hp5, ← hc5] at E5_0 HA_0
    clear hp5 hc5
    go_wp2_with fail
    rw [show ((6 : Nat) : Int) = 6 from rfl]
    generalize wr = wz at HA_0 S_0 HB_0 M_0 E5_0 ⊢
    go_loopw [4, 7] (fun m i wr => ∃ (a q : Nat) (E : List (Ux.Ty × Ux.Ty)) (f : Ux.Map) (L : Ux.Pairs), i = .int .i64 a ∧ a ≤ 12 ∧ Hid (a = 2 * q) ∧ Hid (Ux.PSt E f L) ∧ Hid (SubC (76 * q) wr sb f) ∧ Hid (RowAt 4 (PairP wr) wr m L) ∧ Hid (wr.heap[tb]? = some (.cells #[.int .i64 (-1), .string ⟨#[97, 108, 108]⟩, .slice p5 6 c5] 30 (0, 0))) ∧ Hid (TyP wr (.agg #[.int .i64 (-1), .string ⟨#[97, 108, 108]⟩, .slice p5 6 c5]) Ux.allT) ∧ Hid (Below w.heap.size w wr)) (fun _ i _ => 14 - (intOf i).toNat)
    case atStart => exact ⟨0, 0, [], fun _ => none, [], rfl, by omega, Lib.hid rfl, Lib.hid Ux.PSt.nil, S_0, M_0, E5_0, HA_0, HB_0⟩
    case round =>
     clear HA_0 S_0 HB_0 M_0 E5_0
     obtain ⟨a, q, E, f, L, rfl, ha, HQ, HPS0, S_wr, M_wr, E5_wr, HA_wr, HB_wr⟩ := hrel
     by_cases hlt : a + 1 < n0
     rotate_left
     · have d1 : decide ((a : Int) + 1 < (n0 : Int)) = false := by simp; omega
       go_wp2_with fail
       go_ret
       exact ⟨rfl, HB_wr.out⟩
     have d1 : decide ((a : Int) + 1 < (n0 : Int)) = true := by simp; omega
     obtain ⟨lx, hlx⟩ : ∃ x, ll[a]? = some x := ⟨_, List.getElem?_eq_getElem (by have := HN0.out; omega)⟩
     obtain ⟨ly, hly⟩ : ∃ x, ll[a + 1]? = some x := ⟨_, List.getElem?_eq_getElem (by have := HN0.out; omega)⟩
     rcases (show RowAt 1 (fun z l => RowAt 3 NodV w z l) w (.slice lq n0 lc) ll from HR.out w (Below.refl _ _)) with ⟨h0, _⟩ | ⟨g, of, c', hv, g1, g2, g3⟩
     · rw [h0] at hlx; simp at hlx
     injection hv with hq1 hqq hq2
     clear hqq
     subst hq1; subst hq2
     obtain ⟨zx, hzx, _, hcx⟩ := g3 a lx hlx
     obtain ⟨zy, hzy, _, hcy⟩ := g3 (a + 1) ly hly
     obtain ⟨qx, cx, rfl⟩ := hzx.len
     obtain ⟨qy, cy, rfl⟩ := hzy.len
     have hcx0 := hcx 0 (.slice qx lx.length cx) rfl
     have hcy0 := hcy 0 (.slice qy ly.length cy) rfl
     have HLX := Lib.hid (show w.cell? ⟨g, of + a, none⟩ = some (.slice qx lx.length cx) ∧ RowAt 3 NodV w (.slice qx lx.length cx) lx from ⟨by simpa using hcx0, hzx⟩)
     have HLY := Lib.hid (show w.cell? ⟨g, of + (a + 1), none⟩ = some (.slice qy ly.length cy) ∧ RowAt 3 NodV w (.slice qy ly.length cy) ly from ⟨by simpa using hcy0, hzy⟩)
     have HMX := Lib.hid (show lx.length ≤ 9 from HF.out.2 a lx hlx)
     have HMY := Lib.hid (show ly.length ≤ 9 from HF.out.2 (a + 1) ly hly)
     have hk2 : (n0 : Int) ≤ (lc : Int) := by have := HN0.out; omega
     have hk1 : (a : Int) < (n0 : Int) := by omega
     have hk3 : (a : Int) + 1 < (n0 : Int) := by omega
     have hcap := g2
     clear g1 g2 g3 hcx hcy hzx hzy hcx0 hcy0 hlx hly
     obtain ⟨nx, hnx⟩ : ∃ n, n = lx.length := ⟨_, rfl⟩
     obtain ⟨ny, hny⟩ : ∃ n, n = ly.length := ⟨_, rfl⟩
     rw [← hnx] at HLX
     rw [← hny] at HLY
     clear hnx hny
     have xcx := cell_up HB_wr.out HLX.out.1
     go_wp2_with fail
     clear xcx
     refine (typ13 lx _ wr (HLX.out.2.mono HB_wr.out fun u x _ h => h) (by have := HMX.out; omega)).mono ?_
     rintro e w3 ⟨tv, rfl, hnew, hb⟩
     have HTYX := Lib.hid (Ux.typN_vs 13 lx)
     have HOKX := Lib.hid (typN_ok 13 (l := lx) (by have := HMX.out; omega))
     have HSX := Lib.hid (show (Ux.typN 13 lx).1.sz ≤ 19 by have h1 := Ux.typN_sz 13 lx; have h2 := Ux.typN_le 13 lx; have := HMX.out; omega)
     obtain ⟨x, hx⟩ : ∃ t, t = (Ux.typN 13 lx).1 := ⟨_, rfl⟩
     rw [← hx] at hnew HTYX HOKX HSX
     have HSMX := Lib.hid (show Ux.Small 19 6 x from ⟨HOKX.out.plain, HSX.out, HTYX.out⟩)
     obtain ⟨i8, s8, q8, m8, c8, rfl⟩ := tyP_sh hnew.now
     have hty := hnew.now
     have HOX := HOKX
     clear hx hnew HTYX HOKX HSX
     have S_w3 := Lib.hid (S_wr.out.below hb)
     have M_w3 := Lib.hid (pairs_below M_wr.out hb)
     have E5_w3 := Lib.hid (ent_below E5_wr.out hb)
     have HA_w3 := Lib.hid (tyP_below HA_wr.out hb)
     have HB_w3 := Lib.hid (HB_wr.out.trans (hb.mono HB_wr.out.size))
     clear hb HB_wr S_wr M_wr E5_wr HA_wr
     have xcy := cell_up (HB_w3.out.alloc HB_w3.out.size (.cells #[.int .i64 i8, .string s8, .slice q8 m8 c8] 30)) HLY.out.1
     go_wp2_with fail
     clear xcy
     have hb : Below w3.heap.size w3 (w3.alloc (.cells #[.int .i64 i8, .string s8, .slice q8 m8 c8] 30)) := ((Below.refl _ _).alloc (Nat.le_refl _) _)
     have E8_w4 : Hid ((w3.alloc (.cells #[.int .i64 i8, .string s8, .slice q8 m8 c8] 30)).heap[w3.heap.size]? = some (.cells #[.int .i64 i8, .string s8, .slice q8 m8 c8] 30 (0, 0))) := Lib.hid (ent_new w3 #[.int .i64 i8, .string s8, .slice q8 m8 c8] 30)
     have HX_w4 := Lib.hid (tyP_below hty hb)
     have S_w4 := Lib.hid (S_w3.out.below hb)
     have M_w4 := Lib.hid (pairs_below M_w3.out hb)
     have E5_w4 := Lib.hid (ent_below E5_w3.out hb)
     have HA_w4 := Lib.hid (tyP_below HA_w3.out hb)
     have HB_w4 := Lib.hid (HB_w3.out.trans (hb.mono HB_w3.out.size))
     clear hb HB_w3 S_w3 M_w3 E5_w3 HA_w3
     obtain ⟨P8, hP8⟩ : ∃ P, P = w3.heap.size := ⟨_, rfl⟩
     rw [← hP8] at E8_w4 ⊢
     clear hty hP8
     generalize (w3.alloc (.cells #[.int .i64 i8, .string s8, .slice q8 m8 c8] 30)) = w4 at E8_w4 HX_w4 HB_w4 S_w4 M_w4 E5_w4 HA_w4 ⊢
     refine (typ13 ly _ w4 (HLY.out.2.mono HB_w4.out fun u x _ h => h) (by have := HMY.out; omega)).mono ?_
     rintro e w5 ⟨tv, rfl, hnew, hb⟩
     have HTYY := Lib.hid (Ux.typN_vs 13 ly)
     have HOKY := Lib.hid (typN_ok 13 (l := ly) (by have := HMY.out; omega))
     have HSY := Lib.hid (show (Ux.typN 13 ly).1.sz ≤ 19 by have h1 := Ux.typN_sz 13 ly; have h2 := Ux.typN_le 13 ly; have := HMY.out; omega)
     obtain ⟨y, hy⟩ : ∃ t, t = (Ux.typN 13 ly).1 := ⟨_, rfl⟩
     rw [← hy] at hnew HTYY HOKY HSY
     have HSMY := Lib.hid (show Ux.Small 19 6 y from ⟨HOKY.out.plain, HSY.out, HTYY.out⟩)
     obtain ⟨i10, s10, q10, m10, c10, rfl⟩ := tyP_sh hnew.now
     have hty := hnew.now
     have HOY := HOKY
     clear hy hnew HTYY HOKY HSY
     have S_w5 := Lib.hid (S_w4.out.below hb)
     have M_w5 := Lib.hid (pairs_below M_w4.out hb)
     have E5_w5 := Lib.hid (ent_below E5_w4.out hb)
     have HA_w5 := Lib.hid (tyP_below HA_w4.out hb)
     have E8_w5 := Lib.hid (ent_below E8_w4.out hb)
     have HX_w5 := Lib.hid (tyP_below HX_w4.out hb)
     have HB_w5 := Lib.hid (HB_w4.out.trans (hb.mono HB_w4.out.size))
     clear hb HB_w4 S_w4 M_w4 E5_w4 HA_w4 E8_w4 HX_w4
     go_upto_region 16 with fail
     have hb : Below w5.heap.size w5 (w5.alloc (.cells #[.int .i64 i10, .string s10, .slice q10 m10 c10] 30)).drew := ((Below.refl _ _).alloc (Nat.le_refl _) _).drew
     have E10_d0 : Hid ((w5.alloc (.cells #[.int .i64 i10, .string s10, .slice q10 m10 c10] 30)).drew.heap[w5.heap.size]? = some (.cells #[.int .i64 i10, .string s10, .slice q10 m10 c10] 30 (0, 0))) := Lib.hid (ent_new w5 #[.int .i64 i10, .string s10, .slice q10 m10 c10] 30)
     have HY_d0 := Lib.hid (tyP_below hty hb)
     have S_d0 := Lib.hid (S_w5.out.below hb)
     have M_d0 := Lib.hid (pairs_below M_w5.out hb)
     have E5_d0 := Lib.hid (ent_below E5_w5.out hb)
     have HA_d0 := Lib.hid (tyP_below HA_w5.out hb)
     have E8_d0 := Lib.hid (ent_below E8_w5.out hb)
     have HX_d0 := Lib.hid (tyP_below HX_w5.out hb)
     have HB_d0 := Lib.hid (HB_w5.out.trans (hb.mono HB_w5.out.size))
     clear hb HB_w5 S_w5 M_w5 E5_w5 HA_w5 E8_w5 HX_w5
     obtain ⟨P10, hP10⟩ : ∃ P, P = w5.heap.size := ⟨_, rfl⟩
     rw [← hP10] at E10_d0 ⊢
     clear hty hP10
     obtain ⟨TX, hTX⟩ : ∃ T, T = Ux.textT x := ⟨_, rfl⟩
     have HTX := Lib.hid hTX
     obtain ⟨TY, hTY⟩ : ∃ T, T = Ux.textT y := ⟨_, rfl⟩
     have HTY := Lib.hid hTY
     clear hTX hTY
     refine wp_region_held_drew (S := fun (u : World) => u.heap[P8]? = some (.cells #[.int .i64 i8, .string s8, .slice q8 m8 c8] 30 (0, 0)) ∧ u.heap[P10]? = some (.cells #[.int .i64 i10, .string s10, .slice q10 m10 c10] 30 (0, 0))) (by kernel_rfl) (⟨E8_d0.out, E10_d0.out⟩) (fun hHeld => ?_)
     generalize (w5.alloc (.cells #[.int .i64 i10, .string s10, .slice q10 m10 c10] 30)).drew = wd0 at E10_d0 HY_d0 HB_d0 S_d0 M_d0 E5_d0 HA_d0 E8_d0 HX_d0 hHeld ⊢
     refine wpAnyH_take (i := 0) (v := .agg #[.int .i64 i8, .string s8, .slice q8 m8 c8]) rfl (by kernel_rfl) (by kernel_rfl) (by kernel_rfl) (fun _ _ _ h => h) (Or.inl ⟨by rfl, fun w' hSw => by have h0 := ent_cell hSw.1 0 _ rfl; have h1 := ent_cell hSw.1 1 _ rfl; have h2 := ent_cell hSw.1 2 _ rfl; go_simp⟩) hHeld ?_
     refine wpAnyH_take (i := 2) (v := .agg #[.int .i64 i10, .string s10, .slice q10 m10 c10]) rfl (by kernel_rfl) (by kernel_rfl) (by kernel_rfl) (fun _ _ _ h => h) (Or.inl ⟨by rfl, fun w' hSw => by have h0 := ent_cell hSw.2 0 _ rfl; have h1 := ent_cell hSw.2 1 _ rfl; have h2 := ent_cell hSw.2 2 _ rfl; go_simp⟩) hHeld ?_
     try simp only [Act.put, List.getElem_toArray, List.getElem_cons_succ, List.getElem_cons_zero, List.setIfInBounds_toArray, List.set_cons_zero, List.set_cons_succ]
     refine wpAnyH_ready (rs := [1]) (by kernel_rfl) (by simp) ?_
     refine AllReadyH.cons rfl (fun K hK => ?_) AllReadyH.nil
     go_simp
     refine (rtext_ok HOX.out _ wd0 HX_d0.out (HTB.out wd0 HB_d0.out)).mono ?_
     rintro e wd1 ⟨rfl, hb⟩
     rw [← HTX.out]
     have S_d1 := Lib.hid (S_d0.out.below hb)
     have M_d1 := Lib.hid (pairs_below M_d0.out hb)
     have E5_d1 := Lib.hid (ent_below E5_d0.out hb)
     have HA_d1 := Lib.hid (tyP_below HA_d0.out hb)
     have E8_d1 := Lib.hid (ent_below E8_d0.out hb)
     have HX_d1 := Lib.hid (tyP_below HX_d0.out hb)
     have E10_d1 := Lib.hid (ent_below E10_d0.out hb)
     have HY_d1 := Lib.hid (tyP_below HY_d0.out hb)
     have HB_d1 := Lib.hid (HB_d0.out.trans (hb.mono HB_d0.out.size))
     clear hb HB_d0 S_d0 M_d0 E5_d0 HA_d0 E8_d0 HX_d0 E10_d0 HY_d0
     refine hK.out _ _ ⟨E8_d1.out, E10_d1.out⟩ (fun hHeld => ?_)
     clear hK K
     refine wpAnyH_ready (rs := [3]) (by kernel_rfl) (by simp) ?_
     refine AllReadyH.cons rfl (fun K hK => ?_) AllReadyH.nil
     go_simp
     refine (rtext_ok HOY.out _ wd1 HY_d1.out (HTB.out wd1 HB_d1.out)).mono ?_
     rintro e wd2 ⟨rfl, hb⟩
     rw [← HTY.out]
     have S_d2 := Lib.hid (S_d1.out.below hb)
     have M_d2 := Lib.hid (pairs_below M_d1.out hb)
     have E5_d2 := Lib.hid (ent_below E5_d1.out hb)
     have HA_d2 := Lib.hid (tyP_below HA_d1.out hb)
     have E8_d2 := Lib.hid (ent_below E8_d1.out hb)
     have HX_d2 := Lib.hid (tyP_below HX_d1.out hb)
     have E10_d2 := Lib.hid (ent_below E10_d1.out hb)
     have HY_d2 := Lib.hid (tyP_below HY_d1.out hb)
     have HB_d2 := Lib.hid (HB_d1.out.trans (hb.mono HB_d1.out.size))
     clear hb HB_d1 S_d1 M_d1 E5_d1 HA_d1 E8_d1 HX_d1 E10_d1 HY_d1
     refine hK.out _ _ ⟨E8_d2.out, E10_d2.out⟩ (fun hHeld => ?_)
     clear hK K
     refine wpAnyH_take (i := 4) (v := .string (⟨TX.toArray⟩ ++ ⟨TY.toArray⟩)) rfl (by kernel_rfl) (by kernel_rfl) (by kernel_rfl) (fun _ _ _ h => h) (Or.inl ⟨by rfl, fun w' hSw => by go_simp; have h1 := HOX.out.len; have h2 := HOY.out.len; rw [← HTX.out] at h1; rw [← HTY.out] at h2; omega⟩) hHeld ?_
     simp only [Act.put, List.getElem_toArray, List.getElem_cons_succ, List.getElem_cons_zero, List.setIfInBounds_toArray, List.set_cons_zero, List.set_cons_succ]
     refine wpAnyH_take (i := 5) (v := .string (⟨TX.toArray⟩ ++ ⟨TY.toArray⟩)) rfl (by kernel_rfl) (by kernel_rfl) (by kernel_rfl) (fun _ _ _ h => h) (Or.inl ⟨by rfl, fun w' hSw => by go_simp⟩) hHeld ?_
     simp only [Act.put, List.getElem_toArray, List.getElem_cons_succ, List.getElem_cons_zero, List.setIfInBounds_toArray, List.set_cons_zero, List.set_cons_succ]
     refine wpAnyH_done (by kernel_rfl) ?_ _
     clear hHeld
     obtain ⟨k0, r0, hr0, hstep, hnever⟩ := HPS0.out.step HSMX.out HSMY.out
     have HR0 := Lib.hid hr0; have HSTEP := Lib.hid hstep; have HNEVER := Lib.hid hnever
     clear hr0 hstep hnever
     have t80 := ent_cell E8_d2.out 0 _ rfl
     have t81 := ent_cell E8_d2.out 1 _ rfl
     have t82 := ent_cell E8_d2.out 2 _ rfl
     have t100 := ent_cell E10_d2.out 0 _ rfl
     have t101 := ent_cell E10_d2.out 1 _ rfl
     have t102 := ent_cell E10_d2.out 2 _ rfl
     go_wp2_with fail
     clear t80 t81 t82 t100 t101 t102
     refine (unify2_any (76 * q) (76 * (q + 1)) f HPS0.out.both.fine HPS0.out.dom sb x y _ _ wd2 S_d2.out HX_d2.out HY_d2.out (by have := HSMX.out.2.1; have := HSMY.out.2.1; omega) (by have := HQ.out; omega)).mono ?_
     rintro e w7 ⟨er, rfl, hc, hr⟩
     have HMP := Lib.hid S_d2.out.p.map
     have M_w7 := Lib.hid (pairs_chg HMP.out hc M_d2.out)
     have E5_w7 := Lib.hid (ent_chg E5_d2.out hc (fun e => by obtain ⟨es, k, h⟩ := HMP.out; rw [← e, E5_d2.out] at h; cases h))
     have HA_w7 := Lib.hid (tyP_chg HMP.out hc HA_d2.out)
     have E8_w7 := Lib.hid (ent_chg E8_d2.out hc (fun e => by obtain ⟨es, k, h⟩ := HMP.out; rw [← e, E8_d2.out] at h; cases h))
     have HX_w7 := Lib.hid (tyP_chg HMP.out hc HX_d2.out)
     have E10_w7 := Lib.hid (ent_chg E10_d2.out hc (fun e => by obtain ⟨es, k, h⟩ := HMP.out; rw [← e, E10_d2.out] at h; cases h))
     have HY_w7 := Lib.hid (tyP_chg HMP.out hc HY_d2.out)
     have HB_w7 := Lib.hid (HB_d2.out.trans (hc.below HB_d2.out.size fun k hk => by rw [hk]; exact HLO.out.1))
     have HUR := Lib.hid hr
     clear hc hr HMP HB_d2 S_d2 M_d2 E5_d2 HA_d2 E8_d2 HX_d2 E10_d2 HY_d2
     rcases HUR.out with ⟨rfl, f2, hm, hs⟩ | ⟨rfl, hn, hs⟩
     rotate_left
     · have hr0 := HNEVER.out hn
       subst hr0
       clear hs hn HUR
       have t80 := ent_cell E8_w7.out 0 _ rfl
       have t81 := ent_cell E8_w7.out 1 _ rfl
       have t82 := ent_cell E8_w7.out 2 _ rfl
       have t100 := ent_cell E10_w7.out 0 _ rfl
       have t101 := ent_cell E10_w7.out 1 _ rfl
       have t102 := ent_cell E10_w7.out 2 _ rfl
       go_wp2_with fail
       clear t80 t81 t82 t100 t101 t102
       refine (HRU.out k0 L x y _ _ _ _ w7 HR0.out HPS0.out.inv HPS0.out.tri ⟨x, HSMX.out.2.1, rfl⟩ ⟨y, HSMY.out.2.1, rfl⟩ HSMX.out.v6 HSMY.out.v6 M_w7.out HX_w7.out HY_w7.out).mono ?_
       rintro e w8 hpost
       obtain ⟨lv2, rfl, hb⟩ := hpost.no
       clear hpost
       have E5_w8 := Lib.hid (ent_below E5_w7.out hb)
       have HA_w8 := Lib.hid (tyP_below HA_w7.out hb)
       have E8_w8 := Lib.hid (ent_below E8_w7.out hb)
       have HX_w8 := Lib.hid (tyP_below HX_w7.out hb)
       have E10_w8 := Lib.hid (ent_below E10_w7.out hb)
       have HY_w8 := Lib.hid (tyP_below HY_w7.out hb)
       have HB_w8 := Lib.hid (HB_w7.out.trans (hb.mono HB_w7.out.size))
       clear hb HB_w7 E5_w7 HA_w7 E8_w7 HX_w7 E10_w7 HY_w7
       go_upto_region 19 with fail
       have hb : Below w8.heap.size w8 w8.drew := (Below.refl _ _).drew
       have E5_d0 := Lib.hid (ent_below E5_w8.out hb)
       have HA_d0 := Lib.hid (tyP_below HA_w8.out hb)
       have E8_d0 := Lib.hid (ent_below E8_w8.out hb)
       have HX_d0 := Lib.hid (tyP_below HX_w8.out hb)
       have E10_d0 := Lib.hid (ent_below E10_w8.out hb)
       have HY_d0 := Lib.hid (tyP_below HY_w8.out hb)
       have HB_d0 := Lib.hid (HB_w8.out.trans (hb.mono HB_w8.out.size))
       clear hb HB_w8 E5_w8 HA_w8 E8_w8 HX_w8 E10_w8 HY_w8
       refine wp_region_held_drew (S := fun (u : World) => u.heap[P8]? = some (.cells #[.int .i64 i8, .string s8, .slice q8 m8 c8] 30 (0, 0)) ∧ u.heap[P10]? = some (.cells #[.int .i64 i10, .string s10, .slice q10 m10 c10] 30 (0, 0))) (by kernel_rfl) (⟨E8_d0.out, E10_d0.out⟩) (fun hHeld => ?_)
       generalize w8.drew = wd0 at HB_d0 E5_d0 HA_d0 E8_d0 HX_d0 E10_d0 HY_d0 hHeld ⊢
       refine wpAnyH_take (i := 0) (v := .int .i64 5) rfl (by kernel_rfl) (by kernel_rfl) (by kernel_rfl) (fun _ _ _ h => h) (Or.inl ⟨by rfl, fun w' hSw => by go_simp⟩) hHeld ?_
       refine wpAnyH_take (i := 1) (v := .bool false) rfl (by kernel_rfl) (by kernel_rfl) (by kernel_rfl) (fun _ _ _ h => h) (Or.inl ⟨by rfl, fun w' hSw => by go_simp⟩) hHeld ?_
       refine wpAnyH_take (i := 2) (v := .bool false) rfl (by kernel_rfl) (by kernel_rfl) (by kernel_rfl) (fun _ _ _ h => h) (Or.inl ⟨by rfl, fun w' hSw => by go_simp⟩) hHeld ?_
       refine wpAnyH_take (i := 3) (v := .bool false) rfl (by kernel_rfl) (by kernel_rfl) (by kernel_rfl) (fun _ _ _ h => h) (Or.inl ⟨by rfl, fun w' hSw => by go_simp⟩) hHeld ?_
       refine wpAnyH_take (i := 4) (v := .bool false) rfl (by kernel_rfl) (by kernel_rfl) (by kernel_rfl) (fun _ _ _ h => h) (Or.inl ⟨by rfl, fun w' hSw => by go_simp⟩) hHeld ?_
       refine wpAnyH_take (i := 5) (v := .int .i64 5) rfl (by kernel_rfl) (by kernel_rfl) (by kernel_rfl) (fun _ _ _ h => h) (Or.inl ⟨by go_simp, fun w' hSw => by go_simp⟩) hHeld ?_
       simp only [Act.put, List.getElem_toArray, List.getElem_cons_succ, List.getElem_cons_zero, List.setIfInBounds_toArray, List.set_cons_zero, List.set_cons_succ]
       refine wpAnyH_take (i := 6) (v := .bool true) rfl (by kernel_rfl) (by kernel_rfl) (by kernel_rfl) (fun _ _ _ h => h) (Or.inl ⟨by go_simp, fun w' hSw => by go_simp⟩) hHeld ?_
       simp only [Act.put, List.getElem_toArray, List.getElem_cons_succ, List.getElem_cons_zero, List.setIfInBounds_toArray, List.set_cons_zero, List.set_cons_succ]
       refine wpAnyH_take (i := 7) (v := .bool true) rfl (by kernel_rfl) (by kernel_rfl) (by kernel_rfl) (fun _ _ _ h => h) (Or.inl ⟨by go_simp, fun w' hSw => by go_simp⟩) hHeld ?_
       simp only [Act.put, List.getElem_toArray, List.getElem_cons_succ, List.getElem_cons_zero, List.setIfInBounds_toArray, List.set_cons_zero, List.set_cons_succ]
       refine wpAnyH_take (i := 8) (v := .int .i64 5) rfl (by kernel_rfl) (by kernel_rfl) (by kernel_rfl) (fun _ _ _ h => h) (Or.inl ⟨by go_simp, fun w' hSw => by go_simp⟩) hHeld ?_
       simp only [Act.put, List.getElem_toArray, List.getElem_cons_succ, List.getElem_cons_zero, List.setIfInBounds_toArray, List.set_cons_zero, List.set_cons_succ]
       refine wpAnyH_take (i := 9) (v := .bool false) rfl (by kernel_rfl) (by kernel_rfl) (by kernel_rfl) (fun _ _ _ h => h) (Or.inl ⟨by go_simp, fun w' hSw => by go_simp⟩) hHeld ?_
       simp only [Act.put, List.getElem_toArray, List.getElem_cons_succ, List.getElem_cons_zero, List.setIfInBounds_toArray, List.set_cons_zero, List.set_cons_succ]
       refine wpAnyH_take (i := 10) (v := .bool false) rfl (by kernel_rfl) (by kernel_rfl) (by kernel_rfl) (fun _ _ _ h => h) (Or.inl ⟨by go_simp, fun w' hSw => by go_simp⟩) hHeld ?_
       simp only [Act.put, List.getElem_toArray, List.getElem_cons_succ, List.getElem_cons_zero, List.setIfInBounds_toArray, List.set_cons_zero, List.set_cons_succ]
       refine wpAnyH_take (i := 11) (v := .bool false) rfl (by kernel_rfl) (by kernel_rfl) (by kernel_rfl) (fun _ _ _ h => h) (Or.inl ⟨by rfl, fun w' hSw => by go_simp⟩) hHeld ?_
       refine wpAnyH_take (i := 12) (v := .bool false) rfl (by kernel_rfl) (by kernel_rfl) (by kernel_rfl) (fun _ _ _ h => h) (Or.inl ⟨by rfl, fun w' hSw => by go_simp⟩) hHeld ?_
       refine wpAnyH_take (i := 13) (v := .string (⟨TX.toArray⟩ ++ ⟨TY.toArray⟩)) rfl (by kernel_rfl) (by kernel_rfl) (by kernel_rfl) (fun _ _ _ h => h) (Or.inl ⟨by go_simp, fun w' hSw => by go_simp⟩) hHeld ?_
       simp only [Act.put, List.getElem_toArray, List.getElem_cons_succ, List.getElem_cons_zero, List.setIfInBounds_toArray, List.set_cons_zero, List.set_cons_succ]
       refine wpAnyH_take (i := 14) (v := .agg #[.int .i64 i8, .string s8, .slice q8 m8 c8]) rfl (by kernel_rfl) (by kernel_rfl) (by kernel_rfl) (fun _ _ _ h => h) (Or.inl ⟨by go_simp, fun w' hSw => by have h0 := ent_cell hSw.1 0 _ rfl; have h1 := ent_cell hSw.1 1 _ rfl; have h2 := ent_cell hSw.1 2 _ rfl; go_simp⟩) hHeld ?_
       simp only [Act.put, List.getElem_toArray, List.getElem_cons_succ, List.getElem_cons_zero, List.setIfInBounds_toArray, List.set_cons_zero, List.set_cons_succ]
       refine wpAnyH_take (i := 16) (v := .agg #[.int .i64 i10, .string s10, .slice q10 m10 c10]) rfl (by kernel_rfl) (by kernel_rfl) (by kernel_rfl) (fun _ _ _ h => h) (Or.inl ⟨by go_simp, fun w' hSw => by have h0 := ent_cell hSw.2 0 _ rfl; have h1 := ent_cell hSw.2 1 _ rfl; have h2 := ent_cell hSw.2 2 _ rfl; go_simp⟩) hHeld ?_
       simp only [Act.put, List.getElem_toArray, List.getElem_cons_succ, List.getElem_cons_zero, List.setIfInBounds_toArray, List.set_cons_zero, List.set_cons_succ]
       try simp only [Act.put, List.getElem_toArray, List.getElem_cons_succ, List.getElem_cons_zero, List.setIfInBounds_toArray, List.set_cons_zero, List.set_cons_succ]
       refine wpAnyH_ready (rs := [15]) (by kernel_rfl) (by simp) ?_
       refine AllReadyH.cons rfl (fun K hK => ?_) AllReadyH.nil
       go_simp
       refine (rtext_ok HOX.out _ wd0 HX_d0.out (HTB.out wd0 HB_d0.out)).mono ?_
       rintro e wd1 ⟨rfl, hb⟩
       rw [← HTX.out]
       have E5_d1 := Lib.hid (ent_below E5_d0.out hb)
       have HA_d1 := Lib.hid (tyP_below HA_d0.out hb)
       have E8_d1 := Lib.hid (ent_below E8_d0.out hb)
       have HX_d1 := Lib.hid (tyP_below HX_d0.out hb)
       have E10_d1 := Lib.hid (ent_below E10_d0.out hb)
       have HY_d1 := Lib.hid (tyP_below HY_d0.out hb)
       have HB_d1 := Lib.hid (HB_d0.out.trans (hb.mono HB_d0.out.size))
       clear hb HB_d0 E5_d0 HA_d0 E8_d0 HX_d0 E10_d0 HY_d0
       refine hK.out _ _ ⟨E8_d1.out, E10_d1.out⟩ (fun hHeld => ?_)
       clear hK K
       refine wpAnyH_ready (rs := [17]) (by kernel_rfl) (by simp) ?_
       refine AllReadyH.cons rfl (fun K hK => ?_) AllReadyH.nil
       go_simp
       refine (rtext_ok HOY.out _ wd1 HY_d1.out (HTB.out wd1 HB_d1.out)).mono ?_
       rintro e wd2 ⟨rfl, hb⟩
       rw [← HTY.out]
       have E5_d2 := Lib.hid (ent_below E5_d1.out hb)
       have HA_d2 := Lib.hid (tyP_below HA_d1.out hb)
       have E8_d2 := Lib.hid (ent_below E8_d1.out hb)
       have HX_d2 := Lib.hid (tyP_below HX_d1.out hb)
       have E10_d2 := Lib.hid (ent_below E10_d1.out hb)
       have HY_d2 := Lib.hid (tyP_below HY_d1.out hb)
       have HB_d2 := Lib.hid (HB_d1.out.trans (hb.mono HB_d1.out.size))
       clear hb HB_d1 E5_d1 HA_d1 E8_d1 HX_d1 E10_d1 HY_d1
       refine hK.out _ _ ⟨E8_d2.out, E10_d2.out⟩ (fun hHeld => ?_)
       clear hK K
       refine wpAnyH_take (i := 18) (v := .string (⟨TX.toArray⟩ ++ ⟨TY.toArray⟩)) rfl (by kernel_rfl) (by kernel_rfl) (by kernel_rfl) (fun _ _ _ h => h) (Or.inl ⟨by go_simp, fun w' hSw => by go_simp; have h1 := HOX.out.len; have h2 := HOY.out.len; rw [← HTX.out] at h1; rw [← HTY.out] at h2; omega⟩) hHeld ?_
       simp only [Act.put, List.getElem_toArray, List.getElem_cons_succ, List.getElem_cons_zero, List.setIfInBounds_toArray, List.set_cons_zero, List.set_cons_succ]
       refine wpAnyH_take (i := 19) (v := .bool false) rfl (by kernel_rfl) (by kernel_rfl) (by kernel_rfl) (fun _ _ _ h => h) (Or.inl ⟨by go_simp, fun w' hSw => by go_simp⟩) hHeld ?_
       simp only [Act.put, List.getElem_toArray, List.getElem_cons_succ, List.getElem_cons_zero, List.setIfInBounds_toArray, List.set_cons_zero, List.set_cons_succ]
       refine wpAnyH_take (i := 20) (v := .bool false) rfl (by kernel_rfl) (by kernel_rfl) (by kernel_rfl) (fun _ _ _ h => h) (Or.inl ⟨by rfl, fun w' hSw => by go_simp⟩) hHeld ?_
       simp only [Act.put, List.getElem_toArray, List.getElem_cons_succ, List.getElem_cons_zero, List.setIfInBounds_toArray, List.set_cons_zero, List.set_cons_succ]
       refine wpAnyH_done (by kernel_rfl) ?_ _
       clear hHeld
       go_wp2_with fail
       go_ret
       exact ⟨rfl, HB_d2.out⟩
     obtain ⟨L2, hr0, hps⟩ := HSTEP.out f2 hm
     subst hr0
     have HPS := Lib.hid hps; have S_w7 := Lib.hid hs
     obtain ⟨NM, hNM⟩ := hps.both.fine.norm
     have HN := Lib.hid hNM
     have HDM := Lib.hid hps.dom
     have HPW := Lib.hid (⟨hps.okT hNM (Ux.small_all HSMX.out), Ux.made_one hm hNM, hps.okT hNM Ux.allT_small, hps.okL Ux.allT_small.1 (by decide), hps.both.norm hNM Ux.allT⟩ : OkT (x.app NM) ∧ x.app NM = y.app NM ∧ OkT (Ux.allT.app NM) ∧ OkT (Ux.applyL L2 Ux.allT) ∧ Ux.canon (Ux.allT.app NM) = Ux.canon (Ux.applyL L2 Ux.allT))
     clear hps hs hNM hm HUR
     have t80 := ent_cell E8_w7.out 0 _ rfl
     have t81 := ent_cell E8_w7.out 1 _ rfl
     have t82 := ent_cell E8_w7.out 2 _ rfl
     have t100 := ent_cell E10_w7.out 0 _ rfl
     have t101 := ent_cell E10_w7.out 1 _ rfl
     have t102 := ent_cell E10_w7.out 2 _ rfl
     go_wp2_with fail
     clear t80 t81 t82 t100 t101 t102
     refine (HRU.out k0 L x y _ _ _ _ w7 HR0.out HPS0.out.inv HPS0.out.tri ⟨x, HSMX.out.2.1, rfl⟩ ⟨y, HSMY.out.2.1, rfl⟩ HSMX.out.v6 HSMY.out.v6 M_w7.out HX_w7.out HY_w7.out).mono ?_
     rintro e w8 hpost
     obtain ⟨lv2, rfl, hb, hM⟩ := hpost.yes
     clear hpost
     have M_w8 := Lib.hid hM
     clear hM
     have S_w8 := Lib.hid (S_w7.out.below hb)
     have E5_w8 := Lib.hid (ent_below E5_w7.out hb)
     have HA_w8 := Lib.hid (tyP_below HA_w7.out hb)
     have E8_w8 := Lib.hid (ent_below E8_w7.out hb)
     have HX_w8 := Lib.hid (tyP_below HX_w7.out hb)
     have E10_w8 := Lib.hid (ent_below E10_w7.out hb)
     have HY_w8 := Lib.hid (tyP_below HY_w7.out hb)
     have HB_w8 := Lib.hid (HB_w7.out.trans (hb.mono HB_w7.out.size))
     clear hb HB_w7 S_w7 E5_w7 HA_w7 E8_w7 HX_w7 E10_w7 HY_w7
     clear M_w7
     go_upto_region 19 with fail
     have hb : Below w8.heap.size w8 w8.drew := (Below.refl _ _).drew
     have S_d0 := Lib.hid (S_w8.out.below hb)
     have M_d0 := Lib.hid (pairs_below M_w8.out hb)
     have E5_d0 := Lib.hid (ent_below E5_w8.out hb)
     have HA_d0 := Lib.hid (tyP_below HA_w8.out hb)
     have E8_d0 := Lib.hid (ent_below E8_w8.out hb)
     have HX_d0 := Lib.hid (tyP_below HX_w8.out hb)
     have E10_d0 := Lib.hid (ent_below E10_w8.out hb)
     have HY_d0 := Lib.hid (tyP_below HY_w8.out hb)
     have HB_d0 := Lib.hid (HB_w8.out.trans (hb.mono HB_w8.out.size))
     clear hb HB_w8 S_w8 M_w8 E5_w8 HA_w8 E8_w8 HX_w8 E10_w8 HY_w8
     refine wp_region_held_drew (S := fun (u : World) => u.heap[P8]? = some (.cells #[.int .i64 i8, .string s8, .slice q8 m8 c8] 30 (0, 0)) ∧ u.heap[P10]? = some (.cells #[.int .i64 i10, .string s10, .slice q10 m10 c10] 30 (0, 0))) (by kernel_rfl) (⟨E8_d0.out, E10_d0.out⟩) (fun hHeld => ?_)
     generalize w8.drew = wd0 at HB_d0 S_d0 M_d0 E5_d0 HA_d0 E8_d0 HX_d0 E10_d0 HY_d0 hHeld ⊢
     refine wpAnyH_take (i := 0) (v := .int .i64 0) rfl (by kernel_rfl) (by kernel_rfl) (by kernel_rfl) (fun _ _ _ h => h) (Or.inl ⟨by rfl, fun w' hSw => by go_simp⟩) hHeld ?_
     refine wpAnyH_take (i := 1) (v := .bool true) rfl (by kernel_rfl) (by kernel_rfl) (by kernel_rfl) (fun _ _ _ h => h) (Or.inl ⟨by rfl, fun w' hSw => by go_simp⟩) hHeld ?_
     refine wpAnyH_take (i := 2) (v := .bool true) rfl (by kernel_rfl) (by kernel_rfl) (by kernel_rfl) (fun _ _ _ h => h) (Or.inl ⟨by rfl, fun w' hSw => by go_simp⟩) hHeld ?_
     refine wpAnyH_take (i := 3) (v := .bool false) rfl (by kernel_rfl) (by kernel_rfl) (by kernel_rfl) (fun _ _ _ h => h) (Or.inl ⟨by rfl, fun w' hSw => by go_simp⟩) hHeld ?_
     refine wpAnyH_take (i := 4) (v := .bool false) rfl (by kernel_rfl) (by kernel_rfl) (by kernel_rfl) (fun _ _ _ h => h) (Or.inl ⟨by rfl, fun w' hSw => by go_simp⟩) hHeld ?_
     refine wpAnyH_take (i := 5) (v := .int .i64 0) rfl (by kernel_rfl) (by kernel_rfl) (by kernel_rfl) (fun _ _ _ h => h) (Or.inl ⟨by go_simp, fun w' hSw => by go_simp⟩) hHeld ?_
     simp only [Act.put, List.getElem_toArray, List.getElem_cons_succ, List.getElem_cons_zero, List.setIfInBounds_toArray, List.set_cons_zero, List.set_cons_succ]
     refine wpAnyH_take (i := 6) (v := .bool false) rfl (by kernel_rfl) (by kernel_rfl) (by kernel_rfl) (fun _ _ _ h => h) (Or.inl ⟨by go_simp, fun w' hSw => by go_simp⟩) hHeld ?_
     simp only [Act.put, List.getElem_toArray, List.getElem_cons_succ, List.getElem_cons_zero, List.setIfInBounds_toArray, List.set_cons_zero, List.set_cons_succ]
     refine wpAnyH_take (i := 7) (v := .bool false) rfl (by kernel_rfl) (by kernel_rfl) (by kernel_rfl) (fun _ _ _ h => h) (Or.inl ⟨by go_simp, fun w' hSw => by go_simp⟩) hHeld ?_
     simp only [Act.put, List.getElem_toArray, List.getElem_cons_succ, List.getElem_cons_zero, List.setIfInBounds_toArray, List.set_cons_zero, List.set_cons_succ]
     refine wpAnyH_take (i := 8) (v := undef) rfl (by kernel_rfl) (by kernel_rfl) (by kernel_rfl) (fun _ _ _ h => h) (Or.inr ⟨(by first | (go_simp; done) | (go_simp; simp; done) | (go_simp; intro h; cases h)), rfl⟩) hHeld ?_
     simp only [Act.put, List.getElem_toArray, List.getElem_cons_succ, List.getElem_cons_zero, List.setIfInBounds_toArray, List.set_cons_zero, List.set_cons_succ]
     refine wpAnyH_take (i := 9) (v := undef) rfl (by kernel_rfl) (by kernel_rfl) (by kernel_rfl) (fun _ _ _ h => h) (Or.inr ⟨(by first | (go_simp; done) | (go_simp; simp; done) | (go_simp; intro h; cases h)), rfl⟩) hHeld ?_
     simp only [Act.put, List.getElem_toArray, List.getElem_cons_succ, List.getElem_cons_zero, List.setIfInBounds_toArray, List.set_cons_zero, List.set_cons_succ]
     refine wpAnyH_take (i := 10) (v := .bool false) rfl (by kernel_rfl) (by kernel_rfl) (by kernel_rfl) (fun _ _ _ h => h) (Or.inl ⟨by go_simp, fun w' hSw => by go_simp⟩) hHeld ?_
     simp only [Act.put, List.getElem_toArray, List.getElem_cons_succ, List.getElem_cons_zero, List.setIfInBounds_toArray, List.set_cons_zero, List.set_cons_succ]
     refine wpAnyH_take (i := 11) (v := .bool false) rfl (by kernel_rfl) (by kernel_rfl) (by kernel_rfl) (fun _ _ _ h => h) (Or.inl ⟨by rfl, fun w' hSw => by go_simp⟩) hHeld ?_
     refine wpAnyH_take (i := 12) (v := .bool false) rfl (by kernel_rfl) (by kernel_rfl) (by kernel_rfl) (fun _ _ _ h => h) (Or.inl ⟨by rfl, fun w' hSw => by go_simp⟩) hHeld ?_
     refine wpAnyH_take (i := 13) (v := .string (⟨TX.toArray⟩ ++ ⟨TY.toArray⟩)) rfl (by kernel_rfl) (by kernel_rfl) (by kernel_rfl) (fun _ _ _ h => h) (Or.inl ⟨by go_simp, fun w' hSw => by go_simp⟩) hHeld ?_
     simp only [Act.put, List.getElem_toArray, List.getElem_cons_succ, List.getElem_cons_zero, List.setIfInBounds_toArray, List.set_cons_zero, List.set_cons_succ]
     refine wpAnyH_take (i := 14) (v := .agg #[.int .i64 i8, .string s8, .slice q8 m8 c8]) rfl (by kernel_rfl) (by kernel_rfl) (by kernel_rfl) (fun _ _ _ h => h) (Or.inl ⟨by go_simp, fun w' hSw => by have h0 := ent_cell hSw.1 0 _ rfl; have h1 := ent_cell hSw.1 1 _ rfl; have h2 := ent_cell hSw.1 2 _ rfl; go_simp⟩) hHeld ?_
     simp only [Act.put, List.getElem_toArray, List.getElem_cons_succ, List.getElem_cons_zero, List.setIfInBounds_toArray, List.set_cons_zero, List.set_cons_succ]
     refine wpAnyH_take (i := 16) (v := .agg #[.int .i64 i10, .string s10, .slice q10 m10 c10]) rfl (by kernel_rfl) (by kernel_rfl) (by kernel_rfl) (fun _ _ _ h => h) (Or.inl ⟨by go_simp, fun w' hSw => by have h0 := ent_cell hSw.2 0 _ rfl; have h1 := ent_cell hSw.2 1 _ rfl; have h2 := ent_cell hSw.2 2 _ rfl; go_simp⟩) hHeld ?_
     simp only [Act.put, List.getElem_toArray, List.getElem_cons_succ, List.getElem_cons_zero, List.setIfInBounds_toArray, List.set_cons_zero, List.set_cons_succ]
     try simp only [Act.put, List.getElem_toArray, List.getElem_cons_succ, List.getElem_cons_zero, List.setIfInBounds_toArray, List.set_cons_zero, List.set_cons_succ]
     refine wpAnyH_ready (rs := [15]) (by kernel_rfl) (by simp) ?_
     refine AllReadyH.cons rfl (fun K hK => ?_) AllReadyH.nil
     go_simp
     refine (rtext_ok HOX.out _ wd0 HX_d0.out (HTB.out wd0 HB_d0.out)).mono ?_
     rintro e wd1 ⟨rfl, hb⟩
     rw [← HTX.out]
     have S_d1 := Lib.hid (S_d0.out.below hb)
     have M_d1 := Lib.hid (pairs_below M_d0.out hb)
     have E5_d1 := Lib.hid (ent_below E5_d0.out hb)
     have HA_d1 := Lib.hid (tyP_below HA_d0.out hb)
     have E8_d1 := Lib.hid (ent_below E8_d0.out hb)
     have HX_d1 := Lib.hid (tyP_below HX_d0.out hb)
     have E10_d1 := Lib.hid (ent_below E10_d0.out hb)
     have HY_d1 := Lib.hid (tyP_below HY_d0.out hb)
     have HB_d1 := Lib.hid (HB_d0.out.trans (hb.mono HB_d0.out.size))
     clear hb HB_d0 S_d0 M_d0 E5_d0 HA_d0 E8_d0 HX_d0 E10_d0 HY_d0
     refine hK.out _ _ ⟨E8_d1.out, E10_d1.out⟩ (fun hHeld => ?_)
     clear hK K
     refine wpAnyH_ready (rs := [17]) (by kernel_rfl) (by simp) ?_
     refine AllReadyH.cons rfl (fun K hK => ?_) AllReadyH.nil
     go_simp
     refine (rtext_ok HOY.out _ wd1 HY_d1.out (HTB.out wd1 HB_d1.out)).mono ?_
     rintro e wd2 ⟨rfl, hb⟩
     rw [← HTY.out]
     have S_d2 := Lib.hid (S_d1.out.below hb)
     have M_d2 := Lib.hid (pairs_below M_d1.out hb)
     have E5_d2 := Lib.hid (ent_below E5_d1.out hb)
     have HA_d2 := Lib.hid (tyP_below HA_d1.out hb)
     have E8_d2 := Lib.hid (ent_below E8_d1.out hb)
     have HX_d2 := Lib.hid (tyP_below HX_d1.out hb)
     have E10_d2 := Lib.hid (ent_below E10_d1.out hb)
     have HY_d2 := Lib.hid (tyP_below HY_d1.out hb)
     have HB_d2 := Lib.hid (HB_d1.out.trans (hb.mono HB_d1.out.size))
     clear hb HB_d1 S_d1 M_d1 E5_d1 HA_d1 E8_d1 HX_d1 E10_d1 HY_d1
     refine hK.out _ _ ⟨E8_d2.out, E10_d2.out⟩ (fun hHeld => ?_)
     clear hK K
     refine wpAnyH_take (i := 18) (v := .string (⟨TX.toArray⟩ ++ ⟨TY.toArray⟩)) rfl (by kernel_rfl) (by kernel_rfl) (by kernel_rfl) (fun _ _ _ h => h) (Or.inl ⟨by go_simp, fun w' hSw => by go_simp; have h1 := HOX.out.len; have h2 := HOY.out.len; rw [← HTX.out] at h1; rw [← HTY.out] at h2; omega⟩) hHeld ?_
     simp only [Act.put, List.getElem_toArray, List.getElem_cons_succ, List.getElem_cons_zero, List.setIfInBounds_toArray, List.set_cons_zero, List.set_cons_succ]
     refine wpAnyH_take (i := 19) (v := .bool false) rfl (by kernel_rfl) (by kernel_rfl) (by kernel_rfl) (fun _ _ _ h => h) (Or.inl ⟨by go_simp, fun w' hSw => by go_simp⟩) hHeld ?_
     simp only [Act.put, List.getElem_toArray, List.getElem_cons_succ, List.getElem_cons_zero, List.setIfInBounds_toArray, List.set_cons_zero, List.set_cons_succ]
     refine wpAnyH_take (i := 20) (v := .bool false) rfl (by kernel_rfl) (by kernel_rfl) (by kernel_rfl) (fun _ _ _ h => h) (Or.inl ⟨by rfl, fun w' hSw => by go_simp⟩) hHeld ?_
     simp only [Act.put, List.getElem_toArray, List.getElem_cons_succ, List.getElem_cons_zero, List.setIfInBounds_toArray, List.set_cons_zero, List.set_cons_succ]
     refine wpAnyH_done (by kernel_rfl) ?_ _
     clear hHeld
     go_upto_region 24 with fail
     have hb : Below wd2.heap.size wd2 wd2.drew := (Below.refl _ _).drew
     have S_d0 := Lib.hid (S_d2.out.below hb)
     have M_d0 := Lib.hid (pairs_below M_d2.out hb)
     have E5_d0 := Lib.hid (ent_below E5_d2.out hb)
     have HA_d0 := Lib.hid (tyP_below HA_d2.out hb)
     have E8_d0 := Lib.hid (ent_below E8_d2.out hb)
     have HX_d0 := Lib.hid (tyP_below HX_d2.out hb)
     have E10_d0 := Lib.hid (ent_below E10_d2.out hb)
     have HY_d0 := Lib.hid (tyP_below HY_d2.out hb)
     have HB_d0 := Lib.hid (HB_d2.out.trans (hb.mono HB_d2.out.size))
     clear hb HB_d2 S_d2 M_d2 E5_d2 HA_d2 E8_d2 HX_d2 E10_d2 HY_d2
     refine wp_region_held_drew (S := fun (u : World) => u.heap[P8]? = some (.cells #[.int .i64 i8, .string s8, .slice q8 m8 c8] 30 (0, 0)) ∧ u.heap[P10]? = some (.cells #[.int .i64 i10, .string s10, .slice q10 m10 c10] 30 (0, 0)) ∧ u.heap[tb]? = some (.cells #[.int .i64 (-1), .string ⟨#[97, 108, 108]⟩, .slice p5 6 c5] 30 (0, 0))) (by kernel_rfl) (⟨E8_d0.out, E10_d0.out, E5_d0.out⟩) (fun hHeld => ?_)
     generalize wd2.drew = wd0 at HB_d0 S_d0 M_d0 E5_d0 HA_d0 E8_d0 HX_d0 E10_d0 HY_d0 hHeld ⊢
     refine wpAnyH_take (i := 0) (v := .map (some sb)) rfl (by kernel_rfl) (by kernel_rfl) (by kernel_rfl) (fun _ _ _ h => h) (Or.inl ⟨by rfl, fun w' hSw => by go_simp⟩) hHeld ?_
     refine wpAnyH_take (i := 1) (v := .agg #[.int .i64 i8, .string s8, .slice q8 m8 c8]) rfl (by kernel_rfl) (by kernel_rfl) (by kernel_rfl) (fun _ _ _ h => h) (Or.inl ⟨by rfl, fun w' hSw => by have h0 := ent_cell hSw.1 0 _ rfl; have h1 := ent_cell hSw.1 1 _ rfl; have h2 := ent_cell hSw.1 2 _ rfl; go_simp⟩) hHeld ?_
     refine wpAnyH_take (i := 3) (v := .map (some sb)) rfl (by kernel_rfl) (by kernel_rfl) (by kernel_rfl) (fun _ _ _ h => h) (Or.inl ⟨by rfl, fun w' hSw => by go_simp⟩) hHeld ?_
     refine wpAnyH_take (i := 4) (v := .agg #[.int .i64 i10, .string s10, .slice q10 m10 c10]) rfl (by kernel_rfl) (by kernel_rfl) (by kernel_rfl) (fun _ _ _ h => h) (Or.inl ⟨by rfl, fun w' hSw => by have h0 := ent_cell hSw.2.1 0 _ rfl; have h1 := ent_cell hSw.2.1 1 _ rfl; have h2 := ent_cell hSw.2.1 2 _ rfl; go_simp⟩) hHeld ?_
     try simp only [Act.put, List.getElem_toArray, List.getElem_cons_succ, List.getElem_cons_zero, List.setIfInBounds_toArray, List.set_cons_zero, List.set_cons_succ]
     refine wpAnyH_ready (rs := [2]) (by kernel_rfl) (by simp) ?_
     refine AllReadyH.cons rfl (fun K hK => ?_) AllReadyH.nil
     go_simp
     refine (apply_ok HPS.out.both.fine HN.out (t := x) S_d0.out.p HX_d0.out HDM.out HPW.out.1).mono ?_
     rintro e wd1 ⟨r1, rfl, hb, hr⟩
     have HC1_d1 := Lib.hid hr; clear hr
     have S_d1 := Lib.hid (S_d0.out.below hb)
     have M_d1 := Lib.hid (pairs_below M_d0.out hb)
     have E5_d1 := Lib.hid (ent_below E5_d0.out hb)
     have HA_d1 := Lib.hid (tyP_below HA_d0.out hb)
     have E8_d1 := Lib.hid (ent_below E8_d0.out hb)
     have HX_d1 := Lib.hid (tyP_below HX_d0.out hb)
     have E10_d1 := Lib.hid (ent_below E10_d0.out hb)
     have HY_d1 := Lib.hid (tyP_below HY_d0.out hb)
     have HB_d1 := Lib.hid (HB_d0.out.trans (hb.mono HB_d0.out.size))
     clear hb HB_d0 S_d0 M_d0 E5_d0 HA_d0 E8_d0 HX_d0 E10_d0 HY_d0
     refine hK.out _ _ ⟨E8_d1.out, E10_d1.out, E5_d1.out⟩ (fun hHeld => ?_)
     clear hK K
     refine wpAnyH_ready (rs := [5]) (by kernel_rfl) (by simp) ?_
     refine AllReadyH.cons rfl (fun K hK => ?_) AllReadyH.nil
     go_simp
     refine (apply_ok HPS.out.both.fine HN.out (t := y) S_d1.out.p HY_d1.out HDM.out (by rw [← HPW.out.2.1]; exact HPW.out.1)).mono ?_
     rintro e wd2 ⟨r2, rfl, hb, hr⟩
     have HC2_d2 := Lib.hid (show TyP wd2 r2 (x.app NM) by rw [HPW.out.2.1]; exact hr); clear hr
     have S_d2 := Lib.hid (S_d1.out.below hb)
     have M_d2 := Lib.hid (pairs_below M_d1.out hb)
     have E5_d2 := Lib.hid (ent_below E5_d1.out hb)
     have HA_d2 := Lib.hid (tyP_below HA_d1.out hb)
     have E8_d2 := Lib.hid (ent_below E8_d1.out hb)
     have HX_d2 := Lib.hid (tyP_below HX_d1.out hb)
     have E10_d2 := Lib.hid (ent_below E10_d1.out hb)
     have HY_d2 := Lib.hid (tyP_below HY_d1.out hb)
     have HC1_d2 := Lib.hid (tyP_below HC1_d1.out hb)
     have HB_d2 := Lib.hid (HB_d1.out.trans (hb.mono HB_d1.out.size))
     clear hb HB_d1 S_d1 M_d1 E5_d1 HA_d1 E8_d1 HX_d1 E10_d1 HY_d1 HC1_d1
     refine hK.out _ _ ⟨E8_d2.out, E10_d2.out, E5_d2.out⟩ (fun hHeld => ?_)
     clear hK K
     refine wpAnyH_ready (rs := [6]) (by kernel_rfl) (by simp) ?_
     refine AllReadyH.cons rfl (fun K hK => ?_) AllReadyH.nil
     go_simp
     refine (like_same HPW.out.1 r1 r2 wd2 HC1_d2.out HC2_d2.out (HTB.out wd2 HB_d2.out)).mono ?_
     rintro e wd3 ⟨rfl, hb⟩
     clear HC1_d2 HC2_d2
     have S_d3 := Lib.hid (S_d2.out.below hb)
     have M_d3 := Lib.hid (pairs_below M_d2.out hb)
     have E5_d3 := Lib.hid (ent_below E5_d2.out hb)
     have HA_d3 := Lib.hid (tyP_below HA_d2.out hb)
     have E8_d3 := Lib.hid (ent_below E8_d2.out hb)
     have HX_d3 := Lib.hid (tyP_below HX_d2.out hb)
     have E10_d3 := Lib.hid (ent_below E10_d2.out hb)
     have HY_d3 := Lib.hid (tyP_below HY_d2.out hb)
     have HB_d3 := Lib.hid (HB_d2.out.trans (hb.mono HB_d2.out.size))
     clear hb HB_d2 S_d2 M_d2 E5_d2 HA_d2 E8_d2 HX_d2 E10_d2 HY_d2
     refine hK.out _ _ ⟨E8_d3.out, E10_d3.out, E5_d3.out⟩ (fun hHeld => ?_)
     clear hK K
     refine wpAnyH_take (i := 7) (v := .bool false) rfl (by kernel_rfl) (by kernel_rfl) (by kernel_rfl) (fun _ _ _ h => h) (Or.inl ⟨by rfl, fun w' hSw => by go_simp⟩) hHeld ?_
     simp only [Act.put, List.getElem_toArray, List.getElem_cons_succ, List.getElem_cons_zero, List.setIfInBounds_toArray, List.set_cons_zero, List.set_cons_succ]
     refine wpAnyH_take (i := 8) (v := .bool false) rfl (by kernel_rfl) (by kernel_rfl) (by kernel_rfl) (fun _ _ _ h => h) (Or.inl ⟨by rfl, fun w' hSw => by go_simp⟩) hHeld ?_
     simp only [Act.put, List.getElem_toArray, List.getElem_cons_succ, List.getElem_cons_zero, List.setIfInBounds_toArray, List.set_cons_zero, List.set_cons_succ]
     refine wpAnyH_take (i := 9) (v := .map (some sb)) rfl (by kernel_rfl) (by kernel_rfl) (by kernel_rfl) (fun _ _ _ h => h) (Or.inl ⟨by go_simp, fun w' hSw => by go_simp⟩) hHeld ?_
     simp only [Act.put, List.getElem_toArray, List.getElem_cons_succ, List.getElem_cons_zero, List.setIfInBounds_toArray, List.set_cons_zero, List.set_cons_succ]
     refine wpAnyH_take (i := 10) (v := .agg #[.int .i64 (-1), .string ⟨#[97, 108, 108]⟩, .slice p5 6 c5]) rfl (by kernel_rfl) (by kernel_rfl) (by kernel_rfl) (fun _ _ _ h => h) (Or.inl ⟨by go_simp, fun w' hSw => by have h0 := ent_cell hSw.2.2 0 _ rfl; have h1 := ent_cell hSw.2.2 1 _ rfl; have h2 := ent_cell hSw.2.2 2 _ rfl; go_simp⟩) hHeld ?_
     simp only [Act.put, List.getElem_toArray, List.getElem_cons_succ, List.getElem_cons_zero, List.setIfInBounds_toArray, List.set_cons_zero, List.set_cons_succ]
     refine wpAnyH_take (i := 13) (v := lv2) rfl (by kernel_rfl) (by kernel_rfl) (by kernel_rfl) (fun _ _ _ h => h) (Or.inl ⟨by go_simp, fun w' hSw => by go_simp⟩) hHeld ?_
     simp only [Act.put, List.getElem_toArray, List.getElem_cons_succ, List.getElem_cons_zero, List.setIfInBounds_toArray, List.set_cons_zero, List.set_cons_succ]
     refine wpAnyH_take (i := 14) (v := .agg #[.int .i64 (-1), .string ⟨#[97, 108, 108]⟩, .slice p5 6 c5]) rfl (by kernel_rfl) (by kernel_rfl) (by kernel_rfl) (fun _ _ _ h => h) (Or.inl ⟨by go_simp, fun w' hSw => by have h0 := ent_cell hSw.2.2 0 _ rfl; have h1 := ent_cell hSw.2.2 1 _ rfl; have h2 := ent_cell hSw.2.2 2 _ rfl; go_simp⟩) hHeld ?_
     simp only [Act.put, List.getElem_toArray, List.getElem_cons_succ, List.getElem_cons_zero, List.setIfInBounds_toArray, List.set_cons_zero, List.set_cons_succ]
     refine wpAnyH_ready (rs := [11]) (by kernel_rfl) (by simp) ?_
     refine AllReadyH.cons rfl (fun K hK => ?_) AllReadyH.nil
     go_simp
     refine (apply_ok HPS.out.both.fine HN.out (t := Ux.allT) S_d3.out.p HA_d3.out HDM.out HPW.out.2.2.1).mono ?_
     rintro e wd4 ⟨r4, rfl, hb, hr⟩
     have HC1_d4 := Lib.hid hr; clear hr
     have S_d4 := Lib.hid (S_d3.out.below hb)
     have M_d4 := Lib.hid (pairs_below M_d3.out hb)
     have E5_d4 := Lib.hid (ent_below E5_d3.out hb)
     have HA_d4 := Lib.hid (tyP_below HA_d3.out hb)
     have E8_d4 := Lib.hid (ent_below E8_d3.out hb)
     have HX_d4 := Lib.hid (tyP_below HX_d3.out hb)
     have E10_d4 := Lib.hid (ent_below E10_d3.out hb)
     have HY_d4 := Lib.hid (tyP_below HY_d3.out hb)
     have HB_d4 := Lib.hid (HB_d3.out.trans (hb.mono HB_d3.out.size))
     clear hb HB_d3 S_d3 M_d3 E5_d3 HA_d3 E8_d3 HX_d3 E10_d3 HY_d3
     refine hK.out _ _ ⟨E8_d4.out, E10_d4.out, E5_d4.out⟩ (fun hHeld => ?_)
     clear hK K
     refine wpAnyH_ready (rs := [12]) (by kernel_rfl) (by simp) ?_
     refine AllReadyH.cons rfl (fun K hK => ?_) AllReadyH.nil
     go_simp
     refine (rcanon_ok HPW.out.2.2.1 r4 wd4 HC1_d4.out).mono ?_
     rintro e wd5 ⟨r5, rfl, hb, hr⟩
     have HC2_d5 := Lib.hid hr; clear hr HC1_d4
     have S_d5 := Lib.hid (S_d4.out.below hb)
     have M_d5 := Lib.hid (pairs_below M_d4.out hb)
     have E5_d5 := Lib.hid (ent_below E5_d4.out hb)
     have HA_d5 := Lib.hid (tyP_below HA_d4.out hb)
     have E8_d5 := Lib.hid (ent_below E8_d4.out hb)
     have HX_d5 := Lib.hid (tyP_below HX_d4.out hb)
     have E10_d5 := Lib.hid (ent_below E10_d4.out hb)
     have HY_d5 := Lib.hid (tyP_below HY_d4.out hb)
     have HB_d5 := Lib.hid (HB_d4.out.trans (hb.mono HB_d4.out.size))
     clear hb HB_d4 S_d4 M_d4 E5_d4 HA_d4 E8_d4 HX_d4 E10_d4 HY_d4
     refine hK.out _ _ ⟨E8_d5.out, E10_d5.out, E5_d5.out⟩ (fun hHeld => ?_)
     clear hK K
     refine wpAnyH_ready (rs := [15]) (by kernel_rfl) (by simp) ?_
     refine AllReadyH.cons rfl (fun K hK => ?_) AllReadyH.nil
     go_simp
     refine (apply_any _ _ L2 Ux.allT wd5 M_d5.out HA_d5.out (HPS.out.take (by decide))).mono ?_
     rintro e wd6 ⟨r6, rfl, hb, hr⟩
     have HC1_d6 := Lib.hid hr.now; clear hr
     have S_d6 := Lib.hid (S_d5.out.below hb)
     have M_d6 := Lib.hid (pairs_below M_d5.out hb)
     have E5_d6 := Lib.hid (ent_below E5_d5.out hb)
     have HA_d6 := Lib.hid (tyP_below HA_d5.out hb)
     have E8_d6 := Lib.hid (ent_below E8_d5.out hb)
     have HX_d6 := Lib.hid (tyP_below HX_d5.out hb)
     have E10_d6 := Lib.hid (ent_below E10_d5.out hb)
     have HY_d6 := Lib.hid (tyP_below HY_d5.out hb)
     have HC2_d6 := Lib.hid (tyP_below HC2_d5.out hb)
     have HB_d6 := Lib.hid (HB_d5.out.trans (hb.mono HB_d5.out.size))
     clear hb HB_d5 S_d5 M_d5 E5_d5 HA_d5 E8_d5 HX_d5 E10_d5 HY_d5 HC2_d5
     refine hK.out _ _ ⟨E8_d6.out, E10_d6.out, E5_d6.out⟩ (fun hHeld => ?_)
     clear hK K
     refine wpAnyH_ready (rs := [16]) (by kernel_rfl) (by simp) ?_
     refine AllReadyH.cons rfl (fun K hK => ?_) AllReadyH.nil
     go_simp
     refine (rcanon_ok HPW.out.2.2.2.1 r6 wd6 HC1_d6.out).mono ?_
     rintro e wd7 ⟨r7, rfl, hb, hr⟩
     have HC3_d7 := Lib.hid (show TyP wd7 r7 (Ux.canon (Ux.allT.app NM)) by rw [HPW.out.2.2.2.2]; exact hr); clear hr HC1_d6
     have S_d7 := Lib.hid (S_d6.out.below hb)
     have M_d7 := Lib.hid (pairs_below M_d6.out hb)
     have E5_d7 := Lib.hid (ent_below E5_d6.out hb)
     have HA_d7 := Lib.hid (tyP_below HA_d6.out hb)
     have E8_d7 := Lib.hid (ent_below E8_d6.out hb)
     have HX_d7 := Lib.hid (tyP_below HX_d6.out hb)
     have E10_d7 := Lib.hid (ent_below E10_d6.out hb)
     have HY_d7 := Lib.hid (tyP_below HY_d6.out hb)
     have HC2_d7 := Lib.hid (tyP_below HC2_d6.out hb)
     have HB_d7 := Lib.hid (HB_d6.out.trans (hb.mono HB_d6.out.size))
     clear hb HB_d6 S_d6 M_d6 E5_d6 HA_d6 E8_d6 HX_d6 E10_d6 HY_d6 HC2_d6
     refine hK.out _ _ ⟨E8_d7.out, E10_d7.out, E5_d7.out⟩ (fun hHeld => ?_)
     clear hK K
     refine wpAnyH_ready (rs := [17]) (by kernel_rfl) (by simp) ?_
     refine AllReadyH.cons rfl (fun K hK => ?_) AllReadyH.nil
     go_simp
     refine (like_same (okT_canon HPW.out.2.2.1) r5 r7 wd7 HC2_d7.out HC3_d7.out (HTB.out wd7 HB_d7.out)).mono ?_
     rintro e wd8 ⟨rfl, hb⟩
     clear HC2_d7 HC3_d7
     have S_d8 := Lib.hid (S_d7.out.below hb)
     have M_d8 := Lib.hid (pairs_below M_d7.out hb)
     have E5_d8 := Lib.hid (ent_below E5_d7.out hb)
     have HA_d8 := Lib.hid (tyP_below HA_d7.out hb)
     have E8_d8 := Lib.hid (ent_below E8_d7.out hb)
     have HX_d8 := Lib.hid (tyP_below HX_d7.out hb)
     have E10_d8 := Lib.hid (ent_below E10_d7.out hb)
     have HY_d8 := Lib.hid (tyP_below HY_d7.out hb)
     have HB_d8 := Lib.hid (HB_d7.out.trans (hb.mono HB_d7.out.size))
     clear hb HB_d7 S_d7 M_d7 E5_d7 HA_d7 E8_d7 HX_d7 E10_d7 HY_d7
     refine hK.out _ _ ⟨E8_d8.out, E10_d8.out, E5_d8.out⟩ (fun hHeld => ?_)
     clear hK K
     refine wpAnyH_take (i := 18) (v := .bool false) rfl (by kernel_rfl) (by kernel_rfl) (by kernel_rfl) (fun _ _ _ h => h) (Or.inl ⟨by go_simp, fun w' hSw => by go_simp⟩) hHeld ?_
     simp only [Act.put, List.getElem_toArray, List.getElem_cons_succ, List.getElem_cons_zero, List.setIfInBounds_toArray, List.set_cons_zero, List.set_cons_succ]
     refine wpAnyH_take (i := 19) (v := .bool false) rfl (by kernel_rfl) (by kernel_rfl) (by kernel_rfl) (fun _ _ _ h => h) (Or.inl ⟨by rfl, fun w' hSw => by go_simp⟩) hHeld ?_
     simp only [Act.put, List.getElem_toArray, List.getElem_cons_succ, List.getElem_cons_zero, List.setIfInBounds_toArray, List.set_cons_zero, List.set_cons_succ]
     refine wpAnyH_done (by kernel_rfl) ?_ _
     clear hHeld
     go_wp2_with fail
     go_roundw
     case rel => exact ⟨a + 2, q + 1, E ++ [(x, y)], f2, L2, by go_num, by have := HF.out.1; omega, Lib.hid (by have := HQ.out; omega), HPS, S_d8, M_d8, E5_d8, HA_d8, HB_d8⟩
     case measure => simp [intOf]; omega
end Go.Proofs.YtcblppojnailpaaDoor
namespace Go.Proofs.YtcblppojnailpaaDoor
open Go.ChangeShapes Go.WideShapes Go.ChangeAt Go.RowKit
theorem own : ownKnob Tryd.prog.godebug = none := by kernel_rfl
theorem laidOut : laidOutB Tryd.prog = true := by kernel_rfl
theorem gPow : Tryd.prog.globalNamed "internal/strconv.uint64pow10" = some 0 := by kernel_rfl
theorem gPowType : (Tryd.prog.globals[0]?).map (·.type) = some 143 := by kernel_rfl
theorem cellsPow : Tryd.prog.cellsOf 143 = 20 := by kernel_rfl
theorem cellsU64 : Tryd.prog.cellsOf 137 = 1 := by kernel_rfl
theorem bytesU8 : Tryd.prog.bytesOf 5 = 1 := by kernel_rfl
def laidList : List (String × DataW Unit) := [("math/bits.deBruijn32tab", Rows.laid_math_bits_deBruijn32tab), ("math/bits.deBruijn64tab", Rows.laid_math_bits_deBruijn64tab), ("internal/strconv.uint64pow10", Rows.laid_internal_strconv_uint64pow10)]
noncomputable def laidWorld (os : Os) : World :=
 let w0 := World.holding Tryd.prog os ⟨#[], #[], []⟩
 { w0 with heap := ((w0.heap.modify 0 fun
  | .cells _ t frozen => .cells #[.int .u64 1, .int .u64 10, .int .u64 100, .int .u64 1000, .int .u64 10000, .int .u64 100000, .int .u64 1000000, .int .u64 10000000, .int .u64 100000000, .int .u64 1000000000, .int .u64 10000000000, .int .u64 100000000000, .int .u64 1000000000000, .int .u64 10000000000000, .int .u64 100000000000000, .int .u64 1000000000000000, .int .u64 10000000000000000, .int .u64 100000000000000000, .int .u64 1000000000000000000, .int .u64 10000000000000000000] t frozen
  | o => o).modify 1 fun
  | .cells _ t frozen => .cells #[.int .u8 0, .int .u8 1, .int .u8 28, .int .u8 2, .int .u8 29, .int .u8 14, .int .u8 24, .int .u8 3, .int .u8 30, .int .u8 22, .int .u8 20, .int .u8 15, .int .u8 25, .int .u8 17, .int .u8 4, .int .u8 8, .int .u8 31, .int .u8 27, .int .u8 13, .int .u8 23, .int .u8 21, .int .u8 19, .int .u8 16, .int .u8 7, .int .u8 26, .int .u8 12, .int .u8 18, .int .u8 6, .int .u8 11, .int .u8 5, .int .u8 10, .int .u8 9] t frozen
  | o => o).modify 2 fun
  | .cells _ t frozen => .cells #[.int .u8 0, .int .u8 1, .int .u8 56, .int .u8 2, .int .u8 57, .int .u8 49, .int .u8 28, .int .u8 3, .int .u8 61, .int .u8 58, .int .u8 42, .int .u8 50, .int .u8 38, .int .u8 29, .int .u8 17, .int .u8 4, .int .u8 62, .int .u8 47, .int .u8 59, .int .u8 36, .int .u8 45, .int .u8 43, .int .u8 51, .int .u8 22, .int .u8 53, .int .u8 39, .int .u8 33, .int .u8 30, .int .u8 24, .int .u8 18, .int .u8 12, .int .u8 5, .int .u8 63, .int .u8 55, .int .u8 48, .int .u8 27, .int .u8 60, .int .u8 41, .int .u8 37, .int .u8 16, .int .u8 46, .int .u8 35, .int .u8 44, .int .u8 21, .int .u8 52, .int .u8 32, .int .u8 23, .int .u8 11, .int .u8 54, .int .u8 26, .int .u8 40, .int .u8 15, .int .u8 34, .int .u8 20, .int .u8 31, .int .u8 10, .int .u8 25, .int .u8 14, .int .u8 19, .int .u8 9, .int .u8 13, .int .u8 8, .int .u8 7, .int .u8 6] t frozen
  | o => o }
set_option maxRecDepth 100000 in
theorem laidWorld_met (os : Os) (args : Array Value) : laidMet Tryd.prog laidList ((laidWorld os).forCall (fun _ _ => 0) ⟨#[], args, []⟩).memory :=
 laidMet_of_run' 8 (by kernel_rfl) (by kernel_rfl)
theorem pow_table {W : World} (h : laidMetH Tryd.prog laidList W) : Lib.TabIs Tryd.prog W "internal/strconv.uint64pow10" .u64 Lib.pow10Tab := by
 have h2 := laidMet.tail (laidMet.tail h)
 exact Lib.tabIs_of_head gPow gPowType Tryd.underlying143 Tryd.underlying137 cellsU64 cellsPow h2
end Go.Proofs.YtcblppojnailpaaDoor
namespace Go.Proofs.YtcblppojnailpaaDoor
open Go Go.RowKit Go.ChangeShapes Go.WideShapes
set_option linter.unusedVariables false
set_option linter.unusedSimpArgs false
theorem cell_at {cs : List Value} {i : Nat} {u : Value} (h : (cs.drop i).take 1 = [u]) : cs[i]? = some u := by
 have : ((cs.drop i).take 1)[0]? = some u := by rw [h]; rfl
 rw [List.getElem?_take, List.getElem?_drop] at this
 simpa using this
theorem open_node {H : Type} {enc : TypeId × Value → H} {w : World} {base n : Nat} {sp : Nat → Bool} {held : Bool} {cs : List Value} {y : DataW H × List MemPlace}
 (h : DataW.trod enc Tryd.prog w base sp held n 61 cs = some y) :
 ∃ x : Ux.Nod, cs = [.int .i8 x.var, .int .u8 (x.name : Int), .int .u8 (x.args : Int)] ∧ -128 ≤ x.var ∧ x.var ≤ 127 ∧ x.name ≤ 255 ∧ x.args ≤ 255 := by
 obtain ⟨xs, m, _, _, hl, hx, hf⟩ := DataW.trod_struct Tryd.underlying61 h
 have hl3 : cs.length = 3 := hl.trans (by kernel_rfl)
 have get : ∀ i, i < 3 → ∃ z, xs[i]? = some z := fun i hi => ⟨_, List.getElem?_eq_getElem (by rw [hx]; exact hi)⟩
 obtain ⟨z0, e0⟩ := get 0 (by omega)
 obtain ⟨z1, e1⟩ := get 1 (by omega)
 obtain ⟨z2, e2⟩ := get 2 (by omega)
 have ki : Tryd.prog.cellsOf 59 = 1 := by kernel_rfl
 have ku : Tryd.prog.cellsOf 5 = 1 := by kernel_rfl
 have g0 : DataW.trod enc Tryd.prog w base sp held m 59 ((cs.drop 0).take (Tryd.prog.cellsOf 59)) = some z0 := (hf 0 _ rfl).trans e0
 rw [ki] at g0
 have g1 : DataW.trod enc Tryd.prog w base sp held m 5 ((cs.drop 1).take (Tryd.prog.cellsOf 5)) = some z1 := (hf 1 _ rfl).trans e1
 rw [ku] at g1
 have g2 : DataW.trod enc Tryd.prog w base sp held m 5 ((cs.drop 2).take (Tryd.prog.cellsOf 5)) = some z2 := (hf 2 _ rfl).trans e2
 rw [ku] at g2
 obtain ⟨a, c0, _, w0⟩ := DataW.trod_int Tryd.underlying59 g0
 obtain ⟨b, c1, _, w1⟩ := DataW.trod_int Tryd.underlying5 g1
 obtain ⟨c, c2, _, w2⟩ := DataW.trod_int Tryd.underlying5 g2
 have d0 : cs[0]? = some (.int .i8 a) := cell_at c0
 have d1 : cs[1]? = some (.int .u8 b) := cell_at c1
 have d2 : cs[2]? = some (.int .u8 c) := cell_at c2
 have b0 := bounds_i8 w0
 have b1 := bounds_u8 w1
 have b2 := bounds_u8 w2
 clear hf hx e0 e1 e2 g0 g1 g2 c0 c1 c2 h
 obtain ⟨q0, q1, q2, rfl⟩ : ∃ q0 q1 q2, cs = [q0, q1, q2] := by
  rcases cs with _ | ⟨q0, _ | ⟨q1, _ | ⟨q2, _ | ⟨q3, r⟩⟩⟩⟩ <;> simp at hl3
  exact ⟨q0, q1, q2, rfl⟩
 simp only [List.getElem?_cons_zero, List.getElem?_cons_succ, Option.some.injEq] at d0 d1 d2
 subst d0 d1 d2
 refine ⟨⟨a, b.toNat, c.toNat⟩, ?_, b0.1, b0.2, by show b.toNat ≤ 255; omega, by show c.toNat ≤ 255; omega⟩
 have hb : ((b.toNat : Nat) : Int) = b := by omega
 have hc : ((c.toNat : Nat) : Int) = c := by omega
 simp only [hb, hc]
theorem pick_row {α : Type} [Inhabited α] (n : Nat) (Q : Nat → α → Prop) (h : ∀ i, i < n → ∃ x, Q i x) : ∃ l : List α, l.length = n ∧ ∀ i x, l[i]? = some x → Q i x := by
 induction n with
 | zero => exact ⟨[], rfl, fun i x hx => by simp at hx⟩
 | succ n ih =>
   obtain ⟨l, hl, hq⟩ := ih fun i hi => h i (by omega)
   obtain ⟨x, hx⟩ := h n (by omega)
   refine ⟨l ++ [x], by simp [hl], fun i y hy => ?_⟩
   by_cases hi : i < n
   · rw [List.getElem?_append_left (by omega)] at hy; exact hq i y hy
   · have hin : i = n := by
      have := (List.getElem?_eq_some_iff.1 hy).1
      simp at this; omega
     subst hin
     rw [List.getElem?_append_right (by omega), hl] at hy
     simp at hy; subst hy; exact hx
instance : Inhabited Ux.Nod := ⟨⟨0, 0, 0⟩⟩
theorem open_nodes {H : Type} {enc : TypeId × Value → H} {W : World} {a0 : Option Addr} {len0 cap0 : Nat} {d0 : DataW H} {p0 : List MemPlace} {Ts : List TypeId} {Ds : List (DataW H)} (jj : Nat) (hjt : Ts[jj]? = some 33) (hjd : Ds[jj]? = some d0)
 (h : DataW.Trod enc Tryd.prog W 0 (fun _ => true) true 33 (.slice a0 len0 cap0) d0 p0) (hreach : (DataW.weightsEach Tryd.prog Ts Ds).all (· ≤ reachBytes) = true) :
 ∃ l : List Ux.Nod, RowAt 3 NodV W (.slice a0 len0 cap0) l := by
 obtain ⟨fuel, hf⟩ := h
 rcases Deep.open_slice Tryd.underlying33 hf with ⟨hcs, _⟩ | ⟨a, len, cap, m, n, D, Pl, hcs, _, hl, hm, hmm, hx, hall⟩
 · simp [Value.cells] at hcs
   obtain ⟨rfl, rfl, rfl⟩ := hcs
   exact ⟨[], .inl ⟨rfl, none, 0, rfl⟩⟩
 · simp [Value.cells] at hcs
   obtain ⟨rfl, rfl, rfl⟩ := hcs
   simp only [if_true] at hmm
   subst hmm
   simp only [Prod.mk.injEq] at hx
   have hd : d0 = _ := hx.1
   have hcap : m ≤ 1000000000000000 := by
    have this := sized_slice hreach (j := jj) (t := 33) (e := 61) hjt (by rw [hjd, hd]) Tryd.underlying33
    rw [show Tryd.prog.bytesOf 61 = 3 by kernel_rfl] at this
    simp only [List.length_map, List.length_range, reachBytes] at this
    omega
   rw [show Tryd.prog.cellsOf 61 = 3 by kernel_rfl] at hall
   obtain ⟨l, hll, hlq⟩ := pick_row len0 (fun i (x : Ux.Nod) => (-128 ≤ x.var ∧ x.var ≤ 127 ∧ x.name ≤ 255 ∧ x.args ≤ 255) ∧ ∀ j z, ([.int .i8 x.var, .int .u8 (x.name : Int), .int .u8 (x.args : Int)] : List Value)[j]? = some z → W.cell? (a.add (i * 3 + j)) = some z) (fun i hi => by
    obtain ⟨cs', hc, ht⟩ := hall i (by omega)
    obtain ⟨x, rfl, hok⟩ := open_node ht
    refine ⟨x, hok, fun j z hz => ?_⟩
    obtain ⟨_, hlen, hcell⟩ := World.cells?_some hc
    have hj : j < 3 := by have := (List.getElem?_eq_some_iff.1 hz).1; simpa using this
    have := hcell j hj
    rw [hz] at this
    rw [Addr.add_add] at this
    exact this)
   by_cases h0 : len0 = 0
   · subst h0
     have : l = [] := List.length_eq_zero_iff.1 hll
     subst this
     exact ⟨[], .inl ⟨rfl, some a, m, rfl⟩⟩
   · obtain ⟨x, hx0⟩ : ∃ x, l[0]? = some x := ⟨_, List.getElem?_eq_getElem (by omega)⟩
     have hc0 := (hlq 0 x hx0).2 0 _ rfl
     obtain ⟨b, o, spot⟩ := a
     have hspot : spot = none := by simpa [Addr.add] using World.cell?_spot hc0
     subst hspot
     refine ⟨l, .inr ⟨b, o, m, by rw [hll], by omega, by omega, fun i y hy => ⟨_, ⟨rfl, (hlq i y hy).1⟩, rfl, fun j z hz => ?_⟩⟩⟩
     have hz' : ([.int .i8 y.var, .int .u8 (y.name : Int), .int .u8 (y.args : Int)] : List Value)[j]? = some z := by simpa [Value.cells] using hz
     have := (hlq i y hy).2 j z hz'
     have e : ((⟨b, o, none⟩ : Addr).add (i * 3 + j)) = ⟨b, o + i * 3 + j, none⟩ := by simp [Addr.add, Nat.add_assoc]
     rw [e] at this
     exact this
end Go.Proofs.YtcblppojnailpaaDoor
