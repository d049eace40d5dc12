/-
  Several texts in one: URText, UTxB, UTxA, UTx, UEach, URVars, URCanon.
-/
import Derived.Test.YtcblppojnailpaaDoorH12
import Derived.Test.YtcblppojnailpaaDoorH07
import Derived.Test.YtcblppojnailpaaDoorH02
import Derived.BigRegion
import Derived.Deep.RegionLaw
import Derived.Test.YtcblppojnailpaaDoorH03
import Derived.Test.YtcblppojnailpaaDoorH04
import Derived.BigQuiet
import Derived.WalkSmall
namespace Go.Proofs.YtcblppojnailpaaDoor
open Go Go.RowKit
set_option linter.unusedVariables false
set_option linter.unusedSimpArgs false
/-- Variables that are numbers. -/
def Low (t : Ux.Ty) : Prop := ∀ n ∈ t.vs, n ≤ 9000000000000000000
theorem low_v {n : Nat} (h : Low (.v n)) : n ≤ 9000000000000000000 := h n (by rw [Ux.vs_v]; simp)
theorem low_in {nm : List UInt8} {xs : List Ux.Ty} (h : Low (.a nm xs)) {x : Ux.Ty} (hx : x ∈ xs) : Low x := fun n hn => h n (by rw [Ux.vs_a]; exact List.mem_flatMap.2 ⟨x, hx, hn⟩)
/-- The text up to some part of the list. -/
def partT (nm : List UInt8) (xs : List Ux.Ty) (k : Nat) : List UInt8 := 40 :: nm ++ (xs.take k).flatMap fun x => 32 :: Ux.textT x
theorem partT_len (nm : List UInt8) (xs : List Ux.Ty) (k : Nat) : (partT nm xs k).length ≤ (partT nm xs xs.length).length := by
 unfold partT
 rw [List.take_length]
 have e : xs = xs.take k ++ xs.drop k := (List.take_append_drop k xs).symm
 conv => rhs; rw [e]
 rw [List.flatMap_append]
 simp only [List.length_append]; omega
theorem partT_succ (nm : List UInt8) (xs : List Ux.Ty) (k : Nat) (x : Ux.Ty) (h : xs[k]? = some x) : partT nm xs (k + 1) = partT nm xs k ++ (32 :: Ux.textT x) := by
 unfold partT
 rw [List.take_add_one, h, List.flatMap_append]
 simp
theorem partT_all (nm : List UInt8) (xs : List Ux.Ty) (h : xs ≠ []) : Ux.textT (.a nm xs) = partT nm xs xs.length ++ [41] := by
 obtain ⟨x, r, rfl⟩ := List.exists_cons_of_ne_nil h
 rw [Ux.textT_cons, Ux.textR_flat]
 unfold partT
 rw [List.take_length]
 simp
def RTextC (t : Ux.Ty) : Prop := ∀ (v : Value) (w : World), TyP w v t → Low t → (Ux.textT t).length ≤ 800000000000 → Lib.TabIs Tryd.prog w "internal/strconv.uint64pow10" .u64 Lib.pow10Tab →
 Calls Tryd.prog 12 #[v] w fun e w' => e = .returned (.string ⟨(Ux.textT t).toArray⟩) ∧ Below w.heap.size w w'
set_option maxHeartbeats 4000000 in
set_option maxRecDepth 100000 in
theorem refText_any (t : Ux.Ty) : RTextC t := by
 induction t using Ux.Ty.ind with
 | hv m =>
   intro v w ht hlow hlen htab
   obtain ⟨s, q, j, c, rfl⟩ := tyP_v.1 ht
   have hm0 : (0 : Int) ≤ (m : Int) := by omega
   have hmx := low_v hlow
   have HT := Lib.hid htab
   have HX : Hid (Ux.textT (.v m) = 116 :: Lib.itoa m) := Lib.hid (Ux.textT_v m)
   have hil := Lib.itoa_length_le (m : Int) (by omega) (by omega)
   rw [HX.out]
   clear ht hlow hlen htab
   go_enter Tryd.func12, Tryd.ntmps12
   have ET := Lib.hid (ent_new w #[.int .i64 m, .string s, .slice q j c] 30)
   have HB := Lib.hid (show Below w.heap.size w (w.alloc (.cells #[.int .i64 m, .string s, .slice q j c] 30)) from (Below.refl _ _).alloc (Nat.le_refl _) _)
   go_upto_region 1 with fail
   generalize w.alloc (.cells #[.int .i64 m, .string s, .slice q j c] 30) = w1 at ET HB ⊢
   have t0 := ent_cell ET.out 0 _ rfl
   have hadd := Lib.hid (fun w : World => add_texts (w := w) [116] (Lib.itoa m) (by simp; omega))
   go_wp2_with fail
   refine (itoa_any m (by omega) (by omega) w1 ((Lib.tabBelow_of_tabIs HT.out) w1 HB.out)).mono ?_
   rintro e w2 ⟨rfl, hb2⟩
   have HB2 := Lib.hid (HB.out.trans (hb2.mono HB.out.size))
   clear hb2 t0
   have ha := hadd.out w2
   go_wp2_with fail
   go_ret
   exact ⟨rfl, HB2.out⟩
 | ha nm xs ih =>
   intro v w ht hlow hlen htab
   obtain ⟨kt, av, hkt, rfl, hx, _⟩ := tyP_a.1 ht
   obtain ⟨q, cp, rfl⟩ := hx.len
   have HX := Lib.hid hx; have HIH := Lib.hid ih; have HT := Lib.hid htab; have HLOW := Lib.hid hlow; have HLEN := Lib.hid hlen
   clear ht hlow hlen htab hx ih
   go_enter Tryd.func12, Tryd.ntmps12
   have ET := Lib.hid (ent_new w #[.int .i64 kt, .string ⟨nm.toArray⟩, .slice q xs.length cp] 30)
   have HB := Lib.hid (show Below w.heap.size w (w.alloc (.cells #[.int .i64 kt, .string ⟨nm.toArray⟩, .slice q xs.length cp] 30)) from (Below.refl _ _).alloc (Nat.le_refl _) _)
   go_upto_region 1 with fail
   generalize w.alloc (.cells #[.int .i64 kt, .string ⟨nm.toArray⟩, .slice q xs.length cp] 30) = w1 at ET HB ⊢
   have t0 := ent_cell ET.out 0 _ rfl
   have t1 := ent_cell ET.out 1 _ rfl
   have t2 := ent_cell ET.out 2 _ rfl
   by_cases hnil : xs = []
   · subst hnil
     have HE : Hid (Ux.textT (.a nm []) = nm) := Lib.hid (Ux.textT_nil nm)
     have l0 : ([] : List Ux.Ty).length = 0 := rfl
     rw [l0] at t2
     go_wp2_with fail
     go_ret
     exact ⟨by rw [HE.out]; rfl, HB.out⟩
   have hpos := List.length_pos_iff.2 hnil
   have HE := Lib.hid (partT_all nm xs hnil)
   have HPL : Hid ((partT nm xs xs.length).length ≤ 799999999999) := Lib.hid (by have := HLEN.out; rw [HE.out, List.length_append] at this; simp at this; omega)
   obtain ⟨n0, hn0⟩ : ∃ n0, n0 = xs.length := ⟨_, rfl⟩
   rw [← hn0] at t2 ET hpos ⊢
   have HN := Lib.hid hn0
   clear hn0
   have b0 : ((n0 : Int) == 0) = false := by simp; omega
   have hadd := add_texts (w := w1) [40] nm (by have := HPL.out; have h2 := partT_len nm xs 0; unfold partT at h2 this; simp at h2 this ⊢; omega)
   rw [show [40] ++ nm = partT nm xs 0 by unfold partT; simp] at hadd
   go_wp2_with fail
   clear t0 t1 t2 hadd
   go_loopw [3, 4] (fun sv i wr => ∃ j : Nat, i = .int .i64 j ∧ j ≤ n0 ∧ sv = .string ⟨(partT nm xs j).toArray⟩ ∧ Hid (wr.heap[w.heap.size]? = some (.cells #[.int .i64 kt, .string ⟨nm.toArray⟩, .slice q n0 cp] 30 (0, 0))) ∧ Hid (Below w.heap.size w wr)) (fun _ i _ => n0 - (intOf i).toNat)
   case atStart => exact ⟨0, rfl, Nat.zero_le _, rfl, ET, HB⟩
   case round =>
    clear ET HB
    obtain ⟨j, rfl, hj, rfl, ET, HB⟩ := hrel
    have t2 := ent_cell ET.out 2 _ rfl
    by_cases hlt : j < n0
    · obtain ⟨x, hx1⟩ : ∃ x, xs[j]? = some x := ⟨_, List.getElem?_eq_getElem (by have := HN.out; omega)⟩
      have HPS := Lib.hid (partT_succ nm xs j x hx1)
      have HPJ := Lib.hid (partT_len nm xs j)
      have HPJ1 := Lib.hid (partT_len nm xs (j + 1))
      have hmem := List.mem_of_getElem? hx1
      rcases HX.out with ⟨h0, _⟩ | ⟨g, of, c', hv, g1, g2, g3⟩
      · exact absurd h0 hnil
      injection hv with hq1 _ hq2
      subst hq1; subst hq2
      obtain ⟨u, hu, _, hcell⟩ := g3 j x hx1
      obtain ⟨a0, a1, uq, un, uc, rfl⟩ := tyP_sh hu
      have up : ∀ j' z, (Value.agg #[.int .i64 a0, .string a1, .slice uq un uc]).cells[j']? = some z → wr.cell? ⟨g, of + j * 3 + j', none⟩ = some z := fun j' z hz => cell_up HB.out (hcell j' z hz)
      have x0 : wr.cell? ⟨g, of + j * 3, none⟩ = some (.int .i64 a0) := up 0 _ rfl
      have x1 : wr.cell? ⟨g, of + j * 3 + 1, none⟩ = some (.string a1) := up 1 _ rfl
      have x2 : wr.cell? ⟨g, of + j * 3 + 2, none⟩ = some (.slice uq un uc) := up 2 _ rfl
      have hk1 : (j : Int) < (n0 : Int) := by omega
      have hk2 : (n0 : Int) ≤ (cp : Int) := by have := HN.out; omega
      have hk3 := g2
      have HC := Lib.hid (HIH.out x hmem _ wr (tyP_below hu HB.out) (low_in HLOW.out hmem) (by have h1 := HPS.out; have h2 := HPJ1.out; have h3 := HPL.out; rw [h1, List.length_append] at h2; simp at h2; omega) ((Lib.tabBelow_of_tabIs HT.out) wr HB.out))
      obtain ⟨S, hS⟩ : ∃ S, S = Ux.textT x := ⟨_, rfl⟩
      rw [← hS] at HC HPS
      obtain ⟨P, hP⟩ : ∃ P, P = partT nm xs j := ⟨_, rfl⟩
      rw [← hP] at HPS HPJ ⊢
      obtain ⟨P1, hP1⟩ : ∃ P1, P1 = partT nm xs (j + 1) := ⟨_, rfl⟩
      rw [← hP1] at HPS HPJ1
      have HP1 := Lib.hid hP1
      clear hP hP1 hS up g1 g2 g3 hcell hu hx1 hmem
      have hA1 := Lib.hid (fun w : World => add_texts (w := w) [32] S (by have h1 := HPS.out; have h2 := HPJ1.out; have h3 := HPL.out; rw [h1, List.length_append] at h2; simp at h2 ⊢; omega))
      have hA2 := Lib.hid (fun w : World => add_texts (w := w) P (32 :: S) (by have h1 := HPS.out; have h2 := HPJ1.out; have h3 := HPL.out; rw [h1, List.length_append] at h2; omega))
      go_wp2_with fail
      refine HC.out.mono ?_
      rintro e w2 ⟨rfl, hb2⟩
      have ET2 := Lib.hid (ent_below ET.out hb2)
      have HB2 := Lib.hid (HB.out.trans (hb2.mono HB.out.size))
      clear hb2 x0 x1 x2 t2
      have ha1 := hA1.out w2
      have ha2 := hA2.out w2
      rw [← HPS.out] at ha2
      rw [show [32] ++ S = 32 :: S from rfl] at ha1
      go_wp2_with fail
      go_roundw
      case rel => exact ⟨j + 1, by go_num, by omega, by rw [HP1.out], ET2, HB2⟩
      case measure => simp [intOf]; omega
    · obtain rfl : j = n0 := by omega
      have ha3 := add_texts (w := wr) (partT nm xs j) [41] (by have h1 := HPL.out; have h2 := HN.out; rw [← h2] at h1; simp; omega)
      rw [show partT nm xs j ++ [41] = Ux.textT (.a nm xs) by rw [HE.out, HN.out]] at ha3
      go_wp2_with fail
      go_ret
      exact ⟨rfl, HB.out⟩
end Go.Proofs.YtcblppojnailpaaDoor
namespace Go.Proofs.YtcblppojnailpaaDoor
open Go Go.RowKit
set_option linter.unusedVariables false
set_option linter.unusedSimpArgs false
/-- What of a list is still to be written. -/
def FrV (w0 : World) (v : Value) (xs : List Ux.Ty) : Prop := RowAt 3 (TyP w0) w0 v xs
theorem eltFr : Elt 86 28 (.slice none 0 0) 1 24 := ⟨Tryd.underlying86, by kernel_rfl, rfl, by decide, by decide⟩
/-- The writer: what was written, and the lists that are open. -/
def WSt (B : Nat) (w0 w : World) (T : List UInt8) (L : List (List Ux.Ty)) : Prop :=
 ∃ (cs : Array Value) (ov : Value) (vals : List Value), Sw.WB 88 3 w0.heap.size B w cs T ∧ cs[2]? = some ov ∧ w.ownsRow w0.heap.size 28 1 ov L.length vals ∧ vals.length = L.length ∧ (∀ (i : Nat) (xs : List Ux.Ty), L[i]? = some xs → ∃ v, vals[i]? = some v ∧ FrV w0 v xs) ∧ Below w0.heap.size w0 w
theorem WSt.size0 {B : Nat} {w0 w : World} {T : List UInt8} {L : List (List Ux.Ty)} (h : WSt B w0 w T L) : w0.heap.size ≤ w.heap.size := by obtain ⟨_, _, _, _, _, _, _, _, h⟩ := h; exact h.size
theorem WSt.lt {B : Nat} {w0 w : World} {T : List UInt8} {L : List (List Ux.Ty)} (h : WSt B w0 w T L) : B < w.heap.size := by obtain ⟨_, _, _, h, _⟩ := h; exact h.lt
theorem WB_below {TT : TypeId} {k lo B : Nat} {w w' : World} {cs : Array Value} {T : List UInt8} (h : Sw.WB TT k lo B w cs T) (hb : Below w.heap.size w w') : Sw.WB TT k lo B w' cs T := by
 obtain ⟨bv, b1, b2⟩ := h.own
 exact ⟨ent_below h.heap hb, h.size, h.low, h.addr, bv, b1, own_kept b2 hb⟩
theorem WSt.below {B : Nat} {w0 w w' : World} {T : List UInt8} {L : List (List Ux.Ty)} (h : WSt B w0 w T L) (hb : Below w.heap.size w w') : WSt B w0 w' T L := by
 obtain ⟨cs, ov, vals, h1, h2, h3, h4, h5, h6⟩ := h
 exact ⟨cs, ov, vals, WB_below h1 hb, h2, own_kept h3 hb, h4, h5, h6.trans (hb.mono h6.size)⟩
theorem own_keepB {B lo : Nat} {w w' : World} {E : TypeId} {v : Value} {n : Nat} {xs : List Value} {cs : Array Value} {TT : TypeId} (h : w.ownsRow lo E 1 v n xs) (hE : E ≠ 5) (hB : w.heap[B]? = some (.cells cs TT (0, 0))) (hT : TT ≠ E) (hk : Sw.KeepB B w w') : w'.ownsRow lo E 1 v n xs := by
 refine own_same h fun k hk' => ?_
 rcases h.2 with ⟨rfl, _⟩ | ⟨g, cap, cur, rfl, _, hg, _⟩
 · simp [Value.ownBlock] at hk'
 · simp only [Value.ownBlock, Option.some.injEq] at hk'
   subst hk'
   rw [hg]
   refine hk.2 g _ hg (fun e => ?_) (fun cs' fr e => ?_)
   · subst e; rw [hB] at hg; injection hg with hg; injection hg with _ hg _; exact hT hg
   · injection e with _ e _; exact hE e
/-- Behind a call of the builder. -/
theorem WSt.wrote {B : Nat} {w0 w w' : World} {T T' : List UInt8} {L : List (List Ux.Ty)} {cs cs' : Array Value} {ov : Value} {vals : List Value} (h : WSt B w0 w T L) (h2 : cs[2]? = some ov) (h3 : w.ownsRow w0.heap.size 28 1 ov L.length vals) (h4 : vals.length = L.length) (h5 : ∀ (i : Nat) (xs : List Ux.Ty), L[i]? = some xs → ∃ v, vals[i]? = some v ∧ FrV w0 v xs) (h6 : Below w0.heap.size w0 w)
 (g1 : Sw.WB 88 3 w0.heap.size B w' cs' T') (g2 : ∀ j, 2 ≤ j → cs'[j]? = cs[j]?) (g3 : Below w0.heap.size w w') (g4 : Sw.KeepB B w w') : WSt B w0 w' T' L := by
 obtain ⟨cs0, _, _, h1, _⟩ := h
 exact ⟨cs', ov, vals, g1, (g2 2 (by decide)).trans h2, own_keepB h3 (by decide) h1.heap (by decide) g4, h4, h5, h6.trans g3⟩
/-- Behind a store of the list that is open. -/
theorem WSt.store {B : Nat} {w0 w w2 : World} {T : List UInt8} {L : List (List Ux.Ty)} {cs : Array Value} {ov : Value} {vals : List Value} (h1 : Sw.WB 88 3 w0.heap.size B w cs T) (hw : Sw.WB 88 3 w0.heap.size B w2 cs T) (h3 : w2.ownsRow w0.heap.size 28 1 ov L.length vals) (h4 : vals.length = L.length) (h5 : ∀ (i : Nat) (xs : List Ux.Ty), L[i]? = some xs → ∃ v, vals[i]? = some v ∧ FrV w0 v xs) (h6 : Below w0.heap.size w0 w2) : WSt B w0 (w2.setCell ⟨B, 2, none⟩ ov) T L := by
 obtain ⟨bv, b1, b2⟩ := hw.own
 have hs := hw.size
 refine ⟨cs.setIfInBounds 2 ov, ov, vals, ⟨ent_set hw.heap 2 ov, Sw.set_size hs _ _, hw.low, by rw [Sw.set_other _ _ _ _ (by decide)]; exact hw.addr, bv, by rw [Sw.set_other _ _ _ _ (by decide)]; exact b1, Sw.own_set b2 (Lib.ownBlock_ne b2 hw.heap (by decide))⟩, Sw.set_get _ _ _ (by omega), Sw.own_set h3 (Lib.ownBlock_ne h3 hw.heap (by decide)), h4, h5, h6.setCell (p := ⟨B, 2, none⟩) hw.low ov⟩
theorem WB_chg {TT : TypeId} {k lo B : Nat} {R : Nat → Prop} {w w' : World} {cs : Array Value} {T : List UInt8} (h : Sw.WB TT k lo B w cs T) (hc : Chg R w w') (hB : ¬ R B) (hR : ∀ g cur, w.heap[g]? = some (.cells cur 5 (0, 0)) → ¬ R g) : Sw.WB TT k lo B w' cs T := by
 obtain ⟨bv, b1, b2⟩ := h.own
 refine ⟨ent_chg h.heap hc hB, h.size, h.low, h.addr, bv, b1, own_same b2 fun g hg => ?_⟩
 rcases b2.2 with ⟨rfl, _⟩ | ⟨g', cap, cur, rfl, _, hg', _⟩
 · simp [Value.ownBlock] at hg
 · simp only [Value.ownBlock, Option.some.injEq] at hg
   subst hg
   exact hc.block _ (ent_lt hg') (hR _ _ hg')
theorem own_ne8 {w : World} {lo : Nat} {E : TypeId} {size : Nat} {v : Value} {n : Nat} {xs : List Value} (h : w.ownsRow lo E size v n xs) (hE : E ≠ 5) : ∀ g cur, w.heap[g]? = some (.cells cur 5 (0, 0)) → ¬ v.ownBlock = some g := fun g cur hg e =>
 own_ne h hg (fun cs e => by injection e with _ e _; exact hE e.symm) e
theorem begin_ne (nm : List UInt8) (xs : List Ux.Ty) (h : xs ≠ []) : Ux.beginT (.a nm xs) = (40 :: nm, [xs]) := by
 cases xs with
 | nil => exact absurd rfl h
 | cons x r => rfl
def TBegPost (B : Nat) (w0 : World) (T : List UInt8) (L : List (List Ux.Ty)) (e : Ending) (w' : World) : Prop := e = .returned (.tuple #[]) ∧ WSt B w0 w' T L
set_option maxHeartbeats 4000000 in
set_option maxRecDepth 100000 in
theorem begin_v (B : Nat) (w0 : World) (m : Nat) (v : Value) (w : World) (T : List UInt8) (L : List (List Ux.Ty)) (hw : WSt B w0 w T L) (ht : TyP w v (.v m)) (hm : m ≤ 9000000000000000000) (hT : T.length ≤ 10000000000000) (htab : Lib.TabIs Tryd.prog w0 "internal/strconv.uint64pow10" .u64 Lib.pow10Tab) :
 Calls Tryd.prog 41 #[.pointer (some ⟨B, 0, none⟩), v] w (TBegPost B w0 (T ++ (116 :: Lib.itoa m)) L) := by
 obtain ⟨s, q, jj, c, rfl⟩ := tyP_v.1 ht
 have HW := Lib.hid hw
 have HT := Lib.hid hT
 have hm0 : (0 : Int) ≤ (m : Int) := by omega
 have HIL := Lib.hid (Lib.itoa_length_le (m : Int) (by omega) (by omega))
 have HTB : Hid (∀ w', Below w.heap.size w w' → Lib.TabIs Tryd.prog w' "internal/strconv.uint64pow10" .u64 Lib.pow10Tab) := Lib.hid fun w' hb => by
  obtain ⟨_, _, _, _, _, _, _, _, h6⟩ := hw
  exact (Lib.tabBelow_of_tabIs htab) w' (h6.trans (hb.mono h6.size))
 obtain ⟨I, hI⟩ : ∃ I, I = 116 :: Lib.itoa (m : Int) := ⟨_, rfl⟩
 have HI := Lib.hid hI
 rw [← hI]
 clear hI
 have HBN := Lib.hid hw.lt
 have hdec : decide ((0 : Int) ≤ (m : Int)) = true := by simp
 clear hw ht htab hT
 go_enter Tryd.func41, Tryd.ntmps41
 have ET := Lib.hid (ent_new w #[.int .i64 m, .string s, .slice q jj c] 30)
 have HB := Lib.hid (show Below w.heap.size w (w.alloc (.cells #[.int .i64 m, .string s, .slice q jj c] 30)) from (Below.refl _ _).alloc (Nat.le_refl _) _)
 go_upto_region 3 with fail
 replace HW := Lib.hid (HW.out.below HB.out)
 generalize w.alloc (.cells #[.int .i64 m, .string s, .slice q jj c] 30) = w1 at HW ET HB ⊢
 have t0 := ent_cell ET.out 0 _ rfl
 have t1 := ent_cell ET.out 1 _ rfl
 have t2 := ent_cell ET.out 2 _ rfl
 go_wp2_with fail
 refine (isVar_any _ _ _ _).mono ?_
 rintro e w2 ⟨rfl, hb2⟩
 rw [hdec]
 replace ET := Lib.hid (ent_below ET.out hb2)
 replace HW := Lib.hid (HW.out.below hb2)
 replace HB := Lib.hid (HB.out.trans (hb2.mono HB.out.size))
 clear hb2 t0 t1 t2
 go_upto_region 4 with fail
 replace ET : Hid (w2.drew.heap[w.heap.size]? = some (.cells #[.int .i64 m, .string s, .slice q jj c] 30 (0, 0))) := Lib.hid ET.out
 replace HW : Hid (WSt B w0 w2.drew T L) := Lib.hid (HW.out.below ((Below.refl _ _).drew))
 replace HB : Hid (Below w.heap.size w w2.drew) := Lib.hid HB.out.drew
 obtain ⟨wd, hwd⟩ : ∃ wd, wd = w2.drew := ⟨_, rfl⟩
 rw [← hwd] at ET HW HB
 refine wp_region_held_drew (S := fun (u : World) => u.heap[w.heap.size]? = some (.cells #[.int .i64 m, .string s, .slice q jj c] 30 (0, 0))) (by kernel_rfl) (show w2.drew.heap[w.heap.size]? = _ by rw [← hwd]; exact ET.out) (fun hHeld => ?_)
 rw [← hwd] at hHeld ⊢
 clear hwd
 refine wpAnyH_take (i := 0) (v := .pointer (some ⟨B, 0, none⟩)) rfl (by kernel_rfl) (by kernel_rfl) (by kernel_rfl) (fun _ _ _ h => h) (Or.inl ⟨by rfl, fun w' hSw => by go_simp⟩) hHeld ?_
 refine wpAnyH_take (i := 1) (v := .pointer (some ⟨B, 0, none⟩)) rfl (by kernel_rfl) (by kernel_rfl) (by kernel_rfl) (fun _ _ _ h => h) (Or.inl ⟨by rfl, fun w' hSw => by go_simp⟩) hHeld ?_
 refine wpAnyH_take (i := 2) (v := .pointer (some ⟨B, 0, none⟩)) rfl (by kernel_rfl) (by kernel_rfl) (by kernel_rfl) (fun _ _ _ h => h) (Or.inl ⟨by rfl, fun w' hSw => by go_simp⟩) hHeld ?_
 refine wpAnyH_take (i := 3) (v := .pointer (some ⟨w.heap.size, 0, none⟩)) rfl (by kernel_rfl) (by kernel_rfl) (by kernel_rfl) (fun _ _ _ h => h) (Or.inl ⟨by rfl, fun w' hSw => by go_simp⟩) hHeld ?_
 refine wpAnyH_take (i := 4) (v := .int .i64 (m : Int)) rfl (by kernel_rfl) (by kernel_rfl) (by kernel_rfl) (fun _ _ _ h => h) (Or.inl ⟨by rfl, fun w' hSw => by have h := ent_cell (show w'.heap[w.heap.size]? = _ from hSw) 0 _ rfl; go_simp⟩) hHeld ?_
 try simp only [Act.put, List.getElem_toArray, List.getElem_cons_succ, List.getElem_cons_zero, List.setIfInBounds_toArray, List.set_cons_zero, List.set_cons_succ]
 refine wpAnyH_ready (rs := [5]) (by kernel_rfl) (by simp) ?_
 refine AllReadyH.cons rfl (fun K hK => ?_) AllReadyH.nil
 go_simp
 refine (itoa_any m (by omega) (by omega) wd (HTB.out wd HB.out)).mono ?_
 rintro e w2 ⟨rfl, hb2⟩
 have ET2 := Lib.hid (ent_below ET.out hb2)
 have HW2 := Lib.hid (HW.out.below hb2)
 have HB2 := Lib.hid (HB.out.trans (hb2.mono HB.out.size))
 clear hb2
 refine hK.out _ _ ET2.out (fun hHeld => ?_)
 clear hK K
 refine wpAnyH_ready (rs := [6]) (by kernel_rfl) (by simp) ?_
 refine AllReadyH.cons rfl (fun K hK => ?_) AllReadyH.nil
 have ha := add_texts (w := w2) [116] (Lib.itoa m) (by have := HIL.out; simp; omega)
 rw [show [116] ++ Lib.itoa (m : Int) = 116 :: Lib.itoa m from rfl, ← HI.out] at ha
 go_simp
 refine hK.out _ _ ET2.out (fun hHeld => ?_)
 clear hK K
 refine wpAnyH_ready (rs := [7]) (by kernel_rfl) (by simp) ?_
 refine AllReadyH.cons rfl (fun K hK => ?_) AllReadyH.nil
 go_simp
 obtain ⟨cs, ov, vals, h1, h2, h3, h4, h5, h6⟩ := HW2.out
 refine (Sw.writeString_any Sw.btyW h1 I (by have := HIL.out; have := HT.out; have h := congrArg List.length HI.out; simp at h; omega) (Nat.le_trans HW2.out.size0 (Nat.le_refl _))).mono ?_
 rintro e w3 ⟨⟨v3, rfl⟩, ⟨cs3, g1, g2⟩, g3, g4⟩
 have ET3 := Lib.hid (g4.2 _ _ ET2.out (by have := ent_lt ET.out; have := HBN.out; omega) (fun cs fr e => by injection e with _ e _; cases e))
 have HW3 := Lib.hid (HW2.out.wrote h2 h3 h4 h5 h6 g1 g2 g3 g4)
 have HB3 := Lib.hid (HB2.out)
 clear h1 h2 h3 h4 h5 h6 g1 g2 g3 g4
 refine hK.out _ _ ET3.out (fun hHeld => ?_)
 clear hK K
 refine wpAnyH_done (by kernel_rfl) ?_ _
 go_wp2_with fail
 refine bodyPost_end (v := .tuple #[]) (by simp [results, Tryd.results41, go_sem]) rfl ?_
 exact ⟨rfl, HW3.out⟩
end Go.Proofs.YtcblppojnailpaaDoor
namespace Go.Proofs.YtcblppojnailpaaDoor
open Go Go.RowKit
set_option linter.unusedVariables false
set_option linter.unusedSimpArgs false
set_option maxHeartbeats 4000000 in
set_option maxRecDepth 100000 in
theorem begin_a (B : Nat) (w0 : World) (nm : List UInt8) (xs : List Ux.Ty) (v : Value) (w : World) (T : List UInt8) (L : List (List Ux.Ty)) (hw : WSt B w0 w T L) (ht : TyP w v (.a nm xs)) (hfr : ∀ k s av, v = .agg #[k, s, av] → FrV w0 av xs) (hT : T.length + nm.length ≤ 10000000000000 ∧ nm.length ≤ 900000000000) (hL : L.length ≤ 50000000000) :
 Calls Tryd.prog 41 #[.pointer (some ⟨B, 0, none⟩), v] w (TBegPost B w0 (T ++ (Ux.beginT (.a nm xs)).1) (L ++ (Ux.beginT (.a nm xs)).2)) := by
 obtain ⟨kt, av, hkt, rfl, hx, _⟩ := tyP_a.1 ht
 obtain ⟨q, cp, rfl⟩ := hx.len
 have HW := Lib.hid hw
 have HT := Lib.hid hT
 obtain ⟨I, hI⟩ : ∃ I, I = 40 :: nm := ⟨_, rfl⟩
 have HI := Lib.hid hI
 clear hI
 have HBN := Lib.hid hw.lt
 have HFR := Lib.hid (hfr _ _ _ rfl)
 have hdec : decide ((0 : Int) ≤ kt) = false := by simp; omega
 clear hw ht hT hx hfr
 go_enter Tryd.func41, Tryd.ntmps41
 have ET := Lib.hid (ent_new w #[.int .i64 kt, .string ⟨nm.toArray⟩, .slice q xs.length cp] 30)
 have HB := Lib.hid (show Below w.heap.size w (w.alloc (.cells #[.int .i64 kt, .string ⟨nm.toArray⟩, .slice q xs.length cp] 30)) from (Below.refl _ _).alloc (Nat.le_refl _) _)
 go_upto_region 3 with fail
 replace HW := Lib.hid (HW.out.below HB.out)
 generalize w.alloc (.cells #[.int .i64 kt, .string ⟨nm.toArray⟩, .slice q xs.length cp] 30) = w1 at HW ET HB ⊢
 have t0 := ent_cell ET.out 0 _ rfl
 have t1 := ent_cell ET.out 1 _ rfl
 have t2 := ent_cell ET.out 2 _ rfl
 go_wp2_with fail
 refine (isVar_any _ _ _ _).mono ?_
 rintro e w2 ⟨rfl, hb2⟩
 rw [hdec]
 replace ET := Lib.hid (ent_below ET.out hb2)
 replace HW := Lib.hid (HW.out.below hb2)
 replace HB := Lib.hid (HB.out.trans (hb2.mono HB.out.size))
 clear hb2 t0 t1 t2
 have t0 := ent_cell ET.out 0 _ rfl
 have t1 := ent_cell ET.out 1 _ rfl
 have t2 := ent_cell ET.out 2 _ rfl
 by_cases hnil : xs = []
 · subst hnil
   have l0 : ([] : List Ux.Ty).length = 0 := rfl
   rw [l0] at t2 ET ⊢
   go_upto_region 6 with fail
   clear t0 t1 t2
   replace ET : Hid (w2.drew.heap[w.heap.size]? = some (.cells #[.int .i64 kt, .string ⟨nm.toArray⟩, .slice q 0 cp] 30 (0, 0))) := Lib.hid ET.out
   replace HW : Hid (WSt B w0 w2.drew T L) := Lib.hid (HW.out.below ((Below.refl _ _).drew))
   obtain ⟨wd, hwd⟩ : ∃ wd, wd = w2.drew := ⟨_, rfl⟩
   rw [← hwd] at ET HW
   refine wp_region_held_drew (S := fun (u : World) => u.heap[w.heap.size]? = some (.cells #[.int .i64 kt, .string ⟨nm.toArray⟩, .slice q 0 cp] 30 (0, 0))) (by kernel_rfl) (show w2.drew.heap[w.heap.size]? = _ by rw [← hwd]; exact ET.out) (fun hHeld => ?_)
   rw [← hwd] at hHeld ⊢
   clear hwd
   refine wpAnyH_take (i := 0) (v := .pointer (some ⟨B, 0, none⟩)) rfl (by kernel_rfl) (by kernel_rfl) (by kernel_rfl) (fun _ _ _ h => h) (Or.inl ⟨by rfl, fun w' hSw => by go_simp⟩) hHeld ?_
   refine wpAnyH_take (i := 1) (v := .pointer (some ⟨B, 0, none⟩)) rfl (by kernel_rfl) (by kernel_rfl) (by kernel_rfl) (fun _ _ _ h => h) (Or.inl ⟨by rfl, fun w' hSw => by go_simp⟩) hHeld ?_
   refine wpAnyH_take (i := 2) (v := .pointer (some ⟨B, 0, none⟩)) rfl (by kernel_rfl) (by kernel_rfl) (by kernel_rfl) (fun _ _ _ h => h) (Or.inl ⟨by rfl, fun w' hSw => by go_simp⟩) hHeld ?_
   refine wpAnyH_take (i := 3) (v := .pointer (some ⟨w.heap.size, 1, none⟩)) rfl (by kernel_rfl) (by kernel_rfl) (by kernel_rfl) (fun _ _ _ h => h) (Or.inl ⟨by rfl, fun w' hSw => by go_simp⟩) hHeld ?_
   refine wpAnyH_take (i := 4) (v := .string ⟨nm.toArray⟩) rfl (by kernel_rfl) (by kernel_rfl) (by kernel_rfl) (fun _ _ _ h => h) (Or.inl ⟨by rfl, fun w' hSw => by have h := ent_cell (show w'.heap[w.heap.size]? = _ from hSw) 1 _ rfl; go_simp⟩) hHeld ?_
   try simp only [Act.put, List.getElem_toArray, List.getElem_cons_succ, List.getElem_cons_zero, List.setIfInBounds_toArray, List.set_cons_zero, List.set_cons_succ]
   refine wpAnyH_ready (rs := [5]) (by kernel_rfl) (by simp) ?_
   refine AllReadyH.cons rfl (fun K hK => ?_) AllReadyH.nil
   go_simp
   obtain ⟨cs, ov, vals, h1, h2, h3, h4, h5, h6⟩ := HW.out
   refine (Sw.writeString_any Sw.btyW h1 nm (by have := HT.out; omega) (HW.out.size0)).mono ?_
   rintro e w3 ⟨⟨v3, rfl⟩, ⟨cs3, g1, g2⟩, g3, g4⟩
   have ET3 := Lib.hid (g4.2 _ _ ET.out (by have := ent_lt ET.out; have := HBN.out; omega) (fun cs fr e => by injection e with _ e _; cases e))
   have HW3 := Lib.hid (HW.out.wrote h2 h3 h4 h5 h6 g1 g2 g3 g4)
   clear h1 h2 h3 h4 h5 h6 g1 g2 g3 g4
   refine hK.out _ _ ET3.out (fun hHeld => ?_)
   clear hK K
   refine wpAnyH_done (by kernel_rfl) ?_ _
   go_wp2_with fail
   refine bodyPost_end (v := .tuple #[]) (by simp [results, Tryd.results41, go_sem]) rfl ?_
   exact ⟨rfl, by rw [show (Ux.beginT (.a nm [])).2 = [] from rfl, List.append_nil]; exact HW3.out⟩
 · have hpos := List.length_pos_iff.2 hnil
   have hb0 : ((xs.length : Int) == 0) = false := by simp; omega
   have HNIL := Lib.hid hnil
   clear hnil
   go_upto_region 1 with fail
   clear t0 t1 t2
   replace ET : Hid (w2.drew.heap[w.heap.size]? = some (.cells #[.int .i64 kt, .string ⟨nm.toArray⟩, .slice q xs.length cp] 30 (0, 0))) := Lib.hid ET.out
   replace HW : Hid (WSt B w0 w2.drew T L) := Lib.hid (HW.out.below ((Below.refl _ _).drew))
   obtain ⟨wd, hwd⟩ : ∃ wd, wd = w2.drew := ⟨_, rfl⟩
   rw [← hwd] at ET HW
   refine wp_region_held_drew (S := fun (u : World) => u.heap[w.heap.size]? = some (.cells #[.int .i64 kt, .string ⟨nm.toArray⟩, .slice q xs.length cp] 30 (0, 0))) (by kernel_rfl) (show w2.drew.heap[w.heap.size]? = _ by rw [← hwd]; exact ET.out) (fun hHeld => ?_)
   rw [← hwd] at hHeld ⊢
   clear hwd
   refine wpAnyH_take (i := 0) (v := .pointer (some ⟨B, 0, none⟩)) rfl (by kernel_rfl) (by kernel_rfl) (by kernel_rfl) (fun _ _ _ h => h) (Or.inl ⟨by rfl, fun w' hSw => by go_simp⟩) hHeld ?_
   refine wpAnyH_take (i := 1) (v := .pointer (some ⟨B, 0, none⟩)) rfl (by kernel_rfl) (by kernel_rfl) (by kernel_rfl) (fun _ _ _ h => h) (Or.inl ⟨by rfl, fun w' hSw => by go_simp⟩) hHeld ?_
   refine wpAnyH_take (i := 2) (v := .pointer (some ⟨B, 0, none⟩)) rfl (by kernel_rfl) (by kernel_rfl) (by kernel_rfl) (fun _ _ _ h => h) (Or.inl ⟨by rfl, fun w' hSw => by go_simp⟩) hHeld ?_
   refine wpAnyH_take (i := 3) (v := .pointer (some ⟨w.heap.size, 1, none⟩)) rfl (by kernel_rfl) (by kernel_rfl) (by kernel_rfl) (fun _ _ _ h => h) (Or.inl ⟨by rfl, fun w' hSw => by go_simp⟩) hHeld ?_
   refine wpAnyH_take (i := 4) (v := .string ⟨nm.toArray⟩) rfl (by kernel_rfl) (by kernel_rfl) (by kernel_rfl) (fun _ _ _ h => h) (Or.inl ⟨by rfl, fun w' hSw => by have h := ent_cell (show w'.heap[w.heap.size]? = _ from hSw) 1 _ rfl; go_simp⟩) hHeld ?_
   try simp only [Act.put, List.getElem_toArray, List.getElem_cons_succ, List.getElem_cons_zero, List.setIfInBounds_toArray, List.set_cons_zero, List.set_cons_succ]
   refine wpAnyH_ready (rs := [5]) (by kernel_rfl) (by simp) ?_
   refine AllReadyH.cons rfl (fun K hK => ?_) AllReadyH.nil
   have ha := add_texts (w := wd) [40] nm (by have := HT.out; simp; omega)
   rw [show [40] ++ nm = 40 :: nm from rfl, ← HI.out] at ha
   go_simp
   refine hK.out _ _ ET.out (fun hHeld => ?_)
   clear hK K
   refine wpAnyH_ready (rs := [6]) (by kernel_rfl) (by simp) ?_
   refine AllReadyH.cons rfl (fun K hK => ?_) AllReadyH.nil
   go_simp
   obtain ⟨cs, ov, vals, h1, h2, h3, h4, h5, h6⟩ := HW.out
   refine (Sw.writeString_any Sw.btyW h1 I (by have := HT.out; have h := congrArg List.length HI.out; simp at h; omega) (HW.out.size0)).mono ?_
   rintro e w3 ⟨⟨v3, rfl⟩, ⟨cs3, g1, g2⟩, g3, g4⟩
   have ET3 := Lib.hid (g4.2 _ _ ET.out (by have := ent_lt ET.out; have := HBN.out; omega) (fun cs fr e => by injection e with _ e _; cases e))
   have HW3 := Lib.hid (HW.out.wrote h2 h3 h4 h5 h6 g1 g2 g3 g4)
   clear h1 h2 h3 h4 h5 h6 g1 g2 g3 g4
   refine hK.out _ _ ET3.out (fun hHeld => ?_)
   clear hK K
   refine wpAnyH_done (by kernel_rfl) ?_ _
   clear HW ET hHeld
   obtain ⟨cs, ov, vals, h1, h2, h3, h4, h5, h6⟩ := HW3.out
   obtain ⟨op, oc, rfl⟩ := own_slice h3
   have H1 := Lib.hid h1; have H2 := Lib.hid h2; have H3 := Lib.hid h3; have H4 := Lib.hid h4; have H5 := Lib.hid h5; have H6 := Lib.hid h6
   clear h1 h2 h3 h4 h5 h6
   have o2 := (H1.out.cell 2).trans H2.out
   have of := H1.out.free 2
   have t2 := ent_cell ET3.out 2 _ rfl
   have hsz3 := H6.out.size
   have hxb := ent_lt ET3.out
   have hB3 := H1.out.lt
   go_wp2_with fail
   go_region_law (first | (refine step_append_new eltFr w3 rfl (.tmp 15) (.tmp 18) rfl w0.heap.size (.slice op L.length oc) L.length vals rfl H3.out #[.slice q xs.length cp] 28 rfl rfl (by intro u hu; rw [List.mem_singleton.1 hu]; rfl) (by omega) hsz3 ?_; intro v4 w4 ho4 hc4 hl4; obtain ⟨p4, c4, rfl⟩ := own_slice ho4; have HO4 := Lib.hid ho4; have HC4 := Lib.hid hc4; have HWB4 := Lib.hid (WB_chg H1.out hc4 (Lib.ownBlock_ne H3.out H1.out.heap (by decide)) (own_ne8 H3.out (by decide))); clear ho4 hc4 hl4; have o24 := (HWB4.out.cell 2).trans H2.out; have of4 := HWB4.out.free 2))
   all_goals
    clear o2 of t2 o24 of4
    go_wp2_with fail
    refine bodyPost_end (v := .tuple #[]) (by simp [results, Tryd.results41, go_sem]) rfl ?_
    have hb1 : Ux.beginT (.a nm xs) = (I, [xs]) := by rw [HI.out]; exact begin_ne nm xs HNIL.out
    refine ⟨rfl, ?_⟩
    rw [hb1]
    have h4 := H4.out
    have ho := HO4.out
    refine WSt.store (vals := vals ++ [.slice q xs.length cp]) H1.out HWB4.out (by rw [List.length_append]; exact ho) (by simp [h4]) (fun i ys hi => ?_) (H6.out.trans (HC4.out.below hsz3 fun k hk => (H3.out.lt k hk).1))
    by_cases hil : i < L.length
    · rw [List.getElem?_append_left hil] at hi
      rw [List.getElem?_append_left (by omega)]
      exact H5.out i ys hi
    · rw [List.getElem?_append_right (by omega)] at hi
      rw [List.getElem?_append_right (by omega), h4]
      have hi0 : i - L.length = 0 := by
       have := (List.getElem?_eq_some_iff.1 hi).1
       simp at this; omega
      rw [hi0] at hi ⊢
      simp at hi
      subst hi
      exact ⟨_, rfl, HFR.out⟩
end Go.Proofs.YtcblppojnailpaaDoor
namespace Go.Proofs.YtcblppojnailpaaDoor
open Go Go.RowKit
set_option linter.unusedVariables false
set_option linter.unusedSimpArgs false
theorem own_setAt {w : World} {base e size n g cap : Nat} {xs : List Value} (h : w.ownsRow base e size (.slice (some ⟨g, 0, none⟩) n cap) n xs) (j : Nat) (u : Value) (hj : j < xs.length) : (w.setCell ⟨g, j, none⟩ u).ownsRow base e size (.slice (some ⟨g, 0, none⟩) n cap) n (xs.set j u) := by
 refine ⟨by rw [List.length_set]; exact h.1, ?_⟩
 rcases h.2 with ⟨h1, _⟩ | ⟨g', cap', cur, h1, hb, hg, h2, h3, h4, h5⟩
 · cases h1
 · injection h1 with e1 e2 e3
   injection e1 with e1
   injection e1 with e1 _ _
   subst e1; subst e3
   refine .inr ⟨g, cap, cur.setIfInBounds j u, rfl, hb, ent_set hg j u, h2, h3, by simpa using h4, ?_⟩
   rw [Array.toList_setIfInBounds, List.take_set, h5]
/-- A list without its first element, in memory. -/
theorem frV_tail {w0 : World} {gr of rc : Nat} {p9 : Option Addr} {x : Ux.Ty} {r : List Ux.Ty} (h : FrV w0 (.slice (some ⟨gr, of, none⟩) (r.length + 1) rc) (x :: r)) (hp : 0 < r.length → p9 = some ⟨gr, of + 3, none⟩) : FrV w0 (.slice p9 r.length (rc - 1)) r := by
 rcases h with ⟨h0, _⟩ | ⟨g', o', c', hv, h1, h2, h3⟩
 · cases h0
 · injection hv with e1 e2 e3
   injection e1 with e1
   injection e1 with e4 e5 _
   subst e3; subst e4; subst e5
   cases hr : r with
   | nil => exact .inl ⟨rfl, _, _, rfl⟩
   | cons y r' =>
     rw [← hr]
     have hpos : 0 < r.length := by rw [hr]; simp
     rw [hp hpos]
     simp only [List.length_cons] at h1
     refine .inr ⟨gr, of + 3, rc - 1, rfl, by omega, by omega, fun i x' hx => ?_⟩
     obtain ⟨u, hu, hs, hc⟩ := h3 (i + 1) x' (by simpa using hx)
     exact ⟨u, hu, hs, fun j z hz => by have := hc j z hz; rwa [show of + (i + 1) * 3 + j = of + 3 + i * 3 + j by omega] at this⟩
def fwt (xs : List Ux.Ty) : Nat := 1 + (xs.map fun x => 2 * x.sz).sum
/-- What is so at the loop's head. -/
def TxL (B : Nat) (w0 : World) (Tt : List UInt8) (k : Nat) (wr : World) : Prop :=
 ∃ (T : List UInt8) (L : List (List Ux.Ty)), WSt B w0 wr T L ∧ T ++ Ux.openText L.reverse = Tt ∧ (L.map fwt).sum ≤ k ∧ (∀ xs ∈ L, ∀ x ∈ xs, Low x)
theorem fwt_len (L : List (List Ux.Ty)) : L.length ≤ (L.map fwt).sum := by
 induction L with
 | nil => simp
 | cons x r ih => simp only [List.length_cons, List.map_cons, List.sum_cons]; unfold fwt at *; omega
theorem begin_low {x : Ux.Ty} (h : Low x) : ∀ xs ∈ (Ux.beginT x).2, ∀ y ∈ xs, Low y := by
 cases x with
 | v n => intro xs hx; simp [Ux.beginT] at hx
 | a nm ys =>
   intro xs hx y hy
   unfold Ux.beginT at hx
   simp only at hx
   split at hx
   · cases hx
   · rw [List.mem_singleton.1 hx] at hy
     exact low_in h hy
theorem twice_sum : ∀ ys : List Ux.Ty, (ys.map fun x => 2 * x.sz).sum = 2 * (ys.map Ux.Ty.sz).sum
 | [] => rfl
 | y :: r => by simp only [List.map_cons, List.sum_cons, twice_sum r]; omega
theorem begin_wt (x : Ux.Ty) : ((Ux.beginT x).2.map fwt).sum + 1 ≤ 2 * x.sz := by
 cases x with
 | v n => have := Ux.sz_pos (.v n); simp [Ux.beginT]; omega
 | a nm ys =>
   unfold Ux.beginT
   simp only
   split
   · have := Ux.sz_pos (.a nm ys); simp; omega
   · rw [Ux.sz_a]
     simp only [List.map_cons, List.map_nil, List.sum_cons, List.sum_nil]
     unfold fwt
     have := twice_sum ys
     omega
theorem begin_rev (x : Ux.Ty) : (Ux.beginT x).2.reverse = (Ux.beginT x).2 := by
 cases x with
 | v n => rfl
 | a nm ys => unfold Ux.beginT; simp only; split <;> rfl
/-- begin, of any type. -/
theorem tbegin_any (B : Nat) (w0 : World) (x : Ux.Ty) (v : Value) (w : World) (T : List UInt8) (L : List (List Ux.Ty)) (hw : WSt B w0 w T L) (ht : TyP w0 v x) (hl : Low x) (hT : T.length ≤ 1000000000000 ∧ (Ux.beginT x).1.length ≤ 900000000000) (hL : L.length ≤ 50000000000) (htab : Lib.TabIs Tryd.prog w0 "internal/strconv.uint64pow10" .u64 Lib.pow10Tab) :
 Calls Tryd.prog 41 #[.pointer (some ⟨B, 0, none⟩), v] w (TBegPost B w0 (T ++ (Ux.beginT x).1) (L ++ (Ux.beginT x).2)) := by
 have hb : Below w0.heap.size w0 w := by obtain ⟨_, _, _, _, _, _, _, _, h⟩ := hw; exact h
 cases x with
 | v m => rw [show (Ux.beginT (.v m)).2 = [] from rfl, List.append_nil]; exact begin_v B w0 m v w T L hw (tyP_below ht hb) (low_v hl) (by omega) htab
 | a nm xs =>
   refine begin_a B w0 nm xs v w T L hw (tyP_below ht hb) (fun k s av e => ?_) ⟨?_, ?_⟩ hL
   · obtain ⟨kt, av', _, e2, hx, _⟩ := tyP_a.1 ht
     rw [e2] at e
     injection e with e
     simp at e
     rw [← e.2.2]; exact hx
   all_goals
    have h1 : nm.length ≤ (Ux.beginT (.a nm xs)).1.length := by
     unfold Ux.beginT; simp only; split <;> simp
    omega
set_option maxHeartbeats 4000000 in
set_option maxRecDepth 100000 in
theorem text_any (t : Ux.Ty) (v : Value) (w : World) (ht : TyP w v t) (hl : Low t) (hlen : (Ux.textT t).length ≤ 800000000000) (hne : Ux.textT t ≠ []) (hsz : t.sz ≤ 10000000000) (htab : Lib.TabIs Tryd.prog w "internal/strconv.uint64pow10" .u64 Lib.pow10Tab) :
 Calls Tryd.prog 22 #[v] w fun e w' => e = .returned (.string ⟨(Ux.textT t).toArray⟩) ∧ Below w.heap.size w w' := by
 obtain ⟨ki, si, qi, ni, ci, rfl⟩ := tyP_sh ht
 obtain ⟨Tt, hTt⟩ : ∃ Tt, Tt = Ux.textT t := ⟨_, rfl⟩
 rw [← hTt] at hlen hne ⊢
 have HTT := Lib.hid hTt
 have HTY := Lib.hid ht; have HL := Lib.hid hl; have HTB := Lib.hid htab; have HNE := Lib.hid hne; have HSZ := Lib.hid hsz
 clear hTt ht hl htab hne hsz
 go_enter Tryd.func22, Tryd.ntmps22
 have ET := Lib.hid (ent_alloc (ent_new w #[.int .i64 ki, .string si, .slice qi ni ci] 30) (.cells #[.pointer none, .slice none 0 0, .slice none 0 0] 88))
 have EB := ent_new (w.alloc (.cells #[.int .i64 ki, .string si, .slice qi ni ci] 30)) #[.pointer none, .slice none 0 0, .slice none 0 0] 88
 rw [show (w.alloc (.cells #[.int .i64 ki, .string si, .slice qi ni ci] 30)).heap.size = w.heap.size + 1 by simp] at EB
 have HB := Lib.hid (show Below w.heap.size w ((w.alloc (.cells #[.int .i64 ki, .string si, .slice qi ni ci] 30)).alloc (.cells #[.pointer none, .slice none 0 0, .slice none 0 0] 88)) from ((Below.refl _ _).alloc (Nat.le_refl _) _).alloc (by simp) _)
 have HW : Hid (WSt (w.heap.size + 1) w ((w.alloc (.cells #[.int .i64 ki, .string si, .slice qi ni ci] 30)).alloc (.cells #[.pointer none, .slice none 0 0, .slice none 0 0] 88)) [] []) := Lib.hid
  ⟨_, .slice none 0 0, [], ⟨EB, rfl, by omega, .inl rfl, .slice none 0 0, rfl, own_none _ _ _ _ (by simp; omega)⟩, rfl, own_none _ _ _ _ (by simp; omega), rfl, (fun i xs h => by simp at h), HB.out⟩
 clear EB
 go_upto_region 2 with fail
 generalize (w.alloc (.cells #[.int .i64 ki, .string si, .slice qi ni ci] 30)).alloc (.cells #[.pointer none, .slice none 0 0, .slice none 0 0] 88) = w1 at ET HB HW ⊢
 obtain ⟨B, hB⟩ : ∃ B, B = w.heap.size + 1 := ⟨_, rfl⟩
 rw [← hB] at HW ⊢
 clear hB
 have t0 := ent_cell ET.out 0 _ rfl
 have t1 := ent_cell ET.out 1 _ rfl
 have t2 := ent_cell ET.out 2 _ rfl
 have hbt := Ux.begin_text t
 have hbl : (Ux.beginT t).1.length ≤ 800000000000 := by
  have h := congrArg List.length hbt
  rw [List.length_append, ← HTT.out] at h; omega
 have HBT := Lib.hid hbt
 have HBC := Lib.hid (tbegin_any B w t _ w1 [] [] HW.out HTY.out HL.out ⟨by simp, by omega⟩ (by simp) HTB.out)
 clear hbt hbl
 go_wp2_with fail
 refine HBC.out.mono ?_
 rintro e w2 ⟨rfl, hw2⟩
 have HL0 : Hid (TxL B w Tt (2 * t.sz) w2) := Lib.hid ⟨_, _, hw2, by
  simp only [List.nil_append]
  rw [begin_rev, HTT.out]; exact HBT.out, by have := begin_wt t; simp only [List.nil_append]; omega, by simp only [List.nil_append]; exact begin_low HL.out⟩
 clear hw2 HBC HW ET HB t0 t1 t2
 go_wp2_with fail
 go_loopg [4, 5] (2 * t.sz) (fun k _ _ wr => Hid (TxL B w Tt k wr ∧ k ≤ 20000000000))
 case atStart => exact Lib.hid ⟨HL0.out, by have := HSZ.out; omega⟩
 case round =>
  clear HL0
  obtain ⟨⟨T, L, hw, htx, hwt, hlow⟩, hgk⟩ := hrel.out
  clear hrel
  have hTl : T.length ≤ 800000000000 := by have h := congrArg List.length htx; rw [List.length_append] at h; omega
  have HTX := Lib.hid htx; have HWT := Lib.hid hwt; have HLOW := Lib.hid hlow; have HTL := Lib.hid hTl
  obtain ⟨cs, ov, vals, h1, h2, h3, h4, h5, h6⟩ := hw
  obtain ⟨op, oc, rfl⟩ := own_slice h3
  have H1 := Lib.hid h1; have H2 := Lib.hid h2; have H3 := Lib.hid h3; have H4 := Lib.hid h4; have H5 := Lib.hid h5; have H6 := Lib.hid h6
  clear h1 h2 h3 h4 h5 h6 htx hwt hlow hTl
  have o2 := (H1.out.cell 2).trans H2.out
  have of := H1.out.free 2
  have hsz3 := H6.out.size
  rcases List.eq_nil_or_concat L with hnil | ⟨L', xs, hL'⟩
  · subst hnil
    have l0 : ([] : List (List Ux.Ty)).length = 0 := rfl
    rw [l0] at o2
    have hT : T = Tt := by have := HTX.out; simpa [Ux.openText] using this
    go_wp2_with fail
    refine (Sw.string_any Sw.btyW H1.out (by rw [hT]; exact HNE.out)).mono ?_
    rintro e w3 ⟨rfl, hb3⟩
    rw [hT]
    have HB3 := Lib.hid (H6.out.trans hb3)
    clear hb3
    go_wp2_with fail
    go_ret
    exact ⟨rfl, HB3.out⟩
  · rw [List.concat_eq_append] at hL'
    subst hL'
    obtain ⟨n0, hn0⟩ : ∃ n0, n0 = L'.length := ⟨_, rfl⟩
    have hLl : (L' ++ [xs]).length = n0 + 1 := by rw [hn0]; simp
    rw [hLl] at o2 H2 H3 H4
    obtain ⟨v, hv, hfv⟩ := H5.out n0 xs (by rw [hn0]; simp)
    obtain ⟨q, cp, rfl⟩ := hfv.len
    obtain ⟨g, cur, rfl, hgl, hgs, hoc, hoc2, hgh, hcell⟩ := own_open H3.out (by omega)
    have x0 := ent_cell hgh n0 _ (hcell n0 _ hv)
    have xf := ent_free hgh
    have hoc : ((n0 + 1 : Nat) : Int) ≤ (oc : Int) := by omega
    have HN0 := Lib.hid hn0
    have HFV := Lib.hid hfv; have HV := Lib.hid hv
    have HGB : Hid (g ≠ B) := Lib.hid (fun e => by
     have h := H1.out.heap
     rw [← e, hgh] at h; injection h with h; injection h with _ h _; exact absurd h (by decide))
    clear hn0 hfv hv hLl hcell
    cases xs with
    | nil =>
      have l0 : ([] : List Ux.Ty).length = 0 := rfl
      rw [l0] at x0
      have HX : Hid (T ++ 41 :: Ux.openText L'.reverse = Tt) := Lib.hid (by
       have h := HTX.out
       rw [List.reverse_append] at h
       simpa [Ux.openText, Ux.textR_nil] using h)
      go_wp2_with fail
      refine (Sw.writeByte_any Sw.btyW H1.out 41 (by have := HTL.out; omega) hsz3).mono ?_
      rintro e w3 ⟨rfl, ⟨cs3, g1, g2⟩, g3, g4⟩
      have H13 := Lib.hid g1
      have H33 := Lib.hid (own_keepB H3.out (by decide) H1.out.heap (by decide) g4)
      have H23 : Hid (cs3[2]? = some (.slice (some ⟨g, 0, none⟩) (n0 + 1) oc)) := Lib.hid ((g2 2 (by decide)).trans H2.out)
      have H63 := Lib.hid (H6.out.trans g3)
      clear g1 g2 g3 g4 o2 of x0 xf hgh
      have o2 := (H13.out.cell 2).trans H23.out
      have of := H13.out.free 2
      have hn1 : (n0 : Int) ≤ (oc : Int) := by omega
      go_wp2_with fail
      clear o2 of
      go_roundg (gk - 1)
      case measure => have h := HWT.out; rw [List.map_append, List.sum_append] at h; unfold fwt at h; simp at h; omega
      case rel =>
       refine Lib.hid ⟨⟨T ++ [41], L', ?_, by have := HX.out; simpa using this, ?_, fun ys hy => HLOW.out ys (List.mem_append.2 (.inl hy))⟩, by omega⟩
       · have h3 := own_cut H33.out (show n0 ≤ n0 + 1 by omega)
         have hl4 := H4.out
         refine WSt.store (vals := vals.take (n0 * 1)) H13.out H13.out (by rw [← HN0.out]; exact h3) (by rw [List.length_take, hl4, ← HN0.out]; omega) (fun i ys hi => ?_) H63.out
         have hil : i < n0 := by have := (List.getElem?_eq_some_iff.1 hi).1; rw [HN0.out]; exact this
         obtain ⟨v', h1, h2⟩ := H5.out i ys (by rw [List.getElem?_append_left (by have := HN0.out; omega)]; exact hi)
         exact ⟨v', by rw [List.getElem?_take, if_pos (by omega)]; exact h1, h2⟩
       · have h := HWT.out; rw [List.map_append, List.sum_append] at h; unfold fwt at h ⊢; simp at h ⊢; omega
    | cons x r =>
      have HX : Hid (T ++ (32 :: (Ux.textT x ++ (Ux.textR r ++ Ux.openText L'.reverse))) = Tt) := Lib.hid (by
       have h := HTX.out
       rw [List.reverse_append] at h
       simpa [Ux.openText, Ux.textR_cons] using h)
      rcases HFV.out with ⟨h0, _⟩ | ⟨gr, of', rc, hq, hrc, hrc2, hrow⟩
      · cases h0
      injection hq with hq1 _ hq2
      subst hq1; subst hq2
      obtain ⟨u, hu, _, hcu⟩ := hrow 0 x rfl
      obtain ⟨xi, xs0, xq, xn, xc, rfl⟩ := tyP_sh hu
      rw [List.length_cons] at x0 hrc HFV
      have HU := Lib.hid hu
      have k0 := hcu 0 (.int .i64 xi) rfl
      have k1 := hcu 1 (.string xs0) rfl
      have k2 := hcu 2 (.slice xq xn xc) rfl
      rw [Nat.zero_mul, Nat.add_zero] at k0 k1 k2
      have HXC := Lib.hid (fun (w' : World) (h : Below w.heap.size w w') => (⟨cell_up h k0, cell_up h k1, cell_up h k2⟩ : w'.cell? ⟨gr, of', none⟩ = some (.int .i64 xi) ∧ w'.cell? ⟨gr, of' + 1, none⟩ = some (.string xs0) ∧ w'.cell? ⟨gr, of' + 2, none⟩ = some (.slice xq xn xc)))
      clear k0 k1 k2
      obtain ⟨p9, hp9, hst⟩ := slice_tail gr of' r.length cp (by omega) hrc2
      have HST := Lib.hid hst
      have HFT := Lib.hid (frV_tail HFV.out hp9)
      clear hu hcu hrow hst hp9
      have hrl : ¬ (((r.length + 1 : Nat) : Int) = 0) := by omega
      have hrl2 : (((r.length + 1 : Nat) : Int) == 0) = false := by simp; omega
      go_upto_region 9 with fail
      have xsz : ∀ o, wr.drew.frozen? ⟨g, o, none⟩ = false := xf
      have HFZ := Lib.hid xf
      replace o2 : wr.drew.cell? ⟨B, 2, none⟩ = some (.slice (some ⟨g, 0, none⟩) (n0 + 1) oc) := o2
      have HWB9 := Lib.hid (show Sw.WB 88 3 w.heap.size B wr.drew cs T from WB_below H1.out ((Below.refl _ _).drew))
      have H39 := Lib.hid (show wr.drew.ownsRow _ _ _ _ _ _ from H3.out)
      have H69 := Lib.hid (show Below w.heap.size w wr.drew from H6.out.drew)
      have HX0 := Lib.hid (show wr.drew.cell? ⟨g, n0, none⟩ = some (.slice (some ⟨gr, of', none⟩) (r.length + 1) cp) from x0)
      clear x0 xf of hgh
      refine wp_region_held_drew (S := fun (u : World) => u.cell? ⟨B, 2, none⟩ = some (.slice (some ⟨g, 0, none⟩) (n0 + 1) oc)) (by kernel_rfl) (show wr.drew.cell? ⟨B, 2, none⟩ = _ from o2) (fun hHeld => ?_)
      generalize wr.drew = wd at o2 HWB9 H39 H69 xsz HX0 hHeld ⊢
      have HFZ := Lib.hid xsz
      clear xsz
      refine wpAnyH_take (i := 0) (v := .pointer (some ⟨B, 0, none⟩)) rfl (by kernel_rfl) (by kernel_rfl) (by kernel_rfl) (fun _ _ _ h => h) (Or.inl ⟨by rfl, fun w' hSw => by go_simp⟩) hHeld ?_
      refine wpAnyH_take (i := 1) (v := .pointer (some ⟨B, 0, none⟩)) rfl (by kernel_rfl) (by kernel_rfl) (by kernel_rfl) (fun _ _ _ h => h) (Or.inl ⟨by rfl, fun w' hSw => by go_simp⟩) hHeld ?_
      refine wpAnyH_take (i := 2) (v := .pointer (some ⟨B, 2, none⟩)) rfl (by kernel_rfl) (by kernel_rfl) (by kernel_rfl) (fun _ _ _ h => h) (Or.inl ⟨by rfl, fun w' hSw => by go_simp⟩) hHeld ?_
      refine wpAnyH_take (i := 3) (v := .slice (some ⟨g, 0, none⟩) (n0 + 1) oc) rfl (by kernel_rfl) (by kernel_rfl) (by kernel_rfl) (fun _ _ _ h => h) (Or.inl ⟨by rfl, fun w' hSw => by have h : w'.cell? ⟨B, 2, none⟩ = _ := hSw; go_simp⟩) hHeld ?_
      refine wpAnyH_take (i := 4) (v := .int .i64 (n0 : Int)) rfl (by kernel_rfl) (by kernel_rfl) (by kernel_rfl) (fun _ _ _ h => h) (Or.inl ⟨by rfl, fun w' hSw => by go_simp⟩) hHeld ?_
      refine wpAnyH_take (i := 5) (v := .slice (some ⟨gr, of', none⟩) (r.length + 1) cp) rfl (by kernel_rfl) (by kernel_rfl) (by kernel_rfl) (fun _ _ _ h => h) (Or.inl ⟨by rfl, fun w' hSw => by go_simp⟩) hHeld ?_
      refine wpAnyH_take (i := 6) (v := .slice p9 r.length (cp - 1)) rfl (by kernel_rfl) (by kernel_rfl) (by kernel_rfl) (fun _ _ _ h => h) (Or.inl ⟨by rfl, fun w' hSw => by have h := HST.out w'; go_simp⟩) hHeld ?_
      refine wpAnyH_take (i := 7) (v := .pointer (some ⟨g, n0, none⟩)) rfl (by kernel_rfl) (by kernel_rfl) (by kernel_rfl) (fun _ _ _ h => h) (Or.inl ⟨by rfl, fun w' hSw => by have h2 := hoc; go_simp; intro h3; exfalso; omega⟩) hHeld ?_
      try simp only [Act.put, List.getElem_toArray, List.getElem_cons_succ, List.getElem_cons_zero, List.setIfInBounds_toArray, List.set_cons_zero, List.set_cons_succ]
      refine wpAnyH_ready (rs := [8]) (by kernel_rfl) (by simp) ?_
      refine AllReadyH.cons rfl (fun K hK => ?_) AllReadyH.nil
      go_simp
      have h9 := HFZ.out n0
      have h8 := HX0.out
      go_simp
      refine hK.out _ _ (show (wd.setCell ⟨g, n0, none⟩ (.slice p9 r.length (cp - 1))).cell? ⟨B, 2, none⟩ = _ by rw [World.cell?_of_block (w := wd) (Below.heap_setCell wd ⟨g, n0, none⟩ _ B (fun e => HGB.out e.symm))]; exact hHeld) (fun hHeld => ?_)
      clear hK K
      refine wpAnyH_done (by kernel_rfl) ?_ _
      have HW9 : Hid (WSt B w (wd.setCell ⟨g, n0, none⟩ (.slice p9 r.length (cp - 1))) T (L' ++ [r])) := Lib.hid (by
       have hlt := H4.out
       have hc := Chg.set (R := (· = g)) (w := wd) (p := ⟨g, n0, none⟩) rfl (.slice p9 r.length (cp - 1))
       refine ⟨cs, _, vals.set n0 (.slice p9 r.length (cp - 1)), WB_chg HWB9.out hc (fun e => HGB.out e.symm) (fun g' cur hg' e => ?_), H2.out, by rw [show (L' ++ [r]).length = n0 + 1 by rw [HN0.out]; simp]; exact own_setAt H39.out n0 _ (by omega), by rw [List.length_set, hlt, HN0.out]; simp, fun i ys hi => ?_, H69.out.trans ((Below.refl _ _).setCell (p := ⟨g, n0, none⟩) hgl _)⟩
       · subst e
         exact own_ne8 H39.out (by decide) _ _ hg' rfl
       · by_cases hin : i = n0
         · subst hin
           rw [List.getElem?_append_right (by rw [← HN0.out]; exact Nat.le_refl _), ← HN0.out, Nat.sub_self] at hi
           simp at hi
           subst hi
           exact ⟨_, by rw [List.getElem?_set_self (by omega)], HFT.out⟩
         · have hil : i < L'.length := by have := (List.getElem?_eq_some_iff.1 hi).1; simp at this; rw [← HN0.out] at this ⊢; omega
           rw [List.getElem?_append_left hil] at hi
           obtain ⟨v', h1, h2⟩ := H5.out i ys (by rw [List.getElem?_append_left hil]; exact hi)
           exact ⟨v', by rw [List.getElem?_set_ne (fun e => hin e.symm)]; exact h1, h2⟩)
      clear HX0 HFZ HWB9 H39 H69 o2 hHeld
      generalize wd.setCell ⟨g, n0, none⟩ (.slice p9 r.length (cp - 1)) = wt at HW9 ⊢
      obtain ⟨cs9, ov9, vals9, h1, h2, h3, h4, h5, h6⟩ := HW9.out
      have HWB9 := Lib.hid h1
      have HS9 := Lib.hid h6.size
      have HWR := Lib.hid (fun (w' : World) (cs' : Array Value) (g1 : Sw.WB 88 3 w.heap.size B w' cs' (T ++ [32])) (g2 : ∀ j, 2 ≤ j → cs'[j]? = cs9[j]?) (g3 : Below w.heap.size wt w') (g4 : Sw.KeepB B wt w') => HW9.out.wrote h2 h3 h4 h5 h6 g1 g2 g3 g4)
      clear h1 h2 h3 h4 h5 h6
      go_wp2_with fail
      refine (Sw.writeByte_any Sw.btyW HWB9.out 32 (by have := HTL.out; omega) HS9.out).mono ?_
      rintro e w3 ⟨rfl, ⟨cs3, g1, g2⟩, g3, g4⟩
      have HW3 := Lib.hid (HWR.out w3 cs3 g1 g2 g3 g4)
      clear g1 g2 g3 g4 HWR HWB9 HS9
      have hb3 : Below w.heap.size w w3 := by obtain ⟨_, _, _, _, _, _, _, _, h⟩ := HW3.out; exact h
      obtain ⟨x0, x1, x2⟩ := HXC.out w3 hb3
      have hlx : Low x := HLOW.out (x :: r) (List.mem_append.2 (.inr (by simp))) x (by simp)
      have hbt := Ux.begin_text x
      have hlen2 := congrArg List.length HX.out
      have hbl : (Ux.beginT x).1.length ≤ (Ux.textT x).length := by rw [← hbt, List.length_append]; omega
      simp only [List.length_append, List.length_cons] at hlen2
      have HBC := Lib.hid (tbegin_any B w x _ w3 (T ++ [32]) (L' ++ [r]) HW3.out HU.out hlx ⟨by simp; omega, by omega⟩ (by have h := HWT.out; have h2 := fwt_len (L' ++ [x :: r]); simp at h2 ⊢; simp at h; omega) HTB.out)
      have HBT2 := Lib.hid hbt
      clear hlen2 hbl hbt hlx hb3
      go_wp2_with fail
      refine HBC.out.mono ?_
      rintro e w4 ⟨rfl, hw4⟩
      have HW4 := Lib.hid hw4
      clear hw4 x0 x1 x2 HBC
      go_wp2_with fail
      go_roundg (gk - 1)
      case measure => have h := HWT.out; rw [List.map_append, List.sum_append] at h; unfold fwt at h; simp at h; omega
      case rel =>
       refine Lib.hid ⟨⟨_, _, HW4.out, ?_, ?_, ?_⟩, by omega⟩
       · have h := HX.out
         rw [← HBT2.out] at h
         rw [List.reverse_append, begin_rev, List.reverse_append]
         simpa [Ux.openText] using h
       · have h := HWT.out
         have h2 := begin_wt x
         rw [List.map_append, List.sum_append] at h
         rw [List.map_append, List.sum_append, List.map_append, List.sum_append]
         unfold fwt at h h2 ⊢
         simp at h h2 ⊢
         omega
       · intro ys hy
         rcases List.mem_append.1 hy with hy | hy
         · rcases List.mem_append.1 hy with hy | hy
           · exact HLOW.out ys (List.mem_append.2 (.inl hy))
           · rw [List.mem_singleton.1 hy]
             exact fun y hyr => HLOW.out (x :: r) (List.mem_append.2 (.inr (by simp))) y (List.mem_cons_of_mem _ hyr)
         · exact begin_low (HLOW.out (x :: r) (List.mem_append.2 (.inr (by simp))) x (by simp)) ys hy
end Go.Proofs.YtcblppojnailpaaDoor
namespace Go.Proofs.YtcblppojnailpaaDoor
namespace Ux
set_option linter.unusedVariables false
set_option linter.unusedSimpArgs false
theorem firsts_app : ∀ (a b l : List Nat), firsts l (a ++ b) = firsts (firsts l a) b
 | [], b, l => rfl
 | n :: r, b, l => by rw [List.cons_append, firsts, firsts_app r b, firsts]
theorem firsts_in : ∀ (a l : List Nat), (∀ n ∈ a, n ∈ l) → firsts l a = l
 | [], l, _ => rfl
 | n :: r, l, h => by
   rw [firsts, if_pos (by simpa using h n (by simp))]
   exact firsts_in r l fun m hm => h m (by simp [hm])
theorem firsts_skip (acc a b : List Nat) (h : ∀ n ∈ a, n ∈ acc) : firsts [] (acc ++ (a ++ b)) = firsts [] (acc ++ b) := by
 rw [firsts_app, firsts_app, firsts_app, firsts_in a (firsts [] acc) (fun n hn => (firsts_mem n acc []).2 (.inr (h n hn)))]
/-- A list that is open: what it is, and what of it is still to be told. -/
abbrev Fr := List Ty × List Ty
def flat (fs : List Fr) : List Nat := fs.flatMap fun f => Ty.vss f.2
def Ch (acc : List Nat) : List Nat → List Fr → Prop
 | _, [] => True
 | above, f :: r => (∀ x ∈ f.2, x ∈ f.1) ∧ (∀ n ∈ Ty.vss f.1, n ∈ acc ∨ n ∈ above ∨ n ∈ Ty.vss f.2) ∧ (∀ g ∈ r, Ty.szs f.1 < Ty.szs g.1) ∧ Ch acc (above ++ Ty.vss f.2) r
/-- While variables are told: acc was, fs is open, seen came. -/
structure EV (F : List Nat) (seen : List (List Ty)) (fs : List Fr) (acc : List Nat) : Prop where
 all : firsts [] (acc ++ flat fs) = F
 chain : Ch acc [] fs
 came : ∀ xs ∈ seen, (∀ n ∈ Ty.vss xs, n ∈ acc) ∨ ∃ f ∈ fs, f.1 = xs
theorem vss_cons (x : Ty) (r : List Ty) : Ty.vss (x :: r) = x.vs ++ Ty.vss r := by rw [Ty.vss]
theorem vss_a (nm : List UInt8) (xs : List Ty) : (Ty.a nm xs).vs = Ty.vss xs := by rw [Ty.vs]
theorem Ch.more {acc acc' : List Nat} (ha : ∀ n ∈ acc, n ∈ acc') : ∀ {fs : List Fr} {above above' : List Nat}, (∀ n ∈ above, n ∈ acc' ∨ n ∈ above') → Ch acc above fs → Ch acc' above' fs
 | [], _, _, _, _ => trivial
 | f :: r, above, above', hb, h => ⟨h.1, fun n hn => by
    rcases h.2.1 n hn with h1 | h1 | h1
    · exact .inl (ha n h1)
    · rcases hb n h1 with h2 | h2
      · exact .inl h2
      · exact .inr (.inl h2)
    · exact .inr (.inr h1), h.2.2.1, Ch.more ha (fun n hn => by
    rcases List.mem_append.1 hn with h1 | h1
    · rcases hb n h1 with h2 | h2
      · exact .inl h2
      · exact .inr (List.mem_append.2 (.inl h2))
    · exact .inr (List.mem_append.2 (.inr h1))) h.2.2.2⟩
theorem szs_mem {x : Ty} {l : List Ty} (h : x ∈ l) : x.sz ≤ Ty.szs l := by rw [szs_sum]; exact sum_ge Ty.sz h
theorem szs_lt {nm : List UInt8} {xs l : List Ty} (h : Ty.a nm xs ∈ l) : Ty.szs xs < Ty.szs l := by
 have h1 := szs_mem h
 have h2 : (Ty.a nm xs).sz = 1 + Ty.szs xs := by rw [Ty.sz]
 omega
theorem EV.start (t : Ty) : EV (varsT t) [] [([t], [t])] [] where
 all := by simp [flat, varsT, Ty.vss]
 chain := ⟨fun x h => h, fun n h => .inr (.inr h), fun g hg => (by cases hg), trivial⟩
 came := fun xs h => (by cases h)
theorem EV.pop {F : List Nat} {seen : List (List Ty)} {o : List Ty} {fs : List Fr} {acc : List Nat} (h : EV F seen ((o, []) :: fs) acc) : EV F seen fs acc where
 all := by have := h.all; simpa [flat, Ty.vss] using this
 chain := Ch.more (fun n h => h) (fun n hn => by simp [Ty.vss] at hn) h.chain.2.2.2
 came := fun xs hx => by
  rcases h.came xs hx with h1 | ⟨f, hf, rfl⟩
  · exact .inl h1
  · rcases List.mem_cons.1 hf with rfl | hf
    · exact .inl fun n hn => by
       rcases h.chain.2.1 n hn with h1 | h1 | h1
       · exact h1
       · cases h1
       · simp [Ty.vss] at h1
    · exact .inr ⟨f, hf, rfl⟩
theorem EV.var {F : List Nat} {seen : List (List Ty)} {o r : List Ty} {n : Nat} {fs : List Fr} {acc : List Nat} (h : EV F seen ((o, .v n :: r) :: fs) acc) : EV F seen ((o, r) :: fs) (acc ++ [n]) where
 all := by have := h.all; simpa [flat, vss_cons, vs_v] using this
 chain := by
  obtain ⟨h1, h2, h3, h4⟩ := h.chain
  have e : Ty.vss (Ty.v n :: r) = n :: Ty.vss r := by rw [vss_cons, vs_v]; rfl
  refine ⟨fun x hx => h1 x (List.mem_cons_of_mem _ hx), fun m hm => ?_, h3, Ch.more (fun m hm => List.mem_append.2 (.inl hm)) (fun m hm => ?_) h4⟩
  · rcases h2 m hm with k | k | k
    · exact .inl (List.mem_append.2 (.inl k))
    · cases k
    · simp only [e] at k
      rcases List.mem_cons.1 k with rfl | k
      · exact .inl (by simp)
      · exact .inr (.inr k)
  · simp only [e, List.nil_append] at hm
    rcases List.mem_cons.1 hm with rfl | k
    · exact .inl (by simp)
    · exact .inr (by simpa using k)
 came := fun xs hx => by
  rcases h.came xs hx with h1 | ⟨f, hf, rfl⟩
  · exact .inl fun m hm => List.mem_append.2 (.inl (h1 m hm))
  · rcases List.mem_cons.1 hf with rfl | hf
    · exact .inr ⟨(o, r), by simp, rfl⟩
    · exact .inr ⟨f, by simp [hf], rfl⟩
/-- What is in a list that came was told. -/
theorem EV.told {F : List Nat} {seen : List (List Ty)} {o r xs : List Ty} {nm : List UInt8} {fs : List Fr} {acc : List Nat} (h : EV F seen ((o, .a nm xs :: r) :: fs) acc) (hs : xs ∈ seen ∨ xs = []) : ∀ n ∈ Ty.vss xs, n ∈ acc := by
 rcases hs with hs | rfl
 · have hlt : Ty.szs xs < Ty.szs o := szs_lt (h.chain.1 (.a nm xs) (by simp))
   rcases h.came xs hs with h1 | ⟨f, hf, he⟩
   · exact h1
   · rcases List.mem_cons.1 hf with e | hf
     · rw [e] at he
       have he' : o = xs := he
       rw [he'] at hlt
       exact absurd hlt (Nat.lt_irrefl _)
     · have := h.chain.2.2.1 f hf
       rw [he] at this
       simp only at this
       omega
 · intro n hn; simp [Ty.vss] at hn
theorem EV.skip {F : List Nat} {seen : List (List Ty)} {o r xs : List Ty} {nm : List UInt8} {fs : List Fr} {acc : List Nat} (h : EV F seen ((o, .a nm xs :: r) :: fs) acc) (hs : xs ∈ seen ∨ xs = []) : EV F seen ((o, r) :: fs) acc := by
 have ht := h.told hs
 have e : Ty.vss (Ty.a nm xs :: r) = Ty.vss xs ++ Ty.vss r := by rw [vss_cons, vss_a]
 refine ⟨?_, ?_, fun ys hy => ?_⟩
 · have := h.all
   simp only [flat, List.flatMap_cons, e, List.append_assoc] at this ⊢
   rw [← this]
   exact (firsts_skip acc (Ty.vss xs) _ ht).symm
 · obtain ⟨h1, h2, h3, h4⟩ := h.chain
   refine ⟨fun x hx => h1 x (List.mem_cons_of_mem _ hx), fun m hm => ?_, h3, Ch.more (fun m hm => hm) (fun m hm => ?_) h4⟩
   · rcases h2 m hm with k | k | k
     · exact .inl k
     · cases k
     · simp only [e] at k
       rcases List.mem_append.1 k with k | k
       · exact .inl (ht m k)
       · exact .inr (.inr k)
   · simp only [e, List.nil_append] at hm
     rcases List.mem_append.1 hm with k | k
     · exact .inl (ht m k)
     · exact .inr (by simpa using k)
 · rcases h.came ys hy with h1 | ⟨f, hf, rfl⟩
   · exact .inl h1
   · rcases List.mem_cons.1 hf with rfl | hf
     · exact .inr ⟨(o, r), by simp, rfl⟩
     · exact .inr ⟨f, by simp [hf], rfl⟩
theorem EV.push {F : List Nat} {seen : List (List Ty)} {o r xs : List Ty} {nm : List UInt8} {fs : List Fr} {acc : List Nat} (h : EV F seen ((o, .a nm xs :: r) :: fs) acc) : EV F (xs :: seen) ((xs, xs) :: (o, r) :: fs) acc := by
 have e : Ty.vss (Ty.a nm xs :: r) = Ty.vss xs ++ Ty.vss r := by rw [vss_cons, vss_a]
 have hlt : Ty.szs xs < Ty.szs o := szs_lt (h.chain.1 (.a nm xs) (by simp))
 obtain ⟨h1, h2, h3, h4⟩ := h.chain
 refine ⟨?_, ⟨fun x hx => hx, fun n hn => .inr (.inr hn), fun g hg => ?_, fun x hx => h1 x (List.mem_cons_of_mem _ hx), fun m hm => ?_, h3, Ch.more (fun m hm => hm) (fun m hm => ?_) h4⟩, fun ys hy => ?_⟩
 · have := h.all
   simp only [flat, List.flatMap_cons, e, List.append_assoc] at this ⊢
   exact this
 · rcases List.mem_cons.1 hg with rfl | hg
   · exact hlt
   · have k : Ty.szs o < Ty.szs g.1 := h3 g hg
     show Ty.szs xs < Ty.szs g.1
     omega
 · rcases h2 m hm with k | k | k
   · exact .inl k
   · cases k
   · simp only [e] at k
     rcases List.mem_append.1 k with k | k
     · exact .inr (.inl (by simpa using k))
     · exact .inr (.inr k)
 · simp only [e, List.nil_append] at hm
   exact .inr (by simpa using hm)
 · rcases List.mem_cons.1 hy with rfl | hy
   · exact .inr ⟨(ys, ys), by simp, rfl⟩
   · rcases h.came ys hy with k | ⟨f, hf, rfl⟩
     · exact .inl k
     · rcases List.mem_cons.1 hf with rfl | hf
       · exact .inr ⟨(o, r), by simp, rfl⟩
       · exact .inr ⟨f, by simp [hf], rfl⟩
theorem EV.done {F : List Nat} {seen : List (List Ty)} {acc : List Nat} (h : EV F seen [] acc) : firsts [] acc = F := by have := h.all; simpa [flat] using this
end Ux
end Go.Proofs.YtcblppojnailpaaDoor
namespace Go.Proofs.YtcblppojnailpaaDoor
open Go Go.RowKit
set_option linter.unusedVariables false
set_option linter.unusedSimpArgs false
/-- A number's value. -/
def NumV (u : Value) (x : Nat) : Prop := u = .int .i64 (x : Int)
def nums' (l : List Nat) : List Value := l.map fun (x : Nat) => Value.int .i64 (x : Int)
def NumsR (w : World) (v : Value) (l : List Nat) : Prop := RowAt 1 NumV w v l
theorem nums_snoc (l : List Nat) (m : Nat) : nums' l ++ [.int .i64 (m : Int)] = nums' (l ++ [m]) := by simp [nums']
theorem nums_row {w u : World} {low : Nat} {v : Value} {n : Nat} {l : List Nat} (h : w.ownsRow low 3 1 v n (nums' l)) (hn : n = l.length) (hu : ∀ b, low ≤ b → b < w.heap.size → u.heap[b]? = w.heap[b]?) : NumsR u v l := by
 subst hn
 rcases h.2 with ⟨rfl, hn⟩ | ⟨g, cap, cur, rfl, hb, hg, hc1, hc2, hc3, hc4⟩
 · exact .inl ⟨List.eq_nil_of_length_eq_zero hn, none, 0, rfl⟩
 · refine .inr ⟨g, 0, cap, rfl, hc1, by unfold maxLen at hc2; omega, fun i x hx => ⟨_, rfl, rfl, fun j z hz => ?_⟩⟩
   have hj : j = 0 := by
    have := (Array.getElem?_eq_some_iff.1 hz).1
    simp [Value.cells] at this; exact this
   subst hj
   have hz' : z = .int .i64 (x : Int) := by simpa [Value.cells] using hz.symm
   subst hz'
   have := World.ownsRow.cells h rfl i (.int .i64 (x : Int)) (by unfold nums'; rw [List.getElem?_map, hx]; rfl)
   have e : (⟨g, 0, none⟩ : Addr).add i = ⟨g, 0 + i * 1 + 0, none⟩ := by unfold Addr.add; split <;> simp_all
   rw [e] at this
   have hlt : g < w.heap.size := (Array.getElem?_eq_some_iff.1 hg).1
   rw [World.cell?_of_block (w := w) (hu g hb hlt)]; exact this
theorem firsts_one (l : List Nat) (m : Nat) : Ux.firsts l [m] = if l.contains m then l else l ++ [m] := rfl
theorem firsts_len : ∀ r l : List Nat, (Ux.firsts l r).length ≤ l.length + r.length
 | [], l => by simp [Ux.firsts]
 | n :: r, l => by
   have h := firsts_len r (if l.contains n then l else l ++ [n])
   show (Ux.firsts (if l.contains n then l else l ++ [n]) r).length ≤ _
   split at h <;> simp_all <;> omega
theorem vs_len (t : Ux.Ty) : t.vs.length ≤ t.sz := by
 induction t using Ux.Ty.ind with
 | hv n => rw [Ux.vs_v]; have := Ux.sz_pos (.v n); simpa using this
 | ha nm xs ih =>
   rw [Ux.vs_a, Ux.sz_a, List.length_flatMap]
   have := Ux.sum_le (fun x => x.vs.length) Ux.Ty.sz xs ih
   omega
end Go.Proofs.YtcblppojnailpaaDoor
namespace Go.Proofs.YtcblppojnailpaaDoor
open Go Go.RowKit
set_option linter.unusedVariables false
set_option linter.unusedSimpArgs false
/-- Each number of a list, in whatever world the list stands. -/
theorem nums_cell {u : World} {g of n c : Nat} {l : List Nat} {j x : Nat} (h : NumsR u (.slice (some ⟨g, of, none⟩) n c) l) (hj : l[j]? = some x) : u.cell? ⟨g, of + j, none⟩ = some (.int .i64 (x : Int)) := by
 rcases h with ⟨h0, _⟩ | ⟨g', of', c', hv, h1, h2, h3⟩
 · rw [h0] at hj; cases hj
 · injection hv with e1 e2 e3
   injection e1 with e1
   injection e1 with e4 e5 _
   subst e4; subst e5
   obtain ⟨z, hz, _, hc⟩ := h3 j x hj
   have := hc 0 (.int .i64 (x : Int)) (by rw [show z = .int .i64 (x : Int) from hz]; rfl)
   rwa [Nat.mul_one, Nat.add_zero] at this
theorem nums_some {u : World} {v : Value} {l : List Nat} (h : NumsR u v l) (hl : l ≠ []) : ∃ g of c, v = .slice (some ⟨g, of, none⟩) l.length c ∧ l.length ≤ c ∧ (c : Int) ≤ 9223372036854775807 := by
 rcases h with ⟨h0, _⟩ | ⟨g, of, c, hv, h1, h2, _⟩
 · exact absurd h0 hl
 · exact ⟨g, of, c, hv, h1, h2⟩
end Go.Proofs.YtcblppojnailpaaDoor
