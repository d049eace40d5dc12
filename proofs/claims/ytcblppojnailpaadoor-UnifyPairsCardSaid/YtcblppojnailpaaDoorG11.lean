/-
  Several texts in one: UFn, UBld, ShelfI, UItoa, URText, UTxB, UTxA.
-/
import Derived.Test.YtcblppojnailpaaDoorG10
import Derived.WalkKit
import Derived.WalkSpells
import Derived.Lib.Hide
import Derived.Below
import Derived.Maps.AppendAt
import Derived.Lib.Strings
import Derived.Lib.Slices
import Derived.Lib.Walk
import Derived.Lib.Builder
import Derived.Lib.AppendStr
import Derived.Lib.UnsafeStr
import Derived.Laws.Externs
import Derived.BigRegion
import Derived.Shelf.LaysM
import Derived.Shelf.Strconv.Itoa3
import Derived.Test.YtcblppojnailpaaDoorProg
import Derived.Lib.AppendIntMem
import Derived.Stop.LaidErr
import Derived.Lib.ItoaLen
import Derived.Test.YtcblppojnailpaaDoorG07
import Derived.Test.YtcblppojnailpaaDoorG02
import Derived.Deep.RegionLaw
namespace Go.Proofs.YtcblppojnailpaaDoor
open Go Go.RowKit
set_option linter.unusedVariables false
set_option linter.unusedSimpArgs false
theorem row_two {rep : Value → Ux.Ty → Prop} {w : World} {g : Nat} {T : TypeId} {a0 a1 a2 b0 b1 b2 : Value} {x y : Ux.Ty} (h : w.heap[g]? = some (.cells #[a0, a1, a2, b0, b1, b2] T (0, 0))) (hx : rep (.agg #[a0, a1, a2]) x) (hy : rep (.agg #[b0, b1, b2]) y) :
 RowAt 3 rep w (.slice (some ⟨g, 0, none⟩) 2 2) [x, y] := by
 refine .inr ⟨g, 0, 2, rfl, Nat.le_refl _, by decide, fun i z hz => ?_⟩
 match i, hz with
 | 0, hz =>
   simp only [List.getElem?_cons_zero, Option.some.injEq] at hz
   subst hz
   refine ⟨_, hx, rfl, fun j c hc => ?_⟩
   match j, hc with
   | 0, hc => exact ent_cell h 0 _ hc
   | 1, hc => exact ent_cell h 1 _ hc
   | 2, hc => exact ent_cell h 2 _ hc
   | j + 3, hc => simp [Value.cells] at hc
 | 1, hz =>
   simp only [List.getElem?_cons_succ, List.getElem?_cons_zero, Option.some.injEq] at hz
   subst hz
   refine ⟨_, hy, rfl, fun j c hc => ?_⟩
   match j, hc with
   | 0, hc => exact ent_cell h 3 _ hc
   | 1, hc => exact ent_cell h 4 _ hc
   | 2, hc => exact ent_cell h 5 _ hc
   | j + 3, hc => simp [Value.cells] at hc
 | i + 2, hz => simp at hz
set_option maxHeartbeats 4000000 in
theorem fn_any (v u : Value) (a b : Ux.Ty) (w : World) (ha : TyP w v a) (hb : TyP w u b) :
 Calls Tryd.prog 29 #[v, u] w (fun e w' => ∃ r, e = .returned r ∧ Below w.heap.size w w' ∧ Hang TyP w.heap.size w.heap.size w'.heap.size w' r (.a [45, 62] [a, b])) := by
 obtain ⟨a0, a1, aq, an, ac, rfl⟩ := tyP_sh ha
 obtain ⟨b0, b1, bq, bn, bc, rfl⟩ := tyP_sh hb
 have HA := Lib.hid ha; have HBB := Lib.hid hb
 clear ha hb
 go_enter Tryd.func29, Tryd.ntmps29
 have HB := Lib.hid (show Below w.heap.size w (((w.alloc (.cells #[.int .i64 a0, .string a1, .slice aq an ac] 30)).alloc (.cells #[.int .i64 b0, .string b1, .slice bq bn bc] 30)).alloc (.cells #[.int .i64 0, .string ⟨#[]⟩, .slice none 0 0] 30)) from (((Below.refl _ _).alloc (Nat.le_refl _) _).alloc (by simp) _).alloc (by simp; omega) _)
 have ET := Lib.hid (ent_alloc (ent_alloc (ent_new w #[.int .i64 a0, .string a1, .slice aq an ac] 30) (.cells #[.int .i64 b0, .string b1, .slice bq bn bc] 30)) (.cells #[.int .i64 0, .string ⟨#[]⟩, .slice none 0 0] 30))
 have EU := Lib.hid (ent_alloc (ent_new (w.alloc (.cells #[.int .i64 a0, .string a1, .slice aq an ac] 30)) #[.int .i64 b0, .string b1, .slice bq bn bc] 30) (.cells #[.int .i64 0, .string ⟨#[]⟩, .slice none 0 0] 30))
 have ER := Lib.hid (ent_new ((w.alloc (.cells #[.int .i64 a0, .string a1, .slice aq an ac] 30)).alloc (.cells #[.int .i64 b0, .string b1, .slice bq bn bc] 30)) #[.int .i64 0, .string ⟨#[]⟩, .slice none 0 0] 30)
 rw [show (w.alloc (.cells #[.int .i64 a0, .string a1, .slice aq an ac] 30)).heap.size = w.heap.size + 1 by simp] at EU
 rw [show ((w.alloc (.cells #[.int .i64 a0, .string a1, .slice aq an ac] 30)).alloc (.cells #[.int .i64 b0, .string b1, .slice bq bn bc] 30)).heap.size = w.heap.size + 2 by simp] at ER
 have hs1 : ((((w.alloc (.cells #[.int .i64 a0, .string a1, .slice aq an ac] 30)).alloc (.cells #[.int .i64 b0, .string b1, .slice bq bn bc] 30)).alloc (.cells #[.int .i64 0, .string ⟨#[]⟩, .slice none 0 0] 30))).heap.size = w.heap.size + 3 := by simp
 go_upto_region 1 with fail
 generalize ((w.alloc (.cells #[.int .i64 a0, .string a1, .slice aq an ac] 30)).alloc (.cells #[.int .i64 b0, .string b1, .slice bq bn bc] 30)).alloc (.cells #[.int .i64 0, .string ⟨#[]⟩, .slice none 0 0] 30) = w1 at ET EU ER HB hs1 ⊢
 have t0 := ent_cell ET.out 0 _ rfl
 have t1 := ent_cell ET.out 1 _ rfl
 have t2 := ent_cell ET.out 2 _ rfl
 have u0 := ent_cell EU.out 0 _ rfl
 have u1 := ent_cell EU.out 1 _ rfl
 have u2 := ent_cell EU.out 2 _ rfl
 go_wp2_with fail
 clear t0 t1 t2 u0 u1 u2
 have hal : Below w1.heap.size w1 (w1.alloc (.cells #[.int .i64 a0, .string a1, .slice aq an ac, .int .i64 b0, .string b1, .slice bq bn bc] 30)) := (Below.refl _ _).alloc (Nat.le_refl _) _
 have hb2 := HB.out.trans (hal.mono HB.out.size)
 have EN := ent_new w1 #[.int .i64 a0, .string a1, .slice aq an ac, .int .i64 b0, .string b1, .slice bq bn bc] 30
 rw [hs1] at EN
 refine (of_any [45, 62] _ [a, b] w.heap.size _ hb2.size (row_two EN ((tyP_hang HA.out 0 0).same fun c hc => hb2.block c (by omega)) ((tyP_hang HBB.out 0 0).same fun c hc => hb2.block c (by omega))) (by simp)).mono ?_
 rintro e w5 ⟨r, rfl, hb5, hh5⟩
 obtain ⟨c0, c1, rq, rn, rc, rfl⟩ := tyP_sh hh5.now
 have HB5 := Lib.hid (hb2.trans (hb5.mono hb2.size))
 have ER5 := Lib.hid (ent_below (ent_below ER.out hal) hb5)
 have HH5 := Lib.hid hh5
 have hs2 := hal.size
 have hs5 := hb5.size
 clear hb5 hh5 hal hb2
 have r0 := ent_cell ER5.out 0 _ rfl
 have r1 := ent_cell ER5.out 1 _ rfl
 have r2 := ent_cell ER5.out 2 _ rfl
 have rf := ent_free ER5.out
 go_wp2_with fail
 clear r0 r1 r2 rf
 have HB6 := Lib.hid (below_set3 HB5.out (w.heap.size + 2) (by omega) (.int .i64 c0) (.string c1) (.slice rq rn rc))
 have ER6 := Lib.hid (ent_set3 ER5.out (.int .i64 c0) (.string c1) (.slice rq rn rc))
 have HK6 : Hid (∀ b, b ≠ w.heap.size + 2 → (((w5.setCell ⟨w.heap.size + 2, 0, none⟩ (.int .i64 c0)).setCell ⟨w.heap.size + 2, 1, none⟩ (.string c1)).setCell ⟨w.heap.size + 2, 2, none⟩ (.slice rq rn rc)).heap[b]? = w5.heap[b]?) :=
  Lib.hid (fun b hb => ((Below.heap_setCell _ ⟨w.heap.size + 2, 2, none⟩ _ b hb).trans (Below.heap_setCell _ ⟨w.heap.size + 2, 1, none⟩ _ b hb)).trans (Below.heap_setCell _ ⟨w.heap.size + 2, 0, none⟩ _ b hb))
 have HS6 : Hid ((((w5.setCell ⟨w.heap.size + 2, 0, none⟩ (.int .i64 c0)).setCell ⟨w.heap.size + 2, 1, none⟩ (.string c1)).setCell ⟨w.heap.size + 2, 2, none⟩ (.slice rq rn rc)).heap.size = w5.heap.size) := Lib.hid (by simp)
 have HW2 : Hid (w.heap.size + 3 ≤ (w1.alloc (.cells #[.int .i64 a0, .string a1, .slice aq an ac, .int .i64 b0, .string b1, .slice bq bn bc] 30)).heap.size) := Lib.hid (by simp; omega)
 generalize ((w5.setCell ⟨w.heap.size + 2, 0, none⟩ (.int .i64 c0)).setCell ⟨w.heap.size + 2, 1, none⟩ (.string c1)).setCell ⟨w.heap.size + 2, 2, none⟩ (.slice rq rn rc) = w6 at HB6 ER6 HK6 HS6 ⊢
 have r0 := ent_cell ER6.out 0 _ rfl
 have r1 := ent_cell ER6.out 1 _ rfl
 have r2 := ent_cell ER6.out 2 _ rfl
 refine bodyPost_ret (v := .agg #[.int .i64 c0, .string c1, .slice rq rn rc]) (by simp [results, Tryd.results29, go_sem, r0, r1, r2]) rfl ?_
 refine ⟨_, rfl, HB6.out, ?_⟩
 have hw2 := HW2.out
 exact (HH5.out.same fun c hc => HK6.out c (by omega)).wide (Nat.le_refl _) (by omega) (by rw [HS6.out]; exact Nat.le_refl _)
end Go.Proofs.YtcblppojnailpaaDoor
namespace Go.Proofs.YtcblppojnailpaaDoor
open Go Go.RowKit
set_option linter.unusedVariables false
set_option linter.unusedSimpArgs false
namespace Sw
/-- What a variable's type must be for a builder to lie at its beginning. -/
structure BTy (TT : TypeId) (k : Nat) : Prop where
 lies : liesAt Tryd.prog Tryd.prog.depth TT (k / Tryd.prog.cellsOf TT) 0 85 1 = true
 ne : TT ≠ 5
 pos : 2 ≤ k
theorem btyW : BTy 88 3 := ⟨by kernel_rfl, by decide, by decide⟩
/-- A builder at the beginning of block B, whose cells are cs: what it holds is T. -/
structure WB (TT : TypeId) (k lo B : Nat) (w : World) (cs : Array Value) (T : List UInt8) : Prop where
 heap : w.heap[B]? = some (.cells cs TT (0, 0))
 size : cs.size = k
 low : lo ≤ B
 addr : cs[0]? = some (.pointer none) ∨ cs[0]? = some (.pointer (some ⟨B, 0, none⟩))
 own : ∃ bv, cs[1]? = some bv ∧ w.ownsRow lo 5 1 bv T.length (Lib.byteCells T)
/-- Blocks but B, and those of bytes, stay. -/
def KeepB (B : Nat) (w w' : World) : Prop := w.heap.size ≤ w'.heap.size ∧ ∀ c o, w.heap[c]? = some o → c ≠ B → (∀ cs fr, o ≠ .cells cs 5 fr) → w'.heap[c]? = some o
theorem KeepB.refl (B : Nat) (w : World) : KeepB B w w := ⟨Nat.le_refl _, fun _ _ h _ _ => h⟩
theorem KeepB.trans {B : Nat} {a b c : World} (h : KeepB B a b) (g : KeepB B b c) : KeepB B a c := ⟨Nat.le_trans h.1 g.1, fun x o hx hb hn => g.2 x o (h.2 x o hx hb hn) hb hn⟩
theorem KeepB.set (B j : Nat) (w : World) (v : Value) : KeepB B w (w.setCell ⟨B, j, none⟩ v) := ⟨by simp [World.setCell], fun c o h hb _ => (Below.heap_setCell w ⟨B, j, none⟩ v c hb).trans h⟩
theorem KeepB.alloc (B : Nat) (w : World) (o : Obj) : KeepB B w (w.alloc o) := ⟨by simp, fun c x h _ _ => (Below.heap_alloc w o c (Array.getElem?_eq_some_iff.1 h).1).trans h⟩
theorem KeepB.grown {B : Nat} {w w' : World} {bv : Value} {n lo : Nat} {xs : List Value} (h : w.grownBy w' bv.ownBlock) (ho : w.ownsRow lo 5 1 bv n xs) : KeepB B w w' := by
 refine ⟨h.size, fun c o hc hb hn => ?_⟩
 rw [h.block c (Array.getElem?_eq_some_iff.1 hc).1 ?_]; · exact hc
 intro e
 rcases ho.2 with ⟨rfl, _⟩ | ⟨g, cap, cur, rfl, _, hg, _⟩
 · simp [Value.ownBlock] at e
 · simp only [Value.ownBlock, Option.some.injEq] at e
   subst e
   rw [hg] at hc
   exact hn cur (0, 0) (by simpa using hc.symm)
set_option maxHeartbeats 1000000 in
set_option maxRecDepth 100000 in
theorem copyCheck_used (B : Nat) (w : World) (h0 : w.cell? ⟨B, 0, none⟩ = some (.pointer (some ⟨B, 0, none⟩))) :
 Calls Tryd.prog 56 #[.pointer (some ⟨B, 0, none⟩)] w fun e w' => e = .returned (.tuple #[]) ∧ w' = w := by
 obtain ⟨j, hj, _⟩ := Option.map_eq_some_iff.1 (show (Tryd.prog.info? 85).map (·.size) = some 2 by kernel_rfl)
 go_enter Tryd.func56, Tryd.ntmps56
 go_wp2
 rw [Lib.run_neq_ptr_same w _ Tryd.underlying82 hj]
 go_wp2
 go_end0
 exact ⟨rfl, rfl⟩
set_option maxHeartbeats 1000000 in
set_option maxRecDepth 100000 in
theorem copyCheck_fresh {TT : TypeId} {k : Nat} (hT : BTy TT k) (B : Nat) (w : World) (h0 : w.cell? ⟨B, 0, none⟩ = some (.pointer none)) (hsh : w.shape? B = some (TT, k)) (hfz : w.frozen? ⟨B, 0, none⟩ = false) :
 Calls Tryd.prog 56 #[.pointer (some ⟨B, 0, none⟩)] w fun e w' => e = .returned (.tuple #[]) ∧ w' = w.setCell ⟨B, 0, none⟩ (.pointer (some ⟨B, 0, none⟩)) := by
 obtain ⟨j, hj, hjs⟩ := Option.map_eq_some_iff.1 (show (Tryd.prog.info? 85).map (·.size) = some 2 by kernel_rfl)
 have hlies := hT.lies
 have hpos : 0 < k := by have := hT.pos; omega
 go_enter Tryd.func56, Tryd.ntmps56
 go_wp2
 rw [Lib.run_to_unsafe w ⟨B, 0, none⟩ Tryd.underlying82 Tryd.underlying134 hj (by rw [hjs]; decide) hsh hpos]
 simp only [Result.andThen]
 rw [Oper.upon_value]
 go_wp2
 rw [run_callFunc_extern Tryd.func61 (by kernel_rfl) (by kernel_rfl) (by kernel_rfl) (e := Extern.AbiNoEscape.same) (by kernel_rfl)]
 rw [Lib.run_noEscape]
 simp only [Result.andThen]
 rw [Oper.upon_value]
 go_wp2
 rw [Lib.run_from_unsafe w ⟨B, 0, none⟩ Tryd.underlying134 Tryd.underlying82 hj hsh hlies]
 simp only [Result.andThen]
 rw [Oper.upon_value]
 go_wp2
 go_end0
 exact ⟨rfl, rfl⟩
theorem WB.cell {TT : TypeId} {k lo B : Nat} {w : World} {cs : Array Value} {T : List UInt8} (h : WB TT k lo B w cs T) (j : Nat) : w.cell? ⟨B, j, none⟩ = cs[j]? := Lib.cell_of_heap h.heap j
theorem WB.free {TT : TypeId} {k lo B : Nat} {w : World} {cs : Array Value} {T : List UInt8} (h : WB TT k lo B w cs T) (j : Nat) : w.frozen? ⟨B, j, none⟩ = false := Lib.frozen_of_heap h.heap j
theorem WB.lt {TT : TypeId} {k lo B : Nat} {w : World} {cs : Array Value} {T : List UInt8} (h : WB TT k lo B w cs T) : B < w.heap.size := (Array.getElem?_eq_some_iff.1 h.heap).1
theorem own_set {w : World} {lo B j : Nat} {E : TypeId} {bv v : Value} {n : Nat} {xs : List Value} (h : w.ownsRow lo E 1 bv n xs) (hne : bv.ownBlock ≠ some B) : (w.setCell ⟨B, j, none⟩ v).ownsRow lo E 1 bv n xs :=
 h.kept (row := some B) ⟨rfl, rfl, rfl, by simp [World.setCell], fun k _ hk => Below.heap_setCell _ _ _ _ (fun e => hk (by simp [e]))⟩ (Or.inr hne)
theorem set_get (cs : Array Value) (i : Nat) (v : Value) (h : i < cs.size) : (cs.setIfInBounds i v)[i]? = some v := by simp [h]
theorem set_other (cs : Array Value) (i j : Nat) (v : Value) (h : i ≠ j) : (cs.setIfInBounds i v)[j]? = cs[j]? := Array.getElem?_setIfInBounds_ne h
theorem set_size {cs : Array Value} {k : Nat} (h : cs.size = k) (i : Nat) (v : Value) : (cs.setIfInBounds i v).size = k := by rw [Array.size_setIfInBounds]; exact h
/-- behind copyCheck -/
theorem copyCheck_any {TT : TypeId} {k lo B : Nat} (hT : BTy TT k) {w : World} {cs : Array Value} {T : List UInt8} (h : WB TT k lo B w cs T) :
 Calls Tryd.prog 56 #[.pointer (some ⟨B, 0, none⟩)] w fun e w' => e = .returned (.tuple #[]) ∧ WB TT k lo B w' (cs.setIfInBounds 0 (.pointer (some ⟨B, 0, none⟩))) T ∧ Below lo w w' ∧ KeepB B w w' := by
 have hk := hT.pos
 have hsz := h.size
 obtain ⟨bv, hb1, hb2⟩ := h.own
 rcases h.addr with h0 | h0
 · refine (copyCheck_fresh hT B w ((h.cell 0).trans h0) (by simp [World.shape?, h.heap, h.size]) (h.free 0)).mono ?_
   rintro e w' ⟨rfl, rfl⟩
   refine ⟨rfl, ⟨heap_setCell_same w B 0 _ _ _ h.heap, set_size h.size _ _, h.low, .inr (set_get _ _ _ (by omega)), bv, (set_other _ _ _ _ (by decide)).trans hb1, own_set hb2 (Lib.ownBlock_ne hb2 h.heap hT.ne)⟩, (Below.refl lo w).setCell (p := ⟨B, 0, none⟩) h.low _, KeepB.set _ _ _ _⟩
 · refine (copyCheck_used B w ((h.cell 0).trans h0)).mono ?_
   rintro e w' ⟨rfl, rfl⟩
   refine ⟨rfl, ⟨?_, set_size h.size _ _, h.low, .inr (set_get _ _ _ (by omega)), bv, (set_other _ _ _ _ (by decide)).trans hb1, hb2⟩, Below.refl _ _, KeepB.refl _ _⟩
   have : cs.setIfInBounds 0 (.pointer (some ⟨B, 0, none⟩)) = cs := by
    obtain ⟨h1, h2⟩ := Array.getElem?_eq_some_iff.1 h0
    rw [Array.setIfInBounds_def, dif_pos h1]
    apply Array.ext
    · simp
    · intro i hi1 hi2
      by_cases hi : 0 = i
      · subst hi; simpa using h2.symm
      · rw [Array.getElem_set_ne _ _ hi]
   rw [this]; exact h.heap
theorem WB.put {TT : TypeId} {k lo B : Nat} (hT : BTy TT k) {w w2 : World} {cs : Array Value} {T T' : List UInt8} (h : WB TT k lo B w cs T) (hb : w2.heap[B]? = w.heap[B]?) {v' : Value} (hown : w2.ownsRow lo 5 1 v' T'.length (Lib.byteCells T')) :
 WB TT k lo B (w2.setCell ⟨B, 1, none⟩ v') (cs.setIfInBounds 1 v') T' := by
 have hk := hT.pos
 have hsz := h.size
 have hb' := hb.trans h.heap
 exact ⟨heap_setCell_same w2 B 1 _ _ _ hb', set_size h.size _ _, h.low, (by rw [set_other _ _ _ _ (by decide)]; exact h.addr), v', set_get _ _ _ (by omega), own_set hown (Lib.ownBlock_ne hown hb' hT.ne)⟩
set_option maxHeartbeats 2000000 in
set_option maxRecDepth 100000 in
theorem writeByte_any {TT : TypeId} {k lo B : Nat} (hT : BTy TT k) {w : World} {cs : Array Value} {T : List UInt8} (h : WB TT k lo B w cs T) (c : UInt8) (hlen : T.length ≤ 100000000000000) (hlo : lo ≤ w.heap.size) :
 Calls Tryd.prog 42 #[.pointer (some ⟨B, 0, none⟩), .int .u8 c.toNat] w fun e w' => e = .returned .nilIface ∧ (∃ cs', WB TT k lo B w' cs' (T ++ [c]) ∧ ∀ j, 2 ≤ j → cs'[j]? = cs[j]?) ∧ Below lo w w' ∧ KeepB B w w' := by
 obtain ⟨i0, hi, hz0, hz1, hz2⟩ := infoParts (show (Tryd.prog.info? 5).map (fun i => (i.zero, i.size, i.bytes)) = some (some (.int .u8 0), 1, 1) by kernel_rfl)
 go_enter Tryd.func42, Tryd.ntmps42
 go_wp2_with fail
 refine (copyCheck_any hT h).mono ?_
 rintro e w1 ⟨rfl, h1, hb1, hk1⟩
 obtain ⟨v, hv, hown⟩ := h1.own
 have c1 : w1.cell? ⟨B, 1, none⟩ = some v := (h1.cell 1).trans hv
 have H1 := Lib.hid h1
 go_wp2_with (at_builtin; refine wpList_append_own _ rfl _ _ 83 rfl lo 5 i0 (.int .u8 0) 1 1 Tryd.underlying83 hi hz0 hz1 hz2 rfl (by decide) _ _ _ rfl (hown.alloc _) ⟨w1.heap.size, 0, none⟩ 1 1 [.int .u8 c.toNat] rfl rfl ?c1 ?c2 ?c3 ?c4 ?c5 ?_)
 case c1 =>
  intro j u hj
  match j, hj with
  | 0, hj => simp at hj; subst hj; simp [Addr.add]
 case c2 => intro u hu; simp at hu; subst hu; rfl
 case c3 => unfold maxLen; omega
 case c4 => omega
 case c5 => have := hb1.size; simp; omega
 intro v' w2 hown' hgrow _
 have hlt := h1.lt
 have hne := Lib.ownBlock_ne hown h1.heap hT.ne
 have hb2 : w2.heap[B]? = w1.heap[B]? := by
  rw [hgrow.block B (by simp; omega) (fun e => hne e.symm), Lib.alloc_old w1 _ B hlt]
 have d1 : w2.cell? ⟨B, 1, none⟩ = some v := by rw [Lib.cell_of_heap (hb2.trans h1.heap)]; exact hv
 have f1 : w2.frozen? ⟨B, 1, none⟩ = false := Lib.frozen_of_heap (hb2.trans h1.heap) 1
 obtain ⟨g, cap, rfl⟩ : ∃ g cap, v' = .slice (some ⟨g, 0, none⟩) (T.length + 1) cap := by
  rcases hown'.2 with ⟨_, h0⟩ | ⟨g, cap, cur, hv, _⟩
  · omega
  · exact ⟨g, cap, hv⟩
 go_wp2_with fail
 go_ret
 refine ⟨rfl, ⟨_, WB.put hT H1.out hb2 (T' := T ++ [c]) (by simpa [Lib.byteCells] using hown'), fun j hj => ?_⟩, ?_, ?_⟩
 · rw [Array.getElem?_setIfInBounds_ne (by omega), Array.getElem?_setIfInBounds_ne (by omega)]
 · exact ((hb1.alloc (by have := hb1.size; omega) _).grown hgrow (by have := hb1.size; simp; omega) (fun k hk => (hown.lt k hk).1)).setCell (p := ⟨B, 1, none⟩) h.low _
 · exact ((hk1.trans (KeepB.alloc B w1 _)).trans (KeepB.grown hgrow (hown.alloc _))).trans (KeepB.set _ _ _ _)
set_option maxHeartbeats 2000000 in
set_option maxRecDepth 100000 in
theorem writeString_any {TT : TypeId} {k lo B : Nat} (hT : BTy TT k) {w : World} {cs : Array Value} {T : List UInt8} (h : WB TT k lo B w cs T) (s : List UInt8) (hlen : T.length + s.length ≤ 100000000000000) (hlo : lo ≤ w.heap.size) :
 Calls Tryd.prog 55 #[.pointer (some ⟨B, 0, none⟩), .string ⟨s.toArray⟩] w fun e w' => (∃ v, e = .returned v) ∧ (∃ cs', WB TT k lo B w' cs' (T ++ s) ∧ ∀ j, 2 ≤ j → cs'[j]? = cs[j]?) ∧ Below lo w w' ∧ KeepB B w w' := by
 obtain ⟨i0, hi, hz0, hz1, hz2⟩ := infoParts (show (Tryd.prog.info? 5).map (fun i => (i.zero, i.size, i.bytes)) = some (some (.int .u8 0), 1, 1) by kernel_rfl)
 obtain ⟨S, hS⟩ : ∃ S : ByteArray, S = ⟨s.toArray⟩ := ⟨_, rfl⟩
 have hSs : S.size = s.length := by rw [hS]; rfl
 have hSc : Lib.strCells S = Lib.byteCells s := by rw [hS]; rfl
 rw [← hS]
 clear hS
 go_enter Tryd.func55, Tryd.ntmps55
 go_wp2_with fail
 refine (copyCheck_any hT h).mono ?_
 rintro e w1 ⟨rfl, h1, hb1, hk1⟩
 obtain ⟨v, hv, hown⟩ := h1.own
 have c1 : w1.cell? ⟨B, 1, none⟩ = some v := (h1.cell 1).trans hv
 have H1 := Lib.hid h1
 go_wp2_with (at_builtin; refine Lib.wpList_append_own_string _ rfl _ _ 83 9 rfl lo 5 i0 Tryd.underlying83 Tryd.underlying9 hi hz0 hz1 hz2 _ _ _ rfl hown S rfl ?c3 ?c4 ?c5 ?_)
 case c3 => unfold maxLen; omega
 case c4 => omega
 case c5 => have := hb1.size; omega
 intro v' w2 hown' hgrow _
 have hlt := h1.lt
 have hne := Lib.ownBlock_ne hown h1.heap hT.ne
 have hb2 : w2.heap[B]? = w1.heap[B]? := hgrow.block B hlt (fun e => hne e.symm)
 have d1 : w2.cell? ⟨B, 1, none⟩ = some v := by rw [Lib.cell_of_heap (hb2.trans h1.heap)]; exact hv
 have f1 : w2.frozen? ⟨B, 1, none⟩ = false := Lib.frozen_of_heap (hb2.trans h1.heap) 1
 obtain ⟨ao, n', cap, rfl⟩ : ∃ ao n' cap, v' = .slice ao n' cap := by
  rcases hown'.2 with ⟨hv, _⟩ | ⟨g, cap, cur, hv, _⟩
  · exact ⟨_, _, _, hv⟩
  · exact ⟨_, _, _, hv⟩
 go_wp2_with fail
 go_ret2
 refine ⟨⟨_, rfl⟩, ⟨_, WB.put hT H1.out hb2 (T' := T ++ s) (by rw [List.length_append, Lib.byteCells_append]; exact hown'), fun j hj => ?_⟩, ?_, ?_⟩
 · rw [Array.getElem?_setIfInBounds_ne (by omega), Array.getElem?_setIfInBounds_ne (by omega)]
 · exact (hb1.grown hgrow (by have := hb1.size; omega) (fun k hk => (hown.lt k hk).1)).setCell (p := ⟨B, 1, none⟩) h.low _
 · exact (hk1.trans (KeepB.grown hgrow hown)).trans (KeepB.set _ _ _ _)
set_option maxHeartbeats 2000000 in
set_option maxRecDepth 100000 in
theorem string_any {TT : TypeId} {k lo B : Nat} (hT : BTy TT k) {w : World} {cs : Array Value} {l : List UInt8} (h : WB TT k lo B w cs l) (h0 : l ≠ []) :
 Calls Tryd.prog 43 #[.pointer (some ⟨B, 0, none⟩)] w fun e w' => e = .returned (.string ⟨l.toArray⟩) ∧ Below lo w w' := by
 obtain ⟨v, hv, hown⟩ := h.own
 have hl0 : l.length ≠ 0 := by simpa using h0
 obtain ⟨g, cap, cur, rfl, hbg, hg, hnc, hcm, hcs, htake⟩ : ∃ g cap cur, v = .slice (some ⟨g, 0, none⟩) l.length cap ∧ lo ≤ g ∧ w.heap[g]? = some (.cells cur 5 (0, 0)) ∧ l.length ≤ cap ∧ cap ≤ maxLen ∧ cur.size = cap * 1 ∧ cur.toList.take (l.length * 1) = Lib.byteCells l := by
  rcases hown.2 with ⟨_, hz⟩ | ⟨g, cap, cur, hv, r⟩
  · exact absurd hz hl0
  · exact ⟨g, cap, cur, hv, r⟩
 have c1 : w.drew.cell? ⟨B, 1, none⟩ = some (.slice (some ⟨g, 0, none⟩) l.length cap) := (h.cell 1).trans hv
 have hSD : (Builtin.unsafeSliceData_ #[83] 124 #[.slice (some ⟨g, 0, none⟩) l.length cap]).run Tryd.prog w.drew = .ok (.pointer (some ⟨g, 0, none⟩)) w.drew :=
  Lib.run_unsafeSliceData_row _ _ _ _ _ _ (by omega)
 have hUS : (Builtin.unsafeString_ #[124, 3] 9 #[.pointer (some ⟨g, 0, none⟩), .int .i64 l.length]).run Tryd.prog w.drew = .ok (.string ⟨l.toArray⟩) (w.drew.freeze ⟨g, 0, none⟩ l.length) := by
  refine Lib.run_unsafeString_row w.drew 124 3 9 5 Tryd.underlying124 (by kernel_rfl) g cur.size (by have hg' : w.drew.heap[g]? = some (.cells cur 5 (0, 0)) := hg; simp [World.shape?, hg']) l h0 (by omega) (by unfold maxLen at hcm; omega) ?_
  intro j x hx
  have := hown.cells (g := g) rfl j (.int .u8 x.toNat) (by simp [Lib.byteCells, hx])
  exact this
 go_enter Tryd.func43, Tryd.ntmps43
 go_wp2_with fail
 go_region
 all_goals (go_wp2_with fail; go_ret; exact ⟨rfl, Lib.below_freeze (Below.drew (Below.refl lo w)) (p := ⟨g, 0, none⟩) hbg _⟩)
end Sw
end Go.Proofs.YtcblppojnailpaaDoor
namespace Go.Proofs
open Go.Shelf
def Tryd.laysM171_ren : Go.Shelf.Ren := ⟨fun | 171 => 30 | 243 => 48 | 246 => 60 | 283 => 62 | 284 => 63 | 285 => 64 | 286 => 65 | 129 => 67 | 317 => 66 | 318 => 68 | 319 => 69 | 320 => 70 | 337 => 71 | 338 => 72 | n => n, fun | 3 => 3 | 9 => 9 | 2 => 2 | 4 => 4 | 171 => 136 | 0 => 0 | 53 => 137 | 37 => 83 | 5 => 5 | 173 => 140 | 212 => 143 | 51 => 144 | 20 => 20 | 213 => 145 | 46 => 48 | 232 => 149 | 233 => 150 | n => n, fun | 17 => 0 | 18 => 1 | 19 => 2 | n => n⟩
theorem Tryd.laysM171 : Go.Proofs.LaysM.n171 Tryd.prog Tryd.laysM171_ren := {
 mixed := by kernel_rfl
 f129 := Tryd.func67.trans (congrArg some (by kernel_rfl))
 f171 := Tryd.func30.trans (congrArg some (by kernel_rfl))
 f243 := Tryd.func48.trans (congrArg some (by kernel_rfl))
 f246 := Tryd.func60.trans (congrArg some (by kernel_rfl))
 f283 := Tryd.func62.trans (congrArg some (by kernel_rfl))
 f284 := Tryd.func63.trans (congrArg some (by kernel_rfl))
 f285 := Tryd.func64.trans (congrArg some (by kernel_rfl))
 f286 := Tryd.func65.trans (congrArg some (by kernel_rfl))
 f317 := Tryd.func66.trans (congrArg some (by kernel_rfl))
 f318 := Tryd.func68.trans (congrArg some (by kernel_rfl))
 f319 := Tryd.func69.trans (congrArg some (by kernel_rfl))
 f320 := Tryd.func70.trans (congrArg some (by kernel_rfl))
 f337 := Tryd.func71.trans (congrArg some (by kernel_rfl))
 f338 := Tryd.func72.trans (congrArg some (by kernel_rfl))
 t0 := Tryd.underlying0
 a0 := Tryd.isAgg0
 z0 := Tryd.sizeOf0
 v0 := Tryd.zeroValue0
 t2 := Tryd.underlying2
 a2 := Tryd.isAgg2
 z2 := Tryd.sizeOf2
 v2 := Tryd.zeroValue2
 t3 := Tryd.underlying3
 a3 := Tryd.isAgg3
 z3 := Tryd.sizeOf3
 v3 := Tryd.zeroValue3
 t4 := Tryd.underlying4
 a4 := Tryd.isAgg4
 z4 := Tryd.sizeOf4
 v4 := Tryd.zeroValue4
 t5 := Tryd.underlying5
 a5 := Tryd.isAgg5
 z5 := Tryd.sizeOf5
 v5 := Tryd.zeroValue5
 t9 := Tryd.underlying9
 a9 := Tryd.isAgg9
 z9 := Tryd.sizeOf9
 v9 := Tryd.zeroValue9
 t20 := Tryd.underlying20
 a20 := Tryd.isAgg20
 z20 := Tryd.sizeOf20
 v20 := Tryd.zeroValue20
 t37 := Tryd.underlying83
 a37 := Tryd.isAgg83
 z37 := Tryd.sizeOf83
 v37 := Tryd.zeroValue83
 t46 := Tryd.underlying48
 a46 := Tryd.isAgg48
 z46 := Tryd.sizeOf48
 v46 := Tryd.zeroValue48
 t51 := Tryd.underlying144
 a51 := Tryd.isAgg144
 z51 := Tryd.sizeOf144
 v51 := Tryd.zeroValue144
 t53 := Tryd.underlying137
 a53 := Tryd.isAgg137
 z53 := Tryd.sizeOf137
 v53 := Tryd.zeroValue137
 t171 := Tryd.underlying136
 a171 := Tryd.isAgg136
 z171 := Tryd.sizeOf136
 v171 := Tryd.zeroValue136
 t173 := Tryd.underlying140
 a173 := Tryd.isAgg140
 z173 := Tryd.sizeOf140
 v173 := Tryd.zeroValue140
 t212 := Tryd.underlying143
 a212 := Tryd.isAgg143
 z212 := Tryd.sizeOf143
 v212 := Tryd.zeroValue143
 t213 := Tryd.underlying145
 a213 := Tryd.isAgg145
 z213 := Tryd.sizeOf145
 t232 := Tryd.underlying149
 a232 := Tryd.isAgg149
 z232 := Tryd.sizeOf149
 v232 := Tryd.zeroValue149
 t233 := Tryd.underlying150
 a233 := Tryd.isAgg150
 z233 := Tryd.sizeOf150
 v233 := Tryd.zeroValue150
 g17 := by kernel_rfl
 g18 := by kernel_rfl
 g19 := by kernel_rfl
 i0 := by kernel_rfl
 i2 := by kernel_rfl
 i3 := by kernel_rfl
 i4 := by kernel_rfl
 i5 := by kernel_rfl
 i9 := by kernel_rfl
 i20 := by kernel_rfl
 i37 := by kernel_rfl
 i46 := by kernel_rfl
 i51 := by kernel_rfl
 i53 := by kernel_rfl
 i171 := by kernel_rfl
 i173 := by kernel_rfl
 i212 := by kernel_rfl
 i232 := by kernel_rfl
 i233 := by kernel_rfl
 m17 := by kernel_rfl
 m18 := by kernel_rfl
 m19 := by kernel_rfl }
open Go.RowKit Go.Sort Go.Lib in
theorem Tryd.strconv_Itoa (n : Int) (h0 : -9223372036854775808 ≤ n) (h1 : n ≤ 9223372036854775807) (w : World) (htab : Lib.TabIs Tryd.prog w "internal/strconv.uint64pow10" .u64 Lib.pow10Tab) :
 Calls Tryd.prog 30 #[.int .i64 n] w fun e w' => e = .returned (.string ⟨(Lib.itoa n).toArray⟩) ∧ ∃ k os, w' = grow (w.drewN k) os := Any.strconv_Itoa Tryd.laysM171 n h0 h1 w htab
end Go.Proofs
namespace Go.Proofs.YtcblppojnailpaaDoor
open Go Go.RowKit
set_option linter.unusedVariables false
set_option linter.unusedSimpArgs false
theorem itoa_any (n : Int) (h0 : -9223372036854775808 ≤ n) (h1 : n ≤ 9223372036854775807) (w : World) (htab : Lib.TabIs Tryd.prog w "internal/strconv.uint64pow10" .u64 Lib.pow10Tab) :
 Calls Tryd.prog 30 #[.int .i64 n] w fun e w' => e = .returned (.string ⟨(Lib.itoa n).toArray⟩) ∧ Below w.heap.size w w' := by
 refine (Tryd.strconv_Itoa n h0 h1 w htab).mono ?_
 rintro e w' ⟨rfl, k, os, rfl⟩
 exact ⟨rfl, Lib.below_grow _ _ (Nat.le_refl _) _ _⟩
theorem bytes_app (a b : List UInt8) : (⟨a.toArray⟩ : ByteArray) ++ (⟨b.toArray⟩ : ByteArray) = ⟨(a ++ b).toArray⟩ := by
 apply ByteArray.ext
 simp
theorem add_texts {w : World} (a b : List UInt8) (h : a.length + b.length ≤ 1000000000000) : (Op.stringOp .add ⟨a.toArray⟩ ⟨b.toArray⟩).run Tryd.prog w = .ok (.string ⟨(a ++ b).toArray⟩) w := by
 refine (run_string_add_sum (P := Tryd.prog) w ⟨a.toArray⟩ ⟨b.toArray⟩ (by show a.toArray.size + b.toArray.size ≤ _; simp only [List.size_toArray]; omega)).trans ?_
 rw [bytes_app]
end Go.Proofs.YtcblppojnailpaaDoor
namespace Go.Proofs.YtcblppojnailpaaDoor
open Go Go.RowKit
set_option linter.unusedVariables false
set_option linter.unusedSimpArgs false
/-- Variables that are numbers. -/
def Low (t : Ux.Ty) : Prop := ∀ n ∈ t.vs, n ≤ 9000000000000000000
theorem low_v {n : Nat} (h : Low (.v n)) : n ≤ 9000000000000000000 := h n (by rw [Ux.vs_v]; simp)
theorem low_in {nm : List UInt8} {xs : List Ux.Ty} (h : Low (.a nm xs)) {x : Ux.Ty} (hx : x ∈ xs) : Low x := fun n hn => h n (by rw [Ux.vs_a]; exact List.mem_flatMap.2 ⟨x, hx, hn⟩)
/-- The text up to some part of the list. -/
def partT (nm : List UInt8) (xs : List Ux.Ty) (k : Nat) : List UInt8 := 40 :: nm ++ (xs.take k).flatMap fun x => 32 :: Ux.textT x
theorem partT_len (nm : List UInt8) (xs : List Ux.Ty) (k : Nat) : (partT nm xs k).length ≤ (partT nm xs xs.length).length := by
 unfold partT
 rw [List.take_length]
 have e : xs = xs.take k ++ xs.drop k := (List.take_append_drop k xs).symm
 conv => rhs; rw [e]
 rw [List.flatMap_append]
 simp only [List.length_append]; omega
theorem partT_succ (nm : List UInt8) (xs : List Ux.Ty) (k : Nat) (x : Ux.Ty) (h : xs[k]? = some x) : partT nm xs (k + 1) = partT nm xs k ++ (32 :: Ux.textT x) := by
 unfold partT
 rw [List.take_add_one, h, List.flatMap_append]
 simp
theorem partT_all (nm : List UInt8) (xs : List Ux.Ty) (h : xs ≠ []) : Ux.textT (.a nm xs) = partT nm xs xs.length ++ [41] := by
 obtain ⟨x, r, rfl⟩ := List.exists_cons_of_ne_nil h
 rw [Ux.textT_cons, Ux.textR_flat]
 unfold partT
 rw [List.take_length]
 simp
theorem str_lit (l : List UInt8) : (⟨l.toArray⟩ : ByteArray) = ⟨l.toArray⟩ := rfl
def RTextC (t : Ux.Ty) : Prop := ∀ (v : Value) (w : World), TyP w v t → Low t → (Ux.textT t).length ≤ 800000000000 → Lib.TabIs Tryd.prog w "internal/strconv.uint64pow10" .u64 Lib.pow10Tab →
 Calls Tryd.prog 12 #[v] w fun e w' => e = .returned (.string ⟨(Ux.textT t).toArray⟩) ∧ Below w.heap.size w w'
set_option maxHeartbeats 4000000 in
set_option maxRecDepth 100000 in
theorem refText_any (t : Ux.Ty) : RTextC t := by
 induction t using Ux.Ty.ind with
 | hv m =>
   intro v w ht hlow hlen htab
   obtain ⟨s, q, j, c, rfl⟩ := tyP_v.1 ht
   have hm0 : (0 : Int) ≤ (m : Int) := by omega
   have hmx := low_v hlow
   have HT := Lib.hid htab
   have HX : Hid (Ux.textT (.v m) = 116 :: Lib.itoa m) := Lib.hid (Ux.textT_v m)
   have hil := Lib.itoa_length_le (m : Int) (by omega) (by omega)
   rw [HX.out]
   clear ht hlow hlen htab
   go_enter Tryd.func12, Tryd.ntmps12
   have ET := Lib.hid (ent_new w #[.int .i64 m, .string s, .slice q j c] 30)
   have HB := Lib.hid (show Below w.heap.size w (w.alloc (.cells #[.int .i64 m, .string s, .slice q j c] 30)) from (Below.refl _ _).alloc (Nat.le_refl _) _)
   go_upto_region 1 with fail
   generalize w.alloc (.cells #[.int .i64 m, .string s, .slice q j c] 30) = w1 at ET HB ⊢
   have t0 := ent_cell ET.out 0 _ rfl
   have hadd := Lib.hid (fun w : World => add_texts (w := w) [116] (Lib.itoa m) (by simp; omega))
   go_wp2_with fail
   refine (itoa_any m (by omega) (by omega) w1 ((Lib.tabBelow_of_tabIs HT.out) w1 HB.out)).mono ?_
   rintro e w2 ⟨rfl, hb2⟩
   have HB2 := Lib.hid (HB.out.trans (hb2.mono HB.out.size))
   clear hb2 t0
   have ha := hadd.out w2
   go_wp2_with fail
   go_ret
   exact ⟨rfl, HB2.out⟩
 | ha nm xs ih =>
   intro v w ht hlow hlen htab
   obtain ⟨kt, av, hkt, rfl, hx, _⟩ := tyP_a.1 ht
   obtain ⟨q, cp, rfl⟩ := hx.len
   have HX := Lib.hid hx; have HIH := Lib.hid ih; have HT := Lib.hid htab; have HLOW := Lib.hid hlow; have HLEN := Lib.hid hlen
   clear ht hlow hlen htab hx ih
   go_enter Tryd.func12, Tryd.ntmps12
   have ET := Lib.hid (ent_new w #[.int .i64 kt, .string ⟨nm.toArray⟩, .slice q xs.length cp] 30)
   have HB := Lib.hid (show Below w.heap.size w (w.alloc (.cells #[.int .i64 kt, .string ⟨nm.toArray⟩, .slice q xs.length cp] 30)) from (Below.refl _ _).alloc (Nat.le_refl _) _)
   go_upto_region 1 with fail
   generalize w.alloc (.cells #[.int .i64 kt, .string ⟨nm.toArray⟩, .slice q xs.length cp] 30) = w1 at ET HB ⊢
   have t0 := ent_cell ET.out 0 _ rfl
   have t1 := ent_cell ET.out 1 _ rfl
   have t2 := ent_cell ET.out 2 _ rfl
   by_cases hnil : xs = []
   · subst hnil
     have HE : Hid (Ux.textT (.a nm []) = nm) := Lib.hid (Ux.textT_nil nm)
     have l0 : ([] : List Ux.Ty).length = 0 := rfl
     rw [l0] at t2
     go_wp2_with fail
     go_ret
     exact ⟨by rw [HE.out]; rfl, HB.out⟩
   have hpos := List.length_pos_iff.2 hnil
   have HE := Lib.hid (partT_all nm xs hnil)
   have HPL : Hid ((partT nm xs xs.length).length ≤ 799999999999) := Lib.hid (by have := HLEN.out; rw [HE.out, List.length_append] at this; simp at this; omega)
   obtain ⟨n0, hn0⟩ : ∃ n0, n0 = xs.length := ⟨_, rfl⟩
   rw [← hn0] at t2 ET hpos ⊢
   have HN := Lib.hid hn0
   clear hn0
   have b0 : ((n0 : Int) == 0) = false := by simp; omega
   have hadd := add_texts (w := w1) [40] nm (by have := HPL.out; have h2 := partT_len nm xs 0; unfold partT at h2 this; simp at h2 this ⊢; omega)
   rw [show [40] ++ nm = partT nm xs 0 by unfold partT; simp] at hadd
   go_wp2_with fail
   clear t0 t1 t2 hadd
   go_loopw [3, 4] (fun sv i wr => ∃ j : Nat, i = .int .i64 j ∧ j ≤ n0 ∧ sv = .string ⟨(partT nm xs j).toArray⟩ ∧ Hid (wr.heap[w.heap.size]? = some (.cells #[.int .i64 kt, .string ⟨nm.toArray⟩, .slice q n0 cp] 30 (0, 0))) ∧ Hid (Below w.heap.size w wr)) (fun _ i _ => n0 - (intOf i).toNat)
   case atStart => exact ⟨0, rfl, Nat.zero_le _, rfl, ET, HB⟩
   case round =>
    clear ET HB
    obtain ⟨j, rfl, hj, rfl, ET, HB⟩ := hrel
    have t2 := ent_cell ET.out 2 _ rfl
    by_cases hlt : j < n0
    · obtain ⟨x, hx1⟩ : ∃ x, xs[j]? = some x := ⟨_, List.getElem?_eq_getElem (by have := HN.out; omega)⟩
      have HPS := Lib.hid (partT_succ nm xs j x hx1)
      have HPJ := Lib.hid (partT_len nm xs j)
      have HPJ1 := Lib.hid (partT_len nm xs (j + 1))
      have hmem := List.mem_of_getElem? hx1
      rcases HX.out with ⟨h0, _⟩ | ⟨g, of, c', hv, g1, g2, g3⟩
      · exact absurd h0 hnil
      injection hv with hq1 _ hq2
      subst hq1; subst hq2
      obtain ⟨u, hu, _, hcell⟩ := g3 j x hx1
      obtain ⟨a0, a1, uq, un, uc, rfl⟩ := tyP_sh hu
      have up : ∀ j' z, (Value.agg #[.int .i64 a0, .string a1, .slice uq un uc]).cells[j']? = some z → wr.cell? ⟨g, of + j * 3 + j', none⟩ = some z := fun j' z hz => cell_up HB.out (hcell j' z hz)
      have x0 : wr.cell? ⟨g, of + j * 3, none⟩ = some (.int .i64 a0) := up 0 _ rfl
      have x1 : wr.cell? ⟨g, of + j * 3 + 1, none⟩ = some (.string a1) := up 1 _ rfl
      have x2 : wr.cell? ⟨g, of + j * 3 + 2, none⟩ = some (.slice uq un uc) := up 2 _ rfl
      have hk1 : (j : Int) < (n0 : Int) := by omega
      have hk2 : (n0 : Int) ≤ (cp : Int) := by have := HN.out; omega
      have hk3 := g2
      have HC := Lib.hid (HIH.out x hmem _ wr (tyP_below hu HB.out) (low_in HLOW.out hmem) (by have h1 := HPS.out; have h2 := HPJ1.out; have h3 := HPL.out; rw [h1, List.length_append] at h2; simp at h2; omega) ((Lib.tabBelow_of_tabIs HT.out) wr HB.out))
      obtain ⟨S, hS⟩ : ∃ S, S = Ux.textT x := ⟨_, rfl⟩
      rw [← hS] at HC HPS
      obtain ⟨P, hP⟩ : ∃ P, P = partT nm xs j := ⟨_, rfl⟩
      rw [← hP] at HPS HPJ ⊢
      obtain ⟨P1, hP1⟩ : ∃ P1, P1 = partT nm xs (j + 1) := ⟨_, rfl⟩
      rw [← hP1] at HPS HPJ1
      have HP1 := Lib.hid hP1
      clear hP hP1 hS up g1 g2 g3 hcell hu hx1 hmem
      have hA1 := Lib.hid (fun w : World => add_texts (w := w) [32] S (by have h1 := HPS.out; have h2 := HPJ1.out; have h3 := HPL.out; rw [h1, List.length_append] at h2; simp at h2 ⊢; omega))
      have hA2 := Lib.hid (fun w : World => add_texts (w := w) P (32 :: S) (by have h1 := HPS.out; have h2 := HPJ1.out; have h3 := HPL.out; rw [h1, List.length_append] at h2; omega))
      go_wp2_with fail
      refine HC.out.mono ?_
      rintro e w2 ⟨rfl, hb2⟩
      have ET2 := Lib.hid (ent_below ET.out hb2)
      have HB2 := Lib.hid (HB.out.trans (hb2.mono HB.out.size))
      clear hb2 x0 x1 x2 t2
      have ha1 := hA1.out w2
      have ha2 := hA2.out w2
      rw [← HPS.out] at ha2
      rw [show [32] ++ S = 32 :: S from rfl] at ha1
      go_wp2_with fail
      go_roundw
      case rel => exact ⟨j + 1, by go_num, by omega, by rw [HP1.out], ET2, HB2⟩
      case measure => simp [intOf]; omega
    · obtain rfl : j = n0 := by omega
      have ha3 := add_texts (w := wr) (partT nm xs j) [41] (by have h1 := HPL.out; have h2 := HN.out; rw [← h2] at h1; simp; omega)
      rw [show partT nm xs j ++ [41] = Ux.textT (.a nm xs) by rw [HE.out, HN.out]] at ha3
      go_wp2_with fail
      go_ret
      exact ⟨rfl, HB.out⟩
end Go.Proofs.YtcblppojnailpaaDoor
namespace Go.Proofs.YtcblppojnailpaaDoor
open Go Go.RowKit
set_option linter.unusedVariables false
set_option linter.unusedSimpArgs false
/-- What of a list is still to be written. -/
def FrV (w0 : World) (v : Value) (xs : List Ux.Ty) : Prop := RowAt 3 (TyP w0) w0 v xs
theorem eltFr : Elt 86 28 (.slice none 0 0) 1 24 := ⟨Tryd.underlying86, by kernel_rfl, rfl, by decide, by decide⟩
/-- The writer: what was written, and the lists that are open. -/
def WSt (B : Nat) (w0 w : World) (T : List UInt8) (L : List (List Ux.Ty)) : Prop :=
 ∃ (cs : Array Value) (ov : Value) (vals : List Value), Sw.WB 88 3 w0.heap.size B w cs T ∧ cs[2]? = some ov ∧ w.ownsRow w0.heap.size 28 1 ov L.length vals ∧ vals.length = L.length ∧ (∀ (i : Nat) (xs : List Ux.Ty), L[i]? = some xs → ∃ v, vals[i]? = some v ∧ FrV w0 v xs) ∧ Below w0.heap.size w0 w
theorem WSt.size0 {B : Nat} {w0 w : World} {T : List UInt8} {L : List (List Ux.Ty)} (h : WSt B w0 w T L) : w0.heap.size ≤ w.heap.size := by obtain ⟨_, _, _, _, _, _, _, _, h⟩ := h; exact h.size
theorem WSt.lt {B : Nat} {w0 w : World} {T : List UInt8} {L : List (List Ux.Ty)} (h : WSt B w0 w T L) : B < w.heap.size := by obtain ⟨_, _, _, h, _⟩ := h; exact h.lt
theorem WB_below {TT : TypeId} {k lo B : Nat} {w w' : World} {cs : Array Value} {T : List UInt8} (h : Sw.WB TT k lo B w cs T) (hb : Below w.heap.size w w') : Sw.WB TT k lo B w' cs T := by
 obtain ⟨bv, b1, b2⟩ := h.own
 exact ⟨ent_below h.heap hb, h.size, h.low, h.addr, bv, b1, own_kept b2 hb⟩
theorem WSt.below {B : Nat} {w0 w w' : World} {T : List UInt8} {L : List (List Ux.Ty)} (h : WSt B w0 w T L) (hb : Below w.heap.size w w') : WSt B w0 w' T L := by
 obtain ⟨cs, ov, vals, h1, h2, h3, h4, h5, h6⟩ := h
 exact ⟨cs, ov, vals, WB_below h1 hb, h2, own_kept h3 hb, h4, h5, h6.trans (hb.mono h6.size)⟩
theorem own_keepB {B lo : Nat} {w w' : World} {E : TypeId} {v : Value} {n : Nat} {xs : List Value} {cs : Array Value} {TT : TypeId} (h : w.ownsRow lo E 1 v n xs) (hE : E ≠ 5) (hB : w.heap[B]? = some (.cells cs TT (0, 0))) (hT : TT ≠ E) (hk : Sw.KeepB B w w') : w'.ownsRow lo E 1 v n xs := by
 refine own_same h fun k hk' => ?_
 rcases h.2 with ⟨rfl, _⟩ | ⟨g, cap, cur, rfl, _, hg, _⟩
 · simp [Value.ownBlock] at hk'
 · simp only [Value.ownBlock, Option.some.injEq] at hk'
   subst hk'
   rw [hg]
   refine hk.2 g _ hg (fun e => ?_) (fun cs' fr e => ?_)
   · subst e; rw [hB] at hg; injection hg with hg; injection hg with _ hg _; exact hT hg
   · injection e with _ e _; exact hE e
/-- Behind a call of the builder. -/
theorem WSt.wrote {B : Nat} {w0 w w' : World} {T T' : List UInt8} {L : List (List Ux.Ty)} {cs cs' : Array Value} {ov : Value} {vals : List Value} (h : WSt B w0 w T L) (h2 : cs[2]? = some ov) (h3 : w.ownsRow w0.heap.size 28 1 ov L.length vals) (h4 : vals.length = L.length) (h5 : ∀ (i : Nat) (xs : List Ux.Ty), L[i]? = some xs → ∃ v, vals[i]? = some v ∧ FrV w0 v xs) (h6 : Below w0.heap.size w0 w)
 (g1 : Sw.WB 88 3 w0.heap.size B w' cs' T') (g2 : ∀ j, 2 ≤ j → cs'[j]? = cs[j]?) (g3 : Below w0.heap.size w w') (g4 : Sw.KeepB B w w') : WSt B w0 w' T' L := by
 obtain ⟨cs0, _, _, h1, _⟩ := h
 exact ⟨cs', ov, vals, g1, (g2 2 (by decide)).trans h2, own_keepB h3 (by decide) h1.heap (by decide) g4, h4, h5, h6.trans g3⟩
theorem WSt.ncell {B : Nat} {w0 w : World} {T : List UInt8} {L : List (List Ux.Ty)} (h : WSt B w0 w T L) : ∃ p c, w.cell? ⟨B, 2, none⟩ = some (.slice p L.length c) := by
 obtain ⟨cs, ov, vals, h1, h2, h3, h4, h5, h6⟩ := h
 obtain ⟨p, c, rfl⟩ := own_slice h3
 exact ⟨p, c, (h1.cell 2).trans h2⟩
/-- Behind a store of the list that is open. -/
theorem WSt.store {B : Nat} {w0 w w2 : World} {T : List UInt8} {L : List (List Ux.Ty)} {cs : Array Value} {ov : Value} {vals : List Value} (h1 : Sw.WB 88 3 w0.heap.size B w cs T) (hw : Sw.WB 88 3 w0.heap.size B w2 cs T) (h3 : w2.ownsRow w0.heap.size 28 1 ov L.length vals) (h4 : vals.length = L.length) (h5 : ∀ (i : Nat) (xs : List Ux.Ty), L[i]? = some xs → ∃ v, vals[i]? = some v ∧ FrV w0 v xs) (h6 : Below w0.heap.size w0 w2) : WSt B w0 (w2.setCell ⟨B, 2, none⟩ ov) T L := by
 obtain ⟨bv, b1, b2⟩ := hw.own
 have hs := hw.size
 refine ⟨cs.setIfInBounds 2 ov, ov, vals, ⟨ent_set hw.heap 2 ov, Sw.set_size hs _ _, hw.low, by rw [Sw.set_other _ _ _ _ (by decide)]; exact hw.addr, bv, by rw [Sw.set_other _ _ _ _ (by decide)]; exact b1, Sw.own_set b2 (Lib.ownBlock_ne b2 hw.heap (by decide))⟩, Sw.set_get _ _ _ (by omega), Sw.own_set h3 (Lib.ownBlock_ne h3 hw.heap (by decide)), h4, h5, h6.setCell (p := ⟨B, 2, none⟩) hw.low ov⟩
theorem WB_chg {TT : TypeId} {k lo B : Nat} {R : Nat → Prop} {w w' : World} {cs : Array Value} {T : List UInt8} (h : Sw.WB TT k lo B w cs T) (hc : Chg R w w') (hB : ¬ R B) (hR : ∀ g cur, w.heap[g]? = some (.cells cur 5 (0, 0)) → ¬ R g) : Sw.WB TT k lo B w' cs T := by
 obtain ⟨bv, b1, b2⟩ := h.own
 refine ⟨ent_chg h.heap hc hB, h.size, h.low, h.addr, bv, b1, own_same b2 fun g hg => ?_⟩
 rcases b2.2 with ⟨rfl, _⟩ | ⟨g', cap, cur, rfl, _, hg', _⟩
 · simp [Value.ownBlock] at hg
 · simp only [Value.ownBlock, Option.some.injEq] at hg
   subst hg
   exact hc.block _ (ent_lt hg') (hR _ _ hg')
theorem own_ne8 {w : World} {lo : Nat} {E : TypeId} {size : Nat} {v : Value} {n : Nat} {xs : List Value} (h : w.ownsRow lo E size v n xs) (hE : E ≠ 5) : ∀ g cur, w.heap[g]? = some (.cells cur 5 (0, 0)) → ¬ v.ownBlock = some g := fun g cur hg e =>
 own_ne h hg (fun cs e => by injection e with _ e _; exact hE e.symm) e
theorem begin_ne (nm : List UInt8) (xs : List Ux.Ty) (h : xs ≠ []) : Ux.beginT (.a nm xs) = (40 :: nm, [xs]) := by
 cases xs with
 | nil => exact absurd rfl h
 | cons x r => rfl
def TBegPost (B : Nat) (w0 : World) (T : List UInt8) (L : List (List Ux.Ty)) (e : Ending) (w' : World) : Prop := e = .returned (.tuple #[]) ∧ WSt B w0 w' T L
set_option maxHeartbeats 4000000 in
set_option maxRecDepth 100000 in
theorem begin_v (B : Nat) (w0 : World) (m : Nat) (v : Value) (w : World) (T : List UInt8) (L : List (List Ux.Ty)) (hw : WSt B w0 w T L) (ht : TyP w v (.v m)) (hm : m ≤ 9000000000000000000) (hT : T.length ≤ 10000000000000) (htab : Lib.TabIs Tryd.prog w0 "internal/strconv.uint64pow10" .u64 Lib.pow10Tab) :
 Calls Tryd.prog 41 #[.pointer (some ⟨B, 0, none⟩), v] w (TBegPost B w0 (T ++ (116 :: Lib.itoa m)) L) := by
 obtain ⟨s, q, jj, c, rfl⟩ := tyP_v.1 ht
 have HW := Lib.hid hw
 have HT := Lib.hid hT
 have hm0 : (0 : Int) ≤ (m : Int) := by omega
 have HIL := Lib.hid (Lib.itoa_length_le (m : Int) (by omega) (by omega))
 have HTB : Hid (∀ w', Below w.heap.size w w' → Lib.TabIs Tryd.prog w' "internal/strconv.uint64pow10" .u64 Lib.pow10Tab) := Lib.hid fun w' hb => by
  obtain ⟨_, _, _, _, _, _, _, _, h6⟩ := hw
  exact (Lib.tabBelow_of_tabIs htab) w' (h6.trans (hb.mono h6.size))
 obtain ⟨I, hI⟩ : ∃ I, I = 116 :: Lib.itoa (m : Int) := ⟨_, rfl⟩
 have HI := Lib.hid hI
 rw [← hI]
 clear hI
 have HBN := Lib.hid hw.lt
 have hdec : decide ((0 : Int) ≤ (m : Int)) = true := by simp
 clear hw ht htab hT
 go_enter Tryd.func41, Tryd.ntmps41
 have ET := Lib.hid (ent_new w #[.int .i64 m, .string s, .slice q jj c] 30)
 have HB := Lib.hid (show Below w.heap.size w (w.alloc (.cells #[.int .i64 m, .string s, .slice q jj c] 30)) from (Below.refl _ _).alloc (Nat.le_refl _) _)
 go_upto_region 3 with fail
 replace HW := Lib.hid (HW.out.below HB.out)
 generalize w.alloc (.cells #[.int .i64 m, .string s, .slice q jj c] 30) = w1 at HW ET HB ⊢
 have t0 := ent_cell ET.out 0 _ rfl
 have t1 := ent_cell ET.out 1 _ rfl
 have t2 := ent_cell ET.out 2 _ rfl
 go_wp2_with fail
 refine (isVar_any _ _ _ _).mono ?_
 rintro e w2 ⟨rfl, hb2⟩
 rw [hdec]
 replace ET := Lib.hid (ent_below ET.out hb2)
 replace HW := Lib.hid (HW.out.below hb2)
 replace HB := Lib.hid (HB.out.trans (hb2.mono HB.out.size))
 clear hb2 t0 t1 t2
 go_upto_region 4 with fail
 replace ET : Hid (w2.drew.heap[w.heap.size]? = some (.cells #[.int .i64 m, .string s, .slice q jj c] 30 (0, 0))) := Lib.hid ET.out
 replace HW : Hid (WSt B w0 w2.drew T L) := Lib.hid (HW.out.below ((Below.refl _ _).drew))
 replace HB : Hid (Below w.heap.size w w2.drew) := Lib.hid HB.out.drew
 obtain ⟨wd, hwd⟩ : ∃ wd, wd = w2.drew := ⟨_, rfl⟩
 rw [← hwd] at ET HW HB
 refine wp_region_held_drew (S := fun (u : World) => u.heap[w.heap.size]? = some (.cells #[.int .i64 m, .string s, .slice q jj c] 30 (0, 0))) (by kernel_rfl) (show w2.drew.heap[w.heap.size]? = _ by rw [← hwd]; exact ET.out) (fun hHeld => ?_)
 rw [← hwd] at hHeld ⊢
 clear hwd
 refine wpAnyH_take (i := 0) (v := .pointer (some ⟨B, 0, none⟩)) rfl (by kernel_rfl) (by kernel_rfl) (by kernel_rfl) (fun _ _ _ h => h) (Or.inl ⟨by rfl, fun w' hSw => by go_simp⟩) hHeld ?_
 refine wpAnyH_take (i := 1) (v := .pointer (some ⟨B, 0, none⟩)) rfl (by kernel_rfl) (by kernel_rfl) (by kernel_rfl) (fun _ _ _ h => h) (Or.inl ⟨by rfl, fun w' hSw => by go_simp⟩) hHeld ?_
 refine wpAnyH_take (i := 2) (v := .pointer (some ⟨B, 0, none⟩)) rfl (by kernel_rfl) (by kernel_rfl) (by kernel_rfl) (fun _ _ _ h => h) (Or.inl ⟨by rfl, fun w' hSw => by go_simp⟩) hHeld ?_
 refine wpAnyH_take (i := 3) (v := .pointer (some ⟨w.heap.size, 0, none⟩)) rfl (by kernel_rfl) (by kernel_rfl) (by kernel_rfl) (fun _ _ _ h => h) (Or.inl ⟨by rfl, fun w' hSw => by go_simp⟩) hHeld ?_
 refine wpAnyH_take (i := 4) (v := .int .i64 (m : Int)) rfl (by kernel_rfl) (by kernel_rfl) (by kernel_rfl) (fun _ _ _ h => h) (Or.inl ⟨by rfl, fun w' hSw => by have h := ent_cell (show w'.heap[w.heap.size]? = _ from hSw) 0 _ rfl; go_simp⟩) hHeld ?_
 try simp only [Act.put, List.getElem_toArray, List.getElem_cons_succ, List.getElem_cons_zero, List.setIfInBounds_toArray, List.set_cons_zero, List.set_cons_succ]
 refine wpAnyH_ready (rs := [5]) (by kernel_rfl) (by simp) ?_
 refine AllReadyH.cons rfl (fun K hK => ?_) AllReadyH.nil
 go_simp
 refine (itoa_any m (by omega) (by omega) wd (HTB.out wd HB.out)).mono ?_
 rintro e w2 ⟨rfl, hb2⟩
 have ET2 := Lib.hid (ent_below ET.out hb2)
 have HW2 := Lib.hid (HW.out.below hb2)
 have HB2 := Lib.hid (HB.out.trans (hb2.mono HB.out.size))
 clear hb2
 refine hK.out _ _ ET2.out (fun hHeld => ?_)
 clear hK K
 refine wpAnyH_ready (rs := [6]) (by kernel_rfl) (by simp) ?_
 refine AllReadyH.cons rfl (fun K hK => ?_) AllReadyH.nil
 have ha := add_texts (w := w2) [116] (Lib.itoa m) (by have := HIL.out; simp; omega)
 rw [show [116] ++ Lib.itoa (m : Int) = 116 :: Lib.itoa m from rfl, ← HI.out] at ha
 go_simp
 refine hK.out _ _ ET2.out (fun hHeld => ?_)
 clear hK K
 refine wpAnyH_ready (rs := [7]) (by kernel_rfl) (by simp) ?_
 refine AllReadyH.cons rfl (fun K hK => ?_) AllReadyH.nil
 go_simp
 obtain ⟨cs, ov, vals, h1, h2, h3, h4, h5, h6⟩ := HW2.out
 refine (Sw.writeString_any Sw.btyW h1 I (by have := HIL.out; have := HT.out; have h := congrArg List.length HI.out; simp at h; omega) (Nat.le_trans HW2.out.size0 (Nat.le_refl _))).mono ?_
 rintro e w3 ⟨⟨v3, rfl⟩, ⟨cs3, g1, g2⟩, g3, g4⟩
 have ET3 := Lib.hid (g4.2 _ _ ET2.out (by have := ent_lt ET.out; have := HBN.out; omega) (fun cs fr e => by injection e with _ e _; cases e))
 have HW3 := Lib.hid (HW2.out.wrote h2 h3 h4 h5 h6 g1 g2 g3 g4)
 have HB3 := Lib.hid (HB2.out)
 clear h1 h2 h3 h4 h5 h6 g1 g2 g3 g4
 refine hK.out _ _ ET3.out (fun hHeld => ?_)
 clear hK K
 refine wpAnyH_done (by kernel_rfl) ?_ _
 go_wp2_with fail
 refine bodyPost_end (v := .tuple #[]) (by simp [results, Tryd.results41, go_sem]) rfl ?_
 exact ⟨rfl, HW3.out⟩
end Go.Proofs.YtcblppojnailpaaDoor
namespace Go.Proofs.YtcblppojnailpaaDoor
open Go Go.RowKit
set_option linter.unusedVariables false
set_option linter.unusedSimpArgs false
set_option maxHeartbeats 4000000 in
set_option maxRecDepth 100000 in
theorem begin_a (B : Nat) (w0 : World) (nm : List UInt8) (xs : List Ux.Ty) (v : Value) (w : World) (T : List UInt8) (L : List (List Ux.Ty)) (hw : WSt B w0 w T L) (ht : TyP w v (.a nm xs)) (hfr : ∀ k s av, v = .agg #[k, s, av] → FrV w0 av xs) (hT : T.length + nm.length ≤ 10000000000000 ∧ nm.length ≤ 900000000000) (hL : L.length ≤ 50000000000) :
 Calls Tryd.prog 41 #[.pointer (some ⟨B, 0, none⟩), v] w (TBegPost B w0 (T ++ (Ux.beginT (.a nm xs)).1) (L ++ (Ux.beginT (.a nm xs)).2)) := by
 obtain ⟨kt, av, hkt, rfl, hx, _⟩ := tyP_a.1 ht
 obtain ⟨q, cp, rfl⟩ := hx.len
 have HW := Lib.hid hw
 have HT := Lib.hid hT
 obtain ⟨I, hI⟩ : ∃ I, I = 40 :: nm := ⟨_, rfl⟩
 have HI := Lib.hid hI
 clear hI
 have HBN := Lib.hid hw.lt
 have HFR := Lib.hid (hfr _ _ _ rfl)
 have hdec : decide ((0 : Int) ≤ kt) = false := by simp; omega
 clear hw ht hT hx hfr
 go_enter Tryd.func41, Tryd.ntmps41
 have ET := Lib.hid (ent_new w #[.int .i64 kt, .string ⟨nm.toArray⟩, .slice q xs.length cp] 30)
 have HB := Lib.hid (show Below w.heap.size w (w.alloc (.cells #[.int .i64 kt, .string ⟨nm.toArray⟩, .slice q xs.length cp] 30)) from (Below.refl _ _).alloc (Nat.le_refl _) _)
 go_upto_region 3 with fail
 replace HW := Lib.hid (HW.out.below HB.out)
 generalize w.alloc (.cells #[.int .i64 kt, .string ⟨nm.toArray⟩, .slice q xs.length cp] 30) = w1 at HW ET HB ⊢
 have t0 := ent_cell ET.out 0 _ rfl
 have t1 := ent_cell ET.out 1 _ rfl
 have t2 := ent_cell ET.out 2 _ rfl
 go_wp2_with fail
 refine (isVar_any _ _ _ _).mono ?_
 rintro e w2 ⟨rfl, hb2⟩
 rw [hdec]
 replace ET := Lib.hid (ent_below ET.out hb2)
 replace HW := Lib.hid (HW.out.below hb2)
 replace HB := Lib.hid (HB.out.trans (hb2.mono HB.out.size))
 clear hb2 t0 t1 t2
 have t0 := ent_cell ET.out 0 _ rfl
 have t1 := ent_cell ET.out 1 _ rfl
 have t2 := ent_cell ET.out 2 _ rfl
 by_cases hnil : xs = []
 · subst hnil
   have l0 : ([] : List Ux.Ty).length = 0 := rfl
   rw [l0] at t2 ET ⊢
   go_upto_region 6 with fail
   clear t0 t1 t2
   replace ET : Hid (w2.drew.heap[w.heap.size]? = some (.cells #[.int .i64 kt, .string ⟨nm.toArray⟩, .slice q 0 cp] 30 (0, 0))) := Lib.hid ET.out
   replace HW : Hid (WSt B w0 w2.drew T L) := Lib.hid (HW.out.below ((Below.refl _ _).drew))
   obtain ⟨wd, hwd⟩ : ∃ wd, wd = w2.drew := ⟨_, rfl⟩
   rw [← hwd] at ET HW
   refine wp_region_held_drew (S := fun (u : World) => u.heap[w.heap.size]? = some (.cells #[.int .i64 kt, .string ⟨nm.toArray⟩, .slice q 0 cp] 30 (0, 0))) (by kernel_rfl) (show w2.drew.heap[w.heap.size]? = _ by rw [← hwd]; exact ET.out) (fun hHeld => ?_)
   rw [← hwd] at hHeld ⊢
   clear hwd
   refine wpAnyH_take (i := 0) (v := .pointer (some ⟨B, 0, none⟩)) rfl (by kernel_rfl) (by kernel_rfl) (by kernel_rfl) (fun _ _ _ h => h) (Or.inl ⟨by rfl, fun w' hSw => by go_simp⟩) hHeld ?_
   refine wpAnyH_take (i := 1) (v := .pointer (some ⟨B, 0, none⟩)) rfl (by kernel_rfl) (by kernel_rfl) (by kernel_rfl) (fun _ _ _ h => h) (Or.inl ⟨by rfl, fun w' hSw => by go_simp⟩) hHeld ?_
   refine wpAnyH_take (i := 2) (v := .pointer (some ⟨B, 0, none⟩)) rfl (by kernel_rfl) (by kernel_rfl) (by kernel_rfl) (fun _ _ _ h => h) (Or.inl ⟨by rfl, fun w' hSw => by go_simp⟩) hHeld ?_
   refine wpAnyH_take (i := 3) (v := .pointer (some ⟨w.heap.size, 1, none⟩)) rfl (by kernel_rfl) (by kernel_rfl) (by kernel_rfl) (fun _ _ _ h => h) (Or.inl ⟨by rfl, fun w' hSw => by go_simp⟩) hHeld ?_
   refine wpAnyH_take (i := 4) (v := .string ⟨nm.toArray⟩) rfl (by kernel_rfl) (by kernel_rfl) (by kernel_rfl) (fun _ _ _ h => h) (Or.inl ⟨by rfl, fun w' hSw => by have h := ent_cell (show w'.heap[w.heap.size]? = _ from hSw) 1 _ rfl; go_simp⟩) hHeld ?_
   try simp only [Act.put, List.getElem_toArray, List.getElem_cons_succ, List.getElem_cons_zero, List.setIfInBounds_toArray, List.set_cons_zero, List.set_cons_succ]
   refine wpAnyH_ready (rs := [5]) (by kernel_rfl) (by simp) ?_
   refine AllReadyH.cons rfl (fun K hK => ?_) AllReadyH.nil
   go_simp
   obtain ⟨cs, ov, vals, h1, h2, h3, h4, h5, h6⟩ := HW.out
   refine (Sw.writeString_any Sw.btyW h1 nm (by have := HT.out; omega) (HW.out.size0)).mono ?_
   rintro e w3 ⟨⟨v3, rfl⟩, ⟨cs3, g1, g2⟩, g3, g4⟩
   have ET3 := Lib.hid (g4.2 _ _ ET.out (by have := ent_lt ET.out; have := HBN.out; omega) (fun cs fr e => by injection e with _ e _; cases e))
   have HW3 := Lib.hid (HW.out.wrote h2 h3 h4 h5 h6 g1 g2 g3 g4)
   clear h1 h2 h3 h4 h5 h6 g1 g2 g3 g4
   refine hK.out _ _ ET3.out (fun hHeld => ?_)
   clear hK K
   refine wpAnyH_done (by kernel_rfl) ?_ _
   go_wp2_with fail
   refine bodyPost_end (v := .tuple #[]) (by simp [results, Tryd.results41, go_sem]) rfl ?_
   exact ⟨rfl, by rw [show (Ux.beginT (.a nm [])).2 = [] from rfl, List.append_nil]; exact HW3.out⟩
 · have hpos := List.length_pos_iff.2 hnil
   have hb0 : ((xs.length : Int) == 0) = false := by simp; omega
   have HNIL := Lib.hid hnil
   clear hnil
   go_upto_region 1 with fail
   clear t0 t1 t2
   replace ET : Hid (w2.drew.heap[w.heap.size]? = some (.cells #[.int .i64 kt, .string ⟨nm.toArray⟩, .slice q xs.length cp] 30 (0, 0))) := Lib.hid ET.out
   replace HW : Hid (WSt B w0 w2.drew T L) := Lib.hid (HW.out.below ((Below.refl _ _).drew))
   obtain ⟨wd, hwd⟩ : ∃ wd, wd = w2.drew := ⟨_, rfl⟩
   rw [← hwd] at ET HW
   refine wp_region_held_drew (S := fun (u : World) => u.heap[w.heap.size]? = some (.cells #[.int .i64 kt, .string ⟨nm.toArray⟩, .slice q xs.length cp] 30 (0, 0))) (by kernel_rfl) (show w2.drew.heap[w.heap.size]? = _ by rw [← hwd]; exact ET.out) (fun hHeld => ?_)
   rw [← hwd] at hHeld ⊢
   clear hwd
   refine wpAnyH_take (i := 0) (v := .pointer (some ⟨B, 0, none⟩)) rfl (by kernel_rfl) (by kernel_rfl) (by kernel_rfl) (fun _ _ _ h => h) (Or.inl ⟨by rfl, fun w' hSw => by go_simp⟩) hHeld ?_
   refine wpAnyH_take (i := 1) (v := .pointer (some ⟨B, 0, none⟩)) rfl (by kernel_rfl) (by kernel_rfl) (by kernel_rfl) (fun _ _ _ h => h) (Or.inl ⟨by rfl, fun w' hSw => by go_simp⟩) hHeld ?_
   refine wpAnyH_take (i := 2) (v := .pointer (some ⟨B, 0, none⟩)) rfl (by kernel_rfl) (by kernel_rfl) (by kernel_rfl) (fun _ _ _ h => h) (Or.inl ⟨by rfl, fun w' hSw => by go_simp⟩) hHeld ?_
   refine wpAnyH_take (i := 3) (v := .pointer (some ⟨w.heap.size, 1, none⟩)) rfl (by kernel_rfl) (by kernel_rfl) (by kernel_rfl) (fun _ _ _ h => h) (Or.inl ⟨by rfl, fun w' hSw => by go_simp⟩) hHeld ?_
   refine wpAnyH_take (i := 4) (v := .string ⟨nm.toArray⟩) rfl (by kernel_rfl) (by kernel_rfl) (by kernel_rfl) (fun _ _ _ h => h) (Or.inl ⟨by rfl, fun w' hSw => by have h := ent_cell (show w'.heap[w.heap.size]? = _ from hSw) 1 _ rfl; go_simp⟩) hHeld ?_
   try simp only [Act.put, List.getElem_toArray, List.getElem_cons_succ, List.getElem_cons_zero, List.setIfInBounds_toArray, List.set_cons_zero, List.set_cons_succ]
   refine wpAnyH_ready (rs := [5]) (by kernel_rfl) (by simp) ?_
   refine AllReadyH.cons rfl (fun K hK => ?_) AllReadyH.nil
   have ha := add_texts (w := wd) [40] nm (by have := HT.out; simp; omega)
   rw [show [40] ++ nm = 40 :: nm from rfl, ← HI.out] at ha
   go_simp
   refine hK.out _ _ ET.out (fun hHeld => ?_)
   clear hK K
   refine wpAnyH_ready (rs := [6]) (by kernel_rfl) (by simp) ?_
   refine AllReadyH.cons rfl (fun K hK => ?_) AllReadyH.nil
   go_simp
   obtain ⟨cs, ov, vals, h1, h2, h3, h4, h5, h6⟩ := HW.out
   refine (Sw.writeString_any Sw.btyW h1 I (by have := HT.out; have h := congrArg List.length HI.out; simp at h; omega) (HW.out.size0)).mono ?_
   rintro e w3 ⟨⟨v3, rfl⟩, ⟨cs3, g1, g2⟩, g3, g4⟩
   have ET3 := Lib.hid (g4.2 _ _ ET.out (by have := ent_lt ET.out; have := HBN.out; omega) (fun cs fr e => by injection e with _ e _; cases e))
   have HW3 := Lib.hid (HW.out.wrote h2 h3 h4 h5 h6 g1 g2 g3 g4)
   clear h1 h2 h3 h4 h5 h6 g1 g2 g3 g4
   refine hK.out _ _ ET3.out (fun hHeld => ?_)
   clear hK K
   refine wpAnyH_done (by kernel_rfl) ?_ _
   clear HW ET hHeld
   obtain ⟨cs, ov, vals, h1, h2, h3, h4, h5, h6⟩ := HW3.out
   obtain ⟨op, oc, rfl⟩ := own_slice h3
   have H1 := Lib.hid h1; have H2 := Lib.hid h2; have H3 := Lib.hid h3; have H4 := Lib.hid h4; have H5 := Lib.hid h5; have H6 := Lib.hid h6
   clear h1 h2 h3 h4 h5 h6
   have o2 := (H1.out.cell 2).trans H2.out
   have of := H1.out.free 2
   have t2 := ent_cell ET3.out 2 _ rfl
   have hsz3 := H6.out.size
   have hxb := ent_lt ET3.out
   have hB3 := H1.out.lt
   go_wp2_with fail
   go_region_law (first | (refine step_append_new eltFr w3 rfl (.tmp 15) (.tmp 18) rfl w0.heap.size (.slice op L.length oc) L.length vals rfl H3.out #[.slice q xs.length cp] 28 rfl rfl (by intro u hu; rw [List.mem_singleton.1 hu]; rfl) (by omega) hsz3 ?_; intro v4 w4 ho4 hc4 hl4; obtain ⟨p4, c4, rfl⟩ := own_slice ho4; have HO4 := Lib.hid ho4; have HC4 := Lib.hid hc4; have HWB4 := Lib.hid (WB_chg H1.out hc4 (Lib.ownBlock_ne H3.out H1.out.heap (by decide)) (own_ne8 H3.out (by decide))); clear ho4 hc4 hl4; have o24 := (HWB4.out.cell 2).trans H2.out; have of4 := HWB4.out.free 2))
   all_goals
    clear o2 of t2 o24 of4
    go_wp2_with fail
    refine bodyPost_end (v := .tuple #[]) (by simp [results, Tryd.results41, go_sem]) rfl ?_
    have hb1 : Ux.beginT (.a nm xs) = (I, [xs]) := by rw [HI.out]; exact begin_ne nm xs HNIL.out
    refine ⟨rfl, ?_⟩
    rw [hb1]
    have h4 := H4.out
    have ho := HO4.out
    refine WSt.store (vals := vals ++ [.slice q xs.length cp]) H1.out HWB4.out (by rw [List.length_append]; exact ho) (by simp [h4]) (fun i ys hi => ?_) (H6.out.trans (HC4.out.below hsz3 fun k hk => (H3.out.lt k hk).1))
    by_cases hil : i < L.length
    · rw [List.getElem?_append_left hil] at hi
      rw [List.getElem?_append_left (by omega)]
      exact H5.out i ys hi
    · rw [List.getElem?_append_right (by omega)] at hi
      rw [List.getElem?_append_right (by omega), h4]
      have hi0 : i - L.length = 0 := by
       have := (List.getElem?_eq_some_iff.1 hi).1
       simp at this; omega
      rw [hi0] at hi ⊢
      simp at hi
      subst hi
      exact ⟨_, rfl, HFR.out⟩
end Go.Proofs.YtcblppojnailpaaDoor
