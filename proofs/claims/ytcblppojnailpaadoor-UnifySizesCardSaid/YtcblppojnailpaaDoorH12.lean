/-
  Several texts in one: UOf, UFn, UApB, URefP, URSize, UBld, ShelfI, UItoa.
-/
import Derived.Test.YtcblppojnailpaaDoorH01
import Derived.Test.YtcblppojnailpaaDoorH11
import Derived.Test.YtcblppojnailpaaDoorH07
import Derived.Test.YtcblppojnailpaaDoorH04
import Derived.Test.YtcblppojnailpaaDoorH02
import Derived.WalkKit
import Derived.WalkSpells
import Derived.Lib.Hide
import Derived.Below
import Derived.Maps.AppendAt
import Derived.Lib.Strings
import Derived.Lib.Slices
import Derived.Lib.Walk
import Derived.Lib.Builder
import Derived.Lib.AppendStr
import Derived.Lib.UnsafeStr
import Derived.Laws.Externs
import Derived.BigRegion
import Derived.Shelf.LaysM
import Derived.Shelf.Strconv.Itoa3
import Derived.Test.YtcblppojnailpaaDoorProg
import Derived.Lib.AppendIntMem
import Derived.Stop.LaidErr
import Derived.Lib.ItoaLen
namespace Go.Proofs.YtcblppojnailpaaDoor
open Go Go.RowKit
set_option linter.unusedVariables false
set_option linter.unusedSimpArgs false
/-- 'append(s, row...)' in a list of operations. -/
theorem wpList_append_row {α : Type} {rep : Value → α → Prop} {w : World} {ops : Array Oper} {rest : List Oper} {o : Oper} {a : Act} {Q : Exit → Act → World → Prop} (hgd : o.guard = none) (s x : Operand) (t : TypeId)
 (ho : o.op = .call { callee := .builtin .append, args := #[s, x], argTypes := #[t, t] })
 (base : Nat) (e : TypeId) (i : TypeInfo) (z : Value) (size bytes : Nat) (ht : Tryd.prog.underlying t = some (.slice e)) (hi : Tryd.prog.info? e = some i) (hz : i.zero = some z)
 (hsize : i.size = size) (hby : i.bytes = bytes) (hzs : z.cells.size = size) (hsz : 0 < size)
 (v : Value) (n : Nat) (vs : List Value) (hs : a.eval s = v) (hown : w.ownsRow base e size v n (cellsOf vs))
 (vx : Value) (hx : a.eval x = vx) (ys : List α) (hrow : RowAt size rep w vx ys) (hone : ∀ u x, rep u x → ∀ c ∈ u.cells.toList, c.oneCell' = true)
 (h63 : n + ys.length ≤ maxLen) (hbytes : (n + ys.length) * bytes ≤ 140737488355328) (hbase : base ≤ w.heap.size)
 (h : ∀ v' w' us, Reps rep us ys → (∀ u ∈ us, u.cells.size = size) → w'.ownsRow base e size v' (n + ys.length) (cellsOf (vs ++ us)) → w.grownBy w' v.ownBlock → (v'.ownBlock = v.ownBlock ∨ ∀ g, v'.ownBlock = some g → w.heap.size ≤ g) → wpList Tryd.prog ops Q rest (a.put o.dst v') w') :
 wpList Tryd.prog ops Q (o :: rest) a w := by
 refine wpList_plain hgd fun K hK => ?_
 by_cases hys : ys = []
 · subst hys
   obtain ⟨q, c, rfl⟩ := hrow.len
   have hr := run_append_zero w base t o.type e i size ht hi v n _ hown q c
   unfold Oper.wp execOp
   simp only [ho, resolve, invoke, builtin, Sem.run_bind, Sem.run_pure, Result.andThen_ok, List.map_toArray, List.map_cons, List.map_nil, hs, hx, List.length_nil, hr]
   exact hK _ _ (h v w [] trivial (fun u hu => by cases hu) (by rw [List.append_nil]; exact hown) ⟨rfl, rfl, rfl, Nat.le_refl _, fun _ _ _ => rfl⟩ (.inl rfl))
 · rcases hrow with ⟨h0, _⟩ | ⟨g, of, c, rfl, _, _, h4⟩
   · exact absurd h0 hys
   · obtain ⟨us, hu1, hu2, hu3⟩ := row_vals ys of h4
     have hpos : 0 < ys.length := List.length_pos_iff.2 hys
     obtain ⟨v', w', hr, h2, h3, h5⟩ := run_append_loc w base t o.type e i z size bytes ht hi hz hsize hby hzs hsz v n _ hown ⟨g, of, none⟩ ys.length c hpos (cellsOf us)
      (by rw [cellsOf_len size hu2, hu1.len]) (fun j u hj => by
        have e : (⟨g, of, none⟩ : Addr).add j = ⟨g, of + j, none⟩ := by unfold Addr.add; split <;> simp_all
        rw [e]; exact hu3 j u hj) (fun u hu => by
        obtain ⟨y, hy, hz⟩ := List.mem_flatMap.1 hu
        exact Reps.all (q := fun u => ∀ c ∈ u.cells.toList, c.oneCell' = true) hone hu1 y hy u hz) h63 hbytes hbase
     unfold Oper.wp execOp
     simp only [ho, resolve, invoke, builtin, Sem.run_bind, Sem.run_pure, Result.andThen_ok, List.map_toArray, List.map_cons, List.map_nil, hs, hx, hr]
     exact hK _ _ (h v' w' us hu1 hu2 (by rw [cellsOf_append]; exact h2) h3 h5)
theorem tyP_one {w : World} (u : Value) (x : Ux.Ty) (h : TyP w u x) : ∀ c ∈ u.cells.toList, c.oneCell' = true := by
 obtain ⟨k, s, q, m, c, rfl⟩ := tyP_sh h
 intro z hz
 simp only [Value.cells, List.mem_cons, List.not_mem_nil, or_false] at hz
 rcases hz with rfl | rfl | rfl <;> rfl
/-- A list of the call's own lies where no text is laid. -/
theorem own_free {w u : World} {base E sz n : Nat} {v : Value} {cs : List Value} (h : w.ownsRow base E sz v n cs) (hk : ∀ b, v.ownBlock = some b → u.heap[b]? = w.heap[b]?) : Free u v := by
 intro g o m c hv hm
 rcases h.2 with ⟨h0, _⟩ | ⟨g', cap, cur, h0, hb, hg, _⟩
 · rw [hv] at h0; cases h0
 · rw [hv] at h0
   simp only [Value.slice.injEq, Option.some.injEq, Addr.mk.injEq] at h0
   obtain ⟨⟨rfl, rfl, _⟩, rfl, rfl⟩ := h0
   exact ⟨_, _, (hk g (by rw [hv]; rfl)).trans hg⟩
set_option maxHeartbeats 4000000 in
theorem of_any (nm : List UInt8) (v : Value) (xs : List Ux.Ty) (base : Nat) (w : World) (hbase : base ≤ w.heap.size) (hx : RowAt 3 (fun u x => Hang TyP base 0 0 w u x) w v xs) (hl : xs.length ≤ 1000000000) :
 Calls Tryd.prog 24 #[.string ⟨nm.toArray⟩, v] w (fun e w' => ∃ r, e = .returned r ∧ Below w.heap.size w w' ∧ Hang TyP base w.heap.size w'.heap.size w' r (.a nm xs)) := by
 obtain ⟨q, cp, rfl⟩ := hx.len
 have HX := Lib.hid hx
 obtain ⟨i0, hi, hq0, hq1, hq2⟩ := infoParts infoTy
 have I0 := Lib.hid hi; have I00 := Lib.hid hq0; have I01 := Lib.hid hq1; have I02 := Lib.hid hq2
 clear hx hi hq0 hq1 hq2
 go_enter Tryd.func24, Tryd.ntmps24
 have ER := Lib.hid (ent_new w #[.int .i64 0, .string ⟨#[]⟩, .slice none 0 0] 30)
 have HB := Lib.hid (show Below w.heap.size w (w.alloc (.cells #[.int .i64 0, .string ⟨#[]⟩, .slice none 0 0] 30)) from (Below.refl _ _).alloc (Nat.le_refl _) _)
 have hs1 : (w.alloc (.cells #[.int .i64 0, .string ⟨#[]⟩, .slice none 0 0] 30)).heap.size = w.heap.size + 1 := by simp
 go_upto_region 1 with fail
 generalize w.alloc (.cells #[.int .i64 0, .string ⟨#[]⟩, .slice none 0 0] 30) = w1 at ER HB hs1 ⊢
 have HX1 : Hid (RowAt 3 (fun u x => Hang TyP base 0 0 w u x) w1 (.slice q xs.length cp) xs) := Lib.hid (HX.out.mono HB.out fun _ _ _ h => h)
 go_wp2_with (at_builtin; refine wpList_append_row (rep := fun u x => Hang TyP base 0 0 w u x) rfl (.const (.slice none 0 0)) (.tmp 6) 28 rfl (w.heap.size + 1) 30 i0 (.agg #[.int .i64 0, .string ⟨#[]⟩, .slice none 0 0]) 3 48 Tryd.underlying28 I0.out I00.out I01.out I02.out rfl (by decide) (.slice none 0 0) 0 [] rfl (own_none _ _ _ _ (by omega)) _ rfl xs HX1.out (fun u x h => tyP_one u x h.now) (by unfold maxLen; omega) (by omega) (by omega) ?_)
 intro v2 w2 us hus hsz hown hgr hloc
 try simp only [List.nil_append, Nat.zero_add] at hown
 obtain ⟨p2, c2, rfl⟩ := own_slice hown
 have hb2 : Below w1.heap.size w1 w2 := (Below.refl _ _).grown hgr (Nat.le_refl _) (fun kk hkk => by simp [Value.ownBlock] at hkk)
 have ER2 := Lib.hid (ent_below ER.out hb2)
 have HB2 := Lib.hid (HB.out.trans (hb2.mono HB.out.size))
 have hs2 := hb2.size
 have HO := Lib.hid hown; have HUS := Lib.hid hus; have HSZ := Lib.hid hsz
 clear hown hgr hloc hus hsz hb2
 have r0 := ent_cell ER2.out 0 _ rfl
 have r1 := ent_cell ER2.out 1 _ rfl
 have r2 := ent_cell ER2.out 2 _ rfl
 have rf := ent_free ER2.out
 go_wp2_with fail
 clear r0 r1 r2 rf
 have HB3 := Lib.hid (below_set3 HB2.out w.heap.size (Nat.le_refl _) (.int .i64 (-1)) (.string ⟨nm.toArray⟩) (.slice p2 xs.length c2))
 have ER3 := Lib.hid (ent_set3 ER2.out (.int .i64 (-1)) (.string ⟨nm.toArray⟩) (.slice p2 xs.length c2))
 have HK3 : Hid (∀ b, b ≠ w.heap.size → (((w2.setCell ⟨w.heap.size, 0, none⟩ (.int .i64 (-1))).setCell ⟨w.heap.size, 1, none⟩ (.string ⟨nm.toArray⟩)).setCell ⟨w.heap.size, 2, none⟩ (.slice p2 xs.length c2)).heap[b]? = w2.heap[b]?) :=
  Lib.hid (fun b hb => ((Below.heap_setCell _ ⟨w.heap.size, 2, none⟩ _ b hb).trans (Below.heap_setCell _ ⟨w.heap.size, 1, none⟩ _ b hb)).trans (Below.heap_setCell _ ⟨w.heap.size, 0, none⟩ _ b hb))
 have HS3 : Hid ((((w2.setCell ⟨w.heap.size, 0, none⟩ (.int .i64 (-1))).setCell ⟨w.heap.size, 1, none⟩ (.string ⟨nm.toArray⟩)).setCell ⟨w.heap.size, 2, none⟩ (.slice p2 xs.length c2)).heap.size = w2.heap.size) := Lib.hid (by simp)
 generalize ((w2.setCell ⟨w.heap.size, 0, none⟩ (.int .i64 (-1))).setCell ⟨w.heap.size, 1, none⟩ (.string ⟨nm.toArray⟩)).setCell ⟨w.heap.size, 2, none⟩ (.slice p2 xs.length c2) = w3 at HB3 ER3 HK3 HS3 ⊢
 have r0 := ent_cell ER3.out 0 _ rfl
 have r1 := ent_cell ER3.out 1 _ rfl
 have r2 := ent_cell ER3.out 2 _ rfl
 refine bodyPost_ret (v := .agg #[.int .i64 (-1), .string ⟨nm.toArray⟩, .slice p2 xs.length c2]) (by simp [results, Tryd.results24, go_sem, r0, r1, r2]) rfl ?_
 refine ⟨_, rfl, HB3.out, ?_⟩
 intro u' hu'
 have hk : ∀ b, b < base ∨ (w.heap.size + 1 ≤ b ∧ b < w2.heap.size) → u'.heap[b]? = w2.heap[b]? := fun b hb => (hu' b (by rw [HS3.out]; omega)).trans (HK3.out b (by omega))
 refine tyP_a.2 ⟨-1, _, by decide, rfl, rowH (base := base) HO.out rfl (HUS.out.mono fun z x hz => ⟨w2.heap.size, w2.heap.size, by omega, Nat.le_refl _, fun g hg => .inl (HO.out.lt g hg).2, (hz.same fun b hb => HB2.out.block b (by omega)).more _ _⟩) HSZ.out hk, own_free HO.out fun b hb => hk b (.inr ⟨(HO.out.lt b hb).1, (HO.out.lt b hb).2⟩)⟩
end Go.Proofs.YtcblppojnailpaaDoor
namespace Go.Proofs.YtcblppojnailpaaDoor
open Go Go.RowKit
set_option linter.unusedVariables false
set_option linter.unusedSimpArgs false
theorem row_two {rep : Value → Ux.Ty → Prop} {w : World} {g : Nat} {T : TypeId} {a0 a1 a2 b0 b1 b2 : Value} {x y : Ux.Ty} (h : w.heap[g]? = some (.cells #[a0, a1, a2, b0, b1, b2] T (0, 0))) (hx : rep (.agg #[a0, a1, a2]) x) (hy : rep (.agg #[b0, b1, b2]) y) :
 RowAt 3 rep w (.slice (some ⟨g, 0, none⟩) 2 2) [x, y] := by
 refine .inr ⟨g, 0, 2, rfl, Nat.le_refl _, by decide, fun i z hz => ?_⟩
 match i, hz with
 | 0, hz =>
   simp only [List.getElem?_cons_zero, Option.some.injEq] at hz
   subst hz
   refine ⟨_, hx, rfl, fun j c hc => ?_⟩
   match j, hc with
   | 0, hc => exact ent_cell h 0 _ hc
   | 1, hc => exact ent_cell h 1 _ hc
   | 2, hc => exact ent_cell h 2 _ hc
   | j + 3, hc => simp [Value.cells] at hc
 | 1, hz =>
   simp only [List.getElem?_cons_succ, List.getElem?_cons_zero, Option.some.injEq] at hz
   subst hz
   refine ⟨_, hy, rfl, fun j c hc => ?_⟩
   match j, hc with
   | 0, hc => exact ent_cell h 3 _ hc
   | 1, hc => exact ent_cell h 4 _ hc
   | 2, hc => exact ent_cell h 5 _ hc
   | j + 3, hc => simp [Value.cells] at hc
 | i + 2, hz => simp at hz
set_option maxHeartbeats 4000000 in
theorem fn_any (v u : Value) (a b : Ux.Ty) (w : World) (ha : TyP w v a) (hb : TyP w u b) :
 Calls Tryd.prog 29 #[v, u] w (fun e w' => ∃ r, e = .returned r ∧ Below w.heap.size w w' ∧ Hang TyP w.heap.size w.heap.size w'.heap.size w' r (.a [45, 62] [a, b])) := by
 obtain ⟨a0, a1, aq, an, ac, rfl⟩ := tyP_sh ha
 obtain ⟨b0, b1, bq, bn, bc, rfl⟩ := tyP_sh hb
 have HA := Lib.hid ha; have HBB := Lib.hid hb
 clear ha hb
 go_enter Tryd.func29, Tryd.ntmps29
 have HB := Lib.hid (show Below w.heap.size w (((w.alloc (.cells #[.int .i64 a0, .string a1, .slice aq an ac] 30)).alloc (.cells #[.int .i64 b0, .string b1, .slice bq bn bc] 30)).alloc (.cells #[.int .i64 0, .string ⟨#[]⟩, .slice none 0 0] 30)) from (((Below.refl _ _).alloc (Nat.le_refl _) _).alloc (by simp) _).alloc (by simp; omega) _)
 have ET := Lib.hid (ent_alloc (ent_alloc (ent_new w #[.int .i64 a0, .string a1, .slice aq an ac] 30) (.cells #[.int .i64 b0, .string b1, .slice bq bn bc] 30)) (.cells #[.int .i64 0, .string ⟨#[]⟩, .slice none 0 0] 30))
 have EU := Lib.hid (ent_alloc (ent_new (w.alloc (.cells #[.int .i64 a0, .string a1, .slice aq an ac] 30)) #[.int .i64 b0, .string b1, .slice bq bn bc] 30) (.cells #[.int .i64 0, .string ⟨#[]⟩, .slice none 0 0] 30))
 have ER := Lib.hid (ent_new ((w.alloc (.cells #[.int .i64 a0, .string a1, .slice aq an ac] 30)).alloc (.cells #[.int .i64 b0, .string b1, .slice bq bn bc] 30)) #[.int .i64 0, .string ⟨#[]⟩, .slice none 0 0] 30)
 rw [show (w.alloc (.cells #[.int .i64 a0, .string a1, .slice aq an ac] 30)).heap.size = w.heap.size + 1 by simp] at EU
 rw [show ((w.alloc (.cells #[.int .i64 a0, .string a1, .slice aq an ac] 30)).alloc (.cells #[.int .i64 b0, .string b1, .slice bq bn bc] 30)).heap.size = w.heap.size + 2 by simp] at ER
 have hs1 : ((((w.alloc (.cells #[.int .i64 a0, .string a1, .slice aq an ac] 30)).alloc (.cells #[.int .i64 b0, .string b1, .slice bq bn bc] 30)).alloc (.cells #[.int .i64 0, .string ⟨#[]⟩, .slice none 0 0] 30))).heap.size = w.heap.size + 3 := by simp
 go_upto_region 1 with fail
 generalize ((w.alloc (.cells #[.int .i64 a0, .string a1, .slice aq an ac] 30)).alloc (.cells #[.int .i64 b0, .string b1, .slice bq bn bc] 30)).alloc (.cells #[.int .i64 0, .string ⟨#[]⟩, .slice none 0 0] 30) = w1 at ET EU ER HB hs1 ⊢
 have t0 := ent_cell ET.out 0 _ rfl
 have t1 := ent_cell ET.out 1 _ rfl
 have t2 := ent_cell ET.out 2 _ rfl
 have u0 := ent_cell EU.out 0 _ rfl
 have u1 := ent_cell EU.out 1 _ rfl
 have u2 := ent_cell EU.out 2 _ rfl
 go_wp2_with fail
 clear t0 t1 t2 u0 u1 u2
 have hal : Below w1.heap.size w1 (w1.alloc (.cells #[.int .i64 a0, .string a1, .slice aq an ac, .int .i64 b0, .string b1, .slice bq bn bc] 30)) := (Below.refl _ _).alloc (Nat.le_refl _) _
 have hb2 := HB.out.trans (hal.mono HB.out.size)
 have EN := ent_new w1 #[.int .i64 a0, .string a1, .slice aq an ac, .int .i64 b0, .string b1, .slice bq bn bc] 30
 rw [hs1] at EN
 refine (of_any [45, 62] _ [a, b] w.heap.size _ hb2.size (row_two EN ((tyP_hang HA.out 0 0).same fun c hc => hb2.block c (by omega)) ((tyP_hang HBB.out 0 0).same fun c hc => hb2.block c (by omega))) (by simp)).mono ?_
 rintro e w5 ⟨r, rfl, hb5, hh5⟩
 obtain ⟨c0, c1, rq, rn, rc, rfl⟩ := tyP_sh hh5.now
 have HB5 := Lib.hid (hb2.trans (hb5.mono hb2.size))
 have ER5 := Lib.hid (ent_below (ent_below ER.out hal) hb5)
 have HH5 := Lib.hid hh5
 have hs2 := hal.size
 have hs5 := hb5.size
 clear hb5 hh5 hal hb2
 have r0 := ent_cell ER5.out 0 _ rfl
 have r1 := ent_cell ER5.out 1 _ rfl
 have r2 := ent_cell ER5.out 2 _ rfl
 have rf := ent_free ER5.out
 go_wp2_with fail
 clear r0 r1 r2 rf
 have HB6 := Lib.hid (below_set3 HB5.out (w.heap.size + 2) (by omega) (.int .i64 c0) (.string c1) (.slice rq rn rc))
 have ER6 := Lib.hid (ent_set3 ER5.out (.int .i64 c0) (.string c1) (.slice rq rn rc))
 have HK6 : Hid (∀ b, b ≠ w.heap.size + 2 → (((w5.setCell ⟨w.heap.size + 2, 0, none⟩ (.int .i64 c0)).setCell ⟨w.heap.size + 2, 1, none⟩ (.string c1)).setCell ⟨w.heap.size + 2, 2, none⟩ (.slice rq rn rc)).heap[b]? = w5.heap[b]?) :=
  Lib.hid (fun b hb => ((Below.heap_setCell _ ⟨w.heap.size + 2, 2, none⟩ _ b hb).trans (Below.heap_setCell _ ⟨w.heap.size + 2, 1, none⟩ _ b hb)).trans (Below.heap_setCell _ ⟨w.heap.size + 2, 0, none⟩ _ b hb))
 have HS6 : Hid ((((w5.setCell ⟨w.heap.size + 2, 0, none⟩ (.int .i64 c0)).setCell ⟨w.heap.size + 2, 1, none⟩ (.string c1)).setCell ⟨w.heap.size + 2, 2, none⟩ (.slice rq rn rc)).heap.size = w5.heap.size) := Lib.hid (by simp)
 have HW2 : Hid (w.heap.size + 3 ≤ (w1.alloc (.cells #[.int .i64 a0, .string a1, .slice aq an ac, .int .i64 b0, .string b1, .slice bq bn bc] 30)).heap.size) := Lib.hid (by simp; omega)
 generalize ((w5.setCell ⟨w.heap.size + 2, 0, none⟩ (.int .i64 c0)).setCell ⟨w.heap.size + 2, 1, none⟩ (.string c1)).setCell ⟨w.heap.size + 2, 2, none⟩ (.slice rq rn rc) = w6 at HB6 ER6 HK6 HS6 ⊢
 have r0 := ent_cell ER6.out 0 _ rfl
 have r1 := ent_cell ER6.out 1 _ rfl
 have r2 := ent_cell ER6.out 2 _ rfl
 refine bodyPost_ret (v := .agg #[.int .i64 c0, .string c1, .slice rq rn rc]) (by simp [results, Tryd.results29, go_sem, r0, r1, r2]) rfl ?_
 refine ⟨_, rfl, HB6.out, ?_⟩
 have hw2 := HW2.out
 exact (HH5.out.same fun c hc => HK6.out c (by omega)).wide (Nat.le_refl _) (by omega) (by rw [HS6.out]; exact Nat.le_refl _)
end Go.Proofs.YtcblppojnailpaaDoor
namespace Go.Proofs.YtcblppojnailpaaDoor
open Go Go.RowKit
set_option linter.unusedVariables false
set_option linter.unusedSimpArgs false
/-- A pair, whose type hangs by what lies below a block. -/
def PairB (base : Nat) (w : World) (z : Value) (p : Nat × Ux.Ty) : Prop := ∃ k s q m c, z = .agg #[.int .i64 p.1, .int .i64 k, .string s, .slice q m c] ∧ Hang TyP base 0 0 w (.agg #[.int .i64 k, .string s, .slice q m c]) p.2
set_option maxHeartbeats 4000000 in
set_option maxRecDepth 100000 in
theorem applyB_any (lv v : Value) (L : Ux.Pairs) (t : Ux.Ty) (base : Nat) (w : World) (hbase : base ≤ w.heap.size) (hL : RowAt 4 (PairB base w) w lv L) (ht : Hang TyP base 0 0 w v t) (hsz : ∀ k, (Ux.applyL (L.take k) t).sz ≤ 50000000000) :
 Calls Tryd.prog 18 #[lv, v] w (fun e w' => ∃ r, e = .returned r ∧ Below w.heap.size w w' ∧ Hang TyP base w.heap.size w'.heap.size w' r (Ux.applyL L t)) := by
 obtain ⟨q, cp, rfl⟩ := hL.len
 obtain ⟨k0, s0, q0, m0, c0, rfl⟩ := tyP_sh ht.now
 have HL := Lib.hid hL
 have HSZ := Lib.hid hsz
 have HT : Hid (Hang TyP base (w.heap.size + 2) (w.heap.size + 2) w (.agg #[.int .i64 k0, .string s0, .slice q0 m0 c0]) t) := Lib.hid (ht.more _ _)
 have HBS := Lib.hid hbase
 clear hL ht hsz hbase
 go_enter Tryd.func18, Tryd.ntmps18
 have HB := Lib.hid (show Below w.heap.size w ((w.alloc (.cells #[.int .i64 k0, .string s0, .slice q0 m0 c0] 30)).alloc (.cells #[.int .i64 0, .string ⟨#[]⟩, .slice none 0 0] 30)) from ((Below.refl _ _).alloc (Nat.le_refl _) _).alloc (by simp) _)
 have ET := Lib.hid (ent_alloc (ent_new w #[.int .i64 k0, .string s0, .slice q0 m0 c0] 30) (.cells #[.int .i64 0, .string ⟨#[]⟩, .slice none 0 0] 30))
 have ER := Lib.hid (ent_new (w.alloc (.cells #[.int .i64 k0, .string s0, .slice q0 m0 c0] 30)) #[.int .i64 0, .string ⟨#[]⟩, .slice none 0 0] 30)
 rw [show (w.alloc (.cells #[.int .i64 k0, .string s0, .slice q0 m0 c0] 30)).heap.size = w.heap.size + 1 by simp] at ER
 have hs1 : ((w.alloc (.cells #[.int .i64 k0, .string s0, .slice q0 m0 c0] 30)).alloc (.cells #[.int .i64 0, .string ⟨#[]⟩, .slice none 0 0] 30)).heap.size = w.heap.size + 2 := by simp
 go_upto_region 1 with fail
 generalize (w.alloc (.cells #[.int .i64 k0, .string s0, .slice q0 m0 c0] 30)).alloc (.cells #[.int .i64 0, .string ⟨#[]⟩, .slice none 0 0] 30) = w1 at ET ER HB hs1 ⊢
 have HT1 := Lib.hid (HT.out.same (w' := w1) fun c hc => HB.out.block c (by have := HBS.out; omega))
 go_wp2_with fail
 go_loopw [5] (fun i wr => ∃ (j : Nat) (k : Int) (s : ByteArray) (p : Option Addr) (m c : Nat), i = .int .i64 j ∧ j ≤ L.length ∧ Hid (Hang TyP base (w.heap.size + 2) wr.heap.size wr (.agg #[.int .i64 k, .string s, .slice p m c]) (Ux.applyL (L.take j) t)) ∧ Hid (w.heap.size + 2 ≤ wr.heap.size) ∧
  Hid (wr.heap[w.heap.size]? = some (.cells #[.int .i64 k, .string s, .slice p m c] 30 (0, 0))) ∧ Hid (wr.heap[w.heap.size + 1]? = some (.cells #[.int .i64 0, .string ⟨#[]⟩, .slice none 0 0] 30 (0, 0))) ∧ Hid (Below w.heap.size w wr)) (fun i _ => L.length - (intOf i).toNat)
 case atStart => exact ⟨0, k0, s0, q0, m0, c0, rfl, Nat.zero_le _, Lib.hid (by rw [List.take_zero]; exact HT1.out.wide (Nat.le_refl _) (Nat.le_refl _) (by omega)), Lib.hid (by omega), ET, ER, HB⟩
 case round =>
  clear ET ER HB hs1 HT HT1
  obtain ⟨j, k, s, p, m, c, rfl, hj, HT, HS, ET, ER, HB⟩ := hrel
  have hs := HS.out
  by_cases hlt : j < L.length
  · obtain ⟨x, hx1⟩ : ∃ x, L[j]? = some x := ⟨_, List.getElem?_eq_getElem hlt⟩
    have HTK := Lib.hid (applyL_take L t j x hx1)
    rcases HL.out with ⟨h0, _⟩ | ⟨g, of, c', hv, g1, g2, g3⟩
    · rw [h0] at hlt; simp at hlt
    injection hv with hq1 _ hq2
    subst hq1; subst hq2
    obtain ⟨z, ⟨a0, a1, zq, zn, zc, rfl, hty⟩, _, hcell⟩ := g3 j x hx1
    have HU := Lib.hid (hty.same (w' := wr.drew) fun b hb => HB.out.drew.block b (by have := HBS.out; omega))
    have HCL := Lib.hid (fun (w' : World) (h : Below w.heap.size wr w') =>
     have up : ∀ j' z', (Value.agg #[.int .i64 x.1, .int .i64 a0, .string a1, .slice zq zn zc]).cells[j']? = some z' → w'.cell? ⟨g, of + j * 4 + j', none⟩ = some z' := fun j' z' hz' => cell_up (HB.out.trans h) (hcell j' z' hz')
     (show w'.cell? ⟨g, of + j * 4, none⟩ = some (.int .i64 x.1) ∧ w'.cell? ⟨g, of + j * 4 + 1, none⟩ = some (.int .i64 a0) ∧ w'.cell? ⟨g, of + j * 4 + 2, none⟩ = some (.string a1) ∧ w'.cell? ⟨g, of + j * 4 + 3, none⟩ = some (.slice zq zn zc) from ⟨up 0 _ rfl, up 1 _ rfl, up 2 _ rfl, up 3 _ rfl⟩))
    have hk1 : (j : Int) < (L.length : Int) := by omega
    have hk2 : (L.length : Int) ≤ (cp : Int) := by omega
    have hk3 := g2
    clear g1 g2 g3 hcell hx1 hty
    go_wp2_with fail
    refine wp_region_held_drew (S := fun (u' : World) => Below w.heap.size wr u') (by kernel_rfl) ((Below.refl _ _).drew) (fun hHeld => ?_)
    refine wpAnyH_take (i := 1) (v := .slice (some ⟨g, of, none⟩) L.length cp) rfl (by kernel_rfl) (by kernel_rfl) (by kernel_rfl) (fun _ _ _ h => h) (Or.inl ⟨by rfl, fun w' hSw => by go_simp⟩) hHeld ?_
    refine wpAnyH_take (i := 2) (v := .int .i64 j) rfl (by kernel_rfl) (by kernel_rfl) (by kernel_rfl) (fun _ _ _ h => h) (Or.inl ⟨by rfl, fun w' hSw => by go_simp⟩) hHeld ?_
    refine wpAnyH_take (i := 3) (v := .pointer (some ⟨g, of + j * 4, none⟩)) rfl (by kernel_rfl) (by kernel_rfl) (by kernel_rfl) (fun _ _ _ h => h) (Or.inl ⟨by rfl, fun w' hSw => by go_simp⟩) hHeld ?_
    refine wpAnyH_take (i := 4) (v := .pointer (some ⟨g, of + j * 4, none⟩)) rfl (by kernel_rfl) (by kernel_rfl) (by kernel_rfl) (fun _ _ _ h => h) (Or.inl ⟨by rfl, fun w' hSw => by go_simp⟩) hHeld ?_
    refine wpAnyH_take (i := 5) (v := .int .i64 x.1) rfl (by kernel_rfl) (by kernel_rfl) (by kernel_rfl) (fun _ _ _ h => h) (Or.inl ⟨by rfl, fun w' hSw => by obtain ⟨x0, x1, x2, x3⟩ := HCL.out w' hSw; go_simp⟩) hHeld ?_
    refine wpAnyH_take (i := 6) (v := .slice (some ⟨g, of, none⟩) L.length cp) rfl (by kernel_rfl) (by kernel_rfl) (by kernel_rfl) (fun _ _ _ h => h) (Or.inl ⟨by rfl, fun w' hSw => by go_simp⟩) hHeld ?_
    refine wpAnyH_take (i := 7) (v := .int .i64 j) rfl (by kernel_rfl) (by kernel_rfl) (by kernel_rfl) (fun _ _ _ h => h) (Or.inl ⟨by rfl, fun w' hSw => by go_simp⟩) hHeld ?_
    refine wpAnyH_take (i := 8) (v := .pointer (some ⟨g, of + j * 4, none⟩)) rfl (by kernel_rfl) (by kernel_rfl) (by kernel_rfl) (fun _ _ _ h => h) (Or.inl ⟨by rfl, fun w' hSw => by go_simp⟩) hHeld ?_
    refine wpAnyH_take (i := 9) (v := .pointer (some ⟨g, of + j * 4 + 1, none⟩)) rfl (by kernel_rfl) (by kernel_rfl) (by kernel_rfl) (fun _ _ _ h => h) (Or.inl ⟨by rfl, fun w' hSw => by go_simp⟩) hHeld ?_
    refine wpAnyH_take (i := 10) (v := .agg #[.int .i64 a0, .string a1, .slice zq zn zc]) rfl (by kernel_rfl) (by kernel_rfl) (by kernel_rfl) (fun _ _ _ h => h) (Or.inl ⟨by rfl, fun w' hSw => by obtain ⟨x0, x1, x2, x3⟩ := HCL.out w' hSw; go_simp⟩) hHeld ?_
    try simp only [Act.put, List.getElem_toArray, List.getElem_cons_succ, List.getElem_cons_zero, List.setIfInBounds_toArray, List.set_cons_zero, List.set_cons_succ]
    refine wpAnyH_ready (rs := [0]) (by kernel_rfl) (by simp) ?_
    refine AllReadyH.cons rfl (fun K hK => ?_) AllReadyH.nil
    have t0 := ent_cell (w := wr.drew) ET.out 0 _ rfl
    have t1 := ent_cell (w := wr.drew) ET.out 1 _ rfl
    have t2 := ent_cell (w := wr.drew) ET.out 2 _ rfl
    go_simp
    refine hK.out _ _ ((Below.refl _ _).drew) (fun hHeld => ?_)
    clear hK K t0 t1 t2
    refine wpAnyH_ready (rs := [11]) (by kernel_rfl) (by simp) ?_
    refine AllReadyH.cons rfl (fun K hK => ?_) AllReadyH.nil
    go_simp
    refine (put_any _ _ _ x.2 x.1 base wr.drew (by have h1 := HB.out.size; have h2 := HBS.out; show base ≤ wr.heap.size; omega) (show TyP wr.drew _ _ from tyP_below HT.out.now ((Below.refl _ _).drew)) HU.out (HSZ.out j)).mono ?_
    rintro e w5 ⟨r, rfl, hb5, hh5⟩
    replace hb5 := undrew hb5
    obtain ⟨b0, b1, rq, rn, rc, rfl⟩ := tyP_sh hh5.now
    have HB5 := Lib.hid hb5
    have HH5 : Hid (Hang TyP base wr.heap.size w5.heap.size w5 (.agg #[.int .i64 b0, .string b1, .slice rq rn rc]) (Ux.put x.1 x.2 (Ux.applyL (L.take j) t))) := Lib.hid hh5
    have hs5 := hb5.size
    have ET5 := Lib.hid (ent_below ET.out hb5)
    have ER5 := Lib.hid (ent_below ER.out hb5)
    clear hb5 hh5
    refine hK.out _ _ (HB5.out.mono (by omega)) (fun hHeld => ?_)
    clear hK K
    refine wpAnyH_ready (rs := [12]) (by kernel_rfl) (by simp) ?_
    refine AllReadyH.cons rfl (fun K hK => ?_) AllReadyH.nil
    have t0 := ent_cell ET5.out 0 _ rfl
    have t1 := ent_cell ET5.out 1 _ rfl
    have t2 := ent_cell ET5.out 2 _ rfl
    have tf := ent_free ET5.out
    go_simp
    clear t0 t1 t2 tf
    have HB6 := Lib.hid (below_set3 HB5.out wr.heap.size (Nat.le_refl _) (.int .i64 b0) (.string b1) (.slice rq rn rc))
    have HB7 := Lib.hid (below_set3 (HB.out.trans (HB5.out.mono HB.out.size)) w.heap.size (Nat.le_refl _) (.int .i64 b0) (.string b1) (.slice rq rn rc))
    have HS7 := Lib.hid (below_set3 (HB5.out.mono (B' := w.heap.size) (by omega)) w.heap.size (Nat.le_refl _) (.int .i64 b0) (.string b1) (.slice rq rn rc))
    have ET7 := Lib.hid (ent_set3 ET5.out (.int .i64 b0) (.string b1) (.slice rq rn rc))
    have HK7 : Hid (∀ b, b ≠ w.heap.size → (((w5.setCell ⟨w.heap.size, 0, none⟩ (.int .i64 b0)).setCell ⟨w.heap.size, 1, none⟩ (.string b1)).setCell ⟨w.heap.size, 2, none⟩ (.slice rq rn rc)).heap[b]? = w5.heap[b]?) :=
     Lib.hid (fun b hb => ((Below.heap_setCell _ ⟨w.heap.size, 2, none⟩ _ b hb).trans (Below.heap_setCell _ ⟨w.heap.size, 1, none⟩ _ b hb)).trans (Below.heap_setCell _ ⟨w.heap.size, 0, none⟩ _ b hb))
    have HZ7 : Hid ((((w5.setCell ⟨w.heap.size, 0, none⟩ (.int .i64 b0)).setCell ⟨w.heap.size, 1, none⟩ (.string b1)).setCell ⟨w.heap.size, 2, none⟩ (.slice rq rn rc)).heap.size = w5.heap.size) := Lib.hid (by simp)
    clear HB6
    refine hK.out _ _ HS7.out (fun hHeld => ?_)
    clear hK K
    refine wpAnyH_done (by kernel_rfl) ?_ _
    generalize ((w5.setCell ⟨w.heap.size, 0, none⟩ (.int .i64 b0)).setCell ⟨w.heap.size, 1, none⟩ (.string b1)).setCell ⟨w.heap.size, 2, none⟩ (.slice rq rn rc) = w7 at *
    go_wp2_with fail
    go_roundw
    case rel => exact ⟨j + 1, b0, b1, rq, rn, rc, by go_num, by omega, Lib.hid (by rw [HTK.out]; exact (HH5.out.same fun b hb => HK7.out b (by have := HBS.out; omega)).wide (Nat.le_refl _) (by omega) (by rw [HZ7.out]; exact Nat.le_refl _)), Lib.hid (by rw [HZ7.out]; omega), ET7, Lib.hid ((HK7.out _ (by omega)).trans ER5.out), HB7⟩
    case measure => simp [intOf]; omega
  · obtain rfl : j = L.length := by omega
    have t0 := ent_cell ET.out 0 _ rfl
    have t1 := ent_cell ET.out 1 _ rfl
    have t2 := ent_cell ET.out 2 _ rfl
    have r0 := ent_cell ER.out 0 _ rfl
    have r1 := ent_cell ER.out 1 _ rfl
    have r2 := ent_cell ER.out 2 _ rfl
    have rf := ent_free ER.out
    go_wp2_with fail
    clear t0 t1 t2 r0 r1 r2 rf
    have HB8 := Lib.hid (below_set3 HB.out (w.heap.size + 1) (by omega) (.int .i64 k) (.string s) (.slice p m c))
    have ER8 := Lib.hid (ent_set3 ER.out (.int .i64 k) (.string s) (.slice p m c))
    have HK8 : Hid (∀ b, b ≠ w.heap.size + 1 → (((wr.setCell ⟨w.heap.size + 1, 0, none⟩ (.int .i64 k)).setCell ⟨w.heap.size + 1, 1, none⟩ (.string s)).setCell ⟨w.heap.size + 1, 2, none⟩ (.slice p m c)).heap[b]? = wr.heap[b]?) :=
     Lib.hid (fun b hb => ((Below.heap_setCell _ ⟨w.heap.size + 1, 2, none⟩ _ b hb).trans (Below.heap_setCell _ ⟨w.heap.size + 1, 1, none⟩ _ b hb)).trans (Below.heap_setCell _ ⟨w.heap.size + 1, 0, none⟩ _ b hb))
    have HS8 : Hid ((((wr.setCell ⟨w.heap.size + 1, 0, none⟩ (.int .i64 k)).setCell ⟨w.heap.size + 1, 1, none⟩ (.string s)).setCell ⟨w.heap.size + 1, 2, none⟩ (.slice p m c)).heap.size = wr.heap.size) := Lib.hid (by simp)
    generalize ((wr.setCell ⟨w.heap.size + 1, 0, none⟩ (.int .i64 k)).setCell ⟨w.heap.size + 1, 1, none⟩ (.string s)).setCell ⟨w.heap.size + 1, 2, none⟩ (.slice p m c) = w8 at HB8 ER8 HK8 HS8 ⊢
    have r0 := ent_cell ER8.out 0 _ rfl
    have r1 := ent_cell ER8.out 1 _ rfl
    have r2 := ent_cell ER8.out 2 _ rfl
    refine bodyPost_ret (v := .agg #[.int .i64 k, .string s, .slice p m c]) (by simp [results, Tryd.results18, go_sem, r0, r1, r2]) rfl ?_
    refine ⟨_, rfl, HB8.out, ?_⟩
    have hT := HT.out
    rw [List.take_length] at hT
    exact (hT.same fun b hb => HK8.out b (by have := HBS.out; omega)).wide (Nat.le_refl _) (by omega) (by rw [HS8.out]; exact Nat.le_refl _)
end Go.Proofs.YtcblppojnailpaaDoor
namespace Go.Proofs.YtcblppojnailpaaDoor
open Go Go.RowKit
set_option linter.unusedVariables false
set_option linter.unusedSimpArgs false
namespace Ux
/-- What the types that come in are made of. -/
structure SOk (S : Ty → Prop) (V : List Nat) : Prop where
 parts : ∀ nm xs, S (.a nm xs) → ∀ x ∈ xs, S x
 sz : ∀ t, S t → t.sz ≤ 19
 nd : V.Nodup
 len : V.length ≤ 6
theorem SOk.all {S : Ty → Prop} {V : List Nat} (h : SOk S V) {L : Pairs} (hi : Inv V L) (ht : Tri S L) (t : Ty) : (applyL L t).sz ≤ t.sz * 47045881 :=
 ht.sz (V := V) (fun n hn => by obtain ⟨p, hp, rfl⟩ := List.mem_map.1 hn; exact hi.var p hp) h.nd (c := 19) (K := 6) (by decide) h.len h.sz t
theorem SOk.big {S : Ty → Prop} {V : List Nat} (h : SOk S V) {L : Pairs} (hi : Inv V L) (ht : Tri S L) {a : Ty} (ha : OfS S L a) : (applyL L a).sz ≤ 893871739 := by
 obtain ⟨s, hs, e⟩ := ha
 rw [e]
 exact Nat.le_trans (h.all hi ht s) (Nat.mul_le_mul_right 47045881 (h.sz s hs))
theorem SOk.entry {S : Ty → Prop} {V : List Nat} (h : SOk S V) {L : Pairs} (hi : Inv V L) (ht : Tri S L) {p : Nat × Ty} (hp : p ∈ L) : p.2.sz ≤ 47045881 := by
 have h1 := h.all hi ht (.v p.1)
 rw [show applyL L (.v p.1) = subL L p.1 from rfl, subL_in hi.solved p hp, show (Ty.v p.1).sz = 1 by rw [Ty.sz]] at h1
 omega
theorem SOk.few {S : Ty → Prop} {V : List Nat} (h : SOk S V) {L : Pairs} (hi : Inv V L) : L.length ≤ 6 := by
 have h1 := hi.solved.nodup.length_le_of_subset (l₂ := V) fun n hn => by obtain ⟨p, hp, rfl⟩ := List.mem_map.1 hn; exact hi.var p hp
 have h2 : (dom L).length = L.length := by simp [dom]
 have := h.len; omega
theorem refU_inv {V : List Nat} {f : Nat} {L L' : Pairs} {a b : Ty} (hi : Inv V L) (ha : ∀ m ∈ a.vs, m ∈ V) (hb : ∀ m ∈ b.vs, m ∈ V) (h : refU f L a b = some (some L')) : Inv V L' := by
 obtain ⟨g, r, h1, h2⟩ := refU_total V _ _ L a b hi ha hb (Nat.le_refl _) (Nat.le_refl _)
 have e : r = some L' := by
  rcases Nat.le_total f g with hl | hl
  · have := refU_le hl h; rw [this] at h1; injection h1 with h1; exact h1.symm
  · have := refU_le hl h1; rw [h] at this; injection this with this; exact this.symm
 exact (h2 L' e).1
theorem loopU_step {g : Pairs → Ty → Ty → Option (Option Pairs)} {M : Pairs} {x y : Ty} {xs ys : List Ty} {r : Option Pairs} (h : loopU g M (x :: xs) (y :: ys) = some r) : (g M x y = some none ∧ r = none) ∨ ∃ M', g M x y = some (some M') ∧ loopU g M' xs ys = some r := by
 rw [loopU] at h
 cases hg : g M x y with
 | none => rw [hg] at h; cases h
 | some o =>
   rw [hg] at h
   cases o with
   | none => left; injection h with h; exact ⟨rfl, h.symm⟩
   | some M' => exact .inr ⟨M', rfl, h⟩
theorem headU_none {L : Pairs} {n : Nat} {t : Ty} (h : hasT t n = true) : headU L n t = none := by unfold headU; unfold hasT at h; rw [if_pos h]
theorem headU_some {L : Pairs} {n : Nat} {t : Ty} (h : ¬ hasT t n = true) : headU L n t = some (bind L n t) := by unfold headU; unfold hasT at h; rw [if_neg h]
/-- The document's Unify, where the first is a variable then. -/
theorem refU_var {f : Nat} {L : Pairs} {a b : Ty} {r : Option Pairs} (h : refU (f + 1) L a b = some r) {n : Nat} (ha : applyL L a = .v n) : (applyL L b = .v n ∧ r = some L) ∨ (applyL L b ≠ .v n ∧ r = headU L n (applyL L b)) := by
 rw [refU, ha] at h
 cases hb : applyL L b with
 | v m =>
   rw [hb] at h
   simp only at h
   by_cases e : m = n
   · rw [if_pos e] at h; subst e; injection h with h; exact .inl ⟨rfl, h.symm⟩
   · rw [if_neg e] at h; injection h with h
     refine .inr ⟨fun e2 => e (by injection e2), ?_⟩
     rw [headU_some (by rw [hasT_v]; simp [e]), ← h]
 | a nm ys =>
   rw [hb] at h
   injection h with h
   exact .inr ⟨fun e => (by cases e), h.symm⟩
theorem refU_swap {f : Nat} {L : Pairs} {a b : Ty} {r : Option Pairs} (h : refU (f + 1) L a b = some r) {nm : List UInt8} {xs : List Ty} {n : Nat} (ha : applyL L a = .a nm xs) (hb : applyL L b = .v n) : r = headU L n (.a nm xs) := by
 rw [refU, ha, hb] at h
 injection h with h; exact h.symm
theorem refU_both {f : Nat} {L : Pairs} {a b : Ty} {r : Option Pairs} (h : refU (f + 1) L a b = some r) {nm nm' : List UInt8} {xs ys : List Ty} (ha : applyL L a = .a nm xs) (hb : applyL L b = .a nm' ys) : ((nm ≠ nm' ∨ xs.length ≠ ys.length) ∧ r = none) ∨ (nm = nm' ∧ xs.length = ys.length ∧ loopU (refU f) L xs ys = some r) := by
 rw [refU, ha, hb] at h
 simp only at h
 by_cases e : nm ≠ nm' ∨ xs.length ≠ ys.length
 · rw [if_pos e] at h; injection h with h; exact .inl ⟨e, h.symm⟩
 · rw [if_neg e] at h
   exact .inr ⟨Classical.byContradiction fun x => e (.inl x), Classical.byContradiction fun x => e (.inr x), h⟩
end Ux
theorem pairs_up {w u : World} {v : Value} {L : Ux.Pairs} (h : RowAt 4 (PairP w) w v L) (hb : Below w.heap.size w u) : RowAt 4 (PairB w.heap.size u) u v L :=
 h.mono hb fun z p _ hz => by
  obtain ⟨k, s, q, m, c, rfl, ht⟩ := hz
  exact ⟨k, s, q, m, c, rfl, (tyP_hang ht 0 0).same fun b hb' => hb.block b (by omega)⟩
theorem pairs_below {w u : World} {v : Value} {L : Ux.Pairs} (h : RowAt 4 (PairP w) w v L) (hb : Below w.heap.size w u) : RowAt 4 (PairP u) u v L :=
 h.mono hb fun z p _ hz => by
  obtain ⟨k, s, q, m, c, rfl, ht⟩ := hz
  exact ⟨k, s, q, m, c, rfl, tyP_below ht hb⟩
theorem eltPair : Elt 27 71 (.agg #[.int .i64 0, .int .i64 0, .string ⟨#[]⟩, .slice none 0 0]) 4 56 := ⟨Tryd.underlying27, by kernel_rfl, rfl, by decide, by decide⟩
/-- What the document's Unify answers. -/
def RUPost (r : Option Ux.Pairs) (w : World) (e : Ending) (w' : World) : Prop :=
 ∃ lv', e = .returned (.tuple #[lv', .bool r.isSome]) ∧ Below w.heap.size w w' ∧ ∀ L', r = some L' → RowAt 4 (PairP w') w' lv' L'
def RUC (S : Ux.Ty → Prop) (V : List Nat) (f : Nat) : Prop := ∀ (L : Ux.Pairs) (a b : Ux.Ty) (r : Option Ux.Pairs) (lv va vB : Value) (w : World), Ux.refU f L a b = some r → Ux.Inv V L → Ux.Tri S L → Ux.OfS S L a → Ux.OfS S L b → (∀ m ∈ a.vs, m ∈ V) → (∀ m ∈ b.vs, m ∈ V) → RowAt 4 (PairP w) w lv L → TyP w va a → TyP w vB b →
 Calls Tryd.prog 14 #[lv, va, vB] w (RUPost r w)
end Go.Proofs.YtcblppojnailpaaDoor
namespace Go.Proofs.YtcblppojnailpaaDoor
open Go Go.RowKit
set_option linter.unusedVariables false
set_option linter.unusedSimpArgs false
def RSizeC (L : Ux.Pairs) (t : Ux.Ty) : Prop := ∀ (m : Nat) (lv v : Value) (w : World), RowAt 4 (PairP w) w lv L → TyP w v t → m ≤ 1000000 →
 Calls Tryd.prog 27 #[lv, v, .int .i64 (m : Int)] w (fun e w' => e = .returned (.int .i64 ((Ux.sizeU L m t : Nat) : Int)) ∧ Below w.heap.size w w')
set_option maxHeartbeats 4000000 in
set_option maxRecDepth 100000 in
theorem refSize_any {L : Ux.Pairs} (hs : Ux.Solved L) (t : Ux.Ty) : RSizeC L t := by
 induction t using Ux.Ty.ind with
 | hv n =>
   intro m lv v w hL ht hm
   obtain ⟨s, q, jj, c, rfl⟩ := tyP_v.1 ht
   obtain ⟨lq, lc, rfl⟩ := hL.len
   have hn0 : decide (0 ≤ (n : Int)) = true := by simp
   have HLL := Lib.hid hL; have HT := Lib.hid ht
   obtain ⟨ln, hln⟩ : ∃ n, n = L.length := ⟨_, rfl⟩
   rw [← hln] at HLL ⊢
   have HLN := Lib.hid hln
   clear hL ht hln
   go_enter Tryd.func27, Tryd.ntmps27
   have ET := Lib.hid (ent_new w #[.int .i64 n, .string s, .slice q jj c] 30)
   have HB := Lib.hid (show Below w.heap.size w (w.alloc (.cells #[.int .i64 n, .string s, .slice q jj c] 30)) from (Below.refl _ _).alloc (Nat.le_refl _) _)
   go_upto_region 1 with fail
   generalize w.alloc (.cells #[.int .i64 n, .string s, .slice q jj c] 30) = w1 at ET HB ⊢
   have t0 := ent_cell ET.out 0 _ rfl
   go_wp2_with fail
   clear t0
   go_loopw [7] (fun i wr => ∃ j : Nat, i = .int .i64 j ∧ j ≤ ln ∧ Hid (∀ (k : Nat) (p : Nat × Ux.Ty), k < j → L[k]? = some p → p.1 ≠ n) ∧ Hid (wr.heap[w.heap.size]? = some (.cells #[.int .i64 n, .string s, .slice q jj c] 30 (0, 0))) ∧ Hid (Below w.heap.size w wr)) (fun i _ => ln - (intOf i).toNat)
   case atStart => exact ⟨0, rfl, Nat.zero_le _, Lib.hid (fun k p h => by omega), ET, HB⟩
   case round =>
    clear ET HB
    obtain ⟨j, rfl, hj, HNO, ET, HB⟩ := hrel
    have t0 := ent_cell ET.out 0 _ rfl
    have t1 := ent_cell ET.out 1 _ rfl
    have t2 := ent_cell ET.out 2 _ rfl
    by_cases hlt : j < ln
    rotate_left
    · obtain rfl : j = ln := by omega
      have HE : Hid (Ux.sizeU L m (.v n) = Ux.cut m (Ux.Ty.v n).sz) := Lib.hid (by
       have : Ux.applyL L (.v n) = .v n := Ux.subL_out fun hd => by
        obtain ⟨p, hp, rfl⟩ := List.mem_map.1 hd
        obtain ⟨k, hk⟩ := List.mem_iff_getElem?.1 hp
        exact HNO.out k p (by have := HLN.out; have := (List.getElem?_eq_some_iff.1 hk).1; omega) hk rfl
       unfold Ux.sizeU; rw [this])
      go_wp2_with fail
      refine (refParts_any (.v n) m _ wr (tyP_below HT.out HB.out) hm).mono ?_
      rintro e w2 ⟨rfl, hb2⟩
      have HB2 := Lib.hid (HB.out.trans (hb2.mono HB.out.size))
      clear hb2 t0 t1 t2
      obtain ⟨S, hS⟩ : ∃ S, S = Ux.cut m (Ux.Ty.v n).sz := ⟨_, rfl⟩
      rw [← hS] at HE ⊢
      clear hS
      go_wp2_with fail
      go_ret
      exact ⟨by rw [HE.out]; rfl, HB2.out⟩
    obtain ⟨x, hx1⟩ : ∃ x, L[j]? = some x := ⟨_, List.getElem?_eq_getElem (by have := HLN.out; omega)⟩
    rcases HLL.out with ⟨h0, _⟩ | ⟨g, of, c', hv, g1, g2, g3⟩
    · rw [h0] at hx1; simp at hx1
    injection hv with hq1 hqq hq2
    clear hqq
    subst hq1; subst hq2
    obtain ⟨z, ⟨a0, a1, zq, zn, zc, rfl, hty⟩, _, hcell⟩ := g3 j x hx1
    have HCL := Lib.hid (fun (w' : World) (h : Below w.heap.size w w') =>
     have up : ∀ j' z', (Value.agg #[.int .i64 x.1, .int .i64 a0, .string a1, .slice zq zn zc]).cells[j']? = some z' → w'.cell? ⟨g, of + j * 4 + j', none⟩ = some z' := fun j' z' hz' => cell_up h (hcell j' z' hz')
     (show w'.cell? ⟨g, of + j * 4, none⟩ = some (.int .i64 x.1) ∧ w'.cell? ⟨g, of + j * 4 + 1, none⟩ = some (.int .i64 a0) ∧ w'.cell? ⟨g, of + j * 4 + 2, none⟩ = some (.string a1) ∧ w'.cell? ⟨g, of + j * 4 + 3, none⟩ = some (.slice zq zn zc) from ⟨up 0 _ rfl, up 1 _ rfl, up 2 _ rfl, up 3 _ rfl⟩))
    have HTX := Lib.hid hty
    have HX1 := Lib.hid hx1
    have hk1 : (j : Int) < (ln : Int) := by omega
    have hk2 : (ln : Int) ≤ (lc : Int) := by have := HLN.out; omega
    have hk3 := g2
    obtain ⟨xn, hxn⟩ : ∃ k, k = x.1 := ⟨_, rfl⟩
    rw [← hxn] at HCL
    have HXN := Lib.hid hxn
    clear g1 g2 g3 hcell hx1 hty hxn
    go_upto_region 5 with fail
    refine wp_region_held_drew (S := fun (u' : World) => Below wr.heap.size wr u') (by kernel_rfl) ((Below.refl _ _).drew) (fun hHeld => ?_)
    refine wpAnyH_take (i := 0) (v := .slice (some ⟨g, of, none⟩) ln lc) rfl (by kernel_rfl) (by kernel_rfl) (by kernel_rfl) (fun _ _ _ h => h) (Or.inl ⟨by rfl, fun w' hSw => by go_simp⟩) hHeld ?_
    refine wpAnyH_take (i := 1) (v := .int .i64 j) rfl (by kernel_rfl) (by kernel_rfl) (by kernel_rfl) (fun _ _ _ h => h) (Or.inl ⟨by rfl, fun w' hSw => by go_simp⟩) hHeld ?_
    refine wpAnyH_take (i := 2) (v := .pointer (some ⟨g, of + j * 4, none⟩)) rfl (by kernel_rfl) (by kernel_rfl) (by kernel_rfl) (fun _ _ _ h => h) (Or.inl ⟨by rfl, fun w' hSw => by go_simp⟩) hHeld ?_
    refine wpAnyH_take (i := 3) (v := .pointer (some ⟨g, of + j * 4, none⟩)) rfl (by kernel_rfl) (by kernel_rfl) (by kernel_rfl) (fun _ _ _ h => h) (Or.inl ⟨by rfl, fun w' hSw => by go_simp⟩) hHeld ?_
    refine wpAnyH_take (i := 4) (v := .int .i64 xn) rfl (by kernel_rfl) (by kernel_rfl) (by kernel_rfl) (fun _ _ _ h => h) (Or.inl ⟨by rfl, fun w' hSw => by have h0 := (HCL.out w' (HB.out.trans (hSw.mono HB.out.size))).1; go_simp⟩) hHeld ?_
    refine wpAnyH_take (i := 5) (v := .pointer (some ⟨w.heap.size, 0, none⟩)) rfl (by kernel_rfl) (by kernel_rfl) (by kernel_rfl) (fun _ _ _ h => h) (Or.inl ⟨by rfl, fun w' hSw => by go_simp⟩) hHeld ?_
    refine wpAnyH_take (i := 6) (v := .int .i64 n) rfl (by kernel_rfl) (by kernel_rfl) (by kernel_rfl) (fun _ _ _ h => h) (Or.inl ⟨by rfl, fun w' hSw => by have h0 := ent_cell (ent_below ET.out hSw) 0 _ rfl; go_simp⟩) hHeld ?_
    refine wpAnyH_take (i := 7) (v := .bool ((xn : Int) == (n : Int))) rfl (by kernel_rfl) (by kernel_rfl) (by kernel_rfl) (fun _ _ _ h => h) (Or.inl ⟨by rfl, fun w' hSw => by go_simp⟩) hHeld ?_
    try simp only [Act.put, List.getElem_toArray, List.getElem_cons_succ, List.getElem_cons_zero, List.setIfInBounds_toArray, List.set_cons_zero, List.set_cons_succ]
    refine wpAnyH_done (by kernel_rfl) ?_ _
    clear hHeld
    replace ET : Hid (wr.drew.heap[w.heap.size]? = some (.cells #[.int .i64 n, .string s, .slice q jj c] 30 (0, 0))) := Lib.hid ET.out
    replace HB : Hid (Below w.heap.size w wr.drew) := Lib.hid HB.out.drew
    clear t0 t1 t2
    generalize wr.drew = wd at ET HB ⊢
    by_cases heq : xn = n
    · have d1 : ((xn : Int) == (n : Int)) = true := by simp; omega
      rw [d1]
      obtain ⟨x0, x1, x2, x3⟩ := HCL.out wd HB.out
      have HE : Hid (Ux.sizeU L m (.v n) = Ux.cut m x.2.sz) := Lib.hid (by
       have : Ux.applyL L (.v x.1) = x.2 := Ux.subL_in hs x (List.mem_of_getElem? HX1.out)
       rw [← HXN.out, heq] at this
       unfold Ux.sizeU; rw [this])
      clear d1
      go_wp2_with fail
      refine (refParts_any x.2 m _ wd (tyP_below HTX.out HB.out) hm).mono ?_
      rintro e w2 ⟨rfl, hb2⟩
      have HB2 := Lib.hid (HB.out.trans (hb2.mono HB.out.size))
      obtain ⟨S, hS⟩ : ∃ S, S = Ux.cut m x.2.sz := ⟨_, rfl⟩
      rw [← hS] at HE ⊢
      clear hb2 x0 x1 x2 x3 hS
      go_wp2_with fail
      go_ret
      exact ⟨by rw [HE.out]; rfl, HB2.out⟩
    · have d1 : ((xn : Int) == (n : Int)) = false := by simp; omega
      rw [d1]
      clear d1
      go_wp2_with fail
      go_roundw
      case rel => exact ⟨j + 1, by go_num, by omega, Lib.hid (fun k p hk hp => by
       rcases Nat.lt_or_ge k j with h | h
       · exact HNO.out k p h hp
       · obtain rfl : k = j := by omega
         rw [HX1.out] at hp; injection hp with hp
         rw [← hp, ← HXN.out]; exact heq), ET, HB⟩
      case measure => simp [intOf]; omega
 | ha nm xs ih =>
   intro m lv v w hL ht hm
   obtain ⟨kt, av, hkt, rfl, hx, _⟩ := tyP_a.1 ht
   obtain ⟨q, cp, rfl⟩ := hx.len
   obtain ⟨lq, lc, rfl⟩ := hL.len
   have HX := Lib.hid hx; have HIH := Lib.hid ih; have HLL := Lib.hid hL
   obtain ⟨A, hA⟩ : ∃ A, A = Ux.addUp m 1 (xs.map fun x => (Ux.applyL L x).sz) := ⟨_, rfl⟩
   have HE : Hid (Ux.sizeU L m (.a nm xs) = Ux.cut m A) := Lib.hid (by rw [Ux.sizeU_a, hA])
   rw [HE.out]
   obtain ⟨ln, hln⟩ : ∃ n, n = L.length := ⟨_, rfl⟩
   rw [← hln] at HLL ⊢
   clear hln
   have HA := Lib.hid hA
   clear ht hx ih hA hL
   go_enter Tryd.func27, Tryd.ntmps27
   have ET := Lib.hid (ent_new w #[.int .i64 kt, .string ⟨nm.toArray⟩, .slice q xs.length cp] 30)
   have HB := Lib.hid (show Below w.heap.size w (w.alloc (.cells #[.int .i64 kt, .string ⟨nm.toArray⟩, .slice q xs.length cp] 30)) from (Below.refl _ _).alloc (Nat.le_refl _) _)
   go_upto_region 1 with fail
   generalize w.alloc (.cells #[.int .i64 kt, .string ⟨nm.toArray⟩, .slice q xs.length cp] 30) = w1 at ET HB ⊢
   obtain ⟨n0, hn0⟩ : ∃ n0, n0 = xs.length := ⟨_, rfl⟩
   rw [← hn0] at ET ⊢
   have HN := Lib.hid hn0
   clear hn0
   have dk : decide (0 ≤ kt) = false := by simp; omega
   have t0 := ent_cell ET.out 0 _ rfl
   go_wp2_with fail
   clear t0
   go_loopw [8, 9] (fun av i wr => ∃ (j a : Nat), i = .int .i64 j ∧ av = .int .i64 a ∧ j ≤ n0 ∧ a ≤ 2 * m + 2 ∧ Hid (Ux.addUp m a ((xs.drop j).map fun x => (Ux.applyL L x).sz) = A) ∧ Hid (wr.heap[w.heap.size]? = some (.cells #[.int .i64 kt, .string ⟨nm.toArray⟩, .slice q n0 cp] 30 (0, 0))) ∧ Hid (Below w.heap.size w wr)) (fun _ i _ => n0 - (intOf i).toNat)
   case atStart => exact ⟨0, 1, rfl, rfl, Nat.zero_le _, by omega, Lib.hid (by rw [List.drop_zero]; exact HA.out.symm), ET, HB⟩
   case round =>
    clear ET HB
    obtain ⟨j, a, rfl, rfl, hj, ha, HS, ET, HB⟩ := hrel
    have t0 := ent_cell ET.out 0 _ rfl
    have t1 := ent_cell ET.out 1 _ rfl
    have t2 := ent_cell ET.out 2 _ rfl
    by_cases hle : a ≤ m
    rotate_left
    · have d2 : decide ((a : Int) ≤ (m : Int)) = false := by simp; omega
      have d3 : decide ((m : Int) < (a : Int)) = true := by simp; omega
      have HC := Lib.hid (show Ux.cut m A = m + 1 by rw [← HS.out, Ux.addUp_end hle]; exact Ux.cut_big (by omega))
      by_cases hlt : j < n0
      · have d1 : decide ((j : Int) < (n0 : Int)) = true := by simp; omega
        go_wp2_with fail
        go_ret
        exact ⟨by rw [HC.out]; rfl, HB.out⟩
      · have d1 : decide ((j : Int) < (n0 : Int)) = false := by simp; omega
        go_wp2_with fail
        go_ret
        exact ⟨by rw [HC.out]; rfl, HB.out⟩
    have d2 : decide ((a : Int) ≤ (m : Int)) = true := by simp; omega
    by_cases hlt : j < n0
    · obtain ⟨x, hx1⟩ : ∃ x, xs[j]? = some x := ⟨_, List.getElem?_eq_getElem (by have := HN.out; omega)⟩
      have hmem := List.mem_of_getElem? hx1
      have HST := Lib.hid (show Ux.addUp m (a + Ux.cut (m - a) (Ux.applyL L x).sz) ((xs.drop (j + 1)).map fun x => (Ux.applyL L x).sz) = A by
       have := HS.out
       rw [Ux.drop_at hx1, List.map_cons, Ux.addUp_step hle] at this; exact this)
      rcases HX.out with ⟨h0, _⟩ | ⟨g, of, c', hv, g1, g2, g3⟩
      · rw [h0] at hx1; simp at hx1
      injection hv with hq1 hqq hq2
      clear hqq
      subst hq1; subst hq2
      obtain ⟨u, hu, _, hcell⟩ := g3 j x hx1
      obtain ⟨a0, a1, uq, un, uc, rfl⟩ := tyP_sh hu
      have up : ∀ j' z, (Value.agg #[.int .i64 a0, .string a1, .slice uq un uc]).cells[j']? = some z → wr.cell? ⟨g, of + j * 3 + j', none⟩ = some z := fun j' z hz => cell_up HB.out (hcell j' z hz)
      have x0 : wr.cell? ⟨g, of + j * 3, none⟩ = some (.int .i64 a0) := up 0 _ rfl
      have x1 : wr.cell? ⟨g, of + j * 3 + 1, none⟩ = some (.string a1) := up 1 _ rfl
      have x2 : wr.cell? ⟨g, of + j * 3 + 2, none⟩ = some (.slice uq un uc) := up 2 _ rfl
      have hk1 : (j : Int) < (n0 : Int) := by omega
      have hk2 : (n0 : Int) ≤ (cp : Int) := by have := HN.out; omega
      have hk3 := g2
      have d1 : decide ((j : Int) < (n0 : Int)) = true := by simp; omega
      have HC := Lib.hid (show Calls Tryd.prog 27 #[.slice lq ln lc, .agg #[.int .i64 a0, .string a1, .slice uq un uc], .int .i64 ((m - a : Nat) : Int)] wr (fun e w' => e = .returned (.int .i64 ((Ux.cut (m - a) (Ux.applyL L x).sz : Nat) : Int)) ∧ Below wr.heap.size wr w') from HIH.out x hmem (m - a) _ _ wr (pairs_below HLL.out HB.out) (tyP_below hu HB.out) (by omega))
      have HCL := Lib.hid (Ux.cut_le (m - a) (Ux.applyL L x).sz)
      obtain ⟨S, hS⟩ : ∃ S, S = Ux.cut (m - a) (Ux.applyL L x).sz := ⟨_, rfl⟩
      rw [← hS] at HC HST HCL
      have hsub : ((m - a : Nat) : Int) = (m : Int) - (a : Int) := by omega
      rw [hsub] at HC
      have hS1 : (S : Int) ≤ 1000001 := by have := HCL.out; omega
      have ha1 : (a : Int) ≤ 1000000 := by omega
      clear hsub hS up g1 g2 g3 hcell hu hx1 hmem
      go_wp2_with fail
      refine HC.out.mono ?_
      rintro e w2 ⟨rfl, hb2⟩
      have ET2 := Lib.hid (ent_below ET.out hb2)
      have HB2 := Lib.hid (HB.out.trans (hb2.mono HB.out.size))
      clear hb2 x0 x1 x2 t0 t1 t2
      go_wp2_with fail
      go_roundw
      case rel => exact ⟨j + 1, a + S, by go_num, by go_num, by omega, by have := HCL.out; omega, HST, ET2, HB2⟩
      case measure => simp [intOf]; omega
    · obtain rfl : j = n0 := by omega
      have d1 : decide ((j : Int) < (j : Int)) = false := by simp
      have HC := Lib.hid (show Ux.cut m A = a by
       have := HS.out
       rw [List.drop_of_length_le (by have := HN.out; omega)] at this
       rw [← this]; exact Ux.cut_small hle)
      have d3 : decide ((m : Int) < (a : Int)) = false := by simp; omega
      go_wp2_with fail
      go_ret
      exact ⟨by rw [HC.out]; rfl, HB.out⟩
end Go.Proofs.YtcblppojnailpaaDoor
namespace Go.Proofs.YtcblppojnailpaaDoor
open Go Go.RowKit
set_option linter.unusedVariables false
set_option linter.unusedSimpArgs false
namespace Sw
/-- What a variable's type must be for a builder to lie at its beginning. -/
structure BTy (TT : TypeId) (k : Nat) : Prop where
 lies : liesAt Tryd.prog Tryd.prog.depth TT (k / Tryd.prog.cellsOf TT) 0 85 1 = true
 ne : TT ≠ 5
 pos : 2 ≤ k
theorem btyW : BTy 88 3 := ⟨by kernel_rfl, by decide, by decide⟩
/-- A builder at the beginning of block B, whose cells are cs: what it holds is T. -/
structure WB (TT : TypeId) (k lo B : Nat) (w : World) (cs : Array Value) (T : List UInt8) : Prop where
 heap : w.heap[B]? = some (.cells cs TT (0, 0))
 size : cs.size = k
 low : lo ≤ B
 addr : cs[0]? = some (.pointer none) ∨ cs[0]? = some (.pointer (some ⟨B, 0, none⟩))
 own : ∃ bv, cs[1]? = some bv ∧ w.ownsRow lo 5 1 bv T.length (Lib.byteCells T)
/-- Blocks but B, and those of bytes, stay. -/
def KeepB (B : Nat) (w w' : World) : Prop := w.heap.size ≤ w'.heap.size ∧ ∀ c o, w.heap[c]? = some o → c ≠ B → (∀ cs fr, o ≠ .cells cs 5 fr) → w'.heap[c]? = some o
theorem KeepB.refl (B : Nat) (w : World) : KeepB B w w := ⟨Nat.le_refl _, fun _ _ h _ _ => h⟩
theorem KeepB.trans {B : Nat} {a b c : World} (h : KeepB B a b) (g : KeepB B b c) : KeepB B a c := ⟨Nat.le_trans h.1 g.1, fun x o hx hb hn => g.2 x o (h.2 x o hx hb hn) hb hn⟩
theorem KeepB.set (B j : Nat) (w : World) (v : Value) : KeepB B w (w.setCell ⟨B, j, none⟩ v) := ⟨by simp [World.setCell], fun c o h hb _ => (Below.heap_setCell w ⟨B, j, none⟩ v c hb).trans h⟩
theorem KeepB.alloc (B : Nat) (w : World) (o : Obj) : KeepB B w (w.alloc o) := ⟨by simp, fun c x h _ _ => (Below.heap_alloc w o c (Array.getElem?_eq_some_iff.1 h).1).trans h⟩
theorem KeepB.grown {B : Nat} {w w' : World} {bv : Value} {n lo : Nat} {xs : List Value} (h : w.grownBy w' bv.ownBlock) (ho : w.ownsRow lo 5 1 bv n xs) : KeepB B w w' := by
 refine ⟨h.size, fun c o hc hb hn => ?_⟩
 rw [h.block c (Array.getElem?_eq_some_iff.1 hc).1 ?_]; · exact hc
 intro e
 rcases ho.2 with ⟨rfl, _⟩ | ⟨g, cap, cur, rfl, _, hg, _⟩
 · simp [Value.ownBlock] at e
 · simp only [Value.ownBlock, Option.some.injEq] at e
   subst e
   rw [hg] at hc
   exact hn cur (0, 0) (by simpa using hc.symm)
set_option maxHeartbeats 1000000 in
set_option maxRecDepth 100000 in
theorem copyCheck_used (B : Nat) (w : World) (h0 : w.cell? ⟨B, 0, none⟩ = some (.pointer (some ⟨B, 0, none⟩))) :
 Calls Tryd.prog 56 #[.pointer (some ⟨B, 0, none⟩)] w fun e w' => e = .returned (.tuple #[]) ∧ w' = w := by
 obtain ⟨j, hj, _⟩ := Option.map_eq_some_iff.1 (show (Tryd.prog.info? 85).map (·.size) = some 2 by kernel_rfl)
 go_enter Tryd.func56, Tryd.ntmps56
 go_wp2
 rw [Lib.run_neq_ptr_same w _ Tryd.underlying82 hj]
 go_wp2
 go_end0
 exact ⟨rfl, rfl⟩
set_option maxHeartbeats 1000000 in
set_option maxRecDepth 100000 in
theorem copyCheck_fresh {TT : TypeId} {k : Nat} (hT : BTy TT k) (B : Nat) (w : World) (h0 : w.cell? ⟨B, 0, none⟩ = some (.pointer none)) (hsh : w.shape? B = some (TT, k)) (hfz : w.frozen? ⟨B, 0, none⟩ = false) :
 Calls Tryd.prog 56 #[.pointer (some ⟨B, 0, none⟩)] w fun e w' => e = .returned (.tuple #[]) ∧ w' = w.setCell ⟨B, 0, none⟩ (.pointer (some ⟨B, 0, none⟩)) := by
 obtain ⟨j, hj, hjs⟩ := Option.map_eq_some_iff.1 (show (Tryd.prog.info? 85).map (·.size) = some 2 by kernel_rfl)
 have hlies := hT.lies
 have hpos : 0 < k := by have := hT.pos; omega
 go_enter Tryd.func56, Tryd.ntmps56
 go_wp2
 rw [Lib.run_to_unsafe w ⟨B, 0, none⟩ Tryd.underlying82 Tryd.underlying134 hj (by rw [hjs]; decide) hsh hpos]
 simp only [Result.andThen]
 rw [Oper.upon_value]
 go_wp2
 rw [run_callFunc_extern Tryd.func61 (by kernel_rfl) (by kernel_rfl) (by kernel_rfl) (e := Extern.AbiNoEscape.same) (by kernel_rfl)]
 rw [Lib.run_noEscape]
 simp only [Result.andThen]
 rw [Oper.upon_value]
 go_wp2
 rw [Lib.run_from_unsafe w ⟨B, 0, none⟩ Tryd.underlying134 Tryd.underlying82 hj hsh hlies]
 simp only [Result.andThen]
 rw [Oper.upon_value]
 go_wp2
 go_end0
 exact ⟨rfl, rfl⟩
theorem WB.cell {TT : TypeId} {k lo B : Nat} {w : World} {cs : Array Value} {T : List UInt8} (h : WB TT k lo B w cs T) (j : Nat) : w.cell? ⟨B, j, none⟩ = cs[j]? := Lib.cell_of_heap h.heap j
theorem WB.free {TT : TypeId} {k lo B : Nat} {w : World} {cs : Array Value} {T : List UInt8} (h : WB TT k lo B w cs T) (j : Nat) : w.frozen? ⟨B, j, none⟩ = false := Lib.frozen_of_heap h.heap j
theorem WB.lt {TT : TypeId} {k lo B : Nat} {w : World} {cs : Array Value} {T : List UInt8} (h : WB TT k lo B w cs T) : B < w.heap.size := (Array.getElem?_eq_some_iff.1 h.heap).1
theorem own_set {w : World} {lo B j : Nat} {E : TypeId} {bv v : Value} {n : Nat} {xs : List Value} (h : w.ownsRow lo E 1 bv n xs) (hne : bv.ownBlock ≠ some B) : (w.setCell ⟨B, j, none⟩ v).ownsRow lo E 1 bv n xs :=
 h.kept (row := some B) ⟨rfl, rfl, rfl, by simp [World.setCell], fun k _ hk => Below.heap_setCell _ _ _ _ (fun e => hk (by simp [e]))⟩ (Or.inr hne)
theorem set_get (cs : Array Value) (i : Nat) (v : Value) (h : i < cs.size) : (cs.setIfInBounds i v)[i]? = some v := by simp [h]
theorem set_other (cs : Array Value) (i j : Nat) (v : Value) (h : i ≠ j) : (cs.setIfInBounds i v)[j]? = cs[j]? := Array.getElem?_setIfInBounds_ne h
theorem set_size {cs : Array Value} {k : Nat} (h : cs.size = k) (i : Nat) (v : Value) : (cs.setIfInBounds i v).size = k := by rw [Array.size_setIfInBounds]; exact h
/-- behind copyCheck -/
theorem copyCheck_any {TT : TypeId} {k lo B : Nat} (hT : BTy TT k) {w : World} {cs : Array Value} {T : List UInt8} (h : WB TT k lo B w cs T) :
 Calls Tryd.prog 56 #[.pointer (some ⟨B, 0, none⟩)] w fun e w' => e = .returned (.tuple #[]) ∧ WB TT k lo B w' (cs.setIfInBounds 0 (.pointer (some ⟨B, 0, none⟩))) T ∧ Below lo w w' ∧ KeepB B w w' := by
 have hk := hT.pos
 have hsz := h.size
 obtain ⟨bv, hb1, hb2⟩ := h.own
 rcases h.addr with h0 | h0
 · refine (copyCheck_fresh hT B w ((h.cell 0).trans h0) (by simp [World.shape?, h.heap, h.size]) (h.free 0)).mono ?_
   rintro e w' ⟨rfl, rfl⟩
   refine ⟨rfl, ⟨heap_setCell_same w B 0 _ _ _ h.heap, set_size h.size _ _, h.low, .inr (set_get _ _ _ (by omega)), bv, (set_other _ _ _ _ (by decide)).trans hb1, own_set hb2 (Lib.ownBlock_ne hb2 h.heap hT.ne)⟩, (Below.refl lo w).setCell (p := ⟨B, 0, none⟩) h.low _, KeepB.set _ _ _ _⟩
 · refine (copyCheck_used B w ((h.cell 0).trans h0)).mono ?_
   rintro e w' ⟨rfl, rfl⟩
   refine ⟨rfl, ⟨?_, set_size h.size _ _, h.low, .inr (set_get _ _ _ (by omega)), bv, (set_other _ _ _ _ (by decide)).trans hb1, hb2⟩, Below.refl _ _, KeepB.refl _ _⟩
   have : cs.setIfInBounds 0 (.pointer (some ⟨B, 0, none⟩)) = cs := by
    obtain ⟨h1, h2⟩ := Array.getElem?_eq_some_iff.1 h0
    rw [Array.setIfInBounds_def, dif_pos h1]
    apply Array.ext
    · simp
    · intro i hi1 hi2
      by_cases hi : 0 = i
      · subst hi; simpa using h2.symm
      · rw [Array.getElem_set_ne _ _ hi]
   rw [this]; exact h.heap
theorem WB.put {TT : TypeId} {k lo B : Nat} (hT : BTy TT k) {w w2 : World} {cs : Array Value} {T T' : List UInt8} (h : WB TT k lo B w cs T) (hb : w2.heap[B]? = w.heap[B]?) {v' : Value} (hown : w2.ownsRow lo 5 1 v' T'.length (Lib.byteCells T')) :
 WB TT k lo B (w2.setCell ⟨B, 1, none⟩ v') (cs.setIfInBounds 1 v') T' := by
 have hk := hT.pos
 have hsz := h.size
 have hb' := hb.trans h.heap
 exact ⟨heap_setCell_same w2 B 1 _ _ _ hb', set_size h.size _ _, h.low, (by rw [set_other _ _ _ _ (by decide)]; exact h.addr), v', set_get _ _ _ (by omega), own_set hown (Lib.ownBlock_ne hown hb' hT.ne)⟩
set_option maxHeartbeats 2000000 in
set_option maxRecDepth 100000 in
theorem writeByte_any {TT : TypeId} {k lo B : Nat} (hT : BTy TT k) {w : World} {cs : Array Value} {T : List UInt8} (h : WB TT k lo B w cs T) (c : UInt8) (hlen : T.length ≤ 100000000000000) (hlo : lo ≤ w.heap.size) :
 Calls Tryd.prog 42 #[.pointer (some ⟨B, 0, none⟩), .int .u8 c.toNat] w fun e w' => e = .returned .nilIface ∧ (∃ cs', WB TT k lo B w' cs' (T ++ [c]) ∧ ∀ j, 2 ≤ j → cs'[j]? = cs[j]?) ∧ Below lo w w' ∧ KeepB B w w' := by
 obtain ⟨i0, hi, hz0, hz1, hz2⟩ := infoParts (show (Tryd.prog.info? 5).map (fun i => (i.zero, i.size, i.bytes)) = some (some (.int .u8 0), 1, 1) by kernel_rfl)
 go_enter Tryd.func42, Tryd.ntmps42
 go_wp2_with fail
 refine (copyCheck_any hT h).mono ?_
 rintro e w1 ⟨rfl, h1, hb1, hk1⟩
 obtain ⟨v, hv, hown⟩ := h1.own
 have c1 : w1.cell? ⟨B, 1, none⟩ = some v := (h1.cell 1).trans hv
 have H1 := Lib.hid h1
 go_wp2_with (at_builtin; refine wpList_append_own _ rfl _ _ 83 rfl lo 5 i0 (.int .u8 0) 1 1 Tryd.underlying83 hi hz0 hz1 hz2 rfl (by decide) _ _ _ rfl (hown.alloc _) ⟨w1.heap.size, 0, none⟩ 1 1 [.int .u8 c.toNat] rfl rfl ?c1 ?c2 ?c3 ?c4 ?c5 ?_)
 case c1 =>
  intro j u hj
  match j, hj with
  | 0, hj => simp at hj; subst hj; simp [Addr.add]
 case c2 => intro u hu; simp at hu; subst hu; rfl
 case c3 => unfold maxLen; omega
 case c4 => omega
 case c5 => have := hb1.size; simp; omega
 intro v' w2 hown' hgrow _
 have hlt := h1.lt
 have hne := Lib.ownBlock_ne hown h1.heap hT.ne
 have hb2 : w2.heap[B]? = w1.heap[B]? := by
  rw [hgrow.block B (by simp; omega) (fun e => hne e.symm), Lib.alloc_old w1 _ B hlt]
 have d1 : w2.cell? ⟨B, 1, none⟩ = some v := by rw [Lib.cell_of_heap (hb2.trans h1.heap)]; exact hv
 have f1 : w2.frozen? ⟨B, 1, none⟩ = false := Lib.frozen_of_heap (hb2.trans h1.heap) 1
 obtain ⟨g, cap, rfl⟩ : ∃ g cap, v' = .slice (some ⟨g, 0, none⟩) (T.length + 1) cap := by
  rcases hown'.2 with ⟨_, h0⟩ | ⟨g, cap, cur, hv, _⟩
  · omega
  · exact ⟨g, cap, hv⟩
 go_wp2_with fail
 go_ret
 refine ⟨rfl, ⟨_, WB.put hT H1.out hb2 (T' := T ++ [c]) (by simpa [Lib.byteCells] using hown'), fun j hj => ?_⟩, ?_, ?_⟩
 · rw [Array.getElem?_setIfInBounds_ne (by omega), Array.getElem?_setIfInBounds_ne (by omega)]
 · exact ((hb1.alloc (by have := hb1.size; omega) _).grown hgrow (by have := hb1.size; simp; omega) (fun k hk => (hown.lt k hk).1)).setCell (p := ⟨B, 1, none⟩) h.low _
 · exact ((hk1.trans (KeepB.alloc B w1 _)).trans (KeepB.grown hgrow (hown.alloc _))).trans (KeepB.set _ _ _ _)
set_option maxHeartbeats 2000000 in
set_option maxRecDepth 100000 in
theorem writeString_any {TT : TypeId} {k lo B : Nat} (hT : BTy TT k) {w : World} {cs : Array Value} {T : List UInt8} (h : WB TT k lo B w cs T) (s : List UInt8) (hlen : T.length + s.length ≤ 100000000000000) (hlo : lo ≤ w.heap.size) :
 Calls Tryd.prog 55 #[.pointer (some ⟨B, 0, none⟩), .string ⟨s.toArray⟩] w fun e w' => (∃ v, e = .returned v) ∧ (∃ cs', WB TT k lo B w' cs' (T ++ s) ∧ ∀ j, 2 ≤ j → cs'[j]? = cs[j]?) ∧ Below lo w w' ∧ KeepB B w w' := by
 obtain ⟨i0, hi, hz0, hz1, hz2⟩ := infoParts (show (Tryd.prog.info? 5).map (fun i => (i.zero, i.size, i.bytes)) = some (some (.int .u8 0), 1, 1) by kernel_rfl)
 obtain ⟨S, hS⟩ : ∃ S : ByteArray, S = ⟨s.toArray⟩ := ⟨_, rfl⟩
 have hSs : S.size = s.length := by rw [hS]; rfl
 have hSc : Lib.strCells S = Lib.byteCells s := by rw [hS]; rfl
 rw [← hS]
 clear hS
 go_enter Tryd.func55, Tryd.ntmps55
 go_wp2_with fail
 refine (copyCheck_any hT h).mono ?_
 rintro e w1 ⟨rfl, h1, hb1, hk1⟩
 obtain ⟨v, hv, hown⟩ := h1.own
 have c1 : w1.cell? ⟨B, 1, none⟩ = some v := (h1.cell 1).trans hv
 have H1 := Lib.hid h1
 go_wp2_with (at_builtin; refine Lib.wpList_append_own_string _ rfl _ _ 83 9 rfl lo 5 i0 Tryd.underlying83 Tryd.underlying9 hi hz0 hz1 hz2 _ _ _ rfl hown S rfl ?c3 ?c4 ?c5 ?_)
 case c3 => unfold maxLen; omega
 case c4 => omega
 case c5 => have := hb1.size; omega
 intro v' w2 hown' hgrow _
 have hlt := h1.lt
 have hne := Lib.ownBlock_ne hown h1.heap hT.ne
 have hb2 : w2.heap[B]? = w1.heap[B]? := hgrow.block B hlt (fun e => hne e.symm)
 have d1 : w2.cell? ⟨B, 1, none⟩ = some v := by rw [Lib.cell_of_heap (hb2.trans h1.heap)]; exact hv
 have f1 : w2.frozen? ⟨B, 1, none⟩ = false := Lib.frozen_of_heap (hb2.trans h1.heap) 1
 obtain ⟨ao, n', cap, rfl⟩ : ∃ ao n' cap, v' = .slice ao n' cap := by
  rcases hown'.2 with ⟨hv, _⟩ | ⟨g, cap, cur, hv, _⟩
  · exact ⟨_, _, _, hv⟩
  · exact ⟨_, _, _, hv⟩
 go_wp2_with fail
 go_ret2
 refine ⟨⟨_, rfl⟩, ⟨_, WB.put hT H1.out hb2 (T' := T ++ s) (by rw [List.length_append, Lib.byteCells_append]; exact hown'), fun j hj => ?_⟩, ?_, ?_⟩
 · rw [Array.getElem?_setIfInBounds_ne (by omega), Array.getElem?_setIfInBounds_ne (by omega)]
 · exact (hb1.grown hgrow (by have := hb1.size; omega) (fun k hk => (hown.lt k hk).1)).setCell (p := ⟨B, 1, none⟩) h.low _
 · exact (hk1.trans (KeepB.grown hgrow hown)).trans (KeepB.set _ _ _ _)
set_option maxHeartbeats 2000000 in
set_option maxRecDepth 100000 in
theorem string_any {TT : TypeId} {k lo B : Nat} (hT : BTy TT k) {w : World} {cs : Array Value} {l : List UInt8} (h : WB TT k lo B w cs l) (h0 : l ≠ []) :
 Calls Tryd.prog 43 #[.pointer (some ⟨B, 0, none⟩)] w fun e w' => e = .returned (.string ⟨l.toArray⟩) ∧ Below lo w w' := by
 obtain ⟨v, hv, hown⟩ := h.own
 have hl0 : l.length ≠ 0 := by simpa using h0
 obtain ⟨g, cap, cur, rfl, hbg, hg, hnc, hcm, hcs, htake⟩ : ∃ g cap cur, v = .slice (some ⟨g, 0, none⟩) l.length cap ∧ lo ≤ g ∧ w.heap[g]? = some (.cells cur 5 (0, 0)) ∧ l.length ≤ cap ∧ cap ≤ maxLen ∧ cur.size = cap * 1 ∧ cur.toList.take (l.length * 1) = Lib.byteCells l := by
  rcases hown.2 with ⟨_, hz⟩ | ⟨g, cap, cur, hv, r⟩
  · exact absurd hz hl0
  · exact ⟨g, cap, cur, hv, r⟩
 have c1 : w.drew.cell? ⟨B, 1, none⟩ = some (.slice (some ⟨g, 0, none⟩) l.length cap) := (h.cell 1).trans hv
 have hSD : (Builtin.unsafeSliceData_ #[83] 124 #[.slice (some ⟨g, 0, none⟩) l.length cap]).run Tryd.prog w.drew = .ok (.pointer (some ⟨g, 0, none⟩)) w.drew :=
  Lib.run_unsafeSliceData_row _ _ _ _ _ _ (by omega)
 have hUS : (Builtin.unsafeString_ #[124, 3] 9 #[.pointer (some ⟨g, 0, none⟩), .int .i64 l.length]).run Tryd.prog w.drew = .ok (.string ⟨l.toArray⟩) (w.drew.freeze ⟨g, 0, none⟩ l.length) := by
  refine Lib.run_unsafeString_row w.drew 124 3 9 5 Tryd.underlying124 (by kernel_rfl) g cur.size (by have hg' : w.drew.heap[g]? = some (.cells cur 5 (0, 0)) := hg; simp [World.shape?, hg']) l h0 (by omega) (by unfold maxLen at hcm; omega) ?_
  intro j x hx
  have := hown.cells (g := g) rfl j (.int .u8 x.toNat) (by simp [Lib.byteCells, hx])
  exact this
 go_enter Tryd.func43, Tryd.ntmps43
 go_wp2_with fail
 go_region
 all_goals (go_wp2_with fail; go_ret; exact ⟨rfl, Lib.below_freeze (Below.drew (Below.refl lo w)) (p := ⟨g, 0, none⟩) hbg _⟩)
end Sw
end Go.Proofs.YtcblppojnailpaaDoor
namespace Go.Proofs
open Go.Shelf
def Tryd.laysM171_ren : Go.Shelf.Ren := ⟨fun | 171 => 30 | 243 => 48 | 246 => 60 | 283 => 62 | 284 => 63 | 285 => 64 | 286 => 65 | 129 => 67 | 317 => 66 | 318 => 68 | 319 => 69 | 320 => 70 | 337 => 71 | 338 => 72 | n => n, fun | 3 => 3 | 9 => 9 | 2 => 2 | 4 => 4 | 171 => 136 | 0 => 0 | 53 => 137 | 37 => 83 | 5 => 5 | 173 => 140 | 212 => 143 | 51 => 144 | 20 => 20 | 213 => 145 | 46 => 48 | 232 => 149 | 233 => 150 | n => n, fun | 17 => 0 | 18 => 1 | 19 => 2 | n => n⟩
theorem Tryd.laysM171 : Go.Proofs.LaysM.n171 Tryd.prog Tryd.laysM171_ren := {
 mixed := by kernel_rfl
 f129 := Tryd.func67.trans (congrArg some (by kernel_rfl))
 f171 := Tryd.func30.trans (congrArg some (by kernel_rfl))
 f243 := Tryd.func48.trans (congrArg some (by kernel_rfl))
 f246 := Tryd.func60.trans (congrArg some (by kernel_rfl))
 f283 := Tryd.func62.trans (congrArg some (by kernel_rfl))
 f284 := Tryd.func63.trans (congrArg some (by kernel_rfl))
 f285 := Tryd.func64.trans (congrArg some (by kernel_rfl))
 f286 := Tryd.func65.trans (congrArg some (by kernel_rfl))
 f317 := Tryd.func66.trans (congrArg some (by kernel_rfl))
 f318 := Tryd.func68.trans (congrArg some (by kernel_rfl))
 f319 := Tryd.func69.trans (congrArg some (by kernel_rfl))
 f320 := Tryd.func70.trans (congrArg some (by kernel_rfl))
 f337 := Tryd.func71.trans (congrArg some (by kernel_rfl))
 f338 := Tryd.func72.trans (congrArg some (by kernel_rfl))
 t0 := Tryd.underlying0
 a0 := Tryd.isAgg0
 z0 := Tryd.sizeOf0
 v0 := Tryd.zeroValue0
 t2 := Tryd.underlying2
 a2 := Tryd.isAgg2
 z2 := Tryd.sizeOf2
 v2 := Tryd.zeroValue2
 t3 := Tryd.underlying3
 a3 := Tryd.isAgg3
 z3 := Tryd.sizeOf3
 v3 := Tryd.zeroValue3
 t4 := Tryd.underlying4
 a4 := Tryd.isAgg4
 z4 := Tryd.sizeOf4
 v4 := Tryd.zeroValue4
 t5 := Tryd.underlying5
 a5 := Tryd.isAgg5
 z5 := Tryd.sizeOf5
 v5 := Tryd.zeroValue5
 t9 := Tryd.underlying9
 a9 := Tryd.isAgg9
 z9 := Tryd.sizeOf9
 v9 := Tryd.zeroValue9
 t20 := Tryd.underlying20
 a20 := Tryd.isAgg20
 z20 := Tryd.sizeOf20
 v20 := Tryd.zeroValue20
 t37 := Tryd.underlying83
 a37 := Tryd.isAgg83
 z37 := Tryd.sizeOf83
 v37 := Tryd.zeroValue83
 t46 := Tryd.underlying48
 a46 := Tryd.isAgg48
 z46 := Tryd.sizeOf48
 v46 := Tryd.zeroValue48
 t51 := Tryd.underlying144
 a51 := Tryd.isAgg144
 z51 := Tryd.sizeOf144
 v51 := Tryd.zeroValue144
 t53 := Tryd.underlying137
 a53 := Tryd.isAgg137
 z53 := Tryd.sizeOf137
 v53 := Tryd.zeroValue137
 t171 := Tryd.underlying136
 a171 := Tryd.isAgg136
 z171 := Tryd.sizeOf136
 v171 := Tryd.zeroValue136
 t173 := Tryd.underlying140
 a173 := Tryd.isAgg140
 z173 := Tryd.sizeOf140
 v173 := Tryd.zeroValue140
 t212 := Tryd.underlying143
 a212 := Tryd.isAgg143
 z212 := Tryd.sizeOf143
 v212 := Tryd.zeroValue143
 t213 := Tryd.underlying145
 a213 := Tryd.isAgg145
 z213 := Tryd.sizeOf145
 t232 := Tryd.underlying149
 a232 := Tryd.isAgg149
 z232 := Tryd.sizeOf149
 v232 := Tryd.zeroValue149
 t233 := Tryd.underlying150
 a233 := Tryd.isAgg150
 z233 := Tryd.sizeOf150
 v233 := Tryd.zeroValue150
 g17 := by kernel_rfl
 g18 := by kernel_rfl
 g19 := by kernel_rfl
 i0 := by kernel_rfl
 i2 := by kernel_rfl
 i3 := by kernel_rfl
 i4 := by kernel_rfl
 i5 := by kernel_rfl
 i9 := by kernel_rfl
 i20 := by kernel_rfl
 i37 := by kernel_rfl
 i46 := by kernel_rfl
 i51 := by kernel_rfl
 i53 := by kernel_rfl
 i171 := by kernel_rfl
 i173 := by kernel_rfl
 i212 := by kernel_rfl
 i232 := by kernel_rfl
 i233 := by kernel_rfl
 m17 := by kernel_rfl
 m18 := by kernel_rfl
 m19 := by kernel_rfl }
open Go.RowKit Go.Sort Go.Lib in
theorem Tryd.strconv_Itoa (n : Int) (h0 : -9223372036854775808 ≤ n) (h1 : n ≤ 9223372036854775807) (w : World) (htab : Lib.TabIs Tryd.prog w "internal/strconv.uint64pow10" .u64 Lib.pow10Tab) :
 Calls Tryd.prog 30 #[.int .i64 n] w fun e w' => e = .returned (.string ⟨(Lib.itoa n).toArray⟩) ∧ ∃ k os, w' = grow (w.drewN k) os := Any.strconv_Itoa Tryd.laysM171 n h0 h1 w htab
end Go.Proofs
namespace Go.Proofs.YtcblppojnailpaaDoor
open Go Go.RowKit
set_option linter.unusedVariables false
set_option linter.unusedSimpArgs false
theorem itoa_any (n : Int) (h0 : -9223372036854775808 ≤ n) (h1 : n ≤ 9223372036854775807) (w : World) (htab : Lib.TabIs Tryd.prog w "internal/strconv.uint64pow10" .u64 Lib.pow10Tab) :
 Calls Tryd.prog 30 #[.int .i64 n] w fun e w' => e = .returned (.string ⟨(Lib.itoa n).toArray⟩) ∧ Below w.heap.size w w' := by
 refine (Tryd.strconv_Itoa n h0 h1 w htab).mono ?_
 rintro e w' ⟨rfl, k, os, rfl⟩
 exact ⟨rfl, Lib.below_grow _ _ (Nat.le_refl _) _ _⟩
theorem bytes_app (a b : List UInt8) : (⟨a.toArray⟩ : ByteArray) ++ (⟨b.toArray⟩ : ByteArray) = ⟨(a ++ b).toArray⟩ := by
 apply ByteArray.ext
 simp
theorem add_texts {w : World} (a b : List UInt8) (h : a.length + b.length ≤ 1000000000000) : (Op.stringOp .add ⟨a.toArray⟩ ⟨b.toArray⟩).run Tryd.prog w = .ok (.string ⟨(a ++ b).toArray⟩) w := by
 refine (run_string_add_sum (P := Tryd.prog) w ⟨a.toArray⟩ ⟨b.toArray⟩ (by show a.toArray.size + b.toArray.size ≤ _; simp only [List.size_toArray]; omega)).trans ?_
 rw [bytes_app]
end Go.Proofs.YtcblppojnailpaaDoor
