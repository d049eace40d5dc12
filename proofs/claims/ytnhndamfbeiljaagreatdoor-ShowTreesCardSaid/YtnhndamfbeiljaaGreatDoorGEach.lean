/-
  Several texts in one: PEachPat, PEachExpr, PEachTypeE, PEachCon, PEachStr, PEachAlt.
-/
import Derived.Test.YtnhndamfbeiljaaGreatDoorGRow
namespace Go.Proofs.YtnhndamfbeiljaaGreatDoor
open Go Go.RowKit
set_option linter.unusedVariables false
set_option linter.unusedSimpArgs false

theorem infoPat : (Tryz.prog.info? 84).map (fun i => (i.zero, i.size, i.bytes)) = some (some (.agg #[.int .i64 0, .int .i64 0, .string ⟨#[]⟩, .int .i64 0, .slice none 0 0]), 5, 64) := by kernel_rfl
/-- What a value of the type is: so many cells. -/
def ShapePat (v : Value) : Prop := ∃ a0 a1 a2 a3 a4 : Value, v = .agg #[a0, a1, a2, a3, a4] ∧ ∀ u ∈ ([a0, a1, a2, a3, a4] : List Value), u.oneCell' = true
theorem ShapePat.size {v : Value} (h : ShapePat v) : v.cells.size = 5 := by
  obtain ⟨a0, a1, a2, a3, a4, rfl, hone⟩ := h
  rfl
theorem newPat (w : World) (a0 a1 a2 a3 a4 : Value) (T : TypeId) (j : Nat) (u : Value) (h : ([a0, a1, a2, a3, a4] : List Value)[j]? = some u) :
    (w.alloc (.cells #[a0, a1, a2, a3, a4] T)).cell? ((⟨w.heap.size, 0, none⟩ : Addr).add j) = some u := by
  have e : (⟨w.heap.size, 0, none⟩ : Addr).add j = ⟨w.heap.size, j, none⟩ := by unfold Addr.add; split <;> simp_all
  rw [e, World.cell?_alloc_mark]
  simpa using h
theorem cellsPat (vs : List Value) (a0 a1 a2 a3 a4 : Value) : cellsOf (vs ++ [.agg #[a0, a1, a2, a3, a4]]) = cellsOf vs ++ [a0, a1, a2, a3, a4] := by
  simp [cellsOf, Value.cells]

set_option maxHeartbeats 1000000 in
set_option maxRecDepth 100000 in
theorem eachPat_any {α : Type} (F : FuncId) (hF : ∀ (args : Array Value) (w : World), (callFunc F args).run Tryz.prog w = .ok (.enter F args) w) (f : Px.Node → Px.R α) (rep : World → Value → α → Prop) (shape : ∀ w v x, rep w v x → ShapePat v)
    (k : Nat) (lv : Value) (l : List Px.Node) (w : World) (hk : KidsAt w k lv l) (hl : l.length ≤ 1000)
    (part : ∀ n ∈ l, ∀ j kv w1, k = j + 1 → Below w.heap.size w w1 → KidsAt w1 j kv n.list → Calls Tryz.prog F #[nodeV n kv] w1 (ToldN w1 rep (f n))) :
    Calls Tryz.prog 170 #[lv, .func (.func F) #[] #[]] w (ToldN w (fun u => RowAt 5 (rep u) u) (Px.each f l)) := by
  obtain ⟨p0, cp0, rfl⟩ := hk.len
  obtain ⟨i0, hi, hz0, hz1, hz2⟩ := info_parts infoPat
  have HI1 := Lib.hid hz1; have HI2 := Lib.hid hz2; have HI0 := Lib.hid hz0; have HI := Lib.hid hi
  have HK := Lib.hid hk
  have HP := Lib.hid part
  have HS := Lib.hid shape
  clear hi hz0 hz1 hz2 hk part shape
  go_enter Tryz.func170, Tryz.ntmps170
  go_wp2_with fail
  go_loopw [5, 10] (fun v i wr => ∃ (q : Nat) (vs : List Value) (xs : List α), i = .int .i64 q ∧ q ≤ l.length ∧ Hid (Px.each f (l.take q) = .ok xs) ∧ vs.length = q ∧ Hid (Reps (Kept rep w.heap.size wr v.ownBlock) vs xs ∧ ∀ u ∈ vs, ShapePat u) ∧ Hid (wr.ownsRow w.heap.size 84 5 v vs.length (cellsOf vs)) ∧ Below w.heap.size w wr) (fun _ i _ => l.length - (intOf i).toNat)
  case atStart => exact ⟨0, [], [], rfl, Nat.zero_le _, Lib.hid (by simp [Px.each]), rfl, Lib.hid ⟨trivial, fun _ h => by cases h⟩, Lib.hid (World.ownsRow_nil _ _ _ _), Below.refl _ _⟩
  case round =>
    obtain ⟨q, vs, xs, rfl, hq, He, hvs, Hr, Ho, hb⟩ := hrel
    have HB := Lib.hid hb; clear hb
    by_cases hlt : q < l.length
    · have hne : l ≠ [] := by intro e; rw [e] at hlt; simp at hlt
      obtain ⟨j, g, o, c, hkj, hsl, h3, h4, h5⟩ := HK.out.some hne
      injection hsl with hp0 _ hcp
      subst hp0; subst hcp
      obtain ⟨kv, hn, hkm⟩ := h5 q _ (List.getElem?_eq_getElem hlt)
      have hnq : l[q]? = some l[q] := List.getElem?_eq_getElem hlt
      have hmem : l[q] ∈ l := List.getElem_mem hlt
      generalize l[q] = m at *
      have hn2 := hn.below HB.out
      obtain ⟨pk, ck, rfl⟩ := hkm.len
      obtain ⟨c0, c1, c2, c3, c4, c5⟩ := hn2
      have hstep := Px.each_take hnq He.out
      have Hstep := Lib.hid hstep
      have HKM := Lib.hid (hkm.below HB.out)
      have HMEM := Lib.hid hmem
      have HKJ := Lib.hid hkj
      have HVS := Lib.hid hvs
      clear hstep h5 hn hkm hmem hkj hnq hne hvs
      have NB := Lib.hid (nodeBox wr m (.slice pk m.list.length ck) 105)
      cases hfm : f m with
      | error p =>
        have Hbad := Lib.hid (Hstep.out.2 p hfm); have Hfm := Lib.hid hfm; clear hfm
        go_wp2_with fail
        have hc := HP.out m HMEM.out j (.slice pk m.list.length ck) _ HKJ.out (HB.out.alloc HB.out.size (.cells #[.int .i64 m.tok.kind, .int .i64 m.tok.pos, .string ⟨m.tok.text.toArray⟩, .int .i64 m.tok.int, .slice pk m.list.length ck, .int .i64 m.takes] 105)) (HKM.out.below ((Below.refl _ _).alloc (Nat.le_refl _) _))
        rw [Hfm.out] at hc
        refine hc.mono ?_
        rintro e w2 ⟨hb2, he⟩
        obtain rfl : e = wrongAt p := he
        refine ⟨rfl, (HB.out.alloc HB.out.size _).trans (hb2.mono (by have := HB.out.size; simp; omega)), ?_⟩
        rw [Hbad.out]; rfl
      | ok x =>
        have Hgood := Lib.hid (Hstep.out.1 x hfm); have Hfm := Lib.hid hfm; clear hfm
        go_wp2_with fail
        have hc := HP.out m HMEM.out j (.slice pk m.list.length ck) _ HKJ.out (HB.out.alloc HB.out.size (.cells #[.int .i64 m.tok.kind, .int .i64 m.tok.pos, .string ⟨m.tok.text.toArray⟩, .int .i64 m.tok.int, .slice pk m.list.length ck, .int .i64 m.takes] 105)) (HKM.out.below ((Below.refl _ _).alloc (Nat.le_refl _) _))
        rw [Hfm.out] at hc
        refine hc.mono ?_
        clear hc
        rintro e w2 ⟨hb2, v, rfl, hrep⟩
        have hsh := HS.out _ _ _ hrep.now
        have hkept := hrep.kept (base := w.heap.size) (ob := u5.ownBlock) (by have := HB.out.size; simp; omega) (fun g hg => by have := (Ho.out.lt g hg).2; simp; omega)
        have HR := Lib.hid hkept; clear hrep hkept
        have hB2 := (HB.out.alloc HB.out.size (.cells #[.int .i64 m.tok.kind, .int .i64 m.tok.pos, .string ⟨m.tok.text.toArray⟩, .int .i64 m.tok.int, .slice pk m.list.length ck, .int .i64 m.takes] 105)).trans (hb2.mono (by have := HB.out.size; simp; omega))
        have hw2 : Below wr.heap.size wr w2 := below_box hb2
        have hown2 := own_kept Ho.out hw2
        have hBs := HB.out.size
        have hs2 := hw2.size
        have hlen2 : (cellsOf vs).length = vs.length * 5 := Ho.out.1
        obtain ⟨a0, a1, a2, a3, a4, rfl, hone⟩ := hsh
        have HONE := Lib.hid hone; clear hone
        have HL := Lib.hid hlen2; clear hlen2
        have HB2 := Lib.hid hB2; have HW2 := Lib.hid hw2; have Hown2 := Lib.hid hown2
        have hvq : vs.length ≤ 1000 := by have := HVS.out; omega
        clear hB2 hw2 hown2 hb2
        have HSH := Lib.hid (show ShapePat (.agg #[a0, a1, a2, a3, a4]) from ⟨a0, a1, a2, a3, a4, rfl, HONE.out⟩)
        have hss : ∀ u ∈ vs ++ [.agg #[a0, a1, a2, a3, a4]], ShapePat u := fun u hu => (List.mem_append.1 hu).elim (fun h => Hr.out.2 u h) (fun h => by rw [List.mem_singleton.1 h]; exact HSH.out)
        have HSS := Lib.hid hss; clear hss
        go_wp2_with (at_builtin; refine wpList_append_loc _ rfl (.tmp 14) (.tmp 18) 82 rfl w.heap.size 84 i0 (.agg #[.int .i64 0, .int .i64 0, .string ⟨#[]⟩, .int .i64 0, .slice none 0 0]) 5 64 Tryz.underlying82 HI.out HI0.out HI1.out HI2.out rfl (by decide) _ vs.length _ rfl (Hown2.out.alloc _) ⟨w2.heap.size, 0, none⟩ 1 1 [a0, a1, a2, a3, a4] rfl (by decide) rfl ?c1 ?c2 ?c3 ?c4 ?c5 ?_)
        case c1 => exact fun j u h => newPat w2 a0 a1 a2 a3 a4 _ j u h
        case c2 => exact HONE.out
        case c3 => unfold maxLen; omega
        case c4 => omega
        case c5 => simp; omega
        intro v' w3 hown3 hgr hloc
        have hB3 := (HB2.out.alloc (by omega) (.cells #[a0, a1, a2, a3, a4] 84)).grown hgr (by simp; omega) (fun kk hkk => (Hown2.out.lt kk hkk).1)
        have hstep : ∀ z x, Kept rep w.heap.size w2 u5.ownBlock z x → Kept rep w.heap.size w3 v'.ownBlock z x := fun z x hk => (hk.below ((Below.refl _ _).alloc (Nat.le_refl _) (.cells #[a0, a1, a2, a3, a4] 84))).step hgr.size (fun b hb1 hb2 => hgr.block b hb1 (fun e => hb2 e.symm)) (by simpa using hloc)
        have hreps : Reps (Kept rep w.heap.size w3 v'.ownBlock) (vs ++ [.agg #[a0, a1, a2, a3, a4]]) (xs ++ [x]) := Reps.snoc (hstep _ _ HR.out) (Hr.out.1.mono fun z y hk => hstep _ _ (hk.below HW2.out))
        rw [← cellsPat] at hown3
        have H1 := Lib.hid hB3; have H2 := Lib.hid hown3; have H3 := Lib.hid hreps
        clear hgr hB3 hown3 hreps hstep hloc
        go_wp2
        go_roundw
        case rel => exact ⟨q + 1, vs ++ [.agg #[a0, a1, a2, a3, a4]], xs ++ [x], by go_num, by omega, Hgood, by have := HVS.out; simp [this], Lib.hid ⟨H3.out, HSS.out⟩, Lib.hid (by rw [List.length_append]; exact H2.out), H1.out⟩
        case measure => simp [intOf]; omega
    · obtain rfl : q = l.length := by omega
      have he := He.out
      rw [List.take_length] at he
      have hx := Px.each_len he
      have He2 := Lib.hid he; have Hx := Lib.hid hx; have Hv := Lib.hid hvs
      clear he hx hvs
      go_wp2
      go_ret
      exact ⟨HB.out, by rw [He2.out]; exact ⟨_, rfl, New.row Ho.out (by rw [Hv.out, Hx.out]) Hr.out.1 (fun u hu => (Hr.out.2 u hu).size)⟩⟩
end Go.Proofs.YtnhndamfbeiljaaGreatDoor

namespace Go.Proofs.YtnhndamfbeiljaaGreatDoor
open Go Go.RowKit

theorem infoExpr : (Tryz.prog.info? 47).map (fun i => (i.zero, i.size, i.bytes)) = some (some (.agg #[.int .i64 0, .int .i64 0, .string ⟨#[]⟩, .int .i64 0, .slice none 0 0, .slice none 0 0, .slice none 0 0]), 7, 112) := by kernel_rfl
/-- What a value of the type is: so many cells. -/
def ShapeExpr (v : Value) : Prop := ∃ a0 a1 a2 a3 a4 a5 a6 : Value, v = .agg #[a0, a1, a2, a3, a4, a5, a6] ∧ ∀ u ∈ ([a0, a1, a2, a3, a4, a5, a6] : List Value), u.oneCell' = true
theorem ShapeExpr.size {v : Value} (h : ShapeExpr v) : v.cells.size = 7 := by
  obtain ⟨a0, a1, a2, a3, a4, a5, a6, rfl, hone⟩ := h
  rfl
theorem newExpr (w : World) (a0 a1 a2 a3 a4 a5 a6 : Value) (T : TypeId) (j : Nat) (u : Value) (h : ([a0, a1, a2, a3, a4, a5, a6] : List Value)[j]? = some u) :
    (w.alloc (.cells #[a0, a1, a2, a3, a4, a5, a6] T)).cell? ((⟨w.heap.size, 0, none⟩ : Addr).add j) = some u := by
  have e : (⟨w.heap.size, 0, none⟩ : Addr).add j = ⟨w.heap.size, j, none⟩ := by unfold Addr.add; split <;> simp_all
  rw [e, World.cell?_alloc_mark]
  simpa using h
theorem cellsExpr (vs : List Value) (a0 a1 a2 a3 a4 a5 a6 : Value) : cellsOf (vs ++ [.agg #[a0, a1, a2, a3, a4, a5, a6]]) = cellsOf vs ++ [a0, a1, a2, a3, a4, a5, a6] := by
  simp [cellsOf, Value.cells]

set_option maxHeartbeats 1000000 in
set_option maxRecDepth 100000 in
theorem eachExpr_any {α : Type} (F : FuncId) (hF : ∀ (args : Array Value) (w : World), (callFunc F args).run Tryz.prog w = .ok (.enter F args) w) (f : Px.Node → Px.R α) (rep : World → Value → α → Prop) (shape : ∀ w v x, rep w v x → ShapeExpr v)
    (k : Nat) (lv : Value) (l : List Px.Node) (w : World) (hk : KidsAt w k lv l) (hl : l.length ≤ 1000)
    (part : ∀ n ∈ l, ∀ j kv w1, k = j + 1 → Below w.heap.size w w1 → KidsAt w1 j kv n.list → Calls Tryz.prog F #[nodeV n kv] w1 (ToldN w1 rep (f n))) :
    Calls Tryz.prog 146 #[lv, .func (.func F) #[] #[]] w (ToldN w (fun u => RowAt 7 (rep u) u) (Px.each f l)) := by
  obtain ⟨p0, cp0, rfl⟩ := hk.len
  obtain ⟨i0, hi, hz0, hz1, hz2⟩ := info_parts infoExpr
  have HI1 := Lib.hid hz1; have HI2 := Lib.hid hz2; have HI0 := Lib.hid hz0; have HI := Lib.hid hi
  have HK := Lib.hid hk
  have HP := Lib.hid part
  have HS := Lib.hid shape
  clear hi hz0 hz1 hz2 hk part shape
  go_enter Tryz.func146, Tryz.ntmps146
  go_wp2_with fail
  go_loopw [5, 10] (fun v i wr => ∃ (q : Nat) (vs : List Value) (xs : List α), i = .int .i64 q ∧ q ≤ l.length ∧ Hid (Px.each f (l.take q) = .ok xs) ∧ vs.length = q ∧ Hid (Reps (Kept rep w.heap.size wr v.ownBlock) vs xs ∧ ∀ u ∈ vs, ShapeExpr u) ∧ Hid (wr.ownsRow w.heap.size 47 7 v vs.length (cellsOf vs)) ∧ Below w.heap.size w wr) (fun _ i _ => l.length - (intOf i).toNat)
  case atStart => exact ⟨0, [], [], rfl, Nat.zero_le _, Lib.hid (by simp [Px.each]), rfl, Lib.hid ⟨trivial, fun _ h => by cases h⟩, Lib.hid (World.ownsRow_nil _ _ _ _), Below.refl _ _⟩
  case round =>
    obtain ⟨q, vs, xs, rfl, hq, He, hvs, Hr, Ho, hb⟩ := hrel
    have HB := Lib.hid hb; clear hb
    by_cases hlt : q < l.length
    · have hne : l ≠ [] := by intro e; rw [e] at hlt; simp at hlt
      obtain ⟨j, g, o, c, hkj, hsl, h3, h4, h5⟩ := HK.out.some hne
      injection hsl with hp0 _ hcp
      subst hp0; subst hcp
      obtain ⟨kv, hn, hkm⟩ := h5 q _ (List.getElem?_eq_getElem hlt)
      have hnq : l[q]? = some l[q] := List.getElem?_eq_getElem hlt
      have hmem : l[q] ∈ l := List.getElem_mem hlt
      generalize l[q] = m at *
      have hn2 := hn.below HB.out
      obtain ⟨pk, ck, rfl⟩ := hkm.len
      obtain ⟨c0, c1, c2, c3, c4, c5⟩ := hn2
      have hstep := Px.each_take hnq He.out
      have Hstep := Lib.hid hstep
      have HKM := Lib.hid (hkm.below HB.out)
      have HMEM := Lib.hid hmem
      have HKJ := Lib.hid hkj
      have HVS := Lib.hid hvs
      clear hstep h5 hn hkm hmem hkj hnq hne hvs
      have NB := Lib.hid (nodeBox wr m (.slice pk m.list.length ck) 105)
      cases hfm : f m with
      | error p =>
        have Hbad := Lib.hid (Hstep.out.2 p hfm); have Hfm := Lib.hid hfm; clear hfm
        go_wp2_with fail
        have hc := HP.out m HMEM.out j (.slice pk m.list.length ck) _ HKJ.out (HB.out.alloc HB.out.size (.cells #[.int .i64 m.tok.kind, .int .i64 m.tok.pos, .string ⟨m.tok.text.toArray⟩, .int .i64 m.tok.int, .slice pk m.list.length ck, .int .i64 m.takes] 105)) (HKM.out.below ((Below.refl _ _).alloc (Nat.le_refl _) _))
        rw [Hfm.out] at hc
        refine hc.mono ?_
        rintro e w2 ⟨hb2, he⟩
        obtain rfl : e = wrongAt p := he
        refine ⟨rfl, (HB.out.alloc HB.out.size _).trans (hb2.mono (by have := HB.out.size; simp; omega)), ?_⟩
        rw [Hbad.out]; rfl
      | ok x =>
        have Hgood := Lib.hid (Hstep.out.1 x hfm); have Hfm := Lib.hid hfm; clear hfm
        go_wp2_with fail
        have hc := HP.out m HMEM.out j (.slice pk m.list.length ck) _ HKJ.out (HB.out.alloc HB.out.size (.cells #[.int .i64 m.tok.kind, .int .i64 m.tok.pos, .string ⟨m.tok.text.toArray⟩, .int .i64 m.tok.int, .slice pk m.list.length ck, .int .i64 m.takes] 105)) (HKM.out.below ((Below.refl _ _).alloc (Nat.le_refl _) _))
        rw [Hfm.out] at hc
        refine hc.mono ?_
        clear hc
        rintro e w2 ⟨hb2, v, rfl, hrep⟩
        have hsh := HS.out _ _ _ hrep.now
        have hkept := hrep.kept (base := w.heap.size) (ob := u5.ownBlock) (by have := HB.out.size; simp; omega) (fun g hg => by have := (Ho.out.lt g hg).2; simp; omega)
        have HR := Lib.hid hkept; clear hrep hkept
        have hB2 := (HB.out.alloc HB.out.size (.cells #[.int .i64 m.tok.kind, .int .i64 m.tok.pos, .string ⟨m.tok.text.toArray⟩, .int .i64 m.tok.int, .slice pk m.list.length ck, .int .i64 m.takes] 105)).trans (hb2.mono (by have := HB.out.size; simp; omega))
        have hw2 : Below wr.heap.size wr w2 := below_box hb2
        have hown2 := own_kept Ho.out hw2
        have hBs := HB.out.size
        have hs2 := hw2.size
        have hlen2 : (cellsOf vs).length = vs.length * 7 := Ho.out.1
        obtain ⟨a0, a1, a2, a3, a4, a5, a6, rfl, hone⟩ := hsh
        have HONE := Lib.hid hone; clear hone
        have HL := Lib.hid hlen2; clear hlen2
        have HB2 := Lib.hid hB2; have HW2 := Lib.hid hw2; have Hown2 := Lib.hid hown2
        have hvq : vs.length ≤ 1000 := by have := HVS.out; omega
        clear hB2 hw2 hown2 hb2
        have HSH := Lib.hid (show ShapeExpr (.agg #[a0, a1, a2, a3, a4, a5, a6]) from ⟨a0, a1, a2, a3, a4, a5, a6, rfl, HONE.out⟩)
        have hss : ∀ u ∈ vs ++ [.agg #[a0, a1, a2, a3, a4, a5, a6]], ShapeExpr u := fun u hu => (List.mem_append.1 hu).elim (fun h => Hr.out.2 u h) (fun h => by rw [List.mem_singleton.1 h]; exact HSH.out)
        have HSS := Lib.hid hss; clear hss
        go_wp2_with (at_builtin; refine wpList_append_loc _ rfl (.tmp 14) (.tmp 18) 44 rfl w.heap.size 47 i0 (.agg #[.int .i64 0, .int .i64 0, .string ⟨#[]⟩, .int .i64 0, .slice none 0 0, .slice none 0 0, .slice none 0 0]) 7 112 Tryz.underlying44 HI.out HI0.out HI1.out HI2.out rfl (by decide) _ vs.length _ rfl (Hown2.out.alloc _) ⟨w2.heap.size, 0, none⟩ 1 1 [a0, a1, a2, a3, a4, a5, a6] rfl (by decide) rfl ?c1 ?c2 ?c3 ?c4 ?c5 ?_)
        case c1 => exact fun j u h => newExpr w2 a0 a1 a2 a3 a4 a5 a6 _ j u h
        case c2 => exact HONE.out
        case c3 => unfold maxLen; omega
        case c4 => omega
        case c5 => simp; omega
        intro v' w3 hown3 hgr hloc
        have hB3 := (HB2.out.alloc (by omega) (.cells #[a0, a1, a2, a3, a4, a5, a6] 47)).grown hgr (by simp; omega) (fun kk hkk => (Hown2.out.lt kk hkk).1)
        have hstep : ∀ z x, Kept rep w.heap.size w2 u5.ownBlock z x → Kept rep w.heap.size w3 v'.ownBlock z x := fun z x hk => (hk.below ((Below.refl _ _).alloc (Nat.le_refl _) (.cells #[a0, a1, a2, a3, a4, a5, a6] 47))).step hgr.size (fun b hb1 hb2 => hgr.block b hb1 (fun e => hb2 e.symm)) (by simpa using hloc)
        have hreps : Reps (Kept rep w.heap.size w3 v'.ownBlock) (vs ++ [.agg #[a0, a1, a2, a3, a4, a5, a6]]) (xs ++ [x]) := Reps.snoc (hstep _ _ HR.out) (Hr.out.1.mono fun z y hk => hstep _ _ (hk.below HW2.out))
        rw [← cellsExpr] at hown3
        have H1 := Lib.hid hB3; have H2 := Lib.hid hown3; have H3 := Lib.hid hreps
        clear hgr hB3 hown3 hreps hstep hloc
        go_wp2
        go_roundw
        case rel => exact ⟨q + 1, vs ++ [.agg #[a0, a1, a2, a3, a4, a5, a6]], xs ++ [x], by go_num, by omega, Hgood, by have := HVS.out; simp [this], Lib.hid ⟨H3.out, HSS.out⟩, Lib.hid (by rw [List.length_append]; exact H2.out), H1.out⟩
        case measure => simp [intOf]; omega
    · obtain rfl : q = l.length := by omega
      have he := He.out
      rw [List.take_length] at he
      have hx := Px.each_len he
      have He2 := Lib.hid he; have Hx := Lib.hid hx; have Hv := Lib.hid hvs
      clear he hx hvs
      go_wp2
      go_ret
      exact ⟨HB.out, by rw [He2.out]; exact ⟨_, rfl, New.row Ho.out (by rw [Hv.out, Hx.out]) Hr.out.1 (fun u hu => (Hr.out.2 u hu).size)⟩⟩
end Go.Proofs.YtnhndamfbeiljaaGreatDoor

namespace Go.Proofs.YtnhndamfbeiljaaGreatDoor
open Go Go.RowKit

theorem infoTypeE : (Tryz.prog.info? 42).map (fun i => (i.zero, i.size, i.bytes)) = some (some (.agg #[.int .i64 0, .string ⟨#[]⟩, .slice none 0 0]), 3, 48) := by kernel_rfl
/-- What a value of the type is: so many cells. -/
def ShapeTypeE (v : Value) : Prop := ∃ a0 a1 a2 : Value, v = .agg #[a0, a1, a2] ∧ ∀ u ∈ ([a0, a1, a2] : List Value), u.oneCell' = true
theorem ShapeTypeE.size {v : Value} (h : ShapeTypeE v) : v.cells.size = 3 := by
  obtain ⟨a0, a1, a2, rfl, hone⟩ := h
  rfl
theorem newTypeE (w : World) (a0 a1 a2 : Value) (T : TypeId) (j : Nat) (u : Value) (h : ([a0, a1, a2] : List Value)[j]? = some u) :
    (w.alloc (.cells #[a0, a1, a2] T)).cell? ((⟨w.heap.size, 0, none⟩ : Addr).add j) = some u := by
  have e : (⟨w.heap.size, 0, none⟩ : Addr).add j = ⟨w.heap.size, j, none⟩ := by unfold Addr.add; split <;> simp_all
  rw [e, World.cell?_alloc_mark]
  simpa using h
theorem cellsTypeE (vs : List Value) (a0 a1 a2 : Value) : cellsOf (vs ++ [.agg #[a0, a1, a2]]) = cellsOf vs ++ [a0, a1, a2] := by
  simp [cellsOf, Value.cells]

set_option maxHeartbeats 1000000 in
set_option maxRecDepth 100000 in
theorem eachTypeE_any {α : Type} (F : FuncId) (hF : ∀ (args : Array Value) (w : World), (callFunc F args).run Tryz.prog w = .ok (.enter F args) w) (f : Px.Node → Px.R α) (rep : World → Value → α → Prop) (shape : ∀ w v x, rep w v x → ShapeTypeE v)
    (k : Nat) (lv : Value) (l : List Px.Node) (w : World) (hk : KidsAt w k lv l) (hl : l.length ≤ 1000)
    (part : ∀ n ∈ l, ∀ j kv w1, k = j + 1 → Below w.heap.size w w1 → KidsAt w1 j kv n.list → Calls Tryz.prog F #[nodeV n kv] w1 (ToldN w1 rep (f n))) :
    Calls Tryz.prog 126 #[lv, .func (.func F) #[] #[]] w (ToldN w (fun u => RowAt 3 (rep u) u) (Px.each f l)) := by
  obtain ⟨p0, cp0, rfl⟩ := hk.len
  obtain ⟨i0, hi, hz0, hz1, hz2⟩ := info_parts infoTypeE
  have HI1 := Lib.hid hz1; have HI2 := Lib.hid hz2; have HI0 := Lib.hid hz0; have HI := Lib.hid hi
  have HK := Lib.hid hk
  have HP := Lib.hid part
  have HS := Lib.hid shape
  clear hi hz0 hz1 hz2 hk part shape
  go_enter Tryz.func126, Tryz.ntmps126
  go_wp2_with fail
  go_loopw [5, 10] (fun v i wr => ∃ (q : Nat) (vs : List Value) (xs : List α), i = .int .i64 q ∧ q ≤ l.length ∧ Hid (Px.each f (l.take q) = .ok xs) ∧ vs.length = q ∧ Hid (Reps (Kept rep w.heap.size wr v.ownBlock) vs xs ∧ ∀ u ∈ vs, ShapeTypeE u) ∧ Hid (wr.ownsRow w.heap.size 42 3 v vs.length (cellsOf vs)) ∧ Below w.heap.size w wr) (fun _ i _ => l.length - (intOf i).toNat)
  case atStart => exact ⟨0, [], [], rfl, Nat.zero_le _, Lib.hid (by simp [Px.each]), rfl, Lib.hid ⟨trivial, fun _ h => by cases h⟩, Lib.hid (World.ownsRow_nil _ _ _ _), Below.refl _ _⟩
  case round =>
    obtain ⟨q, vs, xs, rfl, hq, He, hvs, Hr, Ho, hb⟩ := hrel
    have HB := Lib.hid hb; clear hb
    by_cases hlt : q < l.length
    · have hne : l ≠ [] := by intro e; rw [e] at hlt; simp at hlt
      obtain ⟨j, g, o, c, hkj, hsl, h3, h4, h5⟩ := HK.out.some hne
      injection hsl with hp0 _ hcp
      subst hp0; subst hcp
      obtain ⟨kv, hn, hkm⟩ := h5 q _ (List.getElem?_eq_getElem hlt)
      have hnq : l[q]? = some l[q] := List.getElem?_eq_getElem hlt
      have hmem : l[q] ∈ l := List.getElem_mem hlt
      generalize l[q] = m at *
      have hn2 := hn.below HB.out
      obtain ⟨pk, ck, rfl⟩ := hkm.len
      obtain ⟨c0, c1, c2, c3, c4, c5⟩ := hn2
      have hstep := Px.each_take hnq He.out
      have Hstep := Lib.hid hstep
      have HKM := Lib.hid (hkm.below HB.out)
      have HMEM := Lib.hid hmem
      have HKJ := Lib.hid hkj
      have HVS := Lib.hid hvs
      clear hstep h5 hn hkm hmem hkj hnq hne hvs
      have NB := Lib.hid (nodeBox wr m (.slice pk m.list.length ck) 105)
      cases hfm : f m with
      | error p =>
        have Hbad := Lib.hid (Hstep.out.2 p hfm); have Hfm := Lib.hid hfm; clear hfm
        go_wp2_with fail
        have hc := HP.out m HMEM.out j (.slice pk m.list.length ck) _ HKJ.out (HB.out.alloc HB.out.size (.cells #[.int .i64 m.tok.kind, .int .i64 m.tok.pos, .string ⟨m.tok.text.toArray⟩, .int .i64 m.tok.int, .slice pk m.list.length ck, .int .i64 m.takes] 105)) (HKM.out.below ((Below.refl _ _).alloc (Nat.le_refl _) _))
        rw [Hfm.out] at hc
        refine hc.mono ?_
        rintro e w2 ⟨hb2, he⟩
        obtain rfl : e = wrongAt p := he
        refine ⟨rfl, (HB.out.alloc HB.out.size _).trans (hb2.mono (by have := HB.out.size; simp; omega)), ?_⟩
        rw [Hbad.out]; rfl
      | ok x =>
        have Hgood := Lib.hid (Hstep.out.1 x hfm); have Hfm := Lib.hid hfm; clear hfm
        go_wp2_with fail
        have hc := HP.out m HMEM.out j (.slice pk m.list.length ck) _ HKJ.out (HB.out.alloc HB.out.size (.cells #[.int .i64 m.tok.kind, .int .i64 m.tok.pos, .string ⟨m.tok.text.toArray⟩, .int .i64 m.tok.int, .slice pk m.list.length ck, .int .i64 m.takes] 105)) (HKM.out.below ((Below.refl _ _).alloc (Nat.le_refl _) _))
        rw [Hfm.out] at hc
        refine hc.mono ?_
        clear hc
        rintro e w2 ⟨hb2, v, rfl, hrep⟩
        have hsh := HS.out _ _ _ hrep.now
        have hkept := hrep.kept (base := w.heap.size) (ob := u5.ownBlock) (by have := HB.out.size; simp; omega) (fun g hg => by have := (Ho.out.lt g hg).2; simp; omega)
        have HR := Lib.hid hkept; clear hrep hkept
        have hB2 := (HB.out.alloc HB.out.size (.cells #[.int .i64 m.tok.kind, .int .i64 m.tok.pos, .string ⟨m.tok.text.toArray⟩, .int .i64 m.tok.int, .slice pk m.list.length ck, .int .i64 m.takes] 105)).trans (hb2.mono (by have := HB.out.size; simp; omega))
        have hw2 : Below wr.heap.size wr w2 := below_box hb2
        have hown2 := own_kept Ho.out hw2
        have hBs := HB.out.size
        have hs2 := hw2.size
        have hlen2 : (cellsOf vs).length = vs.length * 3 := Ho.out.1
        obtain ⟨a0, a1, a2, rfl, hone⟩ := hsh
        have HONE := Lib.hid hone; clear hone
        have HL := Lib.hid hlen2; clear hlen2
        have HB2 := Lib.hid hB2; have HW2 := Lib.hid hw2; have Hown2 := Lib.hid hown2
        have hvq : vs.length ≤ 1000 := by have := HVS.out; omega
        clear hB2 hw2 hown2 hb2
        have HSH := Lib.hid (show ShapeTypeE (.agg #[a0, a1, a2]) from ⟨a0, a1, a2, rfl, HONE.out⟩)
        have hss : ∀ u ∈ vs ++ [.agg #[a0, a1, a2]], ShapeTypeE u := fun u hu => (List.mem_append.1 hu).elim (fun h => Hr.out.2 u h) (fun h => by rw [List.mem_singleton.1 h]; exact HSH.out)
        have HSS := Lib.hid hss; clear hss
        go_wp2_with (at_builtin; refine wpList_append_loc _ rfl (.tmp 14) (.tmp 18) 38 rfl w.heap.size 42 i0 (.agg #[.int .i64 0, .string ⟨#[]⟩, .slice none 0 0]) 3 48 Tryz.underlying38 HI.out HI0.out HI1.out HI2.out rfl (by decide) _ vs.length _ rfl (Hown2.out.alloc _) ⟨w2.heap.size, 0, none⟩ 1 1 [a0, a1, a2] rfl (by decide) rfl ?c1 ?c2 ?c3 ?c4 ?c5 ?_)
        case c1 => exact fun j u h => newTypeE w2 a0 a1 a2 _ j u h
        case c2 => exact HONE.out
        case c3 => unfold maxLen; omega
        case c4 => omega
        case c5 => simp; omega
        intro v' w3 hown3 hgr hloc
        have hB3 := (HB2.out.alloc (by omega) (.cells #[a0, a1, a2] 42)).grown hgr (by simp; omega) (fun kk hkk => (Hown2.out.lt kk hkk).1)
        have hstep : ∀ z x, Kept rep w.heap.size w2 u5.ownBlock z x → Kept rep w.heap.size w3 v'.ownBlock z x := fun z x hk => (hk.below ((Below.refl _ _).alloc (Nat.le_refl _) (.cells #[a0, a1, a2] 42))).step hgr.size (fun b hb1 hb2 => hgr.block b hb1 (fun e => hb2 e.symm)) (by simpa using hloc)
        have hreps : Reps (Kept rep w.heap.size w3 v'.ownBlock) (vs ++ [.agg #[a0, a1, a2]]) (xs ++ [x]) := Reps.snoc (hstep _ _ HR.out) (Hr.out.1.mono fun z y hk => hstep _ _ (hk.below HW2.out))
        rw [← cellsTypeE] at hown3
        have H1 := Lib.hid hB3; have H2 := Lib.hid hown3; have H3 := Lib.hid hreps
        clear hgr hB3 hown3 hreps hstep hloc
        go_wp2
        go_roundw
        case rel => exact ⟨q + 1, vs ++ [.agg #[a0, a1, a2]], xs ++ [x], by go_num, by omega, Hgood, by have := HVS.out; simp [this], Lib.hid ⟨H3.out, HSS.out⟩, Lib.hid (by rw [List.length_append]; exact H2.out), H1.out⟩
        case measure => simp [intOf]; omega
    · obtain rfl : q = l.length := by omega
      have he := He.out
      rw [List.take_length] at he
      have hx := Px.each_len he
      have He2 := Lib.hid he; have Hx := Lib.hid hx; have Hv := Lib.hid hvs
      clear he hx hvs
      go_wp2
      go_ret
      exact ⟨HB.out, by rw [He2.out]; exact ⟨_, rfl, New.row Ho.out (by rw [Hv.out, Hx.out]) Hr.out.1 (fun u hu => (Hr.out.2 u hu).size)⟩⟩
end Go.Proofs.YtnhndamfbeiljaaGreatDoor

namespace Go.Proofs.YtnhndamfbeiljaaGreatDoor
open Go Go.RowKit

theorem infoCon : (Tryz.prog.info? 40).map (fun i => (i.zero, i.size, i.bytes)) = some (some (.agg #[.int .i64 0, .string ⟨#[]⟩, .slice none 0 0]), 3, 48) := by kernel_rfl
/-- What a value of the type is: so many cells. -/
def ShapeCon (v : Value) : Prop := ∃ a0 a1 a2 : Value, v = .agg #[a0, a1, a2] ∧ ∀ u ∈ ([a0, a1, a2] : List Value), u.oneCell' = true
theorem ShapeCon.size {v : Value} (h : ShapeCon v) : v.cells.size = 3 := by
  obtain ⟨a0, a1, a2, rfl, hone⟩ := h
  rfl
theorem newCon (w : World) (a0 a1 a2 : Value) (T : TypeId) (j : Nat) (u : Value) (h : ([a0, a1, a2] : List Value)[j]? = some u) :
    (w.alloc (.cells #[a0, a1, a2] T)).cell? ((⟨w.heap.size, 0, none⟩ : Addr).add j) = some u := by
  have e : (⟨w.heap.size, 0, none⟩ : Addr).add j = ⟨w.heap.size, j, none⟩ := by unfold Addr.add; split <;> simp_all
  rw [e, World.cell?_alloc_mark]
  simpa using h
theorem cellsCon (vs : List Value) (a0 a1 a2 : Value) : cellsOf (vs ++ [.agg #[a0, a1, a2]]) = cellsOf vs ++ [a0, a1, a2] := by
  simp [cellsOf, Value.cells]

set_option maxHeartbeats 1000000 in
set_option maxRecDepth 100000 in
theorem eachCon_any {α : Type} (F : FuncId) (hF : ∀ (args : Array Value) (w : World), (callFunc F args).run Tryz.prog w = .ok (.enter F args) w) (f : Px.Node → Px.R α) (rep : World → Value → α → Prop) (shape : ∀ w v x, rep w v x → ShapeCon v)
    (k : Nat) (lv : Value) (l : List Px.Node) (w : World) (hk : KidsAt w k lv l) (hl : l.length ≤ 1000)
    (part : ∀ n ∈ l, ∀ j kv w1, k = j + 1 → Below w.heap.size w w1 → KidsAt w1 j kv n.list → Calls Tryz.prog F #[nodeV n kv] w1 (ToldN w1 rep (f n))) :
    Calls Tryz.prog 90 #[lv, .func (.func F) #[] #[]] w (ToldN w (fun u => RowAt 3 (rep u) u) (Px.each f l)) := by
  obtain ⟨p0, cp0, rfl⟩ := hk.len
  obtain ⟨i0, hi, hz0, hz1, hz2⟩ := info_parts infoCon
  have HI1 := Lib.hid hz1; have HI2 := Lib.hid hz2; have HI0 := Lib.hid hz0; have HI := Lib.hid hi
  have HK := Lib.hid hk
  have HP := Lib.hid part
  have HS := Lib.hid shape
  clear hi hz0 hz1 hz2 hk part shape
  go_enter Tryz.func90, Tryz.ntmps90
  go_wp2_with fail
  go_loopw [5, 10] (fun v i wr => ∃ (q : Nat) (vs : List Value) (xs : List α), i = .int .i64 q ∧ q ≤ l.length ∧ Hid (Px.each f (l.take q) = .ok xs) ∧ vs.length = q ∧ Hid (Reps (Kept rep w.heap.size wr v.ownBlock) vs xs ∧ ∀ u ∈ vs, ShapeCon u) ∧ Hid (wr.ownsRow w.heap.size 40 3 v vs.length (cellsOf vs)) ∧ Below w.heap.size w wr) (fun _ i _ => l.length - (intOf i).toNat)
  case atStart => exact ⟨0, [], [], rfl, Nat.zero_le _, Lib.hid (by simp [Px.each]), rfl, Lib.hid ⟨trivial, fun _ h => by cases h⟩, Lib.hid (World.ownsRow_nil _ _ _ _), Below.refl _ _⟩
  case round =>
    obtain ⟨q, vs, xs, rfl, hq, He, hvs, Hr, Ho, hb⟩ := hrel
    have HB := Lib.hid hb; clear hb
    by_cases hlt : q < l.length
    · have hne : l ≠ [] := by intro e; rw [e] at hlt; simp at hlt
      obtain ⟨j, g, o, c, hkj, hsl, h3, h4, h5⟩ := HK.out.some hne
      injection hsl with hp0 _ hcp
      subst hp0; subst hcp
      obtain ⟨kv, hn, hkm⟩ := h5 q _ (List.getElem?_eq_getElem hlt)
      have hnq : l[q]? = some l[q] := List.getElem?_eq_getElem hlt
      have hmem : l[q] ∈ l := List.getElem_mem hlt
      generalize l[q] = m at *
      have hn2 := hn.below HB.out
      obtain ⟨pk, ck, rfl⟩ := hkm.len
      obtain ⟨c0, c1, c2, c3, c4, c5⟩ := hn2
      have hstep := Px.each_take hnq He.out
      have Hstep := Lib.hid hstep
      have HKM := Lib.hid (hkm.below HB.out)
      have HMEM := Lib.hid hmem
      have HKJ := Lib.hid hkj
      have HVS := Lib.hid hvs
      clear hstep h5 hn hkm hmem hkj hnq hne hvs
      have NB := Lib.hid (nodeBox wr m (.slice pk m.list.length ck) 105)
      cases hfm : f m with
      | error p =>
        have Hbad := Lib.hid (Hstep.out.2 p hfm); have Hfm := Lib.hid hfm; clear hfm
        go_wp2_with fail
        have hc := HP.out m HMEM.out j (.slice pk m.list.length ck) _ HKJ.out (HB.out.alloc HB.out.size (.cells #[.int .i64 m.tok.kind, .int .i64 m.tok.pos, .string ⟨m.tok.text.toArray⟩, .int .i64 m.tok.int, .slice pk m.list.length ck, .int .i64 m.takes] 105)) (HKM.out.below ((Below.refl _ _).alloc (Nat.le_refl _) _))
        rw [Hfm.out] at hc
        refine hc.mono ?_
        rintro e w2 ⟨hb2, he⟩
        obtain rfl : e = wrongAt p := he
        refine ⟨rfl, (HB.out.alloc HB.out.size _).trans (hb2.mono (by have := HB.out.size; simp; omega)), ?_⟩
        rw [Hbad.out]; rfl
      | ok x =>
        have Hgood := Lib.hid (Hstep.out.1 x hfm); have Hfm := Lib.hid hfm; clear hfm
        go_wp2_with fail
        have hc := HP.out m HMEM.out j (.slice pk m.list.length ck) _ HKJ.out (HB.out.alloc HB.out.size (.cells #[.int .i64 m.tok.kind, .int .i64 m.tok.pos, .string ⟨m.tok.text.toArray⟩, .int .i64 m.tok.int, .slice pk m.list.length ck, .int .i64 m.takes] 105)) (HKM.out.below ((Below.refl _ _).alloc (Nat.le_refl _) _))
        rw [Hfm.out] at hc
        refine hc.mono ?_
        clear hc
        rintro e w2 ⟨hb2, v, rfl, hrep⟩
        have hsh := HS.out _ _ _ hrep.now
        have hkept := hrep.kept (base := w.heap.size) (ob := u5.ownBlock) (by have := HB.out.size; simp; omega) (fun g hg => by have := (Ho.out.lt g hg).2; simp; omega)
        have HR := Lib.hid hkept; clear hrep hkept
        have hB2 := (HB.out.alloc HB.out.size (.cells #[.int .i64 m.tok.kind, .int .i64 m.tok.pos, .string ⟨m.tok.text.toArray⟩, .int .i64 m.tok.int, .slice pk m.list.length ck, .int .i64 m.takes] 105)).trans (hb2.mono (by have := HB.out.size; simp; omega))
        have hw2 : Below wr.heap.size wr w2 := below_box hb2
        have hown2 := own_kept Ho.out hw2
        have hBs := HB.out.size
        have hs2 := hw2.size
        have hlen2 : (cellsOf vs).length = vs.length * 3 := Ho.out.1
        obtain ⟨a0, a1, a2, rfl, hone⟩ := hsh
        have HONE := Lib.hid hone; clear hone
        have HL := Lib.hid hlen2; clear hlen2
        have HB2 := Lib.hid hB2; have HW2 := Lib.hid hw2; have Hown2 := Lib.hid hown2
        have hvq : vs.length ≤ 1000 := by have := HVS.out; omega
        clear hB2 hw2 hown2 hb2
        have HSH := Lib.hid (show ShapeCon (.agg #[a0, a1, a2]) from ⟨a0, a1, a2, rfl, HONE.out⟩)
        have hss : ∀ u ∈ vs ++ [.agg #[a0, a1, a2]], ShapeCon u := fun u hu => (List.mem_append.1 hu).elim (fun h => Hr.out.2 u h) (fun h => by rw [List.mem_singleton.1 h]; exact HSH.out)
        have HSS := Lib.hid hss; clear hss
        go_wp2_with (at_builtin; refine wpList_append_loc _ rfl (.tmp 14) (.tmp 18) 34 rfl w.heap.size 40 i0 (.agg #[.int .i64 0, .string ⟨#[]⟩, .slice none 0 0]) 3 48 Tryz.underlying34 HI.out HI0.out HI1.out HI2.out rfl (by decide) _ vs.length _ rfl (Hown2.out.alloc _) ⟨w2.heap.size, 0, none⟩ 1 1 [a0, a1, a2] rfl (by decide) rfl ?c1 ?c2 ?c3 ?c4 ?c5 ?_)
        case c1 => exact fun j u h => newCon w2 a0 a1 a2 _ j u h
        case c2 => exact HONE.out
        case c3 => unfold maxLen; omega
        case c4 => omega
        case c5 => simp; omega
        intro v' w3 hown3 hgr hloc
        have hB3 := (HB2.out.alloc (by omega) (.cells #[a0, a1, a2] 40)).grown hgr (by simp; omega) (fun kk hkk => (Hown2.out.lt kk hkk).1)
        have hstep : ∀ z x, Kept rep w.heap.size w2 u5.ownBlock z x → Kept rep w.heap.size w3 v'.ownBlock z x := fun z x hk => (hk.below ((Below.refl _ _).alloc (Nat.le_refl _) (.cells #[a0, a1, a2] 40))).step hgr.size (fun b hb1 hb2 => hgr.block b hb1 (fun e => hb2 e.symm)) (by simpa using hloc)
        have hreps : Reps (Kept rep w.heap.size w3 v'.ownBlock) (vs ++ [.agg #[a0, a1, a2]]) (xs ++ [x]) := Reps.snoc (hstep _ _ HR.out) (Hr.out.1.mono fun z y hk => hstep _ _ (hk.below HW2.out))
        rw [← cellsCon] at hown3
        have H1 := Lib.hid hB3; have H2 := Lib.hid hown3; have H3 := Lib.hid hreps
        clear hgr hB3 hown3 hreps hstep hloc
        go_wp2
        go_roundw
        case rel => exact ⟨q + 1, vs ++ [.agg #[a0, a1, a2]], xs ++ [x], by go_num, by omega, Hgood, by have := HVS.out; simp [this], Lib.hid ⟨H3.out, HSS.out⟩, Lib.hid (by rw [List.length_append]; exact H2.out), H1.out⟩
        case measure => simp [intOf]; omega
    · obtain rfl : q = l.length := by omega
      have he := He.out
      rw [List.take_length] at he
      have hx := Px.each_len he
      have He2 := Lib.hid he; have Hx := Lib.hid hx; have Hv := Lib.hid hvs
      clear he hx hvs
      go_wp2
      go_ret
      exact ⟨HB.out, by rw [He2.out]; exact ⟨_, rfl, New.row Ho.out (by rw [Hv.out, Hx.out]) Hr.out.1 (fun u hu => (Hr.out.2 u hu).size)⟩⟩
end Go.Proofs.YtnhndamfbeiljaaGreatDoor

namespace Go.Proofs.YtnhndamfbeiljaaGreatDoor
open Go Go.RowKit

theorem infoStr : (Tryz.prog.info? 9).map (fun i => (i.zero, i.size, i.bytes)) = some (some (.string ⟨#[]⟩), 1, 16) := by kernel_rfl
/-- What a value of the type is: so many cells. -/
def ShapeStr (v : Value) : Prop := ∃ a0 : ByteArray, v = .string a0 ∧ ∀ u ∈ ([.string a0] : List Value), u.oneCell' = true
theorem ShapeStr.size {v : Value} (h : ShapeStr v) : v.cells.size = 1 := by
  obtain ⟨a0, rfl, hone⟩ := h
  rfl
theorem newStr (w : World) (a0 : ByteArray) (T : TypeId) (j : Nat) (u : Value) (h : ([.string a0] : List Value)[j]? = some u) :
    (w.alloc (.cells #[.string a0] T)).cell? ((⟨w.heap.size, 0, none⟩ : Addr).add j) = some u := by
  have e : (⟨w.heap.size, 0, none⟩ : Addr).add j = ⟨w.heap.size, j, none⟩ := by unfold Addr.add; split <;> simp_all
  rw [e, World.cell?_alloc_mark]
  simpa using h
theorem cellsStr (vs : List Value) (a0 : ByteArray) : cellsOf (vs ++ [.string a0]) = cellsOf vs ++ [.string a0] := by
  simp [cellsOf, Value.cells]

set_option maxHeartbeats 1000000 in
set_option maxRecDepth 100000 in
theorem eachStr_any {α : Type} (F : FuncId) (hF : ∀ (args : Array Value) (w : World), (callFunc F args).run Tryz.prog w = .ok (.enter F args) w) (f : Px.Node → Px.R α) (rep : World → Value → α → Prop) (shape : ∀ w v x, rep w v x → ShapeStr v)
    (k : Nat) (lv : Value) (l : List Px.Node) (w : World) (hk : KidsAt w k lv l) (hl : l.length ≤ 1000)
    (part : ∀ n ∈ l, ∀ j kv w1, k = j + 1 → Below w.heap.size w w1 → KidsAt w1 j kv n.list → Calls Tryz.prog F #[nodeV n kv] w1 (ToldN w1 rep (f n))) :
    Calls Tryz.prog 125 #[lv, .func (.func F) #[] #[]] w (ToldN w (fun u => RowAt 1 (rep u) u) (Px.each f l)) := by
  obtain ⟨p0, cp0, rfl⟩ := hk.len
  obtain ⟨i0, hi, hz0, hz1, hz2⟩ := info_parts infoStr
  have HI1 := Lib.hid hz1; have HI2 := Lib.hid hz2; have HI0 := Lib.hid hz0; have HI := Lib.hid hi
  have HK := Lib.hid hk
  have HP := Lib.hid part
  have HS := Lib.hid shape
  clear hi hz0 hz1 hz2 hk part shape
  go_enter Tryz.func125, Tryz.ntmps125
  go_wp2_with fail
  go_loopw [5, 10] (fun v i wr => ∃ (q : Nat) (vs : List Value) (xs : List α), i = .int .i64 q ∧ q ≤ l.length ∧ Hid (Px.each f (l.take q) = .ok xs) ∧ vs.length = q ∧ Hid (Reps (Kept rep w.heap.size wr v.ownBlock) vs xs ∧ ∀ u ∈ vs, ShapeStr u) ∧ Hid (wr.ownsRow w.heap.size 9 1 v vs.length (cellsOf vs)) ∧ Below w.heap.size w wr) (fun _ i _ => l.length - (intOf i).toNat)
  case atStart => exact ⟨0, [], [], rfl, Nat.zero_le _, Lib.hid (by simp [Px.each]), rfl, Lib.hid ⟨trivial, fun _ h => by cases h⟩, Lib.hid (World.ownsRow_nil _ _ _ _), Below.refl _ _⟩
  case round =>
    obtain ⟨q, vs, xs, rfl, hq, He, hvs, Hr, Ho, hb⟩ := hrel
    have HB := Lib.hid hb; clear hb
    by_cases hlt : q < l.length
    · have hne : l ≠ [] := by intro e; rw [e] at hlt; simp at hlt
      obtain ⟨j, g, o, c, hkj, hsl, h3, h4, h5⟩ := HK.out.some hne
      injection hsl with hp0 _ hcp
      subst hp0; subst hcp
      obtain ⟨kv, hn, hkm⟩ := h5 q _ (List.getElem?_eq_getElem hlt)
      have hnq : l[q]? = some l[q] := List.getElem?_eq_getElem hlt
      have hmem : l[q] ∈ l := List.getElem_mem hlt
      generalize l[q] = m at *
      have hn2 := hn.below HB.out
      obtain ⟨pk, ck, rfl⟩ := hkm.len
      obtain ⟨c0, c1, c2, c3, c4, c5⟩ := hn2
      have hstep := Px.each_take hnq He.out
      have Hstep := Lib.hid hstep
      have HKM := Lib.hid (hkm.below HB.out)
      have HMEM := Lib.hid hmem
      have HKJ := Lib.hid hkj
      have HVS := Lib.hid hvs
      clear hstep h5 hn hkm hmem hkj hnq hne hvs
      have NB := Lib.hid (nodeBox wr m (.slice pk m.list.length ck) 105)
      cases hfm : f m with
      | error p =>
        have Hbad := Lib.hid (Hstep.out.2 p hfm); have Hfm := Lib.hid hfm; clear hfm
        go_wp2_with fail
        have hc := HP.out m HMEM.out j (.slice pk m.list.length ck) _ HKJ.out (HB.out.alloc HB.out.size (.cells #[.int .i64 m.tok.kind, .int .i64 m.tok.pos, .string ⟨m.tok.text.toArray⟩, .int .i64 m.tok.int, .slice pk m.list.length ck, .int .i64 m.takes] 105)) (HKM.out.below ((Below.refl _ _).alloc (Nat.le_refl _) _))
        rw [Hfm.out] at hc
        refine hc.mono ?_
        rintro e w2 ⟨hb2, he⟩
        obtain rfl : e = wrongAt p := he
        refine ⟨rfl, (HB.out.alloc HB.out.size _).trans (hb2.mono (by have := HB.out.size; simp; omega)), ?_⟩
        rw [Hbad.out]; rfl
      | ok x =>
        have Hgood := Lib.hid (Hstep.out.1 x hfm); have Hfm := Lib.hid hfm; clear hfm
        go_wp2_with fail
        have hc := HP.out m HMEM.out j (.slice pk m.list.length ck) _ HKJ.out (HB.out.alloc HB.out.size (.cells #[.int .i64 m.tok.kind, .int .i64 m.tok.pos, .string ⟨m.tok.text.toArray⟩, .int .i64 m.tok.int, .slice pk m.list.length ck, .int .i64 m.takes] 105)) (HKM.out.below ((Below.refl _ _).alloc (Nat.le_refl _) _))
        rw [Hfm.out] at hc
        refine hc.mono ?_
        clear hc
        rintro e w2 ⟨hb2, v, rfl, hrep⟩
        have hsh := HS.out _ _ _ hrep.now
        have hkept := hrep.kept (base := w.heap.size) (ob := u5.ownBlock) (by have := HB.out.size; simp; omega) (fun g hg => by have := (Ho.out.lt g hg).2; simp; omega)
        have HR := Lib.hid hkept; clear hrep hkept
        have hB2 := (HB.out.alloc HB.out.size (.cells #[.int .i64 m.tok.kind, .int .i64 m.tok.pos, .string ⟨m.tok.text.toArray⟩, .int .i64 m.tok.int, .slice pk m.list.length ck, .int .i64 m.takes] 105)).trans (hb2.mono (by have := HB.out.size; simp; omega))
        have hw2 : Below wr.heap.size wr w2 := below_box hb2
        have hown2 := own_kept Ho.out hw2
        have hBs := HB.out.size
        have hs2 := hw2.size
        have hlen2 : (cellsOf vs).length = vs.length * 1 := Ho.out.1
        obtain ⟨a0, rfl, hone⟩ := hsh
        have HONE := Lib.hid hone; clear hone
        have HL := Lib.hid hlen2; clear hlen2
        have HB2 := Lib.hid hB2; have HW2 := Lib.hid hw2; have Hown2 := Lib.hid hown2
        have hvq : vs.length ≤ 1000 := by have := HVS.out; omega
        clear hB2 hw2 hown2 hb2
        have HSH := Lib.hid (show ShapeStr (.string a0) from ⟨a0, rfl, HONE.out⟩)
        have hss : ∀ u ∈ vs ++ [.string a0], ShapeStr u := fun u hu => (List.mem_append.1 hu).elim (fun h => Hr.out.2 u h) (fun h => by rw [List.mem_singleton.1 h]; exact HSH.out)
        have HSS := Lib.hid hss; clear hss
        go_wp2_with (at_builtin; refine wpList_append_loc _ rfl (.tmp 14) (.tmp 18) 33 rfl w.heap.size 9 i0 (.string ⟨#[]⟩) 1 16 Tryz.underlying33 HI.out HI0.out HI1.out HI2.out rfl (by decide) _ vs.length _ rfl (Hown2.out.alloc _) ⟨w2.heap.size, 0, none⟩ 1 1 [.string a0] rfl (by decide) rfl ?c1 ?c2 ?c3 ?c4 ?c5 ?_)
        case c1 => exact fun j u h => newStr w2 a0 _ j u h
        case c2 => exact HONE.out
        case c3 => unfold maxLen; omega
        case c4 => omega
        case c5 => simp; omega
        intro v' w3 hown3 hgr hloc
        have hB3 := (HB2.out.alloc (by omega) (.cells #[.string a0] 9)).grown hgr (by simp; omega) (fun kk hkk => (Hown2.out.lt kk hkk).1)
        have hstep : ∀ z x, Kept rep w.heap.size w2 u5.ownBlock z x → Kept rep w.heap.size w3 v'.ownBlock z x := fun z x hk => (hk.below ((Below.refl _ _).alloc (Nat.le_refl _) (.cells #[.string a0] 9))).step hgr.size (fun b hb1 hb2 => hgr.block b hb1 (fun e => hb2 e.symm)) (by simpa using hloc)
        have hreps : Reps (Kept rep w.heap.size w3 v'.ownBlock) (vs ++ [.string a0]) (xs ++ [x]) := Reps.snoc (hstep _ _ HR.out) (Hr.out.1.mono fun z y hk => hstep _ _ (hk.below HW2.out))
        rw [← cellsStr] at hown3
        have H1 := Lib.hid hB3; have H2 := Lib.hid hown3; have H3 := Lib.hid hreps
        clear hgr hB3 hown3 hreps hstep hloc
        go_wp2
        go_roundw
        case rel => exact ⟨q + 1, vs ++ [.string a0], xs ++ [x], by go_num, by omega, Hgood, by have := HVS.out; simp [this], Lib.hid ⟨H3.out, HSS.out⟩, Lib.hid (by rw [List.length_append]; exact H2.out), H1.out⟩
        case measure => simp [intOf]; omega
    · obtain rfl : q = l.length := by omega
      have he := He.out
      rw [List.take_length] at he
      have hx := Px.each_len he
      have He2 := Lib.hid he; have Hx := Lib.hid hx; have Hv := Lib.hid hvs
      clear he hx hvs
      go_wp2
      go_ret
      exact ⟨HB.out, by rw [He2.out]; exact ⟨_, rfl, New.row Ho.out (by rw [Hv.out, Hx.out]) Hr.out.1 (fun u hu => (Hr.out.2 u hu).size)⟩⟩
end Go.Proofs.YtnhndamfbeiljaaGreatDoor

namespace Go.Proofs.YtnhndamfbeiljaaGreatDoor
open Go Go.RowKit

theorem infoAlt : (Tryz.prog.info? 86).map (fun i => (i.zero, i.size, i.bytes)) = some (some (.agg #[.int .i64 0, .int .i64 0, .string ⟨#[]⟩, .int .i64 0, .slice none 0 0, .int .i64 0, .int .i64 0, .string ⟨#[]⟩, .int .i64 0, .slice none 0 0, .slice none 0 0, .slice none 0 0]), 12, 176) := by kernel_rfl
/-- What a value of the type is: so many cells. -/
def ShapeAlt (v : Value) : Prop := ∃ a0 a1 a2 a3 a4 a5 a6 a7 a8 a9 a10 a11 : Value, v = .agg #[a0, a1, a2, a3, a4, a5, a6, a7, a8, a9, a10, a11] ∧ ∀ u ∈ ([a0, a1, a2, a3, a4, a5, a6, a7, a8, a9, a10, a11] : List Value), u.oneCell' = true
theorem ShapeAlt.size {v : Value} (h : ShapeAlt v) : v.cells.size = 12 := by
  obtain ⟨a0, a1, a2, a3, a4, a5, a6, a7, a8, a9, a10, a11, rfl, hone⟩ := h
  rfl
theorem newAlt (w : World) (a0 a1 a2 a3 a4 a5 a6 a7 a8 a9 a10 a11 : Value) (T : TypeId) (j : Nat) (u : Value) (h : ([a0, a1, a2, a3, a4, a5, a6, a7, a8, a9, a10, a11] : List Value)[j]? = some u) :
    (w.alloc (.cells #[a0, a1, a2, a3, a4, a5, a6, a7, a8, a9, a10, a11] T)).cell? ((⟨w.heap.size, 0, none⟩ : Addr).add j) = some u := by
  have e : (⟨w.heap.size, 0, none⟩ : Addr).add j = ⟨w.heap.size, j, none⟩ := by unfold Addr.add; split <;> simp_all
  rw [e, World.cell?_alloc_mark]
  simpa using h
theorem cellsAlt (vs : List Value) (a0 a1 a2 a3 a4 a5 a6 a7 a8 a9 a10 a11 : Value) : cellsOf (vs ++ [.agg #[a0, a1, a2, a3, a4, a5, a6, a7, a8, a9, a10, a11]]) = cellsOf vs ++ [a0, a1, a2, a3, a4, a5, a6, a7, a8, a9, a10, a11] := by
  simp [cellsOf, Value.cells]

set_option maxHeartbeats 1000000 in
set_option maxRecDepth 100000 in
theorem eachAlt_any {α : Type} (F : FuncId) (hF : ∀ (args : Array Value) (w : World), (callFunc F args).run Tryz.prog w = .ok (.enter F args) w) (f : Px.Node → Px.R α) (rep : World → Value → α → Prop) (shape : ∀ w v x, rep w v x → ShapeAlt v)
    (k : Nat) (lv : Value) (l : List Px.Node) (w : World) (hk : KidsAt w k lv l) (hl : l.length ≤ 1000)
    (part : ∀ n ∈ l, ∀ j kv w1, k = j + 1 → Below w.heap.size w w1 → KidsAt w1 j kv n.list → Calls Tryz.prog F #[nodeV n kv] w1 (ToldN w1 rep (f n))) :
    Calls Tryz.prog 155 #[lv, .func (.func F) #[] #[]] w (ToldN w (fun u => RowAt 12 (rep u) u) (Px.each f l)) := by
  obtain ⟨p0, cp0, rfl⟩ := hk.len
  obtain ⟨i0, hi, hz0, hz1, hz2⟩ := info_parts infoAlt
  have HI1 := Lib.hid hz1; have HI2 := Lib.hid hz2; have HI0 := Lib.hid hz0; have HI := Lib.hid hi
  have HK := Lib.hid hk
  have HP := Lib.hid part
  have HS := Lib.hid shape
  clear hi hz0 hz1 hz2 hk part shape
  go_enter Tryz.func155, Tryz.ntmps155
  go_wp2_with fail
  go_loopw [5, 10] (fun v i wr => ∃ (q : Nat) (vs : List Value) (xs : List α), i = .int .i64 q ∧ q ≤ l.length ∧ Hid (Px.each f (l.take q) = .ok xs) ∧ vs.length = q ∧ Hid (Reps (Kept rep w.heap.size wr v.ownBlock) vs xs ∧ ∀ u ∈ vs, ShapeAlt u) ∧ Hid (wr.ownsRow w.heap.size 86 12 v vs.length (cellsOf vs)) ∧ Below w.heap.size w wr) (fun _ i _ => l.length - (intOf i).toNat)
  case atStart => exact ⟨0, [], [], rfl, Nat.zero_le _, Lib.hid (by simp [Px.each]), rfl, Lib.hid ⟨trivial, fun _ h => by cases h⟩, Lib.hid (World.ownsRow_nil _ _ _ _), Below.refl _ _⟩
  case round =>
    obtain ⟨q, vs, xs, rfl, hq, He, hvs, Hr, Ho, hb⟩ := hrel
    have HB := Lib.hid hb; clear hb
    by_cases hlt : q < l.length
    · have hne : l ≠ [] := by intro e; rw [e] at hlt; simp at hlt
      obtain ⟨j, g, o, c, hkj, hsl, h3, h4, h5⟩ := HK.out.some hne
      injection hsl with hp0 _ hcp
      subst hp0; subst hcp
      obtain ⟨kv, hn, hkm⟩ := h5 q _ (List.getElem?_eq_getElem hlt)
      have hnq : l[q]? = some l[q] := List.getElem?_eq_getElem hlt
      have hmem : l[q] ∈ l := List.getElem_mem hlt
      generalize l[q] = m at *
      have hn2 := hn.below HB.out
      obtain ⟨pk, ck, rfl⟩ := hkm.len
      obtain ⟨c0, c1, c2, c3, c4, c5⟩ := hn2
      have hstep := Px.each_take hnq He.out
      have Hstep := Lib.hid hstep
      have HKM := Lib.hid (hkm.below HB.out)
      have HMEM := Lib.hid hmem
      have HKJ := Lib.hid hkj
      have HVS := Lib.hid hvs
      clear hstep h5 hn hkm hmem hkj hnq hne hvs
      have NB := Lib.hid (nodeBox wr m (.slice pk m.list.length ck) 105)
      cases hfm : f m with
      | error p =>
        have Hbad := Lib.hid (Hstep.out.2 p hfm); have Hfm := Lib.hid hfm; clear hfm
        go_wp2_with fail
        have hc := HP.out m HMEM.out j (.slice pk m.list.length ck) _ HKJ.out (HB.out.alloc HB.out.size (.cells #[.int .i64 m.tok.kind, .int .i64 m.tok.pos, .string ⟨m.tok.text.toArray⟩, .int .i64 m.tok.int, .slice pk m.list.length ck, .int .i64 m.takes] 105)) (HKM.out.below ((Below.refl _ _).alloc (Nat.le_refl _) _))
        rw [Hfm.out] at hc
        refine hc.mono ?_
        rintro e w2 ⟨hb2, he⟩
        obtain rfl : e = wrongAt p := he
        refine ⟨rfl, (HB.out.alloc HB.out.size _).trans (hb2.mono (by have := HB.out.size; simp; omega)), ?_⟩
        rw [Hbad.out]; rfl
      | ok x =>
        have Hgood := Lib.hid (Hstep.out.1 x hfm); have Hfm := Lib.hid hfm; clear hfm
        go_wp2_with fail
        have hc := HP.out m HMEM.out j (.slice pk m.list.length ck) _ HKJ.out (HB.out.alloc HB.out.size (.cells #[.int .i64 m.tok.kind, .int .i64 m.tok.pos, .string ⟨m.tok.text.toArray⟩, .int .i64 m.tok.int, .slice pk m.list.length ck, .int .i64 m.takes] 105)) (HKM.out.below ((Below.refl _ _).alloc (Nat.le_refl _) _))
        rw [Hfm.out] at hc
        refine hc.mono ?_
        clear hc
        rintro e w2 ⟨hb2, v, rfl, hrep⟩
        have hsh := HS.out _ _ _ hrep.now
        have hkept := hrep.kept (base := w.heap.size) (ob := u5.ownBlock) (by have := HB.out.size; simp; omega) (fun g hg => by have := (Ho.out.lt g hg).2; simp; omega)
        have HR := Lib.hid hkept; clear hrep hkept
        have hB2 := (HB.out.alloc HB.out.size (.cells #[.int .i64 m.tok.kind, .int .i64 m.tok.pos, .string ⟨m.tok.text.toArray⟩, .int .i64 m.tok.int, .slice pk m.list.length ck, .int .i64 m.takes] 105)).trans (hb2.mono (by have := HB.out.size; simp; omega))
        have hw2 : Below wr.heap.size wr w2 := below_box hb2
        have hown2 := own_kept Ho.out hw2
        have hBs := HB.out.size
        have hs2 := hw2.size
        have hlen2 : (cellsOf vs).length = vs.length * 12 := Ho.out.1
        obtain ⟨a0, a1, a2, a3, a4, a5, a6, a7, a8, a9, a10, a11, rfl, hone⟩ := hsh
        have HONE := Lib.hid hone; clear hone
        have HL := Lib.hid hlen2; clear hlen2
        have HB2 := Lib.hid hB2; have HW2 := Lib.hid hw2; have Hown2 := Lib.hid hown2
        have hvq : vs.length ≤ 1000 := by have := HVS.out; omega
        clear hB2 hw2 hown2 hb2
        have HSH := Lib.hid (show ShapeAlt (.agg #[a0, a1, a2, a3, a4, a5, a6, a7, a8, a9, a10, a11]) from ⟨a0, a1, a2, a3, a4, a5, a6, a7, a8, a9, a10, a11, rfl, HONE.out⟩)
        have hss : ∀ u ∈ vs ++ [.agg #[a0, a1, a2, a3, a4, a5, a6, a7, a8, a9, a10, a11]], ShapeAlt u := fun u hu => (List.mem_append.1 hu).elim (fun h => Hr.out.2 u h) (fun h => by rw [List.mem_singleton.1 h]; exact HSH.out)
        have HSS := Lib.hid hss; clear hss
        go_wp2_with (at_builtin; refine wpList_append_loc _ rfl (.tmp 14) (.tmp 18) 45 rfl w.heap.size 86 i0 (.agg #[.int .i64 0, .int .i64 0, .string ⟨#[]⟩, .int .i64 0, .slice none 0 0, .int .i64 0, .int .i64 0, .string ⟨#[]⟩, .int .i64 0, .slice none 0 0, .slice none 0 0, .slice none 0 0]) 12 176 Tryz.underlying45 HI.out HI0.out HI1.out HI2.out rfl (by decide) _ vs.length _ rfl (Hown2.out.alloc _) ⟨w2.heap.size, 0, none⟩ 1 1 [a0, a1, a2, a3, a4, a5, a6, a7, a8, a9, a10, a11] rfl (by decide) rfl ?c1 ?c2 ?c3 ?c4 ?c5 ?_)
        case c1 => exact fun j u h => newAlt w2 a0 a1 a2 a3 a4 a5 a6 a7 a8 a9 a10 a11 _ j u h
        case c2 => exact HONE.out
        case c3 => unfold maxLen; omega
        case c4 => omega
        case c5 => simp; omega
        intro v' w3 hown3 hgr hloc
        have hB3 := (HB2.out.alloc (by omega) (.cells #[a0, a1, a2, a3, a4, a5, a6, a7, a8, a9, a10, a11] 86)).grown hgr (by simp; omega) (fun kk hkk => (Hown2.out.lt kk hkk).1)
        have hstep : ∀ z x, Kept rep w.heap.size w2 u5.ownBlock z x → Kept rep w.heap.size w3 v'.ownBlock z x := fun z x hk => (hk.below ((Below.refl _ _).alloc (Nat.le_refl _) (.cells #[a0, a1, a2, a3, a4, a5, a6, a7, a8, a9, a10, a11] 86))).step hgr.size (fun b hb1 hb2 => hgr.block b hb1 (fun e => hb2 e.symm)) (by simpa using hloc)
        have hreps : Reps (Kept rep w.heap.size w3 v'.ownBlock) (vs ++ [.agg #[a0, a1, a2, a3, a4, a5, a6, a7, a8, a9, a10, a11]]) (xs ++ [x]) := Reps.snoc (hstep _ _ HR.out) (Hr.out.1.mono fun z y hk => hstep _ _ (hk.below HW2.out))
        rw [← cellsAlt] at hown3
        have H1 := Lib.hid hB3; have H2 := Lib.hid hown3; have H3 := Lib.hid hreps
        clear hgr hB3 hown3 hreps hstep hloc
        go_wp2
        go_roundw
        case rel => exact ⟨q + 1, vs ++ [.agg #[a0, a1, a2, a3, a4, a5, a6, a7, a8, a9, a10, a11]], xs ++ [x], by go_num, by omega, Hgood, by have := HVS.out; simp [this], Lib.hid ⟨H3.out, HSS.out⟩, Lib.hid (by rw [List.length_append]; exact H2.out), H1.out⟩
        case measure => simp [intOf]; omega
    · obtain rfl : q = l.length := by omega
      have he := He.out
      rw [List.take_length] at he
      have hx := Px.each_len he
      have He2 := Lib.hid he; have Hx := Lib.hid hx; have Hv := Lib.hid hvs
      clear he hx hvs
      go_wp2
      go_ret
      exact ⟨HB.out, by rw [He2.out]; exact ⟨_, rfl, New.row Ho.out (by rw [Hv.out, Hx.out]) Hr.out.1 (fun u hu => (Hr.out.2 u hu).size)⟩⟩
end Go.Proofs.YtnhndamfbeiljaaGreatDoor
