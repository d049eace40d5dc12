/-
  Several texts in one: PProgA, PProg.
-/
import Derived.Test.YtnhndamfbeiljaaGreatDoorKPDef
import Derived.Test.YtnhndamfbeiljaaGreatDoorKPLetA
import Derived.Test.YtnhndamfbeiljaaGreatDoorGList
import Derived.Deep.DeepCutAuto
namespace Go.Proofs.YtnhndamfbeiljaaGreatDoor
open Go Go.RowKit

theorem infoData : (Tryz.prog.info? 36).map (fun i => (i.zero, i.size, i.bytes)) = some (some (.agg #[.int .i64 0, .string ⟨#[]⟩, .slice none 0 0, .slice none 0 0]), 4, 72) := by kernel_rfl
theorem infoDef : (Tryz.prog.info? 49).map (fun i => (i.zero, i.size, i.bytes)) = some (some (.agg #[.int .i64 0, .string ⟨#[]⟩, .slice none 0 0, .int .i64 0, .int .i64 0, .string ⟨#[]⟩, .int .i64 0, .slice none 0 0, .slice none 0 0, .slice none 0 0]), 10, 160) := by kernel_rfl
theorem newData (w : World) (x0 x1 x2 x3 : Value) (T : TypeId) (j : Nat) (u : Value) (h : ([x0, x1, x2, x3] : List Value)[j]? = some u) :
    (w.alloc (.cells #[x0, x1, x2, x3] T)).cell? ((⟨w.heap.size, 0, none⟩ : Addr).add j) = some u := by
  have e : (⟨w.heap.size, 0, none⟩ : Addr).add j = ⟨w.heap.size, j, none⟩ := by unfold Addr.add; split <;> simp_all
  rw [e, World.cell?_alloc_mark]; simpa using h
theorem newDef (w : World) (x0 x1 x2 x3 x4 x5 x6 x7 x8 x9 : Value) (T : TypeId) (j : Nat) (u : Value) (h : ([x0, x1, x2, x3, x4, x5, x6, x7, x8, x9] : List Value)[j]? = some u) :
    (w.alloc (.cells #[x0, x1, x2, x3, x4, x5, x6, x7, x8, x9] T)).cell? ((⟨w.heap.size, 0, none⟩ : Addr).add j) = some u := by
  have e : (⟨w.heap.size, 0, none⟩ : Addr).add j = ⟨w.heap.size, j, none⟩ := by unfold Addr.add; split <;> simp_all
  rw [e, World.cell?_alloc_mark]; simpa using h
def ProgAt (f : Nat) (u : World) (v : Value) (x : Px.Prog) : Prop := ∃ dv fv, v = .agg #[dv, fv] ∧ RowAt 4 (DataAt f u) u dv x.datas ∧ RowAt 10 (DefAt f u) u fv x.defs
theorem dataAt_form (f : Nat) (w : World) (v : Value) (x : Px.Data) (h : DataAt f w v x) : ∃ (p : Int) (s : ByteArray) (q1 : Option Addr) (n1 c1 : Nat) (q2 : Option Addr) (n2 c2 : Nat), v = .agg #[.int .i64 p, .string s, .slice q1 n1 c1, .slice q2 n2 c2] := by
  obtain ⟨nv, cv, rfl, h1, h2⟩ := h
  obtain ⟨q1, c1, rfl⟩ := h1.len
  obtain ⟨q2, c2, rfl⟩ := h2.len
  exact ⟨_, _, _, _, _, _, _, _, rfl⟩
theorem defAt_form (f : Nat) (w : World) (v : Value) (x : Px.Def) (h : DefAt f w v x) : ∃ (p : Int) (s : ByteArray) (q0 : Option Addr) (n0 c0 : Nat) (k xp i : Int) (t : ByteArray) (q1 : Option Addr) (n1 c1 : Nat) (q2 : Option Addr) (n2 c2 : Nat) (q3 : Option Addr) (n3 c3 : Nat),
    v = .agg #[.int .i64 p, .string s, .slice q0 n0 c0, .int .i64 k, .int .i64 xp, .string t, .int .i64 i, .slice q1 n1 c1, .slice q2 n2 c2, .slice q3 n3 c3] := by
  obtain ⟨nv, b0, b1, b2, b3, b4, b5, b6, rfl, h1, h2⟩ := h
  obtain ⟨q0, c0, rfl⟩ := h1.len
  obtain ⟨k, xp, i, t, q1, n1, c1, q2, n2, c2, q3, n3, c3, e⟩ := exprAt_form f w _ _ h2
  simp only [Value.agg.injEq, Array.mk.injEq, List.cons.injEq, and_true] at e
  obtain ⟨rfl, rfl, rfl, rfl, rfl, rfl, rfl⟩ := e
  exact ⟨_, _, _, _, _, _, _, _, _, _, _, _, _, _, _, _, _, _, rfl⟩

/-- What is left of a program's tokens, and what came ahead. -/
def AheadP (stop : Nat) (all : List Lx.Tok) (F c : Nat) (ts : List Lx.Tok) (ds : List Px.Data) (fs : List Px.Def) : Prop :=
  Px.prog stop (all.length + 1) 0 all = match Px.prog stop F c ts with | .error p => .error p | .ok q => .ok ⟨ds ++ q.datas, fs ++ q.defs⟩
theorem AheadP.start (stop : Nat) (all : List Lx.Tok) : AheadP stop all (all.length + 1) 0 all [] [] := by
  unfold AheadP
  cases Px.prog stop (all.length + 1) 0 all with
  | error p => rfl
  | ok q => rfl
theorem AheadP.nil {stop F c : Nat} {all : List Lx.Tok} {ds : List Px.Data} {fs : List Px.Def} (h : AheadP stop all (F + 1) c [] ds fs) : Px.prog stop (all.length + 1) 0 all = .ok ⟨ds, fs⟩ := by
  unfold AheadP at h; rw [h, Px.prog]; simp
theorem AheadP.bad {stop F c p : Nat} {all ts : List Lx.Tok} {ds : List Px.Data} {fs : List Px.Def} (h : AheadP stop all F c ts ds fs) (hp : Px.prog stop F c ts = .error p) : Px.prog stop (all.length + 1) 0 all = .error p := by
  unfold AheadP at h; rw [h, hp]
theorem AheadP.data {stop F c : Nat} {all ts tt : List Lx.Tok} {t : Lx.Tok} {n : Px.Node} {d : Px.Data} {ds : List Px.Data} {fs : List Px.Def} (h : AheadP stop all (F + 1) c (t :: ts) ds fs)
    (hn : Px.node stop (2 * (t :: ts).length + 2) 0 (t :: ts) = .ok (n, tt)) (hc : c ≠ 100) (hw : Px.word n = [100, 97, 116, 97]) (hd : Px.data 50 n = .ok d) : AheadP stop all F (c + 1) tt (ds ++ [d]) fs := by
  unfold AheadP at *
  rw [h, Px.prog]
  case x_3 => simp
  simp only [hn, hc, hw, hd, if_true, if_false]
  cases Px.prog stop F (c + 1) tt with
  | error p => rfl
  | ok q => simp
theorem AheadP.defn {stop F c : Nat} {all ts tt : List Lx.Tok} {t : Lx.Tok} {n : Px.Node} {d : Px.Def} {ds : List Px.Data} {fs : List Px.Def} (h : AheadP stop all (F + 1) c (t :: ts) ds fs)
    (hn : Px.node stop (2 * (t :: ts).length + 2) 0 (t :: ts) = .ok (n, tt)) (hc : c ≠ 100) (hw : Px.word n = [100, 101, 102]) (hd : Px.defn 50 n = .ok d) : AheadP stop all F (c + 1) tt ds (fs ++ [d]) := by
  unfold AheadP at *
  rw [h, Px.prog]
  case x_3 => simp
  have hne : ¬ Px.word n = [100, 97, 116, 97] := by rw [hw]; decide
  simp only [hn, hc, hw, hd, if_true, if_false]
  cases Px.prog stop F (c + 1) tt with
  | error p => rfl
  | ok q => simp
end Go.Proofs.YtnhndamfbeiljaaGreatDoor

namespace Go.Proofs.YtnhndamfbeiljaaGreatDoor
open Go Go.RowKit
set_option linter.unusedVariables false
set_option linter.unusedSimpArgs false

theorem cells4 (vs : List Value) (x0 x1 x2 x3 : Value) : cellsOf (vs ++ [.agg #[x0, x1, x2, x3]]) = cellsOf vs ++ [x0, x1, x2, x3] := by simp [cellsOf, Value.cells]
theorem cells10 (vs : List Value) (x0 x1 x2 x3 x4 x5 x6 x7 x8 x9 : Value) : cellsOf (vs ++ [.agg #[x0, x1, x2, x3, x4, x5, x6, x7, x8, x9]]) = cellsOf vs ++ [x0, x1, x2, x3, x4, x5, x6, x7, x8, x9] := by simp [cellsOf, Value.cells]
def ShapeData (v : Value) : Prop := v.cells.size = 4
def ShapeDef (v : Value) : Prop := v.cells.size = 10

set_option maxHeartbeats 4000000 in
set_option maxRecDepth 100000 in
theorem program_any (r : Nat) (tv : Value) (all : List Lx.Tok) (stop B : Nat) (w : World) (h : Reader w r tv all 0 stop B) :
    Calls Tryz.prog 23 #[.pointer (some ⟨r, 0, none⟩)] w (PartPost (ProgAt 50) r w (Px.prog stop (all.length + 1) 0 all)) := by
  have hrw := h.lt
  have hshort := h.short
  have hst := h.stop_le
  have H := Lib.hid h
  generalize hout : Px.prog stop (all.length + 1) 0 all = out
  have HOUT := Lib.hid hout
  clear h hout
  obtain ⟨i0, hi, hz0, hz1, hz2⟩ := info_parts infoData
  have I01 := Lib.hid hz1; have I02 := Lib.hid hz2; have I00 := Lib.hid hz0; have I0 := Lib.hid hi
  clear hi hz0 hz1 hz2
  obtain ⟨i1, hi, hz0, hz1, hz2⟩ := info_parts infoDef
  have I11 := Lib.hid hz1; have I12 := Lib.hid hz2; have I10 := Lib.hid hz0; have I1 := Lib.hid hi
  clear hi hz0 hz1 hz2
  go_enter Tryz.func23, Tryz.ntmps23
  go_wp2_with fail
  have hb : Below w.heap.size w ((w.alloc (.cells #[.slice none 0 0, .slice none 0 0] 27)).alloc (.cells #[.slice none 0 0, .slice none 0 0] 27)) := ((Below.refl _ _).alloc (Nat.le_refl _) _).alloc (by simp) _
  have ER := Lib.hid (ent_alloc (ent_new w #[.slice none 0 0, .slice none 0 0] 27) (.cells #[.slice none 0 0, .slice none 0 0] 27))
  have EX0 := ent_new (w.alloc (.cells #[.slice none 0 0, .slice none 0 0] 27)) #[.slice none 0 0, .slice none 0 0] 27
  rw [World.size_alloc] at EX0
  have EX := Lib.hid EX0
  have HRD := Lib.hid (H.out.below hb)
  have HG : Hid (w.grownBy _ (some r)) := Lib.hid (grown_below hb (Nat.le_refl _) (some r))
  clear EX0 hb
  go_loopw [4] (fun i wr => ∃ (q j F : Nat) (dv fv : Value) (vsd vsf : List Value) (ds : List Px.Data) (fs : List Px.Def), i = .int .i64 q ∧ q ≤ 100 ∧ Hid (Reader wr r tv all j stop B) ∧ all.length - j < F ∧ Hid (AheadP stop all F q (all.drop j) ds fs) ∧ ds.length + fs.length = q ∧ Hid (wr.heap[w.heap.size + 1]? = some (.cells #[dv, fv] 27 (0, 0))) ∧ Hid (wr.heap[w.heap.size]? = some (.cells #[.slice none 0 0, .slice none 0 0] 27 (0, 0))) ∧
    Hid (wr.ownsRow (w.heap.size + 2) 36 4 dv ds.length (cellsOf vsd)) ∧ Hid (wr.ownsRow (w.heap.size + 2) 49 10 fv fs.length (cellsOf vsf)) ∧ Hid (Reps (KeptS (DataAt 50) (w.heap.size + 2) wr (fun g => dv.ownBlock = some g ∨ fv.ownBlock = some g)) vsd ds ∧ ∀ u ∈ vsd, ShapeData u) ∧ Hid (Reps (KeptS (DefAt 50) (w.heap.size + 2) wr (fun g => dv.ownBlock = some g ∨ fv.ownBlock = some g)) vsf fs ∧ ∀ u ∈ vsf, ShapeDef u) ∧ Hid (w.grownBy wr (some r))) (fun _ wr => all.length - (intOf ((wr.cell? ⟨r, 1, none⟩).getD undef)).toNat)
  case atStart => exact ⟨0, 0, all.length + 1, _, _, [], [], [], [], rfl, by omega, HRD, by omega, Lib.hid (AheadP.start stop all), rfl, EX, ER, Lib.hid (World.ownsRow_nil _ _ _ _), Lib.hid (World.ownsRow_nil _ _ _ _), Lib.hid ⟨trivial, fun _ h => by cases h⟩, Lib.hid ⟨trivial, fun _ h => by cases h⟩, HG⟩
  case round =>
    obtain ⟨q, j, F, dv, fv, vsd, vsf, ds, fs, rfl, hq, HRD, hF, HA, hlen, EX, ER, OD, OF, KD, KF, HG⟩ := hrel
    obtain ⟨F, rfl⟩ : ∃ G, F = G + 1 := ⟨F - 1, by omega⟩
    have HLEN := Lib.hid hlen; clear hlen
    have hat0 := Lib.hid (show (wr.cell? ⟨r, 1, none⟩) = some (.int .i64 j) from HRD.out.cells.2.1)
    have hws : w.heap.size + 1 < wr.heap.size := ent_lt EX.out
    by_cases hjl : j < all.length
    · have hd : decide (j < all.length) = true := by simpa using hjl
      go_wp2_with fail
      refine (more_any r tv all j stop B _ HRD.out).mono ?_
      rw [hd]
      rintro e w1 ⟨rfl, hb⟩
      replace EX := Lib.hid (ent_below EX.out hb); replace ER := Lib.hid (ent_below ER.out hb)
      replace OD := Lib.hid (own_kept OD.out hb); replace OF := Lib.hid (own_kept OF.out hb)
      replace KD := Lib.hid (And.intro (KD.out.1.mono fun z y h => h.below hb) KD.out.2); replace KF := Lib.hid (And.intro (KF.out.1.mono fun z y h => h.below hb) KF.out.2)
      replace HRD := Lib.hid (HRD.out.below hb); replace HG := Lib.hid (grown_then HG.out (hb.mono HG.out.size))
      clear hb hd
      go_wp2_with fail
      have hn := node_any (2 * (all.drop j).length + 2) r tv all j stop B 0 _ HRD.out (by omega) (by rw [List.length_drop]; omega)
      refine hn.mono ?_
      clear hn
      rintro e w2 ⟨hg, hres⟩
      obtain ⟨t, htt⟩ : ∃ t, all.drop j = t :: all.drop (j + 1) := ⟨all[j], List.drop_eq_getElem_cons hjl⟩
      cases hnd : Px.node stop (2 * (all.drop j).length + 2) 0 (all.drop j) with
      | error p =>
        rw [hnd] at hres
        obtain rfl : e = wrongAt p := hres
        have ho : out = .error p := by
          rw [← HOUT.out]
          refine HA.out.bad ?_
          rw [htt] at hnd ⊢
          rw [Px.prog]
          case x_3 => simp
          rw [hnd]
        subst ho
        exact ⟨rfl, grown_trans HG.out hg, rfl⟩
      | ok res =>
        obtain ⟨n, tt⟩ := res
        rw [hnd] at hres
        obtain ⟨v, j2, rfl, hnew, rfl, hj2, hrd⟩ := hres
        obtain ⟨lv, rfl, hk, _⟩ := hnew.now
        obtain ⟨pk, ck, rfl⟩ := hk.len
        have HND := Lib.hid hnd; have HTT := Lib.hid htt; have HJ2 := Lib.hid hj2
        replace EX := Lib.hid ((hg.block _ (ent_lt EX.out) (fun e => by simp at e; omega)).trans EX.out); replace ER := Lib.hid ((hg.block _ (ent_lt ER.out) (fun e => by simp at e; omega)).trans ER.out)
        replace OD := Lib.hid (own_moved OD.out hg (by omega)); replace OF := Lib.hid (own_moved OF.out hg (by omega))
        replace KD := Lib.hid (And.intro (KD.out.1.mono fun z y h => h.step hg.size (fun b hb1 hb2 _ => hg.block b hb1 (fun e => by simp at e; omega)) (fun g hg => .inl hg)) KD.out.2)
        replace KF := Lib.hid (And.intro (KF.out.1.mono fun z y h => h.step hg.size (fun b hb1 hb2 _ => hg.block b hb1 (fun e => by simp at e; omega)) (fun g hg => .inl hg)) KF.out.2)
        replace HG := Lib.hid (grown_trans HG.out hg); replace HRD := Lib.hid hrd
        have HK := Lib.hid hk
        clear hnd htt hj2 hg hnew hk hrd
        unfold nodeV
        by_cases hq1 : q = 100
        · have hqb : ((q : Int) == 100) = true := by simp [hq1]
          have HQ1 := Lib.hid hq1; clear hq1
          go_wp2_with fail
          have hb : Below w2.heap.size w2 (w2.alloc (.cells #[.int .i64 n.tok.kind, .int .i64 n.tok.pos, .string ⟨n.tok.text.toArray⟩, .int .i64 n.tok.int, .slice pk n.list.length ck, .int .i64 n.takes] 105)) := (Below.refl _ _).alloc (Nat.le_refl _) _
          replace EX := Lib.hid (ent_below EX.out hb); replace ER := Lib.hid (ent_below ER.out hb)
          replace OD := Lib.hid (own_kept OD.out hb); replace OF := Lib.hid (own_kept OF.out hb)
          replace KD := Lib.hid (And.intro (KD.out.1.mono fun z y h => h.below hb) KD.out.2); replace KF := Lib.hid (And.intro (KF.out.1.mono fun z y h => h.below hb) KF.out.2)
          replace HRD := Lib.hid (HRD.out.below hb); replace HG := Lib.hid (grown_then HG.out (hb.mono HG.out.size))
          clear hb
          refine (pos_any n (.slice pk n.list.length ck) _).mono ?_
          rintro e w3 ⟨rfl, hb⟩
          go_wp2
          have ho : out = .error n.pos := by
            rw [← HOUT.out]
            refine HA.out.bad ?_
            have h1 := HND.out
            rw [HTT.out] at h1 ⊢
            rw [Px.prog]
            case x_3 => simp
            rw [h1]; dsimp only; rw [if_pos HQ1.out]
          subst ho
          exact ⟨rfl, grown_then HG.out (hb.mono HG.out.size), rfl⟩
        · have hqb : ((q : Int) == 100) = false := by simp; omega
          have HQ1 := Lib.hid hq1; clear hq1
          generalize hwd : Px.word n = wd
          have HWD := Lib.hid hwd; clear hwd
          go_wp2_with fail
          have hb : Below w2.heap.size w2 (w2.alloc (.cells #[.int .i64 n.tok.kind, .int .i64 n.tok.pos, .string ⟨n.tok.text.toArray⟩, .int .i64 n.tok.int, .slice pk n.list.length ck, .int .i64 n.takes] 105)) := (Below.refl _ _).alloc (Nat.le_refl _) _
          have EN := Lib.hid (ent_new w2 #[.int .i64 n.tok.kind, .int .i64 n.tok.pos, .string ⟨n.tok.text.toArray⟩, .int .i64 n.tok.int, .slice pk n.list.length ck, .int .i64 n.takes] 105)
          have hgn : w.heap.size + 1 < w2.heap.size := ent_lt EX.out
          replace EX := Lib.hid (ent_below EX.out hb); replace ER := Lib.hid (ent_below ER.out hb)
          replace OD := Lib.hid (own_kept OD.out hb); replace OF := Lib.hid (own_kept OF.out hb)
          replace KD := Lib.hid (And.intro (KD.out.1.mono fun z y h => h.below hb) KD.out.2); replace KF := Lib.hid (And.intro (KF.out.1.mono fun z y h => h.below hb) KF.out.2)
          replace HRD := Lib.hid (HRD.out.below hb); replace HG := Lib.hid (grown_then HG.out (hb.mono HG.out.size))
          replace HK := Lib.hid (HK.out.below hb)
          clear hb
          refine (word_eq (40 - 0) n (.slice pk n.list.length ck) _ wd HK.out HWD.out).mono ?_
          rintro e w3 ⟨rfl, hb⟩
          replace EN := Lib.hid (ent_below EN.out hb)
          replace EX := Lib.hid (ent_below EX.out hb); replace ER := Lib.hid (ent_below ER.out hb)
          replace OD := Lib.hid (own_kept OD.out hb); replace OF := Lib.hid (own_kept OF.out hb)
          replace KD := Lib.hid (And.intro (KD.out.1.mono fun z y h => h.below hb) KD.out.2); replace KF := Lib.hid (And.intro (KF.out.1.mono fun z y h => h.below hb) KF.out.2)
          replace HRD := Lib.hid (HRD.out.below hb); replace HG := Lib.hid (grown_then HG.out (hb.mono HG.out.size))
          replace HK := Lib.hid (HK.out.below hb)
          clear hb
          generalize w2.heap.size = gn at *
          by_cases hwd : wd = [100, 97, 116, 97]
          · subst hwd
            cases hx : Px.data 50 n with
            | error p =>
              go_upto_region 11 with fail
              refine wp_region_held_drew (S := (fun w' => w'.heap[w.heap.size + 1]? = some (.cells #[dv, fv] 27 (0, 0)) ∧ w'.heap[gn]? = some (.cells #[.int .i64 n.tok.kind, .int .i64 n.tok.pos, .string ⟨n.tok.text.toArray⟩, .int .i64 n.tok.int, .slice pk n.list.length ck, .int .i64 n.takes] 105 (0, 0)))) (by kernel_rfl) (⟨EX.out, EN.out⟩) (fun hHeld => ?_)
              refine wpAnyH_take (i := 0) (v := .pointer (some ⟨w.heap.size + 1, 0, none⟩)) rfl (by kernel_rfl) (by kernel_rfl) (by kernel_rfl) (fun _ _ _ h => h) (Or.inl ⟨by rfl, fun w' hSw => by go_simp⟩) hHeld ?_
              refine wpAnyH_take (i := 1) (v := dv) rfl (by kernel_rfl) (by kernel_rfl) (by kernel_rfl) (fun _ _ _ h => h) (Or.inl ⟨by rfl, fun w' hSw => by have h1 := hSw.1; have x0 := ent_cell h1 0 _ rfl; have x1 := ent_cell h1 1 _ rfl; go_simp⟩) hHeld ?_
              refine wpAnyH_take (i := 2) (v := .agg #[.int .i64 n.tok.kind, .int .i64 n.tok.pos, .string ⟨n.tok.text.toArray⟩, .int .i64 n.tok.int, .slice pk n.list.length ck, .int .i64 n.takes]) rfl (by kernel_rfl) (by kernel_rfl) (by kernel_rfl) (fun _ _ _ h => h) (Or.inl ⟨by rfl, fun w' hSw => by have h1 := hSw.2; have q0 := ent_cell h1 0 _ rfl; have q1 := ent_cell h1 1 _ rfl; have q2 := ent_cell h1 2 _ rfl; have q3 := ent_cell h1 3 _ rfl; have q4 := ent_cell h1 4 _ rfl; have q5 := ent_cell h1 5 _ rfl; go_simp⟩) hHeld ?_
              simp only [Act.put, List.setIfInBounds_toArray, List.set_cons_zero, List.set_cons_succ]
              refine wpAnyH_ready (rs := [3]) (by kernel_rfl) (by simp) ?_
              refine AllReadyH.cons rfl (fun K hK => ?_) AllReadyH.nil
              go_simp
              refine (data_any 50 (40 - 0) n (.slice pk n.list.length ck) _ (HK.out.below ((Below.refl _ _).drew)) (by omega)).mono ?_
              intro e wa ht
              obtain ⟨rfl, hb⟩ := toldN_bad ht hx
              have ho : out = .error p := by
                rw [← HOUT.out]
                refine HA.out.bad ?_
                have h1 := HND.out
                rw [HTT.out] at h1 ⊢
                rw [Px.prog]
                case x_3 => simp
                rw [h1]; dsimp only; rw [if_neg HQ1.out, HWD.out, if_pos rfl, hx]
              subst ho
              exact ⟨rfl, grown_then HG.out ((undrew hb).mono HG.out.size), rfl⟩
            | ok x =>
              have HX := Lib.hid hx; clear hx
              go_upto_region 11 with fail
              refine wp_region_any (by kernel_rfl) ?_
              have x0 := ent_cell EX.out 0 _ rfl; have x1 := ent_cell EX.out 1 _ rfl; have xf := ent_free EX.out
              have cf := ent_free EN.out
              have c0 := ent_cell EN.out 0 _ rfl
              have c1 := ent_cell EN.out 1 _ rfl
              have c2 := ent_cell EN.out 2 _ rfl
              have c3 := ent_cell EN.out 3 _ rfl
              have c4 := ent_cell EN.out 4 _ rfl
              have c5 := ent_cell EN.out 5 _ rfl
              refine wpAny_take (i := 0) (v := .pointer (some ⟨w.heap.size + 1, 0, none⟩)) rfl (by kernel_rfl) (by kernel_rfl) (by kernel_rfl) (fun _ _ _ h => h) (Or.inl ⟨by rfl, fun w' => by go_simp⟩) ?_
              simp only [Act.put, List.setIfInBounds_toArray, List.set_cons_zero, List.set_cons_succ]
              refine wpAny_ready (rs := [1, 2]) (by kernel_rfl) (by simp) ?_
              refine AllReady.cons rfl (fun K hK => ?_) (AllReady.cons rfl (fun K hK => ?_) AllReady.nil)
              · go_simp
                refine hK _ _ ?_
                clear hK K
                refine wpAny_ready (rs := [2]) (by kernel_rfl) (by simp) ?_
                refine AllReady.cons rfl (fun K hK => ?_) AllReady.nil
                go_simp
                refine hK _ _ ?_
                clear hK K
                refine wpAny_ready (rs := [3]) (by kernel_rfl) (by simp) ?_
                refine AllReady.cons rfl (fun K hK => ?_) AllReady.nil
                go_simp
                refine (data_any 50 (40 - 0) n (.slice pk n.list.length ck) _ (HK.out.below ((Below.refl _ _).drew)) (by omega)).mono ?_
                intro e wa ht
                obtain ⟨av, rfl, hnew, hb⟩ := toldN_ok ht HX.out
                obtain ⟨xp, xs, q1, n1, c1, q2, n2, c2, rfl⟩ := dataAt_form 50 _ _ _ hnew.now
                replace hb := undrew hb
                have hnk := hnew.keptS (base := w.heap.size + 2) (S := fun g => dv.ownBlock = some g ∨ fv.ownBlock = some g) (show w.heap.size + 2 ≤ w3.heap.size by have := ent_lt EX.out; omega) (fun g hg => hg.elim (fun h => (OD.out.lt g h).2) (fun h => (OF.out.lt g h).2))
                replace EX := Lib.hid (ent_below EX.out hb); replace ER := Lib.hid (ent_below ER.out hb)
                replace OD := Lib.hid (own_kept OD.out hb); replace OF := Lib.hid (own_kept OF.out hb)
                replace KD := Lib.hid (And.intro (KD.out.1.mono fun z y h => h.below hb) KD.out.2); replace KF := Lib.hid (And.intro (KF.out.1.mono fun z y h => h.below hb) KF.out.2)
                replace HRD := Lib.hid (HRD.out.below hb); replace HG := Lib.hid (grown_then HG.out (hb.mono HG.out.size))
                replace KD := Lib.hid (And.intro (Reps.snoc hnk KD.out.1) (fun u hu => (List.mem_append.1 hu).elim (fun h => KD.out.2 u h) (fun h => by rw [List.mem_singleton.1 h]; rfl)) : _ ∧ ∀ u ∈ vsd ++ [.agg #[.int .i64 xp, .string xs, .slice q1 n1 c1, .slice q2 n2 c2]], ShapeData u)
                clear hnk hnew ht hb
                refine hK _ _ ?_
                clear hK K
                refine wpAny_ready (rs := [4]) (by kernel_rfl) (by simp) ?_
                refine AllReady.cons rfl (fun K hK => ?_) AllReady.nil
                go_simp
                have hb : Below wa.heap.size wa (wa.alloc (.cells #[.int .i64 xp, .string xs, .slice q1 n1 c1, .slice q2 n2 c2] 36)) := (Below.refl _ _).alloc (Nat.le_refl _) _
                replace EX := Lib.hid (ent_below EX.out hb); replace ER := Lib.hid (ent_below ER.out hb)
                replace OD := Lib.hid (own_kept OD.out hb); replace OF := Lib.hid (own_kept OF.out hb)
                replace KD := Lib.hid (And.intro (KD.out.1.mono fun z y h => h.below hb) KD.out.2); replace KF := Lib.hid (And.intro (KF.out.1.mono fun z y h => h.below hb) KF.out.2)
                replace HRD := Lib.hid (HRD.out.below hb); replace HG := Lib.hid (grown_then HG.out (hb.mono HG.out.size))
                clear hb
                refine hK _ _ ?_
                clear hK K
                refine wpAny_ready (rs := [5]) (by kernel_rfl) (by simp) ?_
                refine AllReady.cons rfl (fun K hK => ?_) AllReady.nil
                refine step_append_loc rfl (.tmp 27) (.tmp 30) 24 rfl (w.heap.size + 2) 36 i0 (.agg #[.int .i64 0, .string ⟨#[]⟩, .slice none 0 0, .slice none 0 0]) 4 72 Tryz.underlying24 I0.out I00.out I01.out I02.out rfl (by decide) dv ds.length _ rfl OD.out ⟨wa.heap.size, 0, none⟩ 1 1 [.int .i64 xp, .string xs, .slice q1 n1 c1, .slice q2 n2 c2] rfl (by decide) rfl (fun jx u h => newData wa (.int .i64 xp) (.string xs) (.slice q1 n1 c1) (.slice q2 n2 c2) _ jx u h) (by intro u hu; simp only [List.mem_cons, List.not_mem_nil, or_false] at hu; rcases hu with rfl | rfl | rfl | rfl <;> rfl) (by have := HLEN.out; unfold maxLen; omega) (by have := HLEN.out; omega) (by have := ent_lt EX.out; omega) ?_
                intro vn wb hown hgr hloc
                obtain ⟨np, nc, rfl⟩ := own_slice hown
                have hlow : ∀ b, b ≤ w.heap.size + 1 → wb.heap[b]? = (wa.alloc (.cells #[.int .i64 xp, .string xs, .slice q1 n1 c1, .slice q2 n2 c2] 36)).heap[b]? := fun b hb1 => hgr.block b (by have := ent_lt EX.out; omega) (fun e => by have := (OD.out.lt b e.symm).1; omega)
                have hbl : Below w.heap.size (wa.alloc (.cells #[.int .i64 xp, .string xs, .slice q1 n1 c1, .slice q2 n2 c2] 36)) wb := (Below.refl _ _).grown hgr HG.out.size (fun kk hk => by have := (OD.out.lt kk hk).1; omega)
                replace EX := Lib.hid ((hlow _ (Nat.le_refl _)).trans EX.out); replace ER := Lib.hid ((hlow _ (by omega)).trans ER.out)
                replace OF := Lib.hid (own_stays OF.out fun b hb => hgr.block b (OF.out.lt b hb).2 (fun e => own_type_ne OD.out OF.out (by decide) b e.symm hb))
                replace KD := Lib.hid (And.intro (KD.out.1.mono fun z y h => h.step (S' := (fun g => (Value.slice np (ds.length + 1) nc).ownBlock = some g ∨ fv.ownBlock = some g)) hgr.size (fun b hb1 _ hb3 => hgr.block b hb1 (fun e => hb3 (.inl e.symm))) (fun g hg => hg.elim (fun h => hloc.elim (fun e => .inl (.inl (e ▸ h))) (fun e => .inr (e g h))) (fun h => .inl (.inr h)))) KD.out.2)
                replace KF := Lib.hid (And.intro (KF.out.1.mono fun z y h => h.step (S' := (fun g => (Value.slice np (ds.length + 1) nc).ownBlock = some g ∨ fv.ownBlock = some g)) hgr.size (fun b hb1 _ hb3 => hgr.block b hb1 (fun e => hb3 (.inl e.symm))) (fun g hg => hg.elim (fun h => hloc.elim (fun e => .inl (.inl (e ▸ h))) (fun e => .inr (e g h))) (fun h => .inl (.inr h)))) KF.out.2)
                replace HG := Lib.hid (grown_then HG.out hbl)
                replace HRD := Lib.hid (H.out.moved HG.out ((hlow r (by omega)).trans HRD.out.obj) HRD.out.le)
                rw [← cells4] at hown
                replace OD := Lib.hid hown
                clear hgr hloc hlow hown hbl
                refine hK _ _ ?_
                clear hK K
                simp only [Act.put, List.setIfInBounds_toArray, List.set_cons_zero, List.set_cons_succ]
                refine wpAny_take (i := 6) (v := .pointer (some ⟨w.heap.size + 1, 0, none⟩)) rfl (by kernel_rfl) (by kernel_rfl) (by kernel_rfl) (fun _ _ _ h => h) (Or.inl ⟨by rfl, fun w' => by go_simp⟩) ?_
                simp only [Act.put, List.setIfInBounds_toArray, List.set_cons_zero, List.set_cons_succ]
                have x0 := ent_cell EX.out 0 _ rfl; have x1 := ent_cell EX.out 1 _ rfl; have xf := ent_free EX.out
                refine wpAny_ready (rs := [7]) (by kernel_rfl) (by simp) ?_
                refine AllReady.cons rfl (fun K hK => ?_) AllReady.nil
                go_simp
                clear x0 x1 xf
                have hst : ∀ b, b ≠ w.heap.size + 1 → (wb.setCell ⟨w.heap.size + 1, 0, none⟩ (.slice np (ds.length + 1) nc)).heap[b]? = wb.heap[b]? := fun b hb => Below.heap_setCell wb ⟨w.heap.size + 1, 0, none⟩ _ b hb
                have hbl : Below w.heap.size wb (wb.setCell ⟨w.heap.size + 1, 0, none⟩ (.slice np (ds.length + 1) nc)) := (Below.refl _ _).setCell (by dsimp only; omega) _
                replace EX := Lib.hid (ent_set EX.out 0 (.slice np (ds.length + 1) nc)); replace ER := Lib.hid ((hst _ (by omega)).trans ER.out)
                replace OD := Lib.hid (own_stays OD.out fun b hb => hst b (by have := (OD.out.lt b hb).1; omega)); replace OF := Lib.hid (own_stays OF.out fun b hb => hst b (by have := (OF.out.lt b hb).1; omega))
                replace KD := Lib.hid (And.intro (KD.out.1.mono fun z y h => h.step (by simp) (fun b _ hb2 _ => hst b (by omega)) (fun g hg => .inl hg)) KD.out.2)
                replace KF := Lib.hid (And.intro (KF.out.1.mono fun z y h => h.step (by simp) (fun b _ hb2 _ => hst b (by omega)) (fun g hg => .inl hg)) KF.out.2)
                replace HG := Lib.hid (grown_then HG.out hbl)
                replace HRD := Lib.hid (H.out.moved HG.out ((hst r (by omega)).trans HRD.out.obj) HRD.out.le)
                clear hst hbl
                refine hK _ _ ?_
                clear hK K
                refine wpAny_done (by kernel_rfl) ?_ _
                have hah := HA.out
                rw [HTT.out] at hah
                have hnd0 := HND.out
                rw [HTT.out] at hnd0
                have HNX := Lib.hid (hah.data hnd0 HQ1.out HWD.out HX.out)
                have hm := Lib.hid HRD.out.cells.2.1
                have hjle := HRD.out.le
                clear hah hnd0
                go_wp2_with fail
                go_roundw
                case rel => exact ⟨q + 1, j2, F, _, _, vsd ++ [.agg #[.int .i64 xp, .string xs, .slice q1 n1 c1, .slice q2 n2 c2]], vsf, ds ++ [x], fs, by go_num, by have := HQ1.out; omega, HRD, by have := HJ2.out; omega, HNX, by have := HLEN.out; simp; omega, EX, ER, by rw [List.length_append]; exact OD, OF, KD, KF, HG⟩
                case measure => rw [hm.out, hat0.out]; have := HJ2.out; simp [intOf]; omega
              · go_simp
                refine hK _ _ ?_
                clear hK K
                refine wpAny_ready (rs := [1, 3]) (by kernel_rfl) (by simp) ?_
                refine AllReady.cons rfl (fun K hK => ?_) (AllReady.cons rfl (fun K hK => ?_) AllReady.nil)
                · go_simp
                  refine hK _ _ ?_
                  clear hK K
                  refine wpAny_ready (rs := [3]) (by kernel_rfl) (by simp) ?_
                  refine AllReady.cons rfl (fun K hK => ?_) AllReady.nil
                  go_simp
                  refine (data_any 50 (40 - 0) n (.slice pk n.list.length ck) _ (HK.out.below ((Below.refl _ _).drew)) (by omega)).mono ?_
                  intro e wa ht
                  obtain ⟨av, rfl, hnew, hb⟩ := toldN_ok ht HX.out
                  obtain ⟨xp, xs, q1, n1, c1, q2, n2, c2, rfl⟩ := dataAt_form 50 _ _ _ hnew.now
                  replace hb := undrew hb
                  have hnk := hnew.keptS (base := w.heap.size + 2) (S := fun g => dv.ownBlock = some g ∨ fv.ownBlock = some g) (show w.heap.size + 2 ≤ w3.heap.size by have := ent_lt EX.out; omega) (fun g hg => hg.elim (fun h => (OD.out.lt g h).2) (fun h => (OF.out.lt g h).2))
                  replace EX := Lib.hid (ent_below EX.out hb); replace ER := Lib.hid (ent_below ER.out hb)
                  replace OD := Lib.hid (own_kept OD.out hb); replace OF := Lib.hid (own_kept OF.out hb)
                  replace KD := Lib.hid (And.intro (KD.out.1.mono fun z y h => h.below hb) KD.out.2); replace KF := Lib.hid (And.intro (KF.out.1.mono fun z y h => h.below hb) KF.out.2)
                  replace HRD := Lib.hid (HRD.out.below hb); replace HG := Lib.hid (grown_then HG.out (hb.mono HG.out.size))
                  replace KD := Lib.hid (And.intro (Reps.snoc hnk KD.out.1) (fun u hu => (List.mem_append.1 hu).elim (fun h => KD.out.2 u h) (fun h => by rw [List.mem_singleton.1 h]; rfl)) : _ ∧ ∀ u ∈ vsd ++ [.agg #[.int .i64 xp, .string xs, .slice q1 n1 c1, .slice q2 n2 c2]], ShapeData u)
                  clear hnk hnew ht hb
                  refine hK _ _ ?_
                  clear hK K
                  refine wpAny_ready (rs := [4]) (by kernel_rfl) (by simp) ?_
                  refine AllReady.cons rfl (fun K hK => ?_) AllReady.nil
                  go_simp
                  have hb : Below wa.heap.size wa (wa.alloc (.cells #[.int .i64 xp, .string xs, .slice q1 n1 c1, .slice q2 n2 c2] 36)) := (Below.refl _ _).alloc (Nat.le_refl _) _
                  replace EX := Lib.hid (ent_below EX.out hb); replace ER := Lib.hid (ent_below ER.out hb)
                  replace OD := Lib.hid (own_kept OD.out hb); replace OF := Lib.hid (own_kept OF.out hb)
                  replace KD := Lib.hid (And.intro (KD.out.1.mono fun z y h => h.below hb) KD.out.2); replace KF := Lib.hid (And.intro (KF.out.1.mono fun z y h => h.below hb) KF.out.2)
                  replace HRD := Lib.hid (HRD.out.below hb); replace HG := Lib.hid (grown_then HG.out (hb.mono HG.out.size))
                  clear hb
                  refine hK _ _ ?_
                  clear hK K
                  refine wpAny_ready (rs := [5]) (by kernel_rfl) (by simp) ?_
                  refine AllReady.cons rfl (fun K hK => ?_) AllReady.nil
                  refine step_append_loc rfl (.tmp 27) (.tmp 30) 24 rfl (w.heap.size + 2) 36 i0 (.agg #[.int .i64 0, .string ⟨#[]⟩, .slice none 0 0, .slice none 0 0]) 4 72 Tryz.underlying24 I0.out I00.out I01.out I02.out rfl (by decide) dv ds.length _ rfl OD.out ⟨wa.heap.size, 0, none⟩ 1 1 [.int .i64 xp, .string xs, .slice q1 n1 c1, .slice q2 n2 c2] rfl (by decide) rfl (fun jx u h => newData wa (.int .i64 xp) (.string xs) (.slice q1 n1 c1) (.slice q2 n2 c2) _ jx u h) (by intro u hu; simp only [List.mem_cons, List.not_mem_nil, or_false] at hu; rcases hu with rfl | rfl | rfl | rfl <;> rfl) (by have := HLEN.out; unfold maxLen; omega) (by have := HLEN.out; omega) (by have := ent_lt EX.out; omega) ?_
                  intro vn wb hown hgr hloc
                  obtain ⟨np, nc, rfl⟩ := own_slice hown
                  have hlow : ∀ b, b ≤ w.heap.size + 1 → wb.heap[b]? = (wa.alloc (.cells #[.int .i64 xp, .string xs, .slice q1 n1 c1, .slice q2 n2 c2] 36)).heap[b]? := fun b hb1 => hgr.block b (by have := ent_lt EX.out; omega) (fun e => by have := (OD.out.lt b e.symm).1; omega)
                  have hbl : Below w.heap.size (wa.alloc (.cells #[.int .i64 xp, .string xs, .slice q1 n1 c1, .slice q2 n2 c2] 36)) wb := (Below.refl _ _).grown hgr HG.out.size (fun kk hk => by have := (OD.out.lt kk hk).1; omega)
                  replace EX := Lib.hid ((hlow _ (Nat.le_refl _)).trans EX.out); replace ER := Lib.hid ((hlow _ (by omega)).trans ER.out)
                  replace OF := Lib.hid (own_stays OF.out fun b hb => hgr.block b (OF.out.lt b hb).2 (fun e => own_type_ne OD.out OF.out (by decide) b e.symm hb))
                  replace KD := Lib.hid (And.intro (KD.out.1.mono fun z y h => h.step (S' := (fun g => (Value.slice np (ds.length + 1) nc).ownBlock = some g ∨ fv.ownBlock = some g)) hgr.size (fun b hb1 _ hb3 => hgr.block b hb1 (fun e => hb3 (.inl e.symm))) (fun g hg => hg.elim (fun h => hloc.elim (fun e => .inl (.inl (e ▸ h))) (fun e => .inr (e g h))) (fun h => .inl (.inr h)))) KD.out.2)
                  replace KF := Lib.hid (And.intro (KF.out.1.mono fun z y h => h.step (S' := (fun g => (Value.slice np (ds.length + 1) nc).ownBlock = some g ∨ fv.ownBlock = some g)) hgr.size (fun b hb1 _ hb3 => hgr.block b hb1 (fun e => hb3 (.inl e.symm))) (fun g hg => hg.elim (fun h => hloc.elim (fun e => .inl (.inl (e ▸ h))) (fun e => .inr (e g h))) (fun h => .inl (.inr h)))) KF.out.2)
                  replace HG := Lib.hid (grown_then HG.out hbl)
                  replace HRD := Lib.hid (H.out.moved HG.out ((hlow r (by omega)).trans HRD.out.obj) HRD.out.le)
                  rw [← cells4] at hown
                  replace OD := Lib.hid hown
                  clear hgr hloc hlow hown hbl
                  refine hK _ _ ?_
                  clear hK K
                  simp only [Act.put, List.setIfInBounds_toArray, List.set_cons_zero, List.set_cons_succ]
                  refine wpAny_take (i := 6) (v := .pointer (some ⟨w.heap.size + 1, 0, none⟩)) rfl (by kernel_rfl) (by kernel_rfl) (by kernel_rfl) (fun _ _ _ h => h) (Or.inl ⟨by rfl, fun w' => by go_simp⟩) ?_
                  simp only [Act.put, List.setIfInBounds_toArray, List.set_cons_zero, List.set_cons_succ]
                  have x0 := ent_cell EX.out 0 _ rfl; have x1 := ent_cell EX.out 1 _ rfl; have xf := ent_free EX.out
                  refine wpAny_ready (rs := [7]) (by kernel_rfl) (by simp) ?_
                  refine AllReady.cons rfl (fun K hK => ?_) AllReady.nil
                  go_simp
                  clear x0 x1 xf
                  have hst : ∀ b, b ≠ w.heap.size + 1 → (wb.setCell ⟨w.heap.size + 1, 0, none⟩ (.slice np (ds.length + 1) nc)).heap[b]? = wb.heap[b]? := fun b hb => Below.heap_setCell wb ⟨w.heap.size + 1, 0, none⟩ _ b hb
                  have hbl : Below w.heap.size wb (wb.setCell ⟨w.heap.size + 1, 0, none⟩ (.slice np (ds.length + 1) nc)) := (Below.refl _ _).setCell (by dsimp only; omega) _
                  replace EX := Lib.hid (ent_set EX.out 0 (.slice np (ds.length + 1) nc)); replace ER := Lib.hid ((hst _ (by omega)).trans ER.out)
                  replace OD := Lib.hid (own_stays OD.out fun b hb => hst b (by have := (OD.out.lt b hb).1; omega)); replace OF := Lib.hid (own_stays OF.out fun b hb => hst b (by have := (OF.out.lt b hb).1; omega))
                  replace KD := Lib.hid (And.intro (KD.out.1.mono fun z y h => h.step (by simp) (fun b _ hb2 _ => hst b (by omega)) (fun g hg => .inl hg)) KD.out.2)
                  replace KF := Lib.hid (And.intro (KF.out.1.mono fun z y h => h.step (by simp) (fun b _ hb2 _ => hst b (by omega)) (fun g hg => .inl hg)) KF.out.2)
                  replace HG := Lib.hid (grown_then HG.out hbl)
                  replace HRD := Lib.hid (H.out.moved HG.out ((hst r (by omega)).trans HRD.out.obj) HRD.out.le)
                  clear hst hbl
                  refine hK _ _ ?_
                  clear hK K
                  refine wpAny_done (by kernel_rfl) ?_ _
                  have hah := HA.out
                  rw [HTT.out] at hah
                  have hnd0 := HND.out
                  rw [HTT.out] at hnd0
                  have HNX := Lib.hid (hah.data hnd0 HQ1.out HWD.out HX.out)
                  have hm := Lib.hid HRD.out.cells.2.1
                  have hjle := HRD.out.le
                  clear hah hnd0
                  go_wp2_with fail
                  go_roundw
                  case rel => exact ⟨q + 1, j2, F, _, _, vsd ++ [.agg #[.int .i64 xp, .string xs, .slice q1 n1 c1, .slice q2 n2 c2]], vsf, ds ++ [x], fs, by go_num, by have := HQ1.out; omega, HRD, by have := HJ2.out; omega, HNX, by have := HLEN.out; simp; omega, EX, ER, by rw [List.length_append]; exact OD, OF, KD, KF, HG⟩
                  case measure => rw [hm.out, hat0.out]; have := HJ2.out; simp [intOf]; omega
                · go_simp
                  refine (data_any 50 (40 - 0) n (.slice pk n.list.length ck) _ (HK.out.below ((Below.refl _ _).drew)) (by omega)).mono ?_
                  intro e wa ht
                  obtain ⟨av, rfl, hnew, hb⟩ := toldN_ok ht HX.out
                  obtain ⟨xp, xs, q1, n1, c1, q2, n2, c2, rfl⟩ := dataAt_form 50 _ _ _ hnew.now
                  replace hb := undrew hb
                  have hnk := hnew.keptS (base := w.heap.size + 2) (S := fun g => dv.ownBlock = some g ∨ fv.ownBlock = some g) (show w.heap.size + 2 ≤ w3.heap.size by have := ent_lt EX.out; omega) (fun g hg => hg.elim (fun h => (OD.out.lt g h).2) (fun h => (OF.out.lt g h).2))
                  replace EX := Lib.hid (ent_below EX.out hb); replace ER := Lib.hid (ent_below ER.out hb)
                  replace OD := Lib.hid (own_kept OD.out hb); replace OF := Lib.hid (own_kept OF.out hb)
                  replace KD := Lib.hid (And.intro (KD.out.1.mono fun z y h => h.below hb) KD.out.2); replace KF := Lib.hid (And.intro (KF.out.1.mono fun z y h => h.below hb) KF.out.2)
                  replace HRD := Lib.hid (HRD.out.below hb); replace HG := Lib.hid (grown_then HG.out (hb.mono HG.out.size))
                  replace KD := Lib.hid (And.intro (Reps.snoc hnk KD.out.1) (fun u hu => (List.mem_append.1 hu).elim (fun h => KD.out.2 u h) (fun h => by rw [List.mem_singleton.1 h]; rfl)) : _ ∧ ∀ u ∈ vsd ++ [.agg #[.int .i64 xp, .string xs, .slice q1 n1 c1, .slice q2 n2 c2]], ShapeData u)
                  clear hnk hnew ht hb
                  refine hK _ _ ?_
                  clear hK K
                  have x0 := ent_cell EX.out 0 _ rfl; have x1 := ent_cell EX.out 1 _ rfl; have xf := ent_free EX.out
                  refine wpAny_ready (rs := [1, 4]) (by kernel_rfl) (by simp) ?_
                  refine AllReady.cons rfl (fun K hK => ?_) (AllReady.cons rfl (fun K hK => ?_) AllReady.nil)
                  · go_simp
                    refine hK _ _ ?_
                    clear hK K
                    refine wpAny_ready (rs := [4]) (by kernel_rfl) (by simp) ?_
                    refine AllReady.cons rfl (fun K hK => ?_) AllReady.nil
                    go_simp
                    have hb : Below wa.heap.size wa (wa.alloc (.cells #[.int .i64 xp, .string xs, .slice q1 n1 c1, .slice q2 n2 c2] 36)) := (Below.refl _ _).alloc (Nat.le_refl _) _
                    replace EX := Lib.hid (ent_below EX.out hb); replace ER := Lib.hid (ent_below ER.out hb)
                    replace OD := Lib.hid (own_kept OD.out hb); replace OF := Lib.hid (own_kept OF.out hb)
                    replace KD := Lib.hid (And.intro (KD.out.1.mono fun z y h => h.below hb) KD.out.2); replace KF := Lib.hid (And.intro (KF.out.1.mono fun z y h => h.below hb) KF.out.2)
                    replace HRD := Lib.hid (HRD.out.below hb); replace HG := Lib.hid (grown_then HG.out (hb.mono HG.out.size))
                    clear hb
                    refine hK _ _ ?_
                    clear hK K
                    refine wpAny_ready (rs := [5]) (by kernel_rfl) (by simp) ?_
                    refine AllReady.cons rfl (fun K hK => ?_) AllReady.nil
                    refine step_append_loc rfl (.tmp 27) (.tmp 30) 24 rfl (w.heap.size + 2) 36 i0 (.agg #[.int .i64 0, .string ⟨#[]⟩, .slice none 0 0, .slice none 0 0]) 4 72 Tryz.underlying24 I0.out I00.out I01.out I02.out rfl (by decide) dv ds.length _ rfl OD.out ⟨wa.heap.size, 0, none⟩ 1 1 [.int .i64 xp, .string xs, .slice q1 n1 c1, .slice q2 n2 c2] rfl (by decide) rfl (fun jx u h => newData wa (.int .i64 xp) (.string xs) (.slice q1 n1 c1) (.slice q2 n2 c2) _ jx u h) (by intro u hu; simp only [List.mem_cons, List.not_mem_nil, or_false] at hu; rcases hu with rfl | rfl | rfl | rfl <;> rfl) (by have := HLEN.out; unfold maxLen; omega) (by have := HLEN.out; omega) (by have := ent_lt EX.out; omega) ?_
                    intro vn wb hown hgr hloc
                    obtain ⟨np, nc, rfl⟩ := own_slice hown
                    have hlow : ∀ b, b ≤ w.heap.size + 1 → wb.heap[b]? = (wa.alloc (.cells #[.int .i64 xp, .string xs, .slice q1 n1 c1, .slice q2 n2 c2] 36)).heap[b]? := fun b hb1 => hgr.block b (by have := ent_lt EX.out; omega) (fun e => by have := (OD.out.lt b e.symm).1; omega)
                    have hbl : Below w.heap.size (wa.alloc (.cells #[.int .i64 xp, .string xs, .slice q1 n1 c1, .slice q2 n2 c2] 36)) wb := (Below.refl _ _).grown hgr HG.out.size (fun kk hk => by have := (OD.out.lt kk hk).1; omega)
                    replace EX := Lib.hid ((hlow _ (Nat.le_refl _)).trans EX.out); replace ER := Lib.hid ((hlow _ (by omega)).trans ER.out)
                    replace OF := Lib.hid (own_stays OF.out fun b hb => hgr.block b (OF.out.lt b hb).2 (fun e => own_type_ne OD.out OF.out (by decide) b e.symm hb))
                    replace KD := Lib.hid (And.intro (KD.out.1.mono fun z y h => h.step (S' := (fun g => (Value.slice np (ds.length + 1) nc).ownBlock = some g ∨ fv.ownBlock = some g)) hgr.size (fun b hb1 _ hb3 => hgr.block b hb1 (fun e => hb3 (.inl e.symm))) (fun g hg => hg.elim (fun h => hloc.elim (fun e => .inl (.inl (e ▸ h))) (fun e => .inr (e g h))) (fun h => .inl (.inr h)))) KD.out.2)
                    replace KF := Lib.hid (And.intro (KF.out.1.mono fun z y h => h.step (S' := (fun g => (Value.slice np (ds.length + 1) nc).ownBlock = some g ∨ fv.ownBlock = some g)) hgr.size (fun b hb1 _ hb3 => hgr.block b hb1 (fun e => hb3 (.inl e.symm))) (fun g hg => hg.elim (fun h => hloc.elim (fun e => .inl (.inl (e ▸ h))) (fun e => .inr (e g h))) (fun h => .inl (.inr h)))) KF.out.2)
                    replace HG := Lib.hid (grown_then HG.out hbl)
                    replace HRD := Lib.hid (H.out.moved HG.out ((hlow r (by omega)).trans HRD.out.obj) HRD.out.le)
                    rw [← cells4] at hown
                    replace OD := Lib.hid hown
                    clear hgr hloc hlow hown hbl
                    refine hK _ _ ?_
                    clear hK K
                    simp only [Act.put, List.setIfInBounds_toArray, List.set_cons_zero, List.set_cons_succ]
                    refine wpAny_take (i := 6) (v := .pointer (some ⟨w.heap.size + 1, 0, none⟩)) rfl (by kernel_rfl) (by kernel_rfl) (by kernel_rfl) (fun _ _ _ h => h) (Or.inl ⟨by rfl, fun w' => by go_simp⟩) ?_
                    simp only [Act.put, List.setIfInBounds_toArray, List.set_cons_zero, List.set_cons_succ]
                    have x0 := ent_cell EX.out 0 _ rfl; have x1 := ent_cell EX.out 1 _ rfl; have xf := ent_free EX.out
                    refine wpAny_ready (rs := [7]) (by kernel_rfl) (by simp) ?_
                    refine AllReady.cons rfl (fun K hK => ?_) AllReady.nil
                    go_simp
                    clear x0 x1 xf
                    have hst : ∀ b, b ≠ w.heap.size + 1 → (wb.setCell ⟨w.heap.size + 1, 0, none⟩ (.slice np (ds.length + 1) nc)).heap[b]? = wb.heap[b]? := fun b hb => Below.heap_setCell wb ⟨w.heap.size + 1, 0, none⟩ _ b hb
                    have hbl : Below w.heap.size wb (wb.setCell ⟨w.heap.size + 1, 0, none⟩ (.slice np (ds.length + 1) nc)) := (Below.refl _ _).setCell (by dsimp only; omega) _
                    replace EX := Lib.hid (ent_set EX.out 0 (.slice np (ds.length + 1) nc)); replace ER := Lib.hid ((hst _ (by omega)).trans ER.out)
                    replace OD := Lib.hid (own_stays OD.out fun b hb => hst b (by have := (OD.out.lt b hb).1; omega)); replace OF := Lib.hid (own_stays OF.out fun b hb => hst b (by have := (OF.out.lt b hb).1; omega))
                    replace KD := Lib.hid (And.intro (KD.out.1.mono fun z y h => h.step (by simp) (fun b _ hb2 _ => hst b (by omega)) (fun g hg => .inl hg)) KD.out.2)
                    replace KF := Lib.hid (And.intro (KF.out.1.mono fun z y h => h.step (by simp) (fun b _ hb2 _ => hst b (by omega)) (fun g hg => .inl hg)) KF.out.2)
                    replace HG := Lib.hid (grown_then HG.out hbl)
                    replace HRD := Lib.hid (H.out.moved HG.out ((hst r (by omega)).trans HRD.out.obj) HRD.out.le)
                    clear hst hbl
                    refine hK _ _ ?_
                    clear hK K
                    refine wpAny_done (by kernel_rfl) ?_ _
                    have hah := HA.out
                    rw [HTT.out] at hah
                    have hnd0 := HND.out
                    rw [HTT.out] at hnd0
                    have HNX := Lib.hid (hah.data hnd0 HQ1.out HWD.out HX.out)
                    have hm := Lib.hid HRD.out.cells.2.1
                    have hjle := HRD.out.le
                    clear hah hnd0
                    go_wp2_with fail
                    go_roundw
                    case rel => exact ⟨q + 1, j2, F, _, _, vsd ++ [.agg #[.int .i64 xp, .string xs, .slice q1 n1 c1, .slice q2 n2 c2]], vsf, ds ++ [x], fs, by go_num, by have := HQ1.out; omega, HRD, by have := HJ2.out; omega, HNX, by have := HLEN.out; simp; omega, EX, ER, by rw [List.length_append]; exact OD, OF, KD, KF, HG⟩
                    case measure => rw [hm.out, hat0.out]; have := HJ2.out; simp [intOf]; omega
                  · go_simp
                    have hb : Below wa.heap.size wa (wa.alloc (.cells #[.int .i64 xp, .string xs, .slice q1 n1 c1, .slice q2 n2 c2] 36)) := (Below.refl _ _).alloc (Nat.le_refl _) _
                    replace EX := Lib.hid (ent_below EX.out hb); replace ER := Lib.hid (ent_below ER.out hb)
                    replace OD := Lib.hid (own_kept OD.out hb); replace OF := Lib.hid (own_kept OF.out hb)
                    replace KD := Lib.hid (And.intro (KD.out.1.mono fun z y h => h.below hb) KD.out.2); replace KF := Lib.hid (And.intro (KF.out.1.mono fun z y h => h.below hb) KF.out.2)
                    replace HRD := Lib.hid (HRD.out.below hb); replace HG := Lib.hid (grown_then HG.out (hb.mono HG.out.size))
                    clear hb
                    refine hK _ _ ?_
                    clear hK K
                    have x0 := ent_cell EX.out 0 _ rfl; have x1 := ent_cell EX.out 1 _ rfl; have xf := ent_free EX.out
                    refine wpAny_ready (rs := [1]) (by kernel_rfl) (by simp) ?_
                    refine AllReady.cons rfl (fun K hK => ?_) AllReady.nil
                    go_simp
                    clear x0 x1 xf
                    refine hK _ _ ?_
                    clear hK K
                    refine wpAny_ready (rs := [5]) (by kernel_rfl) (by simp) ?_
                    refine AllReady.cons rfl (fun K hK => ?_) AllReady.nil
                    refine step_append_loc rfl (.tmp 27) (.tmp 30) 24 rfl (w.heap.size + 2) 36 i0 (.agg #[.int .i64 0, .string ⟨#[]⟩, .slice none 0 0, .slice none 0 0]) 4 72 Tryz.underlying24 I0.out I00.out I01.out I02.out rfl (by decide) dv ds.length _ rfl OD.out ⟨wa.heap.size, 0, none⟩ 1 1 [.int .i64 xp, .string xs, .slice q1 n1 c1, .slice q2 n2 c2] rfl (by decide) rfl (fun jx u h => newData wa (.int .i64 xp) (.string xs) (.slice q1 n1 c1) (.slice q2 n2 c2) _ jx u h) (by intro u hu; simp only [List.mem_cons, List.not_mem_nil, or_false] at hu; rcases hu with rfl | rfl | rfl | rfl <;> rfl) (by have := HLEN.out; unfold maxLen; omega) (by have := HLEN.out; omega) (by have := ent_lt EX.out; omega) ?_
                    intro vn wb hown hgr hloc
                    obtain ⟨np, nc, rfl⟩ := own_slice hown
                    have hlow : ∀ b, b ≤ w.heap.size + 1 → wb.heap[b]? = (wa.alloc (.cells #[.int .i64 xp, .string xs, .slice q1 n1 c1, .slice q2 n2 c2] 36)).heap[b]? := fun b hb1 => hgr.block b (by have := ent_lt EX.out; omega) (fun e => by have := (OD.out.lt b e.symm).1; omega)
                    have hbl : Below w.heap.size (wa.alloc (.cells #[.int .i64 xp, .string xs, .slice q1 n1 c1, .slice q2 n2 c2] 36)) wb := (Below.refl _ _).grown hgr HG.out.size (fun kk hk => by have := (OD.out.lt kk hk).1; omega)
                    replace EX := Lib.hid ((hlow _ (Nat.le_refl _)).trans EX.out); replace ER := Lib.hid ((hlow _ (by omega)).trans ER.out)
                    replace OF := Lib.hid (own_stays OF.out fun b hb => hgr.block b (OF.out.lt b hb).2 (fun e => own_type_ne OD.out OF.out (by decide) b e.symm hb))
                    replace KD := Lib.hid (And.intro (KD.out.1.mono fun z y h => h.step (S' := (fun g => (Value.slice np (ds.length + 1) nc).ownBlock = some g ∨ fv.ownBlock = some g)) hgr.size (fun b hb1 _ hb3 => hgr.block b hb1 (fun e => hb3 (.inl e.symm))) (fun g hg => hg.elim (fun h => hloc.elim (fun e => .inl (.inl (e ▸ h))) (fun e => .inr (e g h))) (fun h => .inl (.inr h)))) KD.out.2)
                    replace KF := Lib.hid (And.intro (KF.out.1.mono fun z y h => h.step (S' := (fun g => (Value.slice np (ds.length + 1) nc).ownBlock = some g ∨ fv.ownBlock = some g)) hgr.size (fun b hb1 _ hb3 => hgr.block b hb1 (fun e => hb3 (.inl e.symm))) (fun g hg => hg.elim (fun h => hloc.elim (fun e => .inl (.inl (e ▸ h))) (fun e => .inr (e g h))) (fun h => .inl (.inr h)))) KF.out.2)
                    replace HG := Lib.hid (grown_then HG.out hbl)
                    replace HRD := Lib.hid (H.out.moved HG.out ((hlow r (by omega)).trans HRD.out.obj) HRD.out.le)
                    rw [← cells4] at hown
                    replace OD := Lib.hid hown
                    clear hgr hloc hlow hown hbl
                    refine hK _ _ ?_
                    clear hK K
                    simp only [Act.put, List.setIfInBounds_toArray, List.set_cons_zero, List.set_cons_succ]
                    refine wpAny_take (i := 6) (v := .pointer (some ⟨w.heap.size + 1, 0, none⟩)) rfl (by kernel_rfl) (by kernel_rfl) (by kernel_rfl) (fun _ _ _ h => h) (Or.inl ⟨by rfl, fun w' => by go_simp⟩) ?_
                    simp only [Act.put, List.setIfInBounds_toArray, List.set_cons_zero, List.set_cons_succ]
                    have x0 := ent_cell EX.out 0 _ rfl; have x1 := ent_cell EX.out 1 _ rfl; have xf := ent_free EX.out
                    refine wpAny_ready (rs := [7]) (by kernel_rfl) (by simp) ?_
                    refine AllReady.cons rfl (fun K hK => ?_) AllReady.nil
                    go_simp
                    clear x0 x1 xf
                    have hst : ∀ b, b ≠ w.heap.size + 1 → (wb.setCell ⟨w.heap.size + 1, 0, none⟩ (.slice np (ds.length + 1) nc)).heap[b]? = wb.heap[b]? := fun b hb => Below.heap_setCell wb ⟨w.heap.size + 1, 0, none⟩ _ b hb
                    have hbl : Below w.heap.size wb (wb.setCell ⟨w.heap.size + 1, 0, none⟩ (.slice np (ds.length + 1) nc)) := (Below.refl _ _).setCell (by dsimp only; omega) _
                    replace EX := Lib.hid (ent_set EX.out 0 (.slice np (ds.length + 1) nc)); replace ER := Lib.hid ((hst _ (by omega)).trans ER.out)
                    replace OD := Lib.hid (own_stays OD.out fun b hb => hst b (by have := (OD.out.lt b hb).1; omega)); replace OF := Lib.hid (own_stays OF.out fun b hb => hst b (by have := (OF.out.lt b hb).1; omega))
                    replace KD := Lib.hid (And.intro (KD.out.1.mono fun z y h => h.step (by simp) (fun b _ hb2 _ => hst b (by omega)) (fun g hg => .inl hg)) KD.out.2)
                    replace KF := Lib.hid (And.intro (KF.out.1.mono fun z y h => h.step (by simp) (fun b _ hb2 _ => hst b (by omega)) (fun g hg => .inl hg)) KF.out.2)
                    replace HG := Lib.hid (grown_then HG.out hbl)
                    replace HRD := Lib.hid (H.out.moved HG.out ((hst r (by omega)).trans HRD.out.obj) HRD.out.le)
                    clear hst hbl
                    refine hK _ _ ?_
                    clear hK K
                    refine wpAny_done (by kernel_rfl) ?_ _
                    have hah := HA.out
                    rw [HTT.out] at hah
                    have hnd0 := HND.out
                    rw [HTT.out] at hnd0
                    have HNX := Lib.hid (hah.data hnd0 HQ1.out HWD.out HX.out)
                    have hm := Lib.hid HRD.out.cells.2.1
                    have hjle := HRD.out.le
                    clear hah hnd0
                    go_wp2_with fail
                    go_roundw
                    case rel => exact ⟨q + 1, j2, F, _, _, vsd ++ [.agg #[.int .i64 xp, .string xs, .slice q1 n1 c1, .slice q2 n2 c2]], vsf, ds ++ [x], fs, by go_num, by have := HQ1.out; omega, HRD, by have := HJ2.out; omega, HNX, by have := HLEN.out; simp; omega, EX, ER, by rw [List.length_append]; exact OD, OF, KD, KF, HG⟩
                    case measure => rw [hm.out, hat0.out]; have := HJ2.out; simp [intOf]; omega
          · by_cases hwf : wd = [100, 101, 102]
            · subst hwf
              clear hwd
              cases hx : Px.defn 50 n with
              | error p =>
                go_upto_region 13 with fail
                refine wp_region_held_drew (S := (fun w' => w'.heap[w.heap.size + 1]? = some (.cells #[dv, fv] 27 (0, 0)) ∧ w'.heap[gn]? = some (.cells #[.int .i64 n.tok.kind, .int .i64 n.tok.pos, .string ⟨n.tok.text.toArray⟩, .int .i64 n.tok.int, .slice pk n.list.length ck, .int .i64 n.takes] 105 (0, 0)))) (by kernel_rfl) (⟨EX.out, EN.out⟩) (fun hHeld => ?_)
                refine wpAnyH_take (i := 0) (v := .pointer (some ⟨w.heap.size + 1, 1, none⟩)) rfl (by kernel_rfl) (by kernel_rfl) (by kernel_rfl) (fun _ _ _ h => h) (Or.inl ⟨by rfl, fun w' hSw => by go_simp⟩) hHeld ?_
                refine wpAnyH_take (i := 1) (v := fv) rfl (by kernel_rfl) (by kernel_rfl) (by kernel_rfl) (fun _ _ _ h => h) (Or.inl ⟨by rfl, fun w' hSw => by have h1 := hSw.1; have x0 := ent_cell h1 0 _ rfl; have x1 := ent_cell h1 1 _ rfl; go_simp⟩) hHeld ?_
                refine wpAnyH_take (i := 2) (v := .agg #[.int .i64 n.tok.kind, .int .i64 n.tok.pos, .string ⟨n.tok.text.toArray⟩, .int .i64 n.tok.int, .slice pk n.list.length ck, .int .i64 n.takes]) rfl (by kernel_rfl) (by kernel_rfl) (by kernel_rfl) (fun _ _ _ h => h) (Or.inl ⟨by rfl, fun w' hSw => by have h1 := hSw.2; have q0 := ent_cell h1 0 _ rfl; have q1 := ent_cell h1 1 _ rfl; have q2 := ent_cell h1 2 _ rfl; have q3 := ent_cell h1 3 _ rfl; have q4 := ent_cell h1 4 _ rfl; have q5 := ent_cell h1 5 _ rfl; go_simp⟩) hHeld ?_
                simp only [Act.put, List.setIfInBounds_toArray, List.set_cons_zero, List.set_cons_succ]
                refine wpAnyH_ready (rs := [3]) (by kernel_rfl) (by simp) ?_
                refine AllReadyH.cons rfl (fun K hK => ?_) AllReadyH.nil
                go_simp
                refine (def_any 50 (40 - 0) n (.slice pk n.list.length ck) _ (HK.out.below ((Below.refl _ _).drew)) (fun a b i u h hi => expr_any 50 a b i u h (by omega))).mono ?_
                intro e wa ht
                obtain ⟨rfl, hb⟩ := toldN_bad ht hx
                have ho : out = .error p := by
                  rw [← HOUT.out]
                  refine HA.out.bad ?_
                  have h1 := HND.out
                  rw [HTT.out] at h1 ⊢
                  rw [Px.prog]
                  case x_3 => simp
                  rw [h1]; dsimp only; rw [if_neg HQ1.out, HWD.out, if_neg (by decide), if_pos rfl, hx]
                subst ho
                exact ⟨rfl, grown_then HG.out ((undrew hb).mono HG.out.size), rfl⟩
              | ok x =>
                have HX := Lib.hid hx; clear hx
                go_upto_region 13 with fail
                refine wp_region_any (by kernel_rfl) ?_
                have x0 := ent_cell EX.out 0 _ rfl; have x1 := ent_cell EX.out 1 _ rfl; have xf := ent_free EX.out
                have cf := ent_free EN.out
                have c0 := ent_cell EN.out 0 _ rfl
                have c1 := ent_cell EN.out 1 _ rfl
                have c2 := ent_cell EN.out 2 _ rfl
                have c3 := ent_cell EN.out 3 _ rfl
                have c4 := ent_cell EN.out 4 _ rfl
                have c5 := ent_cell EN.out 5 _ rfl
                refine wpAny_take (i := 0) (v := .pointer (some ⟨w.heap.size + 1, 1, none⟩)) rfl (by kernel_rfl) (by kernel_rfl) (by kernel_rfl) (fun _ _ _ h => h) (Or.inl ⟨by rfl, fun w' => by go_simp⟩) ?_
                simp only [Act.put, List.setIfInBounds_toArray, List.set_cons_zero, List.set_cons_succ]
                refine wpAny_ready (rs := [1, 2]) (by kernel_rfl) (by simp) ?_
                refine AllReady.cons rfl (fun K hK => ?_) (AllReady.cons rfl (fun K hK => ?_) AllReady.nil)
                · go_simp
                  refine hK _ _ ?_
                  clear hK K
                  refine wpAny_ready (rs := [2]) (by kernel_rfl) (by simp) ?_
                  refine AllReady.cons rfl (fun K hK => ?_) AllReady.nil
                  go_simp
                  refine hK _ _ ?_
                  clear hK K
                  refine wpAny_ready (rs := [3]) (by kernel_rfl) (by simp) ?_
                  refine AllReady.cons rfl (fun K hK => ?_) AllReady.nil
                  go_simp
                  refine (def_any 50 (40 - 0) n (.slice pk n.list.length ck) _ (HK.out.below ((Below.refl _ _).drew)) (fun a b i u h hi => expr_any 50 a b i u h (by omega))).mono ?_
                  intro e wa ht
                  obtain ⟨av, rfl, hnew, hb⟩ := toldN_ok ht HX.out
                  obtain ⟨xp, xs, q0, n0, c0_, xk, xq, xi, xt, q1, n1, c1, q2, n2, c2, q3, n3, c3, rfl⟩ := defAt_form 50 _ _ _ hnew.now
                  replace hb := undrew hb
                  have hnk := hnew.keptS (base := w.heap.size + 2) (S := fun g => dv.ownBlock = some g ∨ fv.ownBlock = some g) (show w.heap.size + 2 ≤ w3.heap.size by have := ent_lt EX.out; omega) (fun g hg => hg.elim (fun h => (OD.out.lt g h).2) (fun h => (OF.out.lt g h).2))
                  replace EX := Lib.hid (ent_below EX.out hb); replace ER := Lib.hid (ent_below ER.out hb)
                  replace OD := Lib.hid (own_kept OD.out hb); replace OF := Lib.hid (own_kept OF.out hb)
                  replace KD := Lib.hid (And.intro (KD.out.1.mono fun z y h => h.below hb) KD.out.2); replace KF := Lib.hid (And.intro (KF.out.1.mono fun z y h => h.below hb) KF.out.2)
                  replace HRD := Lib.hid (HRD.out.below hb); replace HG := Lib.hid (grown_then HG.out (hb.mono HG.out.size))
                  replace KF := Lib.hid (And.intro (Reps.snoc hnk KF.out.1) (fun u hu => (List.mem_append.1 hu).elim (fun h => KF.out.2 u h) (fun h => by rw [List.mem_singleton.1 h]; rfl)) : _ ∧ ∀ u ∈ vsf ++ [.agg #[.int .i64 xp, .string xs, .slice q0 n0 c0_, .int .i64 xk, .int .i64 xq, .string xt, .int .i64 xi, .slice q1 n1 c1, .slice q2 n2 c2, .slice q3 n3 c3]], ShapeDef u)
                  clear hnk hnew ht hb
                  refine hK _ _ ?_
                  clear hK K
                  refine wpAny_ready (rs := [4]) (by kernel_rfl) (by simp) ?_
                  refine AllReady.cons rfl (fun K hK => ?_) AllReady.nil
                  go_simp
                  have hb : Below wa.heap.size wa (wa.alloc (.cells #[.int .i64 xp, .string xs, .slice q0 n0 c0_, .int .i64 xk, .int .i64 xq, .string xt, .int .i64 xi, .slice q1 n1 c1, .slice q2 n2 c2, .slice q3 n3 c3] 49)) := (Below.refl _ _).alloc (Nat.le_refl _) _
                  replace EX := Lib.hid (ent_below EX.out hb); replace ER := Lib.hid (ent_below ER.out hb)
                  replace OD := Lib.hid (own_kept OD.out hb); replace OF := Lib.hid (own_kept OF.out hb)
                  replace KD := Lib.hid (And.intro (KD.out.1.mono fun z y h => h.below hb) KD.out.2); replace KF := Lib.hid (And.intro (KF.out.1.mono fun z y h => h.below hb) KF.out.2)
                  replace HRD := Lib.hid (HRD.out.below hb); replace HG := Lib.hid (grown_then HG.out (hb.mono HG.out.size))
                  clear hb
                  refine hK _ _ ?_
                  clear hK K
                  refine wpAny_ready (rs := [5]) (by kernel_rfl) (by simp) ?_
                  refine AllReady.cons rfl (fun K hK => ?_) AllReady.nil
                  refine step_append_loc rfl (.tmp 36) (.tmp 39) 25 rfl (w.heap.size + 2) 49 i1 (.agg #[.int .i64 0, .string ⟨#[]⟩, .slice none 0 0, .int .i64 0, .int .i64 0, .string ⟨#[]⟩, .int .i64 0, .slice none 0 0, .slice none 0 0, .slice none 0 0]) 10 160 Tryz.underlying25 I1.out I10.out I11.out I12.out rfl (by decide) fv fs.length _ rfl OF.out ⟨wa.heap.size, 0, none⟩ 1 1 [.int .i64 xp, .string xs, .slice q0 n0 c0_, .int .i64 xk, .int .i64 xq, .string xt, .int .i64 xi, .slice q1 n1 c1, .slice q2 n2 c2, .slice q3 n3 c3] rfl (by decide) rfl (fun jx u h => newDef wa (.int .i64 xp) (.string xs) (.slice q0 n0 c0_) (.int .i64 xk) (.int .i64 xq) (.string xt) (.int .i64 xi) (.slice q1 n1 c1) (.slice q2 n2 c2) (.slice q3 n3 c3) _ jx u h) (by intro u hu; simp only [List.mem_cons, List.not_mem_nil, or_false] at hu; rcases hu with rfl | rfl | rfl | rfl | rfl | rfl | rfl | rfl | rfl | rfl <;> rfl) (by have := HLEN.out; unfold maxLen; omega) (by have := HLEN.out; omega) (by have := ent_lt EX.out; omega) ?_
                  intro vn wb hown hgr hloc
                  obtain ⟨np, nc, rfl⟩ := own_slice hown
                  have hlow : ∀ b, b ≤ w.heap.size + 1 → wb.heap[b]? = (wa.alloc (.cells #[.int .i64 xp, .string xs, .slice q0 n0 c0_, .int .i64 xk, .int .i64 xq, .string xt, .int .i64 xi, .slice q1 n1 c1, .slice q2 n2 c2, .slice q3 n3 c3] 49)).heap[b]? := fun b hb1 => hgr.block b (by have := ent_lt EX.out; omega) (fun e => by have := (OF.out.lt b e.symm).1; omega)
                  have hbl : Below w.heap.size (wa.alloc (.cells #[.int .i64 xp, .string xs, .slice q0 n0 c0_, .int .i64 xk, .int .i64 xq, .string xt, .int .i64 xi, .slice q1 n1 c1, .slice q2 n2 c2, .slice q3 n3 c3] 49)) wb := (Below.refl _ _).grown hgr HG.out.size (fun kk hk => by have := (OF.out.lt kk hk).1; omega)
                  replace EX := Lib.hid ((hlow _ (Nat.le_refl _)).trans EX.out); replace ER := Lib.hid ((hlow _ (by omega)).trans ER.out)
                  replace OD := Lib.hid (own_stays OD.out fun b hb => hgr.block b (OD.out.lt b hb).2 (fun e => own_type_ne OF.out OD.out (by decide) b e.symm hb))
                  replace KF := Lib.hid (And.intro (KF.out.1.mono fun z y h => h.step (S' := (fun g => dv.ownBlock = some g ∨ (Value.slice np (fs.length + 1) nc).ownBlock = some g)) hgr.size (fun b hb1 _ hb3 => hgr.block b hb1 (fun e => hb3 (.inr e.symm))) (fun g hg => hg.elim (fun h => .inl (.inl h)) (fun h => hloc.elim (fun e => .inl (.inr (e ▸ h))) (fun e => .inr (e g h))))) KF.out.2)
                  replace KD := Lib.hid (And.intro (KD.out.1.mono fun z y h => h.step (S' := (fun g => dv.ownBlock = some g ∨ (Value.slice np (fs.length + 1) nc).ownBlock = some g)) hgr.size (fun b hb1 _ hb3 => hgr.block b hb1 (fun e => hb3 (.inr e.symm))) (fun g hg => hg.elim (fun h => .inl (.inl h)) (fun h => hloc.elim (fun e => .inl (.inr (e ▸ h))) (fun e => .inr (e g h))))) KD.out.2)
                  replace HG := Lib.hid (grown_then HG.out hbl)
                  replace HRD := Lib.hid (H.out.moved HG.out ((hlow r (by omega)).trans HRD.out.obj) HRD.out.le)
                  rw [← cells10] at hown
                  replace OF := Lib.hid hown
                  clear hgr hloc hlow hown hbl
                  refine hK _ _ ?_
                  clear hK K
                  simp only [Act.put, List.setIfInBounds_toArray, List.set_cons_zero, List.set_cons_succ]
                  refine wpAny_take (i := 6) (v := .pointer (some ⟨w.heap.size + 1, 1, none⟩)) rfl (by kernel_rfl) (by kernel_rfl) (by kernel_rfl) (fun _ _ _ h => h) (Or.inl ⟨by rfl, fun w' => by go_simp⟩) ?_
                  simp only [Act.put, List.setIfInBounds_toArray, List.set_cons_zero, List.set_cons_succ]
                  have x0 := ent_cell EX.out 0 _ rfl; have x1 := ent_cell EX.out 1 _ rfl; have xf := ent_free EX.out
                  refine wpAny_ready (rs := [7]) (by kernel_rfl) (by simp) ?_
                  refine AllReady.cons rfl (fun K hK => ?_) AllReady.nil
                  go_simp
                  clear x0 x1 xf
                  have hst : ∀ b, b ≠ w.heap.size + 1 → (wb.setCell ⟨w.heap.size + 1, 1, none⟩ (.slice np (fs.length + 1) nc)).heap[b]? = wb.heap[b]? := fun b hb => Below.heap_setCell wb ⟨w.heap.size + 1, 1, none⟩ _ b hb
                  have hbl : Below w.heap.size wb (wb.setCell ⟨w.heap.size + 1, 1, none⟩ (.slice np (fs.length + 1) nc)) := (Below.refl _ _).setCell (by dsimp only; omega) _
                  replace EX := Lib.hid (ent_set EX.out 1 (.slice np (fs.length + 1) nc)); replace ER := Lib.hid ((hst _ (by omega)).trans ER.out)
                  replace OD := Lib.hid (own_stays OD.out fun b hb => hst b (by have := (OD.out.lt b hb).1; omega)); replace OF := Lib.hid (own_stays OF.out fun b hb => hst b (by have := (OF.out.lt b hb).1; omega))
                  replace KD := Lib.hid (And.intro (KD.out.1.mono fun z y h => h.step (by simp) (fun b _ hb2 _ => hst b (by omega)) (fun g hg => .inl hg)) KD.out.2)
                  replace KF := Lib.hid (And.intro (KF.out.1.mono fun z y h => h.step (by simp) (fun b _ hb2 _ => hst b (by omega)) (fun g hg => .inl hg)) KF.out.2)
                  replace HG := Lib.hid (grown_then HG.out hbl)
                  replace HRD := Lib.hid (H.out.moved HG.out ((hst r (by omega)).trans HRD.out.obj) HRD.out.le)
                  clear hst hbl
                  refine hK _ _ ?_
                  clear hK K
                  refine wpAny_done (by kernel_rfl) ?_ _
                  have hah := HA.out
                  rw [HTT.out] at hah
                  have hnd0 := HND.out
                  rw [HTT.out] at hnd0
                  have HNX := Lib.hid (hah.defn hnd0 HQ1.out HWD.out HX.out)
                  have hm := Lib.hid HRD.out.cells.2.1
                  have hjle := HRD.out.le
                  clear hah hnd0
                  go_wp2_with fail
                  go_roundw
                  case rel => exact ⟨q + 1, j2, F, _, _, vsd, vsf ++ [.agg #[.int .i64 xp, .string xs, .slice q0 n0 c0_, .int .i64 xk, .int .i64 xq, .string xt, .int .i64 xi, .slice q1 n1 c1, .slice q2 n2 c2, .slice q3 n3 c3]], ds, fs ++ [x], by go_num, by have := HQ1.out; omega, HRD, by have := HJ2.out; omega, HNX, by have := HLEN.out; simp; omega, EX, ER, OD, by rw [List.length_append]; exact OF, KD, KF, HG⟩
                  case measure => rw [hm.out, hat0.out]; have := HJ2.out; simp [intOf]; omega
                · go_simp
                  refine hK _ _ ?_
                  clear hK K
                  refine wpAny_ready (rs := [1, 3]) (by kernel_rfl) (by simp) ?_
                  refine AllReady.cons rfl (fun K hK => ?_) (AllReady.cons rfl (fun K hK => ?_) AllReady.nil)
                  · go_simp
                    refine hK _ _ ?_
                    clear hK K
                    refine wpAny_ready (rs := [3]) (by kernel_rfl) (by simp) ?_
                    refine AllReady.cons rfl (fun K hK => ?_) AllReady.nil
                    go_simp
                    refine (def_any 50 (40 - 0) n (.slice pk n.list.length ck) _ (HK.out.below ((Below.refl _ _).drew)) (fun a b i u h hi => expr_any 50 a b i u h (by omega))).mono ?_
                    intro e wa ht
                    obtain ⟨av, rfl, hnew, hb⟩ := toldN_ok ht HX.out
                    obtain ⟨xp, xs, q0, n0, c0_, xk, xq, xi, xt, q1, n1, c1, q2, n2, c2, q3, n3, c3, rfl⟩ := defAt_form 50 _ _ _ hnew.now
                    replace hb := undrew hb
                    have hnk := hnew.keptS (base := w.heap.size + 2) (S := fun g => dv.ownBlock = some g ∨ fv.ownBlock = some g) (show w.heap.size + 2 ≤ w3.heap.size by have := ent_lt EX.out; omega) (fun g hg => hg.elim (fun h => (OD.out.lt g h).2) (fun h => (OF.out.lt g h).2))
                    replace EX := Lib.hid (ent_below EX.out hb); replace ER := Lib.hid (ent_below ER.out hb)
                    replace OD := Lib.hid (own_kept OD.out hb); replace OF := Lib.hid (own_kept OF.out hb)
                    replace KD := Lib.hid (And.intro (KD.out.1.mono fun z y h => h.below hb) KD.out.2); replace KF := Lib.hid (And.intro (KF.out.1.mono fun z y h => h.below hb) KF.out.2)
                    replace HRD := Lib.hid (HRD.out.below hb); replace HG := Lib.hid (grown_then HG.out (hb.mono HG.out.size))
                    replace KF := Lib.hid (And.intro (Reps.snoc hnk KF.out.1) (fun u hu => (List.mem_append.1 hu).elim (fun h => KF.out.2 u h) (fun h => by rw [List.mem_singleton.1 h]; rfl)) : _ ∧ ∀ u ∈ vsf ++ [.agg #[.int .i64 xp, .string xs, .slice q0 n0 c0_, .int .i64 xk, .int .i64 xq, .string xt, .int .i64 xi, .slice q1 n1 c1, .slice q2 n2 c2, .slice q3 n3 c3]], ShapeDef u)
                    clear hnk hnew ht hb
                    refine hK _ _ ?_
                    clear hK K
                    refine wpAny_ready (rs := [4]) (by kernel_rfl) (by simp) ?_
                    refine AllReady.cons rfl (fun K hK => ?_) AllReady.nil
                    go_simp
                    have hb : Below wa.heap.size wa (wa.alloc (.cells #[.int .i64 xp, .string xs, .slice q0 n0 c0_, .int .i64 xk, .int .i64 xq, .string xt, .int .i64 xi, .slice q1 n1 c1, .slice q2 n2 c2, .slice q3 n3 c3] 49)) := (Below.refl _ _).alloc (Nat.le_refl _) _
                    replace EX := Lib.hid (ent_below EX.out hb); replace ER := Lib.hid (ent_below ER.out hb)
                    replace OD := Lib.hid (own_kept OD.out hb); replace OF := Lib.hid (own_kept OF.out hb)
                    replace KD := Lib.hid (And.intro (KD.out.1.mono fun z y h => h.below hb) KD.out.2); replace KF := Lib.hid (And.intro (KF.out.1.mono fun z y h => h.below hb) KF.out.2)
                    replace HRD := Lib.hid (HRD.out.below hb); replace HG := Lib.hid (grown_then HG.out (hb.mono HG.out.size))
                    clear hb
                    refine hK _ _ ?_
                    clear hK K
                    refine wpAny_ready (rs := [5]) (by kernel_rfl) (by simp) ?_
                    refine AllReady.cons rfl (fun K hK => ?_) AllReady.nil
                    refine step_append_loc rfl (.tmp 36) (.tmp 39) 25 rfl (w.heap.size + 2) 49 i1 (.agg #[.int .i64 0, .string ⟨#[]⟩, .slice none 0 0, .int .i64 0, .int .i64 0, .string ⟨#[]⟩, .int .i64 0, .slice none 0 0, .slice none 0 0, .slice none 0 0]) 10 160 Tryz.underlying25 I1.out I10.out I11.out I12.out rfl (by decide) fv fs.length _ rfl OF.out ⟨wa.heap.size, 0, none⟩ 1 1 [.int .i64 xp, .string xs, .slice q0 n0 c0_, .int .i64 xk, .int .i64 xq, .string xt, .int .i64 xi, .slice q1 n1 c1, .slice q2 n2 c2, .slice q3 n3 c3] rfl (by decide) rfl (fun jx u h => newDef wa (.int .i64 xp) (.string xs) (.slice q0 n0 c0_) (.int .i64 xk) (.int .i64 xq) (.string xt) (.int .i64 xi) (.slice q1 n1 c1) (.slice q2 n2 c2) (.slice q3 n3 c3) _ jx u h) (by intro u hu; simp only [List.mem_cons, List.not_mem_nil, or_false] at hu; rcases hu with rfl | rfl | rfl | rfl | rfl | rfl | rfl | rfl | rfl | rfl <;> rfl) (by have := HLEN.out; unfold maxLen; omega) (by have := HLEN.out; omega) (by have := ent_lt EX.out; omega) ?_
                    intro vn wb hown hgr hloc
                    obtain ⟨np, nc, rfl⟩ := own_slice hown
                    have hlow : ∀ b, b ≤ w.heap.size + 1 → wb.heap[b]? = (wa.alloc (.cells #[.int .i64 xp, .string xs, .slice q0 n0 c0_, .int .i64 xk, .int .i64 xq, .string xt, .int .i64 xi, .slice q1 n1 c1, .slice q2 n2 c2, .slice q3 n3 c3] 49)).heap[b]? := fun b hb1 => hgr.block b (by have := ent_lt EX.out; omega) (fun e => by have := (OF.out.lt b e.symm).1; omega)
                    have hbl : Below w.heap.size (wa.alloc (.cells #[.int .i64 xp, .string xs, .slice q0 n0 c0_, .int .i64 xk, .int .i64 xq, .string xt, .int .i64 xi, .slice q1 n1 c1, .slice q2 n2 c2, .slice q3 n3 c3] 49)) wb := (Below.refl _ _).grown hgr HG.out.size (fun kk hk => by have := (OF.out.lt kk hk).1; omega)
                    replace EX := Lib.hid ((hlow _ (Nat.le_refl _)).trans EX.out); replace ER := Lib.hid ((hlow _ (by omega)).trans ER.out)
                    replace OD := Lib.hid (own_stays OD.out fun b hb => hgr.block b (OD.out.lt b hb).2 (fun e => own_type_ne OF.out OD.out (by decide) b e.symm hb))
                    replace KF := Lib.hid (And.intro (KF.out.1.mono fun z y h => h.step (S' := (fun g => dv.ownBlock = some g ∨ (Value.slice np (fs.length + 1) nc).ownBlock = some g)) hgr.size (fun b hb1 _ hb3 => hgr.block b hb1 (fun e => hb3 (.inr e.symm))) (fun g hg => hg.elim (fun h => .inl (.inl h)) (fun h => hloc.elim (fun e => .inl (.inr (e ▸ h))) (fun e => .inr (e g h))))) KF.out.2)
                    replace KD := Lib.hid (And.intro (KD.out.1.mono fun z y h => h.step (S' := (fun g => dv.ownBlock = some g ∨ (Value.slice np (fs.length + 1) nc).ownBlock = some g)) hgr.size (fun b hb1 _ hb3 => hgr.block b hb1 (fun e => hb3 (.inr e.symm))) (fun g hg => hg.elim (fun h => .inl (.inl h)) (fun h => hloc.elim (fun e => .inl (.inr (e ▸ h))) (fun e => .inr (e g h))))) KD.out.2)
                    replace HG := Lib.hid (grown_then HG.out hbl)
                    replace HRD := Lib.hid (H.out.moved HG.out ((hlow r (by omega)).trans HRD.out.obj) HRD.out.le)
                    rw [← cells10] at hown
                    replace OF := Lib.hid hown
                    clear hgr hloc hlow hown hbl
                    refine hK _ _ ?_
                    clear hK K
                    simp only [Act.put, List.setIfInBounds_toArray, List.set_cons_zero, List.set_cons_succ]
                    refine wpAny_take (i := 6) (v := .pointer (some ⟨w.heap.size + 1, 1, none⟩)) rfl (by kernel_rfl) (by kernel_rfl) (by kernel_rfl) (fun _ _ _ h => h) (Or.inl ⟨by rfl, fun w' => by go_simp⟩) ?_
                    simp only [Act.put, List.setIfInBounds_toArray, List.set_cons_zero, List.set_cons_succ]
                    have x0 := ent_cell EX.out 0 _ rfl; have x1 := ent_cell EX.out 1 _ rfl; have xf := ent_free EX.out
                    refine wpAny_ready (rs := [7]) (by kernel_rfl) (by simp) ?_
                    refine AllReady.cons rfl (fun K hK => ?_) AllReady.nil
                    go_simp
                    clear x0 x1 xf
                    have hst : ∀ b, b ≠ w.heap.size + 1 → (wb.setCell ⟨w.heap.size + 1, 1, none⟩ (.slice np (fs.length + 1) nc)).heap[b]? = wb.heap[b]? := fun b hb => Below.heap_setCell wb ⟨w.heap.size + 1, 1, none⟩ _ b hb
                    have hbl : Below w.heap.size wb (wb.setCell ⟨w.heap.size + 1, 1, none⟩ (.slice np (fs.length + 1) nc)) := (Below.refl _ _).setCell (by dsimp only; omega) _
                    replace EX := Lib.hid (ent_set EX.out 1 (.slice np (fs.length + 1) nc)); replace ER := Lib.hid ((hst _ (by omega)).trans ER.out)
                    replace OD := Lib.hid (own_stays OD.out fun b hb => hst b (by have := (OD.out.lt b hb).1; omega)); replace OF := Lib.hid (own_stays OF.out fun b hb => hst b (by have := (OF.out.lt b hb).1; omega))
                    replace KD := Lib.hid (And.intro (KD.out.1.mono fun z y h => h.step (by simp) (fun b _ hb2 _ => hst b (by omega)) (fun g hg => .inl hg)) KD.out.2)
                    replace KF := Lib.hid (And.intro (KF.out.1.mono fun z y h => h.step (by simp) (fun b _ hb2 _ => hst b (by omega)) (fun g hg => .inl hg)) KF.out.2)
                    replace HG := Lib.hid (grown_then HG.out hbl)
                    replace HRD := Lib.hid (H.out.moved HG.out ((hst r (by omega)).trans HRD.out.obj) HRD.out.le)
                    clear hst hbl
                    refine hK _ _ ?_
                    clear hK K
                    refine wpAny_done (by kernel_rfl) ?_ _
                    have hah := HA.out
                    rw [HTT.out] at hah
                    have hnd0 := HND.out
                    rw [HTT.out] at hnd0
                    have HNX := Lib.hid (hah.defn hnd0 HQ1.out HWD.out HX.out)
                    have hm := Lib.hid HRD.out.cells.2.1
                    have hjle := HRD.out.le
                    clear hah hnd0
                    go_wp2_with fail
                    go_roundw
                    case rel => exact ⟨q + 1, j2, F, _, _, vsd, vsf ++ [.agg #[.int .i64 xp, .string xs, .slice q0 n0 c0_, .int .i64 xk, .int .i64 xq, .string xt, .int .i64 xi, .slice q1 n1 c1, .slice q2 n2 c2, .slice q3 n3 c3]], ds, fs ++ [x], by go_num, by have := HQ1.out; omega, HRD, by have := HJ2.out; omega, HNX, by have := HLEN.out; simp; omega, EX, ER, OD, by rw [List.length_append]; exact OF, KD, KF, HG⟩
                    case measure => rw [hm.out, hat0.out]; have := HJ2.out; simp [intOf]; omega
                  · go_simp
                    refine (def_any 50 (40 - 0) n (.slice pk n.list.length ck) _ (HK.out.below ((Below.refl _ _).drew)) (fun a b i u h hi => expr_any 50 a b i u h (by omega))).mono ?_
                    intro e wa ht
                    obtain ⟨av, rfl, hnew, hb⟩ := toldN_ok ht HX.out
                    obtain ⟨xp, xs, q0, n0, c0_, xk, xq, xi, xt, q1, n1, c1, q2, n2, c2, q3, n3, c3, rfl⟩ := defAt_form 50 _ _ _ hnew.now
                    replace hb := undrew hb
                    have hnk := hnew.keptS (base := w.heap.size + 2) (S := fun g => dv.ownBlock = some g ∨ fv.ownBlock = some g) (show w.heap.size + 2 ≤ w3.heap.size by have := ent_lt EX.out; omega) (fun g hg => hg.elim (fun h => (OD.out.lt g h).2) (fun h => (OF.out.lt g h).2))
                    replace EX := Lib.hid (ent_below EX.out hb); replace ER := Lib.hid (ent_below ER.out hb)
                    replace OD := Lib.hid (own_kept OD.out hb); replace OF := Lib.hid (own_kept OF.out hb)
                    replace KD := Lib.hid (And.intro (KD.out.1.mono fun z y h => h.below hb) KD.out.2); replace KF := Lib.hid (And.intro (KF.out.1.mono fun z y h => h.below hb) KF.out.2)
                    replace HRD := Lib.hid (HRD.out.below hb); replace HG := Lib.hid (grown_then HG.out (hb.mono HG.out.size))
                    replace KF := Lib.hid (And.intro (Reps.snoc hnk KF.out.1) (fun u hu => (List.mem_append.1 hu).elim (fun h => KF.out.2 u h) (fun h => by rw [List.mem_singleton.1 h]; rfl)) : _ ∧ ∀ u ∈ vsf ++ [.agg #[.int .i64 xp, .string xs, .slice q0 n0 c0_, .int .i64 xk, .int .i64 xq, .string xt, .int .i64 xi, .slice q1 n1 c1, .slice q2 n2 c2, .slice q3 n3 c3]], ShapeDef u)
                    clear hnk hnew ht hb
                    refine hK _ _ ?_
                    clear hK K
                    have x0 := ent_cell EX.out 0 _ rfl; have x1 := ent_cell EX.out 1 _ rfl; have xf := ent_free EX.out
                    refine wpAny_ready (rs := [1, 4]) (by kernel_rfl) (by simp) ?_
                    refine AllReady.cons rfl (fun K hK => ?_) (AllReady.cons rfl (fun K hK => ?_) AllReady.nil)
                    · go_simp
                      refine hK _ _ ?_
                      clear hK K
                      refine wpAny_ready (rs := [4]) (by kernel_rfl) (by simp) ?_
                      refine AllReady.cons rfl (fun K hK => ?_) AllReady.nil
                      go_simp
                      have hb : Below wa.heap.size wa (wa.alloc (.cells #[.int .i64 xp, .string xs, .slice q0 n0 c0_, .int .i64 xk, .int .i64 xq, .string xt, .int .i64 xi, .slice q1 n1 c1, .slice q2 n2 c2, .slice q3 n3 c3] 49)) := (Below.refl _ _).alloc (Nat.le_refl _) _
                      replace EX := Lib.hid (ent_below EX.out hb); replace ER := Lib.hid (ent_below ER.out hb)
                      replace OD := Lib.hid (own_kept OD.out hb); replace OF := Lib.hid (own_kept OF.out hb)
                      replace KD := Lib.hid (And.intro (KD.out.1.mono fun z y h => h.below hb) KD.out.2); replace KF := Lib.hid (And.intro (KF.out.1.mono fun z y h => h.below hb) KF.out.2)
                      replace HRD := Lib.hid (HRD.out.below hb); replace HG := Lib.hid (grown_then HG.out (hb.mono HG.out.size))
                      clear hb
                      refine hK _ _ ?_
                      clear hK K
                      refine wpAny_ready (rs := [5]) (by kernel_rfl) (by simp) ?_
                      refine AllReady.cons rfl (fun K hK => ?_) AllReady.nil
                      refine step_append_loc rfl (.tmp 36) (.tmp 39) 25 rfl (w.heap.size + 2) 49 i1 (.agg #[.int .i64 0, .string ⟨#[]⟩, .slice none 0 0, .int .i64 0, .int .i64 0, .string ⟨#[]⟩, .int .i64 0, .slice none 0 0, .slice none 0 0, .slice none 0 0]) 10 160 Tryz.underlying25 I1.out I10.out I11.out I12.out rfl (by decide) fv fs.length _ rfl OF.out ⟨wa.heap.size, 0, none⟩ 1 1 [.int .i64 xp, .string xs, .slice q0 n0 c0_, .int .i64 xk, .int .i64 xq, .string xt, .int .i64 xi, .slice q1 n1 c1, .slice q2 n2 c2, .slice q3 n3 c3] rfl (by decide) rfl (fun jx u h => newDef wa (.int .i64 xp) (.string xs) (.slice q0 n0 c0_) (.int .i64 xk) (.int .i64 xq) (.string xt) (.int .i64 xi) (.slice q1 n1 c1) (.slice q2 n2 c2) (.slice q3 n3 c3) _ jx u h) (by intro u hu; simp only [List.mem_cons, List.not_mem_nil, or_false] at hu; rcases hu with rfl | rfl | rfl | rfl | rfl | rfl | rfl | rfl | rfl | rfl <;> rfl) (by have := HLEN.out; unfold maxLen; omega) (by have := HLEN.out; omega) (by have := ent_lt EX.out; omega) ?_
                      intro vn wb hown hgr hloc
                      obtain ⟨np, nc, rfl⟩ := own_slice hown
                      have hlow : ∀ b, b ≤ w.heap.size + 1 → wb.heap[b]? = (wa.alloc (.cells #[.int .i64 xp, .string xs, .slice q0 n0 c0_, .int .i64 xk, .int .i64 xq, .string xt, .int .i64 xi, .slice q1 n1 c1, .slice q2 n2 c2, .slice q3 n3 c3] 49)).heap[b]? := fun b hb1 => hgr.block b (by have := ent_lt EX.out; omega) (fun e => by have := (OF.out.lt b e.symm).1; omega)
                      have hbl : Below w.heap.size (wa.alloc (.cells #[.int .i64 xp, .string xs, .slice q0 n0 c0_, .int .i64 xk, .int .i64 xq, .string xt, .int .i64 xi, .slice q1 n1 c1, .slice q2 n2 c2, .slice q3 n3 c3] 49)) wb := (Below.refl _ _).grown hgr HG.out.size (fun kk hk => by have := (OF.out.lt kk hk).1; omega)
                      replace EX := Lib.hid ((hlow _ (Nat.le_refl _)).trans EX.out); replace ER := Lib.hid ((hlow _ (by omega)).trans ER.out)
                      replace OD := Lib.hid (own_stays OD.out fun b hb => hgr.block b (OD.out.lt b hb).2 (fun e => own_type_ne OF.out OD.out (by decide) b e.symm hb))
                      replace KF := Lib.hid (And.intro (KF.out.1.mono fun z y h => h.step (S' := (fun g => dv.ownBlock = some g ∨ (Value.slice np (fs.length + 1) nc).ownBlock = some g)) hgr.size (fun b hb1 _ hb3 => hgr.block b hb1 (fun e => hb3 (.inr e.symm))) (fun g hg => hg.elim (fun h => .inl (.inl h)) (fun h => hloc.elim (fun e => .inl (.inr (e ▸ h))) (fun e => .inr (e g h))))) KF.out.2)
                      replace KD := Lib.hid (And.intro (KD.out.1.mono fun z y h => h.step (S' := (fun g => dv.ownBlock = some g ∨ (Value.slice np (fs.length + 1) nc).ownBlock = some g)) hgr.size (fun b hb1 _ hb3 => hgr.block b hb1 (fun e => hb3 (.inr e.symm))) (fun g hg => hg.elim (fun h => .inl (.inl h)) (fun h => hloc.elim (fun e => .inl (.inr (e ▸ h))) (fun e => .inr (e g h))))) KD.out.2)
                      replace HG := Lib.hid (grown_then HG.out hbl)
                      replace HRD := Lib.hid (H.out.moved HG.out ((hlow r (by omega)).trans HRD.out.obj) HRD.out.le)
                      rw [← cells10] at hown
                      replace OF := Lib.hid hown
                      clear hgr hloc hlow hown hbl
                      refine hK _ _ ?_
                      clear hK K
                      simp only [Act.put, List.setIfInBounds_toArray, List.set_cons_zero, List.set_cons_succ]
                      refine wpAny_take (i := 6) (v := .pointer (some ⟨w.heap.size + 1, 1, none⟩)) rfl (by kernel_rfl) (by kernel_rfl) (by kernel_rfl) (fun _ _ _ h => h) (Or.inl ⟨by rfl, fun w' => by go_simp⟩) ?_
                      simp only [Act.put, List.setIfInBounds_toArray, List.set_cons_zero, List.set_cons_succ]
                      have x0 := ent_cell EX.out 0 _ rfl; have x1 := ent_cell EX.out 1 _ rfl; have xf := ent_free EX.out
                      refine wpAny_ready (rs := [7]) (by kernel_rfl) (by simp) ?_
                      refine AllReady.cons rfl (fun K hK => ?_) AllReady.nil
                      go_simp
                      clear x0 x1 xf
                      have hst : ∀ b, b ≠ w.heap.size + 1 → (wb.setCell ⟨w.heap.size + 1, 1, none⟩ (.slice np (fs.length + 1) nc)).heap[b]? = wb.heap[b]? := fun b hb => Below.heap_setCell wb ⟨w.heap.size + 1, 1, none⟩ _ b hb
                      have hbl : Below w.heap.size wb (wb.setCell ⟨w.heap.size + 1, 1, none⟩ (.slice np (fs.length + 1) nc)) := (Below.refl _ _).setCell (by dsimp only; omega) _
                      replace EX := Lib.hid (ent_set EX.out 1 (.slice np (fs.length + 1) nc)); replace ER := Lib.hid ((hst _ (by omega)).trans ER.out)
                      replace OD := Lib.hid (own_stays OD.out fun b hb => hst b (by have := (OD.out.lt b hb).1; omega)); replace OF := Lib.hid (own_stays OF.out fun b hb => hst b (by have := (OF.out.lt b hb).1; omega))
                      replace KD := Lib.hid (And.intro (KD.out.1.mono fun z y h => h.step (by simp) (fun b _ hb2 _ => hst b (by omega)) (fun g hg => .inl hg)) KD.out.2)
                      replace KF := Lib.hid (And.intro (KF.out.1.mono fun z y h => h.step (by simp) (fun b _ hb2 _ => hst b (by omega)) (fun g hg => .inl hg)) KF.out.2)
                      replace HG := Lib.hid (grown_then HG.out hbl)
                      replace HRD := Lib.hid (H.out.moved HG.out ((hst r (by omega)).trans HRD.out.obj) HRD.out.le)
                      clear hst hbl
                      refine hK _ _ ?_
                      clear hK K
                      refine wpAny_done (by kernel_rfl) ?_ _
                      have hah := HA.out
                      rw [HTT.out] at hah
                      have hnd0 := HND.out
                      rw [HTT.out] at hnd0
                      have HNX := Lib.hid (hah.defn hnd0 HQ1.out HWD.out HX.out)
                      have hm := Lib.hid HRD.out.cells.2.1
                      have hjle := HRD.out.le
                      clear hah hnd0
                      go_wp2_with fail
                      go_roundw
                      case rel => exact ⟨q + 1, j2, F, _, _, vsd, vsf ++ [.agg #[.int .i64 xp, .string xs, .slice q0 n0 c0_, .int .i64 xk, .int .i64 xq, .string xt, .int .i64 xi, .slice q1 n1 c1, .slice q2 n2 c2, .slice q3 n3 c3]], ds, fs ++ [x], by go_num, by have := HQ1.out; omega, HRD, by have := HJ2.out; omega, HNX, by have := HLEN.out; simp; omega, EX, ER, OD, by rw [List.length_append]; exact OF, KD, KF, HG⟩
                      case measure => rw [hm.out, hat0.out]; have := HJ2.out; simp [intOf]; omega
                    · go_simp
                      have hb : Below wa.heap.size wa (wa.alloc (.cells #[.int .i64 xp, .string xs, .slice q0 n0 c0_, .int .i64 xk, .int .i64 xq, .string xt, .int .i64 xi, .slice q1 n1 c1, .slice q2 n2 c2, .slice q3 n3 c3] 49)) := (Below.refl _ _).alloc (Nat.le_refl _) _
                      replace EX := Lib.hid (ent_below EX.out hb); replace ER := Lib.hid (ent_below ER.out hb)
                      replace OD := Lib.hid (own_kept OD.out hb); replace OF := Lib.hid (own_kept OF.out hb)
                      replace KD := Lib.hid (And.intro (KD.out.1.mono fun z y h => h.below hb) KD.out.2); replace KF := Lib.hid (And.intro (KF.out.1.mono fun z y h => h.below hb) KF.out.2)
                      replace HRD := Lib.hid (HRD.out.below hb); replace HG := Lib.hid (grown_then HG.out (hb.mono HG.out.size))
                      clear hb
                      refine hK _ _ ?_
                      clear hK K
                      have x0 := ent_cell EX.out 0 _ rfl; have x1 := ent_cell EX.out 1 _ rfl; have xf := ent_free EX.out
                      refine wpAny_ready (rs := [1]) (by kernel_rfl) (by simp) ?_
                      refine AllReady.cons rfl (fun K hK => ?_) AllReady.nil
                      go_simp
                      clear x0 x1 xf
                      refine hK _ _ ?_
                      clear hK K
                      refine wpAny_ready (rs := [5]) (by kernel_rfl) (by simp) ?_
                      refine AllReady.cons rfl (fun K hK => ?_) AllReady.nil
                      refine step_append_loc rfl (.tmp 36) (.tmp 39) 25 rfl (w.heap.size + 2) 49 i1 (.agg #[.int .i64 0, .string ⟨#[]⟩, .slice none 0 0, .int .i64 0, .int .i64 0, .string ⟨#[]⟩, .int .i64 0, .slice none 0 0, .slice none 0 0, .slice none 0 0]) 10 160 Tryz.underlying25 I1.out I10.out I11.out I12.out rfl (by decide) fv fs.length _ rfl OF.out ⟨wa.heap.size, 0, none⟩ 1 1 [.int .i64 xp, .string xs, .slice q0 n0 c0_, .int .i64 xk, .int .i64 xq, .string xt, .int .i64 xi, .slice q1 n1 c1, .slice q2 n2 c2, .slice q3 n3 c3] rfl (by decide) rfl (fun jx u h => newDef wa (.int .i64 xp) (.string xs) (.slice q0 n0 c0_) (.int .i64 xk) (.int .i64 xq) (.string xt) (.int .i64 xi) (.slice q1 n1 c1) (.slice q2 n2 c2) (.slice q3 n3 c3) _ jx u h) (by intro u hu; simp only [List.mem_cons, List.not_mem_nil, or_false] at hu; rcases hu with rfl | rfl | rfl | rfl | rfl | rfl | rfl | rfl | rfl | rfl <;> rfl) (by have := HLEN.out; unfold maxLen; omega) (by have := HLEN.out; omega) (by have := ent_lt EX.out; omega) ?_
                      intro vn wb hown hgr hloc
                      obtain ⟨np, nc, rfl⟩ := own_slice hown
                      have hlow : ∀ b, b ≤ w.heap.size + 1 → wb.heap[b]? = (wa.alloc (.cells #[.int .i64 xp, .string xs, .slice q0 n0 c0_, .int .i64 xk, .int .i64 xq, .string xt, .int .i64 xi, .slice q1 n1 c1, .slice q2 n2 c2, .slice q3 n3 c3] 49)).heap[b]? := fun b hb1 => hgr.block b (by have := ent_lt EX.out; omega) (fun e => by have := (OF.out.lt b e.symm).1; omega)
                      have hbl : Below w.heap.size (wa.alloc (.cells #[.int .i64 xp, .string xs, .slice q0 n0 c0_, .int .i64 xk, .int .i64 xq, .string xt, .int .i64 xi, .slice q1 n1 c1, .slice q2 n2 c2, .slice q3 n3 c3] 49)) wb := (Below.refl _ _).grown hgr HG.out.size (fun kk hk => by have := (OF.out.lt kk hk).1; omega)
                      replace EX := Lib.hid ((hlow _ (Nat.le_refl _)).trans EX.out); replace ER := Lib.hid ((hlow _ (by omega)).trans ER.out)
                      replace OD := Lib.hid (own_stays OD.out fun b hb => hgr.block b (OD.out.lt b hb).2 (fun e => own_type_ne OF.out OD.out (by decide) b e.symm hb))
                      replace KF := Lib.hid (And.intro (KF.out.1.mono fun z y h => h.step (S' := (fun g => dv.ownBlock = some g ∨ (Value.slice np (fs.length + 1) nc).ownBlock = some g)) hgr.size (fun b hb1 _ hb3 => hgr.block b hb1 (fun e => hb3 (.inr e.symm))) (fun g hg => hg.elim (fun h => .inl (.inl h)) (fun h => hloc.elim (fun e => .inl (.inr (e ▸ h))) (fun e => .inr (e g h))))) KF.out.2)
                      replace KD := Lib.hid (And.intro (KD.out.1.mono fun z y h => h.step (S' := (fun g => dv.ownBlock = some g ∨ (Value.slice np (fs.length + 1) nc).ownBlock = some g)) hgr.size (fun b hb1 _ hb3 => hgr.block b hb1 (fun e => hb3 (.inr e.symm))) (fun g hg => hg.elim (fun h => .inl (.inl h)) (fun h => hloc.elim (fun e => .inl (.inr (e ▸ h))) (fun e => .inr (e g h))))) KD.out.2)
                      replace HG := Lib.hid (grown_then HG.out hbl)
                      replace HRD := Lib.hid (H.out.moved HG.out ((hlow r (by omega)).trans HRD.out.obj) HRD.out.le)
                      rw [← cells10] at hown
                      replace OF := Lib.hid hown
                      clear hgr hloc hlow hown hbl
                      refine hK _ _ ?_
                      clear hK K
                      simp only [Act.put, List.setIfInBounds_toArray, List.set_cons_zero, List.set_cons_succ]
                      refine wpAny_take (i := 6) (v := .pointer (some ⟨w.heap.size + 1, 1, none⟩)) rfl (by kernel_rfl) (by kernel_rfl) (by kernel_rfl) (fun _ _ _ h => h) (Or.inl ⟨by rfl, fun w' => by go_simp⟩) ?_
                      simp only [Act.put, List.setIfInBounds_toArray, List.set_cons_zero, List.set_cons_succ]
                      have x0 := ent_cell EX.out 0 _ rfl; have x1 := ent_cell EX.out 1 _ rfl; have xf := ent_free EX.out
                      refine wpAny_ready (rs := [7]) (by kernel_rfl) (by simp) ?_
                      refine AllReady.cons rfl (fun K hK => ?_) AllReady.nil
                      go_simp
                      clear x0 x1 xf
                      have hst : ∀ b, b ≠ w.heap.size + 1 → (wb.setCell ⟨w.heap.size + 1, 1, none⟩ (.slice np (fs.length + 1) nc)).heap[b]? = wb.heap[b]? := fun b hb => Below.heap_setCell wb ⟨w.heap.size + 1, 1, none⟩ _ b hb
                      have hbl : Below w.heap.size wb (wb.setCell ⟨w.heap.size + 1, 1, none⟩ (.slice np (fs.length + 1) nc)) := (Below.refl _ _).setCell (by dsimp only; omega) _
                      replace EX := Lib.hid (ent_set EX.out 1 (.slice np (fs.length + 1) nc)); replace ER := Lib.hid ((hst _ (by omega)).trans ER.out)
                      replace OD := Lib.hid (own_stays OD.out fun b hb => hst b (by have := (OD.out.lt b hb).1; omega)); replace OF := Lib.hid (own_stays OF.out fun b hb => hst b (by have := (OF.out.lt b hb).1; omega))
                      replace KD := Lib.hid (And.intro (KD.out.1.mono fun z y h => h.step (by simp) (fun b _ hb2 _ => hst b (by omega)) (fun g hg => .inl hg)) KD.out.2)
                      replace KF := Lib.hid (And.intro (KF.out.1.mono fun z y h => h.step (by simp) (fun b _ hb2 _ => hst b (by omega)) (fun g hg => .inl hg)) KF.out.2)
                      replace HG := Lib.hid (grown_then HG.out hbl)
                      replace HRD := Lib.hid (H.out.moved HG.out ((hst r (by omega)).trans HRD.out.obj) HRD.out.le)
                      clear hst hbl
                      refine hK _ _ ?_
                      clear hK K
                      refine wpAny_done (by kernel_rfl) ?_ _
                      have hah := HA.out
                      rw [HTT.out] at hah
                      have hnd0 := HND.out
                      rw [HTT.out] at hnd0
                      have HNX := Lib.hid (hah.defn hnd0 HQ1.out HWD.out HX.out)
                      have hm := Lib.hid HRD.out.cells.2.1
                      have hjle := HRD.out.le
                      clear hah hnd0
                      go_wp2_with fail
                      go_roundw
                      case rel => exact ⟨q + 1, j2, F, _, _, vsd, vsf ++ [.agg #[.int .i64 xp, .string xs, .slice q0 n0 c0_, .int .i64 xk, .int .i64 xq, .string xt, .int .i64 xi, .slice q1 n1 c1, .slice q2 n2 c2, .slice q3 n3 c3]], ds, fs ++ [x], by go_num, by have := HQ1.out; omega, HRD, by have := HJ2.out; omega, HNX, by have := HLEN.out; simp; omega, EX, ER, OD, by rw [List.length_append]; exact OF, KD, KF, HG⟩
                      case measure => rw [hm.out, hat0.out]; have := HJ2.out; simp [intOf]; omega
            · have h1 : (wd == [100, 97, 116, 97]) = false := by simpa using hwd
              have h2 : (wd == [100, 101, 102]) = false := by simpa using hwf
              have ho : out = .error n.pos := by
                rw [← HOUT.out]
                refine HA.out.bad ?_
                have h1 := HND.out
                rw [HTT.out] at h1 ⊢
                rw [Px.prog]
                case x_3 => simp
                rw [h1]; dsimp only; rw [if_neg HQ1.out, HWD.out, if_neg hwd, if_neg hwf]
              subst ho
              clear hwd hwf
              have cf := ent_free EN.out
              have c0 := ent_cell EN.out 0 _ rfl; have c1 := ent_cell EN.out 1 _ rfl; have c2 := ent_cell EN.out 2 _ rfl; have c3 := ent_cell EN.out 3 _ rfl; have c4 := ent_cell EN.out 4 _ rfl; have c5 := ent_cell EN.out 5 _ rfl
              go_wp2_with fail
              refine (pos_any n (.slice pk n.list.length ck) _).mono ?_
              rintro e w4 ⟨rfl, hb⟩
              go_wp2
              exact ⟨rfl, grown_then HG.out (hb.mono HG.out.size), rfl⟩
    · have hd : decide (j < all.length) = false := by simpa using hjl
      have hdr : all.drop j = [] := List.drop_eq_nil_of_le (by omega)
      have ho : out = .ok ⟨ds, fs⟩ := by
        rw [← HOUT.out]
        have h1 := HA.out
        rw [hdr] at h1
        exact h1.nil
      subst ho
      clear hdr
      go_wp2_with fail
      refine (more_any r tv all j stop B _ HRD.out).mono ?_
      rw [hd]
      rintro e w1 ⟨rfl, hb⟩
      replace EX := Lib.hid (ent_below EX.out hb); replace ER := Lib.hid (ent_below ER.out hb)
      replace OD := Lib.hid (own_kept OD.out hb); replace OF := Lib.hid (own_kept OF.out hb)
      replace KD := Lib.hid (And.intro (KD.out.1.mono fun z y h => h.below hb) KD.out.2); replace KF := Lib.hid (And.intro (KF.out.1.mono fun z y h => h.below hb) KF.out.2)
      replace HRD := Lib.hid (HRD.out.below hb); replace HG := Lib.hid (grown_then HG.out (hb.mono HG.out.size))
      clear hb hd
      obtain ⟨dp, dc, rfl⟩ := own_slice OD.out
      obtain ⟨fp, fc, rfl⟩ := own_slice OF.out
      have x0 := ent_cell EX.out 0 _ rfl; have x1 := ent_cell EX.out 1 _ rfl; have xf := ent_free EX.out
      have r0 := ent_cell ER.out 0 _ rfl; have r1 := ent_cell ER.out 1 _ rfl; have rf := ent_free ER.out
      have hw1 : w.heap.size + 1 < w1.heap.size := ent_lt EX.out
      go_wp2_with fail
      refine bodyPost_ret (v := .agg #[.slice dp ds.length dc, .slice fp fs.length fc]) (by simp [results, Tryz.results23, go_sem, r0, r1]) rfl ⟨?_, _, rfl, fun u hu => ⟨_, _, rfl, ?_, ?_⟩⟩
      · refine grown_then HG.out ?_
        repeat (first | with_reducible exact Below.refl _ _ | with_reducible refine Below.setCell ?_ (by dsimp only; omega) _)
      · refine rowS (w := w1) OD.out rfl KD.out.1 KD.out.2 (fun b hb1 hb2 => (hu b (by omega) (by simpa using hb2)).trans ?_)
        refine (show Stay (w.heap.size + 2) w1 _ from ?_).2 b hb1 hb2
        repeat (first | with_reducible exact Stay.refl _ _ | with_reducible refine Stay.set ?_ _ _ _ (by omega))
      · refine rowS (w := w1) OF.out rfl KF.out.1 KF.out.2 (fun b hb1 hb2 => (hu b (by omega) (by simpa using hb2)).trans ?_)
        refine (show Stay (w.heap.size + 2) w1 _ from ?_).2 b hb1 hb2
        repeat (first | with_reducible exact Stay.refl _ _ | with_reducible refine Stay.set ?_ _ _ _ (by omega))
end Go.Proofs.YtnhndamfbeiljaaGreatDoor
