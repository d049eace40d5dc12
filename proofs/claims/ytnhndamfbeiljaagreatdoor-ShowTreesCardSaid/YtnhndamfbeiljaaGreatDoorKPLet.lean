/-
  parse.letExpr: its contract, given what expressions come to.
-/
import Derived.Test.YtnhndamfbeiljaaGreatDoorKPLetA
namespace Go.Proofs.YtnhndamfbeiljaaGreatDoor
open Go Go.RowKit
set_option linter.unusedVariables false
set_option linter.unusedSimpArgs false

theorem cells_strs (bs : List (List UInt8 × Px.Expr)) : cellsOf (bs.map fun b => Value.string ⟨b.1.toArray⟩) = bs.map fun b => Value.string ⟨b.1.toArray⟩ := by
  induction bs with
  | nil => rfl
  | cons b r ih =>
    have e : cellsOf ((b :: r).map fun b => Value.string ⟨b.1.toArray⟩) = Value.string ⟨b.1.toArray⟩ :: cellsOf (r.map fun b => Value.string ⟨b.1.toArray⟩) := by simp [cellsOf, Value.cells]
    rw [e, ih]; rfl
theorem reps_strs (base : Nat) (w : World) (S : Nat → Prop) (bs : List (List UInt8 × Px.Expr)) (h : base ≤ w.heap.size) : Reps (KeptS StrAt base w S) (bs.map fun b => Value.string ⟨b.1.toArray⟩) (bs.map (·.1)) := by
  induction bs with
  | nil => trivial
  | cons b r ih => exact ⟨⟨base, base, Nat.le_refl _, h, fun g _ => by omega, fun _ _ => rfl⟩, ih⟩

set_option maxHeartbeats 2000000 in
theorem let_bad (k : Nat) (n : Px.Node) (lv : Value) (w : World) (hk : KidsAt w k lv n.list) (p : Nat) (hp : Px.nodes n 3 3 = .error p) :
    Calls Tryz.prog 144 #[nodeV n lv] w (fun e w' => e = wrongAt p ∧ Below w.heap.size w w') := by
  have HK := Lib.hid hk
  clear hk
  go_enter Tryz.func144, Tryz.ntmps144
  unfold nodeV
  go_wp2_with fail
  have EN := Lib.hid (ent_alloc (ent_new w #[.int .i64 n.tok.kind, .int .i64 n.tok.pos, .string ⟨n.tok.text.toArray⟩, .int .i64 n.tok.int, lv, .int .i64 n.takes] 105) (.cells #[.int .i64 0, .int .i64 0, .string ⟨#[]⟩, .int .i64 0, .slice none 0 0, .slice none 0 0, .slice none 0 0] 47))
  have ER0 := ent_new (w.alloc (.cells #[.int .i64 n.tok.kind, .int .i64 n.tok.pos, .string ⟨n.tok.text.toArray⟩, .int .i64 n.tok.int, lv, .int .i64 n.takes] 105)) #[.int .i64 0, .int .i64 0, .string ⟨#[]⟩, .int .i64 0, .slice none 0 0, .slice none 0 0, .slice none 0 0] 47
  rw [World.size_alloc] at ER0
  have ER := Lib.hid ER0
  have HB := Lib.hid (((Below.refl w.heap.size w).alloc (Nat.le_refl _) (.cells #[.int .i64 n.tok.kind, .int .i64 n.tok.pos, .string ⟨n.tok.text.toArray⟩, .int .i64 n.tok.int, lv, .int .i64 n.takes] 105)).alloc (by simp) (.cells #[.int .i64 0, .int .i64 0, .string ⟨#[]⟩, .int .i64 0, .slice none 0 0, .slice none 0 0, .slice none 0 0] 47))
  clear ER0
  refine (nodes_badI k n lv 3 3 3 3 _ rfl rfl (HK.out.below HB.out) (by omega) (by omega) p hp).mono ?_
  rintro e w1 ⟨rfl, hb⟩
  replace HB := Lib.hid (HB.out.trans (hb.mono HB.out.size))
  clear hb
  exact ⟨rfl, rfl, HB.out⟩

set_option maxHeartbeats 4000000 in
set_option maxRecDepth 100000 in
theorem let_ok (k : Nat) (n : Px.Node) (lv : Value) (w : World) (hk : KidsAt w k lv n.list) (l : List Px.Node) (hp : Px.nodes n 3 3 = .ok l) (m1 : Px.Node) (hm1 : n.list[1]? = some m1) (m2 : Px.Node) (hm2 : n.list[2]? = some m2) (f : Nat) (hex : ExprC f k) (out : Px.R Px.Expr) (hout : Px.letExpr (Px.expr f) n = out) :
    Calls Tryz.prog 144 #[nodeV n lv] w (ToldN w (ExprAt (f + 1)) out) := by
  obtain ⟨hle, h2, h9, _⟩ := nodes_is hp
  have hle0 := hle
  rw [hle] at h2 h9
  obtain ⟨j, g, o, c, rfl, rfl, h3, h4, h5⟩ := hk.some (by intro e; rw [e] at h2; simp at h2)
  obtain ⟨kv1, hat1, hkm1⟩ := h5 1 m1 hm1
  simp only [Nat.reduceMul] at hat1
  have HAT1 := Lib.hid hat1; have HKM1 := Lib.hid hkm1; have HM1 := Lib.hid hm1
  clear hat1 hkm1 hm1
  obtain ⟨kv2, hat2, hkm2⟩ := h5 2 m2 hm2
  simp only [Nat.reduceMul] at hat2
  have HAT2 := Lib.hid hat2; have HKM2 := Lib.hid hkm2; have HM2 := Lib.hid hm2
  clear hat2 hkm2 hm2
  have hne : ¬ n.list = [] := by intro e; rw [e] at h2; simp at h2
  have hbi1 : ¬ ((n.list.length : Int) < 1) := by omega
  have hbi2 : ¬ ((n.list.length : Int) < 2) := by omega
  have hbi3 : ¬ ((n.list.length : Int) < 3) := by omega
  have hbj0 : (0 : Int) < (n.list.length : Int) := by omega
  have hbj1 : (1 : Int) < (n.list.length : Int) := by omega
  have hbj2 : (2 : Int) < (n.list.length : Int) := by omega
  have HK := Lib.hid hk; have HP := Lib.hid hp
  clear h5 hk hp hle
  have HOUT := Lib.hid hout; clear hout
  have hgw : g < w.heap.size := World.block_lt_of_cell? w _ HAT1.out.c0
  have hgne : g ≠ w.heap.size + 1 := by omega
  have HLE := Lib.hid hle0
  have HH1 := Lib.hid (show l.getD 1 n = m1 by rw [hle0, List.getD_eq_getElem?_getD, HM1.out]; rfl)
  have HH2 := Lib.hid (show l.getD 2 n = m2 by rw [hle0, List.getD_eq_getElem?_getD, HM2.out]; rfl)
  clear hle0
  have HEX := Lib.hid hex; clear hex
  go_enter Tryz.func144, Tryz.ntmps144
  unfold nodeV
  go_wp2_with fail
  have EN := Lib.hid (ent_alloc (ent_new w #[.int .i64 n.tok.kind, .int .i64 n.tok.pos, .string ⟨n.tok.text.toArray⟩, .int .i64 n.tok.int, (.slice (some ⟨g, o, none⟩) n.list.length c), .int .i64 n.takes] 105) (.cells #[.int .i64 0, .int .i64 0, .string ⟨#[]⟩, .int .i64 0, .slice none 0 0, .slice none 0 0, .slice none 0 0] 47))
  have ER0 := ent_new (w.alloc (.cells #[.int .i64 n.tok.kind, .int .i64 n.tok.pos, .string ⟨n.tok.text.toArray⟩, .int .i64 n.tok.int, (.slice (some ⟨g, o, none⟩) n.list.length c), .int .i64 n.takes] 105)) #[.int .i64 0, .int .i64 0, .string ⟨#[]⟩, .int .i64 0, .slice none 0 0, .slice none 0 0, .slice none 0 0] 47
  rw [World.size_alloc] at ER0
  have ER := Lib.hid ER0
  have HB := Lib.hid (((Below.refl w.heap.size w).alloc (Nat.le_refl _) (.cells #[.int .i64 n.tok.kind, .int .i64 n.tok.pos, .string ⟨n.tok.text.toArray⟩, .int .i64 n.tok.int, (.slice (some ⟨g, o, none⟩) n.list.length c), .int .i64 n.takes] 105)).alloc (by simp) (.cells #[.int .i64 0, .int .i64 0, .string ⟨#[]⟩, .int .i64 0, .slice none 0 0, .slice none 0 0, .slice none 0 0] 47))
  clear ER0
  refine (nodes_okI (j + 1) n (.slice (some ⟨g, o, none⟩) n.list.length c) 3 3 3 3 _ rfl rfl (HK.out.below HB.out) (by omega) (by omega) l HP.out).mono ?_
  rintro e w1 ⟨rfl, hb⟩
  replace EN := Lib.hid (ent_below EN.out hb)
  replace ER := Lib.hid (ent_below ER.out hb)
  replace HB := Lib.hid (HB.out.trans (hb.mono HB.out.size))
  clear hb
  go_upto_region 2 with fail
  have cf := ent_free EN.out
  have c0 := ent_cell EN.out 0 _ rfl
  have c1 := ent_cell EN.out 1 _ rfl
  have c2 := ent_cell EN.out 2 _ rfl
  have c3 := ent_cell EN.out 3 _ rfl
  have c4 := ent_cell EN.out 4 _ rfl
  have c5 := ent_cell EN.out 5 _ rfl
  go_wp2_with fail
  refine (pos_any n (.slice (some ⟨g, o, none⟩) n.list.length c) _).mono ?_
  rintro e w2 ⟨rfl, hb⟩
  replace EN := Lib.hid (ent_below EN.out hb)
  replace ER := Lib.hid (ent_below ER.out hb)
  replace HB := Lib.hid (HB.out.trans (hb.mono HB.out.size))
  clear hb
  clear cf c0 c1 c2 c3 c4 c5
  have hw2 : w.heap.size + 1 < w2.heap.size := ent_lt ER.out
  go_upto_region 3 with fail
  have EX := Lib.hid (ent_new w2 #[.int .i64 4, .int .i64 n.pos, .string ⟨#[]⟩, .int .i64 0, .slice none 0 0, .slice none 0 0, .slice none 0 0] 47)
  replace EN := Lib.hid (ent_alloc EN.out (.cells #[.int .i64 4, .int .i64 n.pos, .string ⟨#[]⟩, .int .i64 0, .slice none 0 0, .slice none 0 0, .slice none 0 0] 47))
  replace ER := Lib.hid (ent_alloc ER.out (.cells #[.int .i64 4, .int .i64 n.pos, .string ⟨#[]⟩, .int .i64 0, .slice none 0 0, .slice none 0 0, .slice none 0 0] 47))
  replace HB := Lib.hid (HB.out.alloc HB.out.size (.cells #[.int .i64 4, .int .i64 n.pos, .string ⟨#[]⟩, .int .i64 0, .slice none 0 0, .slice none 0 0, .slice none 0 0] 47))
  generalize w2.alloc (.cells #[.int .i64 4, .int .i64 n.pos, .string ⟨#[]⟩, .int .i64 0, .slice none 0 0, .slice none 0 0, .slice none 0 0] 47) = W at *
  generalize w2.heap.size = gx at *
  obtain ⟨m0, m1', m2', m3, m4, m5⟩ := HAT1.out.below HB.out
  go_wp2_with fail
  cases hps : Px.nodes m1 1 8 with
  | error p =>
    refine (nodes_badI j m1 kv1 1 8 1 8 _ rfl rfl (HKM1.out.below HB.out) (by omega) (by omega) p hps).mono ?_
    rintro e w3 ⟨rfl, hb⟩
    have ho : out = .error p := by rw [← HOUT.out, Px.letExpr, HP.out]; dsimp only; rw [HH1.out, hps]
    subst ho
    exact ⟨rfl, HB.out.trans (hb.mono HB.out.size), rfl⟩
  | ok ps =>
    obtain ⟨hple, hp1, hp8, _⟩ := nodes_is hps
    have HPS := Lib.hid hps; have HPL := Lib.hid hple
    obtain ⟨jj, pg, po, pc, hjj, rfl, pp3, pp4, pp5⟩ := HKM1.out.some (by intro e; rw [hple, e] at hp1; simp at hp1)
    have HPP := Lib.hid pp5; have HJJ := Lib.hid hjj
    have HPLEN := Lib.hid (show ps.length = m1.list.length by rw [hple])
    rw [hple] at hp1 hp8
    clear hps hple pp5 hjj m0 m1' m2' m3 m4 m5
    refine (nodes_okI j m1 (.slice (some ⟨pg, po, none⟩) m1.list.length pc) 1 8 1 8 _ rfl rfl (HKM1.out.below HB.out) (by omega) (by omega) ps HPS.out).mono ?_
    rintro e w3 ⟨rfl, hb⟩
    replace EN := Lib.hid (ent_below EN.out hb)
    replace ER := Lib.hid (ent_below ER.out hb)
    replace EX := Lib.hid (ent_below EX.out hb)
    replace HB := Lib.hid (HB.out.trans (hb.mono HB.out.size))
    clear hb
    have hw3 : gx < w3.heap.size := ent_lt EX.out
    obtain ⟨i0, hi, hz0, hz1, hz2⟩ := info_parts infoStr
    have SI1 := Lib.hid hz1; have SI2 := Lib.hid hz2; have SI0 := Lib.hid hz0; have SI := Lib.hid hi
    clear hi hz0 hz1 hz2
    obtain ⟨i1, hi, hz0, hz1, hz2⟩ := info_parts infoExpr
    have EI1 := Lib.hid hz1; have EI2 := Lib.hid hz2; have EI0 := Lib.hid hz0; have EI := Lib.hid hi
    clear hi hz0 hz1 hz2
    go_wp2_with fail
    go_loopw [18] (fun i wr => ∃ (q : Nat) (nv xv : Value) (vs : List Value) (bs : List (List UInt8 × Px.Expr)), i = .int .i64 q ∧ q ≤ m1.list.length ∧ Hid (Px.each (Px.pair (Px.expr f)) (m1.list.take q) = .ok bs) ∧ bs.length = q ∧ Hid (wr.heap[gx]? = some (.cells #[.int .i64 4, .int .i64 n.pos, .string ⟨#[]⟩, .int .i64 0, nv, xv, .slice none 0 0] 47 (0, 0))) ∧ Hid (wr.heap[w.heap.size]? = some (.cells #[.int .i64 n.tok.kind, .int .i64 n.tok.pos, .string ⟨n.tok.text.toArray⟩, .int .i64 n.tok.int, (.slice (some ⟨g, o, none⟩) n.list.length c), .int .i64 n.takes] 105 (0, 0))) ∧ Hid (wr.heap[w.heap.size + 1]? = some (.cells #[.int .i64 0, .int .i64 0, .string ⟨#[]⟩, .int .i64 0, .slice none 0 0, .slice none 0 0, .slice none 0 0] 47 (0, 0))) ∧
        Hid (wr.ownsRow (gx + 1) 9 1 nv q (bs.map fun b => .string ⟨b.1.toArray⟩)) ∧ Hid (wr.ownsRow (gx + 1) 47 7 xv q (cellsOf vs)) ∧ Hid (Reps (KeptS (ExprAt f) (gx + 1) wr (fun g => nv.ownBlock = some g ∨ xv.ownBlock = some g)) vs (bs.map (·.2)) ∧ ∀ u ∈ vs, ShapeExpr u) ∧ Hid (Below w.heap.size w wr)) (fun i _ => m1.list.length - (intOf i).toNat)
    case atStart => exact ⟨0, _, _, [], [], rfl, Nat.zero_le _, Lib.hid (by simp [Px.each]), rfl, EX, EN, ER, Lib.hid (World.ownsRow_nil _ _ _ _), Lib.hid (World.ownsRow_nil _ _ _ _), Lib.hid ⟨trivial, fun _ h => by cases h⟩, HB⟩
    case round =>
      obtain ⟨q, nv, xv, vs, bs, rfl, hq, HE, hbl, EX, EN, ER, ON, OX, KX, HB⟩ := hrel
      have hw4 : gx < wr.heap.size := ent_lt EX.out
      have HBL := Lib.hid hbl; clear hbl
      by_cases hlt : q < m1.list.length
      · obtain ⟨pn, hpn⟩ : ∃ pn, m1.list[q]? = some pn := ⟨_, List.getElem?_eq_getElem hlt⟩
        obtain ⟨pkv, hpat, hpk⟩ := HPP.out q pn hpn
        obtain ⟨pkp, pkc, rfl⟩ := hpk.len
        obtain ⟨c0, c1, c2, c3, c4, c5⟩ := hpat.below HB.out
        have HPQ := Lib.hid hpn; have HPK := Lib.hid hpk
        clear hpat hpn hpk
        go_wp2_with fail
        have hb : Below wr.heap.size wr (wr.alloc (.cells #[.int .i64 pn.tok.kind, .int .i64 pn.tok.pos, .string ⟨pn.tok.text.toArray⟩, .int .i64 pn.tok.int, .slice pkp pn.list.length pkc, .int .i64 pn.takes] 105)) := (Below.refl _ _).alloc (Nat.le_refl _) _
        have HB0 := Lib.hid (HB.out.trans (hb.mono HB.out.size))
        cases hbn : Px.nodes pn 2 2 with
        | error p =>
          refine (nodes_badI jj pn (.slice pkp pn.list.length pkc) 2 2 2 2 _ rfl rfl (HPK.out.below HB0.out) (by omega) (by omega) p hbn).mono ?_
          rintro e w5 ⟨rfl, hb5⟩
          have ho : out = .error p := by
            have hx : Px.each (Px.pair (Px.expr f)) m1.list = .error p := (Px.each_take HPQ.out HE.out).2 p (by rw [Px.pair, hbn])
            rw [← HOUT.out, Px.letExpr, HP.out]; dsimp only; rw [HH1.out, HPS.out]; dsimp only; rw [HPL.out, hx]
          subst ho
          exact ⟨rfl, HB0.out.trans (hb5.mono HB0.out.size), rfl⟩
        | ok bl =>
          obtain ⟨hble, hb2, hb3, _⟩ := nodes_is hbn
          rw [hble] at hb2 hb3
          refine (nodes_okI jj pn (.slice pkp pn.list.length pkc) 2 2 2 2 _ rfl rfl (HPK.out.below HB0.out) (by omega) (by omega) bl hbn).mono ?_
          rintro e w5 ⟨rfl, hb5⟩
          replace hb := hb.trans (hb5.mono hb.size)
          replace EX := Lib.hid (ent_below EX.out hb); replace EN := Lib.hid (ent_below EN.out hb); replace ER := Lib.hid (ent_below ER.out hb)
          replace ON := Lib.hid (own_kept ON.out hb); replace OX := Lib.hid (own_kept OX.out hb)
          replace KX := Lib.hid (And.intro (KX.out.1.mono fun z y h => h.below hb) KX.out.2)
          replace HB := Lib.hid (HB.out.trans (hb.mono HB.out.size))

          obtain ⟨b0, hb0⟩ : ∃ b0, pn.list[0]? = some b0 := ⟨pn.list[0]'(by omega), List.getElem?_eq_getElem _⟩
          obtain ⟨b1, hb1⟩ : ∃ b1, pn.list[1]? = some b1 := ⟨pn.list[1]'(by omega), List.getElem?_eq_getElem _⟩
          have HB0' := Lib.hid (show bl.headD pn = b0 by rw [hble, List.headD_eq_head?_getD, List.head?_eq_getElem?, hb0]; rfl)
          have HB1' := Lib.hid (show bl.getD 1 pn = b1 by rw [hble, List.getD_eq_getElem?_getD, hb1]; rfl)
          obtain ⟨j3, bg, bo, bc, hj3, hpke, bp3, bp4, bp5⟩ := HPK.out.some (by intro e; rw [e] at hb2; simp at hb2)
          injection hpke with hpk1 _ hpk2
          subst hpk1; subst hpk2
          obtain ⟨bkv0, bat0, bkm0⟩ := bp5 0 b0 hb0
          obtain ⟨bkv1, bat1, bkm1⟩ := bp5 1 b1 hb1
          rw [Nat.zero_mul, Nat.add_zero] at bat0
          simp only [Nat.reduceMul, Nat.one_mul] at bat1
          have hbgw : bg < w.heap.size := World.block_lt_of_cell? w _ bat0.c0
          have NAT := Lib.hid bat0; have NAT1 := Lib.hid bat1; have BK1 := Lib.hid bkm1; have HBN := Lib.hid hbn; have HJ3 := Lib.hid hj3
          have hbne : ¬ pn.list = [] := by intro e; rw [e] at hb2; simp at hb2
          have hbj1 : (1 : Int) < (pn.list.length : Int) := by omega
          have hw5 : gx < w5.heap.size := ent_lt EX.out
          clear hb hb5 hbn hble hb0 hb1 bp5 bat0 bat1 bkm0 bkm1 c0 c1 c2 c3 c4 c5 hj3 HB0
          go_wp2_with fail
          cases hs : Px.name b0 with
          | error p =>
            go_upto_region 7 with fail
            refine wp_region_held_drew (S := (fun w' => w'.heap[gx]? = some (.cells #[.int .i64 4, .int .i64 n.pos, .string ⟨#[]⟩, .int .i64 0, nv, xv, .slice none 0 0] 47 (0, 0)) ∧ NodeAt w' bg (bo) b0 bkv0)) (by kernel_rfl) (⟨EX.out, NAT.out.below (HB.out.drew)⟩) (fun hHeld => ?_)
            refine wpAnyH_take (i := 0) (v := .pointer (some ⟨gx, 4, none⟩)) rfl (by kernel_rfl) (by kernel_rfl) (by kernel_rfl) (fun _ _ _ h => h) (Or.inl ⟨by rfl, fun w' hSw => by go_simp⟩) hHeld ?_
            refine wpAnyH_take (i := 1) (v := nv) rfl (by kernel_rfl) (by kernel_rfl) (by kernel_rfl) (fun _ _ _ h => h) (Or.inl ⟨by rfl, fun w' hSw => by have h1 := hSw.1; have q0 := ent_cell h1 0 _ rfl; have q1 := ent_cell h1 1 _ rfl; have q2 := ent_cell h1 2 _ rfl; have q3 := ent_cell h1 3 _ rfl; have q4 := ent_cell h1 4 _ rfl; have q5 := ent_cell h1 5 _ rfl; have q6 := ent_cell h1 6 _ rfl; go_simp⟩) hHeld ?_
            refine wpAnyH_take (i := 2) (v := .slice (some ⟨bg, bo, none⟩) pn.list.length pkc) rfl (by kernel_rfl) (by kernel_rfl) (by kernel_rfl) (fun _ _ _ h => h) (Or.inl ⟨by rfl, fun w' hSw => by go_simp⟩) hHeld ?_
            refine wpAnyH_take (i := 3) (v := .pointer (some ⟨bg, bo, none⟩)) rfl (by kernel_rfl) (by kernel_rfl) (by kernel_rfl) (fun _ _ _ h => h) (Or.inl ⟨by rfl, fun w' hSw => by go_simp⟩) hHeld ?_
            refine wpAnyH_take (i := 4) (v := .agg #[.int .i64 b0.tok.kind, .int .i64 b0.tok.pos, .string ⟨b0.tok.text.toArray⟩, .int .i64 b0.tok.int, bkv0, .int .i64 b0.takes]) rfl (by kernel_rfl) (by kernel_rfl) (by kernel_rfl) (fun _ _ _ h => h) (Or.inl ⟨by rfl, fun w' hSw => by obtain ⟨m0, m1, m2, m3, m4, m5⟩ := hSw.2; go_simp⟩) hHeld ?_
            simp only [Act.put, List.setIfInBounds_toArray, List.set_cons_zero, List.set_cons_succ]
            refine wpAnyH_ready (rs := [5]) (by kernel_rfl) (by simp) ?_
            refine AllReadyH.cons rfl (fun K hK => ?_) AllReadyH.nil
            go_simp
            refine (name_bad b0 bkv0 _ p hs).mono ?_
            rintro e wa ⟨rfl, hb⟩
            have ho : out = .error p := by
              have hx : Px.each (Px.pair (Px.expr f)) m1.list = .error p := (Px.each_take HPQ.out HE.out).2 p (by rw [Px.pair, HBN.out]; dsimp only; rw [HB0'.out, hs])
              rw [← HOUT.out, Px.letExpr, HP.out]; dsimp only; rw [HH1.out, HPS.out]; dsimp only; rw [HPL.out, hx]
            subst ho
            exact ⟨rfl, HB.out.trans ((undrew hb).mono HB.out.size), rfl⟩
          | ok s =>
            have HS := Lib.hid hs; clear hs
            go_upto_region 7 with fail
            go_cut [7] (fun s7 wx => s7 = .slice (some ⟨bg, bo, none⟩) pn.list.length pkc ∧ ∃ (np : Option Addr) (nc : Nat), Hid (wx.heap[gx]? = some (.cells #[.int .i64 4, .int .i64 n.pos, .string ⟨#[]⟩, .int .i64 0, Value.slice np (q + 1) nc, xv, .slice none 0 0] 47 (0, 0))) ∧ Hid (wx.heap[w.heap.size]? = some (.cells #[.int .i64 n.tok.kind, .int .i64 n.tok.pos, .string ⟨n.tok.text.toArray⟩, .int .i64 n.tok.int, (.slice (some ⟨g, o, none⟩) n.list.length c), .int .i64 n.takes] 105 (0, 0))) ∧ Hid (wx.heap[w.heap.size + 1]? = some (.cells #[.int .i64 0, .int .i64 0, .string ⟨#[]⟩, .int .i64 0, .slice none 0 0, .slice none 0 0, .slice none 0 0] 47 (0, 0))) ∧ Hid (wx.ownsRow (gx + 1) 9 1 (Value.slice np (q + 1) nc) (q + 1) ((bs.map fun b => .string ⟨b.1.toArray⟩) ++ [.string ⟨s.toArray⟩])) ∧ Hid (wx.ownsRow (gx + 1) 47 7 (xv) q (cellsOf (vs))) ∧ Hid (Reps (KeptS (ExprAt f) (gx + 1) wx (fun g => (Value.slice np (q + 1) nc).ownBlock = some g ∨ (xv).ownBlock = some g)) (vs) (bs.map (·.2)) ∧ ∀ u ∈ vs, ShapeExpr u) ∧ Hid (Below w.heap.size w wx))
            case first =>
              refine wp_region_any (by kernel_rfl) ?_
              have xf := ent_free EX.out
              have x0 := ent_cell EX.out 0 _ rfl
              have x1 := ent_cell EX.out 1 _ rfl
              have x2 := ent_cell EX.out 2 _ rfl
              have x3 := ent_cell EX.out 3 _ rfl
              have x4 := ent_cell EX.out 4 _ rfl
              have x5 := ent_cell EX.out 5 _ rfl
              have x6 := ent_cell EX.out 6 _ rfl
              obtain ⟨m0, m1_, m2_, m3, m4, m5⟩ := NAT.out.below HB.out
              refine wpAny_take (i := 0) (v := .pointer (some ⟨gx, 4, none⟩)) rfl (by kernel_rfl) (by kernel_rfl) (by kernel_rfl) (fun _ _ _ h => h) (Or.inl ⟨by rfl, fun w' => by go_simp⟩) ?_
              refine wpAny_take (i := 2) (v := .slice (some ⟨bg, bo, none⟩) pn.list.length pkc) rfl (by kernel_rfl) (by kernel_rfl) (by kernel_rfl) (fun _ _ _ h => h) (Or.inl ⟨by rfl, fun w' => by go_simp⟩) ?_
              refine wpAny_take (i := 3) (v := .pointer (some ⟨bg, bo, none⟩)) rfl (by kernel_rfl) (by kernel_rfl) (by kernel_rfl) (fun _ _ _ h => h) (Or.inl ⟨by rfl, fun w' => by go_simp⟩) ?_
              simp only [Act.put, List.setIfInBounds_toArray, List.set_cons_zero, List.set_cons_succ]
              refine wpAny_ready (rs := [1, 4]) (by kernel_rfl) (by simp) ?_
              refine AllReady.cons rfl (fun K hK => ?_) (AllReady.cons rfl (fun K hK => ?_) AllReady.nil)
              · go_simp
                -- 1, 4, 5, 6
                refine hK _ _ ?_
                clear hK K
                refine wpAny_ready (rs := [4]) (by kernel_rfl) (by simp) ?_
                refine AllReady.cons rfl (fun K hK => ?_) AllReady.nil
                go_simp
                refine hK _ _ ?_
                clear hK K
                refine wpAny_ready (rs := [5]) (by kernel_rfl) (by simp) ?_
                refine AllReady.cons rfl (fun K hK => ?_) AllReady.nil
                go_simp
                refine (name_ok b0 bkv0 _ s HS.out).mono ?_
                rintro e wa ⟨rfl, hb⟩
                replace hb := undrew hb
                replace EX := Lib.hid (ent_below EX.out hb); replace EN := Lib.hid (ent_below EN.out hb); replace ER := Lib.hid (ent_below ER.out hb)
                replace ON := Lib.hid (own_kept ON.out hb); replace OX := Lib.hid (own_kept OX.out hb)
                replace KX := Lib.hid (And.intro (KX.out.1.mono fun z y h => h.below hb) KX.out.2)
                replace HB := Lib.hid (HB.out.trans (hb.mono HB.out.size))
                clear hb
                refine hK _ _ ?_
                clear hK K
                refine wpAny_ready (rs := [6]) (by kernel_rfl) (by simp) ?_
                refine AllReady.cons rfl (fun K hK => ?_) AllReady.nil
                go_simp
                have hb : Below wa.heap.size wa (wa.alloc (.cells #[.string ⟨s.toArray⟩] 9)) := (Below.refl _ _).alloc (Nat.le_refl _) _
                replace EX := Lib.hid (ent_below EX.out hb); replace EN := Lib.hid (ent_below EN.out hb); replace ER := Lib.hid (ent_below ER.out hb)
                replace ON := Lib.hid (own_kept ON.out hb); replace OX := Lib.hid (own_kept OX.out hb)
                replace KX := Lib.hid (And.intro (KX.out.1.mono fun z y h => h.below hb) KX.out.2)
                replace HB := Lib.hid (HB.out.trans (hb.mono HB.out.size))
                clear hb
                refine hK _ _ ?_
                clear hK K
                refine wpAny_ready (rs := [7]) (by kernel_rfl) (by simp) ?_
                refine AllReady.cons rfl (fun K hK => ?_) AllReady.nil
                refine step_append_loc rfl (.tmp 25) (.tmp 30) 33 rfl (gx + 1) 9 i0 (.string ⟨#[]⟩) 1 16 Tryz.underlying33 SI.out SI0.out SI1.out SI2.out rfl (by decide) nv q _ rfl ON.out ⟨wa.heap.size, 0, none⟩ 1 1 [.string ⟨s.toArray⟩] rfl (by decide) rfl (fun jx u h => newStr wa ⟨s.toArray⟩ _ jx u h) (by intro u hu; simp only [List.mem_cons, List.not_mem_nil, or_false] at hu; rcases hu with rfl <;> rfl) (by unfold maxLen; omega) (by omega) (ent_lt EX.out) ?_
                intro vn wb hown hgr hloc
                obtain ⟨np, nc, rfl⟩ := own_slice hown
                have hlow : ∀ b, b ≤ gx → wb.heap[b]? = (wa.alloc (.cells #[.string ⟨s.toArray⟩] 9)).heap[b]? := fun b hb1 => hgr.block b (by have := ent_lt EX.out; omega) (fun e => by have := (ON.out.lt b e.symm).1; omega)
                replace EX := Lib.hid ((hlow gx (Nat.le_refl _)).trans EX.out); replace EN := Lib.hid ((hlow _ (by omega)).trans EN.out); replace ER := Lib.hid ((hlow _ (by omega)).trans ER.out)
                replace OX := Lib.hid (own_stays OX.out fun b hb => hgr.block b (OX.out.lt b hb).2 (fun e => own_type_ne ON.out OX.out (by decide) b e.symm hb))
                replace HB := Lib.hid (HB.out.grown hgr HB.out.size (fun kk hk => by have := (ON.out.lt kk hk).1; omega))
                replace KX := Lib.hid (And.intro (KX.out.1.mono fun z y h => h.step (S' := (fun g => (Value.slice np (q + 1) nc).ownBlock = some g ∨ xv.ownBlock = some g)) hgr.size (fun b hb1 _ hb3 => hgr.block b hb1 (fun e => hb3 (.inl e.symm))) (fun g hg => hg.elim (fun h => hloc.elim (fun e => .inl (.inl (e ▸ h))) (fun e => .inr (e g h))) (fun h => .inl (.inr h)))) KX.out.2)
                replace ON := Lib.hid hown
                clear hgr hloc hlow hown
                refine hK _ _ ?_
                clear hK K
                simp only [Act.put, List.setIfInBounds_toArray, List.set_cons_zero, List.set_cons_succ]
                refine wpAny_take (i := 8) (v := .pointer (some ⟨gx, 4, none⟩)) rfl (by kernel_rfl) (by kernel_rfl) (by kernel_rfl) (fun _ _ _ h => h) (Or.inl ⟨by rfl, fun w' => by go_simp⟩) ?_
                simp only [Act.put, List.setIfInBounds_toArray, List.set_cons_zero, List.set_cons_succ]
                have xf := ent_free EX.out
                have x0 := ent_cell EX.out 0 _ rfl
                have x1 := ent_cell EX.out 1 _ rfl
                have x2 := ent_cell EX.out 2 _ rfl
                have x3 := ent_cell EX.out 3 _ rfl
                have x4 := ent_cell EX.out 4 _ rfl
                have x5 := ent_cell EX.out 5 _ rfl
                have x6 := ent_cell EX.out 6 _ rfl
                refine wpAny_ready (rs := [9]) (by kernel_rfl) (by simp) ?_
                refine AllReady.cons rfl (fun K hK => ?_) AllReady.nil
                go_simp
                clear xf x0 x1 x2 x3 x4 x5 x6
                have hst : ∀ b, b ≠ gx → (wb.setCell ⟨gx, 4, none⟩ (.slice np (q + 1) nc)).heap[b]? = wb.heap[b]? := fun b hb => Below.heap_setCell wb ⟨gx, 4, none⟩ _ b hb
                replace EX := Lib.hid (ent_set EX.out 4 (.slice np (q + 1) nc)); replace EN := Lib.hid ((hst _ (by omega)).trans EN.out); replace ER := Lib.hid ((hst _ (by omega)).trans ER.out)
                replace ON := Lib.hid (own_stays ON.out fun b hb => hst b (by have := (ON.out.lt b hb).1; omega)); replace OX := Lib.hid (own_stays OX.out fun b hb => hst b (by have := (OX.out.lt b hb).1; omega))
                replace KX := Lib.hid (And.intro (KX.out.1.mono fun z y h => h.step (by simp) (fun b _ hb2 _ => hst b (by omega)) (fun g hg => .inl hg)) KX.out.2)
                replace HB := Lib.hid (HB.out.setCell (p := ⟨gx, 4, none⟩) (by dsimp only; omega) (.slice np (q + 1) nc))
                clear hst
                refine hK _ _ ?_
                clear hK K
                refine wpAny_done (by kernel_rfl) ?_ _
                go_wp2_with fail
                go_meet
                exact ⟨rfl, np, nc, EX, EN, ER, ON, OX, KX, HB⟩
              · go_simp
                refine hK _ _ ?_
                clear hK K
                refine wpAny_ready (rs := [1, 5]) (by kernel_rfl) (by simp) ?_
                refine AllReady.cons rfl (fun K hK => ?_) (AllReady.cons rfl (fun K hK => ?_) AllReady.nil)
                · go_simp
                  -- 4, 1, 5, 6
                  refine hK _ _ ?_
                  clear hK K
                  refine wpAny_ready (rs := [5]) (by kernel_rfl) (by simp) ?_
                  refine AllReady.cons rfl (fun K hK => ?_) AllReady.nil
                  go_simp
                  refine (name_ok b0 bkv0 _ s HS.out).mono ?_
                  rintro e wa ⟨rfl, hb⟩
                  replace hb := undrew hb
                  replace EX := Lib.hid (ent_below EX.out hb); replace EN := Lib.hid (ent_below EN.out hb); replace ER := Lib.hid (ent_below ER.out hb)
                  replace ON := Lib.hid (own_kept ON.out hb); replace OX := Lib.hid (own_kept OX.out hb)
                  replace KX := Lib.hid (And.intro (KX.out.1.mono fun z y h => h.below hb) KX.out.2)
                  replace HB := Lib.hid (HB.out.trans (hb.mono HB.out.size))
                  clear hb
                  refine hK _ _ ?_
                  clear hK K
                  refine wpAny_ready (rs := [6]) (by kernel_rfl) (by simp) ?_
                  refine AllReady.cons rfl (fun K hK => ?_) AllReady.nil
                  go_simp
                  have hb : Below wa.heap.size wa (wa.alloc (.cells #[.string ⟨s.toArray⟩] 9)) := (Below.refl _ _).alloc (Nat.le_refl _) _
                  replace EX := Lib.hid (ent_below EX.out hb); replace EN := Lib.hid (ent_below EN.out hb); replace ER := Lib.hid (ent_below ER.out hb)
                  replace ON := Lib.hid (own_kept ON.out hb); replace OX := Lib.hid (own_kept OX.out hb)
                  replace KX := Lib.hid (And.intro (KX.out.1.mono fun z y h => h.below hb) KX.out.2)
                  replace HB := Lib.hid (HB.out.trans (hb.mono HB.out.size))
                  clear hb
                  refine hK _ _ ?_
                  clear hK K
                  refine wpAny_ready (rs := [7]) (by kernel_rfl) (by simp) ?_
                  refine AllReady.cons rfl (fun K hK => ?_) AllReady.nil
                  refine step_append_loc rfl (.tmp 25) (.tmp 30) 33 rfl (gx + 1) 9 i0 (.string ⟨#[]⟩) 1 16 Tryz.underlying33 SI.out SI0.out SI1.out SI2.out rfl (by decide) nv q _ rfl ON.out ⟨wa.heap.size, 0, none⟩ 1 1 [.string ⟨s.toArray⟩] rfl (by decide) rfl (fun jx u h => newStr wa ⟨s.toArray⟩ _ jx u h) (by intro u hu; simp only [List.mem_cons, List.not_mem_nil, or_false] at hu; rcases hu with rfl <;> rfl) (by unfold maxLen; omega) (by omega) (ent_lt EX.out) ?_
                  intro vn wb hown hgr hloc
                  obtain ⟨np, nc, rfl⟩ := own_slice hown
                  have hlow : ∀ b, b ≤ gx → wb.heap[b]? = (wa.alloc (.cells #[.string ⟨s.toArray⟩] 9)).heap[b]? := fun b hb1 => hgr.block b (by have := ent_lt EX.out; omega) (fun e => by have := (ON.out.lt b e.symm).1; omega)
                  replace EX := Lib.hid ((hlow gx (Nat.le_refl _)).trans EX.out); replace EN := Lib.hid ((hlow _ (by omega)).trans EN.out); replace ER := Lib.hid ((hlow _ (by omega)).trans ER.out)
                  replace OX := Lib.hid (own_stays OX.out fun b hb => hgr.block b (OX.out.lt b hb).2 (fun e => own_type_ne ON.out OX.out (by decide) b e.symm hb))
                  replace HB := Lib.hid (HB.out.grown hgr HB.out.size (fun kk hk => by have := (ON.out.lt kk hk).1; omega))
                  replace KX := Lib.hid (And.intro (KX.out.1.mono fun z y h => h.step (S' := (fun g => (Value.slice np (q + 1) nc).ownBlock = some g ∨ xv.ownBlock = some g)) hgr.size (fun b hb1 _ hb3 => hgr.block b hb1 (fun e => hb3 (.inl e.symm))) (fun g hg => hg.elim (fun h => hloc.elim (fun e => .inl (.inl (e ▸ h))) (fun e => .inr (e g h))) (fun h => .inl (.inr h)))) KX.out.2)
                  replace ON := Lib.hid hown
                  clear hgr hloc hlow hown
                  refine hK _ _ ?_
                  clear hK K
                  simp only [Act.put, List.setIfInBounds_toArray, List.set_cons_zero, List.set_cons_succ]
                  refine wpAny_take (i := 8) (v := .pointer (some ⟨gx, 4, none⟩)) rfl (by kernel_rfl) (by kernel_rfl) (by kernel_rfl) (fun _ _ _ h => h) (Or.inl ⟨by rfl, fun w' => by go_simp⟩) ?_
                  simp only [Act.put, List.setIfInBounds_toArray, List.set_cons_zero, List.set_cons_succ]
                  have xf := ent_free EX.out
                  have x0 := ent_cell EX.out 0 _ rfl
                  have x1 := ent_cell EX.out 1 _ rfl
                  have x2 := ent_cell EX.out 2 _ rfl
                  have x3 := ent_cell EX.out 3 _ rfl
                  have x4 := ent_cell EX.out 4 _ rfl
                  have x5 := ent_cell EX.out 5 _ rfl
                  have x6 := ent_cell EX.out 6 _ rfl
                  refine wpAny_ready (rs := [9]) (by kernel_rfl) (by simp) ?_
                  refine AllReady.cons rfl (fun K hK => ?_) AllReady.nil
                  go_simp
                  clear xf x0 x1 x2 x3 x4 x5 x6
                  have hst : ∀ b, b ≠ gx → (wb.setCell ⟨gx, 4, none⟩ (.slice np (q + 1) nc)).heap[b]? = wb.heap[b]? := fun b hb => Below.heap_setCell wb ⟨gx, 4, none⟩ _ b hb
                  replace EX := Lib.hid (ent_set EX.out 4 (.slice np (q + 1) nc)); replace EN := Lib.hid ((hst _ (by omega)).trans EN.out); replace ER := Lib.hid ((hst _ (by omega)).trans ER.out)
                  replace ON := Lib.hid (own_stays ON.out fun b hb => hst b (by have := (ON.out.lt b hb).1; omega)); replace OX := Lib.hid (own_stays OX.out fun b hb => hst b (by have := (OX.out.lt b hb).1; omega))
                  replace KX := Lib.hid (And.intro (KX.out.1.mono fun z y h => h.step (by simp) (fun b _ hb2 _ => hst b (by omega)) (fun g hg => .inl hg)) KX.out.2)
                  replace HB := Lib.hid (HB.out.setCell (p := ⟨gx, 4, none⟩) (by dsimp only; omega) (.slice np (q + 1) nc))
                  clear hst
                  refine hK _ _ ?_
                  clear hK K
                  refine wpAny_done (by kernel_rfl) ?_ _
                  go_wp2_with fail
                  go_meet
                  exact ⟨rfl, np, nc, EX, EN, ER, ON, OX, KX, HB⟩
                · go_simp
                  -- 4, 5
                  refine (name_ok b0 bkv0 _ s HS.out).mono ?_
                  rintro e wa ⟨rfl, hb⟩
                  replace hb := undrew hb
                  replace EX := Lib.hid (ent_below EX.out hb); replace EN := Lib.hid (ent_below EN.out hb); replace ER := Lib.hid (ent_below ER.out hb)
                  replace ON := Lib.hid (own_kept ON.out hb); replace OX := Lib.hid (own_kept OX.out hb)
                  replace KX := Lib.hid (And.intro (KX.out.1.mono fun z y h => h.below hb) KX.out.2)
                  replace HB := Lib.hid (HB.out.trans (hb.mono HB.out.size))
                  clear hb
                  refine hK _ _ ?_
                  clear hK K
                  have xf := ent_free EX.out
                  have x0 := ent_cell EX.out 0 _ rfl
                  have x1 := ent_cell EX.out 1 _ rfl
                  have x2 := ent_cell EX.out 2 _ rfl
                  have x3 := ent_cell EX.out 3 _ rfl
                  have x4 := ent_cell EX.out 4 _ rfl
                  have x5 := ent_cell EX.out 5 _ rfl
                  have x6 := ent_cell EX.out 6 _ rfl
                  refine wpAny_ready (rs := [1, 6]) (by kernel_rfl) (by simp) ?_
                  refine AllReady.cons rfl (fun K hK => ?_) (AllReady.cons rfl (fun K hK => ?_) AllReady.nil)
                  · go_simp
                    refine hK _ _ ?_
                    clear hK K
                    refine wpAny_ready (rs := [6]) (by kernel_rfl) (by simp) ?_
                    refine AllReady.cons rfl (fun K hK => ?_) AllReady.nil
                    go_simp
                    have hb : Below wa.heap.size wa (wa.alloc (.cells #[.string ⟨s.toArray⟩] 9)) := (Below.refl _ _).alloc (Nat.le_refl _) _
                    replace EX := Lib.hid (ent_below EX.out hb); replace EN := Lib.hid (ent_below EN.out hb); replace ER := Lib.hid (ent_below ER.out hb)
                    replace ON := Lib.hid (own_kept ON.out hb); replace OX := Lib.hid (own_kept OX.out hb)
                    replace KX := Lib.hid (And.intro (KX.out.1.mono fun z y h => h.below hb) KX.out.2)
                    replace HB := Lib.hid (HB.out.trans (hb.mono HB.out.size))
                    clear hb
                    refine hK _ _ ?_
                    clear hK K
                    refine wpAny_ready (rs := [7]) (by kernel_rfl) (by simp) ?_
                    refine AllReady.cons rfl (fun K hK => ?_) AllReady.nil
                    refine step_append_loc rfl (.tmp 25) (.tmp 30) 33 rfl (gx + 1) 9 i0 (.string ⟨#[]⟩) 1 16 Tryz.underlying33 SI.out SI0.out SI1.out SI2.out rfl (by decide) nv q _ rfl ON.out ⟨wa.heap.size, 0, none⟩ 1 1 [.string ⟨s.toArray⟩] rfl (by decide) rfl (fun jx u h => newStr wa ⟨s.toArray⟩ _ jx u h) (by intro u hu; simp only [List.mem_cons, List.not_mem_nil, or_false] at hu; rcases hu with rfl <;> rfl) (by unfold maxLen; omega) (by omega) (ent_lt EX.out) ?_
                    intro vn wb hown hgr hloc
                    obtain ⟨np, nc, rfl⟩ := own_slice hown
                    have hlow : ∀ b, b ≤ gx → wb.heap[b]? = (wa.alloc (.cells #[.string ⟨s.toArray⟩] 9)).heap[b]? := fun b hb1 => hgr.block b (by have := ent_lt EX.out; omega) (fun e => by have := (ON.out.lt b e.symm).1; omega)
                    replace EX := Lib.hid ((hlow gx (Nat.le_refl _)).trans EX.out); replace EN := Lib.hid ((hlow _ (by omega)).trans EN.out); replace ER := Lib.hid ((hlow _ (by omega)).trans ER.out)
                    replace OX := Lib.hid (own_stays OX.out fun b hb => hgr.block b (OX.out.lt b hb).2 (fun e => own_type_ne ON.out OX.out (by decide) b e.symm hb))
                    replace HB := Lib.hid (HB.out.grown hgr HB.out.size (fun kk hk => by have := (ON.out.lt kk hk).1; omega))
                    replace KX := Lib.hid (And.intro (KX.out.1.mono fun z y h => h.step (S' := (fun g => (Value.slice np (q + 1) nc).ownBlock = some g ∨ xv.ownBlock = some g)) hgr.size (fun b hb1 _ hb3 => hgr.block b hb1 (fun e => hb3 (.inl e.symm))) (fun g hg => hg.elim (fun h => hloc.elim (fun e => .inl (.inl (e ▸ h))) (fun e => .inr (e g h))) (fun h => .inl (.inr h)))) KX.out.2)
                    replace ON := Lib.hid hown
                    clear hgr hloc hlow hown
                    refine hK _ _ ?_
                    clear hK K
                    simp only [Act.put, List.setIfInBounds_toArray, List.set_cons_zero, List.set_cons_succ]
                    refine wpAny_take (i := 8) (v := .pointer (some ⟨gx, 4, none⟩)) rfl (by kernel_rfl) (by kernel_rfl) (by kernel_rfl) (fun _ _ _ h => h) (Or.inl ⟨by rfl, fun w' => by go_simp⟩) ?_
                    simp only [Act.put, List.setIfInBounds_toArray, List.set_cons_zero, List.set_cons_succ]
                    have xf := ent_free EX.out
                    have x0 := ent_cell EX.out 0 _ rfl
                    have x1 := ent_cell EX.out 1 _ rfl
                    have x2 := ent_cell EX.out 2 _ rfl
                    have x3 := ent_cell EX.out 3 _ rfl
                    have x4 := ent_cell EX.out 4 _ rfl
                    have x5 := ent_cell EX.out 5 _ rfl
                    have x6 := ent_cell EX.out 6 _ rfl
                    refine wpAny_ready (rs := [9]) (by kernel_rfl) (by simp) ?_
                    refine AllReady.cons rfl (fun K hK => ?_) AllReady.nil
                    go_simp
                    clear xf x0 x1 x2 x3 x4 x5 x6
                    have hst : ∀ b, b ≠ gx → (wb.setCell ⟨gx, 4, none⟩ (.slice np (q + 1) nc)).heap[b]? = wb.heap[b]? := fun b hb => Below.heap_setCell wb ⟨gx, 4, none⟩ _ b hb
                    replace EX := Lib.hid (ent_set EX.out 4 (.slice np (q + 1) nc)); replace EN := Lib.hid ((hst _ (by omega)).trans EN.out); replace ER := Lib.hid ((hst _ (by omega)).trans ER.out)
                    replace ON := Lib.hid (own_stays ON.out fun b hb => hst b (by have := (ON.out.lt b hb).1; omega)); replace OX := Lib.hid (own_stays OX.out fun b hb => hst b (by have := (OX.out.lt b hb).1; omega))
                    replace KX := Lib.hid (And.intro (KX.out.1.mono fun z y h => h.step (by simp) (fun b _ hb2 _ => hst b (by omega)) (fun g hg => .inl hg)) KX.out.2)
                    replace HB := Lib.hid (HB.out.setCell (p := ⟨gx, 4, none⟩) (by dsimp only; omega) (.slice np (q + 1) nc))
                    clear hst
                    refine hK _ _ ?_
                    clear hK K
                    refine wpAny_done (by kernel_rfl) ?_ _
                    go_wp2_with fail
                    go_meet
                    exact ⟨rfl, np, nc, EX, EN, ER, ON, OX, KX, HB⟩
                  · go_simp
                    have hb : Below wa.heap.size wa (wa.alloc (.cells #[.string ⟨s.toArray⟩] 9)) := (Below.refl _ _).alloc (Nat.le_refl _) _
                    replace EX := Lib.hid (ent_below EX.out hb); replace EN := Lib.hid (ent_below EN.out hb); replace ER := Lib.hid (ent_below ER.out hb)
                    replace ON := Lib.hid (own_kept ON.out hb); replace OX := Lib.hid (own_kept OX.out hb)
                    replace KX := Lib.hid (And.intro (KX.out.1.mono fun z y h => h.below hb) KX.out.2)
                    replace HB := Lib.hid (HB.out.trans (hb.mono HB.out.size))
                    clear hb
                    refine hK _ _ ?_
                    clear hK K
                    have xf := ent_free EX.out
                    have x0 := ent_cell EX.out 0 _ rfl
                    have x1 := ent_cell EX.out 1 _ rfl
                    have x2 := ent_cell EX.out 2 _ rfl
                    have x3 := ent_cell EX.out 3 _ rfl
                    have x4 := ent_cell EX.out 4 _ rfl
                    have x5 := ent_cell EX.out 5 _ rfl
                    have x6 := ent_cell EX.out 6 _ rfl
                    refine wpAny_ready (rs := [1]) (by kernel_rfl) (by simp) ?_
                    refine AllReady.cons rfl (fun K hK => ?_) AllReady.nil
                    go_simp
                    clear xf x0 x1 x2 x3 x4 x5 x6
                    refine hK _ _ ?_
                    clear hK K
                    refine wpAny_ready (rs := [7]) (by kernel_rfl) (by simp) ?_
                    refine AllReady.cons rfl (fun K hK => ?_) AllReady.nil
                    refine step_append_loc rfl (.tmp 25) (.tmp 30) 33 rfl (gx + 1) 9 i0 (.string ⟨#[]⟩) 1 16 Tryz.underlying33 SI.out SI0.out SI1.out SI2.out rfl (by decide) nv q _ rfl ON.out ⟨wa.heap.size, 0, none⟩ 1 1 [.string ⟨s.toArray⟩] rfl (by decide) rfl (fun jx u h => newStr wa ⟨s.toArray⟩ _ jx u h) (by intro u hu; simp only [List.mem_cons, List.not_mem_nil, or_false] at hu; rcases hu with rfl <;> rfl) (by unfold maxLen; omega) (by omega) (ent_lt EX.out) ?_
                    intro vn wb hown hgr hloc
                    obtain ⟨np, nc, rfl⟩ := own_slice hown
                    have hlow : ∀ b, b ≤ gx → wb.heap[b]? = (wa.alloc (.cells #[.string ⟨s.toArray⟩] 9)).heap[b]? := fun b hb1 => hgr.block b (by have := ent_lt EX.out; omega) (fun e => by have := (ON.out.lt b e.symm).1; omega)
                    replace EX := Lib.hid ((hlow gx (Nat.le_refl _)).trans EX.out); replace EN := Lib.hid ((hlow _ (by omega)).trans EN.out); replace ER := Lib.hid ((hlow _ (by omega)).trans ER.out)
                    replace OX := Lib.hid (own_stays OX.out fun b hb => hgr.block b (OX.out.lt b hb).2 (fun e => own_type_ne ON.out OX.out (by decide) b e.symm hb))
                    replace HB := Lib.hid (HB.out.grown hgr HB.out.size (fun kk hk => by have := (ON.out.lt kk hk).1; omega))
                    replace KX := Lib.hid (And.intro (KX.out.1.mono fun z y h => h.step (S' := (fun g => (Value.slice np (q + 1) nc).ownBlock = some g ∨ xv.ownBlock = some g)) hgr.size (fun b hb1 _ hb3 => hgr.block b hb1 (fun e => hb3 (.inl e.symm))) (fun g hg => hg.elim (fun h => hloc.elim (fun e => .inl (.inl (e ▸ h))) (fun e => .inr (e g h))) (fun h => .inl (.inr h)))) KX.out.2)
                    replace ON := Lib.hid hown
                    clear hgr hloc hlow hown
                    refine hK _ _ ?_
                    clear hK K
                    simp only [Act.put, List.setIfInBounds_toArray, List.set_cons_zero, List.set_cons_succ]
                    refine wpAny_take (i := 8) (v := .pointer (some ⟨gx, 4, none⟩)) rfl (by kernel_rfl) (by kernel_rfl) (by kernel_rfl) (fun _ _ _ h => h) (Or.inl ⟨by rfl, fun w' => by go_simp⟩) ?_
                    simp only [Act.put, List.setIfInBounds_toArray, List.set_cons_zero, List.set_cons_succ]
                    have xf := ent_free EX.out
                    have x0 := ent_cell EX.out 0 _ rfl
                    have x1 := ent_cell EX.out 1 _ rfl
                    have x2 := ent_cell EX.out 2 _ rfl
                    have x3 := ent_cell EX.out 3 _ rfl
                    have x4 := ent_cell EX.out 4 _ rfl
                    have x5 := ent_cell EX.out 5 _ rfl
                    have x6 := ent_cell EX.out 6 _ rfl
                    refine wpAny_ready (rs := [9]) (by kernel_rfl) (by simp) ?_
                    refine AllReady.cons rfl (fun K hK => ?_) AllReady.nil
                    go_simp
                    clear xf x0 x1 x2 x3 x4 x5 x6
                    have hst : ∀ b, b ≠ gx → (wb.setCell ⟨gx, 4, none⟩ (.slice np (q + 1) nc)).heap[b]? = wb.heap[b]? := fun b hb => Below.heap_setCell wb ⟨gx, 4, none⟩ _ b hb
                    replace EX := Lib.hid (ent_set EX.out 4 (.slice np (q + 1) nc)); replace EN := Lib.hid ((hst _ (by omega)).trans EN.out); replace ER := Lib.hid ((hst _ (by omega)).trans ER.out)
                    replace ON := Lib.hid (own_stays ON.out fun b hb => hst b (by have := (ON.out.lt b hb).1; omega)); replace OX := Lib.hid (own_stays OX.out fun b hb => hst b (by have := (OX.out.lt b hb).1; omega))
                    replace KX := Lib.hid (And.intro (KX.out.1.mono fun z y h => h.step (by simp) (fun b _ hb2 _ => hst b (by omega)) (fun g hg => .inl hg)) KX.out.2)
                    replace HB := Lib.hid (HB.out.setCell (p := ⟨gx, 4, none⟩) (by dsimp only; omega) (.slice np (q + 1) nc))
                    clear hst
                    refine hK _ _ ?_
                    clear hK K
                    refine wpAny_done (by kernel_rfl) ?_ _
                    go_wp2_with fail
                    go_meet
                    exact ⟨rfl, np, nc, EX, EN, ER, ON, OX, KX, HB⟩
            case rest =>
              obtain ⟨rfl, np, nc, EX, EN, ER, ON, OX, KX, HB⟩ := hcut
              have hw6 : gx < wc.heap.size := ent_lt EX.out
              cases hx : Px.expr f b1 with
              | error p =>
                go_upto_region 8 with fail
                refine wp_region_held_drew (S := (fun w' => w'.heap[gx]? = some (.cells #[.int .i64 4, .int .i64 n.pos, .string ⟨#[]⟩, .int .i64 0, (.slice np (q + 1) nc), xv, .slice none 0 0] 47 (0, 0)) ∧ NodeAt w' bg (bo + 6) b1 bkv1)) (by kernel_rfl) (⟨EX.out, NAT1.out.below (HB.out.drew)⟩) (fun hHeld => ?_)
                refine wpAnyH_take (i := 0) (v := .pointer (some ⟨gx, 5, none⟩)) rfl (by kernel_rfl) (by kernel_rfl) (by kernel_rfl) (fun _ _ _ h => h) (Or.inl ⟨by rfl, fun w' hSw => by go_simp⟩) hHeld ?_
                refine wpAnyH_take (i := 1) (v := xv) rfl (by kernel_rfl) (by kernel_rfl) (by kernel_rfl) (fun _ _ _ h => h) (Or.inl ⟨by rfl, fun w' hSw => by have h1 := hSw.1; have q0 := ent_cell h1 0 _ rfl; have q1 := ent_cell h1 1 _ rfl; have q2 := ent_cell h1 2 _ rfl; have q3 := ent_cell h1 3 _ rfl; have q4 := ent_cell h1 4 _ rfl; have q5 := ent_cell h1 5 _ rfl; have q6 := ent_cell h1 6 _ rfl; go_simp⟩) hHeld ?_
                refine wpAnyH_take (i := 2) (v := .slice (some ⟨bg, bo, none⟩) pn.list.length pkc) rfl (by kernel_rfl) (by kernel_rfl) (by kernel_rfl) (fun _ _ _ h => h) (Or.inl ⟨by rfl, fun w' hSw => by go_simp⟩) hHeld ?_
                refine wpAnyH_take (i := 3) (v := .pointer (some ⟨bg, bo + 6, none⟩)) rfl (by kernel_rfl) (by kernel_rfl) (by kernel_rfl) (fun _ _ _ h => h) (Or.inl ⟨by rfl, fun w' hSw => by go_simp⟩) hHeld ?_
                refine wpAnyH_take (i := 4) (v := .agg #[.int .i64 b1.tok.kind, .int .i64 b1.tok.pos, .string ⟨b1.tok.text.toArray⟩, .int .i64 b1.tok.int, bkv1, .int .i64 b1.takes]) rfl (by kernel_rfl) (by kernel_rfl) (by kernel_rfl) (fun _ _ _ h => h) (Or.inl ⟨by rfl, fun w' hSw => by obtain ⟨m0, m1, m2, m3, m4, m5⟩ := hSw.2; go_simp⟩) hHeld ?_
                simp only [Act.put, List.setIfInBounds_toArray, List.set_cons_zero, List.set_cons_succ]
                refine wpAnyH_ready (rs := [5]) (by kernel_rfl) (by simp) ?_
                refine AllReadyH.cons rfl (fun K hK => ?_) AllReadyH.nil
                go_simp
                refine (HEX.out b1 bkv1 j3 _ (BK1.out.below HB.out.drew) (by have := HJ3.out; have := HJJ.out; omega)).mono ?_
                intro e wa ht
                obtain ⟨rfl, hb⟩ := toldN_bad ht hx
                have ho : out = .error p := by
                  have hx : Px.each (Px.pair (Px.expr f)) m1.list = .error p := (Px.each_take HPQ.out HE.out).2 p (by rw [Px.pair, HBN.out]; dsimp only; rw [HB0'.out, HS.out]; dsimp only; rw [HB1'.out, hx])
                  rw [← HOUT.out, Px.letExpr, HP.out]; dsimp only; rw [HH1.out, HPS.out]; dsimp only; rw [HPL.out, hx]
                subst ho
                exact ⟨rfl, HB.out.trans ((undrew hb).mono HB.out.size), rfl⟩
              | ok x =>
                have HX := Lib.hid hx; clear hx
                obtain ⟨wd, hwd⟩ : ∃ wd : World, wd = wc := ⟨wc, rfl⟩
                subst hwd
                go_upto_region 8 with fail
                refine wp_region_any (by kernel_rfl) ?_
                have xf := ent_free EX.out
                have x0 := ent_cell EX.out 0 _ rfl
                have x1 := ent_cell EX.out 1 _ rfl
                have x2 := ent_cell EX.out 2 _ rfl
                have x3 := ent_cell EX.out 3 _ rfl
                have x4 := ent_cell EX.out 4 _ rfl
                have x5 := ent_cell EX.out 5 _ rfl
                have x6 := ent_cell EX.out 6 _ rfl
                obtain ⟨m0, m1_, m2_, m3, m4, m5⟩ := NAT1.out.below HB.out
                refine wpAny_take (i := 0) (v := .pointer (some ⟨gx, 5, none⟩)) rfl (by kernel_rfl) (by kernel_rfl) (by kernel_rfl) (fun _ _ _ h => h) (Or.inl ⟨by rfl, fun w' => by go_simp⟩) ?_
                refine wpAny_take (i := 2) (v := .slice (some ⟨bg, bo, none⟩) pn.list.length pkc) rfl (by kernel_rfl) (by kernel_rfl) (by kernel_rfl) (fun _ _ _ h => h) (Or.inl ⟨by rfl, fun w' => by go_simp⟩) ?_
                refine wpAny_take (i := 3) (v := .pointer (some ⟨bg, bo + 6, none⟩)) rfl (by kernel_rfl) (by kernel_rfl) (by kernel_rfl) (fun _ _ _ h => h) (Or.inl ⟨by rfl, fun w' => by go_simp⟩) ?_
                simp only [Act.put, List.setIfInBounds_toArray, List.set_cons_zero, List.set_cons_succ]
                refine wpAny_ready (rs := [1, 4]) (by kernel_rfl) (by simp) ?_
                refine AllReady.cons rfl (fun K hK => ?_) (AllReady.cons rfl (fun K hK => ?_) AllReady.nil)
                · go_simp
                  -- 1, 4, 5, 6
                  refine hK _ _ ?_
                  clear hK K
                  refine wpAny_ready (rs := [4]) (by kernel_rfl) (by simp) ?_
                  refine AllReady.cons rfl (fun K hK => ?_) AllReady.nil
                  go_simp
                  refine hK _ _ ?_
                  clear hK K
                  refine wpAny_ready (rs := [5]) (by kernel_rfl) (by simp) ?_
                  refine AllReady.cons rfl (fun K hK => ?_) AllReady.nil
                  go_simp
                  refine (HEX.out b1 bkv1 j3 _ (BK1.out.below HB.out.drew) (by have := HJ3.out; have := HJJ.out; omega)).mono ?_
                  intro e wa ht
                  obtain ⟨av, rfl, hnew, hb⟩ := toldN_ok ht HX.out
                  obtain ⟨xk, xp, xi, xs, q1, n1, c1, q2, n2, c2, q3, n3, c3, rfl⟩ := exprAt_form f _ _ _ hnew.now
                  replace hb := undrew hb
                  have hnk := hnew.keptS (base := gx + 1) (S := fun g => (Value.slice np (q + 1) nc).ownBlock = some g ∨ xv.ownBlock = some g) (ent_lt EX.out) (fun g hg => hg.elim (fun h => (ON.out.lt g h).2) (fun h => (OX.out.lt g h).2))
                  have hshp := exprAt_shape f _ _ _ hnew.now
                  replace EX := Lib.hid (ent_below EX.out hb); replace EN := Lib.hid (ent_below EN.out hb); replace ER := Lib.hid (ent_below ER.out hb)
                  replace ON := Lib.hid (own_kept ON.out hb); replace OX := Lib.hid (own_kept OX.out hb)
                  replace KX := Lib.hid (And.intro (KX.out.1.mono fun z y h => h.below hb) KX.out.2)
                  replace HB := Lib.hid (HB.out.trans (hb.mono HB.out.size))
                  replace KX := Lib.hid (And.intro (Reps.snoc hnk KX.out.1) (fun u hu => (List.mem_append.1 hu).elim (fun h => KX.out.2 u h) (fun h => by rw [List.mem_singleton.1 h]; exact hshp)) : _ ∧ ∀ u ∈ vs ++ [.agg #[.int .i64 xk, .int .i64 xp, .string xs, .int .i64 xi, .slice q1 n1 c1, .slice q2 n2 c2, .slice q3 n3 c3]], ShapeExpr u)
                  clear hnk hshp hnew ht
                  clear hb
                  refine hK _ _ ?_
                  clear hK K
                  refine wpAny_ready (rs := [6]) (by kernel_rfl) (by simp) ?_
                  refine AllReady.cons rfl (fun K hK => ?_) AllReady.nil
                  go_simp
                  have hb : Below wa.heap.size wa (wa.alloc (.cells #[.int .i64 xk, .int .i64 xp, .string xs, .int .i64 xi, .slice q1 n1 c1, .slice q2 n2 c2, .slice q3 n3 c3] 47)) := (Below.refl _ _).alloc (Nat.le_refl _) _
                  replace EX := Lib.hid (ent_below EX.out hb); replace EN := Lib.hid (ent_below EN.out hb); replace ER := Lib.hid (ent_below ER.out hb)
                  replace ON := Lib.hid (own_kept ON.out hb); replace OX := Lib.hid (own_kept OX.out hb)
                  replace KX := Lib.hid (And.intro (KX.out.1.mono fun z y h => h.below hb) KX.out.2)
                  replace HB := Lib.hid (HB.out.trans (hb.mono HB.out.size))
                  clear hb
                  refine hK _ _ ?_
                  clear hK K
                  refine wpAny_ready (rs := [7]) (by kernel_rfl) (by simp) ?_
                  refine AllReady.cons rfl (fun K hK => ?_) AllReady.nil
                  refine step_append_loc rfl (.tmp 34) (.tmp 39) 44 rfl (gx + 1) 47 i1 (.agg #[.int .i64 0, .int .i64 0, .string ⟨#[]⟩, .int .i64 0, .slice none 0 0, .slice none 0 0, .slice none 0 0]) 7 112 Tryz.underlying44 EI.out EI0.out EI1.out EI2.out rfl (by decide) xv q _ rfl OX.out ⟨wa.heap.size, 0, none⟩ 1 1 [.int .i64 xk, .int .i64 xp, .string xs, .int .i64 xi, .slice q1 n1 c1, .slice q2 n2 c2, .slice q3 n3 c3] rfl (by decide) rfl (fun jx u h => newExpr wa (.int .i64 xk) (.int .i64 xp) (.string xs) (.int .i64 xi) (.slice q1 n1 c1) (.slice q2 n2 c2) (.slice q3 n3 c3) _ jx u h) (by intro u hu; simp only [List.mem_cons, List.not_mem_nil, or_false] at hu; rcases hu with rfl | rfl | rfl | rfl | rfl | rfl | rfl <;> rfl) (by unfold maxLen; omega) (by omega) (ent_lt EX.out) ?_
                  intro vn wb hown hgr hloc
                  obtain ⟨mp, mc, rfl⟩ := own_slice hown
                  have hlow : ∀ b, b ≤ gx → wb.heap[b]? = (wa.alloc (.cells #[.int .i64 xk, .int .i64 xp, .string xs, .int .i64 xi, .slice q1 n1 c1, .slice q2 n2 c2, .slice q3 n3 c3] 47)).heap[b]? := fun b hb1 => hgr.block b (by have := ent_lt EX.out; omega) (fun e => by have := (OX.out.lt b e.symm).1; omega)
                  replace EX := Lib.hid ((hlow gx (Nat.le_refl _)).trans EX.out); replace EN := Lib.hid ((hlow _ (by omega)).trans EN.out); replace ER := Lib.hid ((hlow _ (by omega)).trans ER.out)
                  replace ON := Lib.hid (own_stays ON.out fun b hb => hgr.block b (ON.out.lt b hb).2 (fun e => own_type_ne OX.out ON.out (by decide) b e.symm hb))
                  replace HB := Lib.hid (HB.out.grown hgr HB.out.size (fun kk hk => by have := (OX.out.lt kk hk).1; omega))
                  replace KX := Lib.hid (And.intro (KX.out.1.mono fun z y h => h.step (S' := (fun g => (Value.slice np (q + 1) nc).ownBlock = some g ∨ (Value.slice mp (q + 1) mc).ownBlock = some g)) hgr.size (fun b hb1 _ hb3 => hgr.block b hb1 (fun e => hb3 (.inr e.symm))) (fun g hg => hg.elim (fun h => .inl (.inl h)) (fun h => hloc.elim (fun e => .inl (.inr (e ▸ h))) (fun e => .inr (e g h))))) KX.out.2)
                  rw [← cellsExpr] at hown
                  replace OX := Lib.hid hown
                  clear hgr hloc hlow hown
                  refine hK _ _ ?_
                  clear hK K
                  simp only [Act.put, List.setIfInBounds_toArray, List.set_cons_zero, List.set_cons_succ]
                  refine wpAny_take (i := 8) (v := .pointer (some ⟨gx, 5, none⟩)) rfl (by kernel_rfl) (by kernel_rfl) (by kernel_rfl) (fun _ _ _ h => h) (Or.inl ⟨by rfl, fun w' => by go_simp⟩) ?_
                  simp only [Act.put, List.setIfInBounds_toArray, List.set_cons_zero, List.set_cons_succ]
                  have xf := ent_free EX.out
                  have x0 := ent_cell EX.out 0 _ rfl
                  have x1 := ent_cell EX.out 1 _ rfl
                  have x2 := ent_cell EX.out 2 _ rfl
                  have x3 := ent_cell EX.out 3 _ rfl
                  have x4 := ent_cell EX.out 4 _ rfl
                  have x5 := ent_cell EX.out 5 _ rfl
                  have x6 := ent_cell EX.out 6 _ rfl
                  refine wpAny_ready (rs := [9]) (by kernel_rfl) (by simp) ?_
                  refine AllReady.cons rfl (fun K hK => ?_) AllReady.nil
                  go_simp
                  clear xf x0 x1 x2 x3 x4 x5 x6
                  have hst : ∀ b, b ≠ gx → (wb.setCell ⟨gx, 5, none⟩ (.slice mp (q + 1) mc)).heap[b]? = wb.heap[b]? := fun b hb => Below.heap_setCell wb ⟨gx, 5, none⟩ _ b hb
                  replace EX := Lib.hid (ent_set EX.out 5 (.slice mp (q + 1) mc)); replace EN := Lib.hid ((hst _ (by omega)).trans EN.out); replace ER := Lib.hid ((hst _ (by omega)).trans ER.out)
                  replace ON := Lib.hid (own_stays ON.out fun b hb => hst b (by have := (ON.out.lt b hb).1; omega)); replace OX := Lib.hid (own_stays OX.out fun b hb => hst b (by have := (OX.out.lt b hb).1; omega))
                  replace KX := Lib.hid (And.intro (KX.out.1.mono fun z y h => h.step (by simp) (fun b _ hb2 _ => hst b (by omega)) (fun g hg => .inl hg)) KX.out.2)
                  replace HB := Lib.hid (HB.out.setCell (p := ⟨gx, 5, none⟩) (by dsimp only; omega) (.slice mp (q + 1) mc))
                  clear hst
                  refine hK _ _ ?_
                  clear hK K
                  refine wpAny_done (by kernel_rfl) ?_ _
                  have hone : Px.pair (Px.expr f) pn = .ok (s, x) := by rw [Px.pair, HBN.out]; dsimp only; rw [HB0'.out, HS.out]; dsimp only; rw [HB1'.out, HX.out]
                  have hnext := Lib.hid ((Px.each_take HPQ.out HE.out).1 (s, x) hone)
                  have hblen := HBL.out
                  clear hone
                  go_wp2_with fail
                  go_roundw
                  case rel => exact ⟨q + 1, _, _, vs ++ [.agg #[.int .i64 xk, .int .i64 xp, .string xs, .int .i64 xi, .slice q1 n1 c1, .slice q2 n2 c2, .slice q3 n3 c3]], bs ++ [(s, x)], by go_num, by omega, hnext, by simp [hblen], EX, EN, ER, by rw [List.map_append]; exact ON, OX, Lib.hid ⟨by rw [List.map_append]; exact KX.out.1, KX.out.2⟩, HB⟩
                  case measure => simp [intOf]; omega
                · go_simp
                  refine hK _ _ ?_
                  clear hK K
                  refine wpAny_ready (rs := [1, 5]) (by kernel_rfl) (by simp) ?_
                  refine AllReady.cons rfl (fun K hK => ?_) (AllReady.cons rfl (fun K hK => ?_) AllReady.nil)
                  · go_simp
                    -- 4, 1, 5, 6
                    refine hK _ _ ?_
                    clear hK K
                    refine wpAny_ready (rs := [5]) (by kernel_rfl) (by simp) ?_
                    refine AllReady.cons rfl (fun K hK => ?_) AllReady.nil
                    go_simp
                    refine (HEX.out b1 bkv1 j3 _ (BK1.out.below HB.out.drew) (by have := HJ3.out; have := HJJ.out; omega)).mono ?_
                    intro e wa ht
                    obtain ⟨av, rfl, hnew, hb⟩ := toldN_ok ht HX.out
                    obtain ⟨xk, xp, xi, xs, q1, n1, c1, q2, n2, c2, q3, n3, c3, rfl⟩ := exprAt_form f _ _ _ hnew.now
                    replace hb := undrew hb
                    have hnk := hnew.keptS (base := gx + 1) (S := fun g => (Value.slice np (q + 1) nc).ownBlock = some g ∨ xv.ownBlock = some g) (ent_lt EX.out) (fun g hg => hg.elim (fun h => (ON.out.lt g h).2) (fun h => (OX.out.lt g h).2))
                    have hshp := exprAt_shape f _ _ _ hnew.now
                    replace EX := Lib.hid (ent_below EX.out hb); replace EN := Lib.hid (ent_below EN.out hb); replace ER := Lib.hid (ent_below ER.out hb)
                    replace ON := Lib.hid (own_kept ON.out hb); replace OX := Lib.hid (own_kept OX.out hb)
                    replace KX := Lib.hid (And.intro (KX.out.1.mono fun z y h => h.below hb) KX.out.2)
                    replace HB := Lib.hid (HB.out.trans (hb.mono HB.out.size))
                    replace KX := Lib.hid (And.intro (Reps.snoc hnk KX.out.1) (fun u hu => (List.mem_append.1 hu).elim (fun h => KX.out.2 u h) (fun h => by rw [List.mem_singleton.1 h]; exact hshp)) : _ ∧ ∀ u ∈ vs ++ [.agg #[.int .i64 xk, .int .i64 xp, .string xs, .int .i64 xi, .slice q1 n1 c1, .slice q2 n2 c2, .slice q3 n3 c3]], ShapeExpr u)
                    clear hnk hshp hnew ht
                    clear hb
                    refine hK _ _ ?_
                    clear hK K
                    refine wpAny_ready (rs := [6]) (by kernel_rfl) (by simp) ?_
                    refine AllReady.cons rfl (fun K hK => ?_) AllReady.nil
                    go_simp
                    have hb : Below wa.heap.size wa (wa.alloc (.cells #[.int .i64 xk, .int .i64 xp, .string xs, .int .i64 xi, .slice q1 n1 c1, .slice q2 n2 c2, .slice q3 n3 c3] 47)) := (Below.refl _ _).alloc (Nat.le_refl _) _
                    replace EX := Lib.hid (ent_below EX.out hb); replace EN := Lib.hid (ent_below EN.out hb); replace ER := Lib.hid (ent_below ER.out hb)
                    replace ON := Lib.hid (own_kept ON.out hb); replace OX := Lib.hid (own_kept OX.out hb)
                    replace KX := Lib.hid (And.intro (KX.out.1.mono fun z y h => h.below hb) KX.out.2)
                    replace HB := Lib.hid (HB.out.trans (hb.mono HB.out.size))
                    clear hb
                    refine hK _ _ ?_
                    clear hK K
                    refine wpAny_ready (rs := [7]) (by kernel_rfl) (by simp) ?_
                    refine AllReady.cons rfl (fun K hK => ?_) AllReady.nil
                    refine step_append_loc rfl (.tmp 34) (.tmp 39) 44 rfl (gx + 1) 47 i1 (.agg #[.int .i64 0, .int .i64 0, .string ⟨#[]⟩, .int .i64 0, .slice none 0 0, .slice none 0 0, .slice none 0 0]) 7 112 Tryz.underlying44 EI.out EI0.out EI1.out EI2.out rfl (by decide) xv q _ rfl OX.out ⟨wa.heap.size, 0, none⟩ 1 1 [.int .i64 xk, .int .i64 xp, .string xs, .int .i64 xi, .slice q1 n1 c1, .slice q2 n2 c2, .slice q3 n3 c3] rfl (by decide) rfl (fun jx u h => newExpr wa (.int .i64 xk) (.int .i64 xp) (.string xs) (.int .i64 xi) (.slice q1 n1 c1) (.slice q2 n2 c2) (.slice q3 n3 c3) _ jx u h) (by intro u hu; simp only [List.mem_cons, List.not_mem_nil, or_false] at hu; rcases hu with rfl | rfl | rfl | rfl | rfl | rfl | rfl <;> rfl) (by unfold maxLen; omega) (by omega) (ent_lt EX.out) ?_
                    intro vn wb hown hgr hloc
                    obtain ⟨mp, mc, rfl⟩ := own_slice hown
                    have hlow : ∀ b, b ≤ gx → wb.heap[b]? = (wa.alloc (.cells #[.int .i64 xk, .int .i64 xp, .string xs, .int .i64 xi, .slice q1 n1 c1, .slice q2 n2 c2, .slice q3 n3 c3] 47)).heap[b]? := fun b hb1 => hgr.block b (by have := ent_lt EX.out; omega) (fun e => by have := (OX.out.lt b e.symm).1; omega)
                    replace EX := Lib.hid ((hlow gx (Nat.le_refl _)).trans EX.out); replace EN := Lib.hid ((hlow _ (by omega)).trans EN.out); replace ER := Lib.hid ((hlow _ (by omega)).trans ER.out)
                    replace ON := Lib.hid (own_stays ON.out fun b hb => hgr.block b (ON.out.lt b hb).2 (fun e => own_type_ne OX.out ON.out (by decide) b e.symm hb))
                    replace HB := Lib.hid (HB.out.grown hgr HB.out.size (fun kk hk => by have := (OX.out.lt kk hk).1; omega))
                    replace KX := Lib.hid (And.intro (KX.out.1.mono fun z y h => h.step (S' := (fun g => (Value.slice np (q + 1) nc).ownBlock = some g ∨ (Value.slice mp (q + 1) mc).ownBlock = some g)) hgr.size (fun b hb1 _ hb3 => hgr.block b hb1 (fun e => hb3 (.inr e.symm))) (fun g hg => hg.elim (fun h => .inl (.inl h)) (fun h => hloc.elim (fun e => .inl (.inr (e ▸ h))) (fun e => .inr (e g h))))) KX.out.2)
                    rw [← cellsExpr] at hown
                    replace OX := Lib.hid hown
                    clear hgr hloc hlow hown
                    refine hK _ _ ?_
                    clear hK K
                    simp only [Act.put, List.setIfInBounds_toArray, List.set_cons_zero, List.set_cons_succ]
                    refine wpAny_take (i := 8) (v := .pointer (some ⟨gx, 5, none⟩)) rfl (by kernel_rfl) (by kernel_rfl) (by kernel_rfl) (fun _ _ _ h => h) (Or.inl ⟨by rfl, fun w' => by go_simp⟩) ?_
                    simp only [Act.put, List.setIfInBounds_toArray, List.set_cons_zero, List.set_cons_succ]
                    have xf := ent_free EX.out
                    have x0 := ent_cell EX.out 0 _ rfl
                    have x1 := ent_cell EX.out 1 _ rfl
                    have x2 := ent_cell EX.out 2 _ rfl
                    have x3 := ent_cell EX.out 3 _ rfl
                    have x4 := ent_cell EX.out 4 _ rfl
                    have x5 := ent_cell EX.out 5 _ rfl
                    have x6 := ent_cell EX.out 6 _ rfl
                    refine wpAny_ready (rs := [9]) (by kernel_rfl) (by simp) ?_
                    refine AllReady.cons rfl (fun K hK => ?_) AllReady.nil
                    go_simp
                    clear xf x0 x1 x2 x3 x4 x5 x6
                    have hst : ∀ b, b ≠ gx → (wb.setCell ⟨gx, 5, none⟩ (.slice mp (q + 1) mc)).heap[b]? = wb.heap[b]? := fun b hb => Below.heap_setCell wb ⟨gx, 5, none⟩ _ b hb
                    replace EX := Lib.hid (ent_set EX.out 5 (.slice mp (q + 1) mc)); replace EN := Lib.hid ((hst _ (by omega)).trans EN.out); replace ER := Lib.hid ((hst _ (by omega)).trans ER.out)
                    replace ON := Lib.hid (own_stays ON.out fun b hb => hst b (by have := (ON.out.lt b hb).1; omega)); replace OX := Lib.hid (own_stays OX.out fun b hb => hst b (by have := (OX.out.lt b hb).1; omega))
                    replace KX := Lib.hid (And.intro (KX.out.1.mono fun z y h => h.step (by simp) (fun b _ hb2 _ => hst b (by omega)) (fun g hg => .inl hg)) KX.out.2)
                    replace HB := Lib.hid (HB.out.setCell (p := ⟨gx, 5, none⟩) (by dsimp only; omega) (.slice mp (q + 1) mc))
                    clear hst
                    refine hK _ _ ?_
                    clear hK K
                    refine wpAny_done (by kernel_rfl) ?_ _
                    have hone : Px.pair (Px.expr f) pn = .ok (s, x) := by rw [Px.pair, HBN.out]; dsimp only; rw [HB0'.out, HS.out]; dsimp only; rw [HB1'.out, HX.out]
                    have hnext := Lib.hid ((Px.each_take HPQ.out HE.out).1 (s, x) hone)
                    have hblen := HBL.out
                    clear hone
                    go_wp2_with fail
                    go_roundw
                    case rel => exact ⟨q + 1, _, _, vs ++ [.agg #[.int .i64 xk, .int .i64 xp, .string xs, .int .i64 xi, .slice q1 n1 c1, .slice q2 n2 c2, .slice q3 n3 c3]], bs ++ [(s, x)], by go_num, by omega, hnext, by simp [hblen], EX, EN, ER, by rw [List.map_append]; exact ON, OX, Lib.hid ⟨by rw [List.map_append]; exact KX.out.1, KX.out.2⟩, HB⟩
                    case measure => simp [intOf]; omega
                  · go_simp
                    -- 4, 5
                    refine (HEX.out b1 bkv1 j3 _ (BK1.out.below HB.out.drew) (by have := HJ3.out; have := HJJ.out; omega)).mono ?_
                    intro e wa ht
                    obtain ⟨av, rfl, hnew, hb⟩ := toldN_ok ht HX.out
                    obtain ⟨xk, xp, xi, xs, q1, n1, c1, q2, n2, c2, q3, n3, c3, rfl⟩ := exprAt_form f _ _ _ hnew.now
                    replace hb := undrew hb
                    have hnk := hnew.keptS (base := gx + 1) (S := fun g => (Value.slice np (q + 1) nc).ownBlock = some g ∨ xv.ownBlock = some g) (ent_lt EX.out) (fun g hg => hg.elim (fun h => (ON.out.lt g h).2) (fun h => (OX.out.lt g h).2))
                    have hshp := exprAt_shape f _ _ _ hnew.now
                    replace EX := Lib.hid (ent_below EX.out hb); replace EN := Lib.hid (ent_below EN.out hb); replace ER := Lib.hid (ent_below ER.out hb)
                    replace ON := Lib.hid (own_kept ON.out hb); replace OX := Lib.hid (own_kept OX.out hb)
                    replace KX := Lib.hid (And.intro (KX.out.1.mono fun z y h => h.below hb) KX.out.2)
                    replace HB := Lib.hid (HB.out.trans (hb.mono HB.out.size))
                    replace KX := Lib.hid (And.intro (Reps.snoc hnk KX.out.1) (fun u hu => (List.mem_append.1 hu).elim (fun h => KX.out.2 u h) (fun h => by rw [List.mem_singleton.1 h]; exact hshp)) : _ ∧ ∀ u ∈ vs ++ [.agg #[.int .i64 xk, .int .i64 xp, .string xs, .int .i64 xi, .slice q1 n1 c1, .slice q2 n2 c2, .slice q3 n3 c3]], ShapeExpr u)
                    clear hnk hshp hnew ht
                    clear hb
                    refine hK _ _ ?_
                    clear hK K
                    have xf := ent_free EX.out
                    have x0 := ent_cell EX.out 0 _ rfl
                    have x1 := ent_cell EX.out 1 _ rfl
                    have x2 := ent_cell EX.out 2 _ rfl
                    have x3 := ent_cell EX.out 3 _ rfl
                    have x4 := ent_cell EX.out 4 _ rfl
                    have x5 := ent_cell EX.out 5 _ rfl
                    have x6 := ent_cell EX.out 6 _ rfl
                    refine wpAny_ready (rs := [1, 6]) (by kernel_rfl) (by simp) ?_
                    refine AllReady.cons rfl (fun K hK => ?_) (AllReady.cons rfl (fun K hK => ?_) AllReady.nil)
                    · go_simp
                      refine hK _ _ ?_
                      clear hK K
                      refine wpAny_ready (rs := [6]) (by kernel_rfl) (by simp) ?_
                      refine AllReady.cons rfl (fun K hK => ?_) AllReady.nil
                      go_simp
                      have hb : Below wa.heap.size wa (wa.alloc (.cells #[.int .i64 xk, .int .i64 xp, .string xs, .int .i64 xi, .slice q1 n1 c1, .slice q2 n2 c2, .slice q3 n3 c3] 47)) := (Below.refl _ _).alloc (Nat.le_refl _) _
                      replace EX := Lib.hid (ent_below EX.out hb); replace EN := Lib.hid (ent_below EN.out hb); replace ER := Lib.hid (ent_below ER.out hb)
                      replace ON := Lib.hid (own_kept ON.out hb); replace OX := Lib.hid (own_kept OX.out hb)
                      replace KX := Lib.hid (And.intro (KX.out.1.mono fun z y h => h.below hb) KX.out.2)
                      replace HB := Lib.hid (HB.out.trans (hb.mono HB.out.size))
                      clear hb
                      refine hK _ _ ?_
                      clear hK K
                      refine wpAny_ready (rs := [7]) (by kernel_rfl) (by simp) ?_
                      refine AllReady.cons rfl (fun K hK => ?_) AllReady.nil
                      refine step_append_loc rfl (.tmp 34) (.tmp 39) 44 rfl (gx + 1) 47 i1 (.agg #[.int .i64 0, .int .i64 0, .string ⟨#[]⟩, .int .i64 0, .slice none 0 0, .slice none 0 0, .slice none 0 0]) 7 112 Tryz.underlying44 EI.out EI0.out EI1.out EI2.out rfl (by decide) xv q _ rfl OX.out ⟨wa.heap.size, 0, none⟩ 1 1 [.int .i64 xk, .int .i64 xp, .string xs, .int .i64 xi, .slice q1 n1 c1, .slice q2 n2 c2, .slice q3 n3 c3] rfl (by decide) rfl (fun jx u h => newExpr wa (.int .i64 xk) (.int .i64 xp) (.string xs) (.int .i64 xi) (.slice q1 n1 c1) (.slice q2 n2 c2) (.slice q3 n3 c3) _ jx u h) (by intro u hu; simp only [List.mem_cons, List.not_mem_nil, or_false] at hu; rcases hu with rfl | rfl | rfl | rfl | rfl | rfl | rfl <;> rfl) (by unfold maxLen; omega) (by omega) (ent_lt EX.out) ?_
                      intro vn wb hown hgr hloc
                      obtain ⟨mp, mc, rfl⟩ := own_slice hown
                      have hlow : ∀ b, b ≤ gx → wb.heap[b]? = (wa.alloc (.cells #[.int .i64 xk, .int .i64 xp, .string xs, .int .i64 xi, .slice q1 n1 c1, .slice q2 n2 c2, .slice q3 n3 c3] 47)).heap[b]? := fun b hb1 => hgr.block b (by have := ent_lt EX.out; omega) (fun e => by have := (OX.out.lt b e.symm).1; omega)
                      replace EX := Lib.hid ((hlow gx (Nat.le_refl _)).trans EX.out); replace EN := Lib.hid ((hlow _ (by omega)).trans EN.out); replace ER := Lib.hid ((hlow _ (by omega)).trans ER.out)
                      replace ON := Lib.hid (own_stays ON.out fun b hb => hgr.block b (ON.out.lt b hb).2 (fun e => own_type_ne OX.out ON.out (by decide) b e.symm hb))
                      replace HB := Lib.hid (HB.out.grown hgr HB.out.size (fun kk hk => by have := (OX.out.lt kk hk).1; omega))
                      replace KX := Lib.hid (And.intro (KX.out.1.mono fun z y h => h.step (S' := (fun g => (Value.slice np (q + 1) nc).ownBlock = some g ∨ (Value.slice mp (q + 1) mc).ownBlock = some g)) hgr.size (fun b hb1 _ hb3 => hgr.block b hb1 (fun e => hb3 (.inr e.symm))) (fun g hg => hg.elim (fun h => .inl (.inl h)) (fun h => hloc.elim (fun e => .inl (.inr (e ▸ h))) (fun e => .inr (e g h))))) KX.out.2)
                      rw [← cellsExpr] at hown
                      replace OX := Lib.hid hown
                      clear hgr hloc hlow hown
                      refine hK _ _ ?_
                      clear hK K
                      simp only [Act.put, List.setIfInBounds_toArray, List.set_cons_zero, List.set_cons_succ]
                      refine wpAny_take (i := 8) (v := .pointer (some ⟨gx, 5, none⟩)) rfl (by kernel_rfl) (by kernel_rfl) (by kernel_rfl) (fun _ _ _ h => h) (Or.inl ⟨by rfl, fun w' => by go_simp⟩) ?_
                      simp only [Act.put, List.setIfInBounds_toArray, List.set_cons_zero, List.set_cons_succ]
                      have xf := ent_free EX.out
                      have x0 := ent_cell EX.out 0 _ rfl
                      have x1 := ent_cell EX.out 1 _ rfl
                      have x2 := ent_cell EX.out 2 _ rfl
                      have x3 := ent_cell EX.out 3 _ rfl
                      have x4 := ent_cell EX.out 4 _ rfl
                      have x5 := ent_cell EX.out 5 _ rfl
                      have x6 := ent_cell EX.out 6 _ rfl
                      refine wpAny_ready (rs := [9]) (by kernel_rfl) (by simp) ?_
                      refine AllReady.cons rfl (fun K hK => ?_) AllReady.nil
                      go_simp
                      clear xf x0 x1 x2 x3 x4 x5 x6
                      have hst : ∀ b, b ≠ gx → (wb.setCell ⟨gx, 5, none⟩ (.slice mp (q + 1) mc)).heap[b]? = wb.heap[b]? := fun b hb => Below.heap_setCell wb ⟨gx, 5, none⟩ _ b hb
                      replace EX := Lib.hid (ent_set EX.out 5 (.slice mp (q + 1) mc)); replace EN := Lib.hid ((hst _ (by omega)).trans EN.out); replace ER := Lib.hid ((hst _ (by omega)).trans ER.out)
                      replace ON := Lib.hid (own_stays ON.out fun b hb => hst b (by have := (ON.out.lt b hb).1; omega)); replace OX := Lib.hid (own_stays OX.out fun b hb => hst b (by have := (OX.out.lt b hb).1; omega))
                      replace KX := Lib.hid (And.intro (KX.out.1.mono fun z y h => h.step (by simp) (fun b _ hb2 _ => hst b (by omega)) (fun g hg => .inl hg)) KX.out.2)
                      replace HB := Lib.hid (HB.out.setCell (p := ⟨gx, 5, none⟩) (by dsimp only; omega) (.slice mp (q + 1) mc))
                      clear hst
                      refine hK _ _ ?_
                      clear hK K
                      refine wpAny_done (by kernel_rfl) ?_ _
                      have hone : Px.pair (Px.expr f) pn = .ok (s, x) := by rw [Px.pair, HBN.out]; dsimp only; rw [HB0'.out, HS.out]; dsimp only; rw [HB1'.out, HX.out]
                      have hnext := Lib.hid ((Px.each_take HPQ.out HE.out).1 (s, x) hone)
                      have hblen := HBL.out
                      clear hone
                      go_wp2_with fail
                      go_roundw
                      case rel => exact ⟨q + 1, _, _, vs ++ [.agg #[.int .i64 xk, .int .i64 xp, .string xs, .int .i64 xi, .slice q1 n1 c1, .slice q2 n2 c2, .slice q3 n3 c3]], bs ++ [(s, x)], by go_num, by omega, hnext, by simp [hblen], EX, EN, ER, by rw [List.map_append]; exact ON, OX, Lib.hid ⟨by rw [List.map_append]; exact KX.out.1, KX.out.2⟩, HB⟩
                      case measure => simp [intOf]; omega
                    · go_simp
                      have hb : Below wa.heap.size wa (wa.alloc (.cells #[.int .i64 xk, .int .i64 xp, .string xs, .int .i64 xi, .slice q1 n1 c1, .slice q2 n2 c2, .slice q3 n3 c3] 47)) := (Below.refl _ _).alloc (Nat.le_refl _) _
                      replace EX := Lib.hid (ent_below EX.out hb); replace EN := Lib.hid (ent_below EN.out hb); replace ER := Lib.hid (ent_below ER.out hb)
                      replace ON := Lib.hid (own_kept ON.out hb); replace OX := Lib.hid (own_kept OX.out hb)
                      replace KX := Lib.hid (And.intro (KX.out.1.mono fun z y h => h.below hb) KX.out.2)
                      replace HB := Lib.hid (HB.out.trans (hb.mono HB.out.size))
                      clear hb
                      refine hK _ _ ?_
                      clear hK K
                      have xf := ent_free EX.out
                      have x0 := ent_cell EX.out 0 _ rfl
                      have x1 := ent_cell EX.out 1 _ rfl
                      have x2 := ent_cell EX.out 2 _ rfl
                      have x3 := ent_cell EX.out 3 _ rfl
                      have x4 := ent_cell EX.out 4 _ rfl
                      have x5 := ent_cell EX.out 5 _ rfl
                      have x6 := ent_cell EX.out 6 _ rfl
                      refine wpAny_ready (rs := [1]) (by kernel_rfl) (by simp) ?_
                      refine AllReady.cons rfl (fun K hK => ?_) AllReady.nil
                      go_simp
                      clear xf x0 x1 x2 x3 x4 x5 x6
                      refine hK _ _ ?_
                      clear hK K
                      refine wpAny_ready (rs := [7]) (by kernel_rfl) (by simp) ?_
                      refine AllReady.cons rfl (fun K hK => ?_) AllReady.nil
                      refine step_append_loc rfl (.tmp 34) (.tmp 39) 44 rfl (gx + 1) 47 i1 (.agg #[.int .i64 0, .int .i64 0, .string ⟨#[]⟩, .int .i64 0, .slice none 0 0, .slice none 0 0, .slice none 0 0]) 7 112 Tryz.underlying44 EI.out EI0.out EI1.out EI2.out rfl (by decide) xv q _ rfl OX.out ⟨wa.heap.size, 0, none⟩ 1 1 [.int .i64 xk, .int .i64 xp, .string xs, .int .i64 xi, .slice q1 n1 c1, .slice q2 n2 c2, .slice q3 n3 c3] rfl (by decide) rfl (fun jx u h => newExpr wa (.int .i64 xk) (.int .i64 xp) (.string xs) (.int .i64 xi) (.slice q1 n1 c1) (.slice q2 n2 c2) (.slice q3 n3 c3) _ jx u h) (by intro u hu; simp only [List.mem_cons, List.not_mem_nil, or_false] at hu; rcases hu with rfl | rfl | rfl | rfl | rfl | rfl | rfl <;> rfl) (by unfold maxLen; omega) (by omega) (ent_lt EX.out) ?_
                      intro vn wb hown hgr hloc
                      obtain ⟨mp, mc, rfl⟩ := own_slice hown
                      have hlow : ∀ b, b ≤ gx → wb.heap[b]? = (wa.alloc (.cells #[.int .i64 xk, .int .i64 xp, .string xs, .int .i64 xi, .slice q1 n1 c1, .slice q2 n2 c2, .slice q3 n3 c3] 47)).heap[b]? := fun b hb1 => hgr.block b (by have := ent_lt EX.out; omega) (fun e => by have := (OX.out.lt b e.symm).1; omega)
                      replace EX := Lib.hid ((hlow gx (Nat.le_refl _)).trans EX.out); replace EN := Lib.hid ((hlow _ (by omega)).trans EN.out); replace ER := Lib.hid ((hlow _ (by omega)).trans ER.out)
                      replace ON := Lib.hid (own_stays ON.out fun b hb => hgr.block b (ON.out.lt b hb).2 (fun e => own_type_ne OX.out ON.out (by decide) b e.symm hb))
                      replace HB := Lib.hid (HB.out.grown hgr HB.out.size (fun kk hk => by have := (OX.out.lt kk hk).1; omega))
                      replace KX := Lib.hid (And.intro (KX.out.1.mono fun z y h => h.step (S' := (fun g => (Value.slice np (q + 1) nc).ownBlock = some g ∨ (Value.slice mp (q + 1) mc).ownBlock = some g)) hgr.size (fun b hb1 _ hb3 => hgr.block b hb1 (fun e => hb3 (.inr e.symm))) (fun g hg => hg.elim (fun h => .inl (.inl h)) (fun h => hloc.elim (fun e => .inl (.inr (e ▸ h))) (fun e => .inr (e g h))))) KX.out.2)
                      rw [← cellsExpr] at hown
                      replace OX := Lib.hid hown
                      clear hgr hloc hlow hown
                      refine hK _ _ ?_
                      clear hK K
                      simp only [Act.put, List.setIfInBounds_toArray, List.set_cons_zero, List.set_cons_succ]
                      refine wpAny_take (i := 8) (v := .pointer (some ⟨gx, 5, none⟩)) rfl (by kernel_rfl) (by kernel_rfl) (by kernel_rfl) (fun _ _ _ h => h) (Or.inl ⟨by rfl, fun w' => by go_simp⟩) ?_
                      simp only [Act.put, List.setIfInBounds_toArray, List.set_cons_zero, List.set_cons_succ]
                      have xf := ent_free EX.out
                      have x0 := ent_cell EX.out 0 _ rfl
                      have x1 := ent_cell EX.out 1 _ rfl
                      have x2 := ent_cell EX.out 2 _ rfl
                      have x3 := ent_cell EX.out 3 _ rfl
                      have x4 := ent_cell EX.out 4 _ rfl
                      have x5 := ent_cell EX.out 5 _ rfl
                      have x6 := ent_cell EX.out 6 _ rfl
                      refine wpAny_ready (rs := [9]) (by kernel_rfl) (by simp) ?_
                      refine AllReady.cons rfl (fun K hK => ?_) AllReady.nil
                      go_simp
                      clear xf x0 x1 x2 x3 x4 x5 x6
                      have hst : ∀ b, b ≠ gx → (wb.setCell ⟨gx, 5, none⟩ (.slice mp (q + 1) mc)).heap[b]? = wb.heap[b]? := fun b hb => Below.heap_setCell wb ⟨gx, 5, none⟩ _ b hb
                      replace EX := Lib.hid (ent_set EX.out 5 (.slice mp (q + 1) mc)); replace EN := Lib.hid ((hst _ (by omega)).trans EN.out); replace ER := Lib.hid ((hst _ (by omega)).trans ER.out)
                      replace ON := Lib.hid (own_stays ON.out fun b hb => hst b (by have := (ON.out.lt b hb).1; omega)); replace OX := Lib.hid (own_stays OX.out fun b hb => hst b (by have := (OX.out.lt b hb).1; omega))
                      replace KX := Lib.hid (And.intro (KX.out.1.mono fun z y h => h.step (by simp) (fun b _ hb2 _ => hst b (by omega)) (fun g hg => .inl hg)) KX.out.2)
                      replace HB := Lib.hid (HB.out.setCell (p := ⟨gx, 5, none⟩) (by dsimp only; omega) (.slice mp (q + 1) mc))
                      clear hst
                      refine hK _ _ ?_
                      clear hK K
                      refine wpAny_done (by kernel_rfl) ?_ _
                      have hone : Px.pair (Px.expr f) pn = .ok (s, x) := by rw [Px.pair, HBN.out]; dsimp only; rw [HB0'.out, HS.out]; dsimp only; rw [HB1'.out, HX.out]
                      have hnext := Lib.hid ((Px.each_take HPQ.out HE.out).1 (s, x) hone)
                      have hblen := HBL.out
                      clear hone
                      go_wp2_with fail
                      go_roundw
                      case rel => exact ⟨q + 1, _, _, vs ++ [.agg #[.int .i64 xk, .int .i64 xp, .string xs, .int .i64 xi, .slice q1 n1 c1, .slice q2 n2 c2, .slice q3 n3 c3]], bs ++ [(s, x)], by go_num, by omega, hnext, by simp [hblen], EX, EN, ER, by rw [List.map_append]; exact ON, OX, Lib.hid ⟨by rw [List.map_append]; exact KX.out.1, KX.out.2⟩, HB⟩
                      case measure => simp [intOf]; omega
      · obtain rfl : q = m1.list.length := by omega
        obtain ⟨nvp, nvc, rfl⟩ := own_slice ON.out
        go_wp2_with fail
        cases hx : Px.expr f m2 with
        | error p =>
          go_upto_region 10 with fail
          refine wp_region_held_drew (S := (fun w' => w'.heap[gx]? = some (.cells #[.int .i64 4, .int .i64 n.pos, .string ⟨#[]⟩, .int .i64 0, (.slice nvp m1.list.length nvc), xv, .slice none 0 0] 47 (0, 0)) ∧ NodeAt w' g (o + 12) m2 kv2)) (by kernel_rfl) (⟨EX.out, HAT2.out.below (HB.out.drew)⟩) (fun hHeld => ?_)
          refine wpAnyH_take (i := 0) (v := .pointer (some ⟨gx, 5, none⟩)) rfl (by kernel_rfl) (by kernel_rfl) (by kernel_rfl) (fun _ _ _ h => h) (Or.inl ⟨by rfl, fun w' hSw => by go_simp⟩) hHeld ?_
          refine wpAnyH_take (i := 1) (v := xv) rfl (by kernel_rfl) (by kernel_rfl) (by kernel_rfl) (fun _ _ _ h => h) (Or.inl ⟨by rfl, fun w' hSw => by have h1 := hSw.1; have q0 := ent_cell h1 0 _ rfl; have q1 := ent_cell h1 1 _ rfl; have q2 := ent_cell h1 2 _ rfl; have q3 := ent_cell h1 3 _ rfl; have q4 := ent_cell h1 4 _ rfl; have q5 := ent_cell h1 5 _ rfl; have q6 := ent_cell h1 6 _ rfl; go_simp⟩) hHeld ?_
          refine wpAnyH_take (i := 2) (v := (.slice (some ⟨g, o, none⟩) n.list.length c)) rfl (by kernel_rfl) (by kernel_rfl) (by kernel_rfl) (fun _ _ _ h => h) (Or.inl ⟨by rfl, fun w' hSw => by go_simp⟩) hHeld ?_
          refine wpAnyH_take (i := 3) (v := .pointer (some ⟨g, o + 12, none⟩)) rfl (by kernel_rfl) (by kernel_rfl) (by kernel_rfl) (fun _ _ _ h => h) (Or.inl ⟨by rfl, fun w' hSw => by go_simp⟩) hHeld ?_
          refine wpAnyH_take (i := 4) (v := .agg #[.int .i64 m2.tok.kind, .int .i64 m2.tok.pos, .string ⟨m2.tok.text.toArray⟩, .int .i64 m2.tok.int, kv2, .int .i64 m2.takes]) rfl (by kernel_rfl) (by kernel_rfl) (by kernel_rfl) (fun _ _ _ h => h) (Or.inl ⟨by rfl, fun w' hSw => by obtain ⟨m0, m1, m2, m3, m4, m5⟩ := hSw.2; go_simp⟩) hHeld ?_
          simp only [Act.put, List.setIfInBounds_toArray, List.set_cons_zero, List.set_cons_succ]
          refine wpAnyH_ready (rs := [5]) (by kernel_rfl) (by simp) ?_
          refine AllReadyH.cons rfl (fun K hK => ?_) AllReadyH.nil
          go_simp
          refine (HEX.out m2 kv2 j _ (HKM2.out.below HB.out.drew) (by omega)).mono ?_
          intro e wa ht
          obtain ⟨rfl, hb⟩ := toldN_bad ht hx
          have ho : out = .error p := by
            have hx2 : Px.each (Px.pair (Px.expr f)) m1.list = .ok bs := by have := HE.out; rwa [List.take_length] at this
            rw [← HOUT.out, Px.letExpr, HP.out]; dsimp only; rw [HH1.out, HPS.out]; dsimp only; rw [HPL.out, hx2]; dsimp only; rw [HH2.out, hx]
          subst ho
          exact ⟨rfl, HB.out.trans ((undrew hb).mono HB.out.size), rfl⟩
        | ok x =>
          have HX := Lib.hid hx; clear hx
          go_upto_region 10 with fail
          go_cut [3] (fun s3 wx => s3 = (.slice (some ⟨g, o, none⟩) n.list.length c) ∧ ∃ (mp : Option Addr) (mc : Nat) (v : Value), Hid (wx.heap[gx]? = some (.cells #[.int .i64 4, .int .i64 n.pos, .string ⟨#[]⟩, .int .i64 0, Value.slice nvp m1.list.length nvc, Value.slice mp (m1.list.length + 1) mc, .slice none 0 0] 47 (0, 0))) ∧ Hid (wx.heap[w.heap.size]? = some (.cells #[.int .i64 n.tok.kind, .int .i64 n.tok.pos, .string ⟨n.tok.text.toArray⟩, .int .i64 n.tok.int, (.slice (some ⟨g, o, none⟩) n.list.length c), .int .i64 n.takes] 105 (0, 0))) ∧ Hid (wx.heap[w.heap.size + 1]? = some (.cells #[.int .i64 0, .int .i64 0, .string ⟨#[]⟩, .int .i64 0, .slice none 0 0, .slice none 0 0, .slice none 0 0] 47 (0, 0))) ∧ Hid (wx.ownsRow (gx + 1) 9 1 (Value.slice nvp m1.list.length nvc) m1.list.length ((bs.map fun b => .string ⟨b.1.toArray⟩))) ∧ Hid (wx.ownsRow (gx + 1) 47 7 (Value.slice mp (m1.list.length + 1) mc) (m1.list.length + 1) (cellsOf (vs ++ [v]))) ∧ Hid (Reps (KeptS (ExprAt f) (gx + 1) wx (fun g => (Value.slice nvp m1.list.length nvc).ownBlock = some g ∨ (Value.slice mp (m1.list.length + 1) mc).ownBlock = some g)) (vs ++ [v]) (bs.map (·.2) ++ [x]) ∧ ∀ u ∈ vs ++ [v], ShapeExpr u) ∧ Hid (Below w.heap.size w wx))
          case first =>
            refine wp_region_any (by kernel_rfl) ?_
            have xf := ent_free EX.out
            have x0 := ent_cell EX.out 0 _ rfl
            have x1 := ent_cell EX.out 1 _ rfl
            have x2 := ent_cell EX.out 2 _ rfl
            have x3 := ent_cell EX.out 3 _ rfl
            have x4 := ent_cell EX.out 4 _ rfl
            have x5 := ent_cell EX.out 5 _ rfl
            have x6 := ent_cell EX.out 6 _ rfl
            obtain ⟨m0, m1_, m2_, m3, m4, m5⟩ := HAT2.out.below HB.out
            refine wpAny_take (i := 0) (v := .pointer (some ⟨gx, 5, none⟩)) rfl (by kernel_rfl) (by kernel_rfl) (by kernel_rfl) (fun _ _ _ h => h) (Or.inl ⟨by rfl, fun w' => by go_simp⟩) ?_
            refine wpAny_take (i := 2) (v := (.slice (some ⟨g, o, none⟩) n.list.length c)) rfl (by kernel_rfl) (by kernel_rfl) (by kernel_rfl) (fun _ _ _ h => h) (Or.inl ⟨by rfl, fun w' => by go_simp⟩) ?_
            refine wpAny_take (i := 3) (v := .pointer (some ⟨g, o + 12, none⟩)) rfl (by kernel_rfl) (by kernel_rfl) (by kernel_rfl) (fun _ _ _ h => h) (Or.inl ⟨by rfl, fun w' => by go_simp⟩) ?_
            simp only [Act.put, List.setIfInBounds_toArray, List.set_cons_zero, List.set_cons_succ]
            refine wpAny_ready (rs := [1, 4]) (by kernel_rfl) (by simp) ?_
            refine AllReady.cons rfl (fun K hK => ?_) (AllReady.cons rfl (fun K hK => ?_) AllReady.nil)
            · go_simp
              -- 1, 4, 5, 6
              refine hK _ _ ?_
              clear hK K
              refine wpAny_ready (rs := [4]) (by kernel_rfl) (by simp) ?_
              refine AllReady.cons rfl (fun K hK => ?_) AllReady.nil
              go_simp
              refine hK _ _ ?_
              clear hK K
              refine wpAny_ready (rs := [5]) (by kernel_rfl) (by simp) ?_
              refine AllReady.cons rfl (fun K hK => ?_) AllReady.nil
              go_simp
              refine (HEX.out m2 kv2 j _ (HKM2.out.below HB.out.drew) (by omega)).mono ?_
              intro e wa ht
              obtain ⟨av, rfl, hnew, hb⟩ := toldN_ok ht HX.out
              obtain ⟨xk, xp, xi, xs, q1, n1, c1, q2, n2, c2, q3, n3, c3, rfl⟩ := exprAt_form f _ _ _ hnew.now
              replace hb := undrew hb
              have hnk := hnew.keptS (base := gx + 1) (S := fun g => (Value.slice nvp m1.list.length nvc).ownBlock = some g ∨ xv.ownBlock = some g) (ent_lt EX.out) (fun g hg => hg.elim (fun h => (ON.out.lt g h).2) (fun h => (OX.out.lt g h).2))
              have hshp := exprAt_shape f _ _ _ hnew.now
              replace EX := Lib.hid (ent_below EX.out hb); replace EN := Lib.hid (ent_below EN.out hb); replace ER := Lib.hid (ent_below ER.out hb)
              replace ON := Lib.hid (own_kept ON.out hb); replace OX := Lib.hid (own_kept OX.out hb)
              replace KX := Lib.hid (And.intro (KX.out.1.mono fun z y h => h.below hb) KX.out.2)
              replace HB := Lib.hid (HB.out.trans (hb.mono HB.out.size))
              replace KX := Lib.hid (And.intro (Reps.snoc hnk KX.out.1) (fun u hu => (List.mem_append.1 hu).elim (fun h => KX.out.2 u h) (fun h => by rw [List.mem_singleton.1 h]; exact hshp)) : _ ∧ ∀ u ∈ vs ++ [.agg #[.int .i64 xk, .int .i64 xp, .string xs, .int .i64 xi, .slice q1 n1 c1, .slice q2 n2 c2, .slice q3 n3 c3]], ShapeExpr u)
              clear hnk hshp hnew ht
              clear hb
              refine hK _ _ ?_
              clear hK K
              refine wpAny_ready (rs := [6]) (by kernel_rfl) (by simp) ?_
              refine AllReady.cons rfl (fun K hK => ?_) AllReady.nil
              go_simp
              have hb : Below wa.heap.size wa (wa.alloc (.cells #[.int .i64 xk, .int .i64 xp, .string xs, .int .i64 xi, .slice q1 n1 c1, .slice q2 n2 c2, .slice q3 n3 c3] 47)) := (Below.refl _ _).alloc (Nat.le_refl _) _
              replace EX := Lib.hid (ent_below EX.out hb); replace EN := Lib.hid (ent_below EN.out hb); replace ER := Lib.hid (ent_below ER.out hb)
              replace ON := Lib.hid (own_kept ON.out hb); replace OX := Lib.hid (own_kept OX.out hb)
              replace KX := Lib.hid (And.intro (KX.out.1.mono fun z y h => h.below hb) KX.out.2)
              replace HB := Lib.hid (HB.out.trans (hb.mono HB.out.size))
              clear hb
              refine hK _ _ ?_
              clear hK K
              refine wpAny_ready (rs := [7]) (by kernel_rfl) (by simp) ?_
              refine AllReady.cons rfl (fun K hK => ?_) AllReady.nil
              refine step_append_loc rfl (.tmp 44) (.tmp 49) 44 rfl (gx + 1) 47 i1 (.agg #[.int .i64 0, .int .i64 0, .string ⟨#[]⟩, .int .i64 0, .slice none 0 0, .slice none 0 0, .slice none 0 0]) 7 112 Tryz.underlying44 EI.out EI0.out EI1.out EI2.out rfl (by decide) xv m1.list.length _ rfl OX.out ⟨wa.heap.size, 0, none⟩ 1 1 [.int .i64 xk, .int .i64 xp, .string xs, .int .i64 xi, .slice q1 n1 c1, .slice q2 n2 c2, .slice q3 n3 c3] rfl (by decide) rfl (fun jx u h => newExpr wa (.int .i64 xk) (.int .i64 xp) (.string xs) (.int .i64 xi) (.slice q1 n1 c1) (.slice q2 n2 c2) (.slice q3 n3 c3) _ jx u h) (by intro u hu; simp only [List.mem_cons, List.not_mem_nil, or_false] at hu; rcases hu with rfl | rfl | rfl | rfl | rfl | rfl | rfl <;> rfl) (by unfold maxLen; omega) (by omega) (ent_lt EX.out) ?_
              intro vn wb hown hgr hloc
              obtain ⟨mp, mc, rfl⟩ := own_slice hown
              have hlow : ∀ b, b ≤ gx → wb.heap[b]? = (wa.alloc (.cells #[.int .i64 xk, .int .i64 xp, .string xs, .int .i64 xi, .slice q1 n1 c1, .slice q2 n2 c2, .slice q3 n3 c3] 47)).heap[b]? := fun b hb1 => hgr.block b (by have := ent_lt EX.out; omega) (fun e => by have := (OX.out.lt b e.symm).1; omega)
              replace EX := Lib.hid ((hlow gx (Nat.le_refl _)).trans EX.out); replace EN := Lib.hid ((hlow _ (by omega)).trans EN.out); replace ER := Lib.hid ((hlow _ (by omega)).trans ER.out)
              replace ON := Lib.hid (own_stays ON.out fun b hb => hgr.block b (ON.out.lt b hb).2 (fun e => own_type_ne OX.out ON.out (by decide) b e.symm hb))
              replace HB := Lib.hid (HB.out.grown hgr HB.out.size (fun kk hk => by have := (OX.out.lt kk hk).1; omega))
              replace KX := Lib.hid (And.intro (KX.out.1.mono fun z y h => h.step (S' := (fun g => (Value.slice nvp m1.list.length nvc).ownBlock = some g ∨ (Value.slice mp (m1.list.length + 1) mc).ownBlock = some g)) hgr.size (fun b hb1 _ hb3 => hgr.block b hb1 (fun e => hb3 (.inr e.symm))) (fun g hg => hg.elim (fun h => .inl (.inl h)) (fun h => hloc.elim (fun e => .inl (.inr (e ▸ h))) (fun e => .inr (e g h))))) KX.out.2)
              rw [← cellsExpr] at hown
              replace OX := Lib.hid hown
              clear hgr hloc hlow hown
              refine hK _ _ ?_
              clear hK K
              simp only [Act.put, List.setIfInBounds_toArray, List.set_cons_zero, List.set_cons_succ]
              refine wpAny_take (i := 8) (v := .pointer (some ⟨gx, 5, none⟩)) rfl (by kernel_rfl) (by kernel_rfl) (by kernel_rfl) (fun _ _ _ h => h) (Or.inl ⟨by rfl, fun w' => by go_simp⟩) ?_
              simp only [Act.put, List.setIfInBounds_toArray, List.set_cons_zero, List.set_cons_succ]
              have xf := ent_free EX.out
              have x0 := ent_cell EX.out 0 _ rfl
              have x1 := ent_cell EX.out 1 _ rfl
              have x2 := ent_cell EX.out 2 _ rfl
              have x3 := ent_cell EX.out 3 _ rfl
              have x4 := ent_cell EX.out 4 _ rfl
              have x5 := ent_cell EX.out 5 _ rfl
              have x6 := ent_cell EX.out 6 _ rfl
              refine wpAny_ready (rs := [9]) (by kernel_rfl) (by simp) ?_
              refine AllReady.cons rfl (fun K hK => ?_) AllReady.nil
              go_simp
              clear xf x0 x1 x2 x3 x4 x5 x6
              have hst : ∀ b, b ≠ gx → (wb.setCell ⟨gx, 5, none⟩ (.slice mp (m1.list.length + 1) mc)).heap[b]? = wb.heap[b]? := fun b hb => Below.heap_setCell wb ⟨gx, 5, none⟩ _ b hb
              replace EX := Lib.hid (ent_set EX.out 5 (.slice mp (m1.list.length + 1) mc)); replace EN := Lib.hid ((hst _ (by omega)).trans EN.out); replace ER := Lib.hid ((hst _ (by omega)).trans ER.out)
              replace ON := Lib.hid (own_stays ON.out fun b hb => hst b (by have := (ON.out.lt b hb).1; omega)); replace OX := Lib.hid (own_stays OX.out fun b hb => hst b (by have := (OX.out.lt b hb).1; omega))
              replace KX := Lib.hid (And.intro (KX.out.1.mono fun z y h => h.step (by simp) (fun b _ hb2 _ => hst b (by omega)) (fun g hg => .inl hg)) KX.out.2)
              replace HB := Lib.hid (HB.out.setCell (p := ⟨gx, 5, none⟩) (by dsimp only; omega) (.slice mp (m1.list.length + 1) mc))
              clear hst
              refine hK _ _ ?_
              clear hK K
              refine wpAny_done (by kernel_rfl) ?_ _
              go_wp2_with fail
              go_meet
              exact ⟨rfl, mp, mc, _, EX, EN, ER, ON, OX, KX, HB⟩
            · go_simp
              refine hK _ _ ?_
              clear hK K
              refine wpAny_ready (rs := [1, 5]) (by kernel_rfl) (by simp) ?_
              refine AllReady.cons rfl (fun K hK => ?_) (AllReady.cons rfl (fun K hK => ?_) AllReady.nil)
              · go_simp
                -- 4, 1, 5, 6
                refine hK _ _ ?_
                clear hK K
                refine wpAny_ready (rs := [5]) (by kernel_rfl) (by simp) ?_
                refine AllReady.cons rfl (fun K hK => ?_) AllReady.nil
                go_simp
                refine (HEX.out m2 kv2 j _ (HKM2.out.below HB.out.drew) (by omega)).mono ?_
                intro e wa ht
                obtain ⟨av, rfl, hnew, hb⟩ := toldN_ok ht HX.out
                obtain ⟨xk, xp, xi, xs, q1, n1, c1, q2, n2, c2, q3, n3, c3, rfl⟩ := exprAt_form f _ _ _ hnew.now
                replace hb := undrew hb
                have hnk := hnew.keptS (base := gx + 1) (S := fun g => (Value.slice nvp m1.list.length nvc).ownBlock = some g ∨ xv.ownBlock = some g) (ent_lt EX.out) (fun g hg => hg.elim (fun h => (ON.out.lt g h).2) (fun h => (OX.out.lt g h).2))
                have hshp := exprAt_shape f _ _ _ hnew.now
                replace EX := Lib.hid (ent_below EX.out hb); replace EN := Lib.hid (ent_below EN.out hb); replace ER := Lib.hid (ent_below ER.out hb)
                replace ON := Lib.hid (own_kept ON.out hb); replace OX := Lib.hid (own_kept OX.out hb)
                replace KX := Lib.hid (And.intro (KX.out.1.mono fun z y h => h.below hb) KX.out.2)
                replace HB := Lib.hid (HB.out.trans (hb.mono HB.out.size))
                replace KX := Lib.hid (And.intro (Reps.snoc hnk KX.out.1) (fun u hu => (List.mem_append.1 hu).elim (fun h => KX.out.2 u h) (fun h => by rw [List.mem_singleton.1 h]; exact hshp)) : _ ∧ ∀ u ∈ vs ++ [.agg #[.int .i64 xk, .int .i64 xp, .string xs, .int .i64 xi, .slice q1 n1 c1, .slice q2 n2 c2, .slice q3 n3 c3]], ShapeExpr u)
                clear hnk hshp hnew ht
                clear hb
                refine hK _ _ ?_
                clear hK K
                refine wpAny_ready (rs := [6]) (by kernel_rfl) (by simp) ?_
                refine AllReady.cons rfl (fun K hK => ?_) AllReady.nil
                go_simp
                have hb : Below wa.heap.size wa (wa.alloc (.cells #[.int .i64 xk, .int .i64 xp, .string xs, .int .i64 xi, .slice q1 n1 c1, .slice q2 n2 c2, .slice q3 n3 c3] 47)) := (Below.refl _ _).alloc (Nat.le_refl _) _
                replace EX := Lib.hid (ent_below EX.out hb); replace EN := Lib.hid (ent_below EN.out hb); replace ER := Lib.hid (ent_below ER.out hb)
                replace ON := Lib.hid (own_kept ON.out hb); replace OX := Lib.hid (own_kept OX.out hb)
                replace KX := Lib.hid (And.intro (KX.out.1.mono fun z y h => h.below hb) KX.out.2)
                replace HB := Lib.hid (HB.out.trans (hb.mono HB.out.size))
                clear hb
                refine hK _ _ ?_
                clear hK K
                refine wpAny_ready (rs := [7]) (by kernel_rfl) (by simp) ?_
                refine AllReady.cons rfl (fun K hK => ?_) AllReady.nil
                refine step_append_loc rfl (.tmp 44) (.tmp 49) 44 rfl (gx + 1) 47 i1 (.agg #[.int .i64 0, .int .i64 0, .string ⟨#[]⟩, .int .i64 0, .slice none 0 0, .slice none 0 0, .slice none 0 0]) 7 112 Tryz.underlying44 EI.out EI0.out EI1.out EI2.out rfl (by decide) xv m1.list.length _ rfl OX.out ⟨wa.heap.size, 0, none⟩ 1 1 [.int .i64 xk, .int .i64 xp, .string xs, .int .i64 xi, .slice q1 n1 c1, .slice q2 n2 c2, .slice q3 n3 c3] rfl (by decide) rfl (fun jx u h => newExpr wa (.int .i64 xk) (.int .i64 xp) (.string xs) (.int .i64 xi) (.slice q1 n1 c1) (.slice q2 n2 c2) (.slice q3 n3 c3) _ jx u h) (by intro u hu; simp only [List.mem_cons, List.not_mem_nil, or_false] at hu; rcases hu with rfl | rfl | rfl | rfl | rfl | rfl | rfl <;> rfl) (by unfold maxLen; omega) (by omega) (ent_lt EX.out) ?_
                intro vn wb hown hgr hloc
                obtain ⟨mp, mc, rfl⟩ := own_slice hown
                have hlow : ∀ b, b ≤ gx → wb.heap[b]? = (wa.alloc (.cells #[.int .i64 xk, .int .i64 xp, .string xs, .int .i64 xi, .slice q1 n1 c1, .slice q2 n2 c2, .slice q3 n3 c3] 47)).heap[b]? := fun b hb1 => hgr.block b (by have := ent_lt EX.out; omega) (fun e => by have := (OX.out.lt b e.symm).1; omega)
                replace EX := Lib.hid ((hlow gx (Nat.le_refl _)).trans EX.out); replace EN := Lib.hid ((hlow _ (by omega)).trans EN.out); replace ER := Lib.hid ((hlow _ (by omega)).trans ER.out)
                replace ON := Lib.hid (own_stays ON.out fun b hb => hgr.block b (ON.out.lt b hb).2 (fun e => own_type_ne OX.out ON.out (by decide) b e.symm hb))
                replace HB := Lib.hid (HB.out.grown hgr HB.out.size (fun kk hk => by have := (OX.out.lt kk hk).1; omega))
                replace KX := Lib.hid (And.intro (KX.out.1.mono fun z y h => h.step (S' := (fun g => (Value.slice nvp m1.list.length nvc).ownBlock = some g ∨ (Value.slice mp (m1.list.length + 1) mc).ownBlock = some g)) hgr.size (fun b hb1 _ hb3 => hgr.block b hb1 (fun e => hb3 (.inr e.symm))) (fun g hg => hg.elim (fun h => .inl (.inl h)) (fun h => hloc.elim (fun e => .inl (.inr (e ▸ h))) (fun e => .inr (e g h))))) KX.out.2)
                rw [← cellsExpr] at hown
                replace OX := Lib.hid hown
                clear hgr hloc hlow hown
                refine hK _ _ ?_
                clear hK K
                simp only [Act.put, List.setIfInBounds_toArray, List.set_cons_zero, List.set_cons_succ]
                refine wpAny_take (i := 8) (v := .pointer (some ⟨gx, 5, none⟩)) rfl (by kernel_rfl) (by kernel_rfl) (by kernel_rfl) (fun _ _ _ h => h) (Or.inl ⟨by rfl, fun w' => by go_simp⟩) ?_
                simp only [Act.put, List.setIfInBounds_toArray, List.set_cons_zero, List.set_cons_succ]
                have xf := ent_free EX.out
                have x0 := ent_cell EX.out 0 _ rfl
                have x1 := ent_cell EX.out 1 _ rfl
                have x2 := ent_cell EX.out 2 _ rfl
                have x3 := ent_cell EX.out 3 _ rfl
                have x4 := ent_cell EX.out 4 _ rfl
                have x5 := ent_cell EX.out 5 _ rfl
                have x6 := ent_cell EX.out 6 _ rfl
                refine wpAny_ready (rs := [9]) (by kernel_rfl) (by simp) ?_
                refine AllReady.cons rfl (fun K hK => ?_) AllReady.nil
                go_simp
                clear xf x0 x1 x2 x3 x4 x5 x6
                have hst : ∀ b, b ≠ gx → (wb.setCell ⟨gx, 5, none⟩ (.slice mp (m1.list.length + 1) mc)).heap[b]? = wb.heap[b]? := fun b hb => Below.heap_setCell wb ⟨gx, 5, none⟩ _ b hb
                replace EX := Lib.hid (ent_set EX.out 5 (.slice mp (m1.list.length + 1) mc)); replace EN := Lib.hid ((hst _ (by omega)).trans EN.out); replace ER := Lib.hid ((hst _ (by omega)).trans ER.out)
                replace ON := Lib.hid (own_stays ON.out fun b hb => hst b (by have := (ON.out.lt b hb).1; omega)); replace OX := Lib.hid (own_stays OX.out fun b hb => hst b (by have := (OX.out.lt b hb).1; omega))
                replace KX := Lib.hid (And.intro (KX.out.1.mono fun z y h => h.step (by simp) (fun b _ hb2 _ => hst b (by omega)) (fun g hg => .inl hg)) KX.out.2)
                replace HB := Lib.hid (HB.out.setCell (p := ⟨gx, 5, none⟩) (by dsimp only; omega) (.slice mp (m1.list.length + 1) mc))
                clear hst
                refine hK _ _ ?_
                clear hK K
                refine wpAny_done (by kernel_rfl) ?_ _
                go_wp2_with fail
                go_meet
                exact ⟨rfl, mp, mc, _, EX, EN, ER, ON, OX, KX, HB⟩
              · go_simp
                -- 4, 5
                refine (HEX.out m2 kv2 j _ (HKM2.out.below HB.out.drew) (by omega)).mono ?_
                intro e wa ht
                obtain ⟨av, rfl, hnew, hb⟩ := toldN_ok ht HX.out
                obtain ⟨xk, xp, xi, xs, q1, n1, c1, q2, n2, c2, q3, n3, c3, rfl⟩ := exprAt_form f _ _ _ hnew.now
                replace hb := undrew hb
                have hnk := hnew.keptS (base := gx + 1) (S := fun g => (Value.slice nvp m1.list.length nvc).ownBlock = some g ∨ xv.ownBlock = some g) (ent_lt EX.out) (fun g hg => hg.elim (fun h => (ON.out.lt g h).2) (fun h => (OX.out.lt g h).2))
                have hshp := exprAt_shape f _ _ _ hnew.now
                replace EX := Lib.hid (ent_below EX.out hb); replace EN := Lib.hid (ent_below EN.out hb); replace ER := Lib.hid (ent_below ER.out hb)
                replace ON := Lib.hid (own_kept ON.out hb); replace OX := Lib.hid (own_kept OX.out hb)
                replace KX := Lib.hid (And.intro (KX.out.1.mono fun z y h => h.below hb) KX.out.2)
                replace HB := Lib.hid (HB.out.trans (hb.mono HB.out.size))
                replace KX := Lib.hid (And.intro (Reps.snoc hnk KX.out.1) (fun u hu => (List.mem_append.1 hu).elim (fun h => KX.out.2 u h) (fun h => by rw [List.mem_singleton.1 h]; exact hshp)) : _ ∧ ∀ u ∈ vs ++ [.agg #[.int .i64 xk, .int .i64 xp, .string xs, .int .i64 xi, .slice q1 n1 c1, .slice q2 n2 c2, .slice q3 n3 c3]], ShapeExpr u)
                clear hnk hshp hnew ht
                clear hb
                refine hK _ _ ?_
                clear hK K
                have xf := ent_free EX.out
                have x0 := ent_cell EX.out 0 _ rfl
                have x1 := ent_cell EX.out 1 _ rfl
                have x2 := ent_cell EX.out 2 _ rfl
                have x3 := ent_cell EX.out 3 _ rfl
                have x4 := ent_cell EX.out 4 _ rfl
                have x5 := ent_cell EX.out 5 _ rfl
                have x6 := ent_cell EX.out 6 _ rfl
                refine wpAny_ready (rs := [1, 6]) (by kernel_rfl) (by simp) ?_
                refine AllReady.cons rfl (fun K hK => ?_) (AllReady.cons rfl (fun K hK => ?_) AllReady.nil)
                · go_simp
                  refine hK _ _ ?_
                  clear hK K
                  refine wpAny_ready (rs := [6]) (by kernel_rfl) (by simp) ?_
                  refine AllReady.cons rfl (fun K hK => ?_) AllReady.nil
                  go_simp
                  have hb : Below wa.heap.size wa (wa.alloc (.cells #[.int .i64 xk, .int .i64 xp, .string xs, .int .i64 xi, .slice q1 n1 c1, .slice q2 n2 c2, .slice q3 n3 c3] 47)) := (Below.refl _ _).alloc (Nat.le_refl _) _
                  replace EX := Lib.hid (ent_below EX.out hb); replace EN := Lib.hid (ent_below EN.out hb); replace ER := Lib.hid (ent_below ER.out hb)
                  replace ON := Lib.hid (own_kept ON.out hb); replace OX := Lib.hid (own_kept OX.out hb)
                  replace KX := Lib.hid (And.intro (KX.out.1.mono fun z y h => h.below hb) KX.out.2)
                  replace HB := Lib.hid (HB.out.trans (hb.mono HB.out.size))
                  clear hb
                  refine hK _ _ ?_
                  clear hK K
                  refine wpAny_ready (rs := [7]) (by kernel_rfl) (by simp) ?_
                  refine AllReady.cons rfl (fun K hK => ?_) AllReady.nil
                  refine step_append_loc rfl (.tmp 44) (.tmp 49) 44 rfl (gx + 1) 47 i1 (.agg #[.int .i64 0, .int .i64 0, .string ⟨#[]⟩, .int .i64 0, .slice none 0 0, .slice none 0 0, .slice none 0 0]) 7 112 Tryz.underlying44 EI.out EI0.out EI1.out EI2.out rfl (by decide) xv m1.list.length _ rfl OX.out ⟨wa.heap.size, 0, none⟩ 1 1 [.int .i64 xk, .int .i64 xp, .string xs, .int .i64 xi, .slice q1 n1 c1, .slice q2 n2 c2, .slice q3 n3 c3] rfl (by decide) rfl (fun jx u h => newExpr wa (.int .i64 xk) (.int .i64 xp) (.string xs) (.int .i64 xi) (.slice q1 n1 c1) (.slice q2 n2 c2) (.slice q3 n3 c3) _ jx u h) (by intro u hu; simp only [List.mem_cons, List.not_mem_nil, or_false] at hu; rcases hu with rfl | rfl | rfl | rfl | rfl | rfl | rfl <;> rfl) (by unfold maxLen; omega) (by omega) (ent_lt EX.out) ?_
                  intro vn wb hown hgr hloc
                  obtain ⟨mp, mc, rfl⟩ := own_slice hown
                  have hlow : ∀ b, b ≤ gx → wb.heap[b]? = (wa.alloc (.cells #[.int .i64 xk, .int .i64 xp, .string xs, .int .i64 xi, .slice q1 n1 c1, .slice q2 n2 c2, .slice q3 n3 c3] 47)).heap[b]? := fun b hb1 => hgr.block b (by have := ent_lt EX.out; omega) (fun e => by have := (OX.out.lt b e.symm).1; omega)
                  replace EX := Lib.hid ((hlow gx (Nat.le_refl _)).trans EX.out); replace EN := Lib.hid ((hlow _ (by omega)).trans EN.out); replace ER := Lib.hid ((hlow _ (by omega)).trans ER.out)
                  replace ON := Lib.hid (own_stays ON.out fun b hb => hgr.block b (ON.out.lt b hb).2 (fun e => own_type_ne OX.out ON.out (by decide) b e.symm hb))
                  replace HB := Lib.hid (HB.out.grown hgr HB.out.size (fun kk hk => by have := (OX.out.lt kk hk).1; omega))
                  replace KX := Lib.hid (And.intro (KX.out.1.mono fun z y h => h.step (S' := (fun g => (Value.slice nvp m1.list.length nvc).ownBlock = some g ∨ (Value.slice mp (m1.list.length + 1) mc).ownBlock = some g)) hgr.size (fun b hb1 _ hb3 => hgr.block b hb1 (fun e => hb3 (.inr e.symm))) (fun g hg => hg.elim (fun h => .inl (.inl h)) (fun h => hloc.elim (fun e => .inl (.inr (e ▸ h))) (fun e => .inr (e g h))))) KX.out.2)
                  rw [← cellsExpr] at hown
                  replace OX := Lib.hid hown
                  clear hgr hloc hlow hown
                  refine hK _ _ ?_
                  clear hK K
                  simp only [Act.put, List.setIfInBounds_toArray, List.set_cons_zero, List.set_cons_succ]
                  refine wpAny_take (i := 8) (v := .pointer (some ⟨gx, 5, none⟩)) rfl (by kernel_rfl) (by kernel_rfl) (by kernel_rfl) (fun _ _ _ h => h) (Or.inl ⟨by rfl, fun w' => by go_simp⟩) ?_
                  simp only [Act.put, List.setIfInBounds_toArray, List.set_cons_zero, List.set_cons_succ]
                  have xf := ent_free EX.out
                  have x0 := ent_cell EX.out 0 _ rfl
                  have x1 := ent_cell EX.out 1 _ rfl
                  have x2 := ent_cell EX.out 2 _ rfl
                  have x3 := ent_cell EX.out 3 _ rfl
                  have x4 := ent_cell EX.out 4 _ rfl
                  have x5 := ent_cell EX.out 5 _ rfl
                  have x6 := ent_cell EX.out 6 _ rfl
                  refine wpAny_ready (rs := [9]) (by kernel_rfl) (by simp) ?_
                  refine AllReady.cons rfl (fun K hK => ?_) AllReady.nil
                  go_simp
                  clear xf x0 x1 x2 x3 x4 x5 x6
                  have hst : ∀ b, b ≠ gx → (wb.setCell ⟨gx, 5, none⟩ (.slice mp (m1.list.length + 1) mc)).heap[b]? = wb.heap[b]? := fun b hb => Below.heap_setCell wb ⟨gx, 5, none⟩ _ b hb
                  replace EX := Lib.hid (ent_set EX.out 5 (.slice mp (m1.list.length + 1) mc)); replace EN := Lib.hid ((hst _ (by omega)).trans EN.out); replace ER := Lib.hid ((hst _ (by omega)).trans ER.out)
                  replace ON := Lib.hid (own_stays ON.out fun b hb => hst b (by have := (ON.out.lt b hb).1; omega)); replace OX := Lib.hid (own_stays OX.out fun b hb => hst b (by have := (OX.out.lt b hb).1; omega))
                  replace KX := Lib.hid (And.intro (KX.out.1.mono fun z y h => h.step (by simp) (fun b _ hb2 _ => hst b (by omega)) (fun g hg => .inl hg)) KX.out.2)
                  replace HB := Lib.hid (HB.out.setCell (p := ⟨gx, 5, none⟩) (by dsimp only; omega) (.slice mp (m1.list.length + 1) mc))
                  clear hst
                  refine hK _ _ ?_
                  clear hK K
                  refine wpAny_done (by kernel_rfl) ?_ _
                  go_wp2_with fail
                  go_meet
                  exact ⟨rfl, mp, mc, _, EX, EN, ER, ON, OX, KX, HB⟩
                · go_simp
                  have hb : Below wa.heap.size wa (wa.alloc (.cells #[.int .i64 xk, .int .i64 xp, .string xs, .int .i64 xi, .slice q1 n1 c1, .slice q2 n2 c2, .slice q3 n3 c3] 47)) := (Below.refl _ _).alloc (Nat.le_refl _) _
                  replace EX := Lib.hid (ent_below EX.out hb); replace EN := Lib.hid (ent_below EN.out hb); replace ER := Lib.hid (ent_below ER.out hb)
                  replace ON := Lib.hid (own_kept ON.out hb); replace OX := Lib.hid (own_kept OX.out hb)
                  replace KX := Lib.hid (And.intro (KX.out.1.mono fun z y h => h.below hb) KX.out.2)
                  replace HB := Lib.hid (HB.out.trans (hb.mono HB.out.size))
                  clear hb
                  refine hK _ _ ?_
                  clear hK K
                  have xf := ent_free EX.out
                  have x0 := ent_cell EX.out 0 _ rfl
                  have x1 := ent_cell EX.out 1 _ rfl
                  have x2 := ent_cell EX.out 2 _ rfl
                  have x3 := ent_cell EX.out 3 _ rfl
                  have x4 := ent_cell EX.out 4 _ rfl
                  have x5 := ent_cell EX.out 5 _ rfl
                  have x6 := ent_cell EX.out 6 _ rfl
                  refine wpAny_ready (rs := [1]) (by kernel_rfl) (by simp) ?_
                  refine AllReady.cons rfl (fun K hK => ?_) AllReady.nil
                  go_simp
                  clear xf x0 x1 x2 x3 x4 x5 x6
                  refine hK _ _ ?_
                  clear hK K
                  refine wpAny_ready (rs := [7]) (by kernel_rfl) (by simp) ?_
                  refine AllReady.cons rfl (fun K hK => ?_) AllReady.nil
                  refine step_append_loc rfl (.tmp 44) (.tmp 49) 44 rfl (gx + 1) 47 i1 (.agg #[.int .i64 0, .int .i64 0, .string ⟨#[]⟩, .int .i64 0, .slice none 0 0, .slice none 0 0, .slice none 0 0]) 7 112 Tryz.underlying44 EI.out EI0.out EI1.out EI2.out rfl (by decide) xv m1.list.length _ rfl OX.out ⟨wa.heap.size, 0, none⟩ 1 1 [.int .i64 xk, .int .i64 xp, .string xs, .int .i64 xi, .slice q1 n1 c1, .slice q2 n2 c2, .slice q3 n3 c3] rfl (by decide) rfl (fun jx u h => newExpr wa (.int .i64 xk) (.int .i64 xp) (.string xs) (.int .i64 xi) (.slice q1 n1 c1) (.slice q2 n2 c2) (.slice q3 n3 c3) _ jx u h) (by intro u hu; simp only [List.mem_cons, List.not_mem_nil, or_false] at hu; rcases hu with rfl | rfl | rfl | rfl | rfl | rfl | rfl <;> rfl) (by unfold maxLen; omega) (by omega) (ent_lt EX.out) ?_
                  intro vn wb hown hgr hloc
                  obtain ⟨mp, mc, rfl⟩ := own_slice hown
                  have hlow : ∀ b, b ≤ gx → wb.heap[b]? = (wa.alloc (.cells #[.int .i64 xk, .int .i64 xp, .string xs, .int .i64 xi, .slice q1 n1 c1, .slice q2 n2 c2, .slice q3 n3 c3] 47)).heap[b]? := fun b hb1 => hgr.block b (by have := ent_lt EX.out; omega) (fun e => by have := (OX.out.lt b e.symm).1; omega)
                  replace EX := Lib.hid ((hlow gx (Nat.le_refl _)).trans EX.out); replace EN := Lib.hid ((hlow _ (by omega)).trans EN.out); replace ER := Lib.hid ((hlow _ (by omega)).trans ER.out)
                  replace ON := Lib.hid (own_stays ON.out fun b hb => hgr.block b (ON.out.lt b hb).2 (fun e => own_type_ne OX.out ON.out (by decide) b e.symm hb))
                  replace HB := Lib.hid (HB.out.grown hgr HB.out.size (fun kk hk => by have := (OX.out.lt kk hk).1; omega))
                  replace KX := Lib.hid (And.intro (KX.out.1.mono fun z y h => h.step (S' := (fun g => (Value.slice nvp m1.list.length nvc).ownBlock = some g ∨ (Value.slice mp (m1.list.length + 1) mc).ownBlock = some g)) hgr.size (fun b hb1 _ hb3 => hgr.block b hb1 (fun e => hb3 (.inr e.symm))) (fun g hg => hg.elim (fun h => .inl (.inl h)) (fun h => hloc.elim (fun e => .inl (.inr (e ▸ h))) (fun e => .inr (e g h))))) KX.out.2)
                  rw [← cellsExpr] at hown
                  replace OX := Lib.hid hown
                  clear hgr hloc hlow hown
                  refine hK _ _ ?_
                  clear hK K
                  simp only [Act.put, List.setIfInBounds_toArray, List.set_cons_zero, List.set_cons_succ]
                  refine wpAny_take (i := 8) (v := .pointer (some ⟨gx, 5, none⟩)) rfl (by kernel_rfl) (by kernel_rfl) (by kernel_rfl) (fun _ _ _ h => h) (Or.inl ⟨by rfl, fun w' => by go_simp⟩) ?_
                  simp only [Act.put, List.setIfInBounds_toArray, List.set_cons_zero, List.set_cons_succ]
                  have xf := ent_free EX.out
                  have x0 := ent_cell EX.out 0 _ rfl
                  have x1 := ent_cell EX.out 1 _ rfl
                  have x2 := ent_cell EX.out 2 _ rfl
                  have x3 := ent_cell EX.out 3 _ rfl
                  have x4 := ent_cell EX.out 4 _ rfl
                  have x5 := ent_cell EX.out 5 _ rfl
                  have x6 := ent_cell EX.out 6 _ rfl
                  refine wpAny_ready (rs := [9]) (by kernel_rfl) (by simp) ?_
                  refine AllReady.cons rfl (fun K hK => ?_) AllReady.nil
                  go_simp
                  clear xf x0 x1 x2 x3 x4 x5 x6
                  have hst : ∀ b, b ≠ gx → (wb.setCell ⟨gx, 5, none⟩ (.slice mp (m1.list.length + 1) mc)).heap[b]? = wb.heap[b]? := fun b hb => Below.heap_setCell wb ⟨gx, 5, none⟩ _ b hb
                  replace EX := Lib.hid (ent_set EX.out 5 (.slice mp (m1.list.length + 1) mc)); replace EN := Lib.hid ((hst _ (by omega)).trans EN.out); replace ER := Lib.hid ((hst _ (by omega)).trans ER.out)
                  replace ON := Lib.hid (own_stays ON.out fun b hb => hst b (by have := (ON.out.lt b hb).1; omega)); replace OX := Lib.hid (own_stays OX.out fun b hb => hst b (by have := (OX.out.lt b hb).1; omega))
                  replace KX := Lib.hid (And.intro (KX.out.1.mono fun z y h => h.step (by simp) (fun b _ hb2 _ => hst b (by omega)) (fun g hg => .inl hg)) KX.out.2)
                  replace HB := Lib.hid (HB.out.setCell (p := ⟨gx, 5, none⟩) (by dsimp only; omega) (.slice mp (m1.list.length + 1) mc))
                  clear hst
                  refine hK _ _ ?_
                  clear hK K
                  refine wpAny_done (by kernel_rfl) ?_ _
                  go_wp2_with fail
                  go_meet
                  exact ⟨rfl, mp, mc, _, EX, EN, ER, ON, OX, KX, HB⟩
          case rest =>
            obtain ⟨rfl, mp, mc, v, EX, EN, ER, ON, OX, KX, HB⟩ := hcut
            have hx2 : Px.each (Px.pair (Px.expr f)) m1.list = .ok bs := by have := HE.out; rwa [List.take_length] at this
            have ho : out = .ok (.mk 4 n.pos [] 0 (bs.map (·.1)) (bs.map (·.2) ++ [x]) []) := by rw [← HOUT.out, Px.letExpr, HP.out]; dsimp only; rw [HH1.out, HPS.out]; dsimp only; rw [HPL.out, hx2]; dsimp only; rw [HH2.out, HX.out]
            subst ho
            clear hx2
            have xf := ent_free EX.out
            have x0 := ent_cell EX.out 0 _ rfl
            have x1 := ent_cell EX.out 1 _ rfl
            have x2 := ent_cell EX.out 2 _ rfl
            have x3 := ent_cell EX.out 3 _ rfl
            have x4 := ent_cell EX.out 4 _ rfl
            have x5 := ent_cell EX.out 5 _ rfl
            have x6 := ent_cell EX.out 6 _ rfl
            have rf := ent_free ER.out
            have r0 := ent_cell ER.out 0 _ rfl
            have r1 := ent_cell ER.out 1 _ rfl
            have r2 := ent_cell ER.out 2 _ rfl
            have r3 := ent_cell ER.out 3 _ rfl
            have r4 := ent_cell ER.out 4 _ rfl
            have r5 := ent_cell ER.out 5 _ rfl
            have r6 := ent_cell ER.out 6 _ rfl
            go_wp2_with fail
            refine bodyPost_ret (v := .agg #[.int .i64 4, .int .i64 n.pos, .string ⟨#[]⟩, .int .i64 0, .slice nvp m1.list.length nvc, .slice mp (m1.list.length + 1) mc, .slice none 0 0]) (by simp [results, Tryz.results144, go_sem, Px.Node.text, r0, r1, r2, r3, r4, r5, r6]) rfl ?_
            refine ⟨?_, _, rfl, fun u hu => ⟨_, _, _, rfl, ?_, ?_, row_nil _ _ _⟩⟩
            · repeat (first | with_reducible exact HB.out | with_reducible refine Below.drew ?_ | with_reducible refine Below.setCell ?_ (by dsimp only; omega) _)
            · have hown : wc.ownsRow (gx + 1) 9 1 (Value.slice nvp m1.list.length nvc) m1.list.length (cellsOf (bs.map fun b => .string ⟨b.1.toArray⟩)) := by rw [cells_strs]; exact ON.out
              refine rowS (w := wc) hown (by rw [List.length_map]; exact HBL.out.symm) (reps_strs _ _ (fun _ => False) bs (ent_lt EX.out)) (fun v hv => by obtain ⟨b, _, rfl⟩ := List.mem_map.1 hv; rfl) (fun b hb1 hb2 => (hu b (by have := ent_lt EX.out; have := HB.out.size; omega) (by simpa using hb2)).trans ?_)
              refine (show Stay (gx + 1) wc _ from ?_).2 b hb1 hb2
              repeat (first | with_reducible exact Stay.refl _ _ | with_reducible refine Stay.set ?_ _ _ _ (by omega))
            · refine rowS (w := wc) OX.out (by rw [List.length_append, List.length_map, HBL.out]; rfl) KX.out.1 (fun v hv => (KX.out.2 v hv).size) (fun b hb1 hb2 => (hu b (by have := ent_lt EX.out; have := HB.out.size; omega) (by simpa using hb2)).trans ?_)
              refine (show Stay (gx + 1) wc _ from ?_).2 b hb1 hb2
              repeat (first | with_reducible exact Stay.refl _ _ | with_reducible refine Stay.set ?_ _ _ _ (by omega))

theorem let_any (f k : Nat) (n : Px.Node) (lv : Value) (w : World) (hk : KidsAt w k lv n.list) (hex : ExprC f k) : Calls Tryz.prog 144 #[nodeV n lv] w (ToldN w (ExprAt (f + 1)) (Px.letExpr (Px.expr f) n)) := by
  cases hnd : Px.nodes n 3 3 with
  | error p =>
    have : Px.letExpr (Px.expr f) n = .error p := by rw [Px.letExpr, hnd]
    rw [this]
    exact (let_bad k n lv w hk p hnd).mono fun e w' ⟨h1, h2⟩ => ⟨h2, h1⟩
  | ok l =>
    obtain ⟨hle, h2, _, _⟩ := nodes_is hnd
    exact let_ok k n lv w hk l hnd (n.list[1]'(by rw [← hle]; omega)) (List.getElem?_eq_getElem _) (n.list[2]'(by rw [← hle]; omega)) (List.getElem?_eq_getElem _) f hex _ rfl
end Go.Proofs.YtnhndamfbeiljaaGreatDoor
