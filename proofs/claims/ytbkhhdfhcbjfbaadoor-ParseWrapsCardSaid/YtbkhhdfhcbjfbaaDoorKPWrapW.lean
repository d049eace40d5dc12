/-
  ParseWraps: its walk.
-/
import Derived.Test.YtbkhhdfhcbjfbaaDoorGTop
import Derived.Test.YtbkhhdfhcbjfbaaDoorGThy
namespace Go.Proofs.YtbkhhdfhcbjfbaaDoor
open Go Go.RowKit
set_option linter.unusedVariables false
set_option linter.unusedSimpArgs false

def wrapHead : Nat → List UInt8
  | 0 => Px.head1
  | 1 => Px.head2
  | 2 => Px.head3
  | _ => Px.head4
def wrapTail : Nat → List UInt8
  | 0 => Px.tail1
  | 1 => Px.tail2
  | 2 => Px.tail3
  | _ => Px.tail4

/-- The four heads, as the law's list has them. -/
def headVals : List Value := [.string ⟨#[40, 100, 101, 102, 32, 109, 97, 105, 110, 32, 40, 41, 32]⟩, .string ⟨#[40, 100, 101, 102, 32, 109, 97, 105, 110, 32, 40, 41, 32, 40, 114, 101, 32]⟩, .string ⟨#[40, 100, 101, 102, 32, 109, 97, 105, 110, 32, 40, 41, 32, 40, 108, 101, 116, 32, 40, 40, 113, 32]⟩, .string ⟨#[40, 100, 101, 102, 32, 109, 97, 105, 110, 32, 40, 41, 32, 40, 99, 97, 115, 101, 32, 49, 32, 40, 95, 32]⟩]
def HeadsAt (w : World) (g : Nat) : Prop := ∀ (j : Nat) v, headVals[j]? = some v → w.cell? ⟨g, j, none⟩ = some v
theorem wcell_at {w wr : World} {g : Nat} (h : HeadsAt w g) (hb : Below w.heap.size w wr) (j : Nat) (hj : j < 4) : wr.cell? ⟨g, j, none⟩ = some (headVals[j]'hj) := by
  have := h j _ (List.getElem?_eq_getElem hj)
  rw [hb.cell (World.block_lt_of_cell? w _ this)]; exact this

theorem exprAt_parts {f : Nat} {w : World} {v : Value} {x : Px.Expr} (h : ExprAt f w v x) : ∃ (i : Int) (s : ByteArray) (q1 : Option Addr) (n1 c1 : Nat) (q2 : Option Addr) (c2 : Nat) (q3 : Option Addr) (n3 c3 : Nat),
    v = .agg #[.int .i64 x.kindN, .int .i64 x.posN, .string s, .int .i64 i, .slice q1 n1 c1, .slice q2 x.argsL.length c2, .slice q3 n3 c3] := by
  cases f with
  | zero => exact h.elim
  | succ f =>
    obtain ⟨k, p, nm, i, ns, args, al⟩ := x
    obtain ⟨nv, xv, av, rfl, h1, h2, h3⟩ := h
    obtain ⟨q1, c1, rfl⟩ := h1.len
    obtain ⟨q2, c2, rfl⟩ := h2.len
    obtain ⟨q3, c3, rfl⟩ := h3.len
    exact ⟨_, _, _, _, _, _, _, _, _, _, rfl⟩

/-- The one definition of a program: its body's cells. -/
theorem one_def {w : World} {v : Value} {nm : List UInt8} {ps : List (List UInt8)} {p : Nat} {x : Px.Expr} (h : ProgAt 50 w v ⟨[], [⟨p, nm, ps, x⟩]⟩) :
    ∃ (q1 : Option Addr) (c1 g o c2 : Nat) (b0 b1 b2 b3 b4 b5 b6 : Value), v = .agg #[.slice q1 0 c1, .slice (some ⟨g, o, none⟩) 1 c2] ∧ 1 ≤ c2 ∧ (c2 : Int) ≤ 9223372036854775807 ∧ ExprAt 50 w (.agg #[b0, b1, b2, b3, b4, b5, b6]) x ∧
      w.cell? ⟨g, o + 3, none⟩ = some b0 ∧ w.cell? ⟨g, o + 4, none⟩ = some b1 ∧ w.cell? ⟨g, o + 5, none⟩ = some b2 ∧ w.cell? ⟨g, o + 6, none⟩ = some b3 ∧ w.cell? ⟨g, o + 7, none⟩ = some b4 ∧ w.cell? ⟨g, o + 8, none⟩ = some b5 ∧ w.cell? ⟨g, o + 9, none⟩ = some b6 := by
  obtain ⟨dv, fv, rfl, hd1, hd2⟩ := h
  obtain ⟨q1, c1, rfl⟩ := hd1.len
  rcases hd2 with ⟨h, _⟩ | ⟨g, o, c, rfl, hc1, hc2, hc3⟩
  · exact absurd h (by simp)
  obtain ⟨u, ⟨nv, b0, b1, b2, b3, b4, b5, b6, rfl, _, hx⟩, _, hcell⟩ := hc3 0 _ rfl
  refine ⟨q1, c1, g, o, c, b0, b1, b2, b3, b4, b5, b6, rfl, hc1, hc2, hx, ?_, ?_, ?_, ?_, ?_, ?_, ?_⟩
  · have := hcell 3 b0 rfl; simpa using this
  · have := hcell 4 b1 rfl; simpa using this
  · have := hcell 5 b2 rfl; simpa using this
  · have := hcell 6 b3 rfl; simpa using this
  · have := hcell 7 b4 rfl; simpa using this
  · have := hcell 8 b5 rfl; simpa using this
  · have := hcell 9 b6 rfl; simpa using this

/-- The seven cells of an expression from a place on. -/
def SevenAt (w : World) (g o : Nat) (v : Value) : Prop := ∀ (j : Nat) z, v.cells[j]? = some z → w.cell? ⟨g, o + j, none⟩ = some z

theorem args_first {f : Nat} {w : World} {v : Value} {k p : Nat} {nm : List UInt8} {i : Int} {ns : List (List UInt8)} {y : Px.Expr} {ys : List Px.Expr} {al : List (Px.Pat × Px.Expr)} (h : ExprAt (f + 1) w v (.mk k p nm i ns (y :: ys) al)) :
    ∃ (q1 : Option Addr) (n1 c1 g o c2 : Nat) (q3 : Option Addr) (n3 c3 : Nat) (u : Value), v = .agg #[.int .i64 k, .int .i64 p, .string ⟨nm.toArray⟩, .int .i64 i, .slice q1 n1 c1, .slice (some ⟨g, o, none⟩) (ys.length + 1) c2, .slice q3 n3 c3] ∧
      ys.length + 1 ≤ c2 ∧ (c2 : Int) ≤ 9223372036854775807 ∧ ExprAt f w u y ∧ SevenAt w g o u := by
  obtain ⟨nv, xv, av, rfl, h1, h2, h3⟩ := h
  obtain ⟨q1, c1, rfl⟩ := h1.len
  obtain ⟨q3, c3, rfl⟩ := h3.len
  rcases h2 with ⟨h, _⟩ | ⟨g, o, c, rfl, hc1, hc2, hc3⟩
  · exact absurd h (by simp)
  obtain ⟨u, hu, _, hcell⟩ := hc3 0 _ rfl
  exact ⟨q1, _, c1, g, o, c, q3, _, c3, u, rfl, hc1, hc2, hu, fun j z hz => by have := hcell j z hz; simpa using this⟩
theorem alts_first {f : Nat} {w : World} {v : Value} {k p : Nat} {nm : List UInt8} {i : Int} {ns : List (List UInt8)} {xs : List Px.Expr} {c : Px.Pat} {y : Px.Expr} (h : ExprAt (f + 1) w v (.mk k p nm i ns xs [(c, y)])) :
    ∃ (q1 : Option Addr) (n1 c1 : Nat) (q2 : Option Addr) (n2 c2 g o c3 : Nat) (u : Value), v = .agg #[.int .i64 k, .int .i64 p, .string ⟨nm.toArray⟩, .int .i64 i, .slice q1 n1 c1, .slice q2 n2 c2, .slice (some ⟨g, o, none⟩) 1 c3] ∧
      1 ≤ c3 ∧ (c3 : Int) ≤ 9223372036854775807 ∧ ExprAt f w u y ∧ SevenAt w g (o + 5) u := by
  obtain ⟨nv, xv, av, rfl, h1, h2, h3⟩ := h
  obtain ⟨q1, c1, rfl⟩ := h1.len
  obtain ⟨q2, c2, rfl⟩ := h2.len
  rcases h3 with ⟨h, _⟩ | ⟨g, o, c, rfl, hc1, hc2, hc3⟩
  · exact absurd h (by simp)
  obtain ⟨u, ⟨a0, a1, a2, a3, a4, b0, b1, b2, b3, b4, b5, b6, rfl, _, hx⟩, _, hcell⟩ := hc3 0 _ rfl
  refine ⟨q1, _, c1, q2, _, c2, g, o, c, _, rfl, hc1, hc2, hx, fun j z hz => ?_⟩
  have hj : j < 7 := by have := (Array.getElem?_eq_some_iff.1 hz).1; simpa [Value.cells] using this
  have := hcell (5 + j) z (by
    have e : j = 0 ∨ j = 1 ∨ j = 2 ∨ j = 3 ∨ j = 4 ∨ j = 5 ∨ j = 6 := by omega
    rcases e with rfl | rfl | rfl | rfl | rfl | rfl | rfl <;> exact hz)
  rw [← this]; congr 2; omega

set_option maxHeartbeats 8000000 in
set_option maxRecDepth 100000 in
theorem parseWraps_any (w : World) (a0 : Option Addr) (len0 cap0 : Nat) (l : List UInt8) (hsrc : SrcAt w (.slice a0 len0 cap0) l) (hsl : SliceAt w (.slice a0 len0 cap0) l) (hl : l.length = len0) (hbig : len0 ≤ 140737488351232) :
    Calls Tryd.prog 6 #[.slice a0 len0 cap0] w fun e w' => e = .returned (.bool true) ∧ Below w.heap.size w w' := by
  have HSRC0 := Lib.hid hsrc; have HSL := Lib.hid hsl; have HL := Lib.hid hl
  clear hsrc hsl hl
  go_enter Tryd.func6, Tryd.ntmps6
  go_wp2_with fail
  refine (livesP_any _).mono ?_
  rintro e w1 ⟨rfl, hb1⟩
  have HB1 := Lib.hid hb1; clear hb1
  by_cases hlong : 1500 < len0
  · have hl2 : (1500 : Int) < (len0 : Int) := by omega
    have hb1 : decide ((1500 : Int) < (len0 : Int)) = true := by simpa using hl2
    go_wp2_with fail
    refine (livesP_any _).mono ?_
    rintro e w2 ⟨rfl, hb2⟩
    have HB2 := Lib.hid (HB1.out.trans (hb2.mono HB1.out.size)); clear hb2
    go_wp2_with fail
    go_ret
    exact ⟨rfl, HB2.out⟩
  · have hl2 : ¬ (1500 : Int) < (len0 : Int) := by omega
    have hb1 : decide ((1500 : Int) < (len0 : Int)) = false := by simpa using hl2
    go_wp2_with fail
    have HEX := Lib.hid (Expr_any _ l _ (sliceAt_below' HSL.out HB1.out))
    refine HEX.out.mono ?_
    rintro e w2 ⟨hb2, hres⟩
    have HB2 := Lib.hid (HB1.out.trans (hb2.mono HB1.out.size)); clear hb2 HEX
    have hll := HL.out
    cases hout : Px.exprOf l with
    | lex q =>
      rw [hout] at hres
      obtain rfl : e = _ := hres
      have hq0 : (Lx.tk 0 l).2 = some q := by
        unfold Px.exprOf Px.parsed at hout
        rw [if_neg (by omega)] at hout
        show (Lx.toks (l.length + 1) 0 l).2 = some q
        cases ht : Lx.toks (l.length + 1) 0 l with
        | mk ts o =>
          rw [ht] at hout
          cases o with
          | some q' => simp only [Px.Outcome.lex.injEq] at hout; subst hout; rfl
          | none =>
            simp only at hout
            cases hr : Px.onlyExpr l.length ts with
            | error p => rw [hr] at hout; cases hout
            | ok x => rw [hr] at hout; cases hout
      have hqb : q ≤ 1500 := by have := Lx.toks_at (l.length + 1) 0 l q hq0; omega
      have HQ0 := Lib.hid hq0; clear hq0 hout
      go_wp2_with fail
      have hW0 : ∃ W0, W0 = ((w2.alloc (.cells #[.int .i64 0, .int .i64 0, .string ⟨#[]⟩, .int .i64 0, .slice none 0 0, .slice none 0 0, .slice none 0 0] 38)).alloc (.cells #[.string ⟨#[40, 100, 101, 102, 32, 109, 97, 105, 110, 32, 40, 41, 32]⟩, .string ⟨#[40, 100, 101, 102, 32, 109, 97, 105, 110, 32, 40, 41, 32, 40, 114, 101, 32]⟩, .string ⟨#[40, 100, 101, 102, 32, 109, 97, 105, 110, 32, 40, 41, 32, 40, 108, 101, 116, 32, 40, 40, 113, 32]⟩, .string ⟨#[40, 100, 101, 102, 32, 109, 97, 105, 110, 32, 40, 41, 32, 40, 99, 97, 115, 101, 32, 49, 32, 40, 95, 32]⟩] 9)) := ⟨_, rfl⟩
      obtain ⟨W0, hW0⟩ := hW0
      have hW0b : Below w.heap.size w W0 := by rw [hW0]; exact (HB2.out.alloc HB2.out.size _).alloc (by have := HB2.out.size; simp; omega) _
      have hI : HeadsAt W0 (w2.heap.size + 1) := by
        intro j v hj
        have e : (w2.alloc (.cells #[.int .i64 0, .int .i64 0, .string ⟨#[]⟩, .int .i64 0, .slice none 0 0, .slice none 0 0, .slice none 0 0] 38)).heap.size = w2.heap.size + 1 := by simp
        rw [hW0, ← e, World.cell?_alloc_mark]
        simpa [headVals] using hj
      have hEX : W0.heap[w2.heap.size]? = some (.cells #[.int .i64 0, .int .i64 0, .string ⟨#[]⟩, .int .i64 0, .slice none 0 0, .slice none 0 0, .slice none 0 0] 38 (0, 0)) := by rw [hW0]; exact ent_alloc (ent_new w2 _ _) _
      have hsrc0 : ∀ wr, Below W0.heap.size W0 wr → (convert 22 9 (.slice a0 len0 cap0)).run Tryd.prog wr = .ok (.string ⟨l.toArray⟩) wr := fun wr hb => ((HSRC0.out.below (hW0b.trans (hb.mono hW0b.size)))).conv
      have hsli0 : ∀ wr, Below W0.heap.size W0 wr → SliceAt wr (.slice a0 len0 cap0) l := fun wr hb => sliceAt_below' HSL.out (hW0b.trans (hb.mono hW0b.size))
      rw [← hW0]
      have HW0 := Lib.hid hW0b; have HI := Lib.hid hI; have HEX := Lib.hid hEX; have HSRC := Lib.hid hsrc0; have HSLI := Lib.hid hsli0
      have hgx : w2.heap.size < W0.heap.size := ent_lt hEX
      clear hW0b hI hEX hsrc0 hsli0 hW0
      go_loopw [29] (fun i wr => ∃ k : Nat, i = .int .i64 k ∧ k ≤ 4 ∧ Below W0.heap.size W0 wr) (fun i _ => 4 - (intOf i).toNat)
      case atStart => exact ⟨0, rfl, by omega, Below.refl _ _⟩
      case round =>
        obtain ⟨k, rfl, hk, hb⟩ := hrel
        have HB := Lib.hid hb
        have hsz := hb.size
        clear hb
        have hk5 : k = 0 ∨ k = 1 ∨ k = 2 ∨ k = 3 ∨ k = 4 := by omega
        rcases hk5 with rfl | rfl | rfl | rfl | rfl
        · have hpx : Px.program (Px.head1 ++ (l ++ 10 :: Px.tail1)) = .lex (q + 13) := Px.wrap_lex Px.head1 Px.tail1 l 13 q rfl (fun l' => ⟨_, Px.tk_head1 l'⟩) HQ0.out (by simp only [List.length_append, List.length_cons, Px.head1, Px.head1, Px.tail1, List.length_nil]; omega)
          have HPX := Lib.hid hpx; clear hpx
          have s1 := sum_text (w := wr) [40, 100, 101, 102, 32, 109, 97, 105, 110, 32, 40, 41, 32] l (by simp only [List.length_cons, List.length_nil]; omega)
          have s2 := sum_text (w := wr) ([40, 100, 101, 102, 32, 109, 97, 105, 110, 32, 40, 41, 32] ++ l) [10, 41] (by simp only [List.length_append, List.length_cons, List.length_nil]; omega)
          have hcs := HSRC.out wr HB.out
          obtain ⟨W, hW⟩ : ∃ W, W = [40, 100, 101, 102, 32, 109, 97, 105, 110, 32, 40, 41, 32] ++ l ++ [10, 41] := ⟨_, rfl⟩
          have HW := Lib.hid (show W = Px.head1 ++ (l ++ 10 :: Px.tail1) by rw [hW, List.append_assoc]; rfl)
          have hWl : W.length ≤ 2000 := by rw [hW]; simp only [List.length_append, List.length_cons, List.length_nil]; omega
          have s3 : (Op.stringOp .add ⟨(40 :: 100 :: 101 :: 102 :: 32 :: 109 :: 97 :: 105 :: 110 :: 32 :: 40 :: 41 :: 32 :: l).toArray⟩ ⟨#[10, 41]⟩).run Tryd.prog wr = .ok (.string ⟨W.toArray⟩) wr := by rw [hW]; exact s2
          clear s2
          have hcv := conv_text wr W
          have hq := program_of_text wr W (by omega)
          have HQ := Lib.hid hq
          clear hq hW
          have i0 : wr.cell? ⟨w2.heap.size + 1, 0, none⟩ = some (.string ⟨#[40, 100, 101, 102, 32, 109, 97, 105, 110, 32, 40, 41, 32]⟩) := wcell_at HI.out HB.out 0 (by decide)
          go_wp2_with fail
          refine HQ.out.mono ?_
          rintro e w5 ⟨hb5, hres5⟩
          have HB5 := Lib.hid (HB.out.trans (((Lib.bytesWorld_below wr 5 ⟨W.toArray⟩).trans (hb5.mono (by rw [Lib.bytesWorld_size]; omega))).mono hsz))
          have hs5 := HB5.out.size
          rw [HW.out, HPX.out] at hres5
          obtain rfl : e = _ := hres5
          clear hb5 HQ hcv hcs s1 s3
          go_wp2_with fail
          go_roundw
          case rel => exact ⟨1, by go_num, by omega, HB5.out.alloc hs5 _⟩
          case measure => simp [intOf]
        · have hpx : Px.program (Px.head2 ++ (l ++ 10 :: Px.tail2)) = .lex (q + 17) := Px.wrap_lex Px.head2 Px.tail2 l 17 q rfl (fun l' => ⟨_, Px.tk_head2 l'⟩) HQ0.out (by simp only [List.length_append, List.length_cons, Px.head2, Px.head1, Px.tail2, List.length_nil]; omega)
          have HPX := Lib.hid hpx; clear hpx
          have s1 := sum_text (w := wr) [40, 100, 101, 102, 32, 109, 97, 105, 110, 32, 40, 41, 32, 40, 114, 101, 32] l (by simp only [List.length_cons, List.length_nil]; omega)
          have s2 := sum_text (w := wr) ([40, 100, 101, 102, 32, 109, 97, 105, 110, 32, 40, 41, 32, 40, 114, 101, 32] ++ l) [10, 41, 41] (by simp only [List.length_append, List.length_cons, List.length_nil]; omega)
          have hcs := HSRC.out wr HB.out
          obtain ⟨W, hW⟩ : ∃ W, W = [40, 100, 101, 102, 32, 109, 97, 105, 110, 32, 40, 41, 32, 40, 114, 101, 32] ++ l ++ [10, 41, 41] := ⟨_, rfl⟩
          have HW := Lib.hid (show W = Px.head2 ++ (l ++ 10 :: Px.tail2) by rw [hW, List.append_assoc]; rfl)
          have hWl : W.length ≤ 2000 := by rw [hW]; simp only [List.length_append, List.length_cons, List.length_nil]; omega
          have s3 : (Op.stringOp .add ⟨(40 :: 100 :: 101 :: 102 :: 32 :: 109 :: 97 :: 105 :: 110 :: 32 :: 40 :: 41 :: 32 :: 40 :: 114 :: 101 :: 32 :: l).toArray⟩ ⟨#[10, 41, 41]⟩).run Tryd.prog wr = .ok (.string ⟨W.toArray⟩) wr := by rw [hW]; exact s2
          clear s2
          have hcv := conv_text wr W
          have hq := program_of_text wr W (by omega)
          have HQ := Lib.hid hq
          clear hq hW
          have i0 : wr.cell? ⟨w2.heap.size + 1, 1, none⟩ = some (.string ⟨#[40, 100, 101, 102, 32, 109, 97, 105, 110, 32, 40, 41, 32, 40, 114, 101, 32]⟩) := wcell_at HI.out HB.out 1 (by decide)
          go_wp2_with fail
          refine HQ.out.mono ?_
          rintro e w5 ⟨hb5, hres5⟩
          have HB5 := Lib.hid (HB.out.trans (((Lib.bytesWorld_below wr 5 ⟨W.toArray⟩).trans (hb5.mono (by rw [Lib.bytesWorld_size]; omega))).mono hsz))
          have hs5 := HB5.out.size
          rw [HW.out, HPX.out] at hres5
          obtain rfl : e = _ := hres5
          clear hb5 HQ hcv hcs s1 s3
          go_wp2_with fail
          go_roundw
          case rel => exact ⟨2, by go_num, by omega, HB5.out.alloc hs5 _⟩
          case measure => simp [intOf]
        · have hpx : Px.program (Px.head3 ++ (l ++ 10 :: Px.tail3)) = .lex (q + 22) := Px.wrap_lex Px.head3 Px.tail3 l 22 q rfl (fun l' => ⟨_, Px.tk_head3 l'⟩) HQ0.out (by simp only [List.length_append, List.length_cons, Px.head3, Px.head1, Px.tail3, List.length_nil]; omega)
          have HPX := Lib.hid hpx; clear hpx
          have s1 := sum_text (w := wr) [40, 100, 101, 102, 32, 109, 97, 105, 110, 32, 40, 41, 32, 40, 108, 101, 116, 32, 40, 40, 113, 32] l (by simp only [List.length_cons, List.length_nil]; omega)
          have s2 := sum_text (w := wr) ([40, 100, 101, 102, 32, 109, 97, 105, 110, 32, 40, 41, 32, 40, 108, 101, 116, 32, 40, 40, 113, 32] ++ l) [10, 41, 41, 32, 113, 41, 41] (by simp only [List.length_append, List.length_cons, List.length_nil]; omega)
          have hcs := HSRC.out wr HB.out
          obtain ⟨W, hW⟩ : ∃ W, W = [40, 100, 101, 102, 32, 109, 97, 105, 110, 32, 40, 41, 32, 40, 108, 101, 116, 32, 40, 40, 113, 32] ++ l ++ [10, 41, 41, 32, 113, 41, 41] := ⟨_, rfl⟩
          have HW := Lib.hid (show W = Px.head3 ++ (l ++ 10 :: Px.tail3) by rw [hW, List.append_assoc]; rfl)
          have hWl : W.length ≤ 2000 := by rw [hW]; simp only [List.length_append, List.length_cons, List.length_nil]; omega
          have s3 : (Op.stringOp .add ⟨(40 :: 100 :: 101 :: 102 :: 32 :: 109 :: 97 :: 105 :: 110 :: 32 :: 40 :: 41 :: 32 :: 40 :: 108 :: 101 :: 116 :: 32 :: 40 :: 40 :: 113 :: 32 :: l).toArray⟩ ⟨#[10, 41, 41, 32, 113, 41, 41]⟩).run Tryd.prog wr = .ok (.string ⟨W.toArray⟩) wr := by rw [hW]; exact s2
          clear s2
          have hcv := conv_text wr W
          have hq := program_of_text wr W (by omega)
          have HQ := Lib.hid hq
          clear hq hW
          have i0 : wr.cell? ⟨w2.heap.size + 1, 2, none⟩ = some (.string ⟨#[40, 100, 101, 102, 32, 109, 97, 105, 110, 32, 40, 41, 32, 40, 108, 101, 116, 32, 40, 40, 113, 32]⟩) := wcell_at HI.out HB.out 2 (by decide)
          go_wp2_with fail
          refine HQ.out.mono ?_
          rintro e w5 ⟨hb5, hres5⟩
          have HB5 := Lib.hid (HB.out.trans (((Lib.bytesWorld_below wr 5 ⟨W.toArray⟩).trans (hb5.mono (by rw [Lib.bytesWorld_size]; omega))).mono hsz))
          have hs5 := HB5.out.size
          rw [HW.out, HPX.out] at hres5
          obtain rfl : e = _ := hres5
          clear hb5 HQ hcv hcs s1 s3
          go_wp2_with fail
          go_roundw
          case rel => exact ⟨3, by go_num, by omega, HB5.out.alloc hs5 _⟩
          case measure => simp [intOf]
        · have hpx : Px.program (Px.head4 ++ (l ++ 10 :: Px.tail4)) = .lex (q + 24) := Px.wrap_lex Px.head4 Px.tail4 l 24 q rfl (fun l' => ⟨_, Px.tk_head4 l'⟩) HQ0.out (by simp only [List.length_append, List.length_cons, Px.head4, Px.head1, Px.tail4, List.length_nil]; omega)
          have HPX := Lib.hid hpx; clear hpx
          have s1 := sum_text (w := wr) [40, 100, 101, 102, 32, 109, 97, 105, 110, 32, 40, 41, 32, 40, 99, 97, 115, 101, 32, 49, 32, 40, 95, 32] l (by simp only [List.length_cons, List.length_nil]; omega)
          have s2 := sum_text (w := wr) ([40, 100, 101, 102, 32, 109, 97, 105, 110, 32, 40, 41, 32, 40, 99, 97, 115, 101, 32, 49, 32, 40, 95, 32] ++ l) [10, 41, 41, 41] (by simp only [List.length_append, List.length_cons, List.length_nil]; omega)
          have hcs := HSRC.out wr HB.out
          obtain ⟨W, hW⟩ : ∃ W, W = [40, 100, 101, 102, 32, 109, 97, 105, 110, 32, 40, 41, 32, 40, 99, 97, 115, 101, 32, 49, 32, 40, 95, 32] ++ l ++ [10, 41, 41, 41] := ⟨_, rfl⟩
          have HW := Lib.hid (show W = Px.head4 ++ (l ++ 10 :: Px.tail4) by rw [hW, List.append_assoc]; rfl)
          have hWl : W.length ≤ 2000 := by rw [hW]; simp only [List.length_append, List.length_cons, List.length_nil]; omega
          have s3 : (Op.stringOp .add ⟨(40 :: 100 :: 101 :: 102 :: 32 :: 109 :: 97 :: 105 :: 110 :: 32 :: 40 :: 41 :: 32 :: 40 :: 99 :: 97 :: 115 :: 101 :: 32 :: 49 :: 32 :: 40 :: 95 :: 32 :: l).toArray⟩ ⟨#[10, 41, 41, 41]⟩).run Tryd.prog wr = .ok (.string ⟨W.toArray⟩) wr := by rw [hW]; exact s2
          clear s2
          have hcv := conv_text wr W
          have hq := program_of_text wr W (by omega)
          have HQ := Lib.hid hq
          clear hq hW
          have i0 : wr.cell? ⟨w2.heap.size + 1, 3, none⟩ = some (.string ⟨#[40, 100, 101, 102, 32, 109, 97, 105, 110, 32, 40, 41, 32, 40, 99, 97, 115, 101, 32, 49, 32, 40, 95, 32]⟩) := wcell_at HI.out HB.out 3 (by decide)
          go_wp2_with fail
          refine HQ.out.mono ?_
          rintro e w5 ⟨hb5, hres5⟩
          have HB5 := Lib.hid (HB.out.trans (((Lib.bytesWorld_below wr 5 ⟨W.toArray⟩).trans (hb5.mono (by rw [Lib.bytesWorld_size]; omega))).mono hsz))
          have hs5 := HB5.out.size
          rw [HW.out, HPX.out] at hres5
          obtain rfl : e = _ := hres5
          clear hb5 HQ hcv hcs s1 s3
          go_wp2_with fail
          go_roundw
          case rel => exact ⟨4, by go_num, by omega, HB5.out.alloc hs5 _⟩
          case measure => simp [intOf]
        · have hfin : Below w.heap.size w wr := HW0.out.trans (HB.out.mono HW0.out.size)
          have HF := Lib.hid hfin; clear hfin
          go_wp2_with fail
          go_ret
          exact ⟨rfl, HF.out⟩
    | parse q =>
      rw [hout] at hres
      obtain rfl : e = _ := hres
      clear hout
      go_wp2_with fail
      have hW0 : ∃ W0, W0 = ((w2.alloc (.cells #[.int .i64 0, .int .i64 0, .string ⟨#[]⟩, .int .i64 0, .slice none 0 0, .slice none 0 0, .slice none 0 0] 38)).alloc (.cells #[.string ⟨#[40, 100, 101, 102, 32, 109, 97, 105, 110, 32, 40, 41, 32]⟩, .string ⟨#[40, 100, 101, 102, 32, 109, 97, 105, 110, 32, 40, 41, 32, 40, 114, 101, 32]⟩, .string ⟨#[40, 100, 101, 102, 32, 109, 97, 105, 110, 32, 40, 41, 32, 40, 108, 101, 116, 32, 40, 40, 113, 32]⟩, .string ⟨#[40, 100, 101, 102, 32, 109, 97, 105, 110, 32, 40, 41, 32, 40, 99, 97, 115, 101, 32, 49, 32, 40, 95, 32]⟩] 9)) := ⟨_, rfl⟩
      obtain ⟨W0, hW0⟩ := hW0
      have hW0b : Below w.heap.size w W0 := by rw [hW0]; exact (HB2.out.alloc HB2.out.size _).alloc (by have := HB2.out.size; simp; omega) _
      have hI : HeadsAt W0 (w2.heap.size + 1) := by
        intro j v hj
        have e : (w2.alloc (.cells #[.int .i64 0, .int .i64 0, .string ⟨#[]⟩, .int .i64 0, .slice none 0 0, .slice none 0 0, .slice none 0 0] 38)).heap.size = w2.heap.size + 1 := by simp
        rw [hW0, ← e, World.cell?_alloc_mark]
        simpa [headVals] using hj
      have hEX : W0.heap[w2.heap.size]? = some (.cells #[.int .i64 0, .int .i64 0, .string ⟨#[]⟩, .int .i64 0, .slice none 0 0, .slice none 0 0, .slice none 0 0] 38 (0, 0)) := by rw [hW0]; exact ent_alloc (ent_new w2 _ _) _
      have hsrc0 : ∀ wr, Below W0.heap.size W0 wr → (convert 22 9 (.slice a0 len0 cap0)).run Tryd.prog wr = .ok (.string ⟨l.toArray⟩) wr := fun wr hb => ((HSRC0.out.below (hW0b.trans (hb.mono hW0b.size)))).conv
      have hsli0 : ∀ wr, Below W0.heap.size W0 wr → SliceAt wr (.slice a0 len0 cap0) l := fun wr hb => sliceAt_below' HSL.out (hW0b.trans (hb.mono hW0b.size))
      rw [← hW0]
      have HW0 := Lib.hid hW0b; have HI := Lib.hid hI; have HEX := Lib.hid hEX; have HSRC := Lib.hid hsrc0; have HSLI := Lib.hid hsli0
      have hgx : w2.heap.size < W0.heap.size := ent_lt hEX
      clear hW0b hI hEX hsrc0 hsli0 hW0
      go_loopw [29] (fun i wr => ∃ k : Nat, i = .int .i64 k ∧ k ≤ 4 ∧ Below W0.heap.size W0 wr) (fun i _ => 4 - (intOf i).toNat)
      case atStart => exact ⟨0, rfl, by omega, Below.refl _ _⟩
      case round =>
        obtain ⟨k, rfl, hk, hb⟩ := hrel
        have HB := Lib.hid hb
        have hsz := hb.size
        clear hb
        have hk5 : k = 0 ∨ k = 1 ∨ k = 2 ∨ k = 3 ∨ k = 4 := by omega
        rcases hk5 with rfl | rfl | rfl | rfl | rfl
        · have s1 := sum_text (w := wr) [40, 100, 101, 102, 32, 109, 97, 105, 110, 32, 40, 41, 32] l (by simp only [List.length_cons, List.length_nil]; omega)
          have s2 := sum_text (w := wr) ([40, 100, 101, 102, 32, 109, 97, 105, 110, 32, 40, 41, 32] ++ l) [10, 41] (by simp only [List.length_append, List.length_cons, List.length_nil]; omega)
          have hcs := HSRC.out wr HB.out
          obtain ⟨W, hW⟩ : ∃ W, W = [40, 100, 101, 102, 32, 109, 97, 105, 110, 32, 40, 41, 32] ++ l ++ [10, 41] := ⟨_, rfl⟩
          have HW := Lib.hid (show W = Px.head1 ++ (l ++ 10 :: Px.tail1) by rw [hW, List.append_assoc]; rfl)
          have hWl : W.length ≤ 2000 := by rw [hW]; simp only [List.length_append, List.length_cons, List.length_nil]; omega
          have s3 : (Op.stringOp .add ⟨(40 :: 100 :: 101 :: 102 :: 32 :: 109 :: 97 :: 105 :: 110 :: 32 :: 40 :: 41 :: 32 :: l).toArray⟩ ⟨#[10, 41]⟩).run Tryd.prog wr = .ok (.string ⟨W.toArray⟩) wr := by rw [hW]; exact s2
          clear s2
          have hcv := conv_text wr W
          have hq := program_of_text wr W (by omega)
          have HQ := Lib.hid hq
          clear hq hW
          have i0 : wr.cell? ⟨w2.heap.size + 1, 0, none⟩ = some (.string ⟨#[40, 100, 101, 102, 32, 109, 97, 105, 110, 32, 40, 41, 32]⟩) := wcell_at HI.out HB.out 0 (by decide)
          go_wp2_with fail
          refine HQ.out.mono ?_
          rintro e w5 ⟨hb5, hres5⟩
          obtain ⟨q1, n1, c1, q2, n2, c2, pz, cz, rfl⟩ := parsed_form ⟨hb5, hres5⟩
          have HB5 := Lib.hid (HB.out.trans (((Lib.bytesWorld_below wr 5 ⟨W.toArray⟩).trans (hb5.mono (by rw [Lib.bytesWorld_size]; omega))).mono hsz))
          have hs5 := HB5.out.size
          clear hb5 hres5 HQ hcv hcs s1 s3
          go_wp2_with fail
          go_roundw
          case rel => exact ⟨1, by go_num, by omega, HB5.out.alloc hs5 _⟩
          case measure => simp [intOf]
        · have s1 := sum_text (w := wr) [40, 100, 101, 102, 32, 109, 97, 105, 110, 32, 40, 41, 32, 40, 114, 101, 32] l (by simp only [List.length_cons, List.length_nil]; omega)
          have s2 := sum_text (w := wr) ([40, 100, 101, 102, 32, 109, 97, 105, 110, 32, 40, 41, 32, 40, 114, 101, 32] ++ l) [10, 41, 41] (by simp only [List.length_append, List.length_cons, List.length_nil]; omega)
          have hcs := HSRC.out wr HB.out
          obtain ⟨W, hW⟩ : ∃ W, W = [40, 100, 101, 102, 32, 109, 97, 105, 110, 32, 40, 41, 32, 40, 114, 101, 32] ++ l ++ [10, 41, 41] := ⟨_, rfl⟩
          have HW := Lib.hid (show W = Px.head2 ++ (l ++ 10 :: Px.tail2) by rw [hW, List.append_assoc]; rfl)
          have hWl : W.length ≤ 2000 := by rw [hW]; simp only [List.length_append, List.length_cons, List.length_nil]; omega
          have s3 : (Op.stringOp .add ⟨(40 :: 100 :: 101 :: 102 :: 32 :: 109 :: 97 :: 105 :: 110 :: 32 :: 40 :: 41 :: 32 :: 40 :: 114 :: 101 :: 32 :: l).toArray⟩ ⟨#[10, 41, 41]⟩).run Tryd.prog wr = .ok (.string ⟨W.toArray⟩) wr := by rw [hW]; exact s2
          clear s2
          have hcv := conv_text wr W
          have hq := program_of_text wr W (by omega)
          have HQ := Lib.hid hq
          clear hq hW
          have i0 : wr.cell? ⟨w2.heap.size + 1, 1, none⟩ = some (.string ⟨#[40, 100, 101, 102, 32, 109, 97, 105, 110, 32, 40, 41, 32, 40, 114, 101, 32]⟩) := wcell_at HI.out HB.out 1 (by decide)
          go_wp2_with fail
          refine HQ.out.mono ?_
          rintro e w5 ⟨hb5, hres5⟩
          obtain ⟨q1, n1, c1, q2, n2, c2, pz, cz, rfl⟩ := parsed_form ⟨hb5, hres5⟩
          have HB5 := Lib.hid (HB.out.trans (((Lib.bytesWorld_below wr 5 ⟨W.toArray⟩).trans (hb5.mono (by rw [Lib.bytesWorld_size]; omega))).mono hsz))
          have hs5 := HB5.out.size
          clear hb5 hres5 HQ hcv hcs s1 s3
          go_wp2_with fail
          go_roundw
          case rel => exact ⟨2, by go_num, by omega, HB5.out.alloc hs5 _⟩
          case measure => simp [intOf]
        · have s1 := sum_text (w := wr) [40, 100, 101, 102, 32, 109, 97, 105, 110, 32, 40, 41, 32, 40, 108, 101, 116, 32, 40, 40, 113, 32] l (by simp only [List.length_cons, List.length_nil]; omega)
          have s2 := sum_text (w := wr) ([40, 100, 101, 102, 32, 109, 97, 105, 110, 32, 40, 41, 32, 40, 108, 101, 116, 32, 40, 40, 113, 32] ++ l) [10, 41, 41, 32, 113, 41, 41] (by simp only [List.length_append, List.length_cons, List.length_nil]; omega)
          have hcs := HSRC.out wr HB.out
          obtain ⟨W, hW⟩ : ∃ W, W = [40, 100, 101, 102, 32, 109, 97, 105, 110, 32, 40, 41, 32, 40, 108, 101, 116, 32, 40, 40, 113, 32] ++ l ++ [10, 41, 41, 32, 113, 41, 41] := ⟨_, rfl⟩
          have HW := Lib.hid (show W = Px.head3 ++ (l ++ 10 :: Px.tail3) by rw [hW, List.append_assoc]; rfl)
          have hWl : W.length ≤ 2000 := by rw [hW]; simp only [List.length_append, List.length_cons, List.length_nil]; omega
          have s3 : (Op.stringOp .add ⟨(40 :: 100 :: 101 :: 102 :: 32 :: 109 :: 97 :: 105 :: 110 :: 32 :: 40 :: 41 :: 32 :: 40 :: 108 :: 101 :: 116 :: 32 :: 40 :: 40 :: 113 :: 32 :: l).toArray⟩ ⟨#[10, 41, 41, 32, 113, 41, 41]⟩).run Tryd.prog wr = .ok (.string ⟨W.toArray⟩) wr := by rw [hW]; exact s2
          clear s2
          have hcv := conv_text wr W
          have hq := program_of_text wr W (by omega)
          have HQ := Lib.hid hq
          clear hq hW
          have i0 : wr.cell? ⟨w2.heap.size + 1, 2, none⟩ = some (.string ⟨#[40, 100, 101, 102, 32, 109, 97, 105, 110, 32, 40, 41, 32, 40, 108, 101, 116, 32, 40, 40, 113, 32]⟩) := wcell_at HI.out HB.out 2 (by decide)
          go_wp2_with fail
          refine HQ.out.mono ?_
          rintro e w5 ⟨hb5, hres5⟩
          obtain ⟨q1, n1, c1, q2, n2, c2, pz, cz, rfl⟩ := parsed_form ⟨hb5, hres5⟩
          have HB5 := Lib.hid (HB.out.trans (((Lib.bytesWorld_below wr 5 ⟨W.toArray⟩).trans (hb5.mono (by rw [Lib.bytesWorld_size]; omega))).mono hsz))
          have hs5 := HB5.out.size
          clear hb5 hres5 HQ hcv hcs s1 s3
          go_wp2_with fail
          go_roundw
          case rel => exact ⟨3, by go_num, by omega, HB5.out.alloc hs5 _⟩
          case measure => simp [intOf]
        · have s1 := sum_text (w := wr) [40, 100, 101, 102, 32, 109, 97, 105, 110, 32, 40, 41, 32, 40, 99, 97, 115, 101, 32, 49, 32, 40, 95, 32] l (by simp only [List.length_cons, List.length_nil]; omega)
          have s2 := sum_text (w := wr) ([40, 100, 101, 102, 32, 109, 97, 105, 110, 32, 40, 41, 32, 40, 99, 97, 115, 101, 32, 49, 32, 40, 95, 32] ++ l) [10, 41, 41, 41] (by simp only [List.length_append, List.length_cons, List.length_nil]; omega)
          have hcs := HSRC.out wr HB.out
          obtain ⟨W, hW⟩ : ∃ W, W = [40, 100, 101, 102, 32, 109, 97, 105, 110, 32, 40, 41, 32, 40, 99, 97, 115, 101, 32, 49, 32, 40, 95, 32] ++ l ++ [10, 41, 41, 41] := ⟨_, rfl⟩
          have HW := Lib.hid (show W = Px.head4 ++ (l ++ 10 :: Px.tail4) by rw [hW, List.append_assoc]; rfl)
          have hWl : W.length ≤ 2000 := by rw [hW]; simp only [List.length_append, List.length_cons, List.length_nil]; omega
          have s3 : (Op.stringOp .add ⟨(40 :: 100 :: 101 :: 102 :: 32 :: 109 :: 97 :: 105 :: 110 :: 32 :: 40 :: 41 :: 32 :: 40 :: 99 :: 97 :: 115 :: 101 :: 32 :: 49 :: 32 :: 40 :: 95 :: 32 :: l).toArray⟩ ⟨#[10, 41, 41, 41]⟩).run Tryd.prog wr = .ok (.string ⟨W.toArray⟩) wr := by rw [hW]; exact s2
          clear s2
          have hcv := conv_text wr W
          have hq := program_of_text wr W (by omega)
          have HQ := Lib.hid hq
          clear hq hW
          have i0 : wr.cell? ⟨w2.heap.size + 1, 3, none⟩ = some (.string ⟨#[40, 100, 101, 102, 32, 109, 97, 105, 110, 32, 40, 41, 32, 40, 99, 97, 115, 101, 32, 49, 32, 40, 95, 32]⟩) := wcell_at HI.out HB.out 3 (by decide)
          go_wp2_with fail
          refine HQ.out.mono ?_
          rintro e w5 ⟨hb5, hres5⟩
          obtain ⟨q1, n1, c1, q2, n2, c2, pz, cz, rfl⟩ := parsed_form ⟨hb5, hres5⟩
          have HB5 := Lib.hid (HB.out.trans (((Lib.bytesWorld_below wr 5 ⟨W.toArray⟩).trans (hb5.mono (by rw [Lib.bytesWorld_size]; omega))).mono hsz))
          have hs5 := HB5.out.size
          clear hb5 hres5 HQ hcv hcs s1 s3
          go_wp2_with fail
          go_roundw
          case rel => exact ⟨4, by go_num, by omega, HB5.out.alloc hs5 _⟩
          case measure => simp [intOf]
        · have hfin : Below w.heap.size w wr := HW0.out.trans (HB.out.mono HW0.out.size)
          have HF := Lib.hid hfin; clear hfin
          go_wp2_with fail
          go_ret
          exact ⟨rfl, HF.out⟩
    | done x =>
      rw [hout] at hres
      obtain ⟨v, rfl, hnew⟩ := hres
      obtain ⟨xi, xs, q1, n1, c1, q2, c2, q3, n3, c3, rfl⟩ := exprAt_parts hnew.now
      clear hnew
      have hpos := Px.exprOf_pos l x hout
      have HOUT := Lib.hid hout; clear hout
      generalize hxk : x.kindN = K at *
      generalize hxp : x.posN = P at *
      generalize hxa : x.argsL.length = A at *
      have HXK := Lib.hid hxk; have HXP := Lib.hid hxp; have HXA := Lib.hid hxa
      clear hxk hxp hxa
      go_wp2_with fail
      have hW0 : ∃ W0, W0 = ((w2.alloc (.cells #[.int .i64 K, .int .i64 P, .string xs, .int .i64 xi, .slice q1 n1 c1, .slice q2 A c2, .slice q3 n3 c3] 38)).alloc (.cells #[.string ⟨#[40, 100, 101, 102, 32, 109, 97, 105, 110, 32, 40, 41, 32]⟩, .string ⟨#[40, 100, 101, 102, 32, 109, 97, 105, 110, 32, 40, 41, 32, 40, 114, 101, 32]⟩, .string ⟨#[40, 100, 101, 102, 32, 109, 97, 105, 110, 32, 40, 41, 32, 40, 108, 101, 116, 32, 40, 40, 113, 32]⟩, .string ⟨#[40, 100, 101, 102, 32, 109, 97, 105, 110, 32, 40, 41, 32, 40, 99, 97, 115, 101, 32, 49, 32, 40, 95, 32]⟩] 9)) := ⟨_, rfl⟩
      obtain ⟨W0, hW0⟩ := hW0
      have hW0b : Below w.heap.size w W0 := by rw [hW0]; exact (HB2.out.alloc HB2.out.size _).alloc (by have := HB2.out.size; simp; omega) _
      have hI : HeadsAt W0 (w2.heap.size + 1) := by
        intro j v hj
        have e : (w2.alloc (.cells #[.int .i64 K, .int .i64 P, .string xs, .int .i64 xi, .slice q1 n1 c1, .slice q2 A c2, .slice q3 n3 c3] 38)).heap.size = w2.heap.size + 1 := by simp
        rw [hW0, ← e, World.cell?_alloc_mark]
        simpa [headVals] using hj
      have hEX : W0.heap[w2.heap.size]? = some (.cells #[.int .i64 K, .int .i64 P, .string xs, .int .i64 xi, .slice q1 n1 c1, .slice q2 A c2, .slice q3 n3 c3] 38 (0, 0)) := by rw [hW0]; exact ent_alloc (ent_new w2 _ _) _
      have hsrc0 : ∀ wr, Below W0.heap.size W0 wr → (convert 22 9 (.slice a0 len0 cap0)).run Tryd.prog wr = .ok (.string ⟨l.toArray⟩) wr := fun wr hb => ((HSRC0.out.below (hW0b.trans (hb.mono hW0b.size)))).conv
      have hsli0 : ∀ wr, Below W0.heap.size W0 wr → SliceAt wr (.slice a0 len0 cap0) l := fun wr hb => sliceAt_below' HSL.out (hW0b.trans (hb.mono hW0b.size))
      rw [← hW0]
      have HW0 := Lib.hid hW0b; have HI := Lib.hid hI; have HEX := Lib.hid hEX; have HSRC := Lib.hid hsrc0; have HSLI := Lib.hid hsli0
      have hgx : w2.heap.size < W0.heap.size := ent_lt hEX
      clear hW0b hI hEX hsrc0 hsli0 hW0
      go_loopw [29] (fun i wr => ∃ k : Nat, i = .int .i64 k ∧ k ≤ 4 ∧ Below W0.heap.size W0 wr) (fun i _ => 4 - (intOf i).toNat)
      case atStart => exact ⟨0, rfl, by omega, Below.refl _ _⟩
      case round =>
        obtain ⟨k, rfl, hk, hb⟩ := hrel
        have HB := Lib.hid hb
        have hsz := hb.size
        clear hb
        have hk5 : k = 0 ∨ k = 1 ∨ k = 2 ∨ k = 3 ∨ k = 4 := by omega
        rcases hk5 with rfl | rfl | rfl | rfl | rfl
        · have s1 := sum_text (w := wr) [40, 100, 101, 102, 32, 109, 97, 105, 110, 32, 40, 41, 32] l (by simp only [List.length_cons, List.length_nil]; omega)
          have s2 := sum_text (w := wr) ([40, 100, 101, 102, 32, 109, 97, 105, 110, 32, 40, 41, 32] ++ l) [10, 41] (by simp only [List.length_append, List.length_cons, List.length_nil]; omega)
          have hcs := HSRC.out wr HB.out
          obtain ⟨W, hW⟩ : ∃ W, W = [40, 100, 101, 102, 32, 109, 97, 105, 110, 32, 40, 41, 32] ++ l ++ [10, 41] := ⟨_, rfl⟩
          have HW := Lib.hid (show W = Px.head1 ++ (l ++ 10 :: Px.tail1) by rw [hW, List.append_assoc]; rfl)
          have hWl : W.length ≤ 2000 := by rw [hW]; simp only [List.length_append, List.length_cons, List.length_nil]; omega
          have s3 : (Op.stringOp .add ⟨(40 :: 100 :: 101 :: 102 :: 32 :: 109 :: 97 :: 105 :: 110 :: 32 :: 40 :: 41 :: 32 :: l).toArray⟩ ⟨#[10, 41]⟩).run Tryd.prog wr = .ok (.string ⟨W.toArray⟩) wr := by rw [hW]; exact s2
          clear s2
          have hcv := conv_text wr W
          have hq := program_of_text wr W (by omega)
          have HQ := Lib.hid hq
          clear hq hW
          have i0 : wr.cell? ⟨w2.heap.size + 1, 0, none⟩ = some (.string ⟨#[40, 100, 101, 102, 32, 109, 97, 105, 110, 32, 40, 41, 32]⟩) := wcell_at HI.out HB.out 0 (by decide)
          go_wp2_with fail
          refine HQ.out.mono ?_
          rintro e w5 ⟨hb5, hres5⟩
          have HB5 := Lib.hid (HB.out.trans (((Lib.bytesWorld_below wr 5 ⟨W.toArray⟩).trans (hb5.mono (by rw [Lib.bytesWorld_size]; omega))).mono hsz))
          have hs5 := HB5.out.size
          by_cases ho : l.count 40 < 30
          · rw [HW.out] at hres5
            obtain ⟨y, hpx, hf1, hf2, hf3⟩ := Px.wrap1 HOUT.out ho (by omega)
            rw [hpx] at hres5
            obtain ⟨v, rfl, hnew⟩ := hres5
            obtain ⟨r1, d1, g, o, d2, b0, b1, b2, b3, b4, b5, b6, rfl, hg1, hg2, hex, k3, k4, k5, k6, k7, k8, k9⟩ := one_def hnew.now
            rw [HXK.out] at hf1; rw [HXP.out] at hf2; rw [HXA.out] at hf3
            obtain ⟨yi, ys, t1, l1, e1, t2, e2, t3, l3, e3, hv⟩ := exprAt_parts hex
            rw [hf1, hf2, hf3] at hv
            simp only [Value.agg.injEq, Array.mk.injEq, List.cons.injEq, and_true] at hv
            obtain ⟨rfl, rfl, rfl, rfl, rfl, rfl, rfl⟩ := hv
            have hc : ((l.count 40 : Nat) : Int) < 30 := by omega
            have HSL5 := Lib.hid (HSLI.out _ (HB5.out.alloc hs5 (.cells #[.slice r1 0 d1, .slice (some ⟨g, o, none⟩) 1 d2] 27)))
            have up : ∀ a z, w5.cell? a = some z → (w5.alloc (.cells #[.slice r1 0 d1, .slice (some ⟨g, o, none⟩) 1 d2] 27)).cell? a = some z := fun a z h => (World.cell?_alloc_some w5 a _ (by rw [h]; rfl)).trans h
            replace k3 := up _ _ k3; replace k4 := up _ _ k4; replace k5 := up _ _ k5; replace k6 := up _ _ k6; replace k7 := up _ _ k7; replace k8 := up _ _ k8; replace k9 := up _ _ k9
            have hexc := ent_below HEX.out (HB5.out.alloc hs5 (.cells #[.slice r1 0 d1, .slice (some ⟨g, o, none⟩) 1 d2] 27))
            have x0 := ent_cell hexc 0 _ rfl; have x1 := ent_cell hexc 1 _ rfl; have x5 := ent_cell hexc 5 _ rfl
            have up2 : ∀ a z, (w5.alloc (.cells #[.slice r1 0 d1, .slice (some ⟨g, o, none⟩) 1 d2] 27)).cell? a = some z → ((w5.alloc (.cells #[.slice r1 0 d1, .slice (some ⟨g, o, none⟩) 1 d2] 27)).alloc (.cells #[.int .i64 K, .int .i64 ((P : Int) + 13), .string ys, .int .i64 yi, .slice t1 l1 e1, .slice t2 A e2, .slice t3 l3 e3] 38)).cell? a = some z := fun a z h => (World.cell?_alloc_some _ a _ (by rw [h]; rfl)).trans h
            have v0 := up2 _ _ x0; have v1 := up2 _ _ x1; have v5 := up2 _ _ x5
            have HB6 := Lib.hid (HB5.out.alloc hs5 (.cells #[.slice r1 0 d1, .slice (some ⟨g, o, none⟩) 1 d2] 27))
            have hs6 := HB6.out.size
            clear hnew hex hb5 HQ hcv hcs s1 s3 up up2 hexc hpx i0
            go_wp2_with fail
            refine (lists_any _ l _ HSL5.out (by omega)).mono ?_
            rintro e w6 ⟨rfl, rfl⟩
            go_wp2_with fail
            go_roundw
            case rel => exact ⟨1, by go_num, by omega, HB6.out.alloc hs6 _⟩
            case measure => simp [intOf]
          · obtain ⟨r1, m1, d1, r2, m2, d2, pz, cz, rfl⟩ := parsed_form ⟨hb5, hres5⟩
            have hc : ¬ ((l.count 40 : Nat) : Int) < 30 := by omega
            have HSL5 := Lib.hid (HSLI.out _ (HB5.out.alloc hs5 (.cells #[.slice r1 m1 d1, .slice r2 m2 d2] 27)))
            clear hb5 hres5 HQ hcv hcs s1 s3
            go_wp2_with fail
            refine (lists_any _ l _ HSL5.out (by omega)).mono ?_
            rintro e w6 ⟨rfl, rfl⟩
            go_wp2_with fail
            go_roundw
            case rel => exact ⟨1, by go_num, by omega, HB5.out.alloc hs5 _⟩
            case measure => simp [intOf]
        · have s1 := sum_text (w := wr) [40, 100, 101, 102, 32, 109, 97, 105, 110, 32, 40, 41, 32, 40, 114, 101, 32] l (by simp only [List.length_cons, List.length_nil]; omega)
          have s2 := sum_text (w := wr) ([40, 100, 101, 102, 32, 109, 97, 105, 110, 32, 40, 41, 32, 40, 114, 101, 32] ++ l) [10, 41, 41] (by simp only [List.length_append, List.length_cons, List.length_nil]; omega)
          have hcs := HSRC.out wr HB.out
          obtain ⟨W, hW⟩ : ∃ W, W = [40, 100, 101, 102, 32, 109, 97, 105, 110, 32, 40, 41, 32, 40, 114, 101, 32] ++ l ++ [10, 41, 41] := ⟨_, rfl⟩
          have HW := Lib.hid (show W = Px.head2 ++ (l ++ 10 :: Px.tail2) by rw [hW, List.append_assoc]; rfl)
          have hWl : W.length ≤ 2000 := by rw [hW]; simp only [List.length_append, List.length_cons, List.length_nil]; omega
          have s3 : (Op.stringOp .add ⟨(40 :: 100 :: 101 :: 102 :: 32 :: 109 :: 97 :: 105 :: 110 :: 32 :: 40 :: 41 :: 32 :: 40 :: 114 :: 101 :: 32 :: l).toArray⟩ ⟨#[10, 41, 41]⟩).run Tryd.prog wr = .ok (.string ⟨W.toArray⟩) wr := by rw [hW]; exact s2
          clear s2
          have hcv := conv_text wr W
          have hq := program_of_text wr W (by omega)
          have HQ := Lib.hid hq
          clear hq hW
          have i0 : wr.cell? ⟨w2.heap.size + 1, 1, none⟩ = some (.string ⟨#[40, 100, 101, 102, 32, 109, 97, 105, 110, 32, 40, 41, 32, 40, 114, 101, 32]⟩) := wcell_at HI.out HB.out 1 (by decide)
          go_wp2_with fail
          refine HQ.out.mono ?_
          rintro e w5 ⟨hb5, hres5⟩
          have HB5 := Lib.hid (HB.out.trans (((Lib.bytesWorld_below wr 5 ⟨W.toArray⟩).trans (hb5.mono (by rw [Lib.bytesWorld_size]; omega))).mono hsz))
          have hs5 := HB5.out.size
          by_cases ho : l.count 40 < 30
          · rw [HW.out] at hres5
            obtain ⟨y, hpx, hf1, hf2, hf3⟩ := Px.wrap2 HOUT.out ho (by omega)
            rw [hpx] at hres5
            obtain ⟨v, rfl, hnew⟩ := hres5
            obtain ⟨r1, d1, g, o, d2, b0, b1, b2, b3, b4, b5, b6, rfl, hg1, hg2, hex, k3, k4, k5, k6, k7, k8, k9⟩ := one_def hnew.now
            rw [HXK.out] at hf1; rw [HXP.out] at hf2; rw [HXA.out] at hf3
            obtain ⟨t1, l1, e1, gy, oy, e2, t3, l3, e3, u, hv, hy1, hy2, hu, hcu⟩ := args_first hex
            simp only [Value.agg.injEq, Array.mk.injEq, List.cons.injEq, and_true] at hv
            obtain ⟨rfl, rfl, rfl, rfl, rfl, rfl, rfl⟩ := hv
            obtain ⟨yi, ys, z1, p1, f1, z2, f2, z3, p3, f3, rfl⟩ := exprAt_parts hu
            rw [hf1, hf2, hf3] at hcu
            have m0 := hcu 0 _ rfl
            have m1 := hcu 1 _ rfl
            have m2 := hcu 2 _ rfl
            have m3 := hcu 3 _ rfl
            have m4 := hcu 4 _ rfl
            have m5 := hcu 5 _ rfl
            have m6 := hcu 6 _ rfl
            rw [Nat.add_zero] at m0
            have hc : ((l.count 40 : Nat) : Int) < 30 := by omega
            have HSL5 := Lib.hid (HSLI.out _ (HB5.out.alloc hs5 (.cells #[.slice r1 0 d1, .slice (some ⟨g, o, none⟩) 1 d2] 27)))
            have up : ∀ a z, w5.cell? a = some z → (w5.alloc (.cells #[.slice r1 0 d1, .slice (some ⟨g, o, none⟩) 1 d2] 27)).cell? a = some z := fun a z h => (World.cell?_alloc_some w5 a _ (by rw [h]; rfl)).trans h
            replace k3 := up _ _ k3; replace k4 := up _ _ k4; replace k5 := up _ _ k5; replace k6 := up _ _ k6; replace k7 := up _ _ k7; replace k8 := up _ _ k8; replace k9 := up _ _ k9
            replace m0 := up _ _ m0; replace m1 := up _ _ m1; replace m2 := up _ _ m2; replace m3 := up _ _ m3; replace m4 := up _ _ m4; replace m5 := up _ _ m5; replace m6 := up _ _ m6
            have hexc := ent_below HEX.out (HB5.out.alloc hs5 (.cells #[.slice r1 0 d1, .slice (some ⟨g, o, none⟩) 1 d2] 27))
            have x0 := ent_cell hexc 0 _ rfl; have x1 := ent_cell hexc 1 _ rfl; have x5 := ent_cell hexc 5 _ rfl
            have up2 : ∀ a z, (w5.alloc (.cells #[.slice r1 0 d1, .slice (some ⟨g, o, none⟩) 1 d2] 27)).cell? a = some z → ((w5.alloc (.cells #[.slice r1 0 d1, .slice (some ⟨g, o, none⟩) 1 d2] 27)).alloc (.cells #[.int .i64 7, .int .i64 13, .string ⟨#[114, 101]⟩, .int .i64 0, .slice t1 l1 e1, .slice (some ⟨gy, oy, none⟩) 1 e2, .slice t3 l3 e3] 38)).cell? a = some z := fun a z h => (World.cell?_alloc_some _ a _ (by rw [h]; rfl)).trans h
            have v0 := up2 _ _ x0; have v1 := up2 _ _ x1; have v5 := up2 _ _ x5
            have up3 : ∀ a z, (w5.alloc (.cells #[.slice r1 0 d1, .slice (some ⟨g, o, none⟩) 1 d2] 27)).cell? a = some z → ((w5.alloc (.cells #[.slice r1 0 d1, .slice (some ⟨g, o, none⟩) 1 d2] 27)).alloc (.cells #[.int .i64 K, .int .i64 ((P : Int) + 17), .string ys, .int .i64 yi, .slice z1 p1 f1, .slice z2 A f2, .slice z3 p3 f3] 38)).cell? a = some z := fun a z h => (World.cell?_alloc_some _ a _ (by rw [h]; rfl)).trans h
            have y0 := up3 _ _ x0; have y1 := up3 _ _ x1; have y5 := up3 _ _ x5
            clear up3
            have n0 := up2 _ _ m0; have n1 := up2 _ _ m1; have n2 := up2 _ _ m2; have n3 := up2 _ _ m3; have n4 := up2 _ _ m4; have n5 := up2 _ _ m5; have n6 := up2 _ _ m6
            have HB6 := Lib.hid (HB5.out.alloc hs5 (.cells #[.slice r1 0 d1, .slice (some ⟨g, o, none⟩) 1 d2] 27))
            have hs6 := HB6.out.size
            clear hnew hex hb5 HQ hcv hcs s1 s3 up up2 hexc hpx i0
            go_wp2_with fail
            refine (lists_any _ l _ HSL5.out (by omega)).mono ?_
            rintro e w6 ⟨rfl, rfl⟩
            go_wp2_with fail
            go_roundw
            case rel => exact ⟨2, by go_num, by omega, HB6.out.alloc hs6 _⟩
            case measure => simp [intOf]
          · obtain ⟨r1, m1, d1, r2, m2, d2, pz, cz, rfl⟩ := parsed_form ⟨hb5, hres5⟩
            have hc : ¬ ((l.count 40 : Nat) : Int) < 30 := by omega
            have HSL5 := Lib.hid (HSLI.out _ (HB5.out.alloc hs5 (.cells #[.slice r1 m1 d1, .slice r2 m2 d2] 27)))
            clear hb5 hres5 HQ hcv hcs s1 s3
            go_wp2_with fail
            refine (lists_any _ l _ HSL5.out (by omega)).mono ?_
            rintro e w6 ⟨rfl, rfl⟩
            go_wp2_with fail
            go_roundw
            case rel => exact ⟨2, by go_num, by omega, HB5.out.alloc hs5 _⟩
            case measure => simp [intOf]
        · have s1 := sum_text (w := wr) [40, 100, 101, 102, 32, 109, 97, 105, 110, 32, 40, 41, 32, 40, 108, 101, 116, 32, 40, 40, 113, 32] l (by simp only [List.length_cons, List.length_nil]; omega)
          have s2 := sum_text (w := wr) ([40, 100, 101, 102, 32, 109, 97, 105, 110, 32, 40, 41, 32, 40, 108, 101, 116, 32, 40, 40, 113, 32] ++ l) [10, 41, 41, 32, 113, 41, 41] (by simp only [List.length_append, List.length_cons, List.length_nil]; omega)
          have hcs := HSRC.out wr HB.out
          obtain ⟨W, hW⟩ : ∃ W, W = [40, 100, 101, 102, 32, 109, 97, 105, 110, 32, 40, 41, 32, 40, 108, 101, 116, 32, 40, 40, 113, 32] ++ l ++ [10, 41, 41, 32, 113, 41, 41] := ⟨_, rfl⟩
          have HW := Lib.hid (show W = Px.head3 ++ (l ++ 10 :: Px.tail3) by rw [hW, List.append_assoc]; rfl)
          have hWl : W.length ≤ 2000 := by rw [hW]; simp only [List.length_append, List.length_cons, List.length_nil]; omega
          have s3 : (Op.stringOp .add ⟨(40 :: 100 :: 101 :: 102 :: 32 :: 109 :: 97 :: 105 :: 110 :: 32 :: 40 :: 41 :: 32 :: 40 :: 108 :: 101 :: 116 :: 32 :: 40 :: 40 :: 113 :: 32 :: l).toArray⟩ ⟨#[10, 41, 41, 32, 113, 41, 41]⟩).run Tryd.prog wr = .ok (.string ⟨W.toArray⟩) wr := by rw [hW]; exact s2
          clear s2
          have hcv := conv_text wr W
          have hq := program_of_text wr W (by omega)
          have HQ := Lib.hid hq
          clear hq hW
          have i0 : wr.cell? ⟨w2.heap.size + 1, 2, none⟩ = some (.string ⟨#[40, 100, 101, 102, 32, 109, 97, 105, 110, 32, 40, 41, 32, 40, 108, 101, 116, 32, 40, 40, 113, 32]⟩) := wcell_at HI.out HB.out 2 (by decide)
          go_wp2_with fail
          refine HQ.out.mono ?_
          rintro e w5 ⟨hb5, hres5⟩
          have HB5 := Lib.hid (HB.out.trans (((Lib.bytesWorld_below wr 5 ⟨W.toArray⟩).trans (hb5.mono (by rw [Lib.bytesWorld_size]; omega))).mono hsz))
          have hs5 := HB5.out.size
          by_cases ho : l.count 40 < 30
          · rw [HW.out] at hres5
            obtain ⟨y, b, hpx, hf1, hf2, hf3⟩ := Px.wrap3 HOUT.out ho (by omega)
            rw [hpx] at hres5
            obtain ⟨v, rfl, hnew⟩ := hres5
            obtain ⟨r1, d1, g, o, d2, b0, b1, b2, b3, b4, b5, b6, rfl, hg1, hg2, hex, k3, k4, k5, k6, k7, k8, k9⟩ := one_def hnew.now
            rw [HXK.out] at hf1; rw [HXP.out] at hf2; rw [HXA.out] at hf3
            obtain ⟨t1, l1, e1, gy, oy, e2, t3, l3, e3, u, hv, hy1, hy2, hu, hcu⟩ := args_first hex
            simp only [Value.agg.injEq, Array.mk.injEq, List.cons.injEq, and_true] at hv
            obtain ⟨rfl, rfl, rfl, rfl, rfl, rfl, rfl⟩ := hv
            obtain ⟨yi, ys, z1, p1, f1, z2, f2, z3, p3, f3, rfl⟩ := exprAt_parts hu
            rw [hf1, hf2, hf3] at hcu
            have m0 := hcu 0 _ rfl
            have m1 := hcu 1 _ rfl
            have m2 := hcu 2 _ rfl
            have m3 := hcu 3 _ rfl
            have m4 := hcu 4 _ rfl
            have m5 := hcu 5 _ rfl
            have m6 := hcu 6 _ rfl
            rw [Nat.add_zero] at m0
            have hc : ((l.count 40 : Nat) : Int) < 30 := by omega
            have HSL5 := Lib.hid (HSLI.out _ (HB5.out.alloc hs5 (.cells #[.slice r1 0 d1, .slice (some ⟨g, o, none⟩) 1 d2] 27)))
            have up : ∀ a z, w5.cell? a = some z → (w5.alloc (.cells #[.slice r1 0 d1, .slice (some ⟨g, o, none⟩) 1 d2] 27)).cell? a = some z := fun a z h => (World.cell?_alloc_some w5 a _ (by rw [h]; rfl)).trans h
            replace k3 := up _ _ k3; replace k4 := up _ _ k4; replace k5 := up _ _ k5; replace k6 := up _ _ k6; replace k7 := up _ _ k7; replace k8 := up _ _ k8; replace k9 := up _ _ k9
            replace m0 := up _ _ m0; replace m1 := up _ _ m1; replace m2 := up _ _ m2; replace m3 := up _ _ m3; replace m4 := up _ _ m4; replace m5 := up _ _ m5; replace m6 := up _ _ m6
            have hexc := ent_below HEX.out (HB5.out.alloc hs5 (.cells #[.slice r1 0 d1, .slice (some ⟨g, o, none⟩) 1 d2] 27))
            have x0 := ent_cell hexc 0 _ rfl; have x1 := ent_cell hexc 1 _ rfl; have x5 := ent_cell hexc 5 _ rfl
            have up2 : ∀ a z, (w5.alloc (.cells #[.slice r1 0 d1, .slice (some ⟨g, o, none⟩) 1 d2] 27)).cell? a = some z → ((w5.alloc (.cells #[.slice r1 0 d1, .slice (some ⟨g, o, none⟩) 1 d2] 27)).alloc (.cells #[.int .i64 4, .int .i64 13, .string ⟨#[]⟩, .int .i64 0, .slice t1 l1 e1, .slice (some ⟨gy, oy, none⟩) 2 e2, .slice t3 l3 e3] 38)).cell? a = some z := fun a z h => (World.cell?_alloc_some _ a _ (by rw [h]; rfl)).trans h
            have v0 := up2 _ _ x0; have v1 := up2 _ _ x1; have v5 := up2 _ _ x5
            have up3 : ∀ a z, (w5.alloc (.cells #[.slice r1 0 d1, .slice (some ⟨g, o, none⟩) 1 d2] 27)).cell? a = some z → ((w5.alloc (.cells #[.slice r1 0 d1, .slice (some ⟨g, o, none⟩) 1 d2] 27)).alloc (.cells #[.int .i64 K, .int .i64 ((P : Int) + 22), .string ys, .int .i64 yi, .slice z1 p1 f1, .slice z2 A f2, .slice z3 p3 f3] 38)).cell? a = some z := fun a z h => (World.cell?_alloc_some _ a _ (by rw [h]; rfl)).trans h
            have y0 := up3 _ _ x0; have y1 := up3 _ _ x1; have y5 := up3 _ _ x5
            clear up3
            have n0 := up2 _ _ m0; have n1 := up2 _ _ m1; have n2 := up2 _ _ m2; have n3 := up2 _ _ m3; have n4 := up2 _ _ m4; have n5 := up2 _ _ m5; have n6 := up2 _ _ m6
            have HB6 := Lib.hid (HB5.out.alloc hs5 (.cells #[.slice r1 0 d1, .slice (some ⟨g, o, none⟩) 1 d2] 27))
            have hs6 := HB6.out.size
            clear hnew hex hb5 HQ hcv hcs s1 s3 up up2 hexc hpx i0
            go_wp2_with fail
            refine (lists_any _ l _ HSL5.out (by omega)).mono ?_
            rintro e w6 ⟨rfl, rfl⟩
            go_wp2_with fail
            go_roundw
            case rel => exact ⟨3, by go_num, by omega, HB6.out.alloc hs6 _⟩
            case measure => simp [intOf]
          · obtain ⟨r1, m1, d1, r2, m2, d2, pz, cz, rfl⟩ := parsed_form ⟨hb5, hres5⟩
            have hc : ¬ ((l.count 40 : Nat) : Int) < 30 := by omega
            have HSL5 := Lib.hid (HSLI.out _ (HB5.out.alloc hs5 (.cells #[.slice r1 m1 d1, .slice r2 m2 d2] 27)))
            clear hb5 hres5 HQ hcv hcs s1 s3
            go_wp2_with fail
            refine (lists_any _ l _ HSL5.out (by omega)).mono ?_
            rintro e w6 ⟨rfl, rfl⟩
            go_wp2_with fail
            go_roundw
            case rel => exact ⟨3, by go_num, by omega, HB5.out.alloc hs5 _⟩
            case measure => simp [intOf]
        · have s1 := sum_text (w := wr) [40, 100, 101, 102, 32, 109, 97, 105, 110, 32, 40, 41, 32, 40, 99, 97, 115, 101, 32, 49, 32, 40, 95, 32] l (by simp only [List.length_cons, List.length_nil]; omega)
          have s2 := sum_text (w := wr) ([40, 100, 101, 102, 32, 109, 97, 105, 110, 32, 40, 41, 32, 40, 99, 97, 115, 101, 32, 49, 32, 40, 95, 32] ++ l) [10, 41, 41, 41] (by simp only [List.length_append, List.length_cons, List.length_nil]; omega)
          have hcs := HSRC.out wr HB.out
          obtain ⟨W, hW⟩ : ∃ W, W = [40, 100, 101, 102, 32, 109, 97, 105, 110, 32, 40, 41, 32, 40, 99, 97, 115, 101, 32, 49, 32, 40, 95, 32] ++ l ++ [10, 41, 41, 41] := ⟨_, rfl⟩
          have HW := Lib.hid (show W = Px.head4 ++ (l ++ 10 :: Px.tail4) by rw [hW, List.append_assoc]; rfl)
          have hWl : W.length ≤ 2000 := by rw [hW]; simp only [List.length_append, List.length_cons, List.length_nil]; omega
          have s3 : (Op.stringOp .add ⟨(40 :: 100 :: 101 :: 102 :: 32 :: 109 :: 97 :: 105 :: 110 :: 32 :: 40 :: 41 :: 32 :: 40 :: 99 :: 97 :: 115 :: 101 :: 32 :: 49 :: 32 :: 40 :: 95 :: 32 :: l).toArray⟩ ⟨#[10, 41, 41, 41]⟩).run Tryd.prog wr = .ok (.string ⟨W.toArray⟩) wr := by rw [hW]; exact s2
          clear s2
          have hcv := conv_text wr W
          have hq := program_of_text wr W (by omega)
          have HQ := Lib.hid hq
          clear hq hW
          have i0 : wr.cell? ⟨w2.heap.size + 1, 3, none⟩ = some (.string ⟨#[40, 100, 101, 102, 32, 109, 97, 105, 110, 32, 40, 41, 32, 40, 99, 97, 115, 101, 32, 49, 32, 40, 95, 32]⟩) := wcell_at HI.out HB.out 3 (by decide)
          go_wp2_with fail
          refine HQ.out.mono ?_
          rintro e w5 ⟨hb5, hres5⟩
          have HB5 := Lib.hid (HB.out.trans (((Lib.bytesWorld_below wr 5 ⟨W.toArray⟩).trans (hb5.mono (by rw [Lib.bytesWorld_size]; omega))).mono hsz))
          have hs5 := HB5.out.size
          by_cases ho : l.count 40 < 30
          · rw [HW.out] at hres5
            obtain ⟨y, b, c, hpx, hf1, hf2, hf3⟩ := Px.wrap4 HOUT.out ho (by omega)
            rw [hpx] at hres5
            obtain ⟨v, rfl, hnew⟩ := hres5
            obtain ⟨r1, d1, g, o, d2, b0, b1, b2, b3, b4, b5, b6, rfl, hg1, hg2, hex, k3, k4, k5, k6, k7, k8, k9⟩ := one_def hnew.now
            rw [HXK.out] at hf1; rw [HXP.out] at hf2; rw [HXA.out] at hf3
            obtain ⟨t1, l1, e1, t2, l2, e2, gy, oy, e3, u, hv, hy1, hy2, hu, hcu⟩ := alts_first hex
            simp only [Value.agg.injEq, Array.mk.injEq, List.cons.injEq, and_true] at hv
            obtain ⟨rfl, rfl, rfl, rfl, rfl, rfl, rfl⟩ := hv
            obtain ⟨yi, ys, z1, p1, f1, z2, f2, z3, p3, f3, rfl⟩ := exprAt_parts hu
            rw [hf1, hf2, hf3] at hcu
            have m0 := hcu 0 _ rfl
            have m1 := hcu 1 _ rfl
            have m2 := hcu 2 _ rfl
            have m3 := hcu 3 _ rfl
            have m4 := hcu 4 _ rfl
            have m5 := hcu 5 _ rfl
            have m6 := hcu 6 _ rfl
            rw [Nat.add_zero] at m0
            have hc : ((l.count 40 : Nat) : Int) < 30 := by omega
            have HSL5 := Lib.hid (HSLI.out _ (HB5.out.alloc hs5 (.cells #[.slice r1 0 d1, .slice (some ⟨g, o, none⟩) 1 d2] 27)))
            have up : ∀ a z, w5.cell? a = some z → (w5.alloc (.cells #[.slice r1 0 d1, .slice (some ⟨g, o, none⟩) 1 d2] 27)).cell? a = some z := fun a z h => (World.cell?_alloc_some w5 a _ (by rw [h]; rfl)).trans h
            replace k3 := up _ _ k3; replace k4 := up _ _ k4; replace k5 := up _ _ k5; replace k6 := up _ _ k6; replace k7 := up _ _ k7; replace k8 := up _ _ k8; replace k9 := up _ _ k9
            replace m0 := up _ _ m0; replace m1 := up _ _ m1; replace m2 := up _ _ m2; replace m3 := up _ _ m3; replace m4 := up _ _ m4; replace m5 := up _ _ m5; replace m6 := up _ _ m6
            have hexc := ent_below HEX.out (HB5.out.alloc hs5 (.cells #[.slice r1 0 d1, .slice (some ⟨g, o, none⟩) 1 d2] 27))
            have x0 := ent_cell hexc 0 _ rfl; have x1 := ent_cell hexc 1 _ rfl; have x5 := ent_cell hexc 5 _ rfl
            have up2 : ∀ a z, (w5.alloc (.cells #[.slice r1 0 d1, .slice (some ⟨g, o, none⟩) 1 d2] 27)).cell? a = some z → ((w5.alloc (.cells #[.slice r1 0 d1, .slice (some ⟨g, o, none⟩) 1 d2] 27)).alloc (.cells #[.int .i64 5, .int .i64 13, .string ⟨#[]⟩, .int .i64 0, .slice t1 l1 e1, .slice t2 l2 e2, .slice (some ⟨gy, oy, none⟩) 1 e3] 38)).cell? a = some z := fun a z h => (World.cell?_alloc_some _ a _ (by rw [h]; rfl)).trans h
            have v0 := up2 _ _ x0; have v1 := up2 _ _ x1; have v5 := up2 _ _ x5
            have up3 : ∀ a z, (w5.alloc (.cells #[.slice r1 0 d1, .slice (some ⟨g, o, none⟩) 1 d2] 27)).cell? a = some z → ((w5.alloc (.cells #[.slice r1 0 d1, .slice (some ⟨g, o, none⟩) 1 d2] 27)).alloc (.cells #[.int .i64 K, .int .i64 ((P : Int) + 24), .string ys, .int .i64 yi, .slice z1 p1 f1, .slice z2 A f2, .slice z3 p3 f3] 38)).cell? a = some z := fun a z h => (World.cell?_alloc_some _ a _ (by rw [h]; rfl)).trans h
            have y0 := up3 _ _ x0; have y1 := up3 _ _ x1; have y5 := up3 _ _ x5
            clear up3
            have n0 := up2 _ _ m0; have n1 := up2 _ _ m1; have n2 := up2 _ _ m2; have n3 := up2 _ _ m3; have n4 := up2 _ _ m4; have n5 := up2 _ _ m5; have n6 := up2 _ _ m6
            have HB6 := Lib.hid (HB5.out.alloc hs5 (.cells #[.slice r1 0 d1, .slice (some ⟨g, o, none⟩) 1 d2] 27))
            have hs6 := HB6.out.size
            clear hnew hex hb5 HQ hcv hcs s1 s3 up up2 hexc hpx i0
            go_wp2_with fail
            refine (lists_any _ l _ HSL5.out (by omega)).mono ?_
            rintro e w6 ⟨rfl, rfl⟩
            go_wp2_with fail
            go_roundw
            case rel => exact ⟨4, by go_num, by omega, HB6.out.alloc hs6 _⟩
            case measure => simp [intOf]
          · obtain ⟨r1, m1, d1, r2, m2, d2, pz, cz, rfl⟩ := parsed_form ⟨hb5, hres5⟩
            have hc : ¬ ((l.count 40 : Nat) : Int) < 30 := by omega
            have HSL5 := Lib.hid (HSLI.out _ (HB5.out.alloc hs5 (.cells #[.slice r1 m1 d1, .slice r2 m2 d2] 27)))
            clear hb5 hres5 HQ hcv hcs s1 s3
            go_wp2_with fail
            refine (lists_any _ l _ HSL5.out (by omega)).mono ?_
            rintro e w6 ⟨rfl, rfl⟩
            go_wp2_with fail
            go_roundw
            case rel => exact ⟨4, by go_num, by omega, HB5.out.alloc hs5 _⟩
            case measure => simp [intOf]
        · have hfin : Below w.heap.size w wr := HW0.out.trans (HB.out.mono HW0.out.size)
          have HF := Lib.hid hfin; clear hfin
          go_wp2_with fail
          go_ret
          exact ⟨rfl, HF.out⟩

theorem parseWraps_row (w : World) (a0 : Option Addr) (len0 cap0 : Nat) (z0 : List Int) (w0 : IsRow .u8 w a0 len0 cap0 z0) :
    Calls Tryd.prog 6 #[.slice a0 len0 cap0] w fun e w' => e = .returned (.bool true) ∧ Below w.heap.size w w' := by
  obtain ⟨h1, h2, h3, h4⟩ := row_src w0
  exact parseWraps_any w a0 len0 cap0 _ h1 h2 h3 h4
end Go.Proofs.YtbkhhdfhcbjfbaaDoor
