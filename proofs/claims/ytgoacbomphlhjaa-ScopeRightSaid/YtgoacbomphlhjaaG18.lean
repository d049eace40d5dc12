/-
  The document's answers, layer 2: Program, Expr.
-/
import Derived.Test.YtgoacbomphlhjaaG15
import Derived.Test.YtgoacbomphlhjaaG16
import Derived.Test.YtgoacbomphlhjaaG17
import Derived.Test.YtgoacbomphlhjaaG04
import Derived.Test.YtgoacbomphlhjaaG01
namespace Go.Proofs.Ytgoacbomphlhjaa
open Go Go.RowKit
set_option linter.unusedVariables false
set_option linter.unusedSimpArgs false
namespace Px
open Lx (Tok)
def preP (ds : List Data) (fs : List Def) : R Prog → R Prog
 | .error p => .error p
 | .ok q => .ok ⟨ds ++ q.datas, fs ++ q.defs⟩
theorem preP_data (ds : List Data) (fs : List Def) (d : Data) (r : R Prog) : preP ds fs (match r with | .error p => .error p | .ok q => .ok ⟨d :: q.datas, q.defs⟩) = preP (ds ++ [d]) fs r := by
 cases r with
 | error p => rfl
 | ok q => simp [preP]
theorem preP_def (ds : List Data) (fs : List Def) (d : Def) (r : R Prog) : preP ds fs (match r with | .error p => .error p | .ok q => .ok ⟨q.datas, d :: q.defs⟩) = preP ds (fs ++ [d]) r := by
 cases r with
 | error p => rfl
 | ok q => simp [preP]
theorem preP_err (ds : List Data) (fs : List Def) (p : Nat) : preP ds fs (.error p) = .error p := rfl
theorem prog_step (stop f c : Nat) (ts : List Tok) (hne : 0 < ts.length) (n : Node) (ts' : List Tok) (h : node stop (2 * ts.length + 2) 0 ts = .ok (n, ts')) : prog stop (f + 1) c ts =
 (if c = 100 then .error n.pos
   else if word n = [100, 97, 116, 97] then
    match data 50 n with
    | .error p => .error p
    | .ok d => match prog stop f (c + 1) ts' with
      | .error p => .error p
      | .ok q => .ok ⟨d :: q.datas, q.defs⟩
   else if word n = [100, 101, 102] then
    match defn 50 n with
    | .error p => .error p
    | .ok d => match prog stop f (c + 1) ts' with
      | .error p => .error p
      | .ok q => .ok ⟨q.datas, d :: q.defs⟩
   else .error n.pos) := by
 cases ts with
 | nil => simp at hne
 | cons t ts => rw [prog_cons, h]; rfl
theorem prog_fail (stop f c : Nat) (ts : List Tok) (hne : 0 < ts.length) (p : Nat) (h : node stop (2 * ts.length + 2) 0 ts = .error p) : prog stop (f + 1) c ts = .error p := by
 cases ts with
 | nil => simp at hne
 | cons t ts => rw [prog_cons, h]
theorem program_is (l : List UInt8) (ts : List Tok) (h0 : l.length ≤ 4096) (ht : Lx.toks (l.length + 1) 0 l = (ts, none)) : program l = (match prog l.length (ts.length + 1) 0 ts with | .error p => .parse p | .ok x => .done x) := by
 unfold program parsed
 rw [if_neg (by omega), ht]; dsimp only; cases prog l.length (ts.length + 1) 0 ts <;> rfl
theorem exprOf_is (l : List UInt8) (ts : List Tok) (h0 : l.length ≤ 4096) (ht : Lx.toks (l.length + 1) 0 l = (ts, none)) : exprOf l = (match onlyExpr l.length ts with | .error p => .parse p | .ok x => .done x) := by
 unfold exprOf parsed
 rw [if_neg (by omega), ht]; dsimp only; cases onlyExpr l.length ts <;> rfl
theorem parsed_lex {α : Type} (rd : Nat → List Tok → R α) (l : List UInt8) (q : Nat) (h0 : l.length ≤ 4096) (ht : (Lx.toks (l.length + 1) 0 l).2 = some q) : parsed rd l = .lex q := by
 unfold parsed
 rw [if_neg (by omega)]
 cases h : Lx.toks (l.length + 1) 0 l with
 | mk a b => rw [h] at ht; simp only at ht; subst ht; rfl
theorem parsed_long {α : Type} (rd : Nat → List Tok → R α) (l : List UInt8) (h0 : 4096 < l.length) : parsed rd l = .lex 4096 := by
 unfold parsed
 rw [if_pos h0]
end Px
def ProgAt (f : Nat) (u : World) (v : Value) (x : Px.Prog) : Prop := ∃ dv fv, v = .agg #[dv, fv] ∧ RowAt 4 (DataAt f u) u dv x.datas ∧ RowAt 10 (DefAt f u) u fv x.defs
def ShProg (v : Value) : Prop := ∃ (q1 : Option Addr) (n1 c1 : Nat) (q2 : Option Addr) (n2 c2 : Nat), v = .agg #[.slice q1 n1 c1, .slice q2 n2 c2]
/-- What the document's readers answer of a text. -/
def ROut {α : Type} (w : World) (rep : World → Value → α → Prop) (sh : Value → Prop) (r : Px.Outcome α) (e : Ending) (w' : World) : Prop :=
 Below w.heap.size w w' ∧ ∃ v p c, e = .returned (.tuple #[v, .int .i64 p, .int .i64 c]) ∧ sh v ∧ (match r with | .lex q => p = (q : Int) ∧ c = 2 | .parse q => p = (q : Int) ∧ c = 3 | .done x => p = -1 ∧ c = 0 ∧ New rep w w' v x)
theorem rout_lex {α : Type} {w w' : World} {rep : World → Value → α → Prop} {sh : Value → Prop} {r : Px.Outcome α} {q : Nat} {v : Value} (hr : r = .lex q) (hb : Below w.heap.size w w') (hs : sh v) : ROut w rep sh r (.returned (.tuple #[v, .int .i64 (q : Int), .int .i64 2])) w' := by
 subst hr; exact ⟨hb, v, q, 2, rfl, hs, rfl, rfl⟩
theorem rout_parse {α : Type} {w w' : World} {rep : World → Value → α → Prop} {sh : Value → Prop} {r : Px.Outcome α} {q : Nat} {v : Value} (hr : r = .parse q) (hb : Below w.heap.size w w') (hs : sh v) : ROut w rep sh r (.returned (.tuple #[v, .int .i64 (q : Int), .int .i64 3])) w' := by
 subst hr; exact ⟨hb, v, q, 3, rfl, hs, rfl, rfl⟩
theorem rout_done {α : Type} {w w' : World} {rep : World → Value → α → Prop} {sh : Value → Prop} {r : Px.Outcome α} {x : α} {v : Value} (hr : r = .done x) (hb : Below w.heap.size w w') (hs : sh v) (hn : New rep w w' v x) : ROut w rep sh r (.returned (.tuple #[v, .int .i64 (-1), .int .i64 0])) w' := by
 subst hr; exact ⟨hb, v, -1, 0, rfl, hs, rfl, rfl, hn⟩
theorem tokrow_own {w : World} {base : Nat} {v : Value} {ts : List Lx.Tok} (h : w.ownsRow base 70 4 v ts.length (toksCells ts)) : TokRow w v ts := by
 by_cases hne : ts = []
 · subst hne
   obtain ⟨p, c, rfl⟩ := own_slice h
   exact .inl ⟨rfl, p, c, rfl⟩
 · obtain ⟨g, cap, rfl, _, _, h1, h2, h3⟩ := own_toks h hne
   refine .inr ⟨g, 0, cap, rfl, h1, h2, fun i t ht => ⟨_, rfl, rfl, fun j z hz => ?_⟩⟩
   obtain ⟨a0, a1, a2, a3⟩ := h3 i t ht
   have e : (⟨g, 0 + i * 4 + j, none⟩ : Addr) = ⟨g, i * 4 + j, none⟩ := by congr 1; omega
   rw [e]
   have hj : j < 4 := (Array.getElem?_eq_some_iff.1 hz).1
   have hz' : (#[Value.int .i64 t.kind, .int .i64 t.pos, .string ⟨t.text.toArray⟩, .int .i64 t.int] : Array Value)[j]? = some z := hz
   match j, hj, hz' with
   | 0, _, h => simp at h; subst h; exact a0
   | 1, _, h => simp at h; subst h; exact a1
   | 2, _, h => simp at h; subst h; exact a2
   | 3, _, h => simp at h; subst h; exact a3
theorem infoData : (Try.prog.info? 44).map (fun i => (i.zero, i.size, i.bytes)) = some (some (.agg #[.int .i64 0, .string ⟨#[]⟩, .slice none 0 0, .slice none 0 0]), 4, 72) := by kernel_rfl
theorem infoDef : (Try.prog.info? 58).map (fun i => (i.zero, i.size, i.bytes)) = some (some (.agg #[.int .i64 0, .string ⟨#[]⟩, .slice none 0 0, .int .i64 0, .int .i64 0, .string ⟨#[]⟩, .int .i64 0, .slice none 0 0, .slice none 0 0, .slice none 0 0]), 10, 160) := by kernel_rfl
set_option maxHeartbeats 16000000 in
set_option maxRecDepth 100000 in
theorem RProgram_any (l : List UInt8) (w : World) (hm : l.length ≤ 1000000) : Calls Try.prog 8 #[.string ⟨l.toArray⟩] w (ROut w (ProgAt 50) ShProg (Px.program l)) := by
 have HT := Lib.hid (fun w => refTokens_any l w hm)
 go_enter Try.func8, Try.ntmps8
 obtain ⟨er, eo, hb, hsz⟩ := ent2 w #[.slice none 0 0, .slice none 0 0] #[.slice none 0 0, .slice none 0 0] 27 27
 have ER := Lib.hid er; have EO := Lib.hid eo; have HB := Lib.hid hb
 replace hsz : w.heap.size + 2 ≤ _ := Nat.le_of_eq hsz.symm
 clear er eo hb
 go_wp2_with fail
 generalize (w.alloc (.cells #[.slice none 0 0, .slice none 0 0] 27)).alloc (.cells #[.slice none 0 0, .slice none 0 0] 27) = w0 at ER EO HB hsz ⊢
 refine (HT.out w0).mono ?_
 rintro e w1 ⟨tv, ts, tp, tc, rfl, hb, hown, hcase⟩
 have HROW := Lib.hid (tokrow_own hown)
 have HPOS0 := Lib.hid hown; have HSZ0 := Lib.hid hsz
 replace hsz := Nat.le_trans hsz hb.size
 replace ER := Lib.hid (ent_below ER.out hb)
 replace EO := Lib.hid (ent_below EO.out hb)
 replace HB := Lib.hid (HB.out.trans (hb.mono HB.out.size))
 clear hb
 obtain ⟨tq, tcap, rfl⟩ := own_slice hown
 clear hown
 rcases hcase with ⟨hl, rfl, rfl, rfl⟩ | ⟨h0, q, hq, rfl, rfl, rfl⟩ | ⟨h0, hq, rfl, rfl⟩
 · skip
   have HP := Lib.hid (show Px.program l = .lex 4096 from Px.parsed_long _ l hl); clear hl
   have erc0 := ent_cell ER.out 0 _ rfl
   have erc1 := ent_cell ER.out 1 _ rfl
   have erf := ent_free ER.out
   have eoc0 := ent_cell EO.out 0 _ rfl
   have eoc1 := ent_cell EO.out 1 _ rfl
   have eof := ent_free EO.out
   go_wp2_with fail
   replace ER := Lib.hid (ent_put #[.slice none 0 0, .slice none 0 0] (ent_put #[.slice none 0 0, .slice none 0 0] (ER.out) 0 (.slice none 0 0) rfl) 1 (.slice none 0 0) rfl)
   replace EO := Lib.hid (ent_other (ent_other (EO.out) (w.heap.size) 0 (.slice none 0 0) (by omega)) (w.heap.size) 1 (.slice none 0 0) (by omega))
   replace HB := Lib.hid (Below.setCell (Below.setCell (HB.out) (p := ⟨w.heap.size, 0, none⟩) (by dsimp only; omega) (.slice none 0 0)) (p := ⟨w.heap.size, 1, none⟩) (by dsimp only; omega) (.slice none 0 0))
   have r0 := ent_cell ER.out 0 _ rfl
   have r1 := ent_cell ER.out 1 _ rfl
   refine bodyPost_ret (v := .tuple #[.agg #[.slice none 0 0, .slice none 0 0], .int .i64 4096, .int .i64 2]) (by simp [results, Try.results8, go_sem, r0, r1]) rfl ?_
   exact rout_lex (q := 4096) HP.out HB.out ⟨_, _, _, _, _, _, rfl⟩
 · skip
   have HP := Lib.hid (show Px.program l = .lex q from Px.parsed_lex _ l q h0 hq); clear h0 hq
   have hge : (q : Int) ≥ 0 := by omega
   have erc0 := ent_cell ER.out 0 _ rfl
   have erc1 := ent_cell ER.out 1 _ rfl
   have erf := ent_free ER.out
   have eoc0 := ent_cell EO.out 0 _ rfl
   have eoc1 := ent_cell EO.out 1 _ rfl
   have eof := ent_free EO.out
   go_wp2_with fail
   replace ER := Lib.hid (ent_put #[.slice none 0 0, .slice none 0 0] (ent_put #[.slice none 0 0, .slice none 0 0] (ER.out) 0 (.slice none 0 0) rfl) 1 (.slice none 0 0) rfl)
   replace EO := Lib.hid (ent_other (ent_other (EO.out) (w.heap.size) 0 (.slice none 0 0) (by omega)) (w.heap.size) 1 (.slice none 0 0) (by omega))
   replace HB := Lib.hid (Below.setCell (Below.setCell (HB.out) (p := ⟨w.heap.size, 0, none⟩) (by dsimp only; omega) (.slice none 0 0)) (p := ⟨w.heap.size, 1, none⟩) (by dsimp only; omega) (.slice none 0 0))
   have r0 := ent_cell ER.out 0 _ rfl
   have r1 := ent_cell ER.out 1 _ rfl
   refine bodyPost_ret (v := .tuple #[.agg #[.slice none 0 0, .slice none 0 0], .int .i64 q, .int .i64 2]) (by simp [results, Try.results8, go_sem, r0, r1]) rfl ?_
   exact rout_lex HP.out HB.out ⟨_, _, _, _, _, _, rfl⟩
 · skip
   have hlen : ts.length ≤ l.length := by have := Lx.toks_len (l.length + 1) 0 l; rw [hq] at this; exact this
   have hok : ∀ t ∈ ts, Px.TOk t := by have := Px.toks_ok (l.length + 1) 0 l; rw [hq] at this; exact this
   have HTS := Lib.hid hok
   have HQ := Lib.hid hq
   have HLL := Lib.hid (show ts.length ≤ 1000000 by omega)
   have HL0 := Lib.hid h0
   clear hok hq h0
   have HPG := Lib.hid (Px.program_is l ts HL0.out HQ.out)
   clear HQ HL0 HPOS0
   have eoc0 := ent_cell EO.out 0 _ rfl
   have eoc1 := ent_cell EO.out 1 _ rfl
   have eof := ent_free EO.out
   go_upto_region 6 with fail
   clear eoc0 eoc1 eof
   replace ER := Lib.hid (ent_alloc ER.out (.cells #[.slice none 0 0, .slice none 0 0] 27))
   replace EO := Lib.hid (ent_alloc EO.out (.cells #[.slice none 0 0, .slice none 0 0] 27))
   replace HB := Lib.hid (HB.out.alloc HB.out.size (.cells #[.slice none 0 0, .slice none 0 0] 27))
   have HB1 := Lib.hid (show Below w1.heap.size w1 (w1.alloc (.cells #[.slice none 0 0, .slice none 0 0] 27)) from (Below.refl _ _).alloc (Nat.le_refl _) _)
   have hin := g2_nil (α := Px.Data) (β := Px.Def) (E1 := 44) (s1 := 4) (r1 := DataAt 50) (E2 := 58) (s2 := 10) (r2 := DefAt 50) (ent_new w1 #[.slice none 0 0, .slice none 0 0] 27)
   generalize w1.alloc (.cells #[.slice none 0 0, .slice none 0 0] 27) = W5 at ER EO HB HB1 hin ⊢
   have TWO0 := Lib.hid hin
   have ER0 := ER; have EO0 := EO; have HB0 := HB
   clear hin ER EO HB
   have hpre : Px.prog l.length (ts.length + 1) 0 ts = Px.preP [] [] (Px.prog l.length (ts.length + 1) 0 (ts.drop 0)) := by rw [List.drop_zero]; cases Px.prog l.length (ts.length + 1) 0 ts <;> rfl
   have HPRE := Lib.hid hpre; clear hpre
   go_wp2_with fail
   go_loopw [3, 4, 9, 10, 11, 12, 13, 14, 15, 16, 62, 80] (fun _ _ k _ _ _ _ _ _ _ _ _ wr => ∃ (i f : Nat) (a b : Value) (va vb : List Value) (xa : List Px.Data) (xb : List Px.Def), k = .int .i64 (i : Nat) ∧ i ≤ ts.length ∧ ts.length - i < f ∧ Hid (Px.prog l.length (ts.length + 1) 0 ts = Px.preP xa xb (Px.prog l.length f (xa.length + xb.length) (ts.drop i))) ∧ xa.length + xb.length ≤ 100 ∧ Hid (G2 44 4 (DataAt 50) 58 10 (DefAt 50) W5 w1.heap.size 27 #[a, b] (a) (b) (xa.length) (xb.length) (va) (vb) (va) (vb) (xa) (xb) [] wr)) (fun _ _ k _ _ _ _ _ _ _ _ _ _ => ts.length - (intOf k).toNat)
   case atStart => exact ⟨0, ts.length + 1, _, _, [], [], [], [], rfl, Nat.zero_le _, by omega, HPRE, by simp, TWO0⟩
   case round =>
    clear TWO0 HPRE
    obtain ⟨i, f, a, b, va, vb, xa, xb, rfl, hi, hf, HPP, hc, TWO⟩ := hrel
    have hwr := TWO.out.lt
    by_cases hlt : i < ts.length
    · skip
      obtain ⟨f, rfl⟩ : ∃ g, f = g + 1 := ⟨f - 1, by omega⟩
      have hdl : 0 < (ts.drop i).length := by rw [List.length_drop]; omega
      have HDL := Lib.hid hdl; clear hdl
      have hrow := HROW.out.mono (HB1.out.trans TWO.out.low) (fun _ _ _ h => h)
      have HN := Lib.hid (nodes_any l.length ts HLL.out (2 * (ts.drop i).length + 2) 0 i _ wr hrow (by omega) (by rw [List.length_drop]; omega))
      clear hrow
      go_wp2_with fail
      refine HN.out.mono ?_
      rintro e w2 ⟨hb, v, nx, kk, rfl, ⟨zk, zp, zs, zi, zb, zq, zn, zc, rfl⟩, hm⟩
      cases hnd : Px.node l.length (2 * (ts.drop i).length + 2) 0 (ts.drop i) with
      | error p =>
        rw [hnd] at hm
        obtain rfl : kk = (p : Int) := hm
        have hge : (p : Int) ≥ 0 := by omega
        have HX := Lib.hid (Px.prog_fail l.length f (xa.length + xb.length) _ HDL.out p hnd)
        replace TWO := Lib.hid ((TWO.out.below hb).alloc #[.int .i64 zk, .int .i64 zp, .string zs, .int .i64 zi, .bool zb, .slice zq zn zc] 73)
        clear hnd hb
        have ER := Lib.hid (ent_low TWO.out.low ER0.out (by omega))
        have EO := Lib.hid (ent_low TWO.out.low EO0.out (by omega))
        have HB := Lib.hid (HB0.out.trans (TWO.out.low.mono (by omega)))
        have erc0 := ent_cell ER.out 0 _ rfl
        have erc1 := ent_cell ER.out 1 _ rfl
        have erf := ent_free ER.out
        have eoc0 := ent_cell EO.out 0 _ rfl
        have eoc1 := ent_cell EO.out 1 _ rfl
        have eof := ent_free EO.out
        go_wp2_with fail
        replace ER := Lib.hid (ent_put #[.slice none 0 0, .slice none 0 0] (ent_put #[.slice none 0 0, .slice none 0 0] (ER.out) 0 (.slice none 0 0) rfl) 1 (.slice none 0 0) rfl)
        replace EO := Lib.hid (ent_other (ent_other (EO.out) (w.heap.size) 0 (.slice none 0 0) (by omega)) (w.heap.size) 1 (.slice none 0 0) (by omega))
        replace HB := Lib.hid (Below.setCell (Below.setCell (HB.out) (p := ⟨w.heap.size, 0, none⟩) (by dsimp only; omega) (.slice none 0 0)) (p := ⟨w.heap.size, 1, none⟩) (by dsimp only; omega) (.slice none 0 0))
        have r0 := ent_cell ER.out 0 _ rfl
        have r1 := ent_cell ER.out 1 _ rfl
        refine bodyPost_ret (v := .tuple #[.agg #[.slice none 0 0, .slice none 0 0], .int .i64 p, .int .i64 3]) (by simp [results, Try.results8, go_sem, r0, r1]) rfl ?_
        exact rout_parse (by rw [HPG.out, HPP.out, HX.out]; rfl) HB.out ⟨_, _, _, _, _, _, rfl⟩
      | ok r =>
        obtain ⟨m, ts'⟩ := r
        rw [hnd] at hm
        obtain ⟨rfl, j, rfl, hj, rfl, hnew⟩ := hm
        have hmore := ((Px.node_more l.length l.length (2 * (ts.drop i).length + 2) 0 (ts.drop i)).1 m (ts.drop j) hnd).2.2.1
        rw [List.length_drop, List.length_drop] at hmore
        have hgood := ((Px.node_good l.length (2 * (ts.drop i).length + 2) 0 (ts.drop i) (fun t ht => HTS.out t (List.mem_of_mem_drop ht))).1 m (ts.drop j) hnd).1
        have HG := Lib.hid hgood
        have HST := Lib.hid (Px.prog_step l.length f (xa.length + xb.length) _ HDL.out m _ hnd)
        have hnow := hnew.now
        have HV := Lib.hid hnow
        obtain ⟨mlv, hmv, hmr⟩ := hnow
        obtain ⟨mq, mc, rfl⟩ := hmr.len
        unfold nV at hmv
        simp only [Value.agg.injEq, Array.mk.injEq, List.cons.injEq, and_true, Value.int.injEq, Value.string.injEq, Value.bool.injEq, true_and] at hmv
        obtain ⟨rfl, rfl, rfl, rfl, rfl, hsl⟩ := hmv
        injection hsl with h1 h2 h3
        subst h1; subst h2; subst h3
        have hij : i < j := by omega
        replace TWO := Lib.hid ((TWO.out.below hb).alloc #[.int .i64 m.tok.kind, .int .i64 m.tok.pos, .string ⟨m.tok.text.toArray⟩, .int .i64 m.tok.int, .bool (Px.isListB m), .slice zq m.list.length zc] 73)
        have HB2 := Lib.hid (show Below w2.heap.size w2 (w2.alloc (.cells #[.int .i64 m.tok.kind, .int .i64 m.tok.pos, .string ⟨m.tok.text.toArray⟩, .int .i64 m.tok.int, .bool (Px.isListB m), .slice zq m.list.length zc] 73)) from (Below.refl _ _).alloc (Nat.le_refl _) _)
        replace HV := Lib.hid (HV.out.below HB2.out)
        clear hnd hb hnew hmr hgood hmore HN HB2
        obtain ⟨gb, hgb⟩ : ∃ gb, gb = w2.heap.size := ⟨_, rfl⟩
        go_upto_region 9 with fail
        rw [← hgb] at TWO
        rw [← hgb]
        generalize w2.alloc (.cells #[.int .i64 m.tok.kind, .int .i64 m.tok.pos, .string ⟨m.tok.text.toArray⟩, .int .i64 m.tok.int, .bool (Px.isListB m), .slice zq m.list.length zc] 73) = w3 at TWO HV ⊢
        clear hgb
        obtain ⟨pa, ca, rfl⟩ := own_slice TWO.out.oa
        obtain ⟨pb, cb, rfl⟩ := own_slice TWO.out.ob
        have ETT := Lib.hid TWO.out.et
        have tt0 := ent_cell ETT.out 0 _ rfl
        have tt1 := ent_cell ETT.out 1 _ rfl
        have tf := ent_free ETT.out
        by_cases h100 : xa.length + xb.length = 100
        · skip
          have hi100 : ((xa.length : Nat) : Int) + (xb.length : Int) ≥ 100 := by omega
          have HX := Lib.hid (HST.out.trans (if_pos h100))
          go_wp2_with fail
          clear ETT tt0 tt1 tf
          have ER := Lib.hid (ent_low TWO.out.low ER0.out (by omega))
          have EO := Lib.hid (ent_low TWO.out.low EO0.out (by omega))
          have HB := Lib.hid (HB0.out.trans (TWO.out.low.mono (by omega)))
          have EB := Lib.hid (TWO.out.bx _ (List.Mem.head _)).2.1
          have bc0 := ent_cell EB.out 0 _ rfl
          have bc1 := ent_cell EB.out 1 _ rfl
          have bc2 := ent_cell EB.out 2 _ rfl
          have bc3 := ent_cell EB.out 3 _ rfl
          have bc4 := ent_cell EB.out 4 _ rfl
          have bc5 := ent_cell EB.out 5 _ rfl
          have bf := ent_free EB.out
          have hbe := (TWO.out.bx _ (List.Mem.head _)).1
          dsimp only at hbe
          have hne1 : ¬ gb = w.heap.size := by omega
          have hne2 : ¬ w.heap.size = gb := by omega
          have erc0 := ent_cell ER.out 0 _ rfl
          have erc1 := ent_cell ER.out 1 _ rfl
          have erf := ent_free ER.out
          have eoc0 := ent_cell EO.out 0 _ rfl
          have eoc1 := ent_cell EO.out 1 _ rfl
          have eof := ent_free EO.out
          go_region
          all_goals (try go_wp2_with fail)
          replace ER := Lib.hid (ent_put #[.slice none 0 0, .slice none 0 0] (ent_put #[.slice none 0 0, .slice none 0 0] (ER.out) 0 (.slice none 0 0) rfl) 1 (.slice none 0 0) rfl)
          replace EO := Lib.hid (ent_other (ent_other (EO.out) (w.heap.size) 0 (.slice none 0 0) (by omega)) (w.heap.size) 1 (.slice none 0 0) (by omega))
          replace HB := Lib.hid (Below.setCell (Below.setCell (HB.out) (p := ⟨w.heap.size, 0, none⟩) (by dsimp only; omega) (.slice none 0 0)) (p := ⟨w.heap.size, 1, none⟩) (by dsimp only; omega) (.slice none 0 0))
          replace ER := ent_drew ER
          replace HB := Lib.hid (HB.out.drew)
          have r0 := ent_cell ER.out 0 _ rfl
          have r1 := ent_cell ER.out 1 _ rfl
          refine bodyPost_ret (v := .tuple #[.agg #[.slice none 0 0, .slice none 0 0], .int .i64 m.tok.pos, .int .i64 3]) (by simp [results, Try.results8, go_sem, r0, r1]) rfl ?_
          exact rout_parse (q := m.pos) (by rw [HPG.out, HPP.out, HX.out]; rfl) HB.out ⟨_, _, _, _, _, _, rfl⟩
        · skip
          have hi100 : ¬ ((xa.length : Nat) : Int) + (xb.length : Int) ≥ 100 := by omega
          replace HST := Lib.hid (HST.out.trans (if_neg h100))
          have EB := Lib.hid (TWO.out.bx _ (List.Mem.head _)).2.1
          have bc0 := ent_cell EB.out 0 _ rfl
          have bc1 := ent_cell EB.out 1 _ rfl
          have bc2 := ent_cell EB.out 2 _ rfl
          have bc3 := ent_cell EB.out 3 _ rfl
          have bc4 := ent_cell EB.out 4 _ rfl
          have bc5 := ent_cell EB.out 5 _ rfl
          have bf := ent_free EB.out
          go_wp2_with fail
          clear ETT tt0 tt1 tf
          clear EB bc0 bc1 bc2 bc3 bc4 bc5 bf
          have HHD := Lib.hid (fun (w1 : World) (v : Value) (h : NdAt 41 w1 v m) (s : List UInt8) (hne : s ≠ []) (hs : ¬ Px.Plain s) (hk : (Lx.tokAt s).1 = 3) => (head_any 41 m v s w1 h).mono (fun e w' h => by rw [Px.head_eq HG.out s hne hs hk] at h; exact h))
          refine (HHD.out _ _ HV.out [100, 97, 116, 97] (by decide) (by unfold Px.Plain; decide) (by decide)).mono ?_
          rintro e w4 ⟨rfl, hb⟩
          replace TWO := Lib.hid (TWO.out.below hb)
          replace HV := Lib.hid (HV.out.below hb)
          clear hb
          by_cases hd : Px.word m = [100, 97, 116, 97]
          · skip
            rw [decide_eq_true hd]
            replace HST := Lib.hid (HST.out.trans (if_pos hd)); clear hd HHD
            have EB := Lib.hid (TWO.out.bx _ (List.Mem.head _)).2.1
            have bc0 := ent_cell EB.out 0 _ rfl
            have bc1 := ent_cell EB.out 1 _ rfl
            have bc2 := ent_cell EB.out 2 _ rfl
            have bc3 := ent_cell EB.out 3 _ rfl
            have bc4 := ent_cell EB.out 4 _ rfl
            have bc5 := ent_cell EB.out 5 _ rfl
            have bf := ent_free EB.out
            go_wp2_with fail
            clear EB bc0 bc1 bc2 bc3 bc4 bc5 bf
            refine (data_any 40 (by omega) m _ _ HV.out HG.out).mono ?_
            intro e w6 ht
            cases hx : Px.data 50 m with
            | error p =>
              obtain ⟨z, rfl, ⟨yp, yz, yq1, yn1, yc1, yq2, yn2, yc2, rfl⟩, hb⟩ := rtold_bad ht hx
              have hge : (p : Int) ≥ 0 := by omega
              have HX := Lib.hid (show _ = Except.error p from HST.out.trans (by rw [hx]))
              replace TWO := Lib.hid ((TWO.out.below hb).alloc #[.int .i64 yp, .string yz, .slice yq1 yn1 yc1, .slice yq2 yn2 yc2] 44)
              clear hx hb ht
              have ER := Lib.hid (ent_low TWO.out.low ER0.out (by omega))
              have EO := Lib.hid (ent_low TWO.out.low EO0.out (by omega))
              have HB := Lib.hid (HB0.out.trans (TWO.out.low.mono (by omega)))
              have erc0 := ent_cell ER.out 0 _ rfl
              have erc1 := ent_cell ER.out 1 _ rfl
              have erf := ent_free ER.out
              have eoc0 := ent_cell EO.out 0 _ rfl
              have eoc1 := ent_cell EO.out 1 _ rfl
              have eof := ent_free EO.out
              go_wp2_with fail
              replace ER := Lib.hid (ent_put #[.slice none 0 0, .slice none 0 0] (ent_put #[.slice none 0 0, .slice none 0 0] (ER.out) 0 (.slice none 0 0) rfl) 1 (.slice none 0 0) rfl)
              replace EO := Lib.hid (ent_other (ent_other (EO.out) (w.heap.size) 0 (.slice none 0 0) (by omega)) (w.heap.size) 1 (.slice none 0 0) (by omega))
              replace HB := Lib.hid (Below.setCell (Below.setCell (HB.out) (p := ⟨w.heap.size, 0, none⟩) (by dsimp only; omega) (.slice none 0 0)) (p := ⟨w.heap.size, 1, none⟩) (by dsimp only; omega) (.slice none 0 0))
              have r0 := ent_cell ER.out 0 _ rfl
              have r1 := ent_cell ER.out 1 _ rfl
              refine bodyPost_ret (v := .tuple #[.agg #[.slice none 0 0, .slice none 0 0], .int .i64 p, .int .i64 3]) (by simp [results, Try.results8, go_sem, r0, r1]) rfl ?_
              exact rout_parse (by rw [HPG.out, HPP.out, HX.out]; rfl) HB.out ⟨_, _, _, _, _, _, rfl⟩
            | ok d =>
              obtain ⟨z, rfl, ⟨yp, yz, yq1, yn1, yc1, yq2, yn2, yc2, rfl⟩, hnew, hb⟩ := rtold_ok ht hx
              have HX := Lib.hid (HST.out.trans (by rw [hx]))
              have hks := TWO.out.since hnew
              replace TWO := Lib.hid (((TWO.out.below hb).addA hks rfl).alloc #[.int .i64 yp, .string yz, .slice yq1 yn1 yc1, .slice yq2 yn2 yc2] 44)
              have HNX : Hid (Px.prog l.length (ts.length + 1) 0 ts = Px.preP (xa ++ [d]) xb (Px.prog l.length f ((xa ++ [d]).length + xb.length) (ts.drop j))) := Lib.hid (by rw [HPP.out, HST.out, hx]; dsimp only; rw [Px.preP_data]; congr 2; rw [List.length_append]; simp; omega)
              clear hx hb ht hnew hks HX
              go_upto_region 19 with fail
              obtain ⟨gz, hgz⟩ : ∃ gz, gz = w6.heap.size := ⟨_, rfl⟩
              rw [← hgz] at TWO
              rw [← hgz]
              generalize w6.alloc (.cells #[.int .i64 yp, .string yz, .slice yq1 yn1 yc1, .slice yq2 yn2 yc2] 44) = w7 at TWO ⊢
              clear hgz
              have ETT := Lib.hid TWO.out.et
              have tt0 := ent_cell ETT.out 0 _ rfl
              have tt1 := ent_cell ETT.out 1 _ rfl
              have tf := ent_free ETT.out
              have EZ := Lib.hid (TWO.out.bx _ (List.Mem.head _)).2.1
              have ze0 := ent_cell EZ.out 0 _ rfl
              have ze1 := ent_cell EZ.out 1 _ rfl
              have ze2 := ent_cell EZ.out 2 _ rfl
              have ze3 := ent_cell EZ.out 3 _ rfl
              go_wp2_with (at_builtin; refine G2.listA (TWO.out.alloc #[.int .i64 yp, .string yz, .slice yq1 yn1 yc1, .slice yq2 yn2 yc2] 44) (by decide) 24 Try.underlying24 infoData rfl (by decide) (by decide) (gb := w7.heap.size) (List.Mem.head _) rfl (by simp [Value.oneCell']) (by omega) rfl (.tmp 75) (.tmp 77) rfl rfl rfl ?_)
              intro v6 w8 h6
              clear ETT tt0 tt1 tf
              clear EZ ze0 ze1 ze2 ze3
              obtain ⟨pc, cc, rfl⟩ := own_slice h6.oa
              have T2 := Lib.hid (h6.only (M := []) (fun b hb => by cases hb)); clear h6
              replace TWO := T2; clear T2
              have ETT := Lib.hid TWO.out.et
              have tt0 := ent_cell ETT.out 0 _ rfl
              have tt1 := ent_cell ETT.out 1 _ rfl
              have tf := ent_free ETT.out
              go_wp2_with fail
              clear ETT tt0 tt1 tf
              have T3 := Lib.hid (TWO.out.st 0 (.slice pc (xa.length + 1) cc) #[.slice pc (xa.length + 1) cc, .slice pb xb.length cb] rfl)
              go_roundw
              case rel => exact ⟨j, f, _, _, va ++ [.agg #[.int .i64 yp, .string yz, .slice yq1 yn1 yc1, .slice yq2 yn2 yc2]], vb, xa ++ [d], xb, rfl, hj, by omega, HNX, by rw [List.length_append]; simp; omega, Lib.hid (by rw [show (xa ++ [d]).length = xa.length + 1 from by simp]; exact T3.out)⟩
              case measure => simp [intOf]; omega
          · skip
            rw [decide_eq_false hd]
            replace HST := Lib.hid (HST.out.trans (if_neg hd)); clear hd
            have EB := Lib.hid (TWO.out.bx _ (List.Mem.head _)).2.1
            have bc0 := ent_cell EB.out 0 _ rfl
            have bc1 := ent_cell EB.out 1 _ rfl
            have bc2 := ent_cell EB.out 2 _ rfl
            have bc3 := ent_cell EB.out 3 _ rfl
            have bc4 := ent_cell EB.out 4 _ rfl
            have bc5 := ent_cell EB.out 5 _ rfl
            have bf := ent_free EB.out
            go_wp2_with fail
            clear EB bc0 bc1 bc2 bc3 bc4 bc5 bf
            refine (HHD.out _ _ HV.out [100, 101, 102] (by decide) (by unfold Px.Plain; decide) (by decide)).mono ?_
            rintro e w5 ⟨rfl, hb⟩
            replace TWO := Lib.hid (TWO.out.below hb)
            replace HV := Lib.hid (HV.out.below hb)
            clear hb
            by_cases hd : Px.word m = [100, 101, 102]
            · skip
              rw [decide_eq_true hd]
              replace HST := Lib.hid (HST.out.trans (if_pos hd)); clear hd HHD
              have EB := Lib.hid (TWO.out.bx _ (List.Mem.head _)).2.1
              have bc0 := ent_cell EB.out 0 _ rfl
              have bc1 := ent_cell EB.out 1 _ rfl
              have bc2 := ent_cell EB.out 2 _ rfl
              have bc3 := ent_cell EB.out 3 _ rfl
              have bc4 := ent_cell EB.out 4 _ rfl
              have bc5 := ent_cell EB.out 5 _ rfl
              have bf := ent_free EB.out
              go_wp2_with fail
              clear EB bc0 bc1 bc2 bc3 bc4 bc5 bf
              refine (def_any 40 (by omega) m _ _ HV.out HG.out).mono ?_
              intro e w6 ht
              cases hx : Px.defn 50 m with
              | error p =>
                obtain ⟨z, rfl, ⟨yp, yz, yq0, yn0, yc0, yk, yp1, ys1, yi, yq1, yn1, yc1, yq2, yn2, yc2, yq3, yn3, yc3, rfl⟩, hb⟩ := rtold_bad ht hx
                have hge : (p : Int) ≥ 0 := by omega
                have HX := Lib.hid (show _ = Except.error p from HST.out.trans (by rw [hx]))
                replace TWO := Lib.hid ((TWO.out.below hb).alloc #[.int .i64 yp, .string yz, .slice yq0 yn0 yc0, .int .i64 yk, .int .i64 yp1, .string ys1, .int .i64 yi, .slice yq1 yn1 yc1, .slice yq2 yn2 yc2, .slice yq3 yn3 yc3] 58)
                clear hx hb ht
                have ER := Lib.hid (ent_low TWO.out.low ER0.out (by omega))
                have EO := Lib.hid (ent_low TWO.out.low EO0.out (by omega))
                have HB := Lib.hid (HB0.out.trans (TWO.out.low.mono (by omega)))
                have erc0 := ent_cell ER.out 0 _ rfl
                have erc1 := ent_cell ER.out 1 _ rfl
                have erf := ent_free ER.out
                have eoc0 := ent_cell EO.out 0 _ rfl
                have eoc1 := ent_cell EO.out 1 _ rfl
                have eof := ent_free EO.out
                go_wp2_with fail
                replace ER := Lib.hid (ent_put #[.slice none 0 0, .slice none 0 0] (ent_put #[.slice none 0 0, .slice none 0 0] (ER.out) 0 (.slice none 0 0) rfl) 1 (.slice none 0 0) rfl)
                replace EO := Lib.hid (ent_other (ent_other (EO.out) (w.heap.size) 0 (.slice none 0 0) (by omega)) (w.heap.size) 1 (.slice none 0 0) (by omega))
                replace HB := Lib.hid (Below.setCell (Below.setCell (HB.out) (p := ⟨w.heap.size, 0, none⟩) (by dsimp only; omega) (.slice none 0 0)) (p := ⟨w.heap.size, 1, none⟩) (by dsimp only; omega) (.slice none 0 0))
                have r0 := ent_cell ER.out 0 _ rfl
                have r1 := ent_cell ER.out 1 _ rfl
                refine bodyPost_ret (v := .tuple #[.agg #[.slice none 0 0, .slice none 0 0], .int .i64 p, .int .i64 3]) (by simp [results, Try.results8, go_sem, r0, r1]) rfl ?_
                exact rout_parse (by rw [HPG.out, HPP.out, HX.out]; rfl) HB.out ⟨_, _, _, _, _, _, rfl⟩
              | ok d =>
                obtain ⟨z, rfl, ⟨yp, yz, yq0, yn0, yc0, yk, yp1, ys1, yi, yq1, yn1, yc1, yq2, yn2, yc2, yq3, yn3, yc3, rfl⟩, hnew, hb⟩ := rtold_ok ht hx
                have HX := Lib.hid (HST.out.trans (by rw [hx]))
                have hks := TWO.out.since hnew
                replace TWO := Lib.hid (((TWO.out.below hb).addB hks rfl).alloc #[.int .i64 yp, .string yz, .slice yq0 yn0 yc0, .int .i64 yk, .int .i64 yp1, .string ys1, .int .i64 yi, .slice yq1 yn1 yc1, .slice yq2 yn2 yc2, .slice yq3 yn3 yc3] 58)
                have HNX : Hid (Px.prog l.length (ts.length + 1) 0 ts = Px.preP xa (xb ++ [d]) (Px.prog l.length f (xa.length + (xb ++ [d]).length) (ts.drop j))) := Lib.hid (by rw [HPP.out, HST.out, hx]; dsimp only; rw [Px.preP_def]; congr 2; rw [List.length_append, ← Nat.add_assoc]; rfl)
                clear hx hb ht hnew hks HX
                go_upto_region 24 with fail
                obtain ⟨gz, hgz⟩ : ∃ gz, gz = w6.heap.size := ⟨_, rfl⟩
                rw [← hgz] at TWO
                rw [← hgz]
                generalize w6.alloc (.cells #[.int .i64 yp, .string yz, .slice yq0 yn0 yc0, .int .i64 yk, .int .i64 yp1, .string ys1, .int .i64 yi, .slice yq1 yn1 yc1, .slice yq2 yn2 yc2, .slice yq3 yn3 yc3] 58) = w7 at TWO ⊢
                clear hgz
                have ETT := Lib.hid TWO.out.et
                have tt0 := ent_cell ETT.out 0 _ rfl
                have tt1 := ent_cell ETT.out 1 _ rfl
                have tf := ent_free ETT.out
                have EZ := Lib.hid (TWO.out.bx _ (List.Mem.head _)).2.1
                have ze0 := ent_cell EZ.out 0 _ rfl
                have ze1 := ent_cell EZ.out 1 _ rfl
                have ze2 := ent_cell EZ.out 2 _ rfl
                have ze3 := ent_cell EZ.out 3 _ rfl
                have ze4 := ent_cell EZ.out 4 _ rfl
                have ze5 := ent_cell EZ.out 5 _ rfl
                have ze6 := ent_cell EZ.out 6 _ rfl
                have ze7 := ent_cell EZ.out 7 _ rfl
                have ze8 := ent_cell EZ.out 8 _ rfl
                have ze9 := ent_cell EZ.out 9 _ rfl
                go_wp2_with (at_builtin; refine G2.listA (TWO.out.alloc #[.int .i64 yp, .string yz, .slice yq0 yn0 yc0, .int .i64 yk, .int .i64 yp1, .string ys1, .int .i64 yi, .slice yq1 yn1 yc1, .slice yq2 yn2 yc2, .slice yq3 yn3 yc3] 58).swap (by decide) 25 Try.underlying25 infoDef rfl (by decide) (by decide) (gb := w7.heap.size) (List.Mem.head _) rfl (by simp [Value.oneCell']) (by omega) rfl (.tmp 93) (.tmp 95) rfl rfl rfl ?_)
                intro v6 w8 h6
                clear ETT tt0 tt1 tf
                clear EZ ze0 ze1 ze2 ze3 ze4 ze5 ze6 ze7 ze8 ze9
                obtain ⟨pc, cc, rfl⟩ := own_slice h6.oa
                have T2 := Lib.hid (h6.swap.only (M := []) (fun b hb => by cases hb)); clear h6
                replace TWO := T2; clear T2
                have ETT := Lib.hid TWO.out.et
                have tt0 := ent_cell ETT.out 0 _ rfl
                have tt1 := ent_cell ETT.out 1 _ rfl
                have tf := ent_free ETT.out
                go_wp2_with fail
                clear ETT tt0 tt1 tf
                have T3 := Lib.hid (TWO.out.st 1 (.slice pc (xb.length + 1) cc) #[.slice pa xa.length ca, .slice pc (xb.length + 1) cc] rfl)
                go_roundw
                case rel => exact ⟨j, f, _, _, va, vb ++ [.agg #[.int .i64 yp, .string yz, .slice yq0 yn0 yc0, .int .i64 yk, .int .i64 yp1, .string ys1, .int .i64 yi, .slice yq1 yn1 yc1, .slice yq2 yn2 yc2, .slice yq3 yn3 yc3]], xa, xb ++ [d], rfl, hj, by omega, HNX, by rw [List.length_append]; simp; omega, Lib.hid (by rw [show (xb ++ [d]).length = xb.length + 1 from by simp]; exact T3.out)⟩
                case measure => simp [intOf]; omega
            · skip
              rw [decide_eq_false hd]
              have HX := Lib.hid (HST.out.trans (if_neg hd)); clear hd
              go_wp2_with fail
              have ER := Lib.hid (ent_low TWO.out.low ER0.out (by omega))
              have EO := Lib.hid (ent_low TWO.out.low EO0.out (by omega))
              have HB := Lib.hid (HB0.out.trans (TWO.out.low.mono (by omega)))
              have EB := Lib.hid (TWO.out.bx _ (List.Mem.head _)).2.1
              have bc0 := ent_cell EB.out 0 _ rfl
              have bc1 := ent_cell EB.out 1 _ rfl
              have bc2 := ent_cell EB.out 2 _ rfl
              have bc3 := ent_cell EB.out 3 _ rfl
              have bc4 := ent_cell EB.out 4 _ rfl
              have bc5 := ent_cell EB.out 5 _ rfl
              have bf := ent_free EB.out
              have hbe := (TWO.out.bx _ (List.Mem.head _)).1
              dsimp only at hbe
              have hne1 : ¬ gb = w.heap.size := by omega
              have hne2 : ¬ w.heap.size = gb := by omega
              have erc0 := ent_cell ER.out 0 _ rfl
              have erc1 := ent_cell ER.out 1 _ rfl
              have erf := ent_free ER.out
              have eoc0 := ent_cell EO.out 0 _ rfl
              have eoc1 := ent_cell EO.out 1 _ rfl
              have eof := ent_free EO.out
              go_region
              all_goals (try go_wp2_with fail)
              replace ER := Lib.hid (ent_put #[.slice none 0 0, .slice none 0 0] (ent_put #[.slice none 0 0, .slice none 0 0] (ER.out) 0 (.slice none 0 0) rfl) 1 (.slice none 0 0) rfl)
              replace EO := Lib.hid (ent_other (ent_other (EO.out) (w.heap.size) 0 (.slice none 0 0) (by omega)) (w.heap.size) 1 (.slice none 0 0) (by omega))
              replace HB := Lib.hid (Below.setCell (Below.setCell (HB.out) (p := ⟨w.heap.size, 0, none⟩) (by dsimp only; omega) (.slice none 0 0)) (p := ⟨w.heap.size, 1, none⟩) (by dsimp only; omega) (.slice none 0 0))
              replace ER := ent_drew ER
              replace HB := Lib.hid (HB.out.drew)
              have r0 := ent_cell ER.out 0 _ rfl
              have r1 := ent_cell ER.out 1 _ rfl
              refine bodyPost_ret (v := .tuple #[.agg #[.slice none 0 0, .slice none 0 0], .int .i64 m.tok.pos, .int .i64 3]) (by simp [results, Try.results8, go_sem, r0, r1]) rfl ?_
              exact rout_parse (q := m.pos) (by rw [HPG.out, HPP.out, HX.out]; rfl) HB.out ⟨_, _, _, _, _, _, rfl⟩
    · skip
      have hie : ts.drop i = [] := List.drop_eq_nil_of_le (by omega)
      have HPX : Hid (Px.program l = .done ⟨xa, xb⟩) := Lib.hid (by rw [HPG.out, HPP.out, hie, Px.prog_nil]; simp [Px.preP])
      clear hie
      obtain ⟨pa, ca, rfl⟩ := own_slice TWO.out.oa
      obtain ⟨pb, cb, rfl⟩ := own_slice TWO.out.ob
      have ER := Lib.hid (ent_low TWO.out.low ER0.out (by omega))
      have EO := Lib.hid (ent_low TWO.out.low EO0.out (by omega))
      have HB := Lib.hid (HB0.out.trans (TWO.out.low.mono (by omega)))
      have ETT := Lib.hid TWO.out.et
      have tt0 := ent_cell ETT.out 0 _ rfl
      have tt1 := ent_cell ETT.out 1 _ rfl
      have tf := ent_free ETT.out
      have erc0 := ent_cell ER.out 0 _ rfl
      have erc1 := ent_cell ER.out 1 _ rfl
      have erf := ent_free ER.out
      go_wp2_with fail
      replace ER := Lib.hid (ent_put #[.slice pa xa.length ca, .slice pb xb.length cb] (ent_put #[.slice pa xa.length ca, .slice none 0 0] (ER.out) 0 (.slice pa xa.length ca) rfl) 1 (.slice pb xb.length cb) rfl)
      replace EO := Lib.hid (ent_other (ent_other (EO.out) (w.heap.size) 0 (.slice pa xa.length ca) (by omega)) (w.heap.size) 1 (.slice pb xb.length cb) (by omega))
      replace HB := Lib.hid (Below.setCell (Below.setCell (HB.out) (p := ⟨w.heap.size, 0, none⟩) (by dsimp only; omega) (.slice pa xa.length ca)) (p := ⟨w.heap.size, 1, none⟩) (by dsimp only; omega) (.slice pb xb.length cb))
      have r0 := ent_cell ER.out 0 _ rfl
      have r1 := ent_cell ER.out 1 _ rfl
      refine bodyPost_ret (v := .tuple #[.agg #[.slice pa xa.length ca, .slice pb xb.length cb], .int .i64 (-1), .int .i64 0]) (by simp [results, Try.results8, go_sem, r0, r1]) rfl ?_
      refine rout_done HPX.out HB.out ⟨_, _, _, _, _, _, rfl⟩ (fun u hu => ?_)
      have hag : ∀ b, w1.heap.size < b → b < wr.heap.size → u.heap[b]? = wr.heap[b]? := fun b h1 h2 => (hu b (by omega) (by simpa using h2)).trans (by rw [Below.heap_setCell _ ⟨w.heap.size, 1, none⟩ _ b (by dsimp only; omega), Below.heap_setCell _ ⟨w.heap.size, 0, none⟩ _ b (by dsimp only; omega)])
      have hr := TWO.out.rows rfl rfl (u := u) hag
      exact ⟨_, _, rfl, hr.1, hr.2⟩
set_option maxHeartbeats 16000000 in
set_option maxRecDepth 100000 in
theorem RExpr_any (l : List UInt8) (w : World) (hm : l.length ≤ 1000000) : Calls Try.prog 13 #[.string ⟨l.toArray⟩] w (ROut w (ExprAt 50) ShExpr (Px.exprOf l)) := by
 have HT := Lib.hid (fun w => refTokens_any l w hm)
 go_enter Try.func13, Try.ntmps13
 obtain ⟨er, eo, hb, hsz⟩ := ent2 w #[.int .i64 0, .int .i64 0, .string ⟨#[]⟩, .int .i64 0, .slice none 0 0, .slice none 0 0, .slice none 0 0] #[.int .i64 0, .int .i64 0, .string ⟨#[]⟩, .int .i64 0, .slice none 0 0, .slice none 0 0, .slice none 0 0] 53 53
 have ER := Lib.hid er; have EO := Lib.hid eo; have HB := Lib.hid hb
 replace hsz : w.heap.size + 2 ≤ _ := Nat.le_of_eq hsz.symm
 clear er eo hb
 go_wp2_with fail
 generalize (w.alloc (.cells #[.int .i64 0, .int .i64 0, .string ⟨#[]⟩, .int .i64 0, .slice none 0 0, .slice none 0 0, .slice none 0 0] 53)).alloc (.cells #[.int .i64 0, .int .i64 0, .string ⟨#[]⟩, .int .i64 0, .slice none 0 0, .slice none 0 0, .slice none 0 0] 53) = w0 at ER EO HB hsz ⊢
 refine (HT.out w0).mono ?_
 rintro e w1 ⟨tv, ts, tp, tc, rfl, hb, hown, hcase⟩
 have HROW := Lib.hid (tokrow_own hown)
 have HPOS0 := Lib.hid hown; have HSZ0 := Lib.hid hsz
 replace hsz := Nat.le_trans hsz hb.size
 replace ER := Lib.hid (ent_below ER.out hb)
 replace EO := Lib.hid (ent_below EO.out hb)
 replace HB := Lib.hid (HB.out.trans (hb.mono HB.out.size))
 clear hb
 obtain ⟨tq, tcap, rfl⟩ := own_slice hown
 clear hown
 rcases hcase with ⟨hl, rfl, rfl, rfl⟩ | ⟨h0, q, hq, rfl, rfl, rfl⟩ | ⟨h0, hq, rfl, rfl⟩
 · skip
   have HP := Lib.hid (show Px.exprOf l = .lex 4096 from Px.parsed_long _ l hl); clear hl
   have erc0 := ent_cell ER.out 0 _ rfl
   have erc1 := ent_cell ER.out 1 _ rfl
   have erc2 := ent_cell ER.out 2 _ rfl
   have erc3 := ent_cell ER.out 3 _ rfl
   have erc4 := ent_cell ER.out 4 _ rfl
   have erc5 := ent_cell ER.out 5 _ rfl
   have erc6 := ent_cell ER.out 6 _ rfl
   have erf := ent_free ER.out
   have eoc0 := ent_cell EO.out 0 _ rfl
   have eoc1 := ent_cell EO.out 1 _ rfl
   have eoc2 := ent_cell EO.out 2 _ rfl
   have eoc3 := ent_cell EO.out 3 _ rfl
   have eoc4 := ent_cell EO.out 4 _ rfl
   have eoc5 := ent_cell EO.out 5 _ rfl
   have eoc6 := ent_cell EO.out 6 _ rfl
   have eof := ent_free EO.out
   go_wp2_with fail
   replace ER := Lib.hid (ent_set7 (ER.out) (.int .i64 0) (.int .i64 0) (.string ⟨#[]⟩) (.int .i64 0) (.slice none 0 0) (.slice none 0 0) (.slice none 0 0))
   replace EO := Lib.hid (ent_other (ent_other (ent_other (ent_other (ent_other (ent_other (ent_other (EO.out) (w.heap.size) 0 (.int .i64 0) (by omega)) (w.heap.size) 1 (.int .i64 0) (by omega)) (w.heap.size) 2 (.string ⟨#[]⟩) (by omega)) (w.heap.size) 3 (.int .i64 0) (by omega)) (w.heap.size) 4 (.slice none 0 0) (by omega)) (w.heap.size) 5 (.slice none 0 0) (by omega)) (w.heap.size) 6 (.slice none 0 0) (by omega))
   replace HB := Lib.hid (Below.setCell (Below.setCell (Below.setCell (Below.setCell (Below.setCell (Below.setCell (Below.setCell (HB.out) (p := ⟨w.heap.size, 0, none⟩) (by dsimp only; omega) (.int .i64 0)) (p := ⟨w.heap.size, 1, none⟩) (by dsimp only; omega) (.int .i64 0)) (p := ⟨w.heap.size, 2, none⟩) (by dsimp only; omega) (.string ⟨#[]⟩)) (p := ⟨w.heap.size, 3, none⟩) (by dsimp only; omega) (.int .i64 0)) (p := ⟨w.heap.size, 4, none⟩) (by dsimp only; omega) (.slice none 0 0)) (p := ⟨w.heap.size, 5, none⟩) (by dsimp only; omega) (.slice none 0 0)) (p := ⟨w.heap.size, 6, none⟩) (by dsimp only; omega) (.slice none 0 0))
   have r0 := ent_cell ER.out 0 _ rfl
   have r1 := ent_cell ER.out 1 _ rfl
   have r2 := ent_cell ER.out 2 _ rfl
   have r3 := ent_cell ER.out 3 _ rfl
   have r4 := ent_cell ER.out 4 _ rfl
   have r5 := ent_cell ER.out 5 _ rfl
   have r6 := ent_cell ER.out 6 _ rfl
   refine bodyPost_ret (v := .tuple #[.agg #[.int .i64 0, .int .i64 0, .string ⟨#[]⟩, .int .i64 0, .slice none 0 0, .slice none 0 0, .slice none 0 0], .int .i64 4096, .int .i64 2]) (by simp [results, Try.results13, go_sem, r0, r1, r2, r3, r4, r5, r6]) rfl ?_
   exact rout_lex (q := 4096) HP.out HB.out ⟨_, _, _, _, _, _, _, _, _, _, _, _, _, rfl⟩
 · skip
   have HP := Lib.hid (show Px.exprOf l = .lex q from Px.parsed_lex _ l q h0 hq); clear h0 hq
   have hge : (q : Int) ≥ 0 := by omega
   have erc0 := ent_cell ER.out 0 _ rfl
   have erc1 := ent_cell ER.out 1 _ rfl
   have erc2 := ent_cell ER.out 2 _ rfl
   have erc3 := ent_cell ER.out 3 _ rfl
   have erc4 := ent_cell ER.out 4 _ rfl
   have erc5 := ent_cell ER.out 5 _ rfl
   have erc6 := ent_cell ER.out 6 _ rfl
   have erf := ent_free ER.out
   have eoc0 := ent_cell EO.out 0 _ rfl
   have eoc1 := ent_cell EO.out 1 _ rfl
   have eoc2 := ent_cell EO.out 2 _ rfl
   have eoc3 := ent_cell EO.out 3 _ rfl
   have eoc4 := ent_cell EO.out 4 _ rfl
   have eoc5 := ent_cell EO.out 5 _ rfl
   have eoc6 := ent_cell EO.out 6 _ rfl
   have eof := ent_free EO.out
   go_wp2_with fail
   replace ER := Lib.hid (ent_set7 (ER.out) (.int .i64 0) (.int .i64 0) (.string ⟨#[]⟩) (.int .i64 0) (.slice none 0 0) (.slice none 0 0) (.slice none 0 0))
   replace EO := Lib.hid (ent_other (ent_other (ent_other (ent_other (ent_other (ent_other (ent_other (EO.out) (w.heap.size) 0 (.int .i64 0) (by omega)) (w.heap.size) 1 (.int .i64 0) (by omega)) (w.heap.size) 2 (.string ⟨#[]⟩) (by omega)) (w.heap.size) 3 (.int .i64 0) (by omega)) (w.heap.size) 4 (.slice none 0 0) (by omega)) (w.heap.size) 5 (.slice none 0 0) (by omega)) (w.heap.size) 6 (.slice none 0 0) (by omega))
   replace HB := Lib.hid (Below.setCell (Below.setCell (Below.setCell (Below.setCell (Below.setCell (Below.setCell (Below.setCell (HB.out) (p := ⟨w.heap.size, 0, none⟩) (by dsimp only; omega) (.int .i64 0)) (p := ⟨w.heap.size, 1, none⟩) (by dsimp only; omega) (.int .i64 0)) (p := ⟨w.heap.size, 2, none⟩) (by dsimp only; omega) (.string ⟨#[]⟩)) (p := ⟨w.heap.size, 3, none⟩) (by dsimp only; omega) (.int .i64 0)) (p := ⟨w.heap.size, 4, none⟩) (by dsimp only; omega) (.slice none 0 0)) (p := ⟨w.heap.size, 5, none⟩) (by dsimp only; omega) (.slice none 0 0)) (p := ⟨w.heap.size, 6, none⟩) (by dsimp only; omega) (.slice none 0 0))
   have r0 := ent_cell ER.out 0 _ rfl
   have r1 := ent_cell ER.out 1 _ rfl
   have r2 := ent_cell ER.out 2 _ rfl
   have r3 := ent_cell ER.out 3 _ rfl
   have r4 := ent_cell ER.out 4 _ rfl
   have r5 := ent_cell ER.out 5 _ rfl
   have r6 := ent_cell ER.out 6 _ rfl
   refine bodyPost_ret (v := .tuple #[.agg #[.int .i64 0, .int .i64 0, .string ⟨#[]⟩, .int .i64 0, .slice none 0 0, .slice none 0 0, .slice none 0 0], .int .i64 q, .int .i64 2]) (by simp [results, Try.results13, go_sem, r0, r1, r2, r3, r4, r5, r6]) rfl ?_
   exact rout_lex HP.out HB.out ⟨_, _, _, _, _, _, _, _, _, _, _, _, _, rfl⟩
 · skip
   have hlen : ts.length ≤ l.length := by have := Lx.toks_len (l.length + 1) 0 l; rw [hq] at this; exact this
   have hok : ∀ t ∈ ts, Px.TOk t := by have := Px.toks_ok (l.length + 1) 0 l; rw [hq] at this; exact this
   have HTS := Lib.hid hok
   have HQ := Lib.hid hq
   have HLL := Lib.hid (show ts.length ≤ 1000000 by omega)
   have HL0 := Lib.hid h0
   clear hok hq h0
   have HPG := Lib.hid (Px.exprOf_is l ts HL0.out HQ.out)
   clear HQ HL0
   have hrow := HROW.out
   have hn0 := nodes_any l.length ts HLL.out (2 * ts.length + 2) 0 0 _ w1 hrow (by omega) (by omega)
   rw [List.drop_zero] at hn0
   have HN := Lib.hid hn0
   clear hrow hn0
   go_wp2_with fail
   refine HN.out.mono ?_
   rintro e w2 ⟨hb, v, nx, kk, rfl, ⟨zk, zp, zs, zi, zb, zq, zn, zc, rfl⟩, hm⟩
   have HBN := Lib.hid hb
   replace hsz := Nat.le_trans hsz hb.size
   replace ER := Lib.hid (ent_below ER.out hb)
   replace EO := Lib.hid (ent_below EO.out hb)
   replace HB := Lib.hid (HB.out.trans (hb.mono HB.out.size))
   clear hb
   cases hnd : Px.node l.length (2 * ts.length + 2) 0 ts with
   | error p =>
     rw [hnd] at hm
     obtain rfl : kk = (p : Int) := hm
     have hge : (p : Int) ≥ 0 := by omega
     have HX : Hid (Px.onlyExpr l.length ts = .error p) := Lib.hid (by unfold Px.onlyExpr; rw [hnd])
     clear hnd
     replace ER := Lib.hid (ent_alloc ER.out (.cells #[.int .i64 zk, .int .i64 zp, .string zs, .int .i64 zi, .bool zb, .slice zq zn zc] 73))
     replace EO := Lib.hid (ent_alloc EO.out (.cells #[.int .i64 zk, .int .i64 zp, .string zs, .int .i64 zi, .bool zb, .slice zq zn zc] 73))
     replace HB := Lib.hid (HB.out.alloc HB.out.size (.cells #[.int .i64 zk, .int .i64 zp, .string zs, .int .i64 zi, .bool zb, .slice zq zn zc] 73))
     have erc0 := ent_cell ER.out 0 _ rfl
     have erc1 := ent_cell ER.out 1 _ rfl
     have erc2 := ent_cell ER.out 2 _ rfl
     have erc3 := ent_cell ER.out 3 _ rfl
     have erc4 := ent_cell ER.out 4 _ rfl
     have erc5 := ent_cell ER.out 5 _ rfl
     have erc6 := ent_cell ER.out 6 _ rfl
     have erf := ent_free ER.out
     have eoc0 := ent_cell EO.out 0 _ rfl
     have eoc1 := ent_cell EO.out 1 _ rfl
     have eoc2 := ent_cell EO.out 2 _ rfl
     have eoc3 := ent_cell EO.out 3 _ rfl
     have eoc4 := ent_cell EO.out 4 _ rfl
     have eoc5 := ent_cell EO.out 5 _ rfl
     have eoc6 := ent_cell EO.out 6 _ rfl
     have eof := ent_free EO.out
     go_wp2_with fail
     replace ER := Lib.hid (ent_set7 (ER.out) (.int .i64 0) (.int .i64 0) (.string ⟨#[]⟩) (.int .i64 0) (.slice none 0 0) (.slice none 0 0) (.slice none 0 0))
     replace EO := Lib.hid (ent_other (ent_other (ent_other (ent_other (ent_other (ent_other (ent_other (EO.out) (w.heap.size) 0 (.int .i64 0) (by omega)) (w.heap.size) 1 (.int .i64 0) (by omega)) (w.heap.size) 2 (.string ⟨#[]⟩) (by omega)) (w.heap.size) 3 (.int .i64 0) (by omega)) (w.heap.size) 4 (.slice none 0 0) (by omega)) (w.heap.size) 5 (.slice none 0 0) (by omega)) (w.heap.size) 6 (.slice none 0 0) (by omega))
     replace HB := Lib.hid (Below.setCell (Below.setCell (Below.setCell (Below.setCell (Below.setCell (Below.setCell (Below.setCell (HB.out) (p := ⟨w.heap.size, 0, none⟩) (by dsimp only; omega) (.int .i64 0)) (p := ⟨w.heap.size, 1, none⟩) (by dsimp only; omega) (.int .i64 0)) (p := ⟨w.heap.size, 2, none⟩) (by dsimp only; omega) (.string ⟨#[]⟩)) (p := ⟨w.heap.size, 3, none⟩) (by dsimp only; omega) (.int .i64 0)) (p := ⟨w.heap.size, 4, none⟩) (by dsimp only; omega) (.slice none 0 0)) (p := ⟨w.heap.size, 5, none⟩) (by dsimp only; omega) (.slice none 0 0)) (p := ⟨w.heap.size, 6, none⟩) (by dsimp only; omega) (.slice none 0 0))
     have r0 := ent_cell ER.out 0 _ rfl
     have r1 := ent_cell ER.out 1 _ rfl
     have r2 := ent_cell ER.out 2 _ rfl
     have r3 := ent_cell ER.out 3 _ rfl
     have r4 := ent_cell ER.out 4 _ rfl
     have r5 := ent_cell ER.out 5 _ rfl
     have r6 := ent_cell ER.out 6 _ rfl
     refine bodyPost_ret (v := .tuple #[.agg #[.int .i64 0, .int .i64 0, .string ⟨#[]⟩, .int .i64 0, .slice none 0 0, .slice none 0 0, .slice none 0 0], .int .i64 p, .int .i64 3]) (by simp [results, Try.results13, go_sem, r0, r1, r2, r3, r4, r5, r6]) rfl ?_
     exact rout_parse (by rw [HPG.out, HX.out]) HB.out ⟨_, _, _, _, _, _, _, _, _, _, _, _, _, rfl⟩
   | ok r =>
     obtain ⟨m, ts'⟩ := r
     rw [hnd] at hm
     obtain ⟨rfl, j, rfl, hj, rfl, hnew⟩ := hm
     have hgood := ((Px.node_good l.length (2 * ts.length + 2) 0 ts (fun t ht => HTS.out t ht)).1 m (ts.drop j) hnd).1
     have HG := Lib.hid hgood
     have hnow := hnew.now
     have HV := Lib.hid hnow
     obtain ⟨mlv, hmv, hmr⟩ := hnow
     obtain ⟨mq, mc, rfl⟩ := hmr.len
     unfold nV at hmv
     simp only [Value.agg.injEq, Array.mk.injEq, List.cons.injEq, and_true, Value.int.injEq, Value.string.injEq, Value.bool.injEq, true_and] at hmv
     obtain ⟨rfl, rfl, rfl, rfl, rfl, hsl⟩ := hmv
     injection hsl with h1 h2 h3
     subst h1; subst h2; subst h3
     have HND := Lib.hid hnd
     have HBZ := Lib.hid (show Below w2.heap.size w2 (w2.alloc (.cells #[.int .i64 m.tok.kind, .int .i64 m.tok.pos, .string ⟨m.tok.text.toArray⟩, .int .i64 m.tok.int, .bool (Px.isListB m), .slice zq m.list.length zc] 73)) from (Below.refl _ _).alloc (Nat.le_refl _) _)
     replace HV := Lib.hid (HV.out.below HBZ.out)
     clear hnd hnew hmr hgood HN
     go_upto_region 6 with fail
     have EB := Lib.hid (ent_new w2 #[.int .i64 m.tok.kind, .int .i64 m.tok.pos, .string ⟨m.tok.text.toArray⟩, .int .i64 m.tok.int, .bool (Px.isListB m), .slice zq m.list.length zc] 73)
     obtain ⟨gb, hgb⟩ : ∃ gb, gb = w2.heap.size := ⟨_, rfl⟩
     have hgb2 : w.heap.size + 2 ≤ gb := by omega
     rw [← hgb] at EB
     rw [← hgb]
     replace ER := Lib.hid (ent_alloc ER.out (.cells #[.int .i64 m.tok.kind, .int .i64 m.tok.pos, .string ⟨m.tok.text.toArray⟩, .int .i64 m.tok.int, .bool (Px.isListB m), .slice zq m.list.length zc] 73))
     replace EO := Lib.hid (ent_alloc EO.out (.cells #[.int .i64 m.tok.kind, .int .i64 m.tok.pos, .string ⟨m.tok.text.toArray⟩, .int .i64 m.tok.int, .bool (Px.isListB m), .slice zq m.list.length zc] 73))
     replace HB := Lib.hid (HB.out.alloc HB.out.size (.cells #[.int .i64 m.tok.kind, .int .i64 m.tok.pos, .string ⟨m.tok.text.toArray⟩, .int .i64 m.tok.int, .bool (Px.isListB m), .slice zq m.list.length zc] 73))
     replace hsz : w.heap.size + 2 ≤ (w2.alloc (.cells #[.int .i64 m.tok.kind, .int .i64 m.tok.pos, .string ⟨m.tok.text.toArray⟩, .int .i64 m.tok.int, .bool (Px.isListB m), .slice zq m.list.length zc] 73)).heap.size := by simp; omega
     replace HBN := Lib.hid (HBN.out.trans (HBZ.out.mono HBN.out.size))
     generalize w2.alloc (.cells #[.int .i64 m.tok.kind, .int .i64 m.tok.pos, .string ⟨m.tok.text.toArray⟩, .int .i64 m.tok.int, .bool (Px.isListB m), .slice zq m.list.length zc] 73) = w3 at ER EO EB HB HV hsz HBZ HBN ⊢
     clear hgb HBZ
     by_cases hjt : j < ts.length
     · skip
       obtain ⟨t, ht⟩ : ∃ t, ts[j]? = some t := ⟨_, List.getElem?_eq_getElem hjt⟩
       have hdr : ts.drop j = t :: ts.drop (j + 1) := by rw [List.drop_eq_getElem_cons hjt]; rw [List.getElem?_eq_getElem hjt] at ht; rw [Option.some.inj ht]
       have HX : Hid (Px.onlyExpr l.length ts = .error t.pos) := Lib.hid (by unfold Px.onlyExpr; rw [HND.out]; dsimp only; rw [hdr])
       rcases HROW.out with ⟨h0, _⟩ | ⟨tg, tof, tc, hv, g1, g2, g3⟩
       · rw [h0] at hjt; simp at hjt
       injection hv with hv1 _ hv2
       subst hv1; subst hv2
       have htg := (HPOS0.out.lt tg rfl).1
       have hne1 : ¬ tg = w.heap.size := by have := HSZ0.out; omega
       have hne2 : ¬ w.heap.size = tg := by have := HSZ0.out; omega
       obtain ⟨u, hu, _, hcell⟩ := g3 j t ht
       obtain ⟨q0, q1, q2, q3⟩ := tok_cells hu hcell
       have n1 := cell_up HBN.out q1
       have hj1 : (j : Int) < (ts.length : Int) := by omega
       have hj2 : (ts.length : Int) ≤ (tcap : Int) := by omega
       clear hdr ht g1 g2 g3 hu hcell q0 q2 q3
       go_wp2_with fail
       have erc0 := ent_cell ER.out 0 _ rfl
       have erc1 := ent_cell ER.out 1 _ rfl
       have erc2 := ent_cell ER.out 2 _ rfl
       have erc3 := ent_cell ER.out 3 _ rfl
       have erc4 := ent_cell ER.out 4 _ rfl
       have erc5 := ent_cell ER.out 5 _ rfl
       have erc6 := ent_cell ER.out 6 _ rfl
       have erf := ent_free ER.out
       have eoc0 := ent_cell EO.out 0 _ rfl
       have eoc1 := ent_cell EO.out 1 _ rfl
       have eoc2 := ent_cell EO.out 2 _ rfl
       have eoc3 := ent_cell EO.out 3 _ rfl
       have eoc4 := ent_cell EO.out 4 _ rfl
       have eoc5 := ent_cell EO.out 5 _ rfl
       have eoc6 := ent_cell EO.out 6 _ rfl
       have eof := ent_free EO.out
       go_region
       all_goals (try go_wp2_with fail)
       replace ER := Lib.hid (ent_set7 (ER.out) (.int .i64 0) (.int .i64 0) (.string ⟨#[]⟩) (.int .i64 0) (.slice none 0 0) (.slice none 0 0) (.slice none 0 0))
       replace EO := Lib.hid (ent_other (ent_other (ent_other (ent_other (ent_other (ent_other (ent_other (EO.out) (w.heap.size) 0 (.int .i64 0) (by omega)) (w.heap.size) 1 (.int .i64 0) (by omega)) (w.heap.size) 2 (.string ⟨#[]⟩) (by omega)) (w.heap.size) 3 (.int .i64 0) (by omega)) (w.heap.size) 4 (.slice none 0 0) (by omega)) (w.heap.size) 5 (.slice none 0 0) (by omega)) (w.heap.size) 6 (.slice none 0 0) (by omega))
       replace EB := Lib.hid (ent_other (ent_other (ent_other (ent_other (ent_other (ent_other (ent_other (EB.out) (w.heap.size) 0 (.int .i64 0) (by omega)) (w.heap.size) 1 (.int .i64 0) (by omega)) (w.heap.size) 2 (.string ⟨#[]⟩) (by omega)) (w.heap.size) 3 (.int .i64 0) (by omega)) (w.heap.size) 4 (.slice none 0 0) (by omega)) (w.heap.size) 5 (.slice none 0 0) (by omega)) (w.heap.size) 6 (.slice none 0 0) (by omega))
       replace HB := Lib.hid (Below.setCell (Below.setCell (Below.setCell (Below.setCell (Below.setCell (Below.setCell (Below.setCell (HB.out) (p := ⟨w.heap.size, 0, none⟩) (by dsimp only; omega) (.int .i64 0)) (p := ⟨w.heap.size, 1, none⟩) (by dsimp only; omega) (.int .i64 0)) (p := ⟨w.heap.size, 2, none⟩) (by dsimp only; omega) (.string ⟨#[]⟩)) (p := ⟨w.heap.size, 3, none⟩) (by dsimp only; omega) (.int .i64 0)) (p := ⟨w.heap.size, 4, none⟩) (by dsimp only; omega) (.slice none 0 0)) (p := ⟨w.heap.size, 5, none⟩) (by dsimp only; omega) (.slice none 0 0)) (p := ⟨w.heap.size, 6, none⟩) (by dsimp only; omega) (.slice none 0 0))
       replace ER := ent_drew ER
       replace HB := Lib.hid (HB.out.drew)
       have r0 := ent_cell ER.out 0 _ rfl
       have r1 := ent_cell ER.out 1 _ rfl
       have r2 := ent_cell ER.out 2 _ rfl
       have r3 := ent_cell ER.out 3 _ rfl
       have r4 := ent_cell ER.out 4 _ rfl
       have r5 := ent_cell ER.out 5 _ rfl
       have r6 := ent_cell ER.out 6 _ rfl
       refine bodyPost_ret (v := .tuple #[.agg #[.int .i64 0, .int .i64 0, .string ⟨#[]⟩, .int .i64 0, .slice none 0 0, .slice none 0 0, .slice none 0 0], .int .i64 t.pos, .int .i64 3]) (by simp [results, Try.results13, go_sem, r0, r1, r2, r3, r4, r5, r6]) rfl ?_
       exact rout_parse (q := t.pos) (by rw [HPG.out, HX.out]) HB.out ⟨_, _, _, _, _, _, _, _, _, _, _, _, _, rfl⟩
     · skip
       have hdr : ts.drop j = [] := List.drop_eq_nil_of_le (by omega)
       have HX : Hid (Px.onlyExpr l.length ts = Px.expr 50 m) := Lib.hid (by unfold Px.onlyExpr; rw [HND.out]; dsimp only; rw [hdr])
       clear hdr
       have ebc0 := ent_cell EB.out 0 _ rfl
       have ebc1 := ent_cell EB.out 1 _ rfl
       have ebc2 := ent_cell EB.out 2 _ rfl
       have ebc3 := ent_cell EB.out 3 _ rfl
       have ebc4 := ent_cell EB.out 4 _ rfl
       have ebc5 := ent_cell EB.out 5 _ rfl
       have ebf := ent_free EB.out
       go_wp2_with fail
       clear ebc0 ebc1 ebc2 ebc3 ebc4 ebc5 ebf
       have HLO := Lib.hid hsz
       refine (expr_any 50 41 m _ _ (by omega) HV.out HG.out).mono ?_
       intro e w6 ht
       cases hx : Px.expr 50 m with
       | error p =>
         obtain ⟨z, rfl, ⟨yk, yp, yz, yi, yq1, yn1, yc1, yq2, yn2, yc2, yq3, yn3, yc3, rfl⟩, hb⟩ := rtold_bad ht hx
         have hge : (p : Int) ≥ 0 := by omega
         have HXX := Lib.hid hx
         replace hsz := Nat.le_trans hsz hb.size
         replace ER := Lib.hid (ent_below ER.out hb)
         replace EO := Lib.hid (ent_below EO.out hb)
         replace EB := Lib.hid (ent_below EB.out hb)
         replace HB := Lib.hid (HB.out.trans (hb.mono HB.out.size))
         clear hb
         clear ht hx
         replace ER := Lib.hid (ent_alloc ER.out (.cells #[.int .i64 yk, .int .i64 yp, .string yz, .int .i64 yi, .slice yq1 yn1 yc1, .slice yq2 yn2 yc2, .slice yq3 yn3 yc3] 53))
         replace EO := Lib.hid (ent_alloc EO.out (.cells #[.int .i64 yk, .int .i64 yp, .string yz, .int .i64 yi, .slice yq1 yn1 yc1, .slice yq2 yn2 yc2, .slice yq3 yn3 yc3] 53))
         replace EB := Lib.hid (ent_alloc EB.out (.cells #[.int .i64 yk, .int .i64 yp, .string yz, .int .i64 yi, .slice yq1 yn1 yc1, .slice yq2 yn2 yc2, .slice yq3 yn3 yc3] 53))
         replace HB := Lib.hid (HB.out.alloc HB.out.size (.cells #[.int .i64 yk, .int .i64 yp, .string yz, .int .i64 yi, .slice yq1 yn1 yc1, .slice yq2 yn2 yc2, .slice yq3 yn3 yc3] 53))
         have erc0 := ent_cell ER.out 0 _ rfl
         have erc1 := ent_cell ER.out 1 _ rfl
         have erc2 := ent_cell ER.out 2 _ rfl
         have erc3 := ent_cell ER.out 3 _ rfl
         have erc4 := ent_cell ER.out 4 _ rfl
         have erc5 := ent_cell ER.out 5 _ rfl
         have erc6 := ent_cell ER.out 6 _ rfl
         have erf := ent_free ER.out
         have eoc0 := ent_cell EO.out 0 _ rfl
         have eoc1 := ent_cell EO.out 1 _ rfl
         have eoc2 := ent_cell EO.out 2 _ rfl
         have eoc3 := ent_cell EO.out 3 _ rfl
         have eoc4 := ent_cell EO.out 4 _ rfl
         have eoc5 := ent_cell EO.out 5 _ rfl
         have eoc6 := ent_cell EO.out 6 _ rfl
         have eof := ent_free EO.out
         go_wp2_with fail
         replace ER := Lib.hid (ent_set7 (ER.out) (.int .i64 0) (.int .i64 0) (.string ⟨#[]⟩) (.int .i64 0) (.slice none 0 0) (.slice none 0 0) (.slice none 0 0))
         replace EO := Lib.hid (ent_other (ent_other (ent_other (ent_other (ent_other (ent_other (ent_other (EO.out) (w.heap.size) 0 (.int .i64 0) (by omega)) (w.heap.size) 1 (.int .i64 0) (by omega)) (w.heap.size) 2 (.string ⟨#[]⟩) (by omega)) (w.heap.size) 3 (.int .i64 0) (by omega)) (w.heap.size) 4 (.slice none 0 0) (by omega)) (w.heap.size) 5 (.slice none 0 0) (by omega)) (w.heap.size) 6 (.slice none 0 0) (by omega))
         replace EB := Lib.hid (ent_other (ent_other (ent_other (ent_other (ent_other (ent_other (ent_other (EB.out) (w.heap.size) 0 (.int .i64 0) (by omega)) (w.heap.size) 1 (.int .i64 0) (by omega)) (w.heap.size) 2 (.string ⟨#[]⟩) (by omega)) (w.heap.size) 3 (.int .i64 0) (by omega)) (w.heap.size) 4 (.slice none 0 0) (by omega)) (w.heap.size) 5 (.slice none 0 0) (by omega)) (w.heap.size) 6 (.slice none 0 0) (by omega))
         replace HB := Lib.hid (Below.setCell (Below.setCell (Below.setCell (Below.setCell (Below.setCell (Below.setCell (Below.setCell (HB.out) (p := ⟨w.heap.size, 0, none⟩) (by dsimp only; omega) (.int .i64 0)) (p := ⟨w.heap.size, 1, none⟩) (by dsimp only; omega) (.int .i64 0)) (p := ⟨w.heap.size, 2, none⟩) (by dsimp only; omega) (.string ⟨#[]⟩)) (p := ⟨w.heap.size, 3, none⟩) (by dsimp only; omega) (.int .i64 0)) (p := ⟨w.heap.size, 4, none⟩) (by dsimp only; omega) (.slice none 0 0)) (p := ⟨w.heap.size, 5, none⟩) (by dsimp only; omega) (.slice none 0 0)) (p := ⟨w.heap.size, 6, none⟩) (by dsimp only; omega) (.slice none 0 0))
         have r0 := ent_cell ER.out 0 _ rfl
         have r1 := ent_cell ER.out 1 _ rfl
         have r2 := ent_cell ER.out 2 _ rfl
         have r3 := ent_cell ER.out 3 _ rfl
         have r4 := ent_cell ER.out 4 _ rfl
         have r5 := ent_cell ER.out 5 _ rfl
         have r6 := ent_cell ER.out 6 _ rfl
         refine bodyPost_ret (v := .tuple #[.agg #[.int .i64 0, .int .i64 0, .string ⟨#[]⟩, .int .i64 0, .slice none 0 0, .slice none 0 0, .slice none 0 0], .int .i64 p, .int .i64 3]) (by simp [results, Try.results13, go_sem, r0, r1, r2, r3, r4, r5, r6]) rfl ?_
         exact rout_parse (by rw [HPG.out, HX.out, HXX.out]) HB.out ⟨_, _, _, _, _, _, _, _, _, _, _, _, _, rfl⟩
       | ok x =>
         obtain ⟨z, rfl, ⟨yk, yp, yz, yi, yq1, yn1, yc1, yq2, yn2, yc2, yq3, yn3, yc3, rfl⟩, hnew, hb⟩ := rtold_ok ht hx
         have HXX := Lib.hid hx; have HNEW := Lib.hid hnew
         have S1 := Lib.hid ((Stay.refl w3.heap.size w6).below (show Below w6.heap.size w6 (w6.alloc (.cells #[.int .i64 yk, .int .i64 yp, .string yz, .int .i64 yi, .slice yq1 yn1 yc1, .slice yq2 yn2 yc2, .slice yq3 yn3 yc3] 53)) from (Below.refl _ _).alloc (Nat.le_refl _) _))
         replace hsz := Nat.le_trans hsz hb.size
         replace ER := Lib.hid (ent_below ER.out hb)
         replace EO := Lib.hid (ent_below EO.out hb)
         replace EB := Lib.hid (ent_below EB.out hb)
         replace HB := Lib.hid (HB.out.trans (hb.mono HB.out.size))
         clear hb
         clear ht hx hnew
         replace ER := Lib.hid (ent_alloc ER.out (.cells #[.int .i64 yk, .int .i64 yp, .string yz, .int .i64 yi, .slice yq1 yn1 yc1, .slice yq2 yn2 yc2, .slice yq3 yn3 yc3] 53))
         replace EO := Lib.hid (ent_alloc EO.out (.cells #[.int .i64 yk, .int .i64 yp, .string yz, .int .i64 yi, .slice yq1 yn1 yc1, .slice yq2 yn2 yc2, .slice yq3 yn3 yc3] 53))
         replace EB := Lib.hid (ent_alloc EB.out (.cells #[.int .i64 yk, .int .i64 yp, .string yz, .int .i64 yi, .slice yq1 yn1 yc1, .slice yq2 yn2 yc2, .slice yq3 yn3 yc3] 53))
         replace HB := Lib.hid (HB.out.alloc HB.out.size (.cells #[.int .i64 yk, .int .i64 yp, .string yz, .int .i64 yi, .slice yq1 yn1 yc1, .slice yq2 yn2 yc2, .slice yq3 yn3 yc3] 53))
         have EY := Lib.hid (ent_new w6 #[.int .i64 yk, .int .i64 yp, .string yz, .int .i64 yi, .slice yq1 yn1 yc1, .slice yq2 yn2 yc2, .slice yq3 yn3 yc3] 53)
         obtain ⟨gy, hgy⟩ : ∃ gy, gy = w6.heap.size := ⟨_, rfl⟩
         have hgy2 : w.heap.size + 2 ≤ gy := by omega
         go_upto_region 11 with fail
         rw [← hgy] at EY
         rw [← hgy]
         generalize w6.alloc (.cells #[.int .i64 yk, .int .i64 yp, .string yz, .int .i64 yi, .slice yq1 yn1 yc1, .slice yq2 yn2 yc2, .slice yq3 yn3 yc3] 53) = w7 at ER EO EB EY HB S1 ⊢
         clear hgy
         have erc0 := ent_cell ER.out 0 _ rfl
         have erc1 := ent_cell ER.out 1 _ rfl
         have erc2 := ent_cell ER.out 2 _ rfl
         have erc3 := ent_cell ER.out 3 _ rfl
         have erc4 := ent_cell ER.out 4 _ rfl
         have erc5 := ent_cell ER.out 5 _ rfl
         have erc6 := ent_cell ER.out 6 _ rfl
         have erf := ent_free ER.out
         have eoc0 := ent_cell EO.out 0 _ rfl
         have eoc1 := ent_cell EO.out 1 _ rfl
         have eoc2 := ent_cell EO.out 2 _ rfl
         have eoc3 := ent_cell EO.out 3 _ rfl
         have eoc4 := ent_cell EO.out 4 _ rfl
         have eoc5 := ent_cell EO.out 5 _ rfl
         have eoc6 := ent_cell EO.out 6 _ rfl
         have eof := ent_free EO.out
         have eyc0 := ent_cell EY.out 0 _ rfl
         have eyc1 := ent_cell EY.out 1 _ rfl
         have eyc2 := ent_cell EY.out 2 _ rfl
         have eyc3 := ent_cell EY.out 3 _ rfl
         have eyc4 := ent_cell EY.out 4 _ rfl
         have eyc5 := ent_cell EY.out 5 _ rfl
         have eyc6 := ent_cell EY.out 6 _ rfl
         have eyf := ent_free EY.out
         go_wp2_with fail
         replace ER := Lib.hid (ent_set7 (ER.out) (.int .i64 yk) (.int .i64 yp) (.string yz) (.int .i64 yi) (.slice yq1 yn1 yc1) (.slice yq2 yn2 yc2) (.slice yq3 yn3 yc3))
         replace EO := Lib.hid (ent_other (ent_other (ent_other (ent_other (ent_other (ent_other (ent_other (EO.out) (w.heap.size) 0 (.int .i64 yk) (by omega)) (w.heap.size) 1 (.int .i64 yp) (by omega)) (w.heap.size) 2 (.string yz) (by omega)) (w.heap.size) 3 (.int .i64 yi) (by omega)) (w.heap.size) 4 (.slice yq1 yn1 yc1) (by omega)) (w.heap.size) 5 (.slice yq2 yn2 yc2) (by omega)) (w.heap.size) 6 (.slice yq3 yn3 yc3) (by omega))
         replace EB := Lib.hid (ent_other (ent_other (ent_other (ent_other (ent_other (ent_other (ent_other (EB.out) (w.heap.size) 0 (.int .i64 yk) (by omega)) (w.heap.size) 1 (.int .i64 yp) (by omega)) (w.heap.size) 2 (.string yz) (by omega)) (w.heap.size) 3 (.int .i64 yi) (by omega)) (w.heap.size) 4 (.slice yq1 yn1 yc1) (by omega)) (w.heap.size) 5 (.slice yq2 yn2 yc2) (by omega)) (w.heap.size) 6 (.slice yq3 yn3 yc3) (by omega))
         replace EY := Lib.hid (ent_other (ent_other (ent_other (ent_other (ent_other (ent_other (ent_other (EY.out) (w.heap.size) 0 (.int .i64 yk) (by omega)) (w.heap.size) 1 (.int .i64 yp) (by omega)) (w.heap.size) 2 (.string yz) (by omega)) (w.heap.size) 3 (.int .i64 yi) (by omega)) (w.heap.size) 4 (.slice yq1 yn1 yc1) (by omega)) (w.heap.size) 5 (.slice yq2 yn2 yc2) (by omega)) (w.heap.size) 6 (.slice yq3 yn3 yc3) (by omega))
         replace HB := Lib.hid (Below.setCell (Below.setCell (Below.setCell (Below.setCell (Below.setCell (Below.setCell (Below.setCell (HB.out) (p := ⟨w.heap.size, 0, none⟩) (by dsimp only; omega) (.int .i64 yk)) (p := ⟨w.heap.size, 1, none⟩) (by dsimp only; omega) (.int .i64 yp)) (p := ⟨w.heap.size, 2, none⟩) (by dsimp only; omega) (.string yz)) (p := ⟨w.heap.size, 3, none⟩) (by dsimp only; omega) (.int .i64 yi)) (p := ⟨w.heap.size, 4, none⟩) (by dsimp only; omega) (.slice yq1 yn1 yc1)) (p := ⟨w.heap.size, 5, none⟩) (by dsimp only; omega) (.slice yq2 yn2 yc2)) (p := ⟨w.heap.size, 6, none⟩) (by dsimp only; omega) (.slice yq3 yn3 yc3))
         have r0 := ent_cell ER.out 0 _ rfl
         have r1 := ent_cell ER.out 1 _ rfl
         have r2 := ent_cell ER.out 2 _ rfl
         have r3 := ent_cell ER.out 3 _ rfl
         have r4 := ent_cell ER.out 4 _ rfl
         have r5 := ent_cell ER.out 5 _ rfl
         have r6 := ent_cell ER.out 6 _ rfl
         refine bodyPost_ret (v := .tuple #[.agg #[.int .i64 yk, .int .i64 yp, .string yz, .int .i64 yi, .slice yq1 yn1 yc1, .slice yq2 yn2 yc2, .slice yq3 yn3 yc3], .int .i64 (-1), .int .i64 0]) (by simp [results, Try.results13, go_sem, r0, r1, r2, r3, r4, r5, r6]) rfl ?_
         exact rout_done (x := x) (by rw [HPG.out, HX.out, HXX.out]) HB.out ⟨_, _, _, _, _, _, _, _, _, _, _, _, _, rfl⟩ (New.stay HNEW.out (by have := HLO.out; omega) (Stay.set (Stay.set (Stay.set (Stay.set (Stay.set (Stay.set (Stay.set (S1.out) (w.heap.size) 0 _ (by have := HLO.out; omega)) (w.heap.size) 1 _ (by have := HLO.out; omega)) (w.heap.size) 2 _ (by have := HLO.out; omega)) (w.heap.size) 3 _ (by have := HLO.out; omega)) (w.heap.size) 4 _ (by have := HLO.out; omega)) (w.heap.size) 5 _ (by have := HLO.out; omega)) (w.heap.size) 6 _ (by have := HLO.out; omega)))
end Go.Proofs.Ytgoacbomphlhjaa
