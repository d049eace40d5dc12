/-
  Several texts in one: RProg, STab, SLeaf.
-/
import Derived.Test.YtgoacbomphlhjaaP00
import Derived.Test.YtgoacbomphlhjaaP16
import Derived.Test.YtgoacbomphlhjaaP17
import Derived.Test.YtgoacbomphlhjaaP18
import Derived.Test.YtgoacbomphlhjaaP04
import Derived.Test.YtgoacbomphlhjaaP02
import Derived.Test.YtgoacbomphlhjaaP05
import Derived.Test.YtgoacbomphlhjaaP10
import Derived.Test.YtgoacbomphlhjaaP15
set_option linter.unusedVariables false
set_option linter.unusedSimpArgs false
namespace Go.Proofs.Ytgoacbomphlhjaa
open Go.Lib (hid)
open List renaming getElem_toArray → jX, getElem_cons_succ → jY, getElem_cons_zero → jZ, setIfInBounds_toArray → JA, set_cons_zero → JB, set_cons_succ → JC
open Go Go.RowKit
namespace Px
open Lx (Tok)
def preP (ds : List Data) (fs : List Def) : R Prog → R Prog
 | .error p => .error p
 | .ok q => .ok ⟨ds ++ q.datas, fs ++ q.defs⟩
theorem preP_data (ds : List Data) (fs : List Def) (d : Data) (r : R Prog) : preP ds fs (match r with | .error p => .error p | .ok q => .ok ⟨d :: q.datas, q.defs⟩) = preP (ds ++ [d]) fs r := by
 cases r with
 | error p => rfl
 | ok q => simp [preP]
theorem preP_def (ds : List Data) (fs : List Def) (d : Def) (r : R Prog) : preP ds fs (match r with | .error p => .error p | .ok q => .ok ⟨q.datas, d :: q.defs⟩) = preP ds (fs ++ [d]) r := by
 cases r with
 | error p => rfl
 | ok q => simp [preP]
theorem prog_step (stop f c : Nat) (ts : List Tok) (hne : 0 < ts.length) (n : Node) (ts' : List Tok) (h : node stop (2 * ts.length + 2) 0 ts = .ok (n, ts')) : prog stop (f + 1) c ts =
 (if c = 100 then .error n.pos
   else if word n = [100, 97, 116, 97] then
    match data 50 n with
    | .error p => .error p
    | .ok d => match prog stop f (c + 1) ts' with
      | .error p => .error p
      | .ok q => .ok ⟨d :: q.datas, q.defs⟩
   else if word n = [100, 101, 102] then
    match defn 50 n with
    | .error p => .error p
    | .ok d => match prog stop f (c + 1) ts' with
      | .error p => .error p
      | .ok q => .ok ⟨q.datas, d :: q.defs⟩
   else .error n.pos) := by
 cases ts with
 | nil => simp at hne
 | cons t ts => rw [prog_cons, h]; rfl
theorem prog_fail (stop f c : Nat) (ts : List Tok) (hne : 0 < ts.length) (p : Nat) (h : node stop (2 * ts.length + 2) 0 ts = .error p) : prog stop (f + 1) c ts = .error p := by
 cases ts with
 | nil => simp at hne
 | cons t ts => rw [prog_cons, h]
theorem program_is (l : List UInt8) (ts : List Tok) (h0 : l.length ≤ 4096) (ht : Lx.toks (l.length + 1) 0 l = (ts, none)) : program l = (match prog l.length (ts.length + 1) 0 ts with | .error p => .parse p | .ok x => .done x) := by
 unfold program parsed
 rw [if_neg (by omega), ht]; dsimp only; cases prog l.length (ts.length + 1) 0 ts <;> rfl
theorem parsed_lex {α : Type} (rd : Nat → List Tok → R α) (l : List UInt8) (q : Nat) (h0 : l.length ≤ 4096) (ht : (Lx.toks (l.length + 1) 0 l).2 = some q) : parsed rd l = .lex q := by
 unfold parsed
 rw [if_neg (by omega)]
 cases h : Lx.toks (l.length + 1) 0 l with
 | mk a b => rw [h] at ht; simp only at ht; subst ht; rfl
theorem parsed_long {α : Type} (rd : Nat → List Tok → R α) (l : List UInt8) (h0 : 4096 < l.length) : parsed rd l = .lex 4096 := by
 unfold parsed
 rw [if_pos h0]
end Px
def ProgAt (f : Nat) (u : World) (v : Value) (x : Px.Prog) : Prop := ∃ dv fv, v = .agg #[dv, fv] ∧ RowAt 4 (DataAt f u) u dv x.datas ∧ RowAt 10 (DefAt f u) u fv x.defs
def ShProg (v : Value) : Prop := ∃ (q1 : Option Addr) (n1 c1 : Nat) (q2 : Option Addr) (n2 c2 : Nat), v = .agg #[.slice q1 n1 c1, .slice q2 n2 c2]
/-- What the document's readers answer of a text. -/
def ROut {α : Type} (w : World) (rep : World → Value → α → Prop) (sh : Value → Prop) (r : Px.Outcome α) (e : Ending) (w' : World) : Prop :=
 Below w.heap.size w w' ∧ ∃ v p c, e = .returned (.tuple #[v, .int .i64 p, .int .i64 c]) ∧ sh v ∧ (match r with | .lex q => p = (q : Int) ∧ c = 2 | .parse q => p = (q : Int) ∧ c = 3 | .done x => p = -1 ∧ c = 0 ∧ New rep w w' v x)
theorem rout_lex {α : Type} {w w' : World} {rep : World → Value → α → Prop} {sh : Value → Prop} {r : Px.Outcome α} {q : Nat} {v : Value} (hr : r = .lex q) (hb : Below w.heap.size w w') (hs : sh v) : ROut w rep sh r (.returned (.tuple #[v, .int .i64 (q : Int), .int .i64 2])) w' := by
 subst hr; exact ⟨hb, v, q, 2, rfl, hs, rfl, rfl⟩
theorem rout_parse {α : Type} {w w' : World} {rep : World → Value → α → Prop} {sh : Value → Prop} {r : Px.Outcome α} {q : Nat} {v : Value} (hr : r = .parse q) (hb : Below w.heap.size w w') (hs : sh v) : ROut w rep sh r (.returned (.tuple #[v, .int .i64 (q : Int), .int .i64 3])) w' := by
 subst hr; exact ⟨hb, v, q, 3, rfl, hs, rfl, rfl⟩
theorem rout_done {α : Type} {w w' : World} {rep : World → Value → α → Prop} {sh : Value → Prop} {r : Px.Outcome α} {x : α} {v : Value} (hr : r = .done x) (hb : Below w.heap.size w w') (hs : sh v) (hn : New rep w w' v x) : ROut w rep sh r (.returned (.tuple #[v, .int .i64 (-1), .int .i64 0])) w' := by
 subst hr; exact ⟨hb, v, -1, 0, rfl, hs, rfl, rfl, hn⟩
theorem tokrow_own {w : World} {base : Nat} {v : Value} {ts : List Lx.Tok} (h : w.ownsRow base 70 4 v ts.length (toksCells ts)) : TokRow w v ts := by
 by_cases hne : ts = []
 · subst hne
   obtain ⟨p, c, rfl⟩ := jF h
   exact .inl ⟨rfl, p, c, rfl⟩
 · obtain ⟨g, cap, rfl, _, _, h1, h2, h3⟩ := own_toks h hne
   refine .inr ⟨g, 0, cap, rfl, h1, h2, fun i t ht => ⟨_, rfl, rfl, fun j z hz => ?_⟩⟩
   obtain ⟨a0, a1, a2, a3⟩ := h3 i t ht
   have e : (⟨g, 0 + i * 4 + j, none⟩ : Addr) = ⟨g, i * 4 + j, none⟩ := by congr 1; omega
   rw [e]
   have hj : j < 4 := (Array.getElem?_eq_some_iff.1 hz).1
   have hz' : (#[Value.int .i64 t.kind, .int .i64 t.pos, .string ⟨t.text.toArray⟩, .int .i64 t.int] : Array Value)[j]? = some z := hz
   match j, hj, hz' with
   | 0, _, h => simp at h; subst h; exact a0
   | 1, _, h => simp at h; subst h; exact a1
   | 2, _, h => simp at h; subst h; exact a2
   | 3, _, h => simp at h; subst h; exact a3
theorem infoData : (Try.prog.info? 44).map (fun i => (i.zero, i.size, i.bytes)) = some (some (.agg #[.int .i64 0, .string ⟨#[]⟩, .slice none 0 0, .slice none 0 0]), 4, 72) := by kernel_rfl
theorem infoDef : (Try.prog.info? 58).map (fun i => (i.zero, i.size, i.bytes)) = some (some (.agg #[.int .i64 0, .string ⟨#[]⟩, .slice none 0 0, .int .i64 0, .int .i64 0, .string ⟨#[]⟩, .int .i64 0, .slice none 0 0, .slice none 0 0, .slice none 0 0]), 10, 160) := by kernel_rfl
set_option maxHeartbeats 16000000 in
set_option maxRecDepth 100000 in
theorem RProgram_any (l : List UInt8) (w : World) (hm : l.length ≤ 1000000) : Calls Try.prog 8 #[.string ⟨l.toArray⟩] w (ROut w (ProgAt 50) ShProg (Px.program l)) := by
 have HT := hid (fun w => refTokens_any l w hm)
 go_enter Try.func8, Try.ntmps8
 obtain ⟨er, eo, hb, hsz⟩ := ent2 w #[.slice none 0 0, .slice none 0 0] #[.slice none 0 0, .slice none 0 0] 27 27
 have ER := hid er; have EO := hid eo; have HB := hid hb
 replace hsz : w.heap.size + 2 ≤ _ := Nat.le_of_eq hsz.symm
 clear er eo hb
 go_wp2_with fail
 generalize (w.alloc (.cells #[.slice none 0 0, .slice none 0 0] 27)).alloc (.cells #[.slice none 0 0, .slice none 0 0] 27) = w0 at ER EO HB hsz ⊢
 refine (HT.out w0).mono ?_
 rintro e w1 ⟨tv, ts, tp, tc, rfl, hb, hown, hcase⟩
 have HROW := hid (tokrow_own hown)
 have HPOS0 := hid hown; have HSZ0 := hid hsz
 replace hsz := Nat.le_trans hsz hb.size
 replace ER := hid (jC ER.out hb)
 replace EO := hid (jC EO.out hb)
 replace HB := hid (HB.out.trans (hb.mono HB.out.size))
 clear hb
 obtain ⟨tq, tcap, rfl⟩ := jF hown
 clear hown
 rcases hcase with ⟨hl, rfl, rfl, rfl⟩ | ⟨h0, q, hq, rfl, rfl, rfl⟩ | ⟨h0, hq, rfl, rfl⟩
 · skip
   have HP := hid (show Px.program l = .lex 4096 from Px.parsed_long _ l hl); clear hl
   have erc0 := jA ER.out 0 _ rfl
   have erc1 := jA ER.out 1 _ rfl
   have erf := jD ER.out
   have eoc0 := jA EO.out 0 _ rfl
   have eoc1 := jA EO.out 1 _ rfl
   have eof := jD EO.out
   go_wp2_with fail
   replace ER := hid (jG #[.slice none 0 0, .slice none 0 0] (jG #[.slice none 0 0, .slice none 0 0] (ER.out) 0 (.slice none 0 0) rfl) 1 (.slice none 0 0) rfl)
   replace EO := hid (jB (jB (EO.out) (w.heap.size) 0 (.slice none 0 0) (by omega)) (w.heap.size) 1 (.slice none 0 0) (by omega))
   replace HB := hid (Below.setCell (Below.setCell (HB.out) (p := ⟨w.heap.size, 0, none⟩) (by dsimp only; omega) (.slice none 0 0)) (p := ⟨w.heap.size, 1, none⟩) (by dsimp only; omega) (.slice none 0 0))
   have r0 := jA ER.out 0 _ rfl
   have r1 := jA ER.out 1 _ rfl
   refine bodyPost_ret (v := .tuple #[.agg #[.slice none 0 0, .slice none 0 0], .int .i64 4096, .int .i64 2]) (by simp [results, Try.results8, go_sem, r0, r1]) rfl ?_
   exact rout_lex (q := 4096) HP.out HB.out ⟨_, _, _, _, _, _, rfl⟩
 · skip
   have HP := hid (show Px.program l = .lex q from Px.parsed_lex _ l q h0 hq); clear h0 hq
   have hge : (q : Int) ≥ 0 := by omega
   have erc0 := jA ER.out 0 _ rfl
   have erc1 := jA ER.out 1 _ rfl
   have erf := jD ER.out
   have eoc0 := jA EO.out 0 _ rfl
   have eoc1 := jA EO.out 1 _ rfl
   have eof := jD EO.out
   go_wp2_with fail
   replace ER := hid (jG #[.slice none 0 0, .slice none 0 0] (jG #[.slice none 0 0, .slice none 0 0] (ER.out) 0 (.slice none 0 0) rfl) 1 (.slice none 0 0) rfl)
   replace EO := hid (jB (jB (EO.out) (w.heap.size) 0 (.slice none 0 0) (by omega)) (w.heap.size) 1 (.slice none 0 0) (by omega))
   replace HB := hid (Below.setCell (Below.setCell (HB.out) (p := ⟨w.heap.size, 0, none⟩) (by dsimp only; omega) (.slice none 0 0)) (p := ⟨w.heap.size, 1, none⟩) (by dsimp only; omega) (.slice none 0 0))
   have r0 := jA ER.out 0 _ rfl
   have r1 := jA ER.out 1 _ rfl
   refine bodyPost_ret (v := .tuple #[.agg #[.slice none 0 0, .slice none 0 0], .int .i64 q, .int .i64 2]) (by simp [results, Try.results8, go_sem, r0, r1]) rfl ?_
   exact rout_lex HP.out HB.out ⟨_, _, _, _, _, _, rfl⟩
 · skip
   have hlen : ts.length ≤ l.length := by have := Lx.toks_len (l.length + 1) 0 l; rw [hq] at this; exact this
   have hok : ∀ t ∈ ts, Px.TOk t := by have := Px.toks_ok (l.length + 1) 0 l; rw [hq] at this; exact this
   have HTS := hid hok
   have HQ := hid hq
   have HLL := hid (show ts.length ≤ 1000000 by omega)
   have HL0 := hid h0
   clear hok hq h0
   have HPG := hid (Px.program_is l ts HL0.out HQ.out)
   clear HQ HL0 HPOS0
   have eoc0 := jA EO.out 0 _ rfl
   have eoc1 := jA EO.out 1 _ rfl
   have eof := jD EO.out
   go_upto_region 6 with fail
   clear eoc0 eoc1 eof
   replace ER := hid (jH ER.out (.cells #[.slice none 0 0, .slice none 0 0] 27))
   replace EO := hid (jH EO.out (.cells #[.slice none 0 0, .slice none 0 0] 27))
   replace HB := hid (HB.out.alloc HB.out.size (.cells #[.slice none 0 0, .slice none 0 0] 27))
   have HB1 := hid (show Below w1.heap.size w1 (w1.alloc (.cells #[.slice none 0 0, .slice none 0 0] 27)) from (Below.refl _ _).alloc (Nat.le_refl _) _)
   have hin := g2_nil (α := Px.Data) (β := Px.Def) (E1 := 44) (s1 := 4) (r1 := DataAt 50) (E2 := 58) (s2 := 10) (r2 := DefAt 50) (jI w1 #[.slice none 0 0, .slice none 0 0] 27)
   generalize w1.alloc (.cells #[.slice none 0 0, .slice none 0 0] 27) = W5 at ER EO HB HB1 hin ⊢
   have TWO0 := hid hin
   have ER0 := ER; have EO0 := EO; have HB0 := HB
   clear hin ER EO HB
   have hpre : Px.prog l.length (ts.length + 1) 0 ts = Px.preP [] [] (Px.prog l.length (ts.length + 1) 0 (ts.drop 0)) := by rw [List.drop_zero]; cases Px.prog l.length (ts.length + 1) 0 ts <;> rfl
   have HPRE := hid hpre; clear hpre
   go_wp2_with fail
   go_loopw [3, 4, 9, 10, 11, 12, 13, 14, 15, 16, 62, 80] (fun _ _ k _ _ _ _ _ _ _ _ _ wr => ∃ (i f : Nat) (a b : Value) (va vb : List Value) (xa : List Px.Data) (xb : List Px.Def), k = .int .i64 (i : Nat) ∧ i ≤ ts.length ∧ ts.length - i < f ∧ Hid (Px.prog l.length (ts.length + 1) 0 ts = Px.preP xa xb (Px.prog l.length f (xa.length + xb.length) (ts.drop i))) ∧ xa.length + xb.length ≤ 100 ∧ Hid (G2 44 4 (DataAt 50) 58 10 (DefAt 50) W5 w1.heap.size 27 #[a, b] (a) (b) (xa.length) (xb.length) (va) (vb) (va) (vb) (xa) (xb) [] wr)) (fun _ _ k _ _ _ _ _ _ _ _ _ _ => ts.length - (intOf k).toNat)
   case atStart => exact ⟨0, ts.length + 1, _, _, [], [], [], [], rfl, Nat.zero_le _, by omega, HPRE, by simp, TWO0⟩
   case round =>
    clear TWO0 HPRE
    obtain ⟨i, f, a, b, va, vb, xa, xb, rfl, hi, hf, HPP, hc, TWO⟩ := hrel
    have hwr := TWO.out.lt
    by_cases hlt : i < ts.length
    · skip
      obtain ⟨f, rfl⟩ : ∃ g, f = g + 1 := ⟨f - 1, by omega⟩
      have hdl : 0 < (ts.drop i).length := by rw [List.length_drop]; omega
      have HDL := hid hdl; clear hdl
      have hrow := HROW.out.mono (HB1.out.trans TWO.out.low) (fun _ _ _ h => h)
      have HN := hid (nodes_any l.length ts HLL.out (2 * (ts.drop i).length + 2) 0 i _ wr hrow (by omega) (by rw [List.length_drop]; omega))
      clear hrow
      go_wp2_with fail
      refine HN.out.mono ?_
      rintro e w2 ⟨hb, v, nx, kk, rfl, ⟨zk, zp, zs, zi, zb, zq, zn, zc, rfl⟩, hm⟩
      cases hnd : Px.node l.length (2 * (ts.drop i).length + 2) 0 (ts.drop i) with
      | error p =>
        rw [hnd] at hm
        obtain rfl : kk = (p : Int) := hm
        have hge : (p : Int) ≥ 0 := by omega
        have HX := hid (Px.prog_fail l.length f (xa.length + xb.length) _ HDL.out p hnd)
        replace TWO := hid ((TWO.out.below hb).alloc #[.int .i64 zk, .int .i64 zp, .string zs, .int .i64 zi, .bool zb, .slice zq zn zc] 73)
        clear hnd hb
        have ER := hid (ent_low TWO.out.low ER0.out (by omega))
        have EO := hid (ent_low TWO.out.low EO0.out (by omega))
        have HB := hid (HB0.out.trans (TWO.out.low.mono (by omega)))
        have erc0 := jA ER.out 0 _ rfl
        have erc1 := jA ER.out 1 _ rfl
        have erf := jD ER.out
        have eoc0 := jA EO.out 0 _ rfl
        have eoc1 := jA EO.out 1 _ rfl
        have eof := jD EO.out
        go_wp2_with fail
        replace ER := hid (jG #[.slice none 0 0, .slice none 0 0] (jG #[.slice none 0 0, .slice none 0 0] (ER.out) 0 (.slice none 0 0) rfl) 1 (.slice none 0 0) rfl)
        replace EO := hid (jB (jB (EO.out) (w.heap.size) 0 (.slice none 0 0) (by omega)) (w.heap.size) 1 (.slice none 0 0) (by omega))
        replace HB := hid (Below.setCell (Below.setCell (HB.out) (p := ⟨w.heap.size, 0, none⟩) (by dsimp only; omega) (.slice none 0 0)) (p := ⟨w.heap.size, 1, none⟩) (by dsimp only; omega) (.slice none 0 0))
        have r0 := jA ER.out 0 _ rfl
        have r1 := jA ER.out 1 _ rfl
        refine bodyPost_ret (v := .tuple #[.agg #[.slice none 0 0, .slice none 0 0], .int .i64 p, .int .i64 3]) (by simp [results, Try.results8, go_sem, r0, r1]) rfl ?_
        exact rout_parse (by rw [HPG.out, HPP.out, HX.out]; rfl) HB.out ⟨_, _, _, _, _, _, rfl⟩
      | ok r =>
        obtain ⟨m, ts'⟩ := r
        rw [hnd] at hm
        obtain ⟨rfl, j, rfl, hj, rfl, hnew⟩ := hm
        have hmore := ((Px.node_more l.length l.length (2 * (ts.drop i).length + 2) 0 (ts.drop i)).1 m (ts.drop j) hnd).2.2.1
        rw [List.length_drop, List.length_drop] at hmore
        have hgood := ((Px.node_good l.length (2 * (ts.drop i).length + 2) 0 (ts.drop i) (fun t ht => HTS.out t (List.mem_of_mem_drop ht))).1 m (ts.drop j) hnd).1
        have HG := hid hgood
        have HST := hid (Px.prog_step l.length f (xa.length + xb.length) _ HDL.out m _ hnd)
        have hnow := hnew.now
        have HV := hid hnow
        obtain ⟨mlv, hmv, hmr⟩ := hnow
        obtain ⟨mq, mc, rfl⟩ := hmr.len
        unfold nV at hmv
        simp only [Value.agg.injEq, Array.mk.injEq, List.cons.injEq, and_true, Value.int.injEq, Value.string.injEq, Value.bool.injEq, true_and] at hmv
        obtain ⟨rfl, rfl, rfl, rfl, rfl, hsl⟩ := hmv
        injection hsl with h1 h2 h3
        subst h1; subst h2; subst h3
        have hij : i < j := by omega
        replace TWO := hid ((TWO.out.below hb).alloc #[.int .i64 m.tok.kind, .int .i64 m.tok.pos, .string ⟨m.tok.text.toArray⟩, .int .i64 m.tok.int, .bool (Px.jS m), .slice zq m.list.length zc] 73)
        have HB2 := hid (show Below w2.heap.size w2 (w2.alloc (.cells #[.int .i64 m.tok.kind, .int .i64 m.tok.pos, .string ⟨m.tok.text.toArray⟩, .int .i64 m.tok.int, .bool (Px.jS m), .slice zq m.list.length zc] 73)) from (Below.refl _ _).alloc (Nat.le_refl _) _)
        replace HV := hid (HV.out.below HB2.out)
        clear hnd hb hnew hmr hgood hmore HN HB2
        obtain ⟨gb, hgb⟩ : ∃ gb, gb = w2.heap.size := ⟨_, rfl⟩
        go_upto_region 9 with fail
        rw [← hgb] at TWO
        rw [← hgb]
        generalize w2.alloc (.cells #[.int .i64 m.tok.kind, .int .i64 m.tok.pos, .string ⟨m.tok.text.toArray⟩, .int .i64 m.tok.int, .bool (Px.jS m), .slice zq m.list.length zc] 73) = w3 at TWO HV ⊢
        clear hgb
        obtain ⟨pa, ca, rfl⟩ := jF TWO.out.oa
        obtain ⟨pb, cb, rfl⟩ := jF TWO.out.ob
        have ETT := hid TWO.out.et
        have tt0 := jA ETT.out 0 _ rfl
        have tt1 := jA ETT.out 1 _ rfl
        have tf := jD ETT.out
        by_cases h100 : xa.length + xb.length = 100
        · skip
          have hi100 : ((xa.length : Nat) : Int) + (xb.length : Int) ≥ 100 := by omega
          have HX := hid (HST.out.trans (if_pos h100))
          go_wp2_with fail
          clear ETT tt0 tt1 tf
          have ER := hid (ent_low TWO.out.low ER0.out (by omega))
          have EO := hid (ent_low TWO.out.low EO0.out (by omega))
          have HB := hid (HB0.out.trans (TWO.out.low.mono (by omega)))
          have EB := hid (TWO.out.bx _ (List.Mem.head _)).2.1
          have bc0 := jA EB.out 0 _ rfl
          have bc1 := jA EB.out 1 _ rfl
          have bc2 := jA EB.out 2 _ rfl
          have bc3 := jA EB.out 3 _ rfl
          have bc4 := jA EB.out 4 _ rfl
          have bc5 := jA EB.out 5 _ rfl
          have bf := jD EB.out
          have hbe := (TWO.out.bx _ (List.Mem.head _)).1
          dsimp only at hbe
          have hne1 : ¬ gb = w.heap.size := by omega
          have hne2 : ¬ w.heap.size = gb := by omega
          have erc0 := jA ER.out 0 _ rfl
          have erc1 := jA ER.out 1 _ rfl
          have erf := jD ER.out
          have eoc0 := jA EO.out 0 _ rfl
          have eoc1 := jA EO.out 1 _ rfl
          have eof := jD EO.out
          go_region
          all_goals (try go_wp2_with fail)
          replace ER := hid (jG #[.slice none 0 0, .slice none 0 0] (jG #[.slice none 0 0, .slice none 0 0] (ER.out) 0 (.slice none 0 0) rfl) 1 (.slice none 0 0) rfl)
          replace EO := hid (jB (jB (EO.out) (w.heap.size) 0 (.slice none 0 0) (by omega)) (w.heap.size) 1 (.slice none 0 0) (by omega))
          replace HB := hid (Below.setCell (Below.setCell (HB.out) (p := ⟨w.heap.size, 0, none⟩) (by dsimp only; omega) (.slice none 0 0)) (p := ⟨w.heap.size, 1, none⟩) (by dsimp only; omega) (.slice none 0 0))
          replace ER := ent_drew ER
          replace HB := hid (HB.out.drew)
          have r0 := jA ER.out 0 _ rfl
          have r1 := jA ER.out 1 _ rfl
          refine bodyPost_ret (v := .tuple #[.agg #[.slice none 0 0, .slice none 0 0], .int .i64 m.tok.pos, .int .i64 3]) (by simp [results, Try.results8, go_sem, r0, r1]) rfl ?_
          exact rout_parse (q := m.pos) (by rw [HPG.out, HPP.out, HX.out]; rfl) HB.out ⟨_, _, _, _, _, _, rfl⟩
        · skip
          have hi100 : ¬ ((xa.length : Nat) : Int) + (xb.length : Int) ≥ 100 := by omega
          replace HST := hid (HST.out.trans (if_neg h100))
          have EB := hid (TWO.out.bx _ (List.Mem.head _)).2.1
          have bc0 := jA EB.out 0 _ rfl
          have bc1 := jA EB.out 1 _ rfl
          have bc2 := jA EB.out 2 _ rfl
          have bc3 := jA EB.out 3 _ rfl
          have bc4 := jA EB.out 4 _ rfl
          have bc5 := jA EB.out 5 _ rfl
          have bf := jD EB.out
          go_wp2_with fail
          clear ETT tt0 tt1 tf
          clear EB bc0 bc1 bc2 bc3 bc4 bc5 bf
          have HHD := hid (fun (w1 : World) (v : Value) (h : NdAt 41 w1 v m) (s : List UInt8) (hne : s ≠ []) (hs : ¬ Px.Plain s) (hk : (Lx.tokAt s).1 = 3) => (head_any 41 m v s w1 h).mono (fun e w' h => by rw [Px.head_eq HG.out s hne hs hk] at h; exact h))
          refine (HHD.out _ _ HV.out [100, 97, 116, 97] (by decide) (by unfold Px.Plain; decide) (by decide)).mono ?_
          rintro e w4 ⟨rfl, hb⟩
          replace TWO := hid (TWO.out.below hb)
          replace HV := hid (HV.out.below hb)
          clear hb
          by_cases hd : Px.word m = [100, 97, 116, 97]
          · skip
            rw [decide_eq_true hd]
            replace HST := hid (HST.out.trans (if_pos hd)); clear hd HHD
            have EB := hid (TWO.out.bx _ (List.Mem.head _)).2.1
            have bc0 := jA EB.out 0 _ rfl
            have bc1 := jA EB.out 1 _ rfl
            have bc2 := jA EB.out 2 _ rfl
            have bc3 := jA EB.out 3 _ rfl
            have bc4 := jA EB.out 4 _ rfl
            have bc5 := jA EB.out 5 _ rfl
            have bf := jD EB.out
            go_wp2_with fail
            clear EB bc0 bc1 bc2 bc3 bc4 bc5 bf
            refine (data_any 40 (by omega) m _ _ HV.out HG.out).mono ?_
            intro e w6 ht
            cases hx : Px.data 50 m with
            | error p =>
              obtain ⟨z, rfl, ⟨yp, yz, yq1, yn1, yc1, yq2, yn2, yc2, rfl⟩, hb⟩ := jN ht hx
              have hge : (p : Int) ≥ 0 := by omega
              have HX := hid (show _ = Except.error p from HST.out.trans (by rw [hx]))
              replace TWO := hid ((TWO.out.below hb).alloc #[.int .i64 yp, .string yz, .slice yq1 yn1 yc1, .slice yq2 yn2 yc2] 44)
              clear hx hb ht
              have ER := hid (ent_low TWO.out.low ER0.out (by omega))
              have EO := hid (ent_low TWO.out.low EO0.out (by omega))
              have HB := hid (HB0.out.trans (TWO.out.low.mono (by omega)))
              have erc0 := jA ER.out 0 _ rfl
              have erc1 := jA ER.out 1 _ rfl
              have erf := jD ER.out
              have eoc0 := jA EO.out 0 _ rfl
              have eoc1 := jA EO.out 1 _ rfl
              have eof := jD EO.out
              go_wp2_with fail
              replace ER := hid (jG #[.slice none 0 0, .slice none 0 0] (jG #[.slice none 0 0, .slice none 0 0] (ER.out) 0 (.slice none 0 0) rfl) 1 (.slice none 0 0) rfl)
              replace EO := hid (jB (jB (EO.out) (w.heap.size) 0 (.slice none 0 0) (by omega)) (w.heap.size) 1 (.slice none 0 0) (by omega))
              replace HB := hid (Below.setCell (Below.setCell (HB.out) (p := ⟨w.heap.size, 0, none⟩) (by dsimp only; omega) (.slice none 0 0)) (p := ⟨w.heap.size, 1, none⟩) (by dsimp only; omega) (.slice none 0 0))
              have r0 := jA ER.out 0 _ rfl
              have r1 := jA ER.out 1 _ rfl
              refine bodyPost_ret (v := .tuple #[.agg #[.slice none 0 0, .slice none 0 0], .int .i64 p, .int .i64 3]) (by simp [results, Try.results8, go_sem, r0, r1]) rfl ?_
              exact rout_parse (by rw [HPG.out, HPP.out, HX.out]; rfl) HB.out ⟨_, _, _, _, _, _, rfl⟩
            | ok d =>
              obtain ⟨z, rfl, ⟨yp, yz, yq1, yn1, yc1, yq2, yn2, yc2, rfl⟩, hnew, hb⟩ := rtold_ok ht hx
              have HX := hid (HST.out.trans (by rw [hx]))
              have hks := TWO.out.since hnew
              replace TWO := hid (((TWO.out.below hb).addA hks rfl).alloc #[.int .i64 yp, .string yz, .slice yq1 yn1 yc1, .slice yq2 yn2 yc2] 44)
              have HNX : Hid (Px.prog l.length (ts.length + 1) 0 ts = Px.preP (xa ++ [d]) xb (Px.prog l.length f ((xa ++ [d]).length + xb.length) (ts.drop j))) := hid (by rw [HPP.out, HST.out, hx]; dsimp only; rw [Px.preP_data]; congr 2; rw [List.length_append]; simp; omega)
              clear hx hb ht hnew hks HX
              go_upto_region 19 with fail
              obtain ⟨gz, hgz⟩ : ∃ gz, gz = w6.heap.size := ⟨_, rfl⟩
              rw [← hgz] at TWO
              rw [← hgz]
              generalize w6.alloc (.cells #[.int .i64 yp, .string yz, .slice yq1 yn1 yc1, .slice yq2 yn2 yc2] 44) = w7 at TWO ⊢
              clear hgz
              have ETT := hid TWO.out.et
              have tt0 := jA ETT.out 0 _ rfl
              have tt1 := jA ETT.out 1 _ rfl
              have tf := jD ETT.out
              have EZ := hid (TWO.out.bx _ (List.Mem.head _)).2.1
              have ze0 := jA EZ.out 0 _ rfl
              have ze1 := jA EZ.out 1 _ rfl
              have ze2 := jA EZ.out 2 _ rfl
              have ze3 := jA EZ.out 3 _ rfl
              go_wp2_with (at_builtin; refine G2.listA (TWO.out.alloc #[.int .i64 yp, .string yz, .slice yq1 yn1 yc1, .slice yq2 yn2 yc2] 44) (by decide) 24 Try.underlying24 infoData rfl (by decide) (by decide) (gb := w7.heap.size) (List.Mem.head _) rfl (by simp [Value.oneCell']) (by omega) rfl (.tmp 75) (.tmp 77) rfl rfl rfl ?_)
              intro v6 w8 h6
              clear ETT tt0 tt1 tf
              clear EZ ze0 ze1 ze2 ze3
              obtain ⟨pc, cc, rfl⟩ := jF h6.oa
              have T2 := hid (h6.only (M := []) (fun b hb => by cases hb)); clear h6
              replace TWO := T2; clear T2
              have ETT := hid TWO.out.et
              have tt0 := jA ETT.out 0 _ rfl
              have tt1 := jA ETT.out 1 _ rfl
              have tf := jD ETT.out
              go_wp2_with fail
              clear ETT tt0 tt1 tf
              have T3 := hid (TWO.out.st 0 (.slice pc (xa.length + 1) cc) #[.slice pc (xa.length + 1) cc, .slice pb xb.length cb] rfl)
              go_roundw
              case rel => exact ⟨j, f, _, _, va ++ [.agg #[.int .i64 yp, .string yz, .slice yq1 yn1 yc1, .slice yq2 yn2 yc2]], vb, xa ++ [d], xb, rfl, hj, by omega, HNX, by rw [List.length_append]; simp; omega, hid (by rw [show (xa ++ [d]).length = xa.length + 1 from by simp]; exact T3.out)⟩
              case measure => simp [intOf]; omega
          · skip
            rw [decide_eq_false hd]
            replace HST := hid (HST.out.trans (if_neg hd)); clear hd
            have EB := hid (TWO.out.bx _ (List.Mem.head _)).2.1
            have bc0 := jA EB.out 0 _ rfl
            have bc1 := jA EB.out 1 _ rfl
            have bc2 := jA EB.out 2 _ rfl
            have bc3 := jA EB.out 3 _ rfl
            have bc4 := jA EB.out 4 _ rfl
            have bc5 := jA EB.out 5 _ rfl
            have bf := jD EB.out
            go_wp2_with fail
            clear EB bc0 bc1 bc2 bc3 bc4 bc5 bf
            refine (HHD.out _ _ HV.out [100, 101, 102] (by decide) (by unfold Px.Plain; decide) (by decide)).mono ?_
            rintro e w5 ⟨rfl, hb⟩
            replace TWO := hid (TWO.out.below hb)
            replace HV := hid (HV.out.below hb)
            clear hb
            by_cases hd : Px.word m = [100, 101, 102]
            · skip
              rw [decide_eq_true hd]
              replace HST := hid (HST.out.trans (if_pos hd)); clear hd HHD
              have EB := hid (TWO.out.bx _ (List.Mem.head _)).2.1
              have bc0 := jA EB.out 0 _ rfl
              have bc1 := jA EB.out 1 _ rfl
              have bc2 := jA EB.out 2 _ rfl
              have bc3 := jA EB.out 3 _ rfl
              have bc4 := jA EB.out 4 _ rfl
              have bc5 := jA EB.out 5 _ rfl
              have bf := jD EB.out
              go_wp2_with fail
              clear EB bc0 bc1 bc2 bc3 bc4 bc5 bf
              refine (def_any 40 (by omega) m _ _ HV.out HG.out).mono ?_
              intro e w6 ht
              cases hx : Px.defn 50 m with
              | error p =>
                obtain ⟨z, rfl, ⟨yp, yz, yq0, yn0, yc0, yk, yp1, ys1, yi, yq1, yn1, yc1, yq2, yn2, yc2, yq3, yn3, yc3, rfl⟩, hb⟩ := jN ht hx
                have hge : (p : Int) ≥ 0 := by omega
                have HX := hid (show _ = Except.error p from HST.out.trans (by rw [hx]))
                replace TWO := hid ((TWO.out.below hb).alloc #[.int .i64 yp, .string yz, .slice yq0 yn0 yc0, .int .i64 yk, .int .i64 yp1, .string ys1, .int .i64 yi, .slice yq1 yn1 yc1, .slice yq2 yn2 yc2, .slice yq3 yn3 yc3] 58)
                clear hx hb ht
                have ER := hid (ent_low TWO.out.low ER0.out (by omega))
                have EO := hid (ent_low TWO.out.low EO0.out (by omega))
                have HB := hid (HB0.out.trans (TWO.out.low.mono (by omega)))
                have erc0 := jA ER.out 0 _ rfl
                have erc1 := jA ER.out 1 _ rfl
                have erf := jD ER.out
                have eoc0 := jA EO.out 0 _ rfl
                have eoc1 := jA EO.out 1 _ rfl
                have eof := jD EO.out
                go_wp2_with fail
                replace ER := hid (jG #[.slice none 0 0, .slice none 0 0] (jG #[.slice none 0 0, .slice none 0 0] (ER.out) 0 (.slice none 0 0) rfl) 1 (.slice none 0 0) rfl)
                replace EO := hid (jB (jB (EO.out) (w.heap.size) 0 (.slice none 0 0) (by omega)) (w.heap.size) 1 (.slice none 0 0) (by omega))
                replace HB := hid (Below.setCell (Below.setCell (HB.out) (p := ⟨w.heap.size, 0, none⟩) (by dsimp only; omega) (.slice none 0 0)) (p := ⟨w.heap.size, 1, none⟩) (by dsimp only; omega) (.slice none 0 0))
                have r0 := jA ER.out 0 _ rfl
                have r1 := jA ER.out 1 _ rfl
                refine bodyPost_ret (v := .tuple #[.agg #[.slice none 0 0, .slice none 0 0], .int .i64 p, .int .i64 3]) (by simp [results, Try.results8, go_sem, r0, r1]) rfl ?_
                exact rout_parse (by rw [HPG.out, HPP.out, HX.out]; rfl) HB.out ⟨_, _, _, _, _, _, rfl⟩
              | ok d =>
                obtain ⟨z, rfl, ⟨yp, yz, yq0, yn0, yc0, yk, yp1, ys1, yi, yq1, yn1, yc1, yq2, yn2, yc2, yq3, yn3, yc3, rfl⟩, hnew, hb⟩ := rtold_ok ht hx
                have HX := hid (HST.out.trans (by rw [hx]))
                have hks := TWO.out.since hnew
                replace TWO := hid (((TWO.out.below hb).addB hks rfl).alloc #[.int .i64 yp, .string yz, .slice yq0 yn0 yc0, .int .i64 yk, .int .i64 yp1, .string ys1, .int .i64 yi, .slice yq1 yn1 yc1, .slice yq2 yn2 yc2, .slice yq3 yn3 yc3] 58)
                have HNX : Hid (Px.prog l.length (ts.length + 1) 0 ts = Px.preP xa (xb ++ [d]) (Px.prog l.length f (xa.length + (xb ++ [d]).length) (ts.drop j))) := hid (by rw [HPP.out, HST.out, hx]; dsimp only; rw [Px.preP_def]; congr 2; rw [List.length_append, ← Nat.add_assoc]; rfl)
                clear hx hb ht hnew hks HX
                go_upto_region 24 with fail
                obtain ⟨gz, hgz⟩ : ∃ gz, gz = w6.heap.size := ⟨_, rfl⟩
                rw [← hgz] at TWO
                rw [← hgz]
                generalize w6.alloc (.cells #[.int .i64 yp, .string yz, .slice yq0 yn0 yc0, .int .i64 yk, .int .i64 yp1, .string ys1, .int .i64 yi, .slice yq1 yn1 yc1, .slice yq2 yn2 yc2, .slice yq3 yn3 yc3] 58) = w7 at TWO ⊢
                clear hgz
                have ETT := hid TWO.out.et
                have tt0 := jA ETT.out 0 _ rfl
                have tt1 := jA ETT.out 1 _ rfl
                have tf := jD ETT.out
                have EZ := hid (TWO.out.bx _ (List.Mem.head _)).2.1
                have ze0 := jA EZ.out 0 _ rfl
                have ze1 := jA EZ.out 1 _ rfl
                have ze2 := jA EZ.out 2 _ rfl
                have ze3 := jA EZ.out 3 _ rfl
                have ze4 := jA EZ.out 4 _ rfl
                have ze5 := jA EZ.out 5 _ rfl
                have ze6 := jA EZ.out 6 _ rfl
                have ze7 := jA EZ.out 7 _ rfl
                have ze8 := jA EZ.out 8 _ rfl
                have ze9 := jA EZ.out 9 _ rfl
                go_wp2_with (at_builtin; refine G2.listA (TWO.out.alloc #[.int .i64 yp, .string yz, .slice yq0 yn0 yc0, .int .i64 yk, .int .i64 yp1, .string ys1, .int .i64 yi, .slice yq1 yn1 yc1, .slice yq2 yn2 yc2, .slice yq3 yn3 yc3] 58).swap (by decide) 25 Try.underlying25 infoDef rfl (by decide) (by decide) (gb := w7.heap.size) (List.Mem.head _) rfl (by simp [Value.oneCell']) (by omega) rfl (.tmp 93) (.tmp 95) rfl rfl rfl ?_)
                intro v6 w8 h6
                clear ETT tt0 tt1 tf
                clear EZ ze0 ze1 ze2 ze3 ze4 ze5 ze6 ze7 ze8 ze9
                obtain ⟨pc, cc, rfl⟩ := jF h6.oa
                have T2 := hid (h6.swap.only (M := []) (fun b hb => by cases hb)); clear h6
                replace TWO := T2; clear T2
                have ETT := hid TWO.out.et
                have tt0 := jA ETT.out 0 _ rfl
                have tt1 := jA ETT.out 1 _ rfl
                have tf := jD ETT.out
                go_wp2_with fail
                clear ETT tt0 tt1 tf
                have T3 := hid (TWO.out.st 1 (.slice pc (xb.length + 1) cc) #[.slice pa xa.length ca, .slice pc (xb.length + 1) cc] rfl)
                go_roundw
                case rel => exact ⟨j, f, _, _, va, vb ++ [.agg #[.int .i64 yp, .string yz, .slice yq0 yn0 yc0, .int .i64 yk, .int .i64 yp1, .string ys1, .int .i64 yi, .slice yq1 yn1 yc1, .slice yq2 yn2 yc2, .slice yq3 yn3 yc3]], xa, xb ++ [d], rfl, hj, by omega, HNX, by rw [List.length_append]; simp; omega, hid (by rw [show (xb ++ [d]).length = xb.length + 1 from by simp]; exact T3.out)⟩
                case measure => simp [intOf]; omega
            · skip
              rw [decide_eq_false hd]
              have HX := hid (HST.out.trans (if_neg hd)); clear hd
              go_wp2_with fail
              have ER := hid (ent_low TWO.out.low ER0.out (by omega))
              have EO := hid (ent_low TWO.out.low EO0.out (by omega))
              have HB := hid (HB0.out.trans (TWO.out.low.mono (by omega)))
              have EB := hid (TWO.out.bx _ (List.Mem.head _)).2.1
              have bc0 := jA EB.out 0 _ rfl
              have bc1 := jA EB.out 1 _ rfl
              have bc2 := jA EB.out 2 _ rfl
              have bc3 := jA EB.out 3 _ rfl
              have bc4 := jA EB.out 4 _ rfl
              have bc5 := jA EB.out 5 _ rfl
              have bf := jD EB.out
              have hbe := (TWO.out.bx _ (List.Mem.head _)).1
              dsimp only at hbe
              have hne1 : ¬ gb = w.heap.size := by omega
              have hne2 : ¬ w.heap.size = gb := by omega
              have erc0 := jA ER.out 0 _ rfl
              have erc1 := jA ER.out 1 _ rfl
              have erf := jD ER.out
              have eoc0 := jA EO.out 0 _ rfl
              have eoc1 := jA EO.out 1 _ rfl
              have eof := jD EO.out
              go_region
              all_goals (try go_wp2_with fail)
              replace ER := hid (jG #[.slice none 0 0, .slice none 0 0] (jG #[.slice none 0 0, .slice none 0 0] (ER.out) 0 (.slice none 0 0) rfl) 1 (.slice none 0 0) rfl)
              replace EO := hid (jB (jB (EO.out) (w.heap.size) 0 (.slice none 0 0) (by omega)) (w.heap.size) 1 (.slice none 0 0) (by omega))
              replace HB := hid (Below.setCell (Below.setCell (HB.out) (p := ⟨w.heap.size, 0, none⟩) (by dsimp only; omega) (.slice none 0 0)) (p := ⟨w.heap.size, 1, none⟩) (by dsimp only; omega) (.slice none 0 0))
              replace ER := ent_drew ER
              replace HB := hid (HB.out.drew)
              have r0 := jA ER.out 0 _ rfl
              have r1 := jA ER.out 1 _ rfl
              refine bodyPost_ret (v := .tuple #[.agg #[.slice none 0 0, .slice none 0 0], .int .i64 m.tok.pos, .int .i64 3]) (by simp [results, Try.results8, go_sem, r0, r1]) rfl ?_
              exact rout_parse (q := m.pos) (by rw [HPG.out, HPP.out, HX.out]; rfl) HB.out ⟨_, _, _, _, _, _, rfl⟩
    · skip
      have hie : ts.drop i = [] := List.drop_eq_nil_of_le (by omega)
      have HPX : Hid (Px.program l = .done ⟨xa, xb⟩) := hid (by rw [HPG.out, HPP.out, hie, Px.prog_nil]; simp [Px.preP])
      clear hie
      obtain ⟨pa, ca, rfl⟩ := jF TWO.out.oa
      obtain ⟨pb, cb, rfl⟩ := jF TWO.out.ob
      have ER := hid (ent_low TWO.out.low ER0.out (by omega))
      have EO := hid (ent_low TWO.out.low EO0.out (by omega))
      have HB := hid (HB0.out.trans (TWO.out.low.mono (by omega)))
      have ETT := hid TWO.out.et
      have tt0 := jA ETT.out 0 _ rfl
      have tt1 := jA ETT.out 1 _ rfl
      have tf := jD ETT.out
      have erc0 := jA ER.out 0 _ rfl
      have erc1 := jA ER.out 1 _ rfl
      have erf := jD ER.out
      go_wp2_with fail
      replace ER := hid (jG #[.slice pa xa.length ca, .slice pb xb.length cb] (jG #[.slice pa xa.length ca, .slice none 0 0] (ER.out) 0 (.slice pa xa.length ca) rfl) 1 (.slice pb xb.length cb) rfl)
      replace EO := hid (jB (jB (EO.out) (w.heap.size) 0 (.slice pa xa.length ca) (by omega)) (w.heap.size) 1 (.slice pb xb.length cb) (by omega))
      replace HB := hid (Below.setCell (Below.setCell (HB.out) (p := ⟨w.heap.size, 0, none⟩) (by dsimp only; omega) (.slice pa xa.length ca)) (p := ⟨w.heap.size, 1, none⟩) (by dsimp only; omega) (.slice pb xb.length cb))
      have r0 := jA ER.out 0 _ rfl
      have r1 := jA ER.out 1 _ rfl
      refine bodyPost_ret (v := .tuple #[.agg #[.slice pa xa.length ca, .slice pb xb.length cb], .int .i64 (-1), .int .i64 0]) (by simp [results, Try.results8, go_sem, r0, r1]) rfl ?_
      refine rout_done HPX.out HB.out ⟨_, _, _, _, _, _, rfl⟩ (fun u hu => ?_)
      have hag : ∀ b, w1.heap.size < b → b < wr.heap.size → u.heap[b]? = wr.heap[b]? := fun b h1 h2 => (hu b (by omega) (by simpa using h2)).trans (by rw [Below.heap_setCell _ ⟨w.heap.size, 1, none⟩ _ b (by dsimp only; omega), Below.heap_setCell _ ⟨w.heap.size, 0, none⟩ _ b (by dsimp only; omega)])
      have hr := TWO.out.rows rfl rfl (u := u) hag
      exact ⟨_, _, rfl, hr.1, hr.2⟩
end Go.Proofs.Ytgoacbomphlhjaa

namespace Go.Proofs.Ytgoacbomphlhjaa
open Go.Lib (hid)
open List renaming getElem_toArray → jX, getElem_cons_succ → jY, getElem_cons_zero → jZ, setIfInBounds_toArray → JA, set_cons_zero → JB, set_cons_succ → JC
open Go Go.RowKit
namespace Sx
def tyw : Nat → Px.TypeE → Nat
 | 0, _ => 0
 | f + 1, .mk _ nm xs => 1 + nm.length + (xs.map (tyw f)).sum
def cw (c : Px.Con) : Nat := 1 + c.name.length + (c.fields.map (tyw 50)).sum
def dw (d : Px.Data) : Nat := 1 + d.name.length + nw d.params + (d.cons.map cw).sum
def fw (d : Px.Def) : Nat := 1 + d.name.length + nw d.params + ew 50 d.body
theorem len_sum {α : Type} (g : α → Nat) : ∀ (l : List α), (∀ x ∈ l, 1 ≤ g x) → l.length ≤ (l.map g).sum
 | [], _ => by simp
 | a :: r, h => by
   rw [List.length_cons, List.map_cons, List.sum_cons]
   have h1 := h a (by simp)
   have h2 := len_sum g r (fun x hx => h x (by simp [hx]))
   omega
end Sx
theorem take_fold {α β : Type} (g : β → α → β) (l : List α) (k : Nat) (x : α) (h : l[k]? = some x) (b : β) : (l.take (k + 1)).foldl g b = g ((l.take k).foldl g b) x := by
 rw [List.take_add_one, h, List.foldl_append]; rfl
theorem zip_at {α : Type} {l : List α} {k : Nat} {x : α} (h : l[k]? = some x) : l.zipIdx[k]? = some (x, k) := by rw [List.getElem?_zipIdx, h]; simp
theorem dataAt_sh {f : Nat} {u : World} {v : Value} {d : Px.Data} (h : DataAt f u v d) : ∃ (q0 : Option Addr) (c0 : Nat) (q1 : Option Addr) (c1 : Nat), v = .agg #[.int .i64 d.pos, .string ⟨d.name.toArray⟩, .slice q0 d.params.length c0, .slice q1 d.cons.length c1] ∧ RowAt 1 (StrAt u) u (.slice q0 d.params.length c0) d.params ∧ RowAt 3 (ConAt f u) u (.slice q1 d.cons.length c1) d.cons := by
 obtain ⟨nv, cv, rfl, h1, h2⟩ := h
 obtain ⟨q0, c0, rfl⟩ := h1.len
 obtain ⟨q1, c1, rfl⟩ := h2.len
 exact ⟨_, _, _, _, rfl, h1, h2⟩
theorem conAt_sh {f : Nat} {u : World} {v : Value} {c : Px.Con} (h : ConAt f u v c) : ∃ (q0 : Option Addr) (c0 : Nat), v = .agg #[.int .i64 c.pos, .string ⟨c.name.toArray⟩, .slice q0 c.fields.length c0] ∧ RowAt 3 (TypeAt f u) u (.slice q0 c.fields.length c0) c.fields := by
 obtain ⟨av, rfl, h1⟩ := h
 obtain ⟨q0, c0, rfl⟩ := h1.len
 exact ⟨_, _, rfl, h1⟩
def sArr : Nm := [45, 62]
def typesStep (m : Nm → Option Int) (d : Px.Data) : Nm → Option Int := putm m d.name (d.params.length : Int)
def typesTab (ds : List Px.Data) : Nm → Option Int := ds.foldl typesStep (putm given sArr 2)
set_option maxHeartbeats 4000000 in
set_option maxRecDepth 100000 in
theorem typesOf_any (f : Nat) (p : Px.Prog) (v : Value) (w : World) (hp : ProgAt f w v p) (hw : (p.datas.map Sx.dw).sum ≤ 400000) :
 Calls Try.prog 23 #[v] w fun e w' => ∃ mb, e = .returned (.map (some mb)) ∧ Below w.heap.size w w' ∧ w.heap.size ≤ mb ∧ MapI w' mb (4 + p.datas.length) (typesTab p.datas) := by
 obtain ⟨dv, fv, rfl, h1, h2⟩ := hp
 obtain ⟨q1, c1, rfl⟩ := h1.len
 obtain ⟨q2, c2, rfl⟩ := h2.len
 have HR := hid h1
 have HW := hid hw
 have hln : p.datas.length ≤ 400000 := Nat.le_trans (Sx.len_sum Sx.dw _ (fun x _ => by unfold Sx.dw; omega)) hw
 clear h1 h2 hw
 have KA := hid (keyLit sArr (by decide))
 go_enter Try.func23, Try.ntmps23
 have EP := hid (jI w #[.slice q1 p.datas.length c1, .slice q2 p.defs.length c2] 27)
 have HB := hid ((Below.refl w.heap.size w).alloc (Nat.le_refl _) (.cells #[.slice q1 p.datas.length c1, .slice q2 p.defs.length c2] 27))
 have hsz : w.heap.size + 1 ≤ (w.alloc (.cells #[.slice q1 p.datas.length c1, .slice q2 p.defs.length c2] 27)).heap.size := by simp
 go_upto_region 1 with fail
 generalize w.alloc (.cells #[.slice q1 p.datas.length c1, .slice q2 p.defs.length c2] 27) = w1 at EP HB hsz ⊢
 go_wp2_with fail
 refine (given_any w1).mono ?_
 rintro e w2 ⟨mb, rfl, hb2, hmb, hm⟩
 replace EP := hid (jC EP.out hb2)
 replace HB := hid (HB.out.trans (hb2.mono HB.out.size))
 have hmw : w.heap.size + 1 ≤ mb := by omega
 obtain ⟨D, o1, t1, n1⟩ := hm
 have O1 := hid o1
 have P1 := hid (mapg_put t1 n1 sArr 2)
 have HV : Hid (RInt (.int .i64 2) = some (encN 2, [])) := hid (plainElem_int Try.underlying3 (by decide))
 clear hb2 hmb hsz o1 t1 n1
 have e0 := jA EP.out 0 _ rfl
 go_wp2_with (first
  | (at_mapUpdate; (refine wpList_mapUpdate_own _ rfl _ _ _ 64 rfl 9 3 lawStr Try.underlying64 _ mb 3 D rfl O1.out (by decide) _ _ _ rfl rfl KA.out _ [] HV.out ?_); intro w3 o3 g3; have M3 : Hid (MapI w3 mb 4 (putm given sArr 2)) := hid ⟨_, o3, P1.out.1, P1.out.2⟩; have G3 := hid g3; have e0 := grown_cell G3.out e0 (by show w.heap.size ≠ mb; omega); clear o3 g3))
 have EP3 : Hid (w3.heap[w.heap.size]? = some (.cells #[.slice q1 p.datas.length c1, .slice q2 p.defs.length c2] 27 (0, 0))) := hid ((G3.out.block _ (jK EP.out) (fun e => by have := Option.some.inj e; omega)).trans EP.out)
 replace HB := hid (below_map HB.out G3.out (by omega))
 clear e0 G3 EP O1 P1 HV KA
 go_loopw [5, 11] (fun _ i wr => ∃ k : Nat, i = .int .i64 k ∧ k ≤ p.datas.length ∧ Hid (Below w.heap.size w wr) ∧ Hid (MapI wr mb (4 + k) ((p.datas.take k).foldl typesStep (putm given sArr 2)))) (fun _ i _ => p.datas.length - (intOf i).toNat)
 case atStart => exact ⟨0, rfl, Nat.zero_le _, HB, M3⟩
 case round =>
  clear HB M3 EP3
  obtain ⟨k, rfl, hk, HB, HM⟩ := hrel
  by_cases hlt : k < p.datas.length
  · obtain ⟨d, hd⟩ : ∃ d, p.datas[k]? = some d := ⟨_, List.getElem?_eq_getElem hlt⟩
    rcases HR.out with ⟨h0, _⟩ | ⟨g, of, c', hv, g1, g2, g3⟩
    · rw [h0] at hlt; simp at hlt
    injection hv with hq1 _ hq2
    subst hq1; subst hq2
    obtain ⟨u, hu, _, hcell⟩ := g3 k d hd
    obtain ⟨r0, s0, r1, s1, rfl, hp1, hp2⟩ := dataAt_sh hu
    have z0 := jE HB.out (hcell 0 _ rfl); have z1 := jE HB.out (hcell 1 _ rfl); have z2 := jE HB.out (hcell 2 _ rfl); have z3 := jE HB.out (hcell 3 _ rfl)
    simp only [Nat.add_zero] at z0
    have hk1 : (k : Int) < (p.datas.length : Int) := by omega
    have hk2 : (p.datas.length : Int) ≤ (c1 : Int) := by omega
    have hk3 := g2
    have hdw := Sx.sum_mem Sx.dw (List.mem_of_getElem? hd)
    have hdn : d.name.length ≤ 400000 ∧ d.params.length ≤ 400000 := by have := HW.out; have := nw_len d.params; have hdd : Sx.dw d = 1 + d.name.length + nw d.params + (d.cons.map Sx.cw).sum := rfl; omega
    have HTK := hid (take_fold typesStep p.datas k d hd (putm given sArr 2))
    have E4 := hid (jI wr #[.int .i64 d.pos, .string ⟨d.name.toArray⟩, .slice r0 d.params.length s0, .slice r1 d.cons.length s1] 44)
    have e0 := jA E4.out 0 _ rfl; have e1 := jA E4.out 1 _ rfl; have e2 := jA E4.out 2 _ rfl
    have HBA := hid (HB.out.alloc HB.out.size (.cells #[.int .i64 d.pos, .string ⟨d.name.toArray⟩, .slice r0 d.params.length s0, .slice r1 d.cons.length s1] 44))
    obtain ⟨D, o1, t1, n1⟩ := HM.out.below ((Below.refl _ wr).alloc (Nat.le_refl _) (.cells #[.int .i64 d.pos, .string ⟨d.name.toArray⟩, .slice r0 d.params.length s0, .slice r1 d.cons.length s1] 44))
    have O1 := hid o1
    have P1 := hid (mapg_put t1 n1 d.name (d.params.length : Int))
    have HK := hid (keyLit d.name (by unfold maxLen; omega))
    have HV : Hid (RInt (.int .i64 (d.params.length : Int)) = some (encN (d.params.length : Int), [])) := hid (plainElem_int Try.underlying3 (WalkArith.wf_i64 (by omega)))
    have hn4 : 4 + k < maxLen := by unfold maxLen; omega
    clear g1 g2 g3 hcell hu hd hdw o1 t1 n1 hp1 hp2
    go_wp2_with (first
     | (at_mapUpdate; (refine wpList_mapUpdate_own _ rfl _ _ _ 64 rfl 9 3 lawStr Try.underlying64 _ mb (4 + k) D rfl O1.out hn4 _ _ _ rfl rfl HK.out _ [] HV.out ?_); intro w3 o3 g3; have M3 : Hid (MapI w3 mb (4 + (k + 1)) (typesStep ((p.datas.take k).foldl typesStep (putm given sArr 2)) d)) := hid ⟨_, o3, P1.out.1, P1.out.2⟩; have G3 := hid g3; clear o3 g3))
    clear e0 e1 e2 z0 z1 z2 z3
    go_roundw
    case rel => exact ⟨k + 1, by go_num, by omega, hid (below_map HBA.out G3.out (by omega)), hid (by rw [HTK.out]; exact M3.out)⟩
    case measure => simp [intOf]; omega
  · obtain rfl : k = p.datas.length := by omega
    go_wp2_with fail
    go_ret
    have := HM.out
    rw [List.take_length] at this
    exact ⟨mb, rfl, HB.out, by omega, this⟩
def conStep (i : Int) (m : Nm → Option C3) (ck : Px.Con × Nat) : Nm → Option C3 := putm m ck.1.name (i, (ck.2 : Int), (ck.1.fields.length : Int))
def consStep (m : Nm → Option C3) (dk : Px.Data × Nat) : Nm → Option C3 := dk.1.cons.zipIdx.foldl (conStep dk.2) m
def sFalse : Nm := [70, 97, 108, 115, 101]
def sTrue : Nm := [84, 114, 117, 101]
def cons0 : Nm → Option C3 := putm (putm (fun _ => none) sFalse (-1, 0, 0)) sTrue (-1, 1, 0)
def consTab (ds : List Px.Data) : Nm → Option C3 := ds.zipIdx.foldl consStep cons0
set_option maxHeartbeats 4000000 in
set_option maxRecDepth 100000 in
theorem cons_any (f : Nat) (p : Px.Prog) (v : Value) (w : World) (hp : ProgAt f w v p) (hw : (p.datas.map Sx.dw).sum ≤ 400000) :
 Calls Try.prog 11 #[v] w fun e w' => ∃ mb, e = .returned (.map (some mb)) ∧ Below w.heap.size w w' ∧ w.heap.size ≤ mb ∧ MapC w' mb (2 + (p.datas.map Sx.dw).sum) (consTab p.datas) := by
 obtain ⟨dv, fv, rfl, h1, h2⟩ := hp
 obtain ⟨q1, c1, rfl⟩ := h1.len
 obtain ⟨q2, c2, rfl⟩ := h2.len
 have HR := hid h1
 have HW := hid hw
 have hln : p.datas.length ≤ 400000 := Nat.le_trans (Sx.len_sum Sx.dw _ (fun x _ => by unfold Sx.dw; omega)) hw
 clear h1 h2 hw
 have K1 := hid (keyLit sFalse (by decide))
 have K2 := hid (keyLit sTrue (by decide))
 have hmm := @run_makeMap Try.prog
 go_enter Try.func11, Try.ntmps11
 have EP := hid (jI w #[.slice q1 p.datas.length c1, .slice q2 p.defs.length c2] 27)
 have HB := hid ((Below.refl w.heap.size w).alloc (Nat.le_refl _) (.cells #[.slice q1 p.datas.length c1, .slice q2 p.defs.length c2] 27))
 have hsz : w.heap.size + 1 ≤ (w.alloc (.cells #[.slice q1 p.datas.length c1, .slice q2 p.defs.length c2] 27)).heap.size := by simp
 go_upto_region 1 with fail
 generalize w.alloc (.cells #[.slice q1 p.datas.length c1, .slice q2 p.defs.length c2] 27) = w1 at EP HB hsz ⊢
 have H0 := hid (MapG.made (R := RCon) (enc := encK) w1)
 obtain ⟨D, o0, t0, n0⟩ := H0.out
 have O0 := hid o0
 have P1 := hid (mapg_put t0 n0 sFalse (-1, 0, 0))
 have P2 := hid (mapg_put P1.out.1 P1.out.2 sTrue (-1, 1, 0))
 have EP1 := hid (jH EP.out (.map #[] 0))
 have HB1 := hid (HB.out.alloc (by omega) (.map #[] 0))
 clear o0 t0 n0 EP HB
 go_wp2_with (first
  | (refine wpList_insert_own _ rfl _ _ _ 35 rfl 9 38 lawStr Try.underlying35 _ w1.heap.size 0 D rfl O0.out (by decide) _ _ _ rfl rfl K1.out _ [] (RCon_mk (-1, 0, 0)) ?_; intro w2 o2 g2; have O2 := hid o2; have G2' := hid g2; clear o2 g2)
  | (refine wpList_insert_own _ rfl _ _ _ 35 rfl 9 38 lawStr Try.underlying35 _ w1.heap.size 1 _ rfl O2.out (by decide) _ _ _ rfl rfl K2.out _ [] (RCon_mk (-1, 1, 0)) ?_; intro w3 o3 g3; have M3 : Hid (MapC w3 w1.heap.size 2 cons0) := hid ⟨_, o3, P2.out.1, P2.out.2⟩; have G3 := hid g3; have EP3 : Hid (w3.heap[w.heap.size]? = some (.cells #[.slice q1 p.datas.length c1, .slice q2 p.defs.length c2] 27 (0, 0))) := hid ((G3.out.block _ (by have := G2'.out.size; have := jK EP1.out; omega) (fun e => by have := Option.some.inj e; omega)).trans ((G2'.out.block _ (jK EP1.out) (fun e => by have := Option.some.inj e; omega)).trans EP1.out)); have e0 := jA EP3.out 0 _ rfl; clear o3 g3))
 have hmb : w.heap.size + 1 ≤ w1.heap.size := hsz
 have HB3 := hid (below_map (below_map HB1.out G2'.out (by omega)) G3.out (by omega))
 generalize w1.heap.size = mb at *
 clear e0 EP3 G3 G2' O2 HB1 EP1 P1 P2 O0 H0 K1 K2 hmm hsz
 go_loopw [15] (fun i wr => ∃ k : Nat, i = .int .i64 k ∧ k ≤ p.datas.length ∧ Hid (Below w.heap.size w wr) ∧ Hid (MapC wr mb (2 + ((p.datas.take k).map Sx.dw).sum) ((p.datas.zipIdx.take k).foldl consStep cons0))) (fun i _ => p.datas.length - (intOf i).toNat)
 case atStart => exact ⟨0, rfl, Nat.zero_le _, HB3, M3⟩
 case round =>
  clear HB3 M3
  obtain ⟨k, rfl, hk, HB, HM⟩ := hrel
  by_cases hlt : k < p.datas.length
  · obtain ⟨d, hd⟩ : ∃ d, p.datas[k]? = some d := ⟨_, List.getElem?_eq_getElem hlt⟩
    rcases HR.out with ⟨h0, _⟩ | ⟨g, of, c', hv, g1, g2, g3⟩
    · rw [h0] at hlt; simp at hlt
    injection hv with hq1 _ hq2
    subst hq1; subst hq2
    obtain ⟨u, hu, _, hcell⟩ := g3 k d hd
    obtain ⟨r0, s0, r1, s1, rfl, hp1, hp2⟩ := dataAt_sh hu
    have z0 := jE HB.out (hcell 0 _ rfl); have z1 := jE HB.out (hcell 1 _ rfl); have z2 := jE HB.out (hcell 2 _ rfl); have z3 := jE HB.out (hcell 3 _ rfl)
    simp only [Nat.add_zero] at z0
    have hk1 : (k : Int) < (p.datas.length : Int) := by omega
    have hk2 : (p.datas.length : Int) ≤ (c1 : Int) := by omega
    have hk3 := g2
    have HSK : Hid (((p.datas.take (k + 1)).map Sx.dw).sum = ((p.datas.take k).map Sx.dw).sum + Sx.dw d) := hid (by rw [List.take_add_one, hd]; simp)
    have hdw := Sx.sum_take Sx.dw p.datas k d hd
    have hdd : Sx.dw d = 1 + d.name.length + nw d.params + (d.cons.map Sx.cw).sum := rfl
    have hcl : d.cons.length ≤ (d.cons.map Sx.cw).sum := Sx.len_sum Sx.cw _ (fun x _ => by unfold Sx.cw; omega)
    have HNB : Hid (((p.datas.take k).map Sx.dw).sum + d.cons.length ≤ 400000 ∧ d.cons.length ≤ Sx.dw d ∧ (d.cons.map Sx.cw).sum ≤ 400000) := hid (by have := HW.out; omega)
    have HTK := hid (take_fold consStep p.datas.zipIdx k (d, k) (zip_at hd) cons0)
    have E4 := hid (jI wr #[.int .i64 d.pos, .string ⟨d.name.toArray⟩, .slice r0 d.params.length s0, .slice r1 d.cons.length s1] 44)
    have e3 := jA E4.out 3 _ rfl
    have HRC := hid hp2
    have hba := (Below.refl _ wr).alloc (Nat.le_refl _) (.cells #[.int .i64 d.pos, .string ⟨d.name.toArray⟩, .slice r0 d.params.length s0, .slice r1 d.cons.length s1] 44)
    have HBA := hid (HB.out.trans (hba.mono HB.out.size))
    have HMA := hid (HM.out.below hba)
    have hdc : d.cons.length ≤ 400000 := by have := HW.out; omega
    clear g1 g2 g3 hcell hu hd hdw hdd hcl hp1 hp2 hba HB HM
    go_wp2_with fail
    clear z0 z1 z2 z3 e3 E4
    generalize wr.alloc (.cells #[.int .i64 d.pos, .string ⟨d.name.toArray⟩, .slice r0 d.params.length s0, .slice r1 d.cons.length s1] 44) = wq at *
    go_loopw [23] (fun i wr => ∃ j : Nat, i = .int .i64 j ∧ j ≤ d.cons.length ∧ Hid (Below w.heap.size w wr) ∧ Hid (MapC wr mb (2 + ((p.datas.take k).map Sx.dw).sum + j) ((d.cons.zipIdx.take j).foldl (conStep (k : Int)) ((p.datas.zipIdx.take k).foldl consStep cons0)))) (fun i _ => d.cons.length - (intOf i).toNat)
    case atStart => exact ⟨0, rfl, Nat.zero_le _, HBA, HMA⟩
    case round =>
     clear HBA HMA
     obtain ⟨j, rfl, hj, HB, HM⟩ := hrel
     by_cases hltj : j < d.cons.length
     · obtain ⟨cn, hd⟩ : ∃ c, d.cons[j]? = some c := ⟨_, List.getElem?_eq_getElem hltj⟩
       rcases HRC.out with ⟨h0, _⟩ | ⟨g', of', c', hv, g1, g2, g3⟩
       · rw [h0] at hltj; simp at hltj
       injection hv with hq1 _ hq2
       subst hq1; subst hq2
       obtain ⟨u, hu, _, hcell⟩ := g3 j cn hd
       obtain ⟨r2, s2, rfl, hp1⟩ := conAt_sh hu
       have z0 := jE HB.out (hcell 0 _ rfl); have z1 := jE HB.out (hcell 1 _ rfl); have z2 := jE HB.out (hcell 2 _ rfl)
       simp only [Nat.add_zero] at z0
       have hj1 : (j : Int) < (d.cons.length : Int) := by omega
       have hj2 : (d.cons.length : Int) ≤ (s1 : Int) := by omega
       have hj3 := g2
       have hcw := Sx.sum_mem Sx.cw (List.mem_of_getElem? hd)
       have hcc : Sx.cw cn = 1 + cn.name.length + (cn.fields.map (Sx.tyw 50)).sum := rfl
       have hcn : cn.name.length ≤ 400000 := by have := HNB.out; omega
       have HTJ := hid (take_fold (conStep (k : Int)) d.cons.zipIdx j (cn, j) (zip_at hd) ((p.datas.zipIdx.take k).foldl consStep cons0))
       have E5 := hid (jI wr #[.int .i64 cn.pos, .string ⟨cn.name.toArray⟩, .slice r2 cn.fields.length s2] 47)
       have e1 := jA E5.out 1 _ rfl; have e2 := jA E5.out 2 _ rfl
       have hba := (Below.refl _ wr).alloc (Nat.le_refl _) (.cells #[.int .i64 cn.pos, .string ⟨cn.name.toArray⟩, .slice r2 cn.fields.length s2] 47)
       have HBC := hid (HB.out.trans (hba.mono HB.out.size))
       obtain ⟨D, o1, t1, n1⟩ := HM.out.below hba
       have O1 := hid o1
       have P1 := hid (mapg_put t1 n1 cn.name ((k : Int), (j : Int), (cn.fields.length : Int)))
       have HK := hid (keyLit cn.name (by unfold maxLen; omega))
       have HV := hid (RCon_mk ((k : Int), (j : Int), (cn.fields.length : Int)))
       have hn4 : 2 + ((p.datas.take k).map Sx.dw).sum + j < maxLen := by have := HNB.out; unfold maxLen; omega
       clear g1 g2 g3 hcell hu hd hcw hcc o1 t1 n1 hp1 hba
       go_wp2_with (first
        | (at_mapUpdate; (refine wpList_mapUpdate_own _ rfl _ _ _ 35 rfl 9 38 lawStr Try.underlying35 _ mb (2 + ((p.datas.take k).map Sx.dw).sum + j) D rfl O1.out hn4 _ _ _ rfl rfl HK.out _ [] HV.out ?_); intro w3 o3 g3; have M3 : Hid (MapC w3 mb (2 + ((p.datas.take k).map Sx.dw).sum + (j + 1)) (conStep (k : Int) ((d.cons.zipIdx.take j).foldl (conStep (k : Int)) ((p.datas.zipIdx.take k).foldl consStep cons0)) (cn, j))) := hid ⟨_, o3, P1.out.1, P1.out.2⟩; have G3 := hid g3; clear o3 g3))
       clear e1 e2 z0 z1 z2
       go_roundw
       case rel => exact ⟨j + 1, by go_num, by omega, hid (below_map HBC.out G3.out (by omega)), hid (by rw [HTJ.out]; exact M3.out)⟩
       case measure => simp [intOf]; omega
     · obtain rfl : j = d.cons.length := by omega
       have HE : Hid (MapC wr mb (2 + ((p.datas.take (k + 1)).map Sx.dw).sum) ((p.datas.zipIdx.take (k + 1)).foldl consStep cons0)) := by
        have h := HM.out
        rw [show d.cons.length = d.cons.zipIdx.length from by simp, List.take_length, List.length_zipIdx] at h
        refine hid ?_
        rw [HTK.out, HSK.out]
        exact h.mono (by have := HNB.out; omega)
       clear HM
       go_wp2_with fail
       go_roundw
       case rel => exact ⟨k + 1, by go_num, by omega, HB, HE⟩
       case measure => simp [intOf]; omega
  · obtain rfl : k = p.datas.length := by omega
    go_wp2_with fail
    go_ret
    have h := HM.out
    rw [List.take_length, show p.datas.length = p.datas.zipIdx.length from by simp, List.take_length] at h
    exact ⟨mb, rfl, HB.out, by omega, h⟩
end Go.Proofs.Ytgoacbomphlhjaa

namespace Go.Proofs.Ytgoacbomphlhjaa
open Go.Lib (hid)
open List renaming getElem_toArray → jX, getElem_cons_succ → jY, getElem_cons_zero → jZ, setIfInBounds_toArray → JA, set_cons_zero → JB, set_cons_succ → JC
open Go Go.RowKit
def hasN (l : List Nm) (s : Nm) : Bool := l.contains s
theorem contains_take {l : List Nm} {k : Nat} {x s : Nm} (h : l[k]? = some x) (hn : (l.take k).contains s = false) : (l.take (k + 1)).contains s = (x == s) := by
 rw [List.take_add_one, h]
 simp only [Option.toList_some, List.contains_eq_any_beq, List.any_append, List.any_cons, List.any_nil, Bool.or_false] at hn ⊢
 rw [hn, Bool.false_or, Bool.beq_comm]
theorem contains_of_take {l : List Nm} {k : Nat} {s : Nm} (h : (l.take k).contains s = true) : l.contains s = true := by
 simp only [List.contains_iff_mem] at h ⊢
 exact List.mem_of_mem_take h
set_option maxHeartbeats 1000000 in
theorem refHas_any (lv : Value) (l : List Nm) (s : Nm) (w : World) (hr : RowS w lv l) : Calls Try.prog 16 #[lv, .string ⟨s.toArray⟩] w fun e w' => e = .returned (.bool (hasN l s)) ∧ w' = w := by
 obtain ⟨q, cp, rfl⟩ := hr.len
 have HR := hid hr
 go_enter Try.func16, Try.ntmps16
 go_wp2_with fail
 go_loopw [4, 5] (fun _ i wr => ∃ k : Nat, i = .int .i64 k ∧ k ≤ l.length ∧ Hid ((l.take k).contains s = false) ∧ wr = w) (fun _ i _ => l.length - (intOf i).toNat)
 case atStart => exact ⟨0, rfl, Nat.zero_le _, hid (by simp), rfl⟩
 case round =>
  obtain ⟨k, rfl, hk, HN, rfl⟩ := hrel
  by_cases hlt : k < l.length
  · obtain ⟨x, hx⟩ : ∃ x, l[k]? = some x := ⟨_, List.getElem?_eq_getElem hlt⟩
    rcases HR.out with ⟨h0, _⟩ | ⟨g, of, c', hv, g1, g2, g3⟩
    · rw [h0] at hlt; simp at hlt
    injection hv with hq1 _ hq2
    subst hq1; subst hq2
    obtain ⟨u, hu, _, hcell⟩ := g3 k x hx
    have hu' : u = .string ⟨x.toArray⟩ := hu
    subst hu'
    have h0 := hcell 0 _ rfl
    simp only [Nat.mul_one, Nat.add_zero] at h0
    have hk1 : (k : Int) < (l.length : Int) := by omega
    have hk2 : (l.length : Int) ≤ (cp : Int) := by omega
    have HX := hid hx
    have hk3 := g2
    clear g1 g2 g3 hcell hu hx hr
    by_cases he : x = s
    · subst he
      have HC : Hid (hasN l x = true) := hid (contains_of_take (l := l) (k := k + 1) (s := x) (by rw [contains_take HX.out HN.out]; simp))
      go_wp2_with fail
      go_ret
      exact ⟨(by rw [HC.out]; rfl), rfl⟩
    · have HE := hid he
      have hne : (x == s) = false := beq_eq_false_iff_ne.2 he
      have ha : ¬ (⟨x.toArray⟩ : ByteArray) = ⟨s.toArray⟩ := arr_ne he
      clear he
      go_wp2_with fail
      go_roundw
      case rel => exact ⟨k + 1, by go_num, by omega, hid (by rw [contains_take HX.out HN.out, hne]), trivial⟩
      case measure => simp [intOf]; omega
  · obtain rfl : k = l.length := by omega
    go_wp2_with fail
    go_ret
    have := HN.out
    rw [List.take_length] at this
    exact ⟨(by rw [show hasN l s = false from this]; rfl), rfl⟩
theorem row_cell {α : Type} {rep : Value → α → Prop} {u : World} {ga : Nat} {v : Value} {T : TypeId} {fr : Nat × Nat} {x : α} (h : u.heap[ga]? = some (.cells #[v] T fr)) (hr : rep v x) (hs : v.cells = #[v]) : RowAt 1 rep u (.slice (some ⟨ga, 0, none⟩) 1 1) [x] := by
 refine .inr ⟨ga, 0, 1, rfl, Nat.le_refl _, by decide, fun i y hi => ?_⟩
 cases i with
 | zero =>
   simp at hi
   subst hi
   refine ⟨_, hr, by rw [hs]; rfl, fun j z hz => ?_⟩
   rw [show 0 + 0 * 1 + j = j from by omega]
   rw [hs] at hz
   exact jA h j z hz
 | succ i => simp at hi
/-- What both make: the names that a pattern binds. -/
def BoundC (F : FuncId) (f : Nat) : Prop := ∀ (p : Px.Pat) (v : Value) (w : World), PatAt f w v p → Sx.pw f p ≤ 400000 → Calls Try.prog F #[v] w (RNewS w (Sx.boundP f p))
theorem appd_grow {w0 w w' : World} {B base : Nat} {v v' : Value} {l l0 : List Nm} (h : Appd encS 9 w base v l v' w') (hown : OwnS w base v l0) (hb : Below B w0 w) (h1 : B ≤ w.heap.size) (h2 : B ≤ base) : Below B w0 w' ∧ OwnS w' base v' l :=
 ⟨h.below hown hb h1 h2, h.1⟩
set_option maxHeartbeats 4000000 in
theorem refBound_step (f : Nat) (ih : BoundC 53 f) : BoundC 53 (f + 1) := by
 intro p v w hp hw
 cases p with | mk k p nm i xs =>
 obtain ⟨av, rfl, hr⟩ := hp
 obtain ⟨q, cp, rfl⟩ := hr.len
 have HR := hid hr
 have HW : Hid ((xs.map (Sx.pw f)).sum ≤ 400000) := hid (by rw [Sx.pw] at hw; omega)
 clear hr hw
 go_enter Try.func53, Try.ntmps53
 have EP := hid (jI w #[.int .i64 k, .int .i64 p, .string ⟨nm.toArray⟩, .int .i64 i, .slice q xs.length cp] 94)
 have HB := hid ((Below.refl w.heap.size w).alloc (Nat.le_refl _) (.cells #[.int .i64 k, .int .i64 p, .string ⟨nm.toArray⟩, .int .i64 i, .slice q xs.length cp] 94))
 have hsz : w.heap.size + 1 ≤ (w.alloc (.cells #[.int .i64 k, .int .i64 p, .string ⟨nm.toArray⟩, .int .i64 i, .slice q xs.length cp] 94)).heap.size := by simp
 go_upto_region 1 with fail
 generalize w.alloc (.cells #[.int .i64 k, .int .i64 p, .string ⟨nm.toArray⟩, .int .i64 i, .slice q xs.length cp] 94) = w1 at EP HB hsz ⊢
 have e0 := jA EP.out 0 _ rfl; have e1 := jA EP.out 1 _ rfl; have e2 := jA EP.out 2 _ rfl; have e3 := jA EP.out 3 _ rfl; have e4 := jA EP.out 4 _ rfl
 by_cases hk : k = 1
 · have hki : (k : Int) = 1 := by omega
   have HN := hid (jI w1 #[.string ⟨nm.toArray⟩] 9)
   go_wp2_with fail
   go_ret
   refine ⟨_, rfl, HB.out.alloc (by omega) _, fun u hu => ?_⟩
   rw [Sx.boundP, if_pos hk]
   exact row_cell ((hu w1.heap.size (by omega) (by simp)).trans HN.out) rfl rfl
 · have hki : ((k : Int) == 1) = false := beq_eq_false_iff_ne.2 (by omega)
   clear e0 e1 e2 e3 e4
   have hbp : Sx.boundP (f + 1) (.mk k p nm i xs) = xs.flatMap (Sx.boundP f) := by rw [Sx.boundP, if_neg hk]
   have HBP := hid hbp
   clear hk
   have e0 := jA EP.out 0 _ rfl
   go_wp2_with fail
   clear e0 hbp hki
   go_loopw [3, 4] (fun v j wr => ∃ (m : Nat) (l : List Nm), j = .int .i64 m ∧ m ≤ xs.length ∧ Hid (l = (xs.take m).flatMap (Sx.boundP f)) ∧ Hid (OwnS wr (w.heap.size + 1) v l) ∧ Hid (wr.heap[w.heap.size]? = some (.cells #[.int .i64 k, .int .i64 p, .string ⟨nm.toArray⟩, .int .i64 i, .slice q xs.length cp] 94 (0, 0))) ∧ Hid (Below w.heap.size w wr)) (fun _ j _ => xs.length - (intOf j).toNat)
   case atStart => exact ⟨0, [], rfl, Nat.zero_le _, hid (by simp), hid (World.ownsRow_nil _ _ _ _), EP, HB⟩
   case round =>
    clear EP HB hsz
    obtain ⟨m, l, rfl, hm, HLE0, HO, EP, HB⟩ := hrel
    have hs1 := jK EP.out
    have e4 := jA EP.out 4 _ rfl
    by_cases hlt : m < xs.length
    · obtain ⟨y, hy⟩ : ∃ y, xs[m]? = some y := ⟨_, List.getElem?_eq_getElem hlt⟩
      rcases HR.out with ⟨h0, _⟩ | ⟨g, of, c', hv, g1, g2, g3⟩
      · rw [h0] at hlt; simp at hlt
      injection hv with hq1 _ hq2
      subst hq1; subst hq2
      obtain ⟨u, hu, _, hcell⟩ := g3 m y hy
      have hu2 := patAt_below hu HB.out
      obtain ⟨a0, a1, a2, a3, uq, un, uc, rfl⟩ := patAt_sh hu
      have c0 := jE HB.out (hcell 0 _ rfl); have c1 := jE HB.out (hcell 1 _ rfl); have c2 := jE HB.out (hcell 2 _ rfl); have c3 := jE HB.out (hcell 3 _ rfl); have c4 := jE HB.out (hcell 4 _ rfl)
      simp only [Nat.add_zero] at c0
      have hk1 : (m : Int) < (xs.length : Int) := by omega
      have hk2 : (xs.length : Int) ≤ (cp : Int) := by omega
      have hk3 := g2
      have hst := Sx.sum_take (Sx.pw f) xs m y hy
      have HST := hid hst
      have HT := hid (Sx.flat_take (Sx.boundP f) xs m y hy)
      have HIH := hid (ih y _ wr hu2 (by have := HW.out; omega))
      obtain ⟨va, ca, rfl⟩ := jF HO.out
      clear g1 g2 g3 hcell hu hy hu2 hst
      go_wp2_with fail
      clear e4 c0 c1 c2 c3 c4
      refine HIH.out.mono ?_
      rintro e w2 ⟨v2, rfl, hb, hnew⟩
      have HO2 := hid (jJ HO.out hb)
      have HN2 := hid hnew.now
      have HB2 := hid (HB.out.trans (hb.mono HB.out.size))
      have hs2 := hb.size
      replace EP := hid (jC EP.out hb)
      have hlen : l.length + (Sx.boundP f y).length ≤ 1000000000 := by
       rw [HLE0.out]
       have h1 := nw_len ((xs.take m).flatMap (Sx.boundP f))
       have h2 := Sx.nw_flat (Sx.boundP f) (Sx.pw f) (xs.take m) (fun x _ => Sx.nw_bound f x)
       have h3 := nw_len (Sx.boundP f y)
       have h4 := Sx.nw_bound f y
       have := HST.out; have := HW.out; omega
      have HLE := hid hlen
      clear hb hnew HIH hlen HB HO
      go_wp2_with (at_builtin; refine list_app_s rfl (.tmp 18) (.tmp 24) rfl (w.heap.size + 1) _ _ rfl HO2.out _ rfl _ HN2.out HLE.out (by omega) ?_)
      intro v3 w3 happ
      obtain ⟨p3, q3, rfl⟩ := jF happ.1
      obtain ⟨hb3, ho3⟩ := appd_grow happ HO2.out HB2.out (by omega) (by omega)
      have HB3 := hid hb3
      have HO3 := hid ho3
      have HT3 : Hid (l ++ Sx.boundP f y = (xs.take (m + 1)).flatMap (Sx.boundP f)) := hid (by rw [HT.out, HLE0.out])
      obtain ⟨l3, hl3⟩ : ∃ l3, l3 = l ++ Sx.boundP f y := ⟨_, rfl⟩
      rw [← hl3] at HO3 HT3 ⊢
      clear hl3
      replace EP := hid (happ.at HO2.out EP.out (by omega))
      clear happ hb3 ho3
      go_wp2
      go_roundw
      case rel => exact ⟨m + 1, l3, by go_num, by omega, HT3, HO3, EP, HB3⟩
      case measure => simp [intOf]; omega
    · obtain rfl : m = xs.length := by omega
      obtain ⟨va, ca, rfl⟩ := jF HO.out
      go_wp2_with fail
      go_ret
      have he := HLE0.out
      rw [List.take_length] at he
      rw [HBP.out, ← he]
      exact ⟨_, rfl, HB.out, newS_own HO.out rfl (by omega)⟩
theorem refBound_any : ∀ f, BoundC 53 f
 | 0 => fun p v w hp => hp.elim
 | f + 1 => refBound_step f (refBound_any f)
end Go.Proofs.Ytgoacbomphlhjaa
