import Derived.Test.YtlnjdclmopblcaaDoorI11
import Derived.Deep.QuietTactic
import Derived.BigQuiet
import Derived.Deep.CutBlock
set_option linter.unusedVariables false
set_option linter.unusedSimpArgs false
set_option maxHeartbeats 40000000
set_option maxRecDepth 100000
namespace Go.Proofs.YtlnjdclmopblcaaDoor
open Go Go.RowKit
open Go.Lib (hid)
namespace Px
open Lx (Tok)
def xU (ds : List Data) (fs : List Def) : R Prog -> R Prog
 | .error p => .error p
 | .ok q => .ok ⟨ds ++ q.jF, fs ++ q.defs⟩
theorem lZ (ds : List Data) (fs : List Def) (d : Data) (r : R Prog) : xU ds fs (match r with | .error p => .error p | .ok q => .ok ⟨d :: q.jF, q.defs⟩) = xU (ds ++ [d]) fs r := by
 cases r with
 | error p => rfl
 | ok q => simp [xU]
theorem ng (ds : List Data) (fs : List Def) (d : Def) (r : R Prog) : xU ds fs (match r with | .error p => .error p | .ok q => .ok ⟨q.jF, d :: q.defs⟩) = xU ds (fs ++ [d]) r := by
 cases r with
 | error p => rfl
 | ok q => simp [xU]
theorem lg (stop f c : Nat) (ts : List Tok) (hne : 0 < ts.length) (n : Node) (ts' : List Tok) (h : node stop (2 * ts.length + 2) 0 ts = .ok (n, ts')) : prog stop (f + 1) c ts =
 (if c = 100 then .error n.pos
   else if word n = [100, 97, 116, 97] then
    match data 50 n with
    | .error p => .error p
    | .ok d => match prog stop f (c + 1) ts' with
      | .error p => .error p
      | .ok q => .ok ⟨d :: q.jF, q.defs⟩
   else if word n = [100, 101, 102] then
    match defn 50 n with
    | .error p => .error p
    | .ok d => match prog stop f (c + 1) ts' with
      | .error p => .error p
      | .ok q => .ok ⟨q.jF, d :: q.defs⟩
   else .error n.pos) := by
 cases ts with
 | nil => simp at hne
 | cons t ts => rw [gI, h]; rfl
theorem lu (stop f c : Nat) (ts : List Tok) (hne : 0 < ts.length) (p : Nat) (h : node stop (2 * ts.length + 2) 0 ts = .error p) : prog stop (f + 1) c ts = .error p := by
 cases ts with
 | nil => simp at hne
 | cons t ts => rw [gI, h]
theorem Dk (l : List UInt8) (ts : List Tok) (h0 : l.length <= 4096) (ht : Lx.toks (l.length + 1) 0 l = (ts, none)) : program l = (match prog l.length (ts.length + 1) 0 ts with | .error p => .parse p | .ok x => .done x) := by
 unfold program parsed; rw [if_neg (by omega), ht]; dsimp only; cases prog l.length (ts.length + 1) 0 ts <;> rfl
theorem Dl {α : Type} (rd : Nat -> List Tok -> R α) (l : List UInt8) (q : Nat) (h0 : l.length <= 4096) (ht : (Lx.toks (l.length + 1) 0 l).2 = some q) : parsed rd l = .lex q := by
 unfold parsed; rw [if_neg (by omega)]; cases h : Lx.toks (l.length + 1) 0 l with
 | mk a b => rw [h] at ht; simp only at ht; subst ht; rfl
theorem bL {α : Type} (rd : Nat -> List Tok -> R α) (l : List UInt8) (h0 : 4096 < l.length) : parsed rd l = .lex 4096 := by
 unfold parsed; rw [if_pos h0]
end Px
def ZZ (f : Nat) (u : World) (v : Value) (x : Px.Prog) : Prop := ∃ dv fv, v = .agg #[dv, fv] /\ JO 4 (Uq f u) u dv x.jF /\ JO 10 (ZC f u) u fv x.defs
def ni (v : Value) : Prop := ∃ (q1 : Option Addr) (n1 c1 : Nat) (q2 : Option Addr) (n2 c2 : Nat), v = .agg #[.slice q1 n1 c1, .slice q2 n2 c2]
def RN {α : Type} (w : World) (Js : World -> Value -> α -> Prop) (sh : Value -> Prop) (r : Px.Outcome α) (e : Ending) (w' : World) : Prop :=
 Below w.heap.size w w' /\ ∃ v p c, e = .returned (.tuple #[v, .int .i64 p, .int .i64 c]) /\ sh v /\ (match r with | .lex q => p = (q : Int) /\ c = 2 | .parse q => p = (q : Int) /\ c = 3 | .done x => p = -1 /\ c = 0 /\ New Js w w' v x)
theorem bM {α : Type} {w w' : World} {Js : World -> Value -> α -> Prop} {sh : Value -> Prop} {r : Px.Outcome α} {q : Nat} {v : Value} (hr : r = .lex q) (hb : Below w.heap.size w w') (hs : sh v) : RN w Js sh r (.returned (.tuple #[v, .int .i64 (q : Int), .int .i64 2])) w' := by
 subst hr; exact ⟨hb, v, q, 2, rfl, hs, rfl, rfl⟩
theorem YM {α : Type} {w w' : World} {Js : World -> Value -> α -> Prop} {sh : Value -> Prop} {r : Px.Outcome α} {q : Nat} {v : Value} (hr : r = .parse q) (hb : Below w.heap.size w w') (hs : sh v) : RN w Js sh r (.returned (.tuple #[v, .int .i64 (q : Int), .int .i64 3])) w' := by
 subst hr; exact ⟨hb, v, q, 3, rfl, hs, rfl, rfl⟩
theorem l8 {α : Type} {w w' : World} {Js : World -> Value -> α -> Prop} {sh : Value -> Prop} {r : Px.Outcome α} {x : α} {v : Value} (hr : r = .done x) (hb : Below w.heap.size w w') (hs : sh v) (hn : New Js w w' v x) : RN w Js sh r (.returned (.tuple #[v, .int .i64 (-1), .int .i64 0])) w' := by
 subst hr; exact ⟨hb, v, -1, 0, rfl, hs, rfl, rfl, hn⟩
theorem Dm {w : World} {base : Nat} {v : Value} {ts : List Lx.Tok} (h : w.ownsRow base 70 4 v ts.length (Qo ts)) : Ym w v ts := by
 by_cases hne : ts = []
 . subst hne; obtain ⟨p, c, rfl⟩ := jH h; exact .inl ⟨rfl, p, c, rfl⟩
 . obtain ⟨g, cap, rfl, _, _, h1, h2, h3⟩ := mf h hne; refine .inr ⟨g, 0, cap, rfl, h1, h2, fun i t ht => ⟨_, rfl, rfl, fun j z hz => ?_⟩⟩; obtain ⟨a0, a1, a2, a3⟩ := h3 i t ht; have e : (⟨g, 0 + i * 4 + j, none⟩ : Addr) = ⟨g, i * 4 + j, none⟩ := by congr 1; omega
   rw [e]; have hj : j < 4 := (JW.1 hz).1; have hz' : (#[Value.int .i64 t.kind, .int .i64 t.pos, .string ⟨t.text.toArray⟩, .int .i64 t.int] : Array Value)[j]? = some z := hz
   match j, hj, hz' with
   | 0, _, h => simp at h; subst h; exact a0
   | 1, _, h => simp at h; subst h; exact a1
   | 2, _, h => simp at h; subst h; exact a2
   | 3, _, h => simp at h; subst h; exact a3
theorem bN : (Tryd.prog.info? 56).map (fun i => (i.zero, i.size, i.bytes)) = some (some (.agg #[.int .i64 0, .string ⟨#[]⟩, .slice none 0 0, .slice none 0 0]), 4, 72) := by kernel_rfl
theorem fC : (Tryd.prog.info? 40).map (fun i => (i.zero, i.size, i.bytes)) = some (some (.agg #[.int .i64 0, .string ⟨#[]⟩, .slice none 0 0, .int .i64 0, .int .i64 0, .string ⟨#[]⟩, .int .i64 0, .slice none 0 0, .slice none 0 0, .slice none 0 0]), 10, 160) := by kernel_rfl
theorem UC (l : List UInt8) (w : World) (hm : l.length <= 1000000) : Calls Tryd.prog 11 #[.string ⟨l.toArray⟩] w (RN w (ZZ 50) ni (Px.program l)) := by
 have HT := hid (fun w => Xp l w hm); go_enter Tryd.func11, Tryd.ntmps11; obtain ⟨er, eo, hb, hsz⟩ := lS w #[.slice none 0 0, .slice none 0 0] #[.slice none 0 0, .slice none 0 0] 26 26; have ER := hid er; have EO := hid eo; have HB := hid hb
 replace hsz : w.heap.size + 2 <= _ := JS hsz.symm; clear er eo hb; go_wp2_with fail; generalize (w.alloc (.cells #[.slice none 0 0, .slice none 0 0] 26)).alloc (.cells #[.slice none 0 0, .slice none 0 0] 26) = w0 at ER EO HB hsz ⊢; refine (HT.out w0).mono ?_; rintro e w1 ⟨tv, ts, tp, tc, rfl, hb, hown, hcase⟩; have vW := hid (Dm hown); have IJ := hid hown; replace hsz := bS hsz hb; replace ER := bE ER hb; replace EO := bE EO hb; replace HB := bT HB hb; clear hb; obtain ⟨tq, jEX, rfl⟩ := jH hown; clear hown
 rcases hcase with ⟨hl, rfl, rfl, rfl⟩ | ⟨h0, q, hq, rfl, rfl, rfl⟩ | ⟨h0, hq, rfl, rfl⟩
 . skip
   have HP := hid (show Px.program l = .lex 4096 from Px.bL _ l hl); clear hl
   obtain ⟨J3, J4, Qx⟩ := xF2 ER; obtain ⟨bO, bP⟩ := xQ2 EO; go_wp2_with fail; replace ER := hid (xP2 ER.out (.slice none 0 0) (.slice none 0 0)); replace HB := xS HB ER; obtain ⟨r0, r1⟩ := xQ2 ER; refine jG (v := .tuple #[.agg #[.slice none 0 0, .slice none 0 0], .int .i64 4096, .int .i64 2]) (by simp [results, Tryd.results11, go_sem, r0, r1]) rfl ?_; exact bM (q := 4096) HP HB ⟨_, _, _, _, _, _, rfl⟩
 . skip
   have HP := hid (show Px.program l = .lex q from Px.Dl _ l q h0 hq); clear h0 hq
   have hge : (q : Int) >= 0 := by omega
   obtain ⟨J3, J4, Qx⟩ := xF2 ER; obtain ⟨bO, bP⟩ := xQ2 EO; go_wp2_with fail; replace ER := hid (xP2 ER.out (.slice none 0 0) (.slice none 0 0)); replace HB := xS HB ER; obtain ⟨r0, r1⟩ := xQ2 ER; refine jG (v := .tuple #[.agg #[.slice none 0 0, .slice none 0 0], .int .i64 q, .int .i64 2]) (by simp [results, Tryd.results11, go_sem, r0, r1]) rfl ?_; exact bM HP HB ⟨_, _, _, _, _, _, rfl⟩
 . skip
   have hlen : ts.length <= l.length := by have := Lx.mo (l.length + 1) 0 l; rw [hq] at this; exact this
   have hok : ∀ t ∈ ts, Px.MJ t := by have := Px.Gh (l.length + 1) 0 l; rw [hq] at this; exact this
   have Qh := hid hok; have HQ := hid hq; have Yd := hid (show ts.length <= 1000000 by omega); have UD := hid h0; clear hok hq h0; have Ch := hid (Px.Dk l ts UD.out HQ.out); clear HQ UD IJ; obtain ⟨bO, bP, eof⟩ := xF2 EO; go_upto_region 6 with fail
   clear bO bP eof; replace ER := hid (JA ER (.cells #[.slice none 0 0, .slice none 0 0] 26)); replace EO := aO EO ER; replace HB := aB HB ER; have HB1 := hid (show Below w1.heap.size w1 (w1.alloc (.cells #[.slice none 0 0, .slice none 0 0] 26)) from (jD _ _).alloc (jB _) _); have hin := nS (α := Px.Data) (β := Px.Def) (E1 := 56) (s1 := 4) (r1 := Uq 50) (E2 := 40) (s2 := 10) (r2 := ZC 50) (jb w1 #[.slice none 0 0, .slice none 0 0] 26); generalize w1.alloc (.cells #[.slice none 0 0, .slice none 0 0] 26) = W5 at ER EO HB HB1 hin ⊢; have xQ := hid hin; have Xi := ER; have IK := EO; have HB0 := HB
   clear hin ER EO HB; have hpre : Px.prog l.length (ts.length + 1) 0 ts = Px.xU [] [] (Px.prog l.length (ts.length + 1) 0 (ts.drop 0)) := by rw [List.drop_zero]; cases Px.prog l.length (ts.length + 1) 0 ts <;> rfl
   have IL := hid hpre; clear hpre
   go_wp2_with fail
   go_loopw [3, 4, 9, 10, 11, 12, 13, 14, 15, 16, 62, 80] (fun _ _ k _ _ _ _ _ _ _ _ _ wr => ∃ (i f : Nat) (a b : Value) (va vb : List Value) (xa : List Px.Data) (xb : List Px.Def), k = .int .i64 (i : Nat) /\ i <= ts.length /\ ts.length - i < f /\ Hid (Px.prog l.length (ts.length + 1) 0 ts = Px.xU xa xb (Px.prog l.length f (xa.length + xb.length) (ts.drop i))) /\ xa.length + xb.length <= 100 /\ Hid (G2 56 4 (Uq 50) 40 10 (ZC 50) W5 w1.heap.size 26 #[a, b] (a) (b) (xa.length) (xb.length) (va) (vb) (va) (vb) (xa) (xb) [] wr)) (fun _ _ k _ _ _ _ _ _ _ _ _ _ => ts.length - (intOf k).toNat)
   case atStart => exact ⟨0, ts.length + 1, _, _, [], [], [], [], rfl, jh _, by omega, IL, by simp, xQ⟩
   case round =>
    clear xQ IL; obtain ⟨i, f, a, b, va, vb, xa, xb, rfl, hi, hf, vV, hc, TWO⟩ := hrel; by_cases hlt : i < ts.length
    . skip
      obtain ⟨f, rfl⟩ : ∃ g, f = g + 1 := ⟨f - 1, by omega⟩
      have hdl : 0 < (ts.drop i).length := by rw [ja]; omega
      have IM := hid hdl; clear hdl
      have hrow := vW.out.mono (HB1.out.trans TWO.out.low) (fun _ _ _ h => h); have HN := hid (lY l.length ts Yd (2 * (ts.drop i).length + 2) 0 i _ wr hrow (by omega) (by rw [ja]; omega)); clear hrow; go_wp2_with fail; refine HN.out.mono ?_; rintro e w2 ⟨hb, v, nx, kk, rfl, ⟨zk, zp, zs, zi, zb, zq, zn, zc, rfl⟩, hm⟩; cases hnd : Px.node l.length (2 * (ts.drop i).length + 2) 0 (ts.drop i) with
      | error p =>
        rw [hnd] at hm; obtain rfl : kk = (p : Int) := hm; have hge : (p : Int) >= 0 := by omega
        have HX := hid (Px.lu l.length f (xa.length + xb.length) _ IM.out p hnd); replace TWO := hid ((TWO.out.below hb).alloc #[.int .i64 zk, .int .i64 zp, .string zs, .int .i64 zi, .bool zb, .slice zq zn zc] 73); clear hnd hb; have ER := hid (qV TWO.out.low Xi (by omega)); have EO := hid (qV TWO.out.low IK (by omega)); have HB := hid (HB0.out.trans (TWO.out.low.mono (by omega))); obtain ⟨J3, J4, Qx⟩ := xF2 ER; obtain ⟨bO, bP⟩ := xQ2 EO; go_wp2_with fail; replace ER := hid (xP2 ER.out (.slice none 0 0) (.slice none 0 0)); replace HB := xS HB ER; obtain ⟨r0, r1⟩ := xQ2 ER; refine jG (v := .tuple #[.agg #[.slice none 0 0, .slice none 0 0], .int .i64 p, .int .i64 3]) (by simp [results, Tryd.results11, go_sem, r0, r1]) rfl ?_; exact YM (by rw [Ch.out, vV.out, HX.out]; rfl) HB ⟨_, _, _, _, _, _, rfl⟩
      | ok r =>
        obtain ⟨m, ts'⟩ := r; rw [hnd] at hm; obtain ⟨rfl, j, rfl, hj, rfl, hnew⟩ := hm; have hmore := ((Px.Vh l.length l.length (2 * (ts.drop i).length + 2) 0 (ts.drop i)).1 m (ts.drop j) hnd).2.2.1; rw [ja, ja] at hmore; have hgood := ((Px.Uc l.length (2 * (ts.drop i).length + 2) 0 (ts.drop i) (fun t ht => Qh.out t (UY ht))).1 m (ts.drop j) hnd).1; have HG := hid hgood; have HST := hid (Px.lg l.length f (xa.length + xb.length) _ IM.out m _ hnd); have IP := hnew.now; have HV := hid IP; obtain ⟨jHR, hmv, hmr⟩ := IP; obtain ⟨mq, mc, rfl⟩ := hmr.len; unfold nV at hmv; simp only [Y5, Z0, zh, dE, Value.int.injEq, Value.string.injEq, Value.bool.injEq, true_and] at hmv; obtain ⟨rfl, rfl, rfl, rfl, rfl, hsl⟩ := hmv
        injection hsl with h1 h2 h3
        subst h1; subst h2; subst h3
        have hij : i < j := by omega
        replace TWO := hid ((TWO.out.below hb).alloc #[.int .i64 m.tok.kind, .int .i64 m.tok.pos, .string ⟨m.tok.text.toArray⟩, .int .i64 m.tok.int, .bool (Px.jR m), .slice zq m.list.length zc] 73); have HB2 := hid (show Below w2.heap.size w2 (w2.alloc (.cells #[.int .i64 m.tok.kind, .int .i64 m.tok.pos, .string ⟨m.tok.text.toArray⟩, .int .i64 m.tok.int, .bool (Px.jR m), .slice zq m.list.length zc] 73)) from (jD _ _).alloc (jB _) _); replace HV := hid (HV.out.below HB2.out); clear hnd hb hnew hmr hgood hmore HN HB2; obtain ⟨gb, hgb⟩ : ∃ gb, gb = w2.heap.size := ⟨_, rfl⟩
        go_upto_region 9 with fail
        rw [<- hgb] at TWO; rw [<- hgb]; generalize w2.alloc (.cells #[.int .i64 m.tok.kind, .int .i64 m.tok.pos, .string ⟨m.tok.text.toArray⟩, .int .i64 m.tok.int, .bool (Px.jR m), .slice zq m.list.length zc] 73) = w3 at TWO HV ⊢; clear hgb; obtain ⟨pa, ca, rfl⟩ := jH TWO.out.oa; obtain ⟨pb, cb, rfl⟩ := jH TWO.out.ob; have bQ := hid TWO.out.et; obtain ⟨nu, ny, tf⟩ := xF2 bQ; by_cases IQ : xa.length + xb.length = 100
        . skip
          have IU : ((xa.length : Nat) : Int) + (xb.length : Int) >= 100 := by omega
          have HX := hid (HST.out.trans (if_pos IQ)); go_wp2_with fail; clear bQ nu ny tf; have ER := hid (qV TWO.out.low Xi (by omega)); have EO := hid (qV TWO.out.low IK (by omega)); have HB := hid (HB0.out.trans (TWO.out.low.mono (by omega))); have EB := hid (TWO.out.bx _ (List.Mem.head _)).2.1; have bc1 := xK EB 1 rfl; have hbe := (TWO.out.bx _ (List.Mem.head _)).1
          dsimp only at hbe
          obtain ⟨J3, J4, Qx⟩ := xF2 ER; obtain ⟨bO, bP⟩ := xQ2 EO
          go_region
          all_goals (try go_wp2_with fail)
          replace ER := hid (xP2 ER.out (.slice none 0 0) (.slice none 0 0)); replace HB := xS HB ER; replace ER := qM ER; replace HB := hid (HB.out.drew); obtain ⟨r0, r1⟩ := xQ2 ER; refine jG (v := .tuple #[.agg #[.slice none 0 0, .slice none 0 0], .int .i64 m.tok.pos, .int .i64 3]) (by simp [results, Tryd.results11, go_sem, r0, r1]) rfl ?_; exact YM (q := m.pos) (by rw [Ch.out, vV.out, HX.out]; rfl) HB ⟨_, _, _, _, _, _, rfl⟩
        . skip
          have IU : ¬ ((xa.length : Nat) : Int) + (xb.length : Int) >= 100 := by omega
          replace HST := hid (HST.out.trans (if_neg IQ)); have EB := hid (TWO.out.bx _ (List.Mem.head _)).2.1; obtain ⟨bc0, bc1, bc2, bc3, Xj, Xk, bf⟩ := xF6 EB; go_wp2_with fail; clear bQ nu ny tf; clear EB bc0 bc1 bc2 bc3 Xj Xk bf; have Xq := hid (fun (w1 : World) (v : Value) (h : Qw 41 w1 v m) (s : List UInt8) (hne : s ≠ []) (hs : ¬ Px.Plain s) (hk : (Lx.Jp s).1 = 3) => (VC 41 m v s w1 h).mono (fun e w' h => by rw [Px.head_eq HG s hne hs hk] at h; exact h)); refine (Xq.out _ _ HV.out [100, 97, 116, 97] (by decide) (by unfold Px.Plain; decide) (by decide)).mono ?_; rintro e w4 ⟨rfl, hb⟩; replace TWO := hid (TWO.out.below hb); replace HV := hid (HV.out.below hb); clear hb; by_cases hd : Px.word m = [100, 97, 116, 97]
          . skip
            rw [JL hd]; replace HST := hid (HST.out.trans (if_pos hd)); clear hd Xq
            have EB := hid (TWO.out.bx _ (List.Mem.head _)).2.1; obtain ⟨bc0, bc1, bc2, bc3, Xj, Xk, bf⟩ := xF6 EB; go_wp2_with fail; clear EB bc0 bc1 bc2 bc3 Xj Xk bf; refine (nW 40 (by omega) m _ _ HV HG).mono ?_; intro e w6 ht; cases hx : Px.data 50 m with
            | error p =>
              obtain ⟨z, rfl, ⟨yp, yz, Q6, Q7, Q8, zH, zI, zJ, rfl⟩, hb⟩ := Jb ht hx; have hge : (p : Int) >= 0 := by omega
              have HX := hid (show _ = Except.error p from HST.out.trans (by rw [hx])); replace TWO := hid ((TWO.out.below hb).alloc #[.int .i64 yp, .string yz, .slice Q6 Q7 Q8, .slice zH zI zJ] 56); clear hx hb ht; have ER := hid (qV TWO.out.low Xi (by omega)); have EO := hid (qV TWO.out.low IK (by omega)); have HB := hid (HB0.out.trans (TWO.out.low.mono (by omega))); obtain ⟨J3, J4, Qx⟩ := xF2 ER; obtain ⟨bO, bP⟩ := xQ2 EO; go_wp2_with fail; replace ER := hid (xP2 ER.out (.slice none 0 0) (.slice none 0 0)); replace HB := xS HB ER; obtain ⟨r0, r1⟩ := xQ2 ER; refine jG (v := .tuple #[.agg #[.slice none 0 0, .slice none 0 0], .int .i64 p, .int .i64 3]) (by simp [results, Tryd.results11, go_sem, r0, r1]) rfl ?_; exact YM (by rw [Ch.out, vV.out, HX.out]; rfl) HB ⟨_, _, _, _, _, _, rfl⟩
            | ok d =>
              obtain ⟨z, rfl, ⟨yp, yz, Q6, Q7, Q8, zH, zI, zJ, rfl⟩, hnew, hb⟩ := Jm ht hx; have hks := TWO.out.since hnew; replace TWO := hid (((TWO.out.below hb).rf hks rfl).alloc #[.int .i64 yp, .string yz, .slice Q6 Q7 Q8, .slice zH zI zJ] 56); have dX : Hid (Px.prog l.length (ts.length + 1) 0 ts = Px.xU (xa ++ [d]) xb (Px.prog l.length f ((xa ++ [d]).length + xb.length) (ts.drop j))) := hid (by rw [vV.out, HST.out, hx]; dsimp only; rw [Px.lZ]; congr 2; rw [jE]; simp; omega); clear hx hb ht hnew hks; go_upto_region 19 with fail
              obtain ⟨gz, hgz⟩ : ∃ gz, gz = w6.heap.size := ⟨_, rfl⟩
              rw [<- hgz] at TWO; rw [<- hgz]; generalize w6.alloc (.cells #[.int .i64 yp, .string yz, .slice Q6 Q7 Q8, .slice zH zI zJ] 56) = w7 at TWO ⊢; clear hgz; have bQ := hid TWO.out.et; obtain ⟨nu, ny, tf⟩ := xF2 bQ; have EZ := hid (TWO.out.bx _ (List.Mem.head _)).2.1; obtain ⟨tY, tZ, tu, IB⟩ := xQ4 EZ; go_wp2_with (at_builtin; refine G2.bJ (TWO.out.alloc #[.int .i64 yp, .string yz, .slice Q6 Q7 Q8, .slice zH zI zJ] 56) (by decide) 23 Tryd.underlying23 bN rfl (by decide) (by decide) (gb := w7.heap.size) (List.Mem.head _) rfl (by simp [Value.oneCell']) (by omega) rfl (.tmp 75) (.tmp 77) rfl rfl rfl ?_); intro v6 w8 h6; clear bQ nu ny tf; clear EZ tY tZ tu IB; obtain ⟨pc, cc, rfl⟩ := jH h6.oa; have T2 := hid (h6.only (M := []) (fun b hb => by cases hb)); clear h6
              replace TWO := T2; clear T2
              have bQ := hid TWO.out.et; obtain ⟨nu, ny, tf⟩ := xF2 bQ; go_wp2_with fail; clear bQ nu ny tf; have T3 := hid (TWO.out.st 0 (.slice pc (xa.length + 1) cc) #[.slice pc (xa.length + 1) cc, .slice pb xb.length cb] rfl)
              go_roundw
              case rel => exact ⟨j, f, _, _, va ++ [.agg #[.int .i64 yp, .string yz, .slice Q6 Q7 Q8, .slice zH zI zJ]], vb, xa ++ [d], xb, rfl, hj, by omega, dX, by rw [jE]; simp; omega, hid (by rw [show (xa ++ [d]).length = xa.length + 1 from by simp]; exact T3.out)⟩
              case measure => simp [intOf]; omega
          . skip
            rw [jl hd]; replace HST := hid (HST.out.trans (if_neg hd)); clear hd
            have EB := hid (TWO.out.bx _ (List.Mem.head _)).2.1; obtain ⟨bc0, bc1, bc2, bc3, Xj, Xk, bf⟩ := xF6 EB; go_wp2_with fail; clear EB bc0 bc1 bc2 bc3 Xj Xk bf; refine (Xq.out _ _ HV.out [100, 101, 102] (by decide) (by unfold Px.Plain; decide) (by decide)).mono ?_; rintro e w5 ⟨rfl, hb⟩; replace TWO := hid (TWO.out.below hb); replace HV := hid (HV.out.below hb); clear hb; by_cases hd : Px.word m = [100, 101, 102]
            . skip
              rw [JL hd]; replace HST := hid (HST.out.trans (if_pos hd)); clear hd Xq
              have EB := hid (TWO.out.bx _ (List.Mem.head _)).2.1; obtain ⟨bc0, bc1, bc2, bc3, Xj, Xk, bf⟩ := xF6 EB; go_wp2_with fail; clear EB bc0 bc1 bc2 bc3 Xj Xk bf; refine (RH 40 (by omega) m _ _ HV HG).mono ?_; intro e w6 ht; cases hx : Px.defn 50 m with
              | error p =>
                obtain ⟨z, rfl, ⟨yp, yz, Ci, Cj, Ck, yk, Cm, Cn, yi, Q6, Q7, Q8, zH, zI, zJ, zX, zY, zZ, rfl⟩, hb⟩ := Jb ht hx; have hge : (p : Int) >= 0 := by omega
                have HX := hid (show _ = Except.error p from HST.out.trans (by rw [hx])); replace TWO := hid ((TWO.out.below hb).alloc #[.int .i64 yp, .string yz, .slice Ci Cj Ck, .int .i64 yk, .int .i64 Cm, .string Cn, .int .i64 yi, .slice Q6 Q7 Q8, .slice zH zI zJ, .slice zX zY zZ] 40); clear hx hb ht; have ER := hid (qV TWO.out.low Xi (by omega)); have EO := hid (qV TWO.out.low IK (by omega)); have HB := hid (HB0.out.trans (TWO.out.low.mono (by omega))); obtain ⟨J3, J4, Qx⟩ := xF2 ER; obtain ⟨bO, bP⟩ := xQ2 EO; go_wp2_with fail; replace ER := hid (xP2 ER.out (.slice none 0 0) (.slice none 0 0)); replace HB := xS HB ER; obtain ⟨r0, r1⟩ := xQ2 ER; refine jG (v := .tuple #[.agg #[.slice none 0 0, .slice none 0 0], .int .i64 p, .int .i64 3]) (by simp [results, Tryd.results11, go_sem, r0, r1]) rfl ?_; exact YM (by rw [Ch.out, vV.out, HX.out]; rfl) HB ⟨_, _, _, _, _, _, rfl⟩
              | ok d =>
                obtain ⟨z, rfl, ⟨yp, yz, Ci, Cj, Ck, yk, Cm, Cn, yi, Q6, Q7, Q8, zH, zI, zJ, zX, zY, zZ, rfl⟩, hnew, hb⟩ := Jm ht hx; have hks := TWO.out.since hnew; replace TWO := hid (((TWO.out.below hb).aJ hks rfl).alloc #[.int .i64 yp, .string yz, .slice Ci Cj Ck, .int .i64 yk, .int .i64 Cm, .string Cn, .int .i64 yi, .slice Q6 Q7 Q8, .slice zH zI zJ, .slice zX zY zZ] 40); have dX : Hid (Px.prog l.length (ts.length + 1) 0 ts = Px.xU xa (xb ++ [d]) (Px.prog l.length f (xa.length + (xb ++ [d]).length) (ts.drop j))) := hid (by rw [vV.out, HST.out, hx]; dsimp only; rw [Px.ng]; congr 2; rw [jE, <- Nat.add_assoc]; rfl); clear hx hb ht hnew hks; go_upto_region 24 with fail
                obtain ⟨gz, hgz⟩ : ∃ gz, gz = w6.heap.size := ⟨_, rfl⟩
                rw [<- hgz] at TWO; rw [<- hgz]; generalize w6.alloc (.cells #[.int .i64 yp, .string yz, .slice Ci Cj Ck, .int .i64 yk, .int .i64 Cm, .string Cn, .int .i64 yi, .slice Q6 Q7 Q8, .slice zH zI zJ, .slice zX zY zZ] 40) = w7 at TWO ⊢; clear hgz; have bQ := hid TWO.out.et; obtain ⟨nu, ny, tf⟩ := xF2 bQ; have EZ := hid (TWO.out.bx _ (List.Mem.head _)).2.1; obtain ⟨tY, tZ, tu, IB, aM, aN, aQ, jEY, jEZ, jF0⟩ := xQ10 EZ; go_wp2_with (at_builtin; refine G2.bJ (TWO.out.alloc #[.int .i64 yp, .string yz, .slice Ci Cj Ck, .int .i64 yk, .int .i64 Cm, .string Cn, .int .i64 yi, .slice Q6 Q7 Q8, .slice zH zI zJ, .slice zX zY zZ] 40).swap (by decide) 24 Tryd.underlying24 fC rfl (by decide) (by decide) (gb := w7.heap.size) (List.Mem.head _) rfl (by simp [Value.oneCell']) (by omega) rfl (.tmp 93) (.tmp 95) rfl rfl rfl ?_); intro v6 w8 h6; clear bQ nu ny tf; clear EZ tY tZ tu IB aM aN aQ jEY jEZ jF0; obtain ⟨pc, cc, rfl⟩ := jH h6.oa; have T2 := hid (h6.swap.only (M := []) (fun b hb => by cases hb)); clear h6
                replace TWO := T2; clear T2
                have bQ := hid TWO.out.et; obtain ⟨nu, ny, tf⟩ := xF2 bQ; go_wp2_with fail; clear bQ nu ny tf; have T3 := hid (TWO.out.st 1 (.slice pc (xb.length + 1) cc) #[.slice pa xa.length ca, .slice pc (xb.length + 1) cc] rfl)
                go_roundw
                case rel => exact ⟨j, f, _, _, va, vb ++ [.agg #[.int .i64 yp, .string yz, .slice Ci Cj Ck, .int .i64 yk, .int .i64 Cm, .string Cn, .int .i64 yi, .slice Q6 Q7 Q8, .slice zH zI zJ, .slice zX zY zZ]], xa, xb ++ [d], rfl, hj, by omega, dX, by rw [jE]; simp; omega, hid (by rw [show (xb ++ [d]).length = xb.length + 1 from by simp]; exact T3.out)⟩
                case measure => simp [intOf]; omega
            . skip
              rw [jl hd]; have HX := hid (HST.out.trans (if_neg hd)); clear hd
              go_wp2_with fail; have ER := hid (qV TWO.out.low Xi (by omega)); have EO := hid (qV TWO.out.low IK (by omega)); have HB := hid (HB0.out.trans (TWO.out.low.mono (by omega))); have EB := hid (TWO.out.bx _ (List.Mem.head _)).2.1; have bc1 := xK EB 1 rfl; have hbe := (TWO.out.bx _ (List.Mem.head _)).1
              dsimp only at hbe
              obtain ⟨J3, J4, Qx⟩ := xF2 ER; obtain ⟨bO, bP⟩ := xQ2 EO
              go_region
              all_goals (try go_wp2_with fail)
              replace ER := hid (xP2 ER.out (.slice none 0 0) (.slice none 0 0)); replace HB := xS HB ER; replace ER := qM ER; replace HB := hid (HB.out.drew); obtain ⟨r0, r1⟩ := xQ2 ER; refine jG (v := .tuple #[.agg #[.slice none 0 0, .slice none 0 0], .int .i64 m.tok.pos, .int .i64 3]) (by simp [results, Tryd.results11, go_sem, r0, r1]) rfl ?_; exact YM (q := m.pos) (by rw [Ch.out, vV.out, HX.out]; rfl) HB ⟨_, _, _, _, _, _, rfl⟩
    . skip
      have hie : ts.drop i = [] := qg (by omega); have jF1 : Hid (Px.program l = .done ⟨xa, xb⟩) := hid (by rw [Ch.out, vV.out, hie, Px.MG]; simp [Px.xU]); clear hie; obtain ⟨pa, ca, rfl⟩ := jH TWO.out.oa; obtain ⟨pb, cb, rfl⟩ := jH TWO.out.ob; have ER := hid (qV TWO.out.low Xi (by omega)); have HB := hid (HB0.out.trans (TWO.out.low.mono (by omega))); have bQ := hid TWO.out.et; obtain ⟨nu, ny⟩ := xQ2 bQ; obtain ⟨J3, J4, Qx⟩ := xF2 ER; go_wp2_with fail; replace ER := hid (xP2 ER.out (.slice pa xa.length ca) (.slice pb xb.length cb)); replace HB := xS HB ER; obtain ⟨r0, r1⟩ := xQ2 ER; refine jG (v := .tuple #[.agg #[.slice pa xa.length ca, .slice pb xb.length cb], .int .i64 (-1), .int .i64 0]) (by simp [results, Tryd.results11, go_sem, r0, r1]) rfl ?_; refine l8 jF1 HB ⟨_, _, _, _, _, _, rfl⟩ (fun u hu => ?_); have hag : ∀ b, w1.heap.size < b -> b < wr.heap.size -> u.heap[b]? = wr.heap[b]? := fun b h1 h2 => (hu b (by omega) (by simpa using h2)).trans (by rw [jP _ ⟨w.heap.size, 1, none⟩ _ b (by dsimp only; omega), jP _ ⟨w.heap.size, 0, none⟩ _ b (by dsimp only; omega)])
      have hr := TWO.out.rows rfl rfl (u := u) hag; exact ⟨_, _, rfl, hr.1, hr.2⟩
namespace Sx
def KS : Nat -> Px.zR -> Nat
 | 0, _ => 0
 | f + 1, .mk _ nm xs => 1 + nm.length + (xs.map (KS f)).sum
def cw (c : Px.dJ) : Nat := 1 + c.name.length + (c.fields.map (KS 50)).sum
def dw (d : Px.Data) : Nat := 1 + d.name.length + nw d.params + (d.cons.map cw).sum
def fw (d : Px.Def) : Nat := 1 + d.name.length + nw d.params + ew 50 d.body
theorem ZT {α : Type} (g : α -> Nat) : ∀ (l : List α), (∀ x ∈ l, 1 <= g x) -> l.length <= (l.map g).sum
 | [], _ => by simp
 | a :: r, h => by
   rw [JG, je, jy]; have h1 := h a (by simp); have h2 := ZT g r (fun x hx => h x (by simp [hx])); omega
end Sx
theorem Us {α β : Type} (g : β -> α -> β) (l : List α) (k : Nat) (x : α) (h : l[k]? = some x) (b : β) : (l.take (k + 1)).foldl g b = g ((l.take k).foldl g b) x := by
 rw [JC, h, List.foldl_append]; rfl
theorem nz {α : Type} {l : List α} {k : Nat} {x : α} (h : l[k]? = some x) : l.zipIdx[k]? = some (x, k) := by rw [List.getElem?_zipIdx, h]; simp
theorem Vl {f : Nat} {u : World} {v : Value} {d : Px.Data} (h : Uq f u v d) : ∃ (q0 : Option Addr) (c0 : Nat) (q1 : Option Addr) (c1 : Nat), v = .agg #[.int .i64 d.pos, .string ⟨d.name.toArray⟩, .slice q0 d.params.length c0, .slice q1 d.cons.length c1] /\ JO 1 (zA u) u (.slice q0 d.params.length c0) d.params /\ JO 3 (gm f u) u (.slice q1 d.cons.length c1) d.cons := by
 obtain ⟨nv, cv, rfl, h1, h2⟩ := h; obtain ⟨q0, c0, rfl⟩ := h1.len; obtain ⟨q1, c1, rfl⟩ := h2.len; exact ⟨_, _, _, _, rfl, h1, h2⟩
theorem bR {f : Nat} {u : World} {v : Value} {c : Px.dJ} (h : gm f u v c) : ∃ (q0 : Option Addr) (c0 : Nat), v = .agg #[.int .i64 c.pos, .string ⟨c.name.toArray⟩, .slice q0 c.fields.length c0] /\ JO 3 (Q0 f u) u (.slice q0 c.fields.length c0) c.fields := by
 obtain ⟨av, rfl, h1⟩ := h; obtain ⟨q0, c0, rfl⟩ := h1.len; exact ⟨_, _, rfl, h1⟩
def TM : Nm := [45, 62]
def yG (m : Nm -> Option Int) (d : Px.Data) : Nm -> Option Int := VD m d.name (d.params.length : Int)
def Vm (i : Int) (m : Nm -> Option C3) (ck : Px.dJ × Nat) : Nm -> Option C3 := VD m ck.1.name (i, (ck.2 : Int), (ck.1.fields.length : Int))
def YN (m : Nm -> Option C3) (dk : Px.Data × Nat) : Nm -> Option C3 := dk.1.cons.zipIdx.foldl (Vm dk.2) m
def xV : Nm := [70, 97, 108, 115, 101]
def bU : Nm := [84, 114, 117, 101]
def uF : Nm -> Option C3 := VD (VD (fun _ => none) xV (-1, 0, 0)) bU (-1, 1, 0)
def ZU (ds : List Px.Data) : Nm -> Option C3 := ds.zipIdx.foldl YN uF
def Qi (l : List Nm) (s : Nm) : Bool := l.contains s
theorem uG {l : List Nm} {k : Nat} {x s : Nm} (h : l[k]? = some x) (hn : (l.take k).contains s = false) : (l.take (k + 1)).contains s = (x == s) := by
 rw [JC, h]; simp only [zM, List.contains_eq_any_beq, List.any_append, List.any_cons, List.any_nil, Bool.or_false] at hn ⊢; rw [hn, Bool.false_or, Bool.beq_comm]
theorem Ut {l : List Nm} {k : Nat} {s : Nm} (h : (l.take k).contains s = true) : l.contains s = true := by
 simp only [uL] at h ⊢; exact UX h
theorem Qf (lv : Value) (l : List Nm) (s : Nm) (w : World) (hr : Yk w lv l) : Calls Tryd.prog 19 #[lv, .string ⟨s.toArray⟩] w fun e w' => e = .returned (.bool (Qi l s)) /\ w' = w := by
 obtain ⟨q, cp, rfl⟩ := hr.len; have HR := hid hr; go_enter Tryd.func19, Tryd.ntmps19; go_wp2_with fail
 go_loopw [4, 5] (fun _ i wr => ∃ k : Nat, i = .int .i64 k /\ k <= l.length /\ Hid ((l.take k).contains s = false) /\ wr = w) (fun _ i _ => l.length - (intOf i).toNat)
 case atStart => exact ⟨0, rfl, jh _, hid (by simp), rfl⟩
 case round =>
  obtain ⟨k, rfl, hk, HN, rfl⟩ := hrel; by_cases hlt : k < l.length
  . obtain ⟨x, hx⟩ : ∃ x, l[k]? = some x := ⟨_, jA hlt⟩
    rcases HR.out with ⟨h0, _⟩ | ⟨g, of, c', hv, g1, g2, g3⟩
    . rw [h0] at hlt; simp at hlt
    injection hv with hq1 _ hq2
    subst hq1; subst hq2
    obtain ⟨u, hu, _, hcell⟩ := g3 k x hx; have hu' : u = .string ⟨x.toArray⟩ := hu; subst hu'; have h0 := hcell 0 _ rfl; simp only [qX, jZ] at h0; have hk1 : (k : Int) < (l.length : Int) := by omega
    have hk2 : (l.length : Int) <= (cp : Int) := by omega
    have HX := hid hx; have hk3 := g2; clear g1 g2 g3 hcell hu hx hr; by_cases he : x = s
    . subst he; have HC : Hid (Qi l x = true) := hid (Ut (l := l) (k := k + 1) (s := x) (by rw [uG HX HN.out]; simp)); go_wp2_with fail; go_ret; exact ⟨(by rw [HC.out]; rfl), rfl⟩
    . skip
      have hne : (x == s) = false := qF.2 he; clear he; go_wp2_with fail
      go_roundw
      case rel => exact ⟨k + 1, by go_num, by omega, hid (by rw [uG HX HN, hne]), trivial⟩
      case measure => simp [intOf]; omega
  . obtain rfl : k = l.length := by omega
    go_wp2_with fail; go_ret; have := HN.out; rw [jY] at this; exact ⟨(by rw [show Qi l s = false from this]; rfl), rfl⟩
theorem QY {α : Type} {Js : Value -> α -> Prop} {u : World} {ga : Nat} {v : Value} {T : TypeId} {fr : Nat × Nat} {x : α} (h : u.heap[ga]? = some (.cells #[v] T fr)) (hr : Js v x) (hs : v.cells = #[v]) : JO 1 Js u (.slice (some ⟨ga, 0, none⟩) 1 1) [x] := by
 refine .inr ⟨ga, 0, 1, rfl, jB _, by decide, fun i y hi => ?_⟩; cases i with
 | zero =>
   simp at hi; subst hi; refine ⟨_, hr, by rw [hs]; rfl, fun j z hz => ?_⟩; rw [show 0 + 0 * 1 + j = j from by omega]; rw [hs] at hz; exact jK h j z hz
 | succ i => simp at hi
def Dn (F : FuncId) (f : Nat) : Prop := ∀ (p : Px.QJ) (v : Value) (w : World), qj f w v p -> Sx.pw f p <= 40000000 -> Calls Tryd.prog F #[v] w (E8 w (Sx.jV f p))
theorem ZV {w0 w w' : World} {B base : Nat} {v v' : Value} {l l0 : List Nm} (h : uP encS 9 w base v l v' w') (hown : QW w base v l0) (hb : Below B w0 w) (h1 : B <= w.heap.size) (h2 : B <= base) : Below B w0 w' /\ QW w' base v' l :=
 ⟨h.below hown hb h1 h2, h.1⟩
theorem Xr (f : Nat) (ih : Dn 30 f) : Dn 30 (f + 1) := by
 intro p v w hp hw; cases p with | mk k p nm i xs =>
 obtain ⟨av, rfl, hr⟩ := hp; obtain ⟨q, cp, rfl⟩ := hr.len; have HR := hid hr; have HW : Hid ((xs.map (Sx.pw f)).sum <= 40000000) := hid (by rw [Sx.pw] at hw; omega); clear hr hw; go_enter Tryd.func30, Tryd.ntmps30; have EP := hid (jb w #[.int .i64 k, .int .i64 p, .string ⟨nm.toArray⟩, .int .i64 i, .slice q xs.length cp] 85); have HB := hid ((jD w.heap.size w).alloc (jB _) (.cells #[.int .i64 k, .int .i64 p, .string ⟨nm.toArray⟩, .int .i64 i, .slice q xs.length cp] 85)); have hsz : w.heap.size + 1 <= (w.alloc (.cells #[.int .i64 k, .int .i64 p, .string ⟨nm.toArray⟩, .int .i64 i, .slice q xs.length cp] 85)).heap.size := by simp
 go_upto_region 1 with fail
 generalize w.alloc (.cells #[.int .i64 k, .int .i64 p, .string ⟨nm.toArray⟩, .int .i64 i, .slice q xs.length cp] 85) = w1 at EP HB hsz ⊢; obtain ⟨e0, e1, e2, e3, e4⟩ := xQ5 EP; by_cases hk : k = 1
 . skip
   have HN := hid (jb w1 #[.string ⟨nm.toArray⟩] 9); go_wp2_with fail; go_ret; refine ⟨_, rfl, HB.out.alloc (by omega) _, fun u hu => ?_⟩; rw [Sx.jV, if_pos hk]; exact QY ((hu w1.heap.size (by omega) (by simp)).trans HN.out) rfl rfl
 . have hki : ((k : Int) == 1) = false := qF.2 (by omega); clear e0 e1 e2 e3 e4; have hbp : Sx.jV (f + 1) (.mk k p nm i xs) = xs.flatMap (Sx.jV f) := by rw [Sx.jV, if_neg hk]
   have jF2 := hid hbp; clear hk; have e0 := xK EP 0 rfl; go_wp2_with fail; clear e0 hbp hki
   go_loopw [3, 4] (fun v j wr => ∃ (m : Nat) (l : List Nm), j = .int .i64 m /\ m <= xs.length /\ Hid (l = (xs.take m).flatMap (Sx.jV f)) /\ Hid (QW wr (w.heap.size + 1) v l) /\ Hid (wr.heap[w.heap.size]? = some (.cells #[.int .i64 k, .int .i64 p, .string ⟨nm.toArray⟩, .int .i64 i, .slice q xs.length cp] 85 (0, 0))) /\ Hid (Below w.heap.size w wr)) (fun _ j _ => xs.length - (intOf j).toNat)
   case atStart => exact ⟨0, [], rfl, jh _, hid (by simp), hid (jo _ _ _ _), EP, HB⟩
   case round =>
    clear EP HB hsz; obtain ⟨m, l, rfl, hm, TN, HO, EP, HB⟩ := hrel; have hs1 := ji EP; have e4 := xK EP 4 rfl; by_cases hlt : m < xs.length
    . obtain ⟨y, hy⟩ : ∃ y, xs[m]? = some y := ⟨_, jA hlt⟩
      rcases HR.out with ⟨h0, _⟩ | ⟨g, of, c', hv, g1, g2, g3⟩
      . rw [h0] at hlt; simp at hlt
      injection hv with hq1 _ hq2
      subst hq1; subst hq2
      obtain ⟨u, hu, _, hcell⟩ := g3 m y hy; have hu2 := qB hu HB; obtain ⟨a0, a1, a2, a3, uq, un, uc, rfl⟩ := yT hu; have c0 := jC HB (hcell 0 _ rfl); have c1 := jC HB (hcell 1 _ rfl); have c2 := jC HB (hcell 2 _ rfl); have c3 := jC HB (hcell 3 _ rfl); have c4 := jC HB (hcell 4 _ rfl)
      simp only [jZ] at c0; have hk1 : (m : Int) < (xs.length : Int) := by omega
      have hk2 : (xs.length : Int) <= (cp : Int) := by omega
      have hk3 := g2; have hst := Sx.QD (Sx.pw f) xs m y hy; have HST := hid hst; have HT := hid (Sx.YB (Sx.jV f) xs m y hy); have YZ := hid (ih y _ wr hu2 (by have := HW.out; omega)); obtain ⟨va, ca, rfl⟩ := jH HO; clear g1 g2 g3 hcell hu hy hu2 hst; go_wp2_with fail; clear e4 c0 c1 c2 c3 c4; refine YZ.out.mono ?_; rintro e w2 ⟨v2, rfl, hb, hnew⟩; have zV := hid (jc HO hb); have l9 := hid hnew.now; have HB2 := bT HB hb; have hs2 := hb.size; replace EP := bE EP hb
      have hlen : l.length + (Sx.jV f y).length <= 1000000000 := by
       rw [TN.out]; have h1 := qC ((xs.take m).flatMap (Sx.jV f)); have h2 := Sx.yx (Sx.jV f) (Sx.pw f) (xs.take m) (fun x _ => Sx.zB f x); have h3 := qC (Sx.jV f y); have h4 := Sx.zB f y; have := HST.out; have := HW.out; omega
      have Yn := hid hlen; clear hb hnew YZ hlen HB HO; go_wp2_with (at_builtin; refine Qe rfl (.tmp 18) (.tmp 24) rfl (w.heap.size + 1) _ _ rfl zV _ rfl _ l9 Yn (by omega) ?_); intro v3 w3 happ; obtain ⟨p3, q3, rfl⟩ := jH happ.1; obtain ⟨hb3, ho3⟩ := ZV happ zV HB2 (by omega) (by omega); have HB3 := hid hb3; have yQ := hid ho3; have HT3 : Hid (l ++ Sx.jV f y = (xs.take (m + 1)).flatMap (Sx.jV f)) := hid (by rw [HT.out, TN.out]); obtain ⟨l3, hl3⟩ : ∃ l3, l3 = l ++ Sx.jV f y := ⟨_, rfl⟩
      rw [<- hl3] at yQ HT3 ⊢; clear hl3; replace EP := hid (happ.at zV.out EP.out (by omega)); clear happ hb3 ho3; go_wp2
      go_roundw
      case rel => exact ⟨m + 1, l3, by go_num, by omega, HT3, yQ, EP, HB3⟩
      case measure => simp [intOf]; omega
    . obtain rfl : m = xs.length := by omega
      obtain ⟨va, ca, rfl⟩ := jH HO; go_wp2_with fail; go_ret; have he := TN.out; rw [jY] at he; rw [jF2.out, <- he]; exact ⟨_, rfl, HB.out, UA HO rfl (by omega)⟩
theorem ze : ∀ f, Dn 30 f
 | 0 => fun p v w hp => hp.elim
 | f + 1 => Xr f (ze f)
def cnt (l : List Nm) (s : Nm) : Int := (l.count s : Int)
section
variable {σ : Type} (Inv : Nat -> σ -> World -> Prop) (Own : σ -> World -> Nat -> Prop) (mb : Nat) (W0 : World) (fe fp : FuncId) (e1 e2 p1 p2 : Array Value) (xW : Nat -> σ -> List Nm -> Px.Expr -> σ) (xX : Nat -> σ -> List Nm -> Px.QJ -> σ)
structure kU (s : σ) (vars : List Nm) (n : Nat) (O : Nat -> Prop) (w wr : World) : Prop where
 bel : Below W0.heap.size W0 wr
 size : w.heap.size <= wr.heap.size
 stay : ∀ b, b < w.heap.size -> b ≠ mb -> ¬ O b -> wr.heap[b]? = w.heap[b]?
 own : ∀ b, Own s wr b -> O b \/ w.heap.size <= b
 IV : Qm wr mb n (cnt vars)
 inv : Inv n s wr
structure Told : Prop where
 keep : ∀ n n' s w w', n <= n' -> Inv n s w -> w.heap.size <= w'.heap.size -> (∀ b, b < w.heap.size -> b ≠ mb -> w'.heap[b]? = w.heap[b]?) -> Inv n' s w' /\ ∀ b, Own s w' b -> Own s w b
 lt : ∀ n s w b, Inv n s w -> Own s w b -> b < w.heap.size
 old : W0.heap.size <= mb
 jBM : ∀ args w, (callFunc fe args).run Tryd.prog w = .ok (.enter fe args) w
 jBN : ∀ args w, (callFunc fp args).run Tryd.prog w = .ok (.enter fp args) w
 expr : ∀ f x v s vars n w, JB f W0 v x -> vars.length + Sx.ew f x <= 400000 -> n <= 100000000 -> kU Inv Own mb W0 s vars n (Own s w) w w -> Calls Tryd.prog fe (e1.push v ++ e2) w fun e w' => e = .returned (.tuple #[]) /\ kU Inv Own mb W0 (xW f s vars x) vars (n + 1) (Own s w) w w'
 pat : ∀ f x v s vars n w, qj f W0 v x -> vars.length + Sx.pw f x <= 400000 -> n <= 100000000 -> kU Inv Own mb W0 s vars n (Own s w) w w -> Calls Tryd.prog fp (p1.push v ++ p2) w fun e w' => e = .returned (.tuple #[]) /\ kU Inv Own mb W0 (xX f s vars x) vars n (Own s w) w w'
variable {Inv Own mb W0 fe fp e1 e2 p1 p2 xW xX}
theorem kU.then {s s' : σ} {vars vars' : List Nm} {n n' : Nat} {O : Nat -> Prop} {a b c : World} (h : kU Inv Own mb W0 s vars n O a b) (k : kU Inv Own mb W0 s' vars' n' (Own s b) b c) : kU Inv Own mb W0 s' vars' n' O a c :=
 ⟨k.bel, jS h.size k.size, fun g h1 h2 h3 => (k.stay g (Jo h1 h.size) h2 (fun e => (h.own g e).elim h3 (fun e => by omega))).trans (h.stay g h1 h2 h3),
  fun g hg => (k.own g hg).elim (fun e => h.own g e) (fun e => .inr (jS h.size e)), k.IV, k.inv⟩
theorem kU.only (ht : Told Inv Own mb W0 fe fp e1 e2 p1 p2 xW xX) {s : σ} {vars vars' : List Nm} {n n' : Nat} {O : Nat -> Prop} {w a b : World} (h : kU Inv Own mb W0 s vars n O w a) (h1 : Below W0.heap.size W0 b) (h2 : a.heap.size <= b.heap.size) (h3 : ∀ g, g < a.heap.size -> g ≠ mb -> b.heap[g]? = a.heap[g]?)
 (hn : Qm b mb n' (cnt vars')) (hnn : n <= n') : kU Inv Own mb W0 s vars' n' O w b :=
 ⟨h1, jS h.size h2, fun g k1 k2 k3 => (h3 g (Jo k1 h.size) k2).trans (h.stay g k1 k2 k3), fun g hg => h.own g ((ht.keep n n' s a b hnn h.inv h2 h3).2 g hg), hn, (ht.keep n n' s a b hnn h.inv h2 h3).1⟩
theorem kU.below (ht : Told Inv Own mb W0 fe fp e1 e2 p1 p2 xW xX) {s : σ} {vars : List Nm} {n : Nat} {O : Nat -> Prop} {w a b : World} (h : kU Inv Own mb W0 s vars n O w a) (hb : Below a.heap.size a b) : kU Inv Own mb W0 s vars n O w b :=
 h.only ht (h.bel.trans (hb.mono h.bel.size)) hb.size (fun g hg _ => hb.block g hg) (h.IV.below hb) (jB _)
theorem kU.map (ht : Told Inv Own mb W0 fe fp e1 e2 p1 p2 xW xX) {s : σ} {vars vars' : List Nm} {n n' : Nat} {O : Nat -> Prop} {w a b : World} (h : kU Inv Own mb W0 s vars n O w a) (hg : a.grownBy b (some mb)) (hn : Qm b mb n' (cnt vars')) (hnn : n <= n') : kU Inv Own mb W0 s vars' n' O w b :=
 h.only ht (h.bel.trans ⟨hg.os, hg.tape, hg.output, hg.size, fun g hb => hg.block g (by have := h.bel.size; omega) (fun e => by have := Y6 e; have := ht.old; omega)⟩) hg.size (fun g h1 h2 => hg.block g h1 (fun e => h2 (Y6 e))) hn hnn
theorem kU.new (ht : Told Inv Own mb W0 fe fp e1 e2 p1 p2 xW xX) {s : σ} {vars : List Nm} {n : Nat} {O : Nat -> Prop} {w a b : World} (h : kU Inv Own mb W0 s vars n O w a) (hb : Below a.heap.size a b) (g : Nat) (hg : a.heap.size <= g) : g ≠ mb /\ ¬ Own s b g :=
 ⟨fun e => by have := h.IV.lt; omega, fun e => by have := ht.lt n s a g h.inv ((ht.keep n n s a b (jB _) h.inv hb.size (fun g hg _ => hb.block g hg)).2 g e); omega⟩
theorem kU.at {s : σ} {vars : List Nm} {n : Nat} {O : Nat -> Prop} {w wr : World} (h : kU Inv Own mb W0 s vars n O w wr) {g : Nat} {o : Obj} (e : w.heap[g]? = some o) (hg : g ≠ mb /\ ¬ O g) : wr.heap[g]? = some o := (h.stay g (ji e) hg.1 hg.2).trans e
theorem kU.mono (ht : Told Inv Own mb W0 fe fp e1 e2 p1 p2 xW xX) {s : σ} {vars : List Nm} {n n' : Nat} {O : Nat -> Prop} {w wr : World} (h : kU Inv Own mb W0 s vars n O w wr) (hn : n <= n') : kU Inv Own mb W0 s vars n' O w wr := { h with IV := h.IV.mono hn, inv := (ht.keep n n' s wr wr hn h.inv (jB _) (fun _ _ _ => rfl)).1 }
def Loc (Own : σ -> World -> Nat -> Prop) (mb : Nat) (s : σ) (a : World) (g : Nat) : Prop := g < a.heap.size /\ g ≠ mb /\ ¬ Own s a g
theorem Loc.step {s s' : σ} {vars : List Nm} {n : Nat} {a b : World} {g : Nat} (h : Loc Own mb s a g) (k : kU Inv Own mb W0 s' vars n (Own s a) a b) : Loc Own mb s' b g :=
 ⟨Jo h.1 k.size, h.2.1, fun e => (k.own g e).elim h.2.2 (fun e => by have := h.1; omega)⟩
def NA (Own : σ -> World -> Nat -> Prop) (mb : Nat) (lo hi : Nat) (v : Value) (l : List Nm) (s : σ) (a : World) : Prop :=
 (∀ u : World, (∀ g, lo <= g -> g < hi -> u.heap[g]? = a.heap[g]?) -> Yk u v l) /\ ∀ g, lo <= g -> g < hi -> Loc Own mb s a g
theorem NA.step {s s' : σ} {vars : List Nm} {n : Nat} {a b : World} {lo hi : Nat} {v : Value} {l : List Nm} (h : NA Own mb lo hi v l s a) (k : kU Inv Own mb W0 s' vars n (Own s a) a b) : NA Own mb lo hi v l s' b :=
 ⟨fun u hu => h.1 u fun g h1 h2 => (hu g h1 h2).trans (k.stay g (h.2 g h1 h2).1 (h.2 g h1 h2).2.1 (h.2 g h1 h2).2.2), fun g h1 h2 => (h.2 g h1 h2).step k⟩
theorem NA.row {s : σ} {a : World} {lo hi : Nat} {v : Value} {l : List Nm} (h : NA Own mb lo hi v l s a) : Yk a v l := h.1 a fun _ _ _ => rfl
end
theorem Qm.same {w w' : World} {mb n : Nat} {c : Nm -> Int} (h : Qm w mb n c) (e : w'.heap[mb]? = w.heap[mb]?) : Qm w' mb n c := by
 obtain ⟨D, ⟨es, clock, h1, h2⟩, h3⟩ := h; exact ⟨D, ⟨es, clock, e.trans h1, h2⟩, h3⟩
structure KB (S : Nat -> Prop) (w w' : World) : Prop where
 os : w'.os = w.os
 tape : w'.tape = w.tape
 output : w'.output = w.output
 size : w.heap.size <= w'.heap.size
 block : ∀ b, b < w.heap.size -> ¬ S b -> w'.heap[b]? = w.heap[b]?
theorem KB.refl (S : Nat -> Prop) (w : World) : KB S w w := ⟨rfl, rfl, rfl, jB _, fun _ _ _ => rfl⟩
theorem KB.trans {S : Nat -> Prop} {a b c : World} (h : KB S a b) (k : KB S b c) : KB S a c :=
 ⟨k.os.trans h.os, k.tape.trans h.tape, k.output.trans h.output, jS h.size k.size, fun g hg hs => (k.block g (Jo hg h.size) hs).trans (h.block g hg hs)⟩
theorem KB.below {S : Nat -> Prop} {a b : World} {lo : Nat} {w : World} (h : KB S a b) (hw : Below lo w a) (hl : lo <= w.heap.size) (hs : ∀ g, g < lo -> ¬ S g) : Below lo w b :=
 hw.trans ⟨h.os, h.tape, h.output, h.size, fun g hg => h.block g (by have := hw.size; omega) (hs g hg)⟩
theorem KB.at {S : Nat -> Prop} {a b : World} (h : KB S a b) {g : Nat} {o : Obj} (e : a.heap[g]? = some o) (hs : ¬ S g) : b.heap[g]? = some o := (h.block g (ji e) hs).trans e
theorem Qm.kb {S : Nat -> Prop} {a b : World} {mb n : Nat} {c : Nm -> Int} (h : Qm a mb n c) (k : KB S a b) (hs : ¬ S mb) : Qm b mb n c := h.same (k.block mb h.lt hs)
theorem Yj.same {α : Type} {R : OB} {enc : α -> DU} {w w' : World} {mb n : Nat} {m : Nm -> Option α} (h : Yj R enc w mb n m) (e : w'.heap[mb]? = w.heap[mb]?) : Yj R enc w' mb n m := by
 obtain ⟨D, ⟨es, clock, h1, h2⟩, h3⟩ := h; exact ⟨D, ⟨es, clock, e.trans h1, h2⟩, h3⟩
theorem Yj.kb {α : Type} {R : OB} {enc : α -> DU} {S : Nat -> Prop} {a b : World} {mb n : Nat} {m : Nm -> Option α} (h : Yj R enc a mb n m) (k : KB S a b) (hs : ¬ S mb) : Yj R enc b mb n m := h.same (k.block mb h.lt hs)
def asked (at_ : Int) (right : Bool) (place : Int) : Int := if right = false /\ at_ = -1 then place else at_
def fD (m : Nm -> Option C3) (s : Nm) (fields : Int) : Bool := match m s with | some a => decide (a.2.2 = fields) | none => false
theorem gu {f : Nat} {u : World} {v : Value} {t : Px.zR} (h : Q0 f u v t) : ∃ (p : Int) (s : ByteArray) (q : Option Addr) (n c : Nat), v = .agg #[.int .i64 p, .string s, .slice q n c] := by
 cases f with
 | zero => exact h.elim
 | succ f =>
   cases t with | mk p nm xs =>
   obtain ⟨av, rfl, h1⟩ := h; obtain ⟨q, c, rfl⟩ := h1.len; exact ⟨_, _, _, _, _, rfl⟩
theorem zm {f : Nat} {u : World} {v : Value} {d : Px.Def} (h : ZC f u v d) : ∃ (q0 : Option Addr) (c0 : Nat) (k p : Int) (sn : ByteArray) (i : Int) (q1 : Option Addr) (n1 c1 : Nat) (q2 : Option Addr) (n2 c2 : Nat) (q3 : Option Addr) (n3 c3 : Nat),
 v = .agg #[.int .i64 d.pos, .string ⟨d.name.toArray⟩, .slice q0 d.params.length c0, .int .i64 k, .int .i64 p, .string sn, .int .i64 i, .slice q1 n1 c1, .slice q2 n2 c2, .slice q3 n3 c3] /\ JO 1 (zA u) u (.slice q0 d.params.length c0) d.params /\ JB f u (.agg #[.int .i64 k, .int .i64 p, .string sn, .int .i64 i, .slice q1 n1 c1, .slice q2 n2 c2, .slice q3 n3 c3]) d.body := by
 obtain ⟨nv, b0, b1, b2, b3, b4, b5, b6, rfl, h1, h2⟩ := h; obtain ⟨q0, c0, rfl⟩ := h1.len; obtain ⟨k, p, sn, i, q1, n1, c1, q2, n2, c2, q3, n3, c3, he⟩ := zw h2
 injection he with he
 simp only [Z0, zh, dE] at he; obtain ⟨rfl, rfl, rfl, rfl, rfl, rfl, rfl⟩ := he; exact ⟨_, _, _, _, _, _, _, _, _, _, _, _, _, _, _, rfl, h1, h2⟩
def fE : Nm := [109, 97, 105, 110]
theorem drop_at {α : Type} {l : List α} {k : Nat} {x : α} (h : l[k]? = some x) : l.drop k = x :: l.drop (k + 1) := by
 obtain ⟨hk, e⟩ := jm.1 h; rw [Jg hk, e]
structure jHS (W0 w0 : World) (cb tb kb bb : Nat) : Prop where
 jHT : W0.heap.size <= cb
 jHU : W0.heap.size <= bb
 jHV : tb ≠ bb
 jHW : kb ≠ bb
 jHX : W0.heap.size <= w0.heap.size
 jHY : cb < w0.heap.size
 jHZ : tb < w0.heap.size
 jI0 : kb < w0.heap.size
 jI1 : bb < w0.heap.size
variable {W0 w0 : World} {cb tb kb bb nt nk n : Nat} {mt : Nm -> Option Int} {mk : Nm -> Option C3} {a : Int} {vars : List Nm} {w w' : World}
def ZJ : List Nm := [MX, Hq, MZ]
def Z7 : List Nm := [xV, bU]
def QM (l : List Px.Data) : List Nm := l.flatMap fun d => d.cons.map (·.name)
theorem Ke (d : Px.Data) : d.cons.length + 1 <= Sx.dw d := by
 have h := Sx.ZT Sx.cw d.cons (fun x _ => by unfold Sx.cw; omega); have hdd : Sx.dw d = 1 + d.name.length + nw d.params + (d.cons.map Sx.cw).sum := rfl; omega
theorem UE : ∀ (l : List Px.Data), (QM l).length <= (l.map Sx.dw).sum
 | [] => by simp [QM]
 | x :: r => by
   have h := UE r; have hc := Ke x; have e : QM (x :: r) = x.cons.map (·.name) ++ QM r := by simp [QM]
   rw [e, jE, Jv, je, jy]; omega
theorem vG : ∀ {f : Nat} {w w' : World} {v : Value} {x : Px.zR}, Q0 f w v x -> Below w.heap.size w w' -> Q0 f w' v x := by
 intro f
 induction f with
 | zero => intro w w' v x h _; exact h.elim
 | succ f ih =>
   intro w w' v x h hb; cases x with | mk p nm xs =>
   obtain ⟨av, rfl, h1⟩ := h; exact ⟨av, rfl, h1.mono hb (fun u x _ hx => ih hx hb)⟩
theorem qz {f : Nat} {w w' : World} {v : Value} {x : Px.Prog} (h : ZZ f w v x) (hb : Below w.heap.size w w') : ZZ f w' v x := by
 obtain ⟨dv, fv, rfl, h1, h2⟩ := h; refine ⟨dv, fv, rfl, h1.mono hb ?_, h2.mono hb ?_⟩
 . rintro u d _ ⟨nv, cv, rfl, k1, k2⟩; refine ⟨nv, cv, rfl, JM k1 hb, k2.mono hb ?_⟩; rintro u c _ ⟨av, rfl, k3⟩; exact ⟨av, rfl, k3.mono hb (fun u x _ hx => vG hx hb)⟩
 . rintro u d _ ⟨nv, b0, b1, b2, b3, b4, b5, b6, rfl, k1, k2⟩; exact ⟨nv, b0, b1, b2, b3, b4, b5, b6, rfl, JM k1 hb, JY k2 hb⟩
def NB (ds : List Px.Data) (nm : Nm) : Int := match ZU ds nm with | some c => c.1 | none => -1
def NC (ds : List Px.Data) (nm : Nm) : Int := match ZU ds nm with | some c => c.2.1 | none => 1
def ND (ds : List Px.Data) (nm : Nm) : Int := match ZU ds nm with | some c => c.2.2 | none => 0
def NF (ds : List Px.Data) (nm : Nm) : Bool := (ZU ds nm).isSome
def bV (ds : List Px.Data) (nm : Nm) : Value := .tuple #[.int .i64 (NB ds nm), .int .i64 (NC ds nm), .int .i64 (ND ds nm), .bool (NF ds nm)]
theorem vH {ds : List Px.Data} {nm : Nm} {c : C3} (h : ZU ds nm = some c) : bV ds nm = .tuple #[.int .i64 c.1, .int .i64 c.2.1, .int .i64 c.2.2, .bool true] := by
 simp [bV, NB, NC, ND, NF, h]
theorem xY {ds : List Px.Data} {nm : Nm} (h : ZU ds nm = none) : bV ds nm = .tuple #[.int .i64 (-1), .int .i64 1, .int .i64 0, .bool false] := by
 simp [bV, NB, NC, ND, NF, h]
theorem RO {α : Type} (l : List α) : l.zipIdx.take 0 = [] := rfl
theorem bW : uF xV = some (-1, 0, 0) := by decide
theorem Dp : uF bU = some (-1, 1, 0) := by decide
theorem Dr {nm : Nm} (h1 : nm ≠ xV) (h2 : nm ≠ bU) : uF nm = none := by simp [uF, VD, h1, h2]
theorem YA {fn : Func} {t u v x : Tmp} (h : fn.results = #[.tmp t, .tmp u, .tmp v, .tmp x]) (tmps : Array Value) (P : Program) (w : World) :
 (results fn tmps).run P w = .ok (.tuple #[tmps.getD t undef, tmps.getD u undef, tmps.getD v undef, tmps.getD x undef]) w := by
 simp [results, h, go_sem]
theorem NG (f : Nat) (p : Px.Prog) (v : Value) (nm : Nm) (w : World) (hp : ZZ f w v p) (hw : (p.jF.map Sx.dw).sum <= 400000) :
 Calls Tryd.prog 69 #[v, .string ⟨nm.toArray⟩] w fun e w' => e = .returned (bV p.jF nm) /\ Below w.heap.size w w' := by
 obtain ⟨dv, fv, rfl, h1, h2⟩ := hp; obtain ⟨q1, c1, rfl⟩ := h1.len; obtain ⟨q2, c2, rfl⟩ := h2.len; have HR := hid h1; have hdl : p.jF.length <= 400000 := jS (Sx.ZT Sx.dw _ (fun x _ => by unfold Sx.dw; omega)) hw; have HW := hid hw; clear h1 h2 hw; go_enter Tryd.func69, Tryd.ntmps69; have EX := hid (jb w #[.slice q1 p.jF.length c1, .slice q2 p.defs.length c2] 26); have HB := hid (show Below w.heap.size w (w.alloc (.cells #[.slice q1 p.jF.length c1, .slice q2 p.defs.length c2] 26)) from (jD _ _).alloc (jB _) _); go_upto_region 1 with fail
 generalize w.alloc (.cells #[.slice q1 p.jF.length c1, .slice q2 p.defs.length c2] 26) = w1 at EX HB ⊢; obtain ⟨e0, e1⟩ := xQ2 EX; go_wp2_with fail
 go_loopw [8] (fun i wr => ∃ k : Nat, i = .int .i64 ((k : Int) - 1) /\ k <= p.jF.length /\ Hid (ZU p.jF nm = ((p.jF.zipIdx.take k).foldl YN uF) nm) /\ wr = w1) (fun i _ => (intOf i + 1).toNat)
 case atStart => exact ⟨p.jF.length, by go_num, jB _, hid (by rw [QR (by simp)]; rfl), rfl⟩
 case round =>
  obtain ⟨k, rfl, hk, HT, rfl⟩ := hrel; by_cases hk0 : k = 0
  . subst hk0; have hT := HT.out; rw [RO] at hT; simp only [List.foldl_nil] at hT; by_cases hf : nm = xV
    . subst hf; have HV := hid (vH (hT.trans bW)); clear hT HT; go_wp2_with fail; refine jG (YA rfl _ _ _) rfl ?_; exact ⟨by rw [HV.out]; rfl, HB.out⟩
    . have ha : ¬ (⟨nm.toArray⟩ : ByteArray) = { data := #[70, 97, 108, 115, 101] } := Gn hf; have ha2 : (nm == [70, 97, 108, 115, 101]) = false := qF.2 hf; have Xt : ¬ nm.toArray = #[70, 97, 108, 115, 101] := fun e => hf (show nm = [70, 97, 108, 115, 101] by simpa using congrArg Array.toList e)
      by_cases ht : nm = bU
      . subst ht; have HV := hid (vH (hT.trans Dp)); clear hT HT; go_wp2_with fail; refine jG (YA rfl _ _ _) rfl ?_; exact ⟨by rw [HV.out]; rfl, HB.out⟩
      . skip
        have hb2 : (nm == [84, 114, 117, 101]) = false := qF.2 ht; have HV := hid (xY (hT.trans (Dr hf ht))); clear hT HT; go_wp2_with fail; refine jG (YA rfl _ _ _) rfl ?_; exact ⟨by rw [HV.out]; rfl, HB.out⟩
  . obtain ⟨m, rfl⟩ : ∃ m, k = m + 1 := ⟨k - 1, by omega⟩
    obtain ⟨d, hd⟩ : ∃ x, p.jF[m]? = some x := ⟨_, jA (by omega)⟩
    rcases HR.out with ⟨h0, _⟩ | ⟨g, of, c', hv, g1, g2, g3⟩
    . rw [h0] at hk; simp at hk
    injection hv with hq1 _ hq2
    subst hq1; subst hq2
    obtain ⟨u, hu, _, hcell⟩ := g3 m d hd; obtain ⟨q3, c3, q4, c4, rfl, _, hcr⟩ := Vl hu; have z0 := jC HB (hcell 0 _ rfl); have z1 := jC HB (hcell 1 _ rfl); have z2 := jC HB (hcell 2 _ rfl); have z3 := jC HB (hcell 3 _ rfl)
    have hk1 : (m : Int) < (p.jF.length : Int) := by omega
    have hm1 : ((m + 1 : Nat) : Int) - 1 = (m : Int) := by omega
    rw [hm1]; have hdw := Sx.E9 Sx.dw (jI hd); have hcl : d.cons.length <= 400000 := by have := Ke d; have := HW.out; omega
    have OL := hid hcr
    have HT2 : Hid (ZU p.jF nm = ((d.cons.zipIdx.take d.cons.length).foldl (Vm (m : Int)) ((p.jF.zipIdx.take m).foldl YN uF)) nm) := hid (by
     rw [HT.out, Us YN p.jF.zipIdx m (d, m) (nz hd) uF, YN, QR (l := d.cons.zipIdx) (by simp)])
    clear g1 g2 g3 hcell hu hd hdw hcr HT; go_wp2_with fail
    go_loopw [9] (fun i wy => ∃ k : Nat, i = .int .i64 ((k : Int) - 1) /\ k <= d.cons.length /\ Hid (ZU p.jF nm = ((d.cons.zipIdx.take k).foldl (Vm (m : Int)) ((p.jF.zipIdx.take m).foldl YN uF)) nm) /\ wy = wr) (fun i _ => (intOf i + 1).toNat)
    case atStart => exact ⟨d.cons.length, by go_num, jB _, HT2, rfl⟩
    case round =>
     clear HT2; obtain ⟨j, rfl, hj, HT, rfl⟩ := hrel; by_cases hj0 : j = 0
     . subst hj0; have HT3 := hid (show ZU p.jF nm = ((p.jF.zipIdx.take m).foldl YN uF) nm from HT.out); go_wp2_with fail
       go_roundw
       case rel => exact ⟨m, by go_num, by omega, HT3, trivial⟩
       case measure => first | (simp [intOf]; done) | (simp [intOf]; omega)
     . obtain ⟨n, rfl⟩ : ∃ n, j = n + 1 := ⟨j - 1, by omega⟩
       obtain ⟨x, hx⟩ : ∃ x, d.cons[n]? = some x := ⟨_, jA (by omega)⟩
       rcases OL.out with ⟨h0, _⟩ | ⟨g, of, c', hv, g1, g2, g3⟩
       . rw [h0] at hj; simp at hj
       injection hv with hq1 _ hq2
       subst hq1; subst hq2
       obtain ⟨u, hu, _, hcell⟩ := g3 n x hx; obtain ⟨q5, c5, rfl, _⟩ := bR hu; have y1 := jC HB (hcell 1 _ rfl); have y2 := jC HB (hcell 2 _ rfl)
       have hj1 : (n : Int) < (d.cons.length : Int) := by omega
       have hj2 : (d.cons.length : Int) <= (c4 : Int) := by omega
       have jBO := g2; have hn1 : ((n + 1 : Nat) : Int) - 1 = (n : Int) := by omega
       rw [hn1]; have HT3 := hid (HT.out.trans (by rw [Us (Vm (m : Int)) d.cons.zipIdx n (x, n) (nz hx)])); clear g1 g2 g3 hcell hu hx HT; by_cases he : x.name = nm
       . have hc : ZU p.jF nm = some ((m : Int), (n : Int), (x.fields.length : Int)) := by rw [HT3.out, Vm, VD, if_pos he.symm]
         have HV := hid (vH hc); clear HT3 hc; rw [he] at y1; go_upto_region 8 with fail
         go_quiet (fail)
         go_wp2_with fail; refine jG (YA rfl _ _ _) rfl ?_; exact ⟨by rw [HV.out]; rfl, below_drewN HB.out _⟩
       . have hne : (x.name == nm) = false := qF.2 he; have rR := hid (HT3.out.trans (by rw [Vm, VD, if_neg (fun e => he e.symm)])); clear HT3; go_wp2_with fail
         go_roundw
         case rel => exact ⟨n, by go_num, by omega, rR, trivial⟩
         case measure => first | (simp [intOf]; done) | (simp [intOf]; omega)
def Dt (ds : List Px.Data) : Nm -> Option Int := ds.foldl yG given
def vJ (ds : List Px.Data) (nm : Nm) : Int := match Dt ds nm with | some c => c | none => -1
def uQ (s : Nm) : Bool := 97 <= (Lx.Jj s 0).toNat && (Lx.Jj s 0).toNat <= 122
def Uu (s : Nm) : Bool := 65 <= (Lx.Jj s 0).toNat && (Lx.Jj s 0).toNat <= 90
def Zu (ds : List Px.Data) (vars : List Nm) (nm : Nm) (n : Nat) : Bool := (uQ nm && !Qi vars nm) || (Uu nm && decide (vJ ds nm ≠ (n : Int)))
def one (b : Bool) (p : Nat) : List Nat := if b then [p] else []
def Zl (ds : List Px.Data) (vars : List Nm) : Nat -> Px.zR -> List Nat
 | 0, _ => []
 | f + 1, .mk p nm xs => one (Zu ds vars nm xs.length) p ++ xs.flatMap (Zl ds vars f)
def YV (ds : List Px.Data) (nm : Nm) (n : Int) (p : Nat) : List Nat := one (!fD (ZU ds) nm n) p
def yU (g : Px.QJ -> List Nm -> List Nat) (b : Px.QJ -> List Nm) : List Px.QJ -> List Nm -> List Nat
 | [], _ => []
 | x :: r, a => g x a ++ yU g b r (a ++ b x)
def Zm (ds : List Px.Data) : Nat -> Px.QJ -> List Nm -> List Nat
 | 0, _, _ => []
 | f + 1, .mk k p nm _ xs, ahead => if k = 1 /\ Qi ahead nm = true then [p] else (if k = 3 then YV ds nm xs.length p else []) ++ yU (Zm ds f) (Sx.jV f) xs ahead
def Qr (l : List Nm) : Bool := !yR (fun _ => 0) l
def VI (ds : List Px.Data) (vars : List Nm) (k p : Nat) (nm : Nm) (n : Nat) : List Nat := if k = 1 then one (!Qi vars nm) p else if k = 2 then YV ds nm n p else []
def QT (ds : List Px.Data) : Nat -> Px.Expr -> List Nm -> List Nat
 | 0, _, _ => []
 | f + 1, .mk k p nm _ ns xs al, vars => ((VI ds vars k p nm xs.length ++ one (Qr ns) p) ++ xs.flatMap fun y => QT ds f y (vars ++ ns)) ++ al.flatMap fun a => Zm ds f a.1 [] ++ QT ds f a.2 (vars ++ Sx.jV f a.1)
def YO : List Nm -> List (Nm × Nat) -> List Nat
 | _, [] => []
 | seen, (s, p) :: r => one (Qi seen s) p ++ YO (seen ++ [s]) r
def yV (ds : List Px.Data) (ps : List Nm) : List Nm -> List Px.dJ -> List Nat
 | _, [] => []
 | seen, c :: r => (one (Qi seen c.name) c.pos ++ c.fields.flatMap (Zl ds ps 50)) ++ yV ds ps (seen ++ [c.name]) r
def ZK (ds : List Px.Data) : List Nm -> List Px.Data -> List Nat
 | _, [] => []
 | seen, d :: r => (one (Qr d.params) d.pos ++ yV ds d.params seen d.cons) ++ ZK ds (seen ++ d.cons.map (·.name)) r
def Uv (ds : List Px.Data) (names : List Nm) (d : Px.Def) : List Nat := one (Qr d.params) d.pos ++ QT ds 50 d.body (names ++ d.params)
def kV : List Px.Def -> List Nat
 | [] => [0]
 | d :: r => if d.name = fE then one (decide (0 < d.params.length)) d.pos else kV r
def zL (p : Px.Prog) : List Nat := YO ZJ (p.jF.map fun d => (d.name, d.pos)) ++ ZK p.jF Z7 p.jF
def Zv (p : Px.Prog) : List Nat := ((zL p ++ YO [] (p.defs.map fun d => (d.name, d.pos))) ++ p.defs.flatMap (Uv p.jF (p.defs.map (·.name)))) ++ kV p.defs
def UF : Nat -> Px.zR -> Prop
 | 0, _ => True
 | f + 1, .mk _ nm xs => (uQ nm = true \/ Uu nm = true \/ (nm = TM /\ xs.length = 2)) /\ nm ≠ [] /\ ∀ x ∈ xs, UF f x
def Zw : Nat -> Px.QJ -> Prop
 | 0, _ => True
 | f + 1, .mk k _ _ _ xs => (k = 1 -> xs = []) /\ ∀ x ∈ xs, Zw f x
def zC : Nat -> Px.Expr -> Prop
 | 0, _ => True
 | f + 1, .mk k _ _ _ ns xs al => (k ≠ 3 -> k ≠ 4 -> ns = []) /\ (∀ x ∈ xs, zC f x) /\ ∀ a ∈ al, Zw f a.1 /\ zC f a.2
def goodD (d : Px.Data) : Prop := Uu d.name = true /\ (∀ s ∈ d.params, uQ s = true) /\ ∀ c ∈ d.cons, ∀ t ∈ c.fields, UF 50 t
def xZ (p : Px.Prog) : Prop := (∀ d ∈ p.jF, goodD d) /\ ∀ d ∈ p.defs, zC 50 d.body
theorem fF {s : Nm} (h : uQ s = true) : Uu s = false := by
 unfold uQ at h; unfold Uu
 simp only [Ji, Qv] at h; simp only [Bool.and_eq_false_iff, decide_eq_false_iff_not]; omega
end Go.Proofs.YtlnjdclmopblcaaDoor
