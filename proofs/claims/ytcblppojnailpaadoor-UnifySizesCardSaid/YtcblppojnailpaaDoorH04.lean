/-
  Several texts in one: ULook, UApl, UApp2, UAdd, UTot.
-/
import Derived.Test.YtcblppojnailpaaDoorH02
import Derived.Deep.LoopGhost
import Derived.Deep.CutBlock
import Derived.Test.YtcblppojnailpaaDoorH03
import Derived.Shelf.Abstract
import Derived.Carry
import Derived.Deep.AppendLies
import Derived.Deep.RegionLaw
import Derived.Test.YtcblppojnailpaaDoorH01
namespace Go.Proofs.YtcblppojnailpaaDoor
open Go Go.RowKit
set_option linter.unusedVariables false
set_option linter.unusedSimpArgs false
/-- The closure's memory: what was found, and what is told. -/
structure LkS (Q : LKey → Prop) (f : Ux.Map) (fc fb sc sb : Nat) (w : World) : Prop where
 fcell : w.heap[fc]? = some (.cells #[.map (some fb)] 25 (0, 0))
 scell : w.heap[sc]? = some (.cells #[.map (some sb)] 26 (0, 0))
 sub : SubAt Q w sb f
 fnd : FndAt Q w fb f []
 apart : fb ≠ sb
 dom : ∀ n, f n ≠ none → n < 1000000
 q : ∀ x, Q x → x.1 < w.heap.size ∧ x.1 ≠ fb
def LookPost (Q : LKey → Prop) (f : Ux.Map) (fc fb sc sb : Nat) (n : Nat) (w : World) (e : Ending) (w' : World) : Prop :=
 ∃ r t, e = .returned r ∧ Ux.Ends f n t ∧ TyQ Q w' r t ∧ LkS Q f fc fb sc sb w' ∧ Chg (· = fb) w w'
/-- What stands throughout: ws is the way. -/
structure LkW (Q : LKey → Prop) (f : Ux.Map) (fc fb sc sb lo rb tb : Nat) (w0 : World) (wy : Value) (ws : List Nat) (w : World) : Prop where
 own : w.ownsRow lo 3 1 wy ws.length (ws.map fun a : Nat => encInt (a : Int))
 fcell : w.heap[fc]? = some (.cells #[.map (some fb)] 25 (0, 0))
 scell : w.heap[sc]? = some (.cells #[.map (some sb)] 26 (0, 0))
 rcell : w.heap[rb]? = some (.cells #[.int .i64 0, .string ⟨#[]⟩, .slice none 0 0] 30 (0, 0))
 sub : SubAt Q w sb f
 chg : Chg (· = fb) w0 w
 q : ∀ x, Q x → x.1 < w0.heap.size ∧ x.1 ≠ fb
 low : fc < w0.heap.size ∧ sc < w0.heap.size ∧ fb < w0.heap.size ∧ sb < w0.heap.size
 own0 : w0.heap.size ≤ lo ∧ rb = w0.heap.size ∧ rb < tb
 apart : fb ≠ sb
 map : ∃ es k, w.heap[fb]? = some (.map es k)
theorem LkW.step {Q : LKey → Prop} {f : Ux.Map} {fc fb sc sb lo rb tb : Nat} {w0 : World} {wy : Value} {ws : List Nat} {w w' : World} (h : LkW Q f fc fb sc sb lo rb tb w0 wy ws w) (hc : Chg (fun b => b = tb ∨ b = fb) w w')
 (ht : ∃ cs T, w.heap[tb]? = some (.cells cs T (0, 0)) ∧ T ≠ 3) (hm : ∃ es k, w'.heap[fb]? = some (.map es k)) : LkW Q f fc fb sc sb lo rb tb w0 wy ws w' := by
 obtain ⟨cs, T, ht, hT⟩ := ht
 obtain ⟨es, k, hmm⟩ := h.map
 obtain ⟨l1, l2, l3, l4⟩ := h.low
 obtain ⟨o1, o2, o3⟩ := h.own0
 have hs := h.chg.size
 have f1 : fc ≠ fb := fun e => by have := h.fcell; rw [e, hmm] at this; cases this
 have f2 : sc ≠ fb := fun e => by have := h.scell; rw [e, hmm] at this; cases this
 refine ⟨own_chg h.own hc fun b hb hn => ?_, ent_chg h.fcell hc (by omega), ent_chg h.scell hc (by omega), ent_chg h.rcell hc (by omega), h.sub.keep (hc.block _ (by omega) (by have := h.apart; omega)) fun x hx => ?_, h.chg.then hc (fun x hx e => by rcases e with rfl | rfl; omega; rfl), h.q, h.low, h.own0, h.apart, hm⟩
 · rcases hn with rfl | rfl
   · exact own_ne h.own ht (fun cs e => by injection e with _ e _; exact hT e) hb
   · exact own_ne h.own hmm (fun cs e => by cases e) hb
 · have := h.q x hx
   exact hc.block _ (by omega) (by omega)
theorem LkW.below {Q : LKey → Prop} {f : Ux.Map} {fc fb sc sb lo rb tb : Nat} {w0 : World} {wy : Value} {ws : List Nat} {w w' : World} (h : LkW Q f fc fb sc sb lo rb tb w0 wy ws w) (hc : Below w.heap.size w w') : LkW Q f fc fb sc sb lo rb tb w0 wy ws w' := by
 obtain ⟨es, k, hm⟩ := h.map
 have hs := h.chg.size
 have hl := h.low
 exact ⟨own_kept h.own hc, ent_below h.fcell hc, ent_below h.scell hc, ent_below h.rcell hc, h.sub.keep (hc.block _ (by omega)) fun x hx => hc.block _ (by have := h.q x hx; omega), h.chg.trans (.of_below hc), h.q, h.low, h.own0, h.apart, es, k, ent_below hm hc⟩
theorem LkW.qs {Q : LKey → Prop} {f : Ux.Map} {fc fb sc sb lo rb tb : Nat} {w0 : World} {wy : Value} {ws : List Nat} {w w' : World} (h : LkW Q f fc fb sc sb lo rb tb w0 wy ws w) (hc : Chg (fun b => b = tb ∨ b = fb) w w') (x : LKey) (hx : Q x) : w'.heap[x.1]? = w.heap[x.1]? := by
 have := h.q x hx; have hs := h.chg.size; have := h.own0
 exact hc.block _ (by omega) (by omega)
theorem LkW.push {Q : LKey → Prop} {f : Ux.Map} {fc fb sc sb lo rb tb : Nat} {w0 : World} {wy wy' : Value} {ws : List Nat} {m : Nat} {w w' : World} (h : LkW Q f fc fb sc sb lo rb tb w0 wy ws w) (hc : Chg (fun b => wy.ownBlock = some b) w w')
 (ho : w'.ownsRow lo 3 1 wy' (ws.length + 1) ((ws.map fun a : Nat => encInt (a : Int)) ++ [.int .i64 (m : Int)])) : LkW Q f fc fb sc sb lo rb tb w0 wy' (ws ++ [m]) w' ∧ (∀ x, Q x → w'.heap[x.1]? = w.heap[x.1]?) ∧ w'.heap[fb]? = w.heap[fb]? := by
 obtain ⟨es, k, hmm⟩ := h.map
 obtain ⟨l1, l2, l3, l4⟩ := h.low
 obtain ⟨o1, o2, o3⟩ := h.own0
 have hs := h.chg.size
 have hlow : ∀ b, wy.ownBlock = some b → lo ≤ b := fun b hb => (h.own.lt b hb).1
 have hq : ∀ x, Q x → w'.heap[x.1]? = w.heap[x.1]? := fun x hx => hc.block _ (by have := h.q x hx; omega) fun e => by have := hlow _ e; have := h.q x hx; omega
 refine ⟨⟨?_, ent_chg h.fcell hc fun e => by have := hlow _ e; omega, ent_chg h.scell hc fun e => by have := hlow _ e; omega, ent_chg h.rcell hc fun e => own_ne h.own h.rcell (fun cs e => by injection e with _ e _; cases e) e, h.sub.keep (hc.block _ (by omega) fun e => by have := hlow _ e; omega) hq, h.chg.then hc fun x hx e => by have := hlow _ e; omega, h.q, h.low, h.own0, h.apart, es, k, ent_chg hmm hc fun e => by have := hlow _ e; omega⟩, hq, hc.block _ (by omega) fun e => by have := hlow _ e; omega⟩
 rw [List.length_append, List.map_append]; exact ho
/-- What the first loop leaves. -/
def LkE (Q : LKey → Prop) (f : Ux.Map) (fc fb sc sb : Nat) (n lo rb tb : Nat) (w0 : World) (wy : Value) (w : World) : Prop :=
 ∃ (ws : List Nat) (T : Ux.Ty) (i : Int) (s : ByteArray) (q : Option Addr) (m c : Nat), LkW Q f fc fb sc sb lo rb tb w0 wy ws w ∧ w.heap[tb]? = some (.cells #[.int .i64 i, .string s, .slice q m c] 30 (0, 0)) ∧
  TyQ Q w (.agg #[.int .i64 i, .string s, .slice q m c]) T ∧ Ux.Ends f n T ∧ (∀ a ∈ ws, Ux.Ends f a T) ∧ FndAt Q w fb f ws ∧ ws.length ≤ 1000001
/-- What the first loop knows. -/
def LkL (Q : LKey → Prop) (f : Ux.Map) (rk : Nat → Nat) (fc fb sc sb : Nat) (n lo rb tb : Nat) (w0 : World) (wy : Value) (k : Nat) (w : World) : Prop :=
 ∃ (ws : List Nat) (T : Ux.Ty) (i : Int) (s : ByteArray) (q : Option Addr) (m c : Nat), LkW Q f fc fb sc sb lo rb tb w0 wy ws w ∧ w.heap[tb]? = some (.cells #[.int .i64 i, .string s, .slice q m c] 30 (0, 0)) ∧
  TyQ Q w (.agg #[.int .i64 i, .string s, .slice q m c]) T ∧ (∀ t, Ux.EndT f T t → Ux.Ends f n t) ∧ (∀ a ∈ ws, ∀ t, Ux.EndT f T t → Ux.Ends f a t) ∧ (∀ a ∈ ws, ∀ m, T = .v m → rk m < rk a) ∧ FndAt Q w fb f ws ∧ (∀ m, T = .v m → rk m < k) ∧ ws.length + k ≤ 1000001
set_option maxHeartbeats 4000000 in
set_option maxRecDepth 100000 in
theorem look_any (Q : LKey → Prop) (f : Ux.Map) (hf : Ux.Fine f) (fc fb sc sb n : Nat) (w : World) (h : LkS Q f fc fb sc sb w) :
 Calls Tryd.prog 52 #[.int .i64 n, .pointer (some ⟨fc, 0, none⟩), .pointer (some ⟨sc, 0, none⟩)] w (LookPost Q f fc fb sc sb n w) := by
 obtain ⟨rk, hrk, hrb⟩ := hf.short h.dom
 have HRK := Lib.hid hrk
 have HRB := Lib.hid (hrb n)
 have H := Lib.hid h
 clear hrk hrb
 clear h
 go_enter Tryd.func52, Tryd.ntmps52
 have ER := Lib.hid (ent_new w #[.int .i64 0, .string ⟨#[]⟩, .slice none 0 0] 30)
 have HB := Lib.hid (show Below w.heap.size w (w.alloc (.cells #[.int .i64 0, .string ⟨#[]⟩, .slice none 0 0] 30)) from (Below.refl _ _).alloc (Nat.le_refl _) _)
 have hs1 : (w.alloc (.cells #[.int .i64 0, .string ⟨#[]⟩, .slice none 0 0] 30)).heap.size = w.heap.size + 1 := by simp
 go_upto_region 2 with fail
 generalize w.alloc (.cells #[.int .i64 0, .string ⟨#[]⟩, .slice none 0 0] 30) = w1 at ER HB hs1 ⊢
 go_upto_block 0 with (first | ((with_reducible refine (var_any n w1).mono ?_); rintro e w2 ⟨rfl, hb2⟩))
 have ER2 := Lib.hid (ent_alloc (ent_below ER.out hb2) (.cells #[.int .i64 n, .string ⟨#[]⟩, .slice none 0 0] 30))
 have HB2 := Lib.hid ((HB.out.trans (hb2.mono HB.out.size)).alloc (by have := HB.out.size; have := hb2.size; omega) (.cells #[.int .i64 n, .string ⟨#[]⟩, .slice none 0 0] 30))
 have ET2 := Lib.hid (ent_new w2 #[.int .i64 n, .string ⟨#[]⟩, .slice none 0 0] 30)
 have hs2 := hb2.size
 clear hb2 ER HB
 have htb : w.heap.size + 1 ≤ w2.heap.size := by omega
 clear hs1 hs2
 generalize w2.heap.size = tb at ET2 htb ⊢
 generalize w2.alloc (.cells #[.int .i64 n, .string ⟨#[]⟩, .slice none 0 0] 30) = w3 at ER2 HB2 ET2 ⊢
 go_cut [5] (fun wy wx => Hid (LkE Q f fc fb sc sb n w.heap.size w.heap.size tb w wy wx))
 case first =>
  go_wp2_with fail
  go_loopg [5] (rk n + 1) (fun k wy wr => Hid (LkL Q f rk fc fb sc sb n w.heap.size w.heap.size tb w wy k wr))
  case atStart =>
   have h := H.out
   have hc : Chg (· = fb) w w3 := (HB2.out.mono (Nat.le_refl _)) |> Chg.of_below
   obtain ⟨L, hL, _⟩ := h.fnd
   obtain ⟨S, hS, _⟩ := h.sub
   have hl1 := hL.lt
   have hl2 := hS.lt
   obtain ⟨es, kk, hm⟩ := hL.obj
   refine Lib.hid ⟨[], .v n, n, ⟨#[]⟩, none, 0, 0, ⟨own_none _ _ _ _ HB2.out.size, ent_below h.fcell HB2.out, ent_below h.scell HB2.out, ER2.out, h.sub.keep (HB2.out.block _ hl2) fun x hx => HB2.out.block _ (h.q x hx).1, hc, h.q, ⟨ent_lt h.fcell, ent_lt h.scell, hl1, hl2⟩, ⟨Nat.le_refl _, rfl, by omega⟩, h.apart, es, kk, ent_below hm HB2.out⟩, ET2.out, tyQ_v.2 ⟨_, _, _, _, rfl⟩, fun t ht => ht, fun a ha => (by cases ha), fun a ha => (by cases ha), ?_, fun m hm => (by injection hm with hm; subst hm; omega), (by have := HRB.out; simp; omega)⟩
   exact h.fnd.keep (HB2.out.block _ hl1) fun x hx => HB2.out.block _ (h.q x hx).1
  case round =>
   clear ER2 HB2 ET2
   obtain ⟨ws, T, i, s, q, m, c, hW, ht, hty, hE, hA, hrank, hfnd, hk, hlen⟩ := hrel.out
   clear hrel
   obtain ⟨p5, c5, rfl⟩ := own_slice hW.own
   have HW := Lib.hid hW; have HT := Lib.hid ht; have HTY := Lib.hid hty; have HE := Lib.hid hE; have HA := Lib.hid hA; have HR := Lib.hid hrank
   have HF := Lib.hid hfnd; have HK := Lib.hid hk; have HL := Lib.hid hlen
   clear hW ht hty hE hA hrank hfnd hk hlen
   have t0 := ent_cell HT.out 0 _ rfl
   have t1 := ent_cell HT.out 1 _ rfl
   have t2 := ent_cell HT.out 2 _ rfl
   cases T with
   | a nm xs =>
     have hi : i < 0 := by obtain ⟨k', av, hk', e, _⟩ := tyQ_a.1 HTY.out; simp only [Value.agg.injEq, Array.mk.injEq, List.cons.injEq, Value.int.injEq] at e; omega
     have hd : decide ((0 : Int) ≤ i) = false := by simp; omega
     go_wp2_with fail
     refine (isVar_any i (.string s) (.slice q m c) wr).mono ?_
     rintro e w4 ⟨rfl, hb4⟩
     have HB4 := Lib.hid hb4
     clear hb4
     go_wp2_with fail
     go_meet
     have hch : Chg (fun b => b = tb ∨ b = fb) wr w4 := .of_below HB4.out
     exact Lib.hid ⟨ws, .a nm xs, i, s, q, m, c, HW.out.below HB4.out, ent_below HT.out HB4.out, tyQ_keep HTY.out fun x hx => HW.out.qs hch x hx, HE.out _ rfl, fun a ha => HA.out a ha _ rfl, HF.out.keep (HB4.out.block _ (by obtain ⟨L, h1, _⟩ := HF.out; exact h1.lt)) fun x hx => HW.out.qs hch x hx, by have := HL.out; omega⟩
   | v m' =>
     obtain rfl : i = (m' : Int) := by obtain ⟨s', q', m1, c', e⟩ := tyQ_v.1 HTY.out; simp only [Value.agg.injEq, Array.mk.injEq, List.cons.injEq, Value.int.injEq] at e; omega
     have hd : decide ((0 : Int) ≤ (m' : Int)) = true := by simp
     go_wp2_with fail
     refine (isVar_any m' (.string s) (.slice q m c) wr).mono ?_
     rintro e w4 ⟨rfl, hb4⟩
     have HB4 := Lib.hid hb4
     clear hb4 t0 t1 t2
     have HQ4 := Lib.hid (HW.out.qs (w' := w4) (.of_below HB4.out))
     replace HF := Lib.hid (HF.out.keep (HB4.out.block _ (by obtain ⟨L, h1, _⟩ := HF.out; exact h1.lt)) fun x hx => HQ4.out x hx)
     replace HTY := Lib.hid (tyQ_keep HTY.out fun x hx => HQ4.out x hx)
     replace HT := Lib.hid (ent_below HT.out HB4.out)
     replace HW := Lib.hid (HW.out.below HB4.out)
     clear HQ4 HB4
     have t0 := ent_cell HT.out 0 _ rfl
     have t1 := ent_cell HT.out 1 _ rfl
     have t2 := ent_cell HT.out 2 _ rfl
     have tf := ent_free HT.out
     have tl := ent_lt HT.out
     have f0 := ent_cell HW.out.fcell 0 _ rfl
     obtain ⟨L, hL, hLf⟩ := HF.out
     replace HF := Lib.hid (show FndAt Q w4 fb f ws from ⟨L, hL, hLf⟩)
     have HL1 := Lib.hid hL; have HLF := Lib.hid hLf
     clear hL hLf
     have hlk := (HL1.out.look lawI Tryd.underlying25 (zero_ty w4) (m' : Int) trivial).2
     have hnw : m' ∉ ws := fun hm => by have := HR.out m' hm m' rfl; omega
     have htbn : tb ≠ fb := fun e => by obtain ⟨es, ck, hb⟩ := HL1.out.obj; rw [← e, HT.out] at hb; cases hb
     cases hc : lookL (m' : Int) L with
     | some val =>
       obtain ⟨t, hEt, hty'⟩ := (HLF.out m' val hc).resolve_left hnw
       obtain ⟨k', s', q', j', c', rfl⟩ := tyQ_sh hty'
       rw [hc] at hlk
       replace hlk : (Instr.lookup 25 (.map (some fb)) (.int .i64 (m' : Int)) true).run Tryd.prog w4 = .ok (.tuple #[.agg #[.int .i64 k', .string s', .slice q' j' c'], .bool true]) w4 := by simpa only [encInt, Option.getD_some, Option.isSome_some] using hlk
       have HTY' := Lib.hid hty'
       have HET := Lib.hid hEt
       clear hty' hEt hc
       go_wp2_with fail
       go_meet
       have hch1 : Chg (· = tb) w4 ((((w4.setCell ⟨tb, 0, none⟩ (.int .i64 k')).setCell ⟨tb, 1, none⟩ (.string s')).setCell ⟨tb, 2, none⟩ (.slice q' j' c')).alloc (.cells #[.int .i64 k', .string s', .slice q' j' c'] 30)) := (chg_set3 w4 tb _ _ _).trans (.alloc _ _)
       have hch := hch1.mono (R' := fun b => b = tb ∨ b = fb) fun _ _ h => .inl h
       obtain ⟨es, kk, hm⟩ := HW.out.map
       have hfb := hch1.block fb HL1.out.lt (Ne.symm htbn)
       exact Lib.hid ⟨ws, t, k', s', q', j', c', HW.out.step hch ⟨_, _, HT.out, by decide⟩ ⟨es, kk, hfb.trans hm⟩, ent_alloc (ent_set3 HT.out _ _ _) _, tyQ_keep HTY'.out fun x hx => HW.out.qs hch x hx, HE.out _ HET.out, fun a ha => HA.out a ha _ HET.out, HF.out.keep hfb fun x hx => HW.out.qs hch x hx, by have := HL.out; omega⟩
     | none =>
       rw [hc] at hlk
       replace hlk : (Instr.lookup 25 (.map (some fb)) (.int .i64 (m' : Int)) true).run Tryd.prog w4 = .ok (.tuple #[.agg #[.int .i64 0, .string ⟨#[]⟩, .slice none 0 0], .bool false]) w4 := by simpa only [encInt, Option.getD_none, Option.isSome_none] using hlk
       clear hc
       have s0 := ent_cell HW.out.scell 0 _ rfl
       have sl := ent_lt HW.out.scell
       have fl := ent_lt HW.out.fcell
       obtain ⟨S, hS, hSf⟩ := HW.out.sub
       have HS1 := Lib.hid hS; have HSF := Lib.hid (hSf m')
       clear hS hSf
       have hls := fun o : Obj => ((HS1.out.keep (w' := w4.alloc o) (Below.heap_alloc w4 o sb HS1.out.lt) fun _ _ => trivial).look lawI Tryd.underlying26 (zero_ty _) (m' : Int) trivial).2
       cases hf : f m' with
       | none =>
         rw [HSF.out.1 hf] at hls
         replace hls : ∀ o : Obj, (Instr.lookup 26 (.map (some sb)) (.int .i64 (m' : Int)) true).run Tryd.prog (w4.alloc o) = .ok (.tuple #[.agg #[.int .i64 0, .string ⟨#[]⟩, .slice none 0 0], .bool false]) (w4.alloc o) := by simpa only [encInt, Option.getD_none, Option.isSome_none] using hls
         have HFN := Lib.hid hf
         clear hf
         go_wp2_with fail
         go_meet
         have hbb : Below w4.heap.size w4 ((w4.alloc (.cells #[.int .i64 0, .string ⟨#[]⟩, .slice none 0 0] 30)).alloc (.cells #[.int .i64 0, .string ⟨#[]⟩, .slice none 0 0] 30)) := ((Below.refl _ _).alloc (Nat.le_refl _) _).alloc (by simp) _
         have hch : Chg (fun b => b = tb ∨ b = fb) w4 _ := .of_below hbb
         exact Lib.hid ⟨ws, .v m', m', s, q, m, c, HW.out.below hbb, ent_below HT.out hbb, tyQ_keep HTY.out fun x hx => HW.out.qs hch x hx, HE.out _ (.free HFN.out), fun a ha => HA.out a ha _ (.free HFN.out), HF.out.keep (hbb.block _ HL1.out.lt) fun x hx => HW.out.qs hch x hx, by have := HL.out; omega⟩
       | some t =>
         obtain ⟨val, hval, hty'⟩ := HSF.out.2 t hf
         obtain ⟨k', s', q', j', c', rfl⟩ := tyQ_sh hty'
         rw [hval] at hls
         replace hls : ∀ o : Obj, (Instr.lookup 26 (.map (some sb)) (.int .i64 (m' : Int)) true).run Tryd.prog (w4.alloc o) = .ok (.tuple #[.agg #[.int .i64 k', .string s', .slice q' j' c'], .bool true]) (w4.alloc o) := by simpa only [encInt, Option.getD_some, Option.isSome_some] using hls
         have HTY' := Lib.hid hty'
         have HFN := Lib.hid hf
         clear hf hval hty'
         go_upto_region 9 with fail
         have hbb : Below w4.heap.size w4 ((w4.alloc (.cells #[.int .i64 0, .string ⟨#[]⟩, .slice none 0 0] 30)).alloc (.cells #[.int .i64 k', .string s', .slice q' j' c'] 30)) := ((Below.refl _ _).alloc (Nat.le_refl _) _).alloc (by simp) _
         have E9 := ent_new (w4.alloc (.cells #[.int .i64 0, .string ⟨#[]⟩, .slice none 0 0] 30)) #[.int .i64 k', .string s', .slice q' j' c'] 30
         rw [show (w4.alloc (.cells #[.int .i64 0, .string ⟨#[]⟩, .slice none 0 0] 30)).heap.size = w4.heap.size + 1 by simp] at E9
         have HE9 := Lib.hid E9
         have HBB := Lib.hid hbb
         have hch : Chg (fun b => b = tb ∨ b = fb) w4 ((w4.alloc (.cells #[.int .i64 0, .string ⟨#[]⟩, .slice none 0 0] 30)).alloc (.cells #[.int .i64 k', .string s', .slice q' j' c'] 30)) := .of_below hbb
         have HQ5 := Lib.hid (HW.out.qs hch)
         have hs5 : w4.heap.size + 2 = ((w4.alloc (.cells #[.int .i64 0, .string ⟨#[]⟩, .slice none 0 0] 30)).alloc (.cells #[.int .i64 k', .string s', .slice q' j' c'] 30)).heap.size := by simp
         clear t0 t1 t2 tf f0 s0 sl fl hls hlk E9 hbb hch
         generalize (w4.alloc (.cells #[.int .i64 0, .string ⟨#[]⟩, .slice none 0 0] 30)).alloc (.cells #[.int .i64 k', .string s', .slice q' j' c'] 30) = w5 at *
         have HW5 := Lib.hid (HW.out.below HBB.out)
         have HT5 := Lib.hid (ent_below HT.out HBB.out)
         have HTY5 := Lib.hid (tyQ_keep HTY.out HQ5.out)
         have HTY5' := Lib.hid (tyQ_keep HTY'.out HQ5.out)
         have HF5 := Lib.hid (HF.out.keep (HBB.out.block _ HL1.out.lt) HQ5.out)
         have h9 : w4.heap.size + 1 < w5.heap.size := by omega
         have t0 := ent_cell HT5.out 0 _ rfl
         have t1 := ent_cell HT5.out 1 _ rfl
         have t2 := ent_cell HT5.out 2 _ rfl
         have tl5 := ent_lt HT5.out
         have hll := HL.out
         clear hs5 HW HT HTY HTY' HF HL1 HLF HS1 HSF HQ5 tl
         go_wp2_with (at_builtin; refine wpList_append_new eltInt w5 rfl (.tmp 35) (.tmp 38) rfl w.heap.size (.slice p5 ws.length c5) ws.length _ rfl HW5.out.own #[.int .i64 m'] 3 rfl rfl (by intro u hu; simp only [List.mem_cons, List.not_mem_nil, or_false] at hu; subst hu; rfl) (by omega) (by have := HW5.out.chg.size; omega) ?_)
         intro v6 w6 hown hch6 hloc
         obtain ⟨p6, c6, rfl⟩ := own_slice hown
         obtain ⟨hW6, hq6, hfb6⟩ := HW5.out.push hch6 hown
         have HW6 := Lib.hid hW6
         have HT6 := Lib.hid (ent_chg HT5.out hch6 (own_ne HW5.out.own HT5.out fun cs e => by injection e with _ e _; cases e))
         have HE96 := Lib.hid (ent_chg HE9.out hch6 (own_ne HW5.out.own HE9.out fun cs e => by injection e with _ e _; cases e))
         have HTY6 := Lib.hid (tyQ_keep HTY5.out hq6)
         have HTY6' := Lib.hid (tyQ_keep HTY5'.out hq6)
         have HF6 := Lib.hid (HF5.out.keep hfb6 hq6)
         clear hW6 hq6 hfb6 hown hch6 hloc t0 t1 t2 tl5 HW5 HT5 HTY5 HTY5' HF5 HE9
         obtain ⟨L6, hL6, hLf6⟩ := HF6.out
         obtain ⟨w7, hup, hmk7, hgr7⟩ := hL6.update lawI Tryd.underlying25 (m' : Int) trivial (.agg #[.int .i64 m', .string s, .slice q m c]) (fun _ _ _ _ _ => trivial)
         have hch7 : Chg (· = fb) w6 w7 := Chg.grown hgr7 fun k hk => by injection hk with hk; exact hk.symm
         replace hup : (Instr.mapUpdate 25 (.map (some fb)) (.int .i64 (m' : Int)) (.agg #[.int .i64 m', .string s, .slice q m c])).run Tryd.prog w6 = .ok () w7 := hup
         have HCH7 := Lib.hid hch7
         have HMK7 := Lib.hid hmk7
         have HLF6 := Lib.hid hLf6
         have HT7 := Lib.hid (ent_chg HT6.out hch7 htbn)
         have HE97 := Lib.hid (ent_chg HE96.out hch7 fun e => by obtain ⟨es, kk, hm⟩ := HW6.out.map; have := HE96.out; rw [e, hm] at this; cases this)
         clear hch7 hgr7 hmk7 hL6 hLf6
         have t0 := ent_cell HT6.out 0 _ rfl
         have t1 := ent_cell HT6.out 1 _ rfl
         have t2 := ent_cell HT6.out 2 _ rfl
         have f0 := ent_cell HW6.out.fcell 0 _ rfl
         have y0 := ent_cell HT7.out 0 _ rfl
         have y1 := ent_cell HT7.out 1 _ rfl
         have y2 := ent_cell HT7.out 2 _ rfl
         have yf := ent_free HT7.out
         have z0 := ent_cell HE97.out 0 _ rfl
         have z1 := ent_cell HE97.out 1 _ rfl
         have z2 := ent_cell HE97.out 2 _ rfl
         go_wp2_with fail
         go_roundg (gk - 1)
         case measure =>
          have := HK.out m' rfl
          omega
         case rel =>
          have hfbb : fb ≠ tb := Ne.symm htbn
          have hc7 : Chg (fun b => b = tb ∨ b = fb) w6 (((w7.setCell ⟨tb, 0, none⟩ (.int .i64 k')).setCell ⟨tb, 1, none⟩ (.string s')).setCell ⟨tb, 2, none⟩ (.slice q' j' c')) := (HCH7.out.mono fun _ _ h => .inr h).trans ((chg_set3 w7 tb _ _ _).mono fun _ _ h => .inl h)
          have hfb8 := (chg_set3 w7 tb (.int .i64 k') (.string s') (.slice q' j' c')).block fb HMK7.out.lt hfbb
          have hm8 := HMK7.out.keep hfb8 fun _ _ => trivial
          have hq8 := HW6.out.qs hc7
          have hhk := HK.out m' rfl
          refine Lib.hid ⟨ws ++ [m'], t, k', s', q', j', c', ?_, ent_set3 HT7.out _ _ _, tyQ_keep HTY6'.out hq8, fun t' h => HE.out t' (.step HFN.out h), fun a ha t' h => ?_, fun a ha m2 e => ?_, ⟨_, hm8, fun y v hv => ?_⟩, fun m2 e => ?_, by rw [List.length_append, List.length_singleton]; omega⟩
          · have := HW6.out.step hc7 ⟨_, _, HT6.out, by decide⟩ hm8.obj
            rw [show ws.length + 1 = (ws ++ [m']).length by simp]
            simpa using this
          · rcases List.mem_append.1 ha with ha | ha
            · exact HA.out a ha t' (.step HFN.out h)
            · rw [List.mem_singleton.1 ha]; exact .step HFN.out h
          · subst e
            have h1 := HRK.out m' m2 HFN.out
            rcases List.mem_append.1 ha with ha | ha
            · have := HR.out a ha m' rfl; omega
            · rw [List.mem_singleton.1 ha]; exact h1
          · rw [lookL_set] at hv
            by_cases hy : (y : Int) = (m' : Int)
            · have : y = m' := by omega
              subst this
              exact .inl (by simp)
            · rw [if_neg hy] at hv
              rcases HLF6.out y v hv with h | ⟨t', h1, h2⟩
              · exact .inl (List.mem_append.2 (.inl h))
              · exact .inr ⟨t', h1, tyQ_keep h2 hq8⟩
          · subst e
            have h1 := HRK.out m' m2 HFN.out
            omega
 case rest =>
  obtain ⟨ws, T, i, s, q, m, c, hW, ht, hty, hE, hA, hfnd, hlen⟩ := hcut.out
  clear hcut ER2 HB2 ET2
  obtain ⟨p5, c5, rfl⟩ := own_slice hW.own
  have HT := Lib.hid ht; have HTY := Lib.hid hty; have HE := Lib.hid hE; have HA := Lib.hid hA; have HL := Lib.hid hlen
  have htbn : tb ≠ fb := fun e => by obtain ⟨es, kk, hm⟩ := hW.map; rw [e, hm] at ht; cases ht
  have HW := Lib.hid (⟨hW, hfnd⟩ : LkW Q f fc fb sc sb w.heap.size w.heap.size tb w (.slice p5 ws.length c5) ws wc ∧ FndAt Q wc fb f ws)
  clear hW ht hty hE hA hlen hfnd
  go_wp2_with fail
  go_loopw [12, 47] (fun _ a47 wr => ∃ j : Nat, a47 = .int .i64 j ∧ j ≤ ws.length ∧ Hid (LkW Q f fc fb sc sb w.heap.size w.heap.size tb w (.slice p5 ws.length c5) ws wr ∧ FndAt Q wr fb f (ws.drop j)) ∧ Hid (wr.heap[tb]? = some (.cells #[.int .i64 i, .string s, .slice q m c] 30 (0, 0))) ∧ Hid (TyQ Q wr (.agg #[.int .i64 i, .string s, .slice q m c]) T)) (fun _ a47 _ => ws.length - (intOf a47).toNat)
  case atStart => exact ⟨0, rfl, Nat.zero_le _, HW, HT, HTY⟩
  case round =>
   clear HW HT HTY
   obtain ⟨j, rfl, hj, HW, HT, HTY⟩ := hrel
   have hll := HL.out
   by_cases hlt : j < ws.length
   · obtain ⟨a, ha⟩ : ∃ a, ws[j]? = some a := ⟨_, List.getElem?_eq_getElem hlt⟩
     obtain ⟨g, cur, rfl, _, _, hk2, hk3, hg, hcell⟩ := own_open HW.out.1.own (by omega)
     have hk1 : (j : Int) < (ws.length : Int) := by omega
     have hk2' : (ws.length : Int) ≤ (c5 : Int) := by omega
     have g0 := ent_cell hg j (.int .i64 a) (hcell j _ (by rw [List.getElem?_map, ha]; rfl))
     have f0 := ent_cell HW.out.1.fcell 0 _ rfl
     have t0 := ent_cell HT.out 0 _ rfl
     have t1 := ent_cell HT.out 1 _ rfl
     have t2 := ent_cell HT.out 2 _ rfl
     have HAA := Lib.hid ha
     obtain ⟨L6, hL6, hLf6⟩ := HW.out.2
     obtain ⟨w7, hup, hmk7, hgr7⟩ := hL6.update lawI Tryd.underlying25 (a : Int) trivial (.agg #[.int .i64 i, .string s, .slice q m c]) (fun _ _ _ _ _ => trivial)
     have hch7 : Chg (· = fb) wr w7 := Chg.grown hgr7 fun k hk => by injection hk with hk; exact hk.symm
     replace hup : (Instr.mapUpdate 25 (.map (some fb)) (.int .i64 (a : Int)) (.agg #[.int .i64 i, .string s, .slice q m c])).run Tryd.prog wr = .ok () w7 := hup
     have HCH7 := Lib.hid hch7
     have HMK7 := Lib.hid hmk7
     have HLF6 := Lib.hid hLf6
     clear hch7 hgr7 hmk7 hL6 hLf6 hg hcell ha hk2
     go_wp2_with fail
     go_roundw
     case rel =>
      have hc7 : Chg (fun b => b = tb ∨ b = fb) wr w7 := HCH7.out.mono fun _ _ h => .inr h
      have hq7 := HW.out.1.qs hc7
      refine ⟨j + 1, by go_num, by omega, Lib.hid ⟨HW.out.1.step hc7 ⟨_, _, HT.out, by decide⟩ HMK7.out.obj, _, HMK7.out, fun y v hv => ?_⟩, Lib.hid (ent_chg HT.out HCH7.out htbn), Lib.hid (tyQ_keep HTY.out hq7)⟩
      rw [lookL_set] at hv
      by_cases hy : (y : Int) = (a : Int)
      · have : y = a := by omega
        subst this
        rw [if_pos rfl] at hv
        injection hv with hv; subst hv
        exact .inr ⟨T, HA.out _ (List.mem_of_getElem? HAA.out), tyQ_keep HTY.out hq7⟩
      · rw [if_neg hy] at hv
        rcases HLF6.out y v hv with h | ⟨t', h1, h2⟩
        · left
          rw [List.drop_eq_getElem_cons hlt] at h
          rcases List.mem_cons.1 h with h | h
          · exfalso
            have e2 := HAA.out
            rw [List.getElem?_eq_getElem hlt] at e2
            injection e2 with e2
            omega
          · exact h
        · exact .inr ⟨t', h1, tyQ_keep h2 hq7⟩
     case measure => simp [intOf]; omega
   · obtain rfl : j = ws.length := by omega
     have t0 := ent_cell HT.out 0 _ rfl
     have t1 := ent_cell HT.out 1 _ rfl
     have t2 := ent_cell HT.out 2 _ rfl
     have r0 := ent_cell HW.out.1.rcell 0 _ rfl
     have r1 := ent_cell HW.out.1.rcell 1 _ rfl
     have r2 := ent_cell HW.out.1.rcell 2 _ rfl
     have rf := ent_free HW.out.1.rcell
     go_wp2_with fail
     clear t0 t1 t2 r0 r1 r2 rf
     have ER8 := Lib.hid (ent_set3 HW.out.1.rcell (.int .i64 i) (.string s) (.slice q m c))
     have HC8 := Lib.hid (chg_set3 wr w.heap.size (.int .i64 i) (.string s) (.slice q m c))
     generalize ((wr.setCell ⟨w.heap.size, 0, none⟩ (.int .i64 i)).setCell ⟨w.heap.size, 1, none⟩ (.string s)).setCell ⟨w.heap.size, 2, none⟩ (.slice q m c) = w8 at ER8 HC8 ⊢
     have r0 := ent_cell ER8.out 0 _ rfl
     have r1 := ent_cell ER8.out 1 _ rfl
     have r2 := ent_cell ER8.out 2 _ rfl
     refine bodyPost_ret (v := .agg #[.int .i64 i, .string s, .slice q m c]) (by simp [results, Tryd.results52, go_sem, r0, r1, r2]) rfl ?_
     have hW := HW.out.1
     have hF := HW.out.2
     have hc := HC8.out
     obtain ⟨es, kk, hm⟩ := hW.map
     obtain ⟨l1, l2, l3, l4⟩ := hW.low
     have hs := hW.chg.size
     have hq8 : ∀ x, Q x → w8.heap[x.1]? = wr.heap[x.1]? := fun x hx => hc.block _ (by have := hW.q x hx; omega) (by have := hW.q x hx; omega)
     rw [List.drop_eq_nil_of_le (Nat.le_refl _)] at hF
     refine ⟨_, T, rfl, HE.out, tyQ_keep HTY.out hq8, ⟨ent_chg hW.fcell hc (by omega), ent_chg hW.scell hc (by omega), hW.sub.keep (hc.block _ (by omega) (by omega)) hq8, hF.keep (hc.block _ (by omega) (by omega)) hq8, hW.apart, H.out.dom, fun x hx => ⟨by have := hW.q x hx; have := hc.size; omega, (hW.q x hx).2⟩⟩, hW.chg.then hc fun x hx e => by omega⟩
end Go.Proofs.YtcblppojnailpaaDoor
namespace Go.Proofs.YtcblppojnailpaaDoor
open Go Go.RowKit
set_option linter.unusedVariables false
set_option linter.unusedSimpArgs false
set_option maxHeartbeats 1000000 in
theorem looker_any (Q : LKey → Prop) (f : Ux.Map) (sb : Nat) (w : World) (hs : SubAt Q w sb f) (hq : ∀ x, Q x → x.1 < w.heap.size) (hd : ∀ n, f n ≠ none → n < 1000000) :
 Calls Tryd.prog 36 #[.map (some sb)] w (fun e w' => ∃ fc fb sc, e = .returned (.func (.func 52) #[] #[.pointer (some ⟨fc, 0, none⟩), .pointer (some ⟨sc, 0, none⟩)]) ∧ Below w.heap.size w w' ∧ LkS Q f fc fb sc sb w' ∧ w.heap.size ≤ fb) := by
 have HS := Lib.hid hs
 clear hs
 have hmm := @run_makeMap Tryd.prog
 go_enter Tryd.func36, Tryd.ntmps36
 go_wp2_with fail
 go_ret
 have hb : Below w.heap.size w (((w.alloc (.cells #[.map (some sb)] 26)).alloc (.map #[] 0)).alloc (.cells #[.map (some (w.heap.size + 1))] 25)) := (((Below.refl _ _).alloc (Nat.le_refl _) _).alloc (by simp) _).alloc (by simp; omega) _
 have e1 := ent_alloc (ent_alloc (ent_new w #[.map (some sb)] 26) (.map #[] 0)) (.cells #[.map (some (w.heap.size + 1))] 25)
 have e2 := (MapK.made (enc := encInt) (V := fun _ _ => True) (w.alloc (.cells #[.map (some sb)] 26))).keep (w' := ((w.alloc (.cells #[.map (some sb)] 26)).alloc (.map #[] 0)).alloc (.cells #[.map (some (w.heap.size + 1))] 25)) (Below.heap_alloc _ _ _ (by simp)) fun _ _ => trivial
 have e3 := ent_new ((w.alloc (.cells #[.map (some sb)] 26)).alloc (.map #[] 0)) #[.map (some (w.heap.size + 1))] 25
 simp only [World.size_alloc] at e2 e3
 obtain ⟨L, hL1, hL2⟩ := HS.out
 have hlt := hL1.lt
 refine ⟨w.heap.size + 1 + 1, w.heap.size + 1, w.heap.size, rfl, hb, ⟨e3, e1, HS.out.keep (hb.block _ hlt) fun x hx => hb.block _ (hq x hx), ⟨[], e2, fun n v h => by rw [lookL_nil] at h; cases h⟩, by omega, hd, fun x hx => ⟨by have := hq x hx; have := hb.size; omega, by have := hq x hx; omega⟩⟩, by omega⟩
set_option maxHeartbeats 1000000 in
theorem newMaker_any (Q : LKey → Prop) (N : Ux.Sub) (F : FuncId) (caps : Array Value) (w : World) :
 Calls Tryd.prog 35 #[.func (.func F) #[] caps] w (fun e w' => ∃ mb db, e = .returned (.pointer (some ⟨mb, 0, none⟩)) ∧ Below w.heap.size w w' ∧ w.heap.size ≤ mb ∧ w.heap.size ≤ db ∧ MkS Q N (fun _ => none) mb db (.func (.func F) #[] caps) 0 w') := by
 have hmm := @run_makeMap Tryd.prog
 go_enter Tryd.func35, Tryd.ntmps35
 go_wp2_with fail
 go_ret
 have hb : Below w.heap.size w ((w.alloc (.map #[] 0)).alloc (.cells #[.func (.func F) #[] caps, .map (some w.heap.size), .int .i64 0] 109)) := ((Below.refl _ _).alloc (Nat.le_refl _) _).alloc (by simp) _
 have e1 := ent_new (w.alloc (.map #[] 0)) #[.func (.func F) #[] caps, .map (some w.heap.size), .int .i64 0] 109
 have e2 := (MapK.made (enc := encL) (V := FreeQ Q) w).keep (w' := (w.alloc (.map #[] 0)).alloc (.cells #[.func (.func F) #[] caps, .map (some w.heap.size), .int .i64 0] 109)) (Below.heap_alloc _ _ _ (by simp)) fun x hx => ⟨hx.1, let ⟨cs, T, e⟩ := hx.2; ⟨cs, T, ent_alloc e _⟩⟩
 simp only [World.size_alloc] at e1
 exact ⟨w.heap.size + 1, w.heap.size, rfl, hb, by omega, by omega, e1, [], e2, fun x v h => by rw [lookL_nil] at h; cases h⟩
/-- What looks through what is told, for the maker. -/
theorem lookC_subst {Q : LKey → Prop} {f : Ux.Map} (hf : Ux.Fine f) {N : Ux.Sub} (hN : Ux.Norm f N) {L0 mb db fc fb sc sb : Nat} (h1 : fc < L0 ∧ fb < L0 ∧ sc < L0 ∧ sb < L0 ∧ mb < L0 ∧ db < L0) (h2 : fc ≠ mb ∧ fb ≠ mb ∧ sc ≠ mb ∧ sb ≠ mb) (h3 : fc ≠ db ∧ fb ≠ db ∧ sc ≠ db ∧ sb ≠ db) (hq : ∀ x, Q x → x.1 < L0 ∧ x.1 ≠ mb ∧ x.1 ≠ db ∧ x.1 ≠ fb) :
 LookC Q N L0 mb db (· = fb) 52 #[.pointer (some ⟨fc, 0, none⟩), .pointer (some ⟨sc, 0, none⟩)] (fun w => LkS Q f fc fb sc sb w ∧ L0 ≤ w.heap.size) := by
 refine ⟨enters_of Tryd.func52 (by kernel_rfl) rfl, fun w n hI hL => ?_, fun w w' hI hc => ?_, fun b hb => by omega, fun x hx => hq x hx, by omega⟩
 · refine (look_any Q f hf fc fb sc sb n w hI.1).mono ?_
   rintro e w' ⟨r, t, rfl, h1, h2, h3, h4⟩
   refine ⟨r, t, rfl, ?_, h2, ⟨h3, by have := h4.size; omega⟩, h4⟩
   have := h1.norm hN
   rw [this]
   rcases h1.is with ⟨m, rfl, _⟩ | ⟨nm, xs, rfl, _⟩ <;> exact rfl
 · obtain ⟨⟨a1, a2, a3, a4, a5, a6, a7⟩, a8⟩ := hI
   have hqq : ∀ x, Q x → w'.heap[x.1]? = w.heap[x.1]? := fun x hx => hc.block _ (a7 x hx).1 (by have := hq x hx; omega)
   exact ⟨⟨ent_chg a1 hc (by omega), ent_chg a2 hc (by omega), a3.keep (hc.block _ (by omega) (by omega)) hqq, a4.keep (hc.block _ (by omega) (by omega)) hqq, a5, a6, fun x hx => ⟨by have := (a7 x hx).1; have := hc.size; omega, (a7 x hx).2⟩⟩, by have := hc.size; omega⟩
end Go.Proofs.YtcblppojnailpaaDoor
namespace Go.Proofs.YtcblppojnailpaaDoor
open Go Go.RowKit
set_option linter.unusedVariables false
set_option linter.unusedSimpArgs false
theorem LkS.low {Q : LKey → Prop} {f : Ux.Map} {fc fb sc sb : Nat} {w : World} (h : LkS Q f fc fb sc sb w) : fc < w.heap.size ∧ fb < w.heap.size ∧ sc < w.heap.size ∧ sb < w.heap.size := by
 obtain ⟨L, h1, _⟩ := h.sub
 obtain ⟨M, h2, _⟩ := h.fnd
 exact ⟨ent_lt h.fcell, h2.lt, ent_lt h.scell, h1.lt⟩
theorem LkS.keep {Q : LKey → Prop} {f : Ux.Map} {fc fb sc sb : Nat} {w w' : World} (h : LkS Q f fc fb sc sb w) (hb : Below w.heap.size w w') : LkS Q f fc fb sc sb w' := by
 have hl := h.low
 obtain ⟨a1, a2, a3, a4, a5, a6, a7⟩ := h
 have hq : ∀ x, Q x → w'.heap[x.1]? = w.heap[x.1]? := fun x hx => hb.block _ (a7 x hx).1
 exact ⟨ent_below a1 hb, ent_below a2 hb, a3.keep (hb.block _ hl.2.2.2) hq, a4.keep (hb.block _ hl.2.1) hq, a5, a6, fun x hx => ⟨by have := (a7 x hx).1; have := hb.size; omega, (a7 x hx).2⟩⟩
/-- Block b tells f. -/
def SubP (w : World) (b : Nat) (f : Ux.Map) : Prop :=
 ∃ L, MapK encInt (fun _ _ => True) w b L ∧ ∀ n : Nat, (f n = none → lookL (n : Int) L = none) ∧ ∀ t, f n = some t → ∃ v, lookL (n : Int) L = some v ∧ TyP w v t
theorem SubP.lt {w : World} {b : Nat} {f : Ux.Map} (h : SubP w b f) : b < w.heap.size := by obtain ⟨L, h1, _⟩ := h; exact h1.lt
/-- All lists of what it tells. -/
theorem SubP.at {w : World} {b : Nat} {f : Ux.Map} (h : SubP w b f) {S : Nat} (hd : ∀ n, f n ≠ none → n < 1000000) (hS : ∀ n t, f n = some t → t.sz ≤ S) : ∃ U : List LKey, SubAt (· ∈ U) w b f ∧ llen U ≤ 1000000 * S ∧ ∀ x ∈ U, ∃ cs T, w.heap[x.1]? = some (.cells cs T (0, 0)) := by
 obtain ⟨L, h1, h2⟩ := h
 have key : ∀ M, ∃ U : List LKey, (∀ n t, n < M → f n = some t → ∃ v, lookL (n : Int) L = some v ∧ TyQ (· ∈ U) w v t) ∧ llen U ≤ M * S ∧ ∀ x ∈ U, ∃ cs T, w.heap[x.1]? = some (.cells cs T (0, 0)) := by
  intro M
  induction M with
  | zero => exact ⟨[], fun n t hn => by omega, by simp [llen], fun x hx => by cases hx⟩
  | succ M ih =>
    obtain ⟨U, u1, u2, u3⟩ := ih
    have hm : (M + 1) * S = M * S + S := by rw [Nat.add_mul]; omega
    cases hf : f M with
    | none => exact ⟨U, fun n t hn hnt => u1 n t (Nat.lt_of_le_of_ne (by omega) fun e => by rw [e, hf] at hnt; cases hnt) hnt, by omega, u3⟩
    | some t =>
      obtain ⟨v, a, b⟩ := (h2 M).2 t hf
      obtain ⟨V, v1, v2, v3⟩ := tyP_Q t v b
      refine ⟨V ++ U, fun n t' hn hnt => ?_, ?_, fun x hx => (List.mem_append.1 hx).elim (v3 x) (u3 x)⟩
      · by_cases e : n = M
        · subst e
          rw [hf] at hnt; injection hnt with hnt; subst hnt
          exact ⟨v, a, tyQ_more v1 fun x hx => ⟨List.mem_append.2 (.inl hx), rfl⟩⟩
        · obtain ⟨v', a', b'⟩ := u1 n t' (by omega) hnt
          exact ⟨v', a', tyQ_more b' fun x hx => ⟨List.mem_append.2 (.inr hx), rfl⟩⟩
      · rw [llen_app]; have := hS M t hf; omega
 obtain ⟨U, u1, u2, u3⟩ := key 1000000
 exact ⟨U, ⟨L, h1, fun n => ⟨(h2 n).1, fun t ht => u1 n t (hd n (by rw [ht]; simp)) ht⟩⟩, u2, u3⟩
theorem SubAt.more {Q Q' : LKey → Prop} {w : World} {b : Nat} {f : Ux.Map} (h : SubAt Q w b f) (hq : ∀ x, Q x → Q' x) : SubAt Q' w b f := by
 obtain ⟨L, h1, h2⟩ := h
 exact ⟨L, h1, fun n => ⟨(h2 n).1, fun t ht => by obtain ⟨v, a, c⟩ := (h2 n).2 t ht; exact ⟨v, a, tyQ_more c fun x hx => ⟨hq x hx, rfl⟩⟩⟩⟩
set_option maxHeartbeats 4000000 in
set_option maxRecDepth 100000 in
theorem sApply_any (f : Ux.Map) (hf : Ux.Fine f) (N : Ux.Sub) (hN : Ux.Norm f N) (sb : Nat) (t : Ux.Ty) (v : Value) (w : World) (hs : SubP w sb f) (ht : TyP w v t) (hdom : ∀ n, f n ≠ none → n < 1000000) (hS : ∃ S, ∀ n t, f n = some t → t.sz ≤ S) (hsz : (t.app N).sz ≤ 10000000000) :
 Calls Tryd.prog 16 #[.map (some sb), v] w (fun e w' => ∃ r, e = .returned r ∧ Below w.heap.size w w' ∧ TyP w' r (t.app N)) := by
 obtain ⟨S, hS⟩ := hS
 obtain ⟨U1, hs1, _, hu1⟩ := hs.at hdom hS
 obtain ⟨U2, ht2, _, hu2⟩ := tyP_Q t v ht
 obtain ⟨U, hU⟩ : ∃ U, U = U1 ++ U2 := ⟨_, rfl⟩
 have hs3 : SubAt (· ∈ U) w sb f := hs1.more fun x hx => by rw [hU]; exact List.mem_append.2 (.inl hx)
 have ht3 : TyQ (· ∈ U) w v t := tyQ_more ht2 fun x hx => ⟨by rw [hU]; exact List.mem_append.2 (.inr hx), rfl⟩
 have hu : ∀ x ∈ U, x.1 < w.heap.size := fun x hx => by
  rw [hU] at hx
  rcases List.mem_append.1 hx with h | h
  · obtain ⟨cs, T, e⟩ := hu1 x h; exact ent_lt e
  · obtain ⟨cs, T, e⟩ := hu2 x h; exact ent_lt e
 have hsl := hs.lt
 obtain ⟨ti, ts, tq, tn, tc, rfl⟩ := tyP_sh ht
 have HS := Lib.hid hs3; have HTQ := Lib.hid ht3; have HU := Lib.hid hu; have HSZ := Lib.hid hsz
 clear hs ht hs1 ht2 hs3 ht3 hu hu1 hu2 hU hS hsz
 go_enter Tryd.func16, Tryd.ntmps16
 have HB1 := Lib.hid (show Below w.heap.size w ((w.alloc (.cells #[.int .i64 ti, .string ts, .slice tq tn tc] 30)).alloc (.cells #[.int .i64 0, .string ⟨#[]⟩, .slice none 0 0] 30)) from ((Below.refl _ _).alloc (Nat.le_refl _) _).alloc (by simp) _)
 have ET := Lib.hid (ent_alloc (ent_new w #[.int .i64 ti, .string ts, .slice tq tn tc] 30) (.cells #[.int .i64 0, .string ⟨#[]⟩, .slice none 0 0] 30))
 have ER := Lib.hid (ent_new (w.alloc (.cells #[.int .i64 ti, .string ts, .slice tq tn tc] 30)) #[.int .i64 0, .string ⟨#[]⟩, .slice none 0 0] 30)
 rw [show (w.alloc (.cells #[.int .i64 ti, .string ts, .slice tq tn tc] 30)).heap.size = w.heap.size + 1 by simp] at ER
 have hs1 : ((w.alloc (.cells #[.int .i64 ti, .string ts, .slice tq tn tc] 30)).alloc (.cells #[.int .i64 0, .string ⟨#[]⟩, .slice none 0 0] 30)).heap.size = w.heap.size + 2 := by simp
 go_upto_region 1 with fail
 generalize (w.alloc (.cells #[.int .i64 ti, .string ts, .slice tq tn tc] 30)).alloc (.cells #[.int .i64 0, .string ⟨#[]⟩, .slice none 0 0] 30) = w1 at ET ER HB1 hs1 ⊢
 have HS1 := Lib.hid (HS.out.keep (w' := w1.drew) (HB1.out.block _ hsl) fun x hx => HB1.out.block _ (HU.out x hx))
 have hge : w.heap.size + 1 < w1.heap.size := by omega
 have HS11 := Lib.hid hs1
 clear hs1
 refine wp_region_held_drew (S := fun (u : World) => Chg (· = w.heap.size + 1) w1 u) (by kernel_rfl) ((Chg.drew _)) (fun hHeld => ?_)
 refine wpAnyH_take (i := 0) (v := .map (some sb)) rfl (by kernel_rfl) (by kernel_rfl) (by kernel_rfl) (fun _ _ _ h => h) (Or.inl ⟨by rfl, fun w' hSw => by go_simp⟩) hHeld ?_
 refine wpAnyH_take (i := 3) (v := .agg #[.int .i64 ti, .string ts, .slice tq tn tc]) rfl (by kernel_rfl) (by kernel_rfl) (by kernel_rfl) (fun _ _ _ h => h) (Or.inl ⟨by rfl, fun w' hSw => by have h := ent_chg ET.out hSw (by omega); have t0 := ent_cell h 0 _ rfl; have t1 := ent_cell h 1 _ rfl; have t2 := ent_cell h 2 _ rfl; go_simp⟩) hHeld ?_
 try simp only [Act.put, List.getElem_toArray, List.getElem_cons_succ, List.getElem_cons_zero, List.setIfInBounds_toArray, List.set_cons_zero, List.set_cons_succ]
 refine wpAnyH_ready (rs := [1]) (by kernel_rfl) (by simp) ?_
 refine AllReadyH.cons rfl (fun K hK => ?_) AllReadyH.nil
 go_simp
 refine (looker_any (· ∈ U) f sb w1.drew HS1.out (fun x hx => by have := (HU.out x hx); have := HB1.out.size; show x.1 < w1.heap.size; omega) hdom).mono ?_
 rintro e wA ⟨fc, fb, sc, rfl, hbA, hlk, hfb⟩
 replace hbA := undrew hbA
 replace hfb : w1.heap.size ≤ fb := hfb
 have HBA := Lib.hid hbA
 have HLK := Lib.hid hlk
 clear hbA hlk
 refine hK.out _ _ (.of_below HBA.out) (fun hHeld => ?_)
 clear hK K
 refine wpAnyH_ready (rs := [2]) (by kernel_rfl) (by simp) ?_
 refine AllReadyH.cons rfl (fun K hK => ?_) AllReadyH.nil
 go_simp
 refine (newMaker_any (· ∈ U) N _ _ wA).mono ?_
 rintro e wB ⟨mb, db, rfl, hbB, hmb, hdb, hmk⟩
 have HBB := Lib.hid hbB
 have HMK := Lib.hid hmk
 have HBAB := Lib.hid (HBA.out.trans (hbB.mono HBA.out.size))
 clear hbB hmk
 have hlow := HLK.out.low
 refine hK.out _ _ (.of_below HBAB.out) (fun hHeld => ?_)
 clear hK K
 refine wpAnyH_ready (rs := [4]) (by kernel_rfl) (by simp) ?_
 refine AllReadyH.cons rfl (fun K hK => ?_) AllReadyH.nil
 go_simp
 have hmd : mb < wB.heap.size ∧ db < wB.heap.size := ⟨ent_lt HMK.out.cell, by obtain ⟨L, h4, _⟩ := HMK.out.made; exact h4.lt⟩
 refine (mkTyp_any (· ∈ U) N mb db (· = fb) _ _ (fun u => LkS (· ∈ U) f fc fb sc sb u ∧ wB.heap.size ≤ u.heap.size) (fun _ => none) 0 t _ wB (lookC_subst hf hN (by have := HBB.out.size; omega) (by omega) (by omega) (fun x hx => by have := (HU.out x hx); have := HB1.out.size; have := HBA.out.size; have := HBB.out.size; omega)) ⟨HLK.out.keep HBB.out, Nat.le_refl _⟩ HMK.out (fun B ys h => by cases h) (fun B ys h => by cases h) (tyQ_keep HTQ.out fun x hx => (HBAB.out.block _ (by have := (HU.out x hx); have := HB1.out.size; omega)).trans (HB1.out.block _ (by have := (HU.out x hx); omega))) (by have := HSZ.out; omega)).mono ?_
 rintro e wC ⟨r, c, n', rfl, hright, hmw, hmm, _⟩
 have htq := right_ty (fun B ys h => by have := hmm B ys h; rw [posOf_nil] at this; exact this) _ _ hright
 have htq2 := tyQ_more (Q' := fun x : LKey => wB.heap.size ≤ x.1 ∧ x.1 < wC.heap.size) htq (w' := wC) fun x hx => ⟨by
  obtain ⟨ys, hys⟩ := hx
  have h1 := hmw.new x.1 (by rw [hys]; simp) rfl
  obtain ⟨cs, e, _⟩ := (hmm _ _ hys).ex
  exact ⟨by omega, ent_lt e⟩, rfl⟩
 have hty : TyP wC r (t.app N) := tyQ_P _ _ htq2
 have hbC : Below w1.heap.size w1 wC := HBAB.out.trans (hmw.chg.below (by have := HBAB.out.size; omega) (fun k hk => by have := HBAB.out.size; have := HBA.out.size; omega))
 obtain ⟨z0, z1, zq, zm, zc, rfl⟩ := tyP_sh hty
 have HTY := Lib.hid hty
 have HTYQ := Lib.hid (⟨htq2, by have := HBAB.out.size; have := HBB.out.size; have := HBA.out.size; have := HS11.out; omega⟩ : TyQ (fun x : LKey => wB.heap.size ≤ x.1 ∧ x.1 < wC.heap.size) wC (.agg #[.int .i64 z0, .string z1, .slice zq zm zc]) (t.app N) ∧ w.heap.size + 1 < wB.heap.size)
 have HBC := Lib.hid hbC
 clear hty htq htq2 hbC hright hmw hmm
 refine hK.out _ _ (.of_below HBC.out) (fun hHeld => ?_)
 clear hK K
 refine wpAnyH_ready (rs := [5]) (by kernel_rfl) (by simp) ?_
 refine AllReadyH.cons rfl (fun K hK => ?_) AllReadyH.nil
 have ERC := ent_below ER.out HBC.out
 have r0 := ent_cell ERC 0 _ rfl
 have r1 := ent_cell ERC 1 _ rfl
 have r2 := ent_cell ERC 2 _ rfl
 have rf := ent_free ERC
 go_simp
 refine hK.out _ _ ((Chg.of_below HBC.out).trans (chg_set3 wC _ _ _ _)) (fun hHeld => ?_)
 have HER := Lib.hid (ent_set3 ERC (.int .i64 z0) (.string z1) (.slice zq zm zc))
 clear r0 r1 r2 rf ERC
 clear hK K
 refine wpAnyH_done (by kernel_rfl) ?_ _
 have HCD := Lib.hid ((Chg.of_below HBC.out).trans (chg_set3 wC (w.heap.size + 1) (.int .i64 z0) (.string z1) (.slice zq zm zc)))
 have HTYD := Lib.hid (tyQ_P _ _ (tyQ_keep HTYQ.out.1 fun x hx => (chg_set3 wC (w.heap.size + 1) (.int .i64 z0) (.string z1) (.slice zq zm zc)).block _ hx.2 (by have := HTYQ.out.2; omega)))
 generalize ((wC.setCell ⟨w.heap.size + 1, 0, none⟩ (.int .i64 z0)).setCell ⟨w.heap.size + 1, 1, none⟩ (.string z1)).setCell ⟨w.heap.size + 1, 2, none⟩ (.slice zq zm zc) = wD at *
 have r0 := ent_cell HER.out 0 _ rfl
 have r1 := ent_cell HER.out 1 _ rfl
 have r2 := ent_cell HER.out 2 _ rfl
 go_wp2_with fail
 refine bodyPost_ret (v := .agg #[.int .i64 z0, .string z1, .slice zq zm zc]) (by simp [results, Tryd.results16, go_sem, r0, r1, r2]) rfl ?_
 have hs1 := HS11.out
 refine ⟨_, rfl, HB1.out.trans (HCD.out.below (by omega) (fun k hk => by omega)), HTYD.out⟩
end Go.Proofs.YtcblppojnailpaaDoor
namespace Go.Proofs.YtcblppojnailpaaDoor
open Go Go.RowKit
set_option linter.unusedVariables false
set_option linter.unusedSimpArgs false
theorem eltPart : Elt 99 104 (.agg #[.int .i64 0, .string ⟨#[]⟩, .slice none 0 0, .int .i64 0, .int .i64 0]) 5 64 := ⟨Tryd.underlying99, by kernel_rfl, rfl, by decide, by decide⟩
theorem ent_put4 {w : World} {g : Nat} {a b c d v : Value} {T : TypeId} (h : w.heap[g]? = some (.cells #[a, b, c, d] T (0, 0))) : (w.setCell ⟨g, 1, none⟩ v).heap[g]? = some (.cells #[a, v, c, d] T (0, 0)) := by have := ent_set h 1 v; simpa using this
set_option maxHeartbeats 4000000 in
set_option maxRecDepth 100000 in
theorem add_any (gb y0 n : Nat) (lv m1 m2 pv : Value) (xs : List Value) (k : Int) (s : ByteArray) (q : Option Addr) (m c : Nat) (w : World) (hg : w.heap[gb]? = some (.cells #[lv, pv, m1, m2] 101 (0, 0))) (ho : w.ownsRow y0 104 5 pv n xs) (hn : n ≤ 100000000000) (hy : y0 ≤ w.heap.size) :
 Calls Tryd.prog 59 #[.pointer (some ⟨gb, 0, none⟩), .agg #[.int .i64 k, .string s, .slice q m c]] w (fun e w' => e = .returned (.int .i64 n) ∧ ∃ pv', w'.heap[gb]? = some (.cells #[lv, pv', m1, m2] 101 (0, 0)) ∧ w'.ownsRow y0 104 5 pv' (n + 1) (xs ++ [.int .i64 k, .string s, .slice q m c, .int .i64 n, .int .i64 0]) ∧
  Chg (fun b => b = gb ∨ pv.ownBlock = some b) w w' ∧ (pv'.ownBlock = pv.ownBlock ∨ ∀ g, pv'.ownBlock = some g → w.heap.size ≤ g)) := by
 obtain ⟨p, cp, rfl⟩ := own_slice ho
 have HG := Lib.hid hg
 have HO := Lib.hid ho
 clear hg ho
 have hxl := HO.out.1
 have HXL := Lib.hid hxl
 clear hxl
 go_enter Tryd.func59, Tryd.ntmps59
 have hb1 : Below w.heap.size w (w.alloc (.cells #[.int .i64 k, .string s, .slice q m c] 30)) := (Below.refl _ _).alloc (Nat.le_refl _) _
 have HB1 := Lib.hid hb1
 have ET := Lib.hid (ent_new w #[.int .i64 k, .string s, .slice q m c] 30)
 have hs1 : w.heap.size + 1 = (w.alloc (.cells #[.int .i64 k, .string s, .slice q m c] 30)).heap.size := by simp
 clear hb1
 go_upto_region 1 with fail
 generalize w.alloc (.cells #[.int .i64 k, .string s, .slice q m c] 30) = w1 at *
 have HG1 := Lib.hid (ent_below HG.out HB1.out)
 have HO1 := Lib.hid (own_kept HO.out HB1.out)
 have hgl := ent_lt HG.out
 have g1 := ent_cell HG1.out 1 _ rfl
 have gf := ent_free HG1.out
 have t0 := ent_cell ET.out 0 _ rfl
 have t1 := ent_cell ET.out 1 _ rfl
 have t2 := ent_cell ET.out 2 _ rfl
 have hgl1 := ent_lt HG1.out
 have htl1 := ent_lt ET.out
 have hn0 : (0 : Int) ≤ (n : Int) := by omega
 have HS1 := Lib.hid hs1
 clear hs1
 go_wp2_with fail
 go_region_law (first | (refine step_append_new eltPart w1 rfl (.tmp 15) (.tmp 19) rfl y0 (.slice p n cp) n xs rfl HO1.out #[.int .i64 k, .string s, .slice q m c, .int .i64 n, .int .i64 0] 104 rfl rfl (by intro u hu; simp only [List.mem_cons, List.not_mem_nil, or_false] at hu; rcases hu with rfl | rfl | rfl | rfl | rfl <;> rfl) hn (by have := HS1.out; omega) ?_; intro v2 w2 ho2 hc2 hl2; obtain ⟨p2, c2, rfl⟩ := own_slice ho2; have HG2 := Lib.hid (ent_chg HG1.out hc2 (own_ne HO1.out HG1.out fun cs e => by injection e with _ e _; cases e)); have HO2 := Lib.hid ho2; have HC2 := Lib.hid hc2; have HL2 := Lib.hid hl2; clear ho2 hc2 hl2; have g2 := ent_cell HG2.out 1 _ rfl; have gf2 := ent_free HG2.out))
 all_goals
  clear g1 gf t0 t1 t2
  go_wp2_with fail
  go_ret
  have hc1 : Chg (fun b => b = gb ∨ (Value.slice p n cp).ownBlock = some b) w w2 := (Chg.of_below HB1.out).then HC2.out fun x _ e => .inr e
  have hc2 : Chg (fun b => b = gb ∨ (Value.slice p n cp).ownBlock = some b) w (w2.setCell ⟨gb, 1, none⟩ (.slice p2 (n + 1) c2)) := hc1.then (Chg.set (R := (· = gb)) (p := ⟨gb, 1, none⟩) rfl (.slice p2 (n + 1) c2)) fun x _ e => .inl e
  exact ⟨rfl, _, ent_put4 HG2.out, own_chg HO2.out (Chg.set (R := (· = gb)) (p := ⟨gb, 1, none⟩) rfl (.slice p2 (n + 1) c2)) (fun b hb e => own_ne HO2.out HG2.out (fun cs e => by injection e with _ e _; cases e) (e ▸ hb)), hc2, HL2.out.imp id fun h g hg => by have := h g hg; have := HS1.out; omega⟩
end Go.Proofs.YtcblppojnailpaaDoor
namespace Go.Proofs.YtcblppojnailpaaDoor
namespace Ux
set_option linter.unusedVariables false
set_option linter.unusedSimpArgs false
structure Inv (V : List Nat) (L : Pairs) : Prop where
 solved : Solved L
 var : ∀ p ∈ L, p.1 ∈ V
 vars : ∀ p ∈ L, ∀ m ∈ p.2.vs, m ∈ V
/-- How many variables stand for nothing. -/
def unb (V : List Nat) (L : Pairs) : Nat := (V.filter fun n => !(dom L).contains n).length
theorem filter_lt {p q : Nat → Bool} {V : List Nat} {n : Nat} (hn : n ∈ V) (h1 : p n = true) (h2 : q n = false) (hi : ∀ m, q m = true → p m = true) : (V.filter q).length < (V.filter p).length := by
 induction V with
 | nil => cases hn
 | cons x r ih =>
   have hle : ∀ r : List Nat, (r.filter q).length ≤ (r.filter p).length := by
    intro r
    induction r with
    | nil => exact Nat.le_refl _
    | cons y r ih =>
      rw [List.filter_cons, List.filter_cons]
      by_cases hq : q y = true
      · rw [if_pos hq, if_pos (hi y hq), List.length_cons, List.length_cons]; omega
      · rw [if_neg hq]; split
        · rw [List.length_cons]; omega
        · exact ih
   rw [List.filter_cons, List.filter_cons]
   rcases List.mem_cons.1 hn with rfl | hn
   · rw [if_pos h1, if_neg (by rw [h2]; decide), List.length_cons]
     have := hle r
     omega
   · have := ih hn
     by_cases hq : q x = true
     · rw [if_pos hq, if_pos (hi x hq), List.length_cons, List.length_cons]; omega
     · rw [if_neg hq]; split
       · rw [List.length_cons]; omega
       · exact this
theorem unb_bind {V : List Nat} {L : Pairs} {n : Nat} {t : Ty} (hn : n ∈ V) (hd : n ∉ dom L) : unb V (bind L n t) < unb V L := by
 refine filter_lt hn (by simpa using hd) (by rw [dom_bind]; simp) (fun m hm => ?_)
 rw [dom_bind] at hm
 simp only [Bool.not_eq_true', List.contains_eq_mem, decide_eq_false_iff_not, List.mem_append, not_or] at hm ⊢
 exact hm.1
theorem bind_inv {V : List Nat} {L : Pairs} (h : Inv V L) {n : Nat} {t : Ty} (hn : n ∈ V) (htv : ∀ m ∈ t.vs, m ∈ V) (hd : n ∉ dom L) (ht : ∀ m ∈ t.vs, m ∉ dom L) (hnt : n ∉ t.vs) : Inv V (bind L n t) := by
 refine ⟨bind_solved h.solved hd ht hnt, fun p hp => ?_, fun p hp m hm => ?_⟩
 · rcases List.mem_append.1 hp with hp | hp
   · obtain ⟨q, hq, rfl⟩ := List.mem_map.1 hp; exact h.var q hq
   · simp at hp; subst hp; exact hn
 · rcases List.mem_append.1 hp with hp | hp
   · obtain ⟨q, hq, rfl⟩ := List.mem_map.1 hp
     rcases put_vs hm with h1 | ⟨h1, _⟩
     · exact htv m h1
     · exact h.vars q hq m h1
   · simp at hp; subst hp; exact htv m hm
theorem sub_vs_in {V : List Nat} {L : Pairs} (h : Inv V L) {t : Ty} (ht : ∀ m ∈ t.vs, m ∈ V) : ∀ m ∈ (applyL L t).vs, m ∈ V := by
 intro m hm
 rw [applyL_sub, vs_app] at hm
 obtain ⟨n, h1, h2⟩ := hm
 by_cases hn : n ∈ dom L
 · obtain ⟨p, hp, rfl⟩ := List.mem_map.1 hn
   rw [subL_in h.solved p hp] at h2
   exact h.vars p hp m h2
 · rw [subL_out hn, vs_v] at h2
   simp at h2
   subst h2
   exact ht m h1
theorem loopU_mono {g g' : Pairs → Ty → Ty → Option (Option Pairs)} (h : ∀ L a b r, g L a b = some r → g' L a b = some r) : ∀ (xs ys : List Ty) (L : Pairs) (r : Option Pairs), loopU g L xs ys = some r → loopU g' L xs ys = some r
 | [], ys, L, r, e => by rw [loopU] at e ⊢; exact e; all_goals simp
 | x :: xs, [], L, r, e => by rw [loopU] at e ⊢; exact e; all_goals simp
 | x :: xs, y :: ys, L, r, e => by
   rw [loopU] at e ⊢
   cases hg : g L x y with
   | none => rw [hg] at e; cases e
   | some o =>
     rw [h _ _ _ _ hg]
     rw [hg] at e
     cases o with
     | none => exact e
     | some L' => exact loopU_mono h xs ys L' r e
theorem refU_mono : ∀ (f : Nat) (L : Pairs) (a b : Ty) (r : Option Pairs), refU f L a b = some r → refU (f + 1) L a b = some r := by
 intro f
 induction f with
 | zero => intro L a b r h; cases h
 | succ f ih =>
   intro L a b r h
   rw [refU] at h
   rw [refU]
   generalize applyL L a = a' at h ⊢
   generalize applyL L b = b' at h ⊢
   cases a' with
   | v n => cases b' <;> exact h
   | a nm xs =>
     cases b' with
     | v n => exact h
     | a nm' ys =>
       simp only at h ⊢
       split
       · rename_i hne; rw [if_pos hne] at h; exact h
       · rename_i hne; rw [if_neg hne] at h; exact loopU_mono ih xs ys L r h
theorem refU_le {f g : Nat} (hfg : f ≤ g) {L : Pairs} {a b : Ty} {r : Option Pairs} (h : refU f L a b = some r) : refU g L a b = some r := by
 induction hfg with
 | refl => exact h
 | step _ ih => exact refU_mono _ _ _ _ _ ih
theorem refU_total (V : List Nat) : ∀ (k s : Nat) (L : Pairs) (a b : Ty), Inv V L → (∀ m ∈ a.vs, m ∈ V) → (∀ m ∈ b.vs, m ∈ V) → unb V L ≤ k → (applyL L a).sz ≤ s →
 ∃ f r, refU f L a b = some r ∧ ∀ L', r = some L' → Inv V L' ∧ (L' = L ∨ unb V L' < unb V L) := by
 intro k
 induction k using Nat.strongRecOn with
 | ind k ihk =>
 intro s
 induction s with
 | zero => intro L a b _ _ _ _ h; have := sz_pos (applyL L a); omega
 | succ s ihs =>
   intro L a b hi ha hb hk hs
   have hva := applied_vs hi.solved a
   have hvb := applied_vs hi.solved b
   have hia := sub_vs_in hi ha
   have hib := sub_vs_in hi hb
   have key : ∀ n (t : Ty), n ∉ dom L → n ∈ V → (∀ m ∈ t.vs, m ∉ dom L) → (∀ m ∈ t.vs, m ∈ V) → ∀ L', headU L n t = some L' → Inv V L' ∧ (L' = L ∨ unb V L' < unb V L) := by
    intro n t h1 h2 h3 h4 L' h5
    unfold headU at h5
    split at h5
    · cases h5
    · rename_i hc
      simp only [Option.some.injEq] at h5
      subst h5
      exact ⟨bind_inv hi h2 h4 h1 h3 (by simpa using hc), .inr (unb_bind h2 h1)⟩
   cases ea : applyL L a with
   | v n =>
     rw [ea] at hva hia
     have hn : n ∉ dom L := hva n (by rw [vs_v]; simp)
     have hnV : n ∈ V := hia n (by rw [vs_v]; simp)
     cases eb : applyL L b with
     | v m =>
       rw [eb] at hvb hib
       by_cases e : m = n
       · exact ⟨1, some L, by rw [refU, ea, eb]; simp only [if_pos e], fun L' h => by cases h; exact ⟨hi, .inl rfl⟩⟩
       · exact ⟨1, some (bind L n (.v m)), by rw [refU, ea, eb]; simp only [if_neg e], fun L' h => by cases h; exact ⟨bind_inv hi hnV hib hn hvb (by rw [vs_v]; simp; exact fun h => e h.symm), .inr (unb_bind hnV hn)⟩⟩
     | a nm ys =>
       rw [eb] at hvb hib
       exact ⟨1, headU L n (.a nm ys), by rw [refU, ea, eb], key n _ hn hnV hvb hib⟩
   | a nm xs =>
     rw [ea] at hva hia hs
     cases eb : applyL L b with
     | v n =>
       rw [eb] at hvb hib
       exact ⟨1, headU L n (.a nm xs), by rw [refU, ea, eb], key n _ (hvb n (by rw [vs_v]; simp)) (hib n (by rw [vs_v]; simp)) hva hia⟩
     | a nm' ys =>
       rw [eb] at hvb hib
       by_cases hne : nm ≠ nm' ∨ xs.length ≠ ys.length
       · exact ⟨1, none, by rw [refU, ea, eb]; simp only [if_pos hne], fun L' h => by cases h⟩
       · have hx : ∀ x ∈ xs, (∀ m ∈ x.vs, m ∉ dom L) ∧ (∀ m ∈ x.vs, m ∈ V) ∧ x.sz ≤ s := fun x hx => by
          refine ⟨fun m hm => hva m (by rw [vs_a]; exact List.mem_flatMap.2 ⟨x, hx, hm⟩), fun m hm => hia m (by rw [vs_a]; exact List.mem_flatMap.2 ⟨x, hx, hm⟩), ?_⟩
          rw [sz_a] at hs
          have := sum_ge Ty.sz hx
          omega
         have hy : ∀ y ∈ ys, ∀ m ∈ y.vs, m ∈ V := fun y hy m hm => hib m (by rw [vs_a]; exact List.mem_flatMap.2 ⟨y, hy, hm⟩)
         have loop : ∀ (xs ys : List Ty) (L1 : Pairs), (∀ x ∈ xs, (∀ m ∈ x.vs, m ∉ dom L) ∧ (∀ m ∈ x.vs, m ∈ V) ∧ x.sz ≤ s) → (∀ y ∈ ys, ∀ m ∈ y.vs, m ∈ V) → Inv V L1 → (L1 = L ∨ unb V L1 < unb V L) →
          ∃ f r, loopU (refU f) L1 xs ys = some r ∧ ∀ L', r = some L' → Inv V L' ∧ (L' = L ∨ unb V L' < unb V L) := by
          intro xs
          induction xs with
          | nil => intro ys L1 _ _ h1 h2; exact ⟨0, some L1, by rw [loopU]; all_goals simp, fun L' h => by cases h; exact ⟨h1, h2⟩⟩
          | cons x xs ihx =>
            intro ys L1 hx hy h1 h2
            cases ys with
            | nil => exact ⟨0, some L1, by rw [loopU]; all_goals simp, fun L' h => by cases h; exact ⟨h1, h2⟩⟩
            | cons y ys =>
              have hxx := hx x (by simp)
              have one : ∃ f r, refU f L1 x y = some r ∧ ∀ L', r = some L' → Inv V L' ∧ (L' = L1 ∨ unb V L' < unb V L1) := by
               rcases h2 with rfl | h2
               · exact ihs L1 x y h1 hxx.2.1 (hy y (by simp)) hk (by rw [applyL_none L1 x hxx.1]; exact hxx.2.2)
               · exact ihk (unb V L1) (by omega) (applyL L1 x).sz L1 x y h1 hxx.2.1 (hy y (by simp)) (Nat.le_refl _) (Nat.le_refl _)
              obtain ⟨f1, r1, e1, k1⟩ := one
              cases r1 with
              | none => exact ⟨f1, none, by rw [loopU, e1], fun L' h => by cases h⟩
              | some L2 =>
                obtain ⟨h3, h4⟩ := k1 L2 rfl
                have h5 : L2 = L ∨ unb V L2 < unb V L := by
                 rcases h4 with rfl | h4
                 · exact h2
                 · rcases h2 with rfl | h2
                   · exact .inr h4
                   · exact .inr (by omega)
                obtain ⟨f2, r2, e2, k2⟩ := ihx ys L2 (fun z hz => hx z (by simp [hz])) (fun z hz => hy z (by simp [hz])) h3 h5
                refine ⟨max f1 f2, r2, ?_, k2⟩
                rw [loopU, refU_le (Nat.le_max_left f1 f2) e1]
                exact loopU_mono (fun L a b r h => refU_le (Nat.le_max_right f1 f2) h) xs ys L2 r2 e2
         obtain ⟨f, r, e, kk⟩ := loop xs ys L hx hy hi (.inl rfl)
         exact ⟨f + 1, r, by rw [refU, ea, eb]; simp only [if_neg hne]; exact e, kk⟩
/-! ### One but for names. -/
/-- A type's variables, as they first come, behind others. -/
def firsts (l : List Nat) : List Nat → List Nat
 | [] => l
 | n :: r => firsts (if l.contains n then l else l ++ [n]) r
def varsT (t : Ty) : List Nat := firsts [] t.vs
def canon (t : Ty) : Ty := t.app fun n => .v ((varsT t).idxOf n)
theorem firsts_mem (m : Nat) : ∀ (r l : List Nat), m ∈ firsts l r ↔ m ∈ l ∨ m ∈ r
 | [], l => by simp [firsts]
 | n :: r, l => by
   rw [firsts, firsts_mem m r]
   split
   · rename_i h
     have h' : n ∈ l := by simpa using h
     constructor
     · rintro (h | h)
       · exact .inl h
       · exact .inr (List.mem_cons_of_mem _ h)
     · rintro (h | h)
       · exact .inl h
       · rcases List.mem_cons.1 h with rfl | h
         · exact .inl h'
         · exact .inr h
   · simp only [List.mem_append, List.mem_cons, List.not_mem_nil, or_false, or_assoc]
theorem firsts_map (π : Nat → Nat) : ∀ (r l : List Nat), (∀ a ∈ l ++ r, ∀ b ∈ l ++ r, π a = π b → a = b) → firsts (l.map π) (r.map π) = (firsts l r).map π
 | [], l, _ => rfl
 | n :: r, l, h => by
   rw [List.map_cons, firsts, firsts]
   have e : (l.map π).contains (π n) = l.contains n := by
    rw [Bool.eq_iff_iff, List.contains_iff_mem, List.contains_iff_mem, List.mem_map]
    constructor
    · rintro ⟨a, ha, hπ⟩
      rw [← h a (by simp [ha]) n (by simp) hπ]
      exact ha
    · intro hn; exact ⟨n, hn, rfl⟩
   rw [e]
   by_cases hc : l.contains n = true
   · rw [if_pos hc, if_pos hc]
     exact firsts_map π r l (fun a ha b hb => h a (by simp at ha ⊢; rcases ha with h | h; exact .inl h; exact .inr (.inr h)) b (by simp at hb ⊢; rcases hb with h | h; exact .inl h; exact .inr (.inr h)))
   · rw [if_neg hc, if_neg hc]
     have := firsts_map π r (l ++ [n]) (fun a ha b hb => h a (by simpa using ha) b (by simpa using hb))
     rw [List.map_append, List.map_cons, List.map_nil] at this
     exact this
theorem vs_rename (π : Nat → Nat) : ∀ t : Ty, (t.app fun n => .v (π n)).vs = t.vs.map π := by
 intro t
 induction t using Ty.ind with
 | hv n => rw [app_v, vs_v, vs_v]; rfl
 | ha nm xs ih =>
   rw [app_a, vs_a, vs_a, List.map_flatMap, List.flatMap_map]
   simp only [List.flatMap_def]
   congr 1
   exact List.map_congr_left fun x hx => ih x hx
theorem idxOf_map (π : Nat → Nat) (n : Nat) : ∀ (l : List Nat), (∀ a ∈ l, π a = π n → a = n) → (l.map π).idxOf (π n) = l.idxOf n
 | [], _ => rfl
 | x :: r, h => by
   rw [List.map_cons, List.idxOf_cons, List.idxOf_cons]
   by_cases e : x = n
   · subst e; simp
   · have h1 : ¬ π x = π n := fun e' => e (h x (by simp) e')
     simp only [beq_eq_false_iff_ne.2 e, beq_eq_false_iff_ne.2 h1, cond_false]
     rw [idxOf_map π n r (fun a ha => h a (by simp [ha]))]
/-- Two types each of which comes of the other one are one but for names. -/
theorem variants {A B : Ty} {ρ τ : Sub} (h1 : A = B.app ρ) (h2 : B = A.app τ) : canon A = canon B := by
 have h3 : ∀ n ∈ B.vs, (ρ n).app τ = .v n := by
  have e : B.app (fun n => (ρ n).app τ) = B.app Ty.v := by rw [← app_app, ← h1, ← h2, app_id]
  have key : ∀ t : Ty, ∀ (σ σ' : Sub), t.app σ = t.app σ' → ∀ n ∈ t.vs, σ n = σ' n := by
   intro t
   induction t using Ty.ind with
   | hv m => intro σ σ' he n hn; rw [vs_v] at hn; simp at hn; subst hn; rw [app_v, app_v] at he; exact he
   | ha nm xs ih =>
     intro σ σ' he n hn
     rw [app_a, app_a] at he
     injection he with _ he
     rw [vs_a] at hn
     obtain ⟨x, hx, hn⟩ := List.mem_flatMap.1 hn
     exact ih x hx σ σ' (List.map_inj_left.1 he x hx) n hn
  exact fun n hn => key B _ _ e n hn
 have h4 : ∀ n ∈ B.vs, ∃ m, ρ n = .v m := by
  intro n hn
  have := h3 n hn
  cases hr : ρ n with
  | v m => exact ⟨m, rfl⟩
  | a nm xs => rw [hr, app_a] at this; cases this
 obtain ⟨π, hπ⟩ : ∃ π : Nat → Nat, ∀ n ∈ B.vs, ρ n = .v (π n) := by
  refine ⟨fun n => match ρ n with | .v m => m | .a _ _ => 0, fun n hn => ?_⟩
  obtain ⟨m, hm⟩ := h4 n hn
  show ρ n = .v (match ρ n with | .v m => m | .a _ _ => 0)
  rw [hm]
 have hinj : ∀ a ∈ B.vs, ∀ b ∈ B.vs, π a = π b → a = b := by
  intro a ha b hb e
  have h5 := h3 a ha
  have h6 := h3 b hb
  rw [hπ a ha, app_v] at h5
  rw [hπ b hb, app_v, ← e, h5] at h6
  injection h6
 have hA : A = B.app fun n => .v (π n) := h1.trans (app_congr B hπ)
 have hv : varsT A = (varsT B).map π := by
  rw [varsT, hA, vs_rename, varsT]
  exact firsts_map π B.vs [] (by simpa using hinj)
 rw [canon, hv]
 conv => lhs; rw [hA]
 rw [app_app, canon]
 refine app_congr B (fun n hn => ?_)
 rw [app_v, idxOf_map π n]
 intro a ha e
 refine hinj a ?_ n hn e
 unfold varsT at ha
 rw [firsts_mem] at ha
 rcases ha with ha | ha
 · cases ha
 · exact ha
/-- What two most general ones make of a type is one but for names. -/
theorem most_variants {S : Sub → Prop} {N M : Sub} (hN : ∀ σ, S σ ↔ ∀ n, σ n = (N n).app σ) (hM : ∀ σ, S σ ↔ ∀ n, σ n = (M n).app σ) (sN : S N) (sM : S M) (t : Ty) : canon (t.app N) = canon (t.app M) := by
 refine variants (ρ := N) (τ := M) ?_ ?_
 · rw [app_app]; exact app_congr t (fun n _ => (hM N).1 sN n)
 · rw [app_app]; exact app_congr t (fun n _ => (hN M).1 sM n)
theorem Norm.says {f : Map} {N : Sub} (hf : Fine f) (h : Norm f N) : ∀ σ, Sol f σ ↔ ∀ n, σ n = (N n).app σ := by
 intro σ
 constructor
 · exact fun hs => h.most hf hs
 · intro hs n t ht
   have e := hs n
   rw [h n, ht] at e
   simp only at e
   rw [e, app_app]
   exact app_congr t (fun m _ => (hs m).symm)
end Ux
end Go.Proofs.YtcblppojnailpaaDoor
