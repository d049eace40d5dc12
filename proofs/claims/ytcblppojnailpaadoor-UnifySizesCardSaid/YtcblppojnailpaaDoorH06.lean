/-
  Several texts in one: UNum, UArgs.
-/
import Derived.Test.YtcblppojnailpaaDoorH05
import Derived.Deep.CutBlock
namespace Go.Proofs.YtcblppojnailpaaDoor
open Go Go.RowKit
set_option linter.unusedVariables false
set_option linter.unusedSimpArgs false
def NKeep (c : GCx) (pv : Value) (b : Nat) : Prop := b = c.gb ∨ b = c.vb ∨ b = c.fb ∨ pv.ownBlock = some b
theorem NKeep.gk {c : GCx} {pv : Value} {b : Nat} (h : NKeep c pv b) : GKeep c pv b := by
 rcases h with h | h | h | h
 · exact .inl h
 · exact .inr (.inl h)
 · exact .inr (.inr (.inr (.inl h)))
 · exact .inr (.inr (.inr (.inr h)))
def NumPost (c : GCx) (e : Nat) (ps : List Prt) (kl : LKey → Option (List Nat)) (rep : Nat → Nat) (pv : Value) (t : Ux.Ty) (w : World) (en : Ending) (w' : World) : Prop :=
 ∃ i ps' pv', en = .returned (.int .i64 (i : Nat)) ∧ GSt c (e + 1) w' ps' kl rep pv' ∧ Chg (NKeep c pv) w w' ∧ (pv'.ownBlock = pv.ownBlock ∨ ∀ g, pv'.ownBlock = some g → w.heap.size ≤ g) ∧ (∃ p, ps'[i]? = some p ∧ NumOf c.f t p.D) ∧ (ps' = ps ∨ ∃ p, ps' = ps ++ [p] ∧ i = ps.length ∧ p.tt = i ∧ p.st = 0)
/-- What lies in the box once it was looked. -/
def NMid (c : GCx) (e : Nat) (ps : List Prt) (kl : LKey → Option (List Nat)) (rep : Nat → Nat) (pv : Value) (t : Ux.Ty) (tb : Nat) (w0 : World) (Y : Ux.Ty → Prop) (w : World) : Prop :=
 ∃ T i s q m cc, GSt c e w ps kl rep pv ∧ w.heap[tb]? = some (.cells #[.int .i64 i, .string s, .slice q m cc] 30 (0, 0)) ∧ TyQ (· ∈ c.U) w (.agg #[.int .i64 i, .string s, .slice q m cc]) T ∧ Y T ∧ Chg (· = c.fb) w0 w
def NumT (f : Ux.Map) (t T : Ux.Ty) : Prop := NumOf f t T ∧ ∀ n, T = .v n → f n = none
set_option maxHeartbeats 4000000 in
set_option maxRecDepth 100000 in
theorem number_any (c : GCx) (hC : c.Ok) (e : Nat) (he : e ≤ 20000000000) (ps : List Prt) (kl : LKey → Option (List Nat)) (rep : Nat → Nat) (pv v : Value) (t : Ux.Ty) (w : World) (h : GSt c e w ps kl rep pv) (ht : TyQ (· ∈ c.U) w v t) :
 Calls Tryd.prog 46 #[.pointer (some ⟨c.gb, 0, none⟩), v] w (NumPost c e ps kl rep pv t w) := by
 obtain ⟨ti, ts, tq, tn, tc, rfl⟩ := tyQ_sh ht
 have HG := Lib.hid h
 have HT := Lib.hid ht
 have HN := Lib.hid (h.few hC)
 have HS0 := Lib.hid h.size
 clear h ht
 go_enter Tryd.func46, Tryd.ntmps46
 have hb1 : Below w.heap.size w (w.alloc (.cells #[.int .i64 ti, .string ts, .slice tq tn tc] 30)) := (Below.refl _ _).alloc (Nat.le_refl _) _
 have HG1 := Lib.hid (HG.out.below hC hb1)
 have ET := Lib.hid (ent_new w #[.int .i64 ti, .string ts, .slice tq tn tc] 30)
 have HT1 := Lib.hid (tyQ_keep HT.out fun x hx => hb1.block _ (by have := (hC.u x hx).1; have := HS0.out; omega))
 have HB1 := Lib.hid hb1
 have HS1 := Lib.hid (show (w.alloc (.cells #[.int .i64 ti, .string ts, .slice tq tn tc] 30)).heap.size = w.heap.size + 1 by simp)
 clear hb1
 have y0 := ent_cell ET.out 0 _ rfl
 have y1 := ent_cell ET.out 1 _ rfl
 have y2 := ent_cell ET.out 2 _ rfl
 go_upto_region 1 with fail
 generalize w.alloc (.cells #[.int .i64 ti, .string ts, .slice tq tn tc] 30) = w1 at *
 go_upto_if 8 with (first | ((with_reducible refine (isVar_any ti (.string ts) (.slice tq tn tc) w1).mono ?_); rintro e w3 ⟨rfl, hb3⟩))
 have HG3 := Lib.hid (HG1.out.below hC hb3)
 have HBX := Lib.hid (⟨ent_below ET.out hb3, tyQ_keep HT1.out fun x hx => hb3.block _ (by have := (hC.u x hx).1; have := HG1.out.size; omega)⟩ : w3.heap[w.heap.size]? = some (.cells #[.int .i64 ti, .string ts, .slice tq tn tc] 30 (0, 0)) ∧ TyQ (· ∈ c.U) w3 (.agg #[.int .i64 ti, .string ts, .slice tq tn tc]) t)
 have HCH3 := Lib.hid (show Chg (· = c.fb) w w3 from (Chg.of_below HB1.out).trans (.of_below hb3))
 clear y0 y1 y2 hb3
 go_cut [] (fun wx => Hid (NMid c e ps kl rep pv t w.heap.size w (NumT c.f t) wx))
 case first =>
  cases t with
  | a nm xs =>
    have hi : ti < 0 := by
     obtain ⟨k', av, hk', e, _⟩ := tyQ_a.1 HBX.out.2; simp only [Value.agg.injEq, Array.mk.injEq, List.cons.injEq, Value.int.injEq] at e; omega
    have hd : decide ((0 : Int) ≤ ti) = false := by simp; omega
    go_wp2_with fail
    go_meet
    exact Lib.hid ⟨_, ti, ts, tq, tn, tc, HG3.out, HBX.out.1, HBX.out.2, ⟨rfl, fun n e => by cases e⟩, HCH3.out⟩
  | v nn =>
    obtain rfl : ti = (nn : Int) := by
     obtain ⟨s', q', m1, c', e⟩ := tyQ_v.1 HBX.out.2; simp only [Value.agg.injEq, Array.mk.injEq, List.cons.injEq, Value.int.injEq] at e; omega
    have hd : decide ((0 : Int) ≤ (nn : Int)) = true := by simp
    have hF := enters_of Tryd.func52 (by kernel_rfl) rfl
    go_wp2_with fail
    refine wp_region_held_drew (S := fun (u : World) => Chg (fun b => b = c.fb ∨ b = w.heap.size) w3 u) (by kernel_rfl) ((Chg.drew _)) (fun hHeld => ?_)
    refine wpAnyH_take (i := 0) (v := .pointer (some ⟨c.gb, 0, none⟩)) rfl (by kernel_rfl) (by kernel_rfl) (by kernel_rfl) (fun _ _ _ h => h) (Or.inl ⟨by rfl, fun w' hSw => by go_simp⟩) hHeld ?_
    refine wpAnyH_take (i := 1) (v := .pointer (some ⟨c.gb, 0, none⟩)) rfl (by kernel_rfl) (by kernel_rfl) (by kernel_rfl) (fun _ _ _ h => h) (Or.inl ⟨by rfl, fun w' hSw => by go_simp⟩) hHeld ?_
    refine wpAnyH_take (i := 2) (v := .pointer (some ⟨c.gb, 0, none⟩)) rfl (by kernel_rfl) (by kernel_rfl) (by kernel_rfl) (fun _ _ _ h => h) (Or.inl ⟨by rfl, fun w' hSw => by go_simp⟩) hHeld ?_
    refine wpAnyH_take (i := 3) (v := LKF c) rfl (by kernel_rfl) (by kernel_rfl) (by kernel_rfl) (fun _ _ _ h => h) (Or.inl ⟨by rfl, fun w' hSw => by have h := ent_cell (ent_chg HG3.out.gcell hSw (fun e => e.elim hC.neg.2.2.1 (fun e => by have h1 := HS0.out; have h2 := hC.low; omega))) 0 _ rfl; go_simp⟩) hHeld ?_
    refine wpAnyH_take (i := 4) (v := .pointer (some ⟨w.heap.size, 0, none⟩)) rfl (by kernel_rfl) (by kernel_rfl) (by kernel_rfl) (fun _ _ _ h => h) (Or.inl ⟨by rfl, fun w' hSw => by go_simp⟩) hHeld ?_
    try simp only [Act.put, List.getElem_toArray, List.getElem_cons_succ, List.getElem_cons_zero, List.setIfInBounds_toArray, List.set_cons_zero, List.set_cons_succ]
    refine wpAnyH_ready (rs := [5]) (by kernel_rfl) (by simp) ?_
    refine AllReadyH.cons rfl (fun K hK => ?_) AllReadyH.nil
    have y0 := ent_cell (w := w3.drew) HBX.out.1 0 _ rfl
    go_simp
    refine hK.out _ _ (.drew _) (fun hHeld => ?_)
    clear y0
    clear hK K
    refine wpAnyH_ready (rs := [6]) (by kernel_rfl) (by simp) ?_
    refine AllReadyH.cons rfl (fun K hK => ?_) AllReadyH.nil
    go_simp
    refine (look_any (· ∈ c.U) c.f hC.fine c.fc c.fb c.sc c.sb nn w3.drew (HG3.out.look.keep ((Below.refl _ _).drew))).mono ?_
    rintro e w4 ⟨r4, T4, rfl, hends, hty4, hlk4, hch4⟩
    replace hch4 : Chg (· = c.fb) w3 w4 := (Chg.drew w3).trans hch4
    obtain ⟨z0, z1, zq, zm, zc, rfl⟩ := tyQ_sh hty4
    have HG4 := Lib.hid (HG3.out.keep hC hch4 (fun b e => .inl e) hlk4)
    have HB4 := Lib.hid (ent_chg HBX.out.1 hch4 (fun e => by have h1 := HS0.out; have h2 := hC.low; omega))
    have HTY4 := Lib.hid hty4; have HEN := Lib.hid hends; have HCH4 := Lib.hid hch4
    clear hch4 hty4 hends hlk4
    refine hK.out _ _ (HCH4.out.mono fun _ _ e => .inl e) (fun hHeld => ?_)
    clear hK K
    refine wpAnyH_ready (rs := [7]) (by kernel_rfl) (by simp) ?_
    refine AllReadyH.cons rfl (fun K hK => ?_) AllReadyH.nil
    have y0 := ent_cell HB4.out 0 _ rfl
    have y1 := ent_cell HB4.out 1 _ rfl
    have y2 := ent_cell HB4.out 2 _ rfl
    have yf := ent_free HB4.out
    go_simp
    refine hK.out _ _ ((HCH4.out.mono fun _ _ e => .inl e).trans ((chg_set3 w4 w.heap.size _ _ _).mono fun _ _ e => .inr e)) (fun hHeld => ?_)
    clear y0 y1 y2 yf
    clear hK K
    refine wpAnyH_done (by kernel_rfl) ?_ _
    have HN5 : Hid (NMid c e ps kl rep pv (.v nn) w.heap.size w (NumT c.f (.v nn)) (((w4.setCell ⟨w.heap.size, 0, none⟩ (.int .i64 z0)).setCell ⟨w.heap.size, 1, none⟩ (.string z1)).setCell ⟨w.heap.size, 2, none⟩ (.slice zq zm zc))) := Lib.hid (by
     have hch := chg_set3 w4 w.heap.size (.int .i64 z0) (.string z1) (.slice zq zm zc)
     have hS := HS0.out
     have hpo : pv.ownBlock ≠ some w.heap.size := fun e => by have := (HG.out.own.lt _ e).2; omega
     refine ⟨T4, z0, z1, zq, zm, zc, HG4.out.keep hC hch (fun b e => .inr ⟨by omega, e ▸ hpo, fun cur hc => by rw [e, HB4.out] at hc; cases hc⟩) (HG4.out.look.chg hch (by have := hC.low; omega) fun x hx => by have := (hC.u x hx).1; omega), ent_set3 HB4.out _ _ _, tyQ_keep HTY4.out fun x hx => hch.block _ (by have := (hC.u x hx).1; have := HG4.out.size; omega) (by have := (hC.u x hx).1; omega), ⟨HEN.out, fun n e => ?_⟩, (HCH3.out.trans HCH4.out).then hch fun x hx e => by omega⟩
     rcases HEN.out.is with ⟨m, e2, hm⟩ | ⟨nm, xs, e2, _⟩
     · rw [e] at e2; injection e2 with e2; rw [e2]; exact hm
     · rw [e] at e2; cases e2)
    clear HBX HG3 HTY4 HEN HG4 HCH4
    generalize ((w4.setCell ⟨w.heap.size, 0, none⟩ (.int .i64 z0)).setCell ⟨w.heap.size, 1, none⟩ (.string z1)).setCell ⟨w.heap.size, 2, none⟩ (.slice zq zm zc) = w6 at *
    go_wp2_with fail
    go_meet
    exact HN5
 case rest =>
  clear HBX HG3 HCH3
  obtain ⟨T, i, s, q, m, cc, k1, k2, k3, k4, k5⟩ := hcut.out
  clear hcut
  have HG6 := Lib.hid k1; have HBX := Lib.hid k2; have HTY := Lib.hid k3; have HNT := Lib.hid k4; have HCH := Lib.hid k5
  clear k1 k2 k3 k4 k5
  have y0 := ent_cell HBX.out 0 _ rfl
  have y1 := ent_cell HBX.out 1 _ rfl
  have y2 := ent_cell HBX.out 2 _ rfl
  cases T with
  | a nm xs =>
    have hi : i < 0 := by
     obtain ⟨k', av, hk', e, _⟩ := tyQ_a.1 HTY.out; simp only [Value.agg.injEq, Array.mk.injEq, List.cons.injEq, Value.int.injEq] at e; omega
    have hd : decide ((0 : Int) ≤ i) = false := by simp; omega
    go_wp2_with fail
    refine (isVar_any i (.string s) (.slice q m cc) wc).mono ?_
    rintro e w7 ⟨rfl, hb7⟩
    have HG7 := Lib.hid (HG6.out.below hC hb7)
    have HB7 := Lib.hid hb7
    have z0 := ent_cell (ent_below HBX.out hb7) 0 _ rfl
    have z1 := ent_cell (ent_below HBX.out hb7) 1 _ rfl
    have z2 := ent_cell (ent_below HBX.out hb7) 2 _ rfl
    clear hb7 y0 y1 y2
    go_wp2_with fail
    refine (add_any c.gb c.y0 ps.length (LKF c) (.map (some c.vb)) (.map (some c.lb)) pv (pcells ps) i s q m cc w7 HG7.out.gcell HG7.out.own (by have := HN.out; omega) HG7.out.size.1).mono ?_
    rintro e w8 ⟨rfl, pv', hg8, ho8, hch8, hl8⟩
    go_wp2_with fail
    go_ret
    have hq : ∀ x, x ∈ c.U → w7.heap[x.1]? = wc.heap[x.1]? := fun x hx => HB7.out.block _ (by have := (hC.u x hx).1; have := HG6.out.size; omega)
    obtain ⟨L, v1, v2, v3⟩ := HG7.out.vars
    have hnv : ∀ v, (Ux.Ty.a nm xs) ≠ .v v := fun v e => by cases e
    have hpush := HG7.out.push (p := ⟨i, s, q, m, cc, .a nm xs, ps.length, 0⟩) hC (hch8.mono fun b _ e => e.elim .inl fun e => .inr (.inr e)) hg8 ho8 hl8 rfl (tyQ_keep HTY.out hq) (fun v e => absurd e (hnv v)) ⟨L, v1.keep (hch8.block _ v1.lt fun e => e.elim hC.neg.1.symm (HG7.out.outl hC (.inl hC.low.2.1))) fun _ _ => trivial, fun v val hv => ?_, fun i q v hi hv => ?_⟩
    · refine ⟨ps.length, _, pv', rfl, hpush, ?_, ?_, ⟨_, List.getElem?_concat_length, HNT.out.1⟩, .inr ⟨_, rfl, rfl, rfl, rfl⟩⟩
      · refine ((HCH.out.mono fun b _ e => .inr (.inr (.inl e))).trans (.of_below HB7.out)).then hch8 fun x _ e => e.elim .inl fun e => .inr (.inr (.inr e))
      · exact hl8.imp id fun h g hg => by have := h g hg; have := HCH.out.size; have := HB7.out.size; omega
    · obtain ⟨j, qq, a1, a2, a3⟩ := v2 v val hv
      exact ⟨j, qq, a1, by rw [List.getElem?_append_left (List.getElem?_eq_some_iff.1 a2).1]; exact a2, a3⟩
    · rcases Nat.lt_or_ge i ps.length with hlt | hge
      · rw [List.getElem?_append_left hlt] at hi; exact v3 i q v hi hv
      · exfalso
        rw [List.getElem?_append_right hge] at hi
        have := List.mem_of_getElem? hi
        rw [List.mem_singleton] at this
        rw [this] at hv; exact hnv v hv
  | v mm =>
    obtain rfl : i = (mm : Int) := by
     obtain ⟨s', q', m1, c', e⟩ := tyQ_v.1 HTY.out; simp only [Value.agg.injEq, Array.mk.injEq, List.cons.injEq, Value.int.injEq] at e; omega
    have hd : decide ((0 : Int) ≤ (mm : Int)) = true := by simp
    obtain ⟨L, v1, v2, v3⟩ := HG6.out.vars
    have HV1 := Lib.hid v1; have HV2 := Lib.hid v2; have HV3 := Lib.hid v3
    clear v1 v2 v3
    go_wp2_with fail
    refine (isVar_any mm (.string s) (.slice q m cc) wc).mono ?_
    rintro e w7 ⟨rfl, hb7⟩
    have HG7 := Lib.hid (HG6.out.below hC hb7)
    have HB7 := Lib.hid (ent_below HBX.out hb7)
    have HBB7 := Lib.hid hb7
    have HL7 := Lib.hid (HV1.out.keep (w' := w7) (hb7.block _ HV1.out.lt) fun _ _ => trivial)
    clear hb7 y0 y1 y2
    cases hlk : lookL (mm : Int) L with
    | some val =>
      obtain ⟨ii, qq, rfl, a2, a3⟩ := HV2.out mm val hlk
      have HLK := Lib.hid (show ∀ w' : World, Below w7.heap.size w7 w' → (Instr.lookup 80 (.map (some c.vb)) (.int .i64 (mm : Int)) true).run Tryd.prog w' = .ok (.tuple #[.int .i64 ii, .bool true]) w' from fun w' hb => by
       have := ((HL7.out.keep (w' := w') (hb.block _ HL7.out.lt) fun _ _ => trivial).look lawI Tryd.underlying80 (z := .int .i64 0) (by kernel_rfl) (mm : Int) trivial).2
       rw [hlk] at this
       simpa only [encInt, Option.getD_some, Option.isSome_some] using this)
      have HA := Lib.hid (⟨a2, a3⟩ : ps[ii]? = some qq ∧ qq.D = .v mm)
      clear hlk a2 a3
      go_wp2_with fail
      refine wp_region_held_drew (S := fun (u : World) => Below w7.heap.size w7 u) (by kernel_rfl) ((Below.refl _ _).drew) (fun hHeld => ?_)
      refine wpAnyH_take (i := 0) (v := .pointer (some ⟨c.gb, 0, none⟩)) rfl (by kernel_rfl) (by kernel_rfl) (by kernel_rfl) (fun _ _ _ h => h) (Or.inl ⟨by rfl, fun w' hSw => by go_simp⟩) hHeld ?_
      refine wpAnyH_take (i := 1) (v := .pointer (some ⟨c.gb, 0, none⟩)) rfl (by kernel_rfl) (by kernel_rfl) (by kernel_rfl) (fun _ _ _ h => h) (Or.inl ⟨by rfl, fun w' hSw => by go_simp⟩) hHeld ?_
      refine wpAnyH_take (i := 2) (v := .pointer (some ⟨c.gb, 2, none⟩)) rfl (by kernel_rfl) (by kernel_rfl) (by kernel_rfl) (fun _ _ _ h => h) (Or.inl ⟨by rfl, fun w' hSw => by go_simp⟩) hHeld ?_
      refine wpAnyH_take (i := 3) (v := .map (some c.vb)) rfl (by kernel_rfl) (by kernel_rfl) (by kernel_rfl) (fun _ _ _ h => h) (Or.inl ⟨by rfl, fun w' hSw => by have h := ent_cell (ent_below HG7.out.gcell hSw) 2 _ rfl; go_simp⟩) hHeld ?_
      refine wpAnyH_take (i := 4) (v := .pointer (some ⟨w.heap.size, 0, none⟩)) rfl (by kernel_rfl) (by kernel_rfl) (by kernel_rfl) (fun _ _ _ h => h) (Or.inl ⟨by rfl, fun w' hSw => by go_simp⟩) hHeld ?_
      refine wpAnyH_take (i := 5) (v := .int .i64 mm) rfl (by kernel_rfl) (by kernel_rfl) (by kernel_rfl) (fun _ _ _ h => h) (Or.inl ⟨by rfl, fun w' hSw => by have h := ent_cell (ent_below HB7.out hSw) 0 _ rfl; go_simp⟩) hHeld ?_
      refine wpAnyH_take (i := 6) (v := .tuple #[.int .i64 ii, .bool true]) rfl (by kernel_rfl) (by kernel_rfl) (by kernel_rfl) (fun _ _ _ h => h) (Or.inl ⟨by rfl, fun w' hSw => by have h := HLK.out w' hSw; go_simp⟩) hHeld ?_
      refine wpAnyH_take (i := 7) (v := .tuple #[.int .i64 ii, .bool true]) rfl (by kernel_rfl) (by kernel_rfl) (by kernel_rfl) (fun _ _ _ h => h) (Or.inl ⟨by rfl, fun w' hSw => by go_simp⟩) hHeld ?_
      refine wpAnyH_take (i := 8) (v := .int .i64 ii) rfl (by kernel_rfl) (by kernel_rfl) (by kernel_rfl) (fun _ _ _ h => h) (Or.inl ⟨by rfl, fun w' hSw => by go_simp⟩) hHeld ?_
      refine wpAnyH_take (i := 9) (v := .bool true) rfl (by kernel_rfl) (by kernel_rfl) (by kernel_rfl) (fun _ _ _ h => h) (Or.inl ⟨by rfl, fun w' hSw => by go_simp⟩) hHeld ?_
      refine wpAnyH_take (i := 10) (v := .int .i64 ii) rfl (by kernel_rfl) (by kernel_rfl) (by kernel_rfl) (fun _ _ _ h => h) (Or.inl ⟨by rfl, fun w' hSw => by go_simp⟩) hHeld ?_
      simp only [Act.put, List.getElem_toArray, List.getElem_cons_succ, List.getElem_cons_zero, List.setIfInBounds_toArray, List.set_cons_zero, List.set_cons_succ]
      refine wpAnyH_take (i := 11) (v := .bool true) rfl (by kernel_rfl) (by kernel_rfl) (by kernel_rfl) (fun _ _ _ h => h) (Or.inl ⟨by rfl, fun w' hSw => by go_simp⟩) hHeld ?_
      simp only [Act.put, List.getElem_toArray, List.getElem_cons_succ, List.getElem_cons_zero, List.setIfInBounds_toArray, List.set_cons_zero, List.set_cons_succ]
      try simp only [Act.put, List.getElem_toArray, List.getElem_cons_succ, List.getElem_cons_zero, List.setIfInBounds_toArray, List.set_cons_zero, List.set_cons_succ]
      refine wpAnyH_done (by kernel_rfl) ?_ _
      go_wp2_with fail
      go_ret
      have hb8 : Below w7.heap.size w7 w7.drew := (Below.refl _ _).drew
      have hgst := HG7.out.below hC hb8
      exact ⟨ii, ps, pv, rfl, ⟨hgst.gcell, hgst.own, hgst.ty, hgst.free, hgst.vars, hgst.lists, hgst.cont, hgst.look, hgst.size, hgst.pz, by obtain ⟨ls, c1, c2, c3, c4⟩ := hgst.cnt; exact ⟨ls, c1, c2, c3, by omega⟩, hgst.tree, hgst.outr⟩, ((HCH.out.mono fun b _ e => .inr (.inr (.inl e))).trans (.of_below HBB7.out)).trans (.of_below hb8), .inl rfl, ⟨qq, HA.out.1, by rw [HA.out.2]; exact HNT.out.1⟩, .inl rfl⟩
    | none =>
      have HLK := Lib.hid (show ∀ w' : World, Below w7.heap.size w7 w' → (Instr.lookup 80 (.map (some c.vb)) (.int .i64 (mm : Int)) true).run Tryd.prog w' = .ok (.tuple #[.int .i64 0, .bool false]) w' from fun w' hb => by
       have := ((HL7.out.keep (w' := w') (hb.block _ HL7.out.lt) fun _ _ => trivial).look lawI Tryd.underlying80 (z := .int .i64 0) (by kernel_rfl) (mm : Int) trivial).2
       rw [hlk] at this
       simpa only [encInt, Option.getD_none, Option.isSome_none] using this)
      have HNL := Lib.hid hlk
      clear hlk
      go_wp2_with fail
      refine wp_region_held_drew (S := fun (u : World) => Below w7.heap.size w7 u) (by kernel_rfl) ((Below.refl _ _).drew) (fun hHeld => ?_)
      refine wpAnyH_take (i := 0) (v := .pointer (some ⟨c.gb, 0, none⟩)) rfl (by kernel_rfl) (by kernel_rfl) (by kernel_rfl) (fun _ _ _ h => h) (Or.inl ⟨by rfl, fun w' hSw => by go_simp⟩) hHeld ?_
      refine wpAnyH_take (i := 1) (v := .pointer (some ⟨c.gb, 0, none⟩)) rfl (by kernel_rfl) (by kernel_rfl) (by kernel_rfl) (fun _ _ _ h => h) (Or.inl ⟨by rfl, fun w' hSw => by go_simp⟩) hHeld ?_
      refine wpAnyH_take (i := 2) (v := .pointer (some ⟨c.gb, 2, none⟩)) rfl (by kernel_rfl) (by kernel_rfl) (by kernel_rfl) (fun _ _ _ h => h) (Or.inl ⟨by rfl, fun w' hSw => by go_simp⟩) hHeld ?_
      refine wpAnyH_take (i := 3) (v := .map (some c.vb)) rfl (by kernel_rfl) (by kernel_rfl) (by kernel_rfl) (fun _ _ _ h => h) (Or.inl ⟨by rfl, fun w' hSw => by have h := ent_cell (ent_below HG7.out.gcell hSw) 2 _ rfl; go_simp⟩) hHeld ?_
      refine wpAnyH_take (i := 4) (v := .pointer (some ⟨w.heap.size, 0, none⟩)) rfl (by kernel_rfl) (by kernel_rfl) (by kernel_rfl) (fun _ _ _ h => h) (Or.inl ⟨by rfl, fun w' hSw => by go_simp⟩) hHeld ?_
      refine wpAnyH_take (i := 5) (v := .int .i64 mm) rfl (by kernel_rfl) (by kernel_rfl) (by kernel_rfl) (fun _ _ _ h => h) (Or.inl ⟨by rfl, fun w' hSw => by have h := ent_cell (ent_below HB7.out hSw) 0 _ rfl; go_simp⟩) hHeld ?_
      refine wpAnyH_take (i := 6) (v := .tuple #[.int .i64 0, .bool false]) rfl (by kernel_rfl) (by kernel_rfl) (by kernel_rfl) (fun _ _ _ h => h) (Or.inl ⟨by rfl, fun w' hSw => by have h := HLK.out w' hSw; go_simp⟩) hHeld ?_
      refine wpAnyH_take (i := 7) (v := .tuple #[.int .i64 0, .bool false]) rfl (by kernel_rfl) (by kernel_rfl) (by kernel_rfl) (fun _ _ _ h => h) (Or.inl ⟨by rfl, fun w' hSw => by go_simp⟩) hHeld ?_
      refine wpAnyH_take (i := 8) (v := .int .i64 0) rfl (by kernel_rfl) (by kernel_rfl) (by kernel_rfl) (fun _ _ _ h => h) (Or.inl ⟨by rfl, fun w' hSw => by go_simp⟩) hHeld ?_
      refine wpAnyH_take (i := 9) (v := .bool false) rfl (by kernel_rfl) (by kernel_rfl) (by kernel_rfl) (fun _ _ _ h => h) (Or.inl ⟨by rfl, fun w' hSw => by go_simp⟩) hHeld ?_
      refine wpAnyH_take (i := 10) (v := .int .i64 0) rfl (by kernel_rfl) (by kernel_rfl) (by kernel_rfl) (fun _ _ _ h => h) (Or.inl ⟨by rfl, fun w' hSw => by go_simp⟩) hHeld ?_
      simp only [Act.put, List.getElem_toArray, List.getElem_cons_succ, List.getElem_cons_zero, List.setIfInBounds_toArray, List.set_cons_zero, List.set_cons_succ]
      refine wpAnyH_take (i := 11) (v := .bool false) rfl (by kernel_rfl) (by kernel_rfl) (by kernel_rfl) (fun _ _ _ h => h) (Or.inl ⟨by rfl, fun w' hSw => by go_simp⟩) hHeld ?_
      simp only [Act.put, List.getElem_toArray, List.getElem_cons_succ, List.getElem_cons_zero, List.setIfInBounds_toArray, List.set_cons_zero, List.set_cons_succ]
      try simp only [Act.put, List.getElem_toArray, List.getElem_cons_succ, List.getElem_cons_zero, List.setIfInBounds_toArray, List.set_cons_zero, List.set_cons_succ]
      refine wpAnyH_done (by kernel_rfl) ?_ _
      have hb8 : Below w7.heap.size w7 w7.drew := (Below.refl _ _).drew
      have HG8 := Lib.hid (HG7.out.below hC hb8)
      have HB8 := Lib.hid (ent_below HB7.out hb8)
      have HL8 := Lib.hid (HL7.out.keep (w' := w7.drew) (hb8.block _ HL7.out.lt) fun _ _ => trivial)
      have HBB8 := Lib.hid (HBB7.out.trans (hb8.mono HBB7.out.size))
      clear hb8 HG7 HB7 HL7 HLK
      generalize w7.drew = w8 at *
      have y0 := ent_cell HB8.out 0 _ rfl
      go_wp2_with fail
      refine (var_any mm w8).mono ?_
      rintro e w8b ⟨rfl, hb⟩
      have HG8b := Lib.hid (HG8.out.below hC hb)
      have HB8b := Lib.hid (ent_below HB8.out hb)
      have HL8b := Lib.hid (HL8.out.keep (w' := w8b) (hb.block _ HL8.out.lt) fun _ _ => trivial)
      have HBB8b := Lib.hid (HBB8.out.trans (hb.mono HBB8.out.size))
      clear hb y0 HG8 HB8 HL8 HBB8
      go_wp2_with fail
      refine (add_any c.gb c.y0 ps.length (LKF c) (.map (some c.vb)) (.map (some c.lb)) pv (pcells ps) mm ⟨#[]⟩ none 0 0 w8b HG8b.out.gcell HG8b.out.own (by have := HN.out; omega) HG8b.out.size.1).mono ?_
      rintro e w9 ⟨rfl, pv', hg9, ho9, hch9, hl9⟩
      have hpot : pv.ownBlock ≠ some w.heap.size := fun e => by have := (HG.out.own.lt _ e).2; omega
      have HG9 := Lib.hid hg9; have HO9 := Lib.hid ho9; have HCH9 := Lib.hid hch9; have HL9' := Lib.hid hl9
      have HB9 := Lib.hid (ent_chg HB8b.out hch9 fun e => e.elim (fun e => by have h1 := HS0.out; have h2 := hC.low; omega) hpot)
      have HL9 := Lib.hid (HL8b.out.keep (w' := w9) (hch9.block _ HL8b.out.lt fun e => e.elim hC.neg.1.symm (HG8b.out.outl hC (.inl hC.low.2.1))) fun _ _ => trivial)
      clear hg9 ho9 hch9 hl9 hpot
      go_wp2_with fail
      refine wp_region_held_drew (S := fun (u : World) => Chg (· = c.vb) w9 u) (by kernel_rfl) ((Chg.drew _)) (fun hHeld => ?_)
      refine wpAnyH_take (i := 0) (v := .pointer (some ⟨c.gb, 0, none⟩)) rfl (by kernel_rfl) (by kernel_rfl) (by kernel_rfl) (fun _ _ _ h => h) (Or.inl ⟨by rfl, fun w' hSw => by go_simp⟩) hHeld ?_
      refine wpAnyH_take (i := 1) (v := .pointer (some ⟨c.gb, 0, none⟩)) rfl (by kernel_rfl) (by kernel_rfl) (by kernel_rfl) (fun _ _ _ h => h) (Or.inl ⟨by rfl, fun w' hSw => by go_simp⟩) hHeld ?_
      refine wpAnyH_take (i := 2) (v := .pointer (some ⟨c.gb, 2, none⟩)) rfl (by kernel_rfl) (by kernel_rfl) (by kernel_rfl) (fun _ _ _ h => h) (Or.inl ⟨by rfl, fun w' hSw => by go_simp⟩) hHeld ?_
      refine wpAnyH_take (i := 3) (v := .map (some c.vb)) rfl (by kernel_rfl) (by kernel_rfl) (by kernel_rfl) (fun _ _ _ h => h) (Or.inl ⟨by rfl, fun w' hSw => by have h := ent_cell (ent_chg HG9.out hSw hC.neg.1) 2 _ rfl; go_simp⟩) hHeld ?_
      refine wpAnyH_take (i := 4) (v := .pointer (some ⟨w.heap.size, 0, none⟩)) rfl (by kernel_rfl) (by kernel_rfl) (by kernel_rfl) (fun _ _ _ h => h) (Or.inl ⟨by rfl, fun w' hSw => by go_simp⟩) hHeld ?_
      refine wpAnyH_take (i := 5) (v := .int .i64 mm) rfl (by kernel_rfl) (by kernel_rfl) (by kernel_rfl) (fun _ _ _ h => h) (Or.inl ⟨by rfl, fun w' hSw => by have h := ent_cell (ent_chg HB9.out hSw (by have := hC.low; have := HS0.out; omega)) 0 _ rfl; go_simp⟩) hHeld ?_
      refine wpAnyH_take (i := 6) (v := .int .i64 (ps.length : Int)) rfl (by kernel_rfl) (by kernel_rfl) (by kernel_rfl) (fun _ _ _ h => h) (Or.inl ⟨by rfl, fun w' hSw => by go_simp⟩) hHeld ?_
      try simp only [Act.put, List.getElem_toArray, List.getElem_cons_succ, List.getElem_cons_zero, List.setIfInBounds_toArray, List.set_cons_zero, List.set_cons_succ]
      refine wpAnyH_ready (rs := [7]) (by kernel_rfl) (by simp) ?_
      refine AllReadyH.cons rfl (fun K hK => ?_) AllReadyH.nil
      obtain ⟨wu, hup, hmk, hgr⟩ := (HL9.out.keep (w' := w9.drew) rfl fun _ _ => trivial).update lawI Tryd.underlying80 (mm : Int) trivial (.int .i64 (ps.length : Int)) (fun _ _ _ _ _ => trivial)
      have hchu : Chg (· = c.vb) w9 wu := (Chg.drew w9).trans (Chg.grown hgr fun k hk => by injection hk with hk; exact hk.symm)
      replace hup : (Instr.mapUpdate 80 (.map (some c.vb)) (.int .i64 (mm : Int)) (.int .i64 (ps.length : Int))).run Tryd.prog w9.drew = .ok () wu := hup
      have HMK := Lib.hid hmk
      have HCHU := Lib.hid hchu
      clear hmk hgr hchu
      go_simp
      refine hK.out _ _ HCHU.out (fun hHeld => ?_)
      clear hup
      clear hK K
      refine wpAnyH_done (by kernel_rfl) ?_ _
      go_wp2_with fail
      go_ret
      have hch : Chg (fun b => b = c.gb ∨ b = c.vb ∨ pv.ownBlock = some b) w8b wu := (HCH9.out.mono fun b _ e => e.elim .inl fun e => .inr (.inr e)).then HCHU.out fun x _ e => .inr (.inl e)
      have hpv' : pv'.ownBlock ≠ some c.vb := fun e => by
       have h1 := HL9'.out
       have h2 := hC.low.2.1
       rcases h1 with h1 | h1
       · exact HG8b.out.outl hC (.inl h2) (h1 ▸ e)
       · have := h1 _ e; have := HG8b.out.size; omega
      have hpush := HG8b.out.push (p := ⟨mm, ⟨#[]⟩, none, 0, 0, .v mm, ps.length, 0⟩) hC hch (ent_chg HG9.out HCHU.out hC.neg.1) (own_chg HO9.out HCHU.out fun b hb e => hpv' (e ▸ hb)) HL9'.out rfl (tyQ_v.2 ⟨_, _, _, _, rfl⟩) (fun v e => by injection e with e; subst e; exact ⟨HNT.out.2 _ rfl, rfl⟩) ⟨_, HMK.out, fun v val hv => ?_, fun i q v hi hv => ?_⟩
      · refine ⟨ps.length, _, pv', rfl, hpush, ?_, ?_, ⟨_, List.getElem?_concat_length, HNT.out.1⟩, .inr ⟨_, rfl, rfl, rfl, rfl⟩⟩
        · refine ((HCH.out.mono fun b _ e => .inr (.inr (.inl e))).trans (.of_below HBB8b.out)).then hch fun x _ e => ?_
          rcases e with e | e | e
          · exact .inl e
          · exact .inr (.inl e)
          · exact .inr (.inr (.inr e))
        · exact HL9'.out.imp id fun h g hg => by have := h g hg; have := HCH.out.size; have := HBB8b.out.size; omega
      · rw [lookL_set] at hv
        by_cases e : (v : Int) = (mm : Int)
        · obtain rfl : v = mm := by omega
          rw [if_pos rfl] at hv; injection hv with hv; subst hv
          exact ⟨ps.length, _, rfl, List.getElem?_concat_length, rfl⟩
        · rw [if_neg e] at hv
          obtain ⟨j, qq, a1, a2, a3⟩ := HV2.out v val hv
          exact ⟨j, qq, a1, by rw [List.getElem?_append_left (List.getElem?_eq_some_iff.1 a2).1]; exact a2, a3⟩
      · rw [lookL_set]
        rcases Nat.lt_or_ge i ps.length with hlt | hge
        · rw [List.getElem?_append_left hlt] at hi
          have h1 := HV3.out i q v hi hv
          by_cases e : (v : Int) = (mm : Int)
          · rw [e, HNL.out] at h1; cases h1
          · rw [if_neg e]; exact h1
        · rw [List.getElem?_append_right hge] at hi
          have h2 : i = ps.length := by
           rcases Nat.lt_or_ge ps.length i with hl | hl
           · rw [List.getElem?_eq_none (by simp; omega)] at hi; cases hi
           · omega
          subst h2
          simp only [Nat.sub_self, List.getElem?_cons_zero, Option.some.injEq] at hi
          subst hi
          injection hv with hv; subst hv
          rw [if_pos rfl]
end Go.Proofs.YtcblppojnailpaaDoor
namespace Go.Proofs.YtcblppojnailpaaDoor
open Go Go.RowKit
set_option linter.unusedVariables false
set_option linter.unusedSimpArgs false
theorem madeInts (n : Nat) (hn : n ≤ 100000000000) (w : World) : ∃ cs : Array Value, cs.size = n ∧ (Instr.makeSlice 42 (.int .i64 (n : Int)) (.int .i64 (n : Int))).run Tryd.prog w = .ok (.slice (some ⟨w.heap.size, 0, none⟩) n n) (w.alloc (.cells cs 3)) := by
 obtain ⟨i, hi, hz, hs, hb⟩ := infoParts eltInt.inf
 have hr := run_make (P := Tryd.prog) w 42 3 i _ Tryd.underlying42 hi hz .i64 .i64 n n (by omega) (Int.le_refl _) (by rw [hb]; omega) (by omega)
 simp only [Int.toNat_natCast, hs, Nat.mul_one] at hr
 exact ⟨_, size_madeCells _ _, hr⟩
/-- What args hands back. -/
def IntsV (c : GCx) (w : World) (v : Value) (ks : List Nat) : Prop := (ks = [] ∧ v = .slice none 0 0) ∨ (ks ≠ [] ∧ IntsAt c w v ks)
theorem nk_gk {c : GCx} {pv : Value} {a b : World} (h : Chg (NKeep c pv) a b) : Chg (GKeep c pv) a b := h.mono fun _ _ => NKeep.gk
theorem nk_trans {c : GCx} {pv pv' : Value} {a b d : World} (h1 : Chg (NKeep c pv) a b) (hl : pv'.ownBlock = pv.ownBlock ∨ ∀ g, pv'.ownBlock = some g → a.heap.size ≤ g) (h2 : Chg (NKeep c pv') b d) : Chg (NKeep c pv) a d :=
 h1.then h2 fun x hx hr => by
  rcases hr with hr | hr | hr | hr
  · exact .inl hr
  · exact .inr (.inl hr)
  · exact .inr (.inr (.inl hr))
  · rcases hl with hl | hl
    · exact .inr (.inr (.inr (hl ▸ hr)))
    · have := hl x hr; omega
def ArgsPost (c : GCx) (ps : List Prt) (kl : LKey → Option (List Nat)) (rep : Nat → Nat) (pv : Value) (p : Prt) (w : World) (en : Ending) (w' : World) : Prop :=
 ∃ v ks ex kl' pv', en = .returned v ∧ GSt c 2 w' (ps ++ ex) kl' rep pv' ∧ Chg (GKeep c pv) w w' ∧ (pv'.ownBlock = pv.ownBlock ∨ ∀ g, pv'.ownBlock = some g → w.heap.size ≤ g) ∧ kidsOf kl' p = some ks ∧ IntsV c w' v ks ∧
  (∀ x ls, kl x = some ls → kl' x = some ls) ∧ (∀ q ∈ ex, q.st = 0) ∧ ∀ j, ps.length ≤ j → j < (ps ++ ex).length → j ∈ ks
section
variable {c : GCx} {e : Nat} {w w' : World} {ps : List Prt} {kl : LKey → Option (List Nat)} {rep : Nat → Nat} {pv : Value}
theorem GSt.gk (h : GSt c e w ps kl rep pv) (hc : c.Ok) {b : Nat} (h1 : Fz c b) (h2 : b ≠ c.gb) (h3 : b ≠ c.vb) (h4 : b ≠ c.lb) (h5 : b ≠ c.fb) : ¬ GKeep c pv b := fun hr => by
 rcases hr with hr | hr | hr | hr | hr
 · exact h2 hr
 · exact h3 hr
 · exact h4 hr
 · exact h5 hr
 · exact h.outl hc h1 hr
theorem GSt.gkq (h : GSt c e w ps kl rep pv) (hc : c.Ok) {x : LKey} (hx : x ∈ c.U) : ¬ GKeep c pv x.1 := let h0 := hc.u x hx; h.gk hc h0.1 h0.2.1 h0.2.2.1 h0.2.2.2.1 h0.2.2.2.2
theorem GSt.gkint (h : GSt c e w ps kl rep pv) (hc : c.Ok) {b : Nat} {cur : Array Value} {T : TypeId} (hy : ¬ Fz c b) (hb : w.heap[b]? = some (.cells cur T (0, 0))) (hT : T ≠ 104) : ¬ GKeep c pv b := fun hr => by
 have := hc.low
 rcases hr with hr | hr | hr | hr | hr
 · omega
 · omega
 · omega
 · omega
 · exact own_ne h.own hb (fun cs e => by injection e with _ e _; exact hT e) hr
theorem gk_trans {c : GCx} {pv pv' : Value} {a b d : World} (h1 : Chg (GKeep c pv) a b) (hl : pv'.ownBlock = pv.ownBlock ∨ ∀ g, pv'.ownBlock = some g → a.heap.size ≤ g) (h2 : Chg (GKeep c pv') b d) : Chg (GKeep c pv) a d :=
 h1.then h2 fun x hx hr => by
  rcases hr with hr | hr | hr | hr | hr
  · exact .inl hr
  · exact .inr (.inl hr)
  · exact .inr (.inr (.inl hr))
  · exact .inr (.inr (.inr (.inl hr)))
  · rcases hl with hl | hl
    · exact .inr (.inr (.inr (.inr (hl ▸ hr))))
    · have := hl x hr; omega
theorem loc_trans {pv pv' pv2 : Value} {a b : World} (hs : a.heap.size ≤ b.heap.size) (h1 : pv'.ownBlock = pv.ownBlock ∨ ∀ g, pv'.ownBlock = some g → a.heap.size ≤ g) (h2 : pv2.ownBlock = pv'.ownBlock ∨ ∀ g, pv2.ownBlock = some g → b.heap.size ≤ g) : pv2.ownBlock = pv.ownBlock ∨ ∀ g, pv2.ownBlock = some g → a.heap.size ≤ g := by
 rcases h2 with h2 | h2
 · rw [h2]; exact h1
 · exact .inr fun g hg => Nat.le_trans hs (h2 g hg)
theorem GSt.slack {e' : Nat} (h : GSt c e w ps kl rep pv) (he : e ≤ e') : GSt c e' w ps kl rep pv :=
 ⟨h.gcell, h.own, h.ty, h.free, h.vars, h.lists, h.cont, h.look, h.size, h.pz, by obtain ⟨ls, c1, c2, c3, c4⟩ := h.cnt; exact ⟨ls, c1, c2, c3, by omega⟩, h.tree, h.outr⟩
/-- A list has numbers now. -/
theorem GSt.setK {x : LKey} {ks : List Nat} {val : Value} {m : Nat} (h : GSt c (e + m) w ps kl rep pv) (hc : c.Ok) (hch : Chg (· = c.lb) w w') (hx : x ∈ c.U) (hm : x.2.2 = m) (hpos : 0 < m) (hn : kl x = none) (hks : ks.length = m)
 (hL : ∃ L, MapK encL (FreeQ (· ∈ c.U)) w c.lb L ∧ (∀ (y : LKey) (val : Value), lookL y L = some val → ∃ ks, kl y = some ks ∧ IntsAt c w val ks) ∧ (∀ y, lookL y L = none → kl y = none) ∧ MapK encL (FreeQ (· ∈ c.U)) w' c.lb (setL x val L)) (hi : IntsAt c w val ks)
 {xs : List Ux.Ty} {cp : Nat} (hrow : RowQ (· ∈ c.U) (TyQ (· ∈ c.U) w) w (.slice (some ⟨x.1, x.2.1, none⟩) x.2.2 cp) xs) (hcont : ∀ (k : Nat) (y : Ux.Ty) (cc : Nat), xs[k]? = some y → ks[k]? = some cc → ∃ pc, ps[cc]? = some pc ∧ NumOf c.f y pc.D) :
 GSt c e w' ps (fun y => if y = x then some ks else kl y) rep pv := by
 obtain ⟨l1, l2, l3, l4, l5, l6, l7⟩ := hc.low
 obtain ⟨n1, n2, n3, n4, n5, n6⟩ := hc.ne
 obtain ⟨g1, g2, g3, g4, g5, g6⟩ := hc.neg
 obtain ⟨e1, e2, e3, e4, e5, e6⟩ := hc.nec
 have hq : ∀ x, x ∈ c.U → w'.heap[x.1]? = w.heap[x.1]? := fun x hx => hch.block _ (by have := (hc.u x hx).1; have := h.size; omega) (hc.u x hx).2.2.2.1
 obtain ⟨V, v1, v2, v3⟩ := h.vars
 obtain ⟨L, m1, m2, m3, m4⟩ := hL
 obtain ⟨ls, c1, c2, c3, c4⟩ := h.cnt
 have hik : ∀ val ks, IntsAt c w val ks → IntsAt c w' val ks := fun val ks hh => hh.keep fun b cur hb hcur => hch.block _ (ent_lt hcur) (by omega)
 have hxl : x ∉ ls := fun hh => (c3 x).2 hh hn
 refine ⟨ent_chg h.gcell hch g2, own_chg h.own hch fun b hb hr => h.pz b hb (.inl (hr ▸ l3)), fun p hp => tyQ_keep (h.ty p hp) hq, h.free, ⟨V, v1.keep (hch.block _ v1.lt n1) fun _ _ => trivial, v2, v3⟩, ⟨_, m4, fun y v hv => ?_, fun y hy => ?_⟩, fun y kk hk => ?_, h.look.chg hch ⟨e2, n3.symm, e5, n5⟩ fun y hy => (hc.u y hy).2.2.2.1, (by have := h.size; have := hch.size; omega), h.pz, ⟨x :: ls, List.nodup_cons.2 ⟨hxl, c1⟩, fun y hy => (List.mem_cons.1 hy).elim (fun e => e ▸ hx) (c2 y), fun y => ?_, ?_⟩, h.tree, h.outr⟩
 · rw [lookL_set] at hv
   by_cases e : y = x
   · rw [if_pos e] at hv; injection hv with hv; subst hv
     exact ⟨ks, by rw [if_pos e], hik _ _ hi⟩
   · rw [if_neg e] at hv
     obtain ⟨kk, a, b⟩ := m2 y v hv
     exact ⟨kk, by rw [if_neg e]; exact a, hik _ _ b⟩
 · rw [lookL_set] at hy
   by_cases e : y = x
   · rw [if_pos e] at hy; cases hy
   · rw [if_neg e] at hy; rw [if_neg e]; exact m3 y hy
 · by_cases e : y = x
   · rw [if_pos e] at hk; injection hk with hk; subst hk; subst e
     refine ⟨hx, by omega, by omega, fun xs' p' hrow' k z cc hz hcc => hcont k z cc ?_ hcc⟩
     have := rowQ_one hrow (hrow'.mono (fun y hy => ⟨hy, (hq y hy).symm⟩) fun u y _ hu => tyQ_keep hu fun z hz => (hq z hz).symm)
     rw [this]; exact hz
   · rw [if_neg e] at hk
     obtain ⟨a1, a2, a3, a4⟩ := h.cont y kk hk
     exact ⟨a1, a2, a3, fun xs' p' hrow' => a4 xs' p' (hrow'.mono (fun y hy => ⟨hy, (hq y hy).symm⟩) fun u y _ hu => tyQ_keep hu fun z hz => (hq z hz).symm)⟩
 · by_cases e : y = x
   · rw [if_pos e]; simp [e]
   · rw [if_neg e, List.mem_cons]
     exact ⟨fun hh => .inr ((c3 y).1 hh), fun hh => hh.elim (fun e2 => absurd e2 e) (c3 y).2⟩
 · have : llen (x :: ls) = x.2.2 + llen ls := by simp [llen]
   omega
end
/-- What the loop knows: so many have numbers. -/
def ArgL (c : GCx) (ps : List Prt) (kl : LKey → Option (List Nat)) (rep : Nat → Nat) (pv : Value) (xs : List Ux.Ty) (IB j : Nat) (w wr : World) : Prop :=
 ∃ (ks : List Nat) (ex : List Prt) (pv' : Value) (cur : Array Value), GSt c (2 + j) wr (ps ++ ex) kl rep pv' ∧ Chg (NKeep c pv) w wr ∧ (pv'.ownBlock = pv.ownBlock ∨ ∀ g, pv'.ownBlock = some g → w.heap.size ≤ g) ∧ ks.length = j ∧ wr.heap[IB]? = some (.cells cur 3 (0, 0)) ∧ cur.size = xs.length ∧
  (∀ (k cc : Nat), ks[k]? = some cc → cur[k]? = some (Value.int .i64 (cc : Int))) ∧ (∀ (k : Nat) (y : Ux.Ty) (cc : Nat), xs[k]? = some y → ks[k]? = some cc → ∃ pc, (ps ++ ex)[cc]? = some pc ∧ NumOf c.f y pc.D) ∧ (∀ q ∈ ex, q.st = 0) ∧ ∀ j, ps.length ≤ j → j < (ps ++ ex).length → j ∈ ks
set_option maxHeartbeats 4000000 in
set_option maxRecDepth 100000 in
theorem args_any (c : GCx) (hC : c.Ok) (ps : List Prt) (kl : LKey → Option (List Nat)) (rep : Nat → Nat) (pv : Value) (i : Nat) (p : Prt) (hp : ps[i]? = some p) (w : World) (h : GSt c 2 w ps kl rep pv) :
 Calls Tryd.prog 57 #[.pointer (some ⟨c.gb, 0, none⟩), .int .i64 i] w (ArgsPost c ps kl rep pv p w) := by
 obtain ⟨pp, pc, rfl⟩ := own_slice h.own
 have hi := (List.getElem?_eq_some_iff.1 hp).1
 obtain ⟨pb, cur, rfl, hpb, hpbl, hk2, hk3, hpe, hcell⟩ := own_open h.own (by omega)
 have o2 := hcell (i * 5 + 2) (.slice p.q p.m p.c) (by rw [pcells_at 2 hp (by decide)]; rfl)
 have g1 := ent_cell h.gcell 1 _ rfl
 have x2 := ent_cell hpe _ _ o2
 have hk1 : (i : Int) < (ps.length : Int) := by omega
 have hk4 : (ps.length : Int) ≤ (pc : Int) := by omega
 have HG := Lib.hid h
 have HP := Lib.hid hp
 have hty := h.ty p (List.mem_of_getElem? hp)
 have hfree := h.free p (List.mem_of_getElem? hp)
 by_cases hm : p.m = 0
 · rw [hm] at x2
   have HM := Lib.hid hm
   clear h hp hcell o2 hpe hty hfree hm hk2
   go_enter Tryd.func57, Tryd.ntmps57
   go_wp2_with fail
   go_ret
   exact ⟨_, [], [], kl, _, rfl, by rw [List.append_nil]; exact HG.out, .refl _ _, .inl rfl, by unfold kidsOf; rw [if_pos HM.out], .inl ⟨rfl, rfl⟩, fun _ _ h => h, fun q hq => (by cases hq), fun j h1 h2 => by rw [List.append_nil] at h2; omega⟩
 obtain ⟨nm, xs, hD⟩ : ∃ nm xs, p.D = .a nm xs := by
  cases hD : p.D with
  | v n => exact absurd (hfree n hD).2 hm
  | a nm xs => exact ⟨_, _, rfl⟩
 rw [hD] at hty
 obtain ⟨k', av, _, e, hrow⟩ := tyQ_a.1 hty
 simp only [Prt.ag, Value.agg.injEq, Array.mk.injEq, List.cons.injEq, and_true] at e
 obtain ⟨_, _, rfl⟩ := e
 have hrow0 := hrow
 rcases hrow with ⟨_, _, _, e⟩ | ⟨g, o, cp, cs, T, e, hne, hqq, hcp, hcx, hg, hel⟩
 · injection e with _ e _; exact absurd e hm
 injection e with e1 e2 e3
 have hpos : 0 < xs.length := List.length_pos_iff.2 hne
 rw [e1, e2, e3] at x2 hrow0
 have HX := Lib.hid (⟨hqq, hel⟩ : (g, o, xs.length) ∈ c.U ∧ ∀ i x, xs[i]? = some x → ∃ u, TyQ (· ∈ c.U) w u x ∧ u.cells.size = 3 ∧ ∀ j z, u.cells[j]? = some z → cs[o + i * 3 + j]? = some z)
 have HGE := Lib.hid hg
 have HROW := Lib.hid hrow0
 have HKD := Lib.hid (show kidsOf kl p = kl (g, o, xs.length) by unfold kidsOf; rw [if_neg hm, e1, e2])
 have HKD' := Lib.hid (show ∀ kl', kidsOf kl' p = kl' (g, o, xs.length) from fun kl' => by unfold kidsOf; rw [if_neg hm, e1, e2])
 obtain ⟨L, hL, hLf, hLn⟩ := h.lists
 have HL := Lib.hid hL; have HLF := Lib.hid hLf; have HLN := Lib.hid hLn
 have hne0 : ((xs.length : Int) == 0) = false := by simp; omega
 have hposI : (0 : Int) < (xs.length : Int) := by omega
 have hfree' : FreeQ (· ∈ c.U) w (g, o, xs.length) := ⟨hqq, _, _, hg⟩
 cases hlk : lookL (g, o, xs.length) L with
 | some val =>
   obtain ⟨ks, hks, hints⟩ := hLf _ _ hlk
   obtain ⟨ib, icap, icur, rfl, f1, f2, f3, f4, f5⟩ := hints
   have hksl := (h.cont _ _ hks).2.2.1
   have HLK := Lib.hid (show ∀ w' : World, Below w.heap.size w w' → (Instr.lookup 98 (.map (some c.lb)) (.agg #[.pointer (some ⟨g, o, none⟩), .int .i64 (xs.length : Int)]) true).run Tryd.prog w' = .ok (.tuple #[.slice (some ⟨ib, 0, none⟩) ks.length icap, .bool true]) w' from fun w' hb => by
    have hbq : ∀ x, x ∈ c.U → w'.heap[x.1]? = w.heap[x.1]? := fun x hx => hb.block _ (by have := (hC.u x hx).1; have := HG.out.size; omega)
    have := ((HL.out.keep (w' := w') (hb.block _ HL.out.lt) (freeQ_keep hbq)).look (lawLQ (· ∈ c.U)) Tryd.underlying98 (z := .slice none 0 0) (by kernel_rfl) (g, o, xs.length) ⟨HX.out.1, _, _, (hbq _ HX.out.1).trans HGE.out⟩).2
    rw [hlk] at this
    simpa only [encL, Option.getD_some, Option.isSome_some] using this)
   have HKS := Lib.hid (⟨hks, f1, f2, f3, f4, f5, by dsimp only at hksl; omega⟩ : kl (g, o, xs.length) = some ks ∧ ¬ Fz c ib ∧ ks.length ≤ icap ∧ (icap : Int) ≤ 9223372036854775807 ∧ w.heap[ib]? = some (.cells icur 3 (0, 0)) ∧ (∀ (j cc : Nat), ks[j]? = some cc → icur[j]? = some (Value.int .i64 (cc : Int))) ∧ 0 < ks.length)
   clear h hp hcell o2 hpe hty hfree hm hk2 hlk hks f1 f2 f3 f4 f5 hksl hrow0 hqq hel hg hne hL hLf hLn hfree' e1 e2 e3
   go_enter Tryd.func57, Tryd.ntmps57
   go_wp2_with fail
   refine wp_region_held_drew (S := fun (u : World) => Below w.heap.size w u) (by kernel_rfl) ((Below.refl _ _).drew) (fun hHeld => ?_)
   refine wpAnyH_take (i := 0) (v := .pointer (some ⟨c.gb, 0, none⟩)) rfl (by kernel_rfl) (by kernel_rfl) (by kernel_rfl) (fun _ _ _ h => h) (Or.inl ⟨by rfl, fun w' hSw => by go_simp⟩) hHeld ?_
   refine wpAnyH_take (i := 1) (v := .pointer (some ⟨c.gb, 0, none⟩)) rfl (by kernel_rfl) (by kernel_rfl) (by kernel_rfl) (fun _ _ _ h => h) (Or.inl ⟨by rfl, fun w' hSw => by go_simp⟩) hHeld ?_
   refine wpAnyH_take (i := 2) (v := .pointer (some ⟨c.gb, 3, none⟩)) rfl (by kernel_rfl) (by kernel_rfl) (by kernel_rfl) (fun _ _ _ h => h) (Or.inl ⟨by rfl, fun w' hSw => by go_simp⟩) hHeld ?_
   refine wpAnyH_take (i := 3) (v := .map (some c.lb)) rfl (by kernel_rfl) (by kernel_rfl) (by kernel_rfl) (fun _ _ _ h => h) (Or.inl ⟨by rfl, fun w' hSw => by have h := ent_cell (ent_below HG.out.gcell hSw) 3 _ rfl; go_simp⟩) hHeld ?_
   refine wpAnyH_take (i := 4) (v := .slice (some ⟨g, o, none⟩) xs.length cp) rfl (by kernel_rfl) (by kernel_rfl) (by kernel_rfl) (fun _ _ _ h => h) (Or.inl ⟨by rfl, fun w' hSw => by go_simp⟩) hHeld ?_
   try simp only [Act.put, List.getElem_toArray, List.getElem_cons_succ, List.getElem_cons_zero, List.setIfInBounds_toArray, List.set_cons_zero, List.set_cons_succ]
   refine wpAnyH_ready (rs := [5]) (by kernel_rfl) (by simp) ?_
   refine AllReadyH.cons rfl (fun K hK => ?_) AllReadyH.nil
   go_simp
   refine (listOf_any g o xs.length cp hpos hcp hcx w.drew).mono ?_
   rintro e w5 ⟨rfl, hb5⟩
   replace hb5 := undrew hb5
   have HB5 := Lib.hid hb5
   clear hb5
   refine hK.out _ _ (HB5.out) (fun hHeld => ?_)
   clear hK K
   refine wpAnyH_take (i := 6) (v := .tuple #[.slice (some ⟨ib, 0, none⟩) ks.length icap, .bool true]) rfl (by kernel_rfl) (by kernel_rfl) (by kernel_rfl) (fun _ _ _ h => h) (Or.inl ⟨by rfl, fun w' hSw => by have h := HLK.out w' hSw; go_simp⟩) hHeld ?_
   simp only [Act.put, List.getElem_toArray, List.getElem_cons_succ, List.getElem_cons_zero, List.setIfInBounds_toArray, List.set_cons_zero, List.set_cons_succ]
   refine wpAnyH_take (i := 7) (v := .tuple #[.slice (some ⟨ib, 0, none⟩) ks.length icap, .bool true]) rfl (by kernel_rfl) (by kernel_rfl) (by kernel_rfl) (fun _ _ _ h => h) (Or.inl ⟨by rfl, fun w' hSw => by go_simp⟩) hHeld ?_
   simp only [Act.put, List.getElem_toArray, List.getElem_cons_succ, List.getElem_cons_zero, List.setIfInBounds_toArray, List.set_cons_zero, List.set_cons_succ]
   refine wpAnyH_take (i := 8) (v := .slice (some ⟨ib, 0, none⟩) ks.length icap) rfl (by kernel_rfl) (by kernel_rfl) (by kernel_rfl) (fun _ _ _ h => h) (Or.inl ⟨by rfl, fun w' hSw => by go_simp⟩) hHeld ?_
   simp only [Act.put, List.getElem_toArray, List.getElem_cons_succ, List.getElem_cons_zero, List.setIfInBounds_toArray, List.set_cons_zero, List.set_cons_succ]
   refine wpAnyH_take (i := 9) (v := .bool true) rfl (by kernel_rfl) (by kernel_rfl) (by kernel_rfl) (fun _ _ _ h => h) (Or.inl ⟨by rfl, fun w' hSw => by go_simp⟩) hHeld ?_
   simp only [Act.put, List.getElem_toArray, List.getElem_cons_succ, List.getElem_cons_zero, List.setIfInBounds_toArray, List.set_cons_zero, List.set_cons_succ]
   refine wpAnyH_take (i := 10) (v := .slice (some ⟨ib, 0, none⟩) ks.length icap) rfl (by kernel_rfl) (by kernel_rfl) (by kernel_rfl) (fun _ _ _ h => h) (Or.inl ⟨by rfl, fun w' hSw => by go_simp⟩) hHeld ?_
   simp only [Act.put, List.getElem_toArray, List.getElem_cons_succ, List.getElem_cons_zero, List.setIfInBounds_toArray, List.set_cons_zero, List.set_cons_succ]
   refine wpAnyH_take (i := 11) (v := .bool true) rfl (by kernel_rfl) (by kernel_rfl) (by kernel_rfl) (fun _ _ _ h => h) (Or.inl ⟨by rfl, fun w' hSw => by go_simp⟩) hHeld ?_
   simp only [Act.put, List.getElem_toArray, List.getElem_cons_succ, List.getElem_cons_zero, List.setIfInBounds_toArray, List.set_cons_zero, List.set_cons_succ]
   refine wpAnyH_done (by kernel_rfl) ?_ _
   go_wp2_with fail
   go_ret
   obtain ⟨a1, a2, a3, a4, a5, a6, a7⟩ := HKS.out
   refine ⟨_, ks, [], kl, _, rfl, by rw [List.append_nil]; exact HG.out.below hC HB5.out, .of_below HB5.out, .inl rfl, by rw [HKD.out]; exact a1, .inr ⟨fun e => by rw [e] at a7; exact absurd a7 (by decide), ib, icap, icur, rfl, a2, a3, a4, ent_below a5 HB5.out, a6⟩, fun _ _ h => h, fun q hq => (by cases hq), fun j h1 h2 => by rw [List.append_nil] at h2; omega⟩
 | none =>
   have HLK := Lib.hid (show ∀ w' : World, Below w.heap.size w w' → (Instr.lookup 98 (.map (some c.lb)) (.agg #[.pointer (some ⟨g, o, none⟩), .int .i64 (xs.length : Int)]) true).run Tryd.prog w' = .ok (.tuple #[.slice none 0 0, .bool false]) w' from fun w' hb => by
    have hbq : ∀ x, x ∈ c.U → w'.heap[x.1]? = w.heap[x.1]? := fun x hx => hb.block _ (by have := (hC.u x hx).1; have := HG.out.size; omega)
    have := ((HL.out.keep (w' := w') (hb.block _ HL.out.lt) (freeQ_keep hbq)).look (lawLQ (· ∈ c.U)) Tryd.underlying98 (z := .slice none 0 0) (by kernel_rfl) (g, o, xs.length) ⟨HX.out.1, _, _, (hbq _ HX.out.1).trans HGE.out⟩).2
    rw [hlk] at this
    simpa only [encL, Option.getD_none, Option.isSome_none] using this)
   have HNK := Lib.hid (show kl (g, o, xs.length) = none from hLn _ hlk)
   have hxl : xs.length ≤ 10000000000 := by
    have h1 := hC.few
    have h2 : xs.length ≤ llen c.U := Ux.sum_ge (fun x : LKey => x.2.2) hqq
    omega
   clear h hp hcell o2 hpe hty hfree hm hk2 hlk hrow0 hqq hel hg hne hL hLf hLn hfree' e1 e2 e3
   go_enter Tryd.func57, Tryd.ntmps57
   go_wp2_with fail
   refine wp_region_held_drew (S := fun (u : World) => Below w.heap.size w u) (by kernel_rfl) ((Below.refl _ _).drew) (fun hHeld => ?_)
   refine wpAnyH_take (i := 0) (v := .pointer (some ⟨c.gb, 0, none⟩)) rfl (by kernel_rfl) (by kernel_rfl) (by kernel_rfl) (fun _ _ _ h => h) (Or.inl ⟨by rfl, fun w' hSw => by go_simp⟩) hHeld ?_
   refine wpAnyH_take (i := 1) (v := .pointer (some ⟨c.gb, 0, none⟩)) rfl (by kernel_rfl) (by kernel_rfl) (by kernel_rfl) (fun _ _ _ h => h) (Or.inl ⟨by rfl, fun w' hSw => by go_simp⟩) hHeld ?_
   refine wpAnyH_take (i := 2) (v := .pointer (some ⟨c.gb, 3, none⟩)) rfl (by kernel_rfl) (by kernel_rfl) (by kernel_rfl) (fun _ _ _ h => h) (Or.inl ⟨by rfl, fun w' hSw => by go_simp⟩) hHeld ?_
   refine wpAnyH_take (i := 3) (v := .map (some c.lb)) rfl (by kernel_rfl) (by kernel_rfl) (by kernel_rfl) (fun _ _ _ h => h) (Or.inl ⟨by rfl, fun w' hSw => by have h := ent_cell (ent_below HG.out.gcell hSw) 3 _ rfl; go_simp⟩) hHeld ?_
   refine wpAnyH_take (i := 4) (v := .slice (some ⟨g, o, none⟩) xs.length cp) rfl (by kernel_rfl) (by kernel_rfl) (by kernel_rfl) (fun _ _ _ h => h) (Or.inl ⟨by rfl, fun w' hSw => by go_simp⟩) hHeld ?_
   try simp only [Act.put, List.getElem_toArray, List.getElem_cons_succ, List.getElem_cons_zero, List.setIfInBounds_toArray, List.set_cons_zero, List.set_cons_succ]
   refine wpAnyH_ready (rs := [5]) (by kernel_rfl) (by simp) ?_
   refine AllReadyH.cons rfl (fun K hK => ?_) AllReadyH.nil
   go_simp
   refine (listOf_any g o xs.length cp hpos hcp hcx w.drew).mono ?_
   rintro e w5 ⟨rfl, hb5⟩
   replace hb5 := undrew hb5
   have HB5 := Lib.hid hb5
   clear hb5
   refine hK.out _ _ (HB5.out) (fun hHeld => ?_)
   clear hK K
   refine wpAnyH_take (i := 6) (v := .tuple #[.slice none 0 0, .bool false]) rfl (by kernel_rfl) (by kernel_rfl) (by kernel_rfl) (fun _ _ _ h => h) (Or.inl ⟨by rfl, fun w' hSw => by have h := HLK.out w' hSw; go_simp⟩) hHeld ?_
   simp only [Act.put, List.getElem_toArray, List.getElem_cons_succ, List.getElem_cons_zero, List.setIfInBounds_toArray, List.set_cons_zero, List.set_cons_succ]
   refine wpAnyH_take (i := 7) (v := .tuple #[.slice none 0 0, .bool false]) rfl (by kernel_rfl) (by kernel_rfl) (by kernel_rfl) (fun _ _ _ h => h) (Or.inl ⟨by rfl, fun w' hSw => by go_simp⟩) hHeld ?_
   simp only [Act.put, List.getElem_toArray, List.getElem_cons_succ, List.getElem_cons_zero, List.setIfInBounds_toArray, List.set_cons_zero, List.set_cons_succ]
   refine wpAnyH_take (i := 8) (v := .slice none 0 0) rfl (by kernel_rfl) (by kernel_rfl) (by kernel_rfl) (fun _ _ _ h => h) (Or.inl ⟨by rfl, fun w' hSw => by go_simp⟩) hHeld ?_
   simp only [Act.put, List.getElem_toArray, List.getElem_cons_succ, List.getElem_cons_zero, List.setIfInBounds_toArray, List.set_cons_zero, List.set_cons_succ]
   refine wpAnyH_take (i := 9) (v := .bool false) rfl (by kernel_rfl) (by kernel_rfl) (by kernel_rfl) (fun _ _ _ h => h) (Or.inl ⟨by rfl, fun w' hSw => by go_simp⟩) hHeld ?_
   simp only [Act.put, List.getElem_toArray, List.getElem_cons_succ, List.getElem_cons_zero, List.setIfInBounds_toArray, List.set_cons_zero, List.set_cons_succ]
   refine wpAnyH_take (i := 10) (v := .slice none 0 0) rfl (by kernel_rfl) (by kernel_rfl) (by kernel_rfl) (fun _ _ _ h => h) (Or.inl ⟨by rfl, fun w' hSw => by go_simp⟩) hHeld ?_
   simp only [Act.put, List.getElem_toArray, List.getElem_cons_succ, List.getElem_cons_zero, List.setIfInBounds_toArray, List.set_cons_zero, List.set_cons_succ]
   refine wpAnyH_take (i := 11) (v := .bool false) rfl (by kernel_rfl) (by kernel_rfl) (by kernel_rfl) (fun _ _ _ h => h) (Or.inl ⟨by rfl, fun w' hSw => by go_simp⟩) hHeld ?_
   simp only [Act.put, List.getElem_toArray, List.getElem_cons_succ, List.getElem_cons_zero, List.setIfInBounds_toArray, List.set_cons_zero, List.set_cons_succ]
   refine wpAnyH_done (by kernel_rfl) ?_ _
   have HG5 := Lib.hid (HG.out.below hC HB5.out)
   obtain ⟨zs, hzs, hmake⟩ := madeInts xs.length (by omega) w5
   have HZS := Lib.hid hzs
   clear hzs x2 g1 hpbl
   go_upto_region 8 with fail
   have hb6 : Below w5.heap.size w5 (w5.alloc (.cells zs 3)) := (Below.refl _ _).alloc (Nat.le_refl _) _
   have HA : Hid (ArgL c ps kl rep (Value.slice (some ⟨pb, 0, none⟩) ps.length pc) xs w5.heap.size 0 w (w5.alloc (.cells zs 3))) := Lib.hid ⟨[], [], _, zs, by rw [List.append_nil]; exact HG5.out.below hC hb6, .of_below (HB5.out.trans (hb6.mono HB5.out.size)), .inl rfl, rfl, ent_new w5 zs 3, HZS.out, (by intro k cc hk; cases hk), (by intro k y cc hy hk; cases hk), (by intro q hq; cases hq), (by intro j h1 h2; rw [List.append_nil] at h2; omega)⟩
   have hIB0 : w.heap.size ≤ w5.heap.size := HB5.out.size
   obtain ⟨IB, hIB⟩ : ∃ IB, IB = w5.heap.size := ⟨_, rfl⟩
   rw [← hIB] at HA hIB0 ⊢
   have HIB := Lib.hid hIB0
   clear hIB hIB0 hb6 hmake
   generalize w5.alloc (.cells zs 3) = w6 at HA ⊢
   have HGK := Lib.hid (show ∀ wr, Chg (NKeep c (Value.slice (some ⟨pb, 0, none⟩) ps.length pc)) w wr → wr.heap[g]? = some (.cells cs T (0, 0)) ∧ ∀ x, x ∈ c.U → wr.heap[x.1]? = w.heap[x.1]? from fun wr hch => by
    have hq : ∀ x, x ∈ c.U → wr.heap[x.1]? = w.heap[x.1]? := fun x hx => hch.block _ (by have := (hC.u x hx).1; have := HG.out.size; omega) fun hr => HG.out.gkq hC hx (NKeep.gk hr)
    exact ⟨(hq _ HX.out.1).trans HGE.out, hq⟩)
   go_loopw [39] (fun i39 wr => ∃ j : Nat, i39 = .int .i64 j ∧ j ≤ xs.length ∧ Hid (ArgL c ps kl rep (Value.slice (some ⟨pb, 0, none⟩) ps.length pc) xs IB j w wr)) (fun i39 _ => xs.length - (intOf i39).toNat)
   case atStart => exact ⟨0, rfl, Nat.zero_le _, HA⟩
   case round =>
    clear HA
    obtain ⟨j, rfl, hj, HA⟩ := hrel
    obtain ⟨ks, ex, pv', icur, k1, k2, k3, k4, k5, k6, k7, k8, k9, k10⟩ := HA.out
    by_cases hlt : j < xs.length
    · obtain ⟨x, hx⟩ : ∃ x, xs[j]? = some x := ⟨_, List.getElem?_eq_getElem hlt⟩
      obtain ⟨u, hu, _, hucell⟩ := HX.out.2 j x hx
      obtain ⟨a0, a1, aq, am, ac, rfl⟩ := tyQ_sh hu
      obtain ⟨hgw, hqw⟩ := HGK.out wr k2
      have y0 := ent_cell hgw (o + j * 3) _ (by have := hucell 0 _ rfl; simpa using this)
      have y1 := ent_cell hgw (o + j * 3 + 1) _ (by have := hucell 1 _ rfl; simpa using this)
      have y2 := ent_cell hgw (o + j * 3 + 2) _ (by have := hucell 2 _ rfl; simpa using this)
      have HU := Lib.hid (tyQ_keep hu hqw)
      have HK1 := Lib.hid k1; have HK2 := Lib.hid k2; have HK3 := Lib.hid k3; have HK4 := Lib.hid k4; have HK5 := Lib.hid k5; have HK6 := Lib.hid k6; have HK7 := Lib.hid k7; have HK8 := Lib.hid k8; have HK9 := Lib.hid k9; have HK10 := Lib.hid k10
      have HXJ := Lib.hid hx
      have hj1 : (j : Int) < (xs.length : Int) := by omega
      have hj2 : (xs.length : Int) ≤ (cp : Int) := by omega
      clear k1 k2 k3 k4 k5 k6 k7 k8 k9 k10 hx hu hucell hgw hqw HA
      go_upto_region 10 with fail
      have hb7 : Below wr.heap.size wr (wr.alloc (.cells #[.int .i64 a0, .string a1, .slice aq am ac] 30)) := (Below.refl _ _).alloc (Nat.le_refl _) _
      have EB := ent_new wr #[.int .i64 a0, .string a1, .slice aq am ac] 30
      have HB7 := Lib.hid hb7
      have t0 := ent_cell EB 0 _ rfl
      have t1 := ent_cell EB 1 _ rfl
      have t2 := ent_cell EB 2 _ rfl
      clear y0 y1 y2 hb7 EB
      generalize wr.alloc (.cells #[.int .i64 a0, .string a1, .slice aq am ac] 30) = w7 at HB7 t0 t1 t2 ⊢
      have HK17 := Lib.hid (HK1.out.below hC HB7.out)
      go_wp2_with fail
      refine (number_any c hC (2 + j) (by omega) (ps ++ ex) kl rep pv' _ x w7 HK17.out (tyQ_keep HU.out fun x hx => HB7.out.block _ (by have := (hC.u x hx).1; have := HK1.out.size; omega))).mono ?_
      rintro e w8 ⟨ii, ps2, pv2, rfl, n1, n2, n3, n4, n5⟩
      have HN1 := Lib.hid n1; have HN2 := Lib.hid n2; have HN3 := Lib.hid n3; have HN4 := Lib.hid n4; have HN5 := Lib.hid n5
      have hIBy : ¬ Fz c IB := by have := HG.out.size; have := HIB.out; omega
      have hIn : ¬ NKeep c pv' IB := fun hr => HK17.out.gkint hC hIBy (ent_below HK5.out HB7.out) (by decide) (NKeep.gk hr)
      have HI8 := Lib.hid (ent_chg (ent_below HK5.out HB7.out) n2 hIn)
      clear t0 t1 t2 n1 n2 n3 n4 n5 hIn
      obtain ⟨vj, hvj⟩ : ∃ vj, icur[j]? = some vj := ⟨_, Array.getElem?_eq_getElem (by have := HK6.out; omega)⟩
      have b0 := ent_cell HI8.out j vj hvj
      have bf := ent_free HI8.out
      have hj3 : (xs.length : Int) ≤ 9223372036854775807 := by omega
      go_wp2_with fail
      go_roundw
      case rel =>
       have hch8 : Chg (NKeep c (Value.slice (some ⟨pb, 0, none⟩) ps.length pc)) w w8 := nk_trans (HK2.out.trans (.of_below HB7.out)) HK3.out HN2.out
       have hset : Chg (· = IB) w8 (w8.setCell ⟨IB, j, none⟩ (.int .i64 ii)) := Chg.set (R := (· = IB)) (p := ⟨IB, j, none⟩) rfl _
       have hch9 : Chg (NKeep c (Value.slice (some ⟨pb, 0, none⟩) ps.length pc)) w (w8.setCell ⟨IB, j, none⟩ (.int .i64 ii)) := hch8.then hset fun x hx e => by have := HIB.out; omega
       have hpn : pv2.ownBlock ≠ some IB := fun e => own_ne HN1.out.own HI8.out (fun cs e => by injection e with _ e _; cases e) e
       have hg9 : GSt c (2 + j + 1) (w8.setCell ⟨IB, j, none⟩ (.int .i64 ii)) ps2 kl rep pv2 := HN1.out.keepL hC hset (fun b e => .inr ⟨by omega, e ▸ hpn⟩) (HG.out.listsAt hC hch9 (fun hr => by
        rcases hr with hr | hr | hr | hr
        · exact hC.neg.2.1 hr.symm
        · exact hC.ne.1 hr.symm
        · exact hC.ne.2.2.1 hr
        · exact HG.out.outl hC (.inl hC.low.2.2.1) hr) (fun x hx hr => HG.out.gkq hC hx (NKeep.gk hr)) fun b cur hb hcur hr => HG.out.gkint hC hb hcur (by decide) (NKeep.gk hr)) (HN1.out.look.chg hset (by have := hC.low; omega) fun x hx => by have := (hC.u x hx).1; omega)
       have hloc := loc_trans (a := w) (b := w7) (by have := HK2.out.size; have := HB7.out.size; omega) HK3.out HN3.out
       obtain ⟨ex2, hps2, hst2, hin2⟩ : ∃ ex2, ps2 = ps ++ ex2 ∧ (∀ q ∈ ex2, q.st = 0) ∧ ∀ jj, ps.length ≤ jj → jj < (ps ++ ex2).length → jj ∈ ks ++ [ii] := by
        rcases HN5.out with e | ⟨p', e, e2, e3, e4⟩
        · exact ⟨ex, e, HK9.out, fun jj h1 h2 => List.mem_append.2 (.inl (HK10.out jj h1 h2))⟩
        · refine ⟨ex ++ [p'], by rw [e, List.append_assoc], fun q hq => (List.mem_append.1 hq).elim (HK9.out q) fun h => by rw [List.mem_singleton.1 h]; exact e4, fun jj h1 h2 => ?_⟩
          rw [← List.append_assoc, List.length_append, List.length_singleton] at h2
          rcases Nat.lt_or_ge jj (ps ++ ex).length with hl | hl
          · exact List.mem_append.2 (.inl (HK10.out jj h1 hl))
          · exact List.mem_append.2 (.inr (by rw [List.mem_singleton]; omega))
       have hmono : ∀ (cc : Nat) (pc : Prt), (ps ++ ex)[cc]? = some pc → ps2[cc]? = some pc := fun cc pc hcc => by
        rcases HN5.out with e | ⟨p', e, _⟩
        · rw [e]; exact hcc
        · rw [e, List.getElem?_append_left (List.getElem?_eq_some_iff.1 hcc).1]; exact hcc
       subst hps2
       have hkl := HK4.out
       have hks := HK6.out
       refine ⟨j + 1, by go_num, by omega, Lib.hid ⟨ks ++ [ii], ex2, pv2, _, by rw [show 2 + (j + 1) = 2 + j + 1 by omega]; exact hg9, hch9, hloc, by simp [hkl], ent_set HI8.out j (.int .i64 ii), by simpa using hks, fun k cc hk => ?_, fun k y cc hy hk => ?_, hst2, hin2⟩⟩
       · rcases Nat.lt_or_ge k ks.length with hl | hl
         · rw [List.getElem?_append_left hl] at hk
           rw [Array.getElem?_setIfInBounds_ne (by omega)]; exact HK7.out k cc hk
         · rw [List.getElem?_append_right hl] at hk
           have hkj : k = j := by
            rcases Nat.lt_or_ge ks.length k with h1 | h1
            · rw [List.getElem?_eq_none (by simp; omega)] at hk; cases hk
            · omega
           subst hkj
           rw [hkl, Nat.sub_self] at hk
           simp only [List.getElem?_cons_zero, Option.some.injEq] at hk
           subst hk
           rw [Array.getElem?_setIfInBounds_self_of_lt (by omega)]
       · rcases Nat.lt_or_ge k ks.length with hl | hl
         · rw [List.getElem?_append_left hl] at hk
           obtain ⟨pc, q1, q2⟩ := HK8.out k y cc hy hk
           exact ⟨pc, hmono _ _ q1, q2⟩
         · rw [List.getElem?_append_right hl] at hk
           have hkj : k = j := by
            rcases Nat.lt_or_ge ks.length k with h1 | h1
            · rw [List.getElem?_eq_none (by simp; omega)] at hk; cases hk
            · omega
           subst hkj
           rw [hkl, Nat.sub_self] at hk
           simp only [List.getElem?_cons_zero, Option.some.injEq] at hk
           subst hk
           rw [HXJ.out] at hy; injection hy with hy; subst hy
           exact HN4.out
      case measure => simp [intOf]; omega
    · obtain rfl : j = xs.length := by omega
      have HG9 := Lib.hid k1
      have HCH := Lib.hid (nk_gk k2)
      have HKK := Lib.hid (⟨k3, k4, k5, k6, k7, k8, k9, k10⟩ : _ ∧ ks.length = xs.length ∧ wr.heap[IB]? = some (.cells icur 3 (0, 0)) ∧ icur.size = xs.length ∧ (∀ (k cc : Nat), ks[k]? = some cc → icur[k]? = some (Value.int .i64 (cc : Int))) ∧ (∀ (k : Nat) (y : Ux.Ty) (cc : Nat), xs[k]? = some y → ks[k]? = some cc → ∃ pc, (ps ++ ex)[cc]? = some pc ∧ NumOf c.f y pc.D) ∧ (∀ q ∈ ex, q.st = 0) ∧ ∀ j, ps.length ≤ j → j < (ps ++ ex).length → j ∈ ks)
      clear k1 k2 k3 k4 k5 k6 k7 k8 k9 k10 HA
      go_wp2_with fail
      refine wp_region_held_drew (S := fun (u : World) => Chg (· = c.lb) wr u) (by kernel_rfl) ((Chg.drew _)) (fun hHeld => ?_)
      refine wpAnyH_take (i := 0) (v := .pointer (some ⟨c.gb, 0, none⟩)) rfl (by kernel_rfl) (by kernel_rfl) (by kernel_rfl) (fun _ _ _ h => h) (Or.inl ⟨by rfl, fun w' hSw => by go_simp⟩) hHeld ?_
      refine wpAnyH_take (i := 1) (v := .pointer (some ⟨c.gb, 0, none⟩)) rfl (by kernel_rfl) (by kernel_rfl) (by kernel_rfl) (fun _ _ _ h => h) (Or.inl ⟨by rfl, fun w' hSw => by go_simp⟩) hHeld ?_
      refine wpAnyH_take (i := 2) (v := .pointer (some ⟨c.gb, 3, none⟩)) rfl (by kernel_rfl) (by kernel_rfl) (by kernel_rfl) (fun _ _ _ h => h) (Or.inl ⟨by rfl, fun w' hSw => by go_simp⟩) hHeld ?_
      refine wpAnyH_take (i := 3) (v := .map (some c.lb)) rfl (by kernel_rfl) (by kernel_rfl) (by kernel_rfl) (fun _ _ _ h => h) (Or.inl ⟨by rfl, fun w' hSw => by have h := ent_cell (ent_chg HG9.out.gcell hSw hC.neg.2.1) 3 _ rfl; go_simp⟩) hHeld ?_
      refine wpAnyH_take (i := 4) (v := .slice (some ⟨g, o, none⟩) xs.length cp) rfl (by kernel_rfl) (by kernel_rfl) (by kernel_rfl) (fun _ _ _ h => h) (Or.inl ⟨by rfl, fun w' hSw => by go_simp⟩) hHeld ?_
      refine wpAnyH_take (i := 6) (v := .slice (some ⟨IB, 0, none⟩) xs.length xs.length) rfl (by kernel_rfl) (by kernel_rfl) (by kernel_rfl) (fun _ _ _ h => h) (Or.inl ⟨by rfl, fun w' hSw => by go_simp⟩) hHeld ?_
      try simp only [Act.put, List.getElem_toArray, List.getElem_cons_succ, List.getElem_cons_zero, List.setIfInBounds_toArray, List.set_cons_zero, List.set_cons_succ]
      refine wpAnyH_ready (rs := [5]) (by kernel_rfl) (by simp) ?_
      refine AllReadyH.cons rfl (fun K hK => ?_) AllReadyH.nil
      go_simp
      refine (listOf_any g o xs.length cp hpos hcp hcx _).mono ?_
      rintro e w7 ⟨rfl, hb7⟩
      replace hb7 := undrew hb7
      have HG7 := Lib.hid (HG9.out.below hC hb7)
      have HB7 := Lib.hid hb7
      obtain ⟨L7, hL7, hLf7, hLn7⟩ := HG7.out.lists
      have hobj7 := hL7.obj
      have hq7 : w7.heap[g]? = w.heap[g]? := (hb7.block _ (by have := (hC.u _ HX.out.1).1; have := HG9.out.size; omega)).trans (HCH.out.block _ (by have := (hC.u _ HX.out.1).1; have := HG.out.size; omega) (HG.out.gkq hC HX.out.1))
      obtain ⟨wu, hup, hmk, hgr⟩ := hL7.update (lawLQ (· ∈ c.U)) Tryd.underlying98 (g, o, xs.length) ⟨HX.out.1, _, _, hq7.trans HGE.out⟩ (.slice (some ⟨IB, 0, none⟩) xs.length xs.length) (freeQ_other hobj7)
      have hch : Chg (· = c.lb) w7 wu := Chg.grown hgr fun k hk => by injection hk with hk; exact hk.symm
      replace hup : (Instr.mapUpdate 98 (.map (some c.lb)) (.agg #[.pointer (some ⟨g, o, none⟩), .int .i64 (xs.length : Int)]) (.slice (some ⟨IB, 0, none⟩) xs.length xs.length)).run Tryd.prog w7 = .ok () wu := hup
      have hL7' := hL7
      have HMK := Lib.hid hmk; have HLF7 := Lib.hid hLf7; have HLN7 := Lib.hid hLn7; have HCU := Lib.hid hch
      clear hq7 hL7 hLf7 hLn7 hobj7 hmk hgr hch
      refine hK.out _ _ (.of_below HB7.out) (fun hHeld => ?_)
      clear hK K
      refine wpAnyH_ready (rs := [7]) (by kernel_rfl) (by simp) ?_
      refine AllReadyH.cons rfl (fun K hK => ?_) AllReadyH.nil
      go_simp
      refine hK.out _ _ ((Chg.of_below HB7.out).trans HCU.out) (fun hHeld => ?_)
      clear hK K
      refine wpAnyH_done (by kernel_rfl) ?_ _
      clear hup
      go_wp2_with fail
      go_ret
      obtain ⟨q1, q2, q3, q4, q5, q6, q7, q8⟩ := HKK.out
      have hIBy : ¬ Fz c IB := by have := HG.out.size; have := HIB.out; omega
      have hints : IntsAt c w7 (.slice (some ⟨IB, 0, none⟩) xs.length xs.length) ks := ⟨IB, xs.length, icur, by rw [q2], hIBy, by omega, by omega, ent_below q3 HB7.out, q5⟩
      have hqw : ∀ x, x ∈ c.U → w7.heap[x.1]? = w.heap[x.1]? := fun x hx => (HB7.out.block _ (by have := (hC.u x hx).1; have := HG9.out.size; omega)).trans (HCH.out.block _ (by have := (hC.u x hx).1; have := HG.out.size; omega) (HG.out.gkq hC hx))
      have hset := GSt.setK (e := 2) (m := xs.length) (x := (g, o, xs.length)) (ks := ks) (val := .slice (some ⟨IB, 0, none⟩) xs.length xs.length) HG7.out hC HCU.out HX.out.1 rfl hpos HNK.out q2 ⟨L7, hL7', HLF7.out, HLN7.out, HMK.out⟩ hints (HROW.out.mono (fun x hx => ⟨hx, hqw x hx⟩) fun u x _ hu => tyQ_keep hu hqw) q6
      refine ⟨_, ks, ex, _, pv', rfl, hset, (HCH.out.trans (.of_below HB7.out)).then HCU.out fun x _ e => .inr (.inr (.inl e)), q1, by rw [HKD'.out]; simp, .inr ⟨fun e => by rw [e] at q2; simp at q2; omega, hints.keep fun b cur hb hcur => HCU.out.block _ (ent_lt hcur) (by have := hC.low; omega)⟩, fun x ls hx => ?_, q7, q8⟩
      by_cases e : x = (g, o, xs.length)
      · rw [e, HNK.out] at hx; cases hx
      · rw [if_neg e]; exact hx
end Go.Proofs.YtcblppojnailpaaDoor
