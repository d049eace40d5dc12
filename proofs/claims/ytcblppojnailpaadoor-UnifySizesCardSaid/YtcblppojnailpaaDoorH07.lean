/-
  Several texts in one: UEnd2, UCan, UBnd, UNode, ULaw, USize, UBoth, UJoinP, UJoinM.
-/
import Derived.Test.YtcblppojnailpaaDoorH06
import Derived.Deep.LoopGhost
import Derived.Test.YtcblppojnailpaaDoorH04
import Derived.Test.YtcblppojnailpaaDoorH01
import Derived.Lib.ItoaNum
import Derived.Test.YtcblppojnailpaaDoorH05
namespace Go.Proofs.YtcblppojnailpaaDoor
open Go Go.RowKit
set_option linter.unusedVariables false
set_option linter.unusedSimpArgs false
/-- The same parts, but for whom they were made one with, and their states. -/
def Same (ps ps' : List Prt) : Prop := ps'.length = ps.length ∧ ∀ (j : Nat) (p : Prt), ps[j]? = some p → ∃ a b, ps'[j]? = some { p with tt := a, st := b }
theorem Same.refl (ps : List Prt) : Same ps ps := ⟨rfl, fun j p hp => ⟨p.tt, p.st, hp⟩⟩
theorem Same.trans {a b d : List Prt} (h : Same a b) (k : Same b d) : Same a d := ⟨k.1.trans h.1, fun j p hp => by
 obtain ⟨x, y, h1⟩ := h.2 j p hp
 obtain ⟨x', y', h2⟩ := k.2 j _ h1
 exact ⟨x', y', h2⟩⟩
theorem Same.back {ps ps' : List Prt} (h : Same ps ps') {j : Nat} {p' : Prt} (hp : ps'[j]? = some p') : ∃ p, ps[j]? = some p ∧ p' = { p with tt := p'.tt, st := p'.st } := by
 have hlt := (List.getElem?_eq_some_iff.1 hp).1
 obtain ⟨a, b, h1⟩ := h.2 j _ (List.getElem?_eq_getElem (by rw [← h.1]; exact hlt))
 rw [h1] at hp; injection hp with hp
 exact ⟨_, List.getElem?_eq_getElem (by rw [← h.1]; exact hlt), by rw [← hp]⟩
theorem Same.set {ps : List Prt} {j : Nat} {p : Prt} (hp : ps[j]? = some p) (a b : Nat) : Same ps (ps.set j { p with tt := a, st := b }) := by
 refine ⟨by simp, fun i q hq => ?_⟩
 by_cases e : j = i
 · subst e
   rw [hp] at hq; injection hq with hq; subst hq
   exact ⟨a, b, by rw [List.getElem?_set_self (List.getElem?_eq_some_iff.1 hp).1]⟩
 · exact ⟨q.tt, q.st, by rw [List.getElem?_set_ne e]; exact hq⟩
theorem Same.gr {ps ps' : List Prt} (h : Same ps ps') (kl : LKey → Option (List Nat)) (rep : Nat → Nat) : mkGr ps' kl rep = mkGr ps kl rep := by
 have key : ∀ i, (ps'[i]? = none ∧ ps[i]? = none) ∨ ∃ (p : Prt) (a b : Nat), ps[i]? = some p ∧ ps'[i]? = some { p with tt := a, st := b } := fun i => by
  rcases Nat.lt_or_ge i ps.length with hl | hl
  · obtain ⟨a, b, h1⟩ := h.2 i _ (List.getElem?_eq_getElem hl)
    exact .inr ⟨_, a, b, List.getElem?_eq_getElem hl, h1⟩
  · exact .inl ⟨List.getElem?_eq_none (by have := h.1; omega), List.getElem?_eq_none hl⟩
 unfold mkGr
 congr 1
 · exact h.1
 · funext i
   rcases key i with ⟨e1, e2⟩ | ⟨p, a, b, e1, e2⟩
   · rw [e1, e2]
   · rw [e1, e2]
 · funext i
   rcases key i with ⟨e1, e2⟩ | ⟨p, a, b, e1, e2⟩
   · rw [e1, e2]
   · rw [e1, e2]; rfl
def TreeAt (d : Nat → Nat) (ps : List Prt) (rep : Nat → Nat) : Prop := ∀ (i : Nat) (p : Prt), ps[i]? = some p → p.tt < ps.length ∧ (p.tt ≠ i → d p.tt < d i) ∧ rep p.tt = rep i ∧ (rep i = i ↔ p.tt = i)
section
variable {c : GCx} {e : Nat} {w w' : World} {ps ps' : List Prt} {kl : LKey → Option (List Nat)} {rep rep' : Nat → Nat} {pv : Value}
theorem GSt.upd (h : GSt c e w ps kl rep pv) (hc : c.Ok) (hch : Chg (fun b => pv.ownBlock = some b) w w') (ho : w'.ownsRow c.y0 104 5 pv ps'.length (pcells ps')) (hs : Same ps ps') (ht : ∃ d, TreeAt d ps' rep') (hr : ∀ x, ps.length ≤ x → rep' x = x) : GSt c e w' ps' kl rep' pv := by
 have hR : ∀ b, Fz c b → ¬ (pv.ownBlock = some b) := fun b hb e => h.outl hc hb e
 obtain ⟨l1, l2, l3, l4, l5, l6, l7⟩ := hc.low
 have hq : ∀ x, x ∈ c.U → w'.heap[x.1]? = w.heap[x.1]? := fun x hx => hch.block _ (by have := (hc.u x hx).1; have := h.size; omega) (hR _ (hc.u x hx).1)
 obtain ⟨L, v1, v2, v3⟩ := h.vars
 obtain ⟨ls, c1, c2, c3, c4⟩ := h.cnt
 refine ⟨ent_chg h.gcell hch (hR _ (.inl l1)), ho, fun p hp => ?_, fun p hp v hv => ?_, ⟨L, v1.keep (hch.block _ v1.lt (hR _ (.inl l2))) fun _ _ => trivial, fun v val hv => ?_, fun i p v hi hv => ?_⟩, h.listsAt hc hch (hR _ (.inl l3)) (fun x hx => hR _ (hc.u x hx).1) (fun b cur hb hcur e => own_ne h.own hcur (fun cs e => by injection e with _ e _; cases e) e), fun x ks hk => ?_, h.look.chg hch ⟨hR _ (.inl l4), hR _ (.inl l5), hR _ (.inl l6), hR _ (.inl l7)⟩ fun x hx => hR _ (hc.u x hx).1, (by have := h.size; have := hch.size; omega), h.pz, ⟨ls, c1, c2, c3, by rw [hs.1]; exact c4⟩, ht, fun x hx => hr x (by rw [← hs.1]; exact hx)⟩
 · obtain ⟨i, hi⟩ := List.mem_iff_getElem?.1 hp
   obtain ⟨q, q1, q2⟩ := hs.back hi
   have := h.ty q (List.mem_of_getElem? q1)
   rw [q2]; exact tyQ_keep this hq
 · obtain ⟨i, hi⟩ := List.mem_iff_getElem?.1 hp
   obtain ⟨q, q1, q2⟩ := hs.back hi
   rw [q2] at hv ⊢
   exact h.free q (List.mem_of_getElem? q1) v hv
 · obtain ⟨i, p, a1, a2, a3⟩ := v2 v val hv
   obtain ⟨a, b, h1⟩ := hs.2 i p a2
   exact ⟨i, _, a1, h1, a3⟩
 · obtain ⟨q, q1, q2⟩ := hs.back hi
   rw [q2] at hv
   exact v3 i q v q1 hv
 · obtain ⟨a1, a2, a3, a4⟩ := h.cont x ks hk
   refine ⟨a1, a2, a3, fun xs p hrow k y cc hy hcc => ?_⟩
   obtain ⟨pc, b1, b2⟩ := a4 xs p (hrow.mono (fun y hy => ⟨hy, (hq y hy).symm⟩) fun u y _ hu => tyQ_keep hu fun z hz => (hq z hz).symm) k y cc hy hcc
   obtain ⟨a, b, h1⟩ := hs.2 cc pc b1
   exact ⟨_, h1, b2⟩
end
def EndPost (c : GCx) (e : Nat) (ps : List Prt) (kl : LKey → Option (List Nat)) (rep : Nat → Nat) (pv : Value) (i : Nat) (w : World) (en : Ending) (w' : World) : Prop :=
 en = .returned (.int .i64 (rep i)) ∧ ∃ ps', GSt c e w' ps' kl rep pv ∧ Same ps ps' ∧ (∀ (j : Nat) (p p' : Prt), ps[j]? = some p → ps'[j]? = some p' → p'.st = p.st) ∧ Chg (fun b => pv.ownBlock = some b) w w'
/-- What the loop knows. -/
def EndL (c : GCx) (e : Nat) (ps : List Prt) (kl : LKey → Option (List Nat)) (rep : Nat → Nat) (pv : Value) (d : Nat → Nat) (i j : Nat) (w wr : World) : Prop :=
 ∃ ps', GSt c e wr ps' kl rep pv ∧ Same ps ps' ∧ (∀ (j : Nat) (p p' : Prt), ps[j]? = some p → ps'[j]? = some p' → p'.st = p.st) ∧ Chg (fun b => pv.ownBlock = some b) w wr ∧ TreeAt d ps' rep ∧ rep j = rep i ∧ j < ps.length
set_option maxHeartbeats 4000000 in
set_option maxRecDepth 100000 in
theorem end_any (c : GCx) (hC : c.Ok) (e : Nat) (ps : List Prt) (kl : LKey → Option (List Nat)) (rep : Nat → Nat) (pv : Value) (i : Nat) (hi : i < ps.length) (w : World) (h : GSt c e w ps kl rep pv) :
 Calls Tryd.prog 51 #[.pointer (some ⟨c.gb, 0, none⟩), .int .i64 i] w (EndPost c e ps kl rep pv i w) := by
 obtain ⟨pp, pc, rfl⟩ := own_slice h.own
 obtain ⟨pb, cur0, rfl, hpb, _⟩ := own_open h.own (by omega)
 obtain ⟨d, hd⟩ := h.tree
 have HL0 : Hid (EndL c e ps kl rep (.slice (some ⟨pb, 0, none⟩) ps.length pc) d i i w w) := Lib.hid ⟨ps, h, .refl ps, fun j p p' h1 h2 => by rw [h1] at h2; injection h2 with h2; rw [h2], .refl _ _, hd, rfl, hi⟩
 have HG := Lib.hid h
 clear h hd
 go_enter Tryd.func51, Tryd.ntmps51
 go_wp2_with fail
 go_loopg [1] (d i) (fun k v1 wr => ∃ j : Nat, v1 = .int .i64 j ∧ Hid (EndL c e ps kl rep (.slice (some ⟨pb, 0, none⟩) ps.length pc) d i j w wr ∧ d j ≤ k))
 case atStart => exact ⟨i, rfl, Lib.hid ⟨HL0.out, Nat.le_refl _⟩⟩
 case round =>
  clear HL0
  obtain ⟨j, rfl, HR⟩ := hrel
  obtain ⟨⟨ps', k1, k2, k3, k4, k5, k6, k7⟩, hdk⟩ := HR.out
  have hlen := k2.1
  obtain ⟨p, hp⟩ : ∃ p, ps'[j]? = some p := ⟨_, List.getElem?_eq_getElem (by omega)⟩
  obtain ⟨t1, t2, t3, t4⟩ := k5 j p hp
  obtain ⟨pn, hpn⟩ : ∃ pn, ps'[p.tt]? = some pn := ⟨_, List.getElem?_eq_getElem t1⟩
  have ho := k1.own
  rw [hlen] at ho
  obtain ⟨pb', cur, hpe, _, hpl, hk2, hk3, hge, hcell⟩ := own_open ho (by omega)
  injection hpe with hpe; injection hpe with hpe _ _; subst hpe
  have g1 := ent_cell k1.gcell 1 _ rfl
  have x3 := ent_cell hge _ _ (hcell (j * 5 + 3) (.int .i64 p.tt) (by rw [pcells_at 3 hp (by decide)]; rfl))
  have z3 := ent_cell hge _ _ (hcell (p.tt * 5 + 3) (.int .i64 pn.tt) (by rw [pcells_at 3 hpn (by decide)]; rfl))
  have xf := ent_free hge
  have hj1 : (j : Int) < (ps.length : Int) := by omega
  have hj2 : (ps.length : Int) ≤ (pc : Int) := by omega
  have hj3 : (p.tt : Int) < (ps.length : Int) := by omega
  have HK := Lib.hid (⟨k1, k2, k3, k4, k5, k6, k7⟩ : GSt c e wr ps' kl rep (.slice (some ⟨pb, 0, none⟩) ps.length pc) ∧ _ ∧ _ ∧ _ ∧ _ ∧ _ ∧ _)
  have HP := Lib.hid (⟨hp, hpn⟩ : ps'[j]? = some p ∧ ps'[p.tt]? = some pn)
  have HT := Lib.hid (⟨t1, t2, t3, t4⟩ : _ ∧ _ ∧ _ ∧ _)
  have HDK := Lib.hid hdk
  have HO := Lib.hid ho
  have HLEN := Lib.hid hlen
  clear k1 k2 k3 k4 k5 k6 k7 hp hpn t1 t2 t3 t4 hdk ho hge hcell hlen HR hk2
  by_cases hjt : p.tt = j
  · have hb : ((p.tt : Int) != (j : Int)) = false := by simp [hjt]
    have HJT := Lib.hid hjt
    clear hjt
    go_wp2_with fail
    go_ret
    obtain ⟨k1, k2, k3, k4, k5, k6, k7⟩ := HK.out
    refine ⟨?_, ps', k1, k2, k3, k4⟩
    have := HT.out.2.2.2.2 HJT.out
    rw [← k6, this]
    rfl
  · have hb : ((p.tt : Int) != (j : Int)) = true := by simp; omega
    have HJT := Lib.hid hjt
    clear hjt
    go_wp2_with fail
    go_region
    clear g1 x3 z3 xf
    go_wp2_with fail
    go_roundg (d p.tt)
    case measure => have := HT.out.2.1 HJT.out; have := HDK.out; omega
    case rel =>
     obtain ⟨k1, k2, k3, k4, k5, k6, k7⟩ := HK.out
     obtain ⟨p1, p2⟩ := HP.out
     obtain ⟨t1, t2, t3, t4⟩ := HT.out
     have hlen := HLEN.out
     have hjlt := (List.getElem?_eq_some_iff.1 p1).1
     obtain ⟨n1, n2, n3, n4⟩ := k5 _ _ p2
     have HT2 : TreeAt d (ps'.set j { p with tt := pn.tt, st := p.st }) rep := fun i q hq => by
      rw [List.length_set]
      by_cases e : j = i
      · subst e
        rw [List.getElem?_set_self hjlt] at hq; injection hq with hq; subst hq
        have hd1 := t2 HJT.out
        by_cases en : pn.tt = p.tt
        · refine ⟨n1, fun _ => by dsimp only; rw [en]; exact hd1, n3.trans t3, ⟨fun h => ?_, fun h => ?_⟩⟩
          · exact absurd (t4.1 h) HJT.out
          · dsimp only at h; rw [en] at h; exact absurd h HJT.out
        · have hd2 := n2 en
          refine ⟨n1, fun _ => by dsimp only; omega, n3.trans t3, ⟨fun h => ?_, fun h => ?_⟩⟩
          · exact absurd (t4.1 h) HJT.out
          · dsimp only at h; rw [h] at hd2; omega
      · rw [List.getElem?_set_ne e] at hq; exact k5 i q hq
     refine ⟨p.tt, rfl, Lib.hid ⟨⟨ps'.set j { p with tt := pn.tt, st := p.st }, ?_, k2.trans (Same.set p1 _ _), fun i q q' h1 h2 => ?_, ?_, ?_, t3.trans k6, by omega⟩, Nat.le_refl _⟩⟩
     · have hst := (HO.out.stored (j * 5 + 3) (.int .i64 pn.tt)).1.drew
       rw [pcells_set (fun q => { q with tt := pn.tt, st := q.st }) 3 (.int .i64 pn.tt) (by decide) (fun q => rfl) p1] at hst
       have hch : Chg (fun b => (Value.slice (some ⟨pb, 0, none⟩) ps.length pc).ownBlock = some b) wr (wr.setCell ⟨pb, j * 5 + 3, none⟩ (.int .i64 pn.tt)).drew := (Chg.set (R := fun b => (Value.slice (some ⟨pb, 0, none⟩) ps.length pc).ownBlock = some b) (p := ⟨pb, j * 5 + 3, none⟩) rfl _).trans (.drew _)
       refine k1.upd hC hch (by rw [List.length_set, hlen]; exact hst) (Same.set p1 _ _) ⟨d, fun i q hq => ?_⟩ k1.outr
       exact HT2 i q hq
     · have h3 := h2
       by_cases e : j = i
       · subst e
         rw [List.getElem?_set_self hjlt] at h3; injection h3 with h3
         rw [← h3]; show p.st = q.st; exact k3 j q p h1 p1
       · rw [List.getElem?_set_ne e] at h3; exact k3 _ _ _ h1 h3
     · exact k4.trans ((Chg.set (R := fun b => (Value.slice (some ⟨pb, 0, none⟩) ps.length pc).ownBlock = some b) (p := ⟨pb, j * 5 + 3, none⟩) rfl _).trans (.drew _))
     · exact fun i q hq => HT2 i q hq
end Go.Proofs.YtcblppojnailpaaDoor
namespace Go.Proofs.YtcblppojnailpaaDoor
namespace Ux
set_option linter.unusedVariables false
set_option linter.unusedSimpArgs false
def ren (π : Nat → Nat) (t : Ty) : Ty := t.app fun n => .v (π n)
theorem firsts_nodup : ∀ (r l : List Nat), l.Nodup → (firsts l r).Nodup
 | [], l, h => h
 | n :: r, l, h => by
   rw [firsts]
   refine firsts_nodup r _ ?_
   split
   · exact h
   · rename_i hc
     rw [List.nodup_append]
     exact ⟨h, by simp, fun a ha b hb => by simp at hb; subst hb; exact fun e => hc (by subst e; simpa using ha)⟩
theorem varsT_nodup (t : Ty) : (varsT t).Nodup := firsts_nodup _ _ List.nodup_nil
theorem varsT_mem (t : Ty) (n : Nat) : n ∈ varsT t ↔ n ∈ t.vs := by unfold varsT; rw [firsts_mem]; simp
theorem idxOf_get {l : List Nat} (hd : l.Nodup) {k : Nat} (hk : k < l.length) : l.idxOf (l.getD k 0) = k := by
 rw [List.getD_eq_getElem?_getD, List.getElem?_eq_getElem hk]
 exact hd.idxOf_getElem k hk
end Ux
end Go.Proofs.YtcblppojnailpaaDoor
namespace Go.Proofs.YtcblppojnailpaaDoor
namespace Ux
set_option linter.unusedVariables false
set_option linter.unusedSimpArgs false
theorem sum_le {α : Type} (g h : α → Nat) : ∀ l : List α, (∀ x ∈ l, g x ≤ h x) → (l.map g).sum ≤ (l.map h).sum
 | [], _ => by simp
 | x :: r, k => by
   have h1 := k x (by simp)
   have h2 := sum_le g h r fun y hy => k y (by simp [hy])
   simp only [List.map_cons, List.sum_cons]; omega
theorem sz_app_ge (σ : Sub) : ∀ t : Ty, t.sz ≤ (t.app σ).sz := by
 refine Ty.ind (fun n => ?_) (fun nm xs ih => ?_)
 · rw [app_v]; have := sz_pos (σ n); rw [Ty.sz]; omega
 · rw [app_a, sz_a, sz_a, List.map_map]
   have := sum_le Ty.sz (Ty.sz ∘ Ty.app σ) xs ih
   omega
theorem sum_mul {α : Type} (g : α → Nat) (c : Nat) : ∀ l : List α, (l.map fun x => g x * c).sum = (l.map g).sum * c
 | [] => by simp
 | x :: r => by simp only [List.map_cons, List.sum_cons, sum_mul g c r, Nat.add_mul]
/-- If nothing that stands for a variable is larger, all is so many times as large at most. -/
theorem sz_app_le {σ : Sub} {c : Nat} (hc : 1 ≤ c) : ∀ t : Ty, (∀ n ∈ t.vs, (σ n).sz ≤ c) → (t.app σ).sz ≤ t.sz * c := by
 refine Ty.ind (fun n h => ?_) (fun nm xs ih h => ?_)
 · rw [app_v]; have := h n (by rw [vs_v]; simp); rw [Ty.sz]; omega
 · rw [app_a, sz_a, sz_a, List.map_map]
   have h1 := sum_le (Ty.sz ∘ Ty.app σ) (fun x => x.sz * c) xs fun x hx => ih x hx fun n hn => h n (by rw [vs_a]; exact List.mem_flatMap.2 ⟨x, hx, hn⟩)
   rw [sum_mul] at h1
   rw [Nat.add_mul]
   omega
theorem app_take (L : Pairs) (t : Ty) (k : Nat) : (applyL (L.take k) t).sz ≤ (applyL L t).sz := by
 have e : applyL L t = applyL (L.drop k) (applyL (L.take k) t) := by
  unfold applyL; rw [← List.foldl_append, List.take_append_drop]
 rw [e, applyL_sub (L.drop k)]
 exact sz_app_ge _ _
/-- A variable that is in what another one stands for, again and again. -/
inductive In (f : Map) : Nat → Nat → Prop
 | one {n m : Nat} {t : Ty} : f n = some t → m ∈ t.vs → In f n m
 | more {n k m : Nat} {t : Ty} : f n = some t → k ∈ t.vs → In f k m → In f n m
theorem In.trans {f : Map} {a b c : Nat} (h : In f a b) (g : In f b c) : In f a c := by
 induction h with
 | one h1 h2 => exact .more h1 h2 g
 | more h1 h2 _ ih => exact .more h1 h2 (ih g)
theorem no_self {f : Map} (hf : Fine f) (n : Nat) : ¬ In f n n := by
 refine hf.ind (P := fun n => ∀ m, In f m n → In f n m → False) (fun n ih m h1 h2 => ?_) n n |> fun k => fun h => k h h
 cases h2 with
 | one e1 e2 => exact ih _ e1 m e2 n (.one e1 e2) h1
 | @more _ k _ t e1 e2 e3 => exact ih _ e1 k e2 n (.one e1 e2) (e3.trans h1)
theorem sz_norm {f : Map} {N : Sub} (hf : Fine f) (hN : Norm f N) {c : Nat} (hc : 1 ≤ c) (hs : ∀ n t, f n = some t → t.sz ≤ c) : ∀ (K : Nat) (A : List Nat) (n : Nat), A.length ≤ K → (f n ≠ none → n ∈ A) → (∀ m, In f n m → f m ≠ none → m ∈ A) → A.Nodup → (N n).sz ≤ c ^ K := by
 intro K
 induction K with
 | zero =>
   intro A n hA hn _ _
   have hA0 : A = [] := List.length_eq_zero_iff.1 (by omega)
   subst hA0
   have hfn : f n = none := by
    cases e : f n with
    | none => rfl
    | some t => exact absurd (hn (by rw [e]; simp)) (by simp)
   rw [hN n, hfn]
   simp [Ty.sz]
 | succ K ih =>
   intro A n hA hn hm hd
   rw [hN n]
   cases e : f n with
   | none =>
     have := Nat.pow_pos (n := K + 1) (show 0 < c by omega)
     simp only [Ty.sz]; omega
   | some t =>
     simp only
     have hnA : n ∈ A := hn (by rw [e]; simp)
     have h1 : (t.app N).sz ≤ t.sz * c ^ K := sz_app_le (Nat.pow_pos (show 0 < c by omega)) t fun m hmt => by
      refine ih (A.erase n) m ?_ (fun hfm => ?_) (fun k hk hfk => ?_) (hd.erase n)
      · rw [List.length_erase_of_mem hnA]; omega
      · have : m ∈ A := hm m (.one e hmt) hfm
        rw [hd.mem_erase_iff]
        exact ⟨fun h => no_self hf n (by rw [h] at hmt; exact .one e hmt), this⟩
      · have : k ∈ A := hm k (.more e hmt hk) hfk
        rw [hd.mem_erase_iff]
        exact ⟨fun h => no_self hf n (by rw [h] at hk; exact .more e hmt hk), this⟩
     have h2 := Nat.mul_le_mul_right (c ^ K) (hs n t e)
     rw [Nat.pow_succ, Nat.mul_comm]
     omega
/-- What stands for variables is made of S, and what stands for their variables. -/
structure Tri (S : Ty → Prop) (L : Pairs) : Prop where
 map : ∃ f : Map, Fine f ∧ Norm f (subL L) ∧ (∀ n, f n ≠ none ↔ n ∈ dom L) ∧ ∀ n t, f n = some t → S t
theorem Tri.nil (S : Ty → Prop) : Tri S [] :=
 ⟨fun _ => none, ⟨⟨fun _ => 0, fun n m h => by cases h⟩, ⟨Ty.v, fun n t h => by cases h⟩⟩, fun n => rfl, fun n => by simp [dom], fun n t h => by cases h⟩
theorem Tri.sz {S : Ty → Prop} {L : Pairs} (h : Tri S L) {V : List Nat} (hV : ∀ n ∈ dom L, n ∈ V) (hd : V.Nodup) {c K : Nat} (hc : 1 ≤ c) (hK : V.length ≤ K) (hS : ∀ t, S t → t.sz ≤ c) (t : Ty) : (applyL L t).sz ≤ t.sz * c ^ K := by
 obtain ⟨f, hf, hN, hdom, hfs⟩ := h.map
 rw [applyL_sub]
 exact sz_app_le (Nat.pow_pos (show 0 < c by omega)) t fun n _ => sz_norm hf hN hc (fun n t e => hS t (hfs n t e)) K V n hK (fun e => hV n ((hdom n).1 e)) (fun m _ e => hV m ((hdom m).1 e)) hd
/-- A type whose list it is told by one of S. -/
theorem Tri.parts {S : Ty → Prop} {L : Pairs} (h : Tri S L) {s : Ty} (hs : S s) {nm : List UInt8} {xs : List Ty} (e : applyL L s = .a nm xs) : ∃ ys, S (.a nm ys) ∧ xs = ys.map (applyL L) := by
 obtain ⟨f, hf, hN, hdom, hfs⟩ := h.map
 have key : ∀ n, subL L n = .a nm xs → ∃ ys, S (.a nm ys) ∧ xs = ys.map (applyL L) := by
  refine hf.ind (fun n ih hn => ?_)
  have e1 := hN n
  cases e2 : f n with
  | none => rw [hn, e2] at e1; cases e1
  | some t =>
    rw [hn, e2] at e1
    cases t with
    | v m =>
      simp only [app_v] at e1
      exact ih _ e2 m (by rw [vs_v]; simp) e1.symm
    | a nm' ys =>
      simp only [app_a, Ty.a.injEq] at e1
      obtain ⟨rfl, rfl⟩ := e1
      exact ⟨ys, hfs n _ e2, List.map_congr_left fun x _ => (applyL_sub L x).symm⟩
 cases s with
 | v n => exact key n e
 | a nm' ys =>
   rw [applyL_sub, app_a] at e
   simp only [Ty.a.injEq] at e
   obtain ⟨rfl, rfl⟩ := e
   exact ⟨ys, hs, List.map_congr_left fun x _ => (applyL_sub L x).symm⟩
/-- One more is told. -/
theorem Tri.bind {S : Ty → Prop} {L : Pairs} (h : Tri S L) (hL : Solved L) {s : Ty} (hs : S s) {n : Nat} (hn : n ∉ dom L) (hnt : n ∉ (applyL L s).vs) : Tri S (bind L n (applyL L s)) := by
 classical
 obtain ⟨f, hf, hN, hdom, hfs⟩ := h.map
 have hsub := subL_bind hL hn (applied_vs hL s) hnt
 have hfn : f n = none := by
  cases e : f n with
  | none => rfl
  | some t => exact absurd ((hdom n).1 (by rw [e]; simp)) hn
 have hself : subL L n = .v n := subL_out hn
 obtain ⟨T, hT⟩ : ∃ T, T = applyL L s := ⟨_, rfl⟩
 rw [← hT] at hsub hnt ⊢
 have hput : ∀ t, put n T (applyL L t) = t.app (subL (Ux.bind L n T)) := fun t => by
  rw [applyL_sub L t, put, app_app]
  exact app_congr t fun m _ => (hsub m).symm
 obtain ⟨g, hg⟩ : ∃ g : Map, ∀ m, g m = if m = n then some s else f m := ⟨_, fun m => rfl⟩
 have hgn : g n = some s := by rw [hg, if_pos rfl]
 have hgo : ∀ m, m ≠ n → g m = f m := fun m e => by rw [hg, if_neg e]
 have hNg : Norm g (subL (Ux.bind L n T)) := by
  intro m
  by_cases e : m = n
  · subst e
    rw [hgn, hsub, hself]
    show put m T (.v m) = s.app _
    rw [← hput, ← hT, put_none hnt]
    unfold put putS
    rw [app_v, if_pos rfl]
  · rw [hgo m e, hsub m, hN m]
    cases e2 : f m with
    | none =>
      show put n T (.v m) = .v m
      exact put_none (by rw [vs_v]; simpa using fun h => e h.symm)
    | some t =>
      show put n T (t.app (subL L)) = t.app _
      rw [← applyL_sub, hput]
 refine ⟨g, ⟨?_, ⟨_, hNg.sol⟩⟩, hNg, ?_, ?_⟩
 · obtain ⟨r, hr⟩ := hf.down
   cases hsv : s with
   | a nm xs =>
     refine ⟨r, fun a b hab => ?_⟩
     by_cases e : a = n
     · subst e; rw [hgn, hsv] at hab; cases hab
     · rw [hgo a e] at hab; exact hr a b hab
   | v k =>
     have hk : subL L k ≠ .v n := fun e => by
      rw [hT, hsv, applyL_sub, app_v, e, vs_v] at hnt
      simp at hnt
     refine ⟨fun x => r x + (if subL L x = .v n then r k + 1 else 0), fun a b hab => ?_⟩
     by_cases e : a = n
     · subst e
       rw [hgn, hsv] at hab
       simp only [Option.some.injEq, Ty.v.injEq] at hab
       subst hab
       simp only [if_pos hself, if_neg hk]
       omega
     · rw [hgo a e] at hab
       have h1 := hr a b hab
       have h2 : subL L a = subL L b := by rw [hN a, hab]; show (Ty.v b).app _ = _; rw [app_v]
       simp only [h2]
       omega
 · intro m
   by_cases e : m = n
   · subst e; rw [hgn, dom_bind]; simp
   · rw [hgo m e, hdom, dom_bind]; simp [e]
 · intro m t ht
   by_cases e : m = n
   · subst e; rw [hgn] at ht; cases ht; exact hs
   · rw [hgo m e] at ht; exact hfs m t ht
/-- What came later tells all that was told. -/
def ExtL (L L' : Pairs) : Prop := ∀ t, applyL L' (applyL L t) = applyL L' t
theorem ExtL.refl {L : Pairs} (h : Solved L) : ExtL L L := fun t => applied_again h t
theorem ExtL.trans {A B C : Pairs} (h : ExtL A B) (g : ExtL B C) : ExtL A C := fun t => by
 rw [← g (applyL A t), h t, g t]
theorem ExtL.bind {L : Pairs} (hL : Solved L) {n : Nat} {t : Ty} (hn : n ∉ dom L) (ht : ∀ m ∈ t.vs, m ∉ dom L) (hnt : n ∉ t.vs) : ExtL L (Ux.bind L n t) := fun s => by
 have e : ∀ x, applyL (Ux.bind L n t) x = put n t (applyL L x) := fun x => by
  rw [applyL_sub (Ux.bind L n t), applyL_sub L x, put, app_app]
  exact app_congr x fun m _ => subL_bind hL hn ht hnt m
 rw [e, e, applied_again hL]
/-- By what is told a type is one that is made of S. -/
def OfS (S : Ty → Prop) (L : Pairs) (a : Ty) : Prop := ∃ s, S s ∧ applyL L a = applyL L s
theorem OfS.ext {S : Ty → Prop} {L L' : Pairs} {a : Ty} (h : OfS S L a) (e : ExtL L L') : OfS S L' a := by
 obtain ⟨s, hs, h⟩ := h
 exact ⟨s, hs, by rw [← e a, h, e s]⟩
theorem OfS.parts {S : Ty → Prop} (hS : ∀ nm xs, S (.a nm xs) → ∀ x ∈ xs, S x) {L : Pairs} (hL : Solved L) (hT : Tri S L) {a : Ty} (h : OfS S L a) {nm : List UInt8} {xs : List Ty} (e : applyL L a = .a nm xs) : ∀ x ∈ xs, OfS S L x := by
 obtain ⟨s, hs, h⟩ := h
 rw [e] at h
 obtain ⟨ys, hy, rfl⟩ := hT.parts hs h.symm
 intro x hx
 obtain ⟨y, hm, rfl⟩ := List.mem_map.1 hx
 exact ⟨y, hS nm ys hy y hm, applied_again hL y⟩
def TriOk (S : Ty → Prop) (L : Pairs) : Option (Option Pairs) → Prop
 | some (some L') => Solved L' ∧ Tri S L' ∧ ExtL L L'
 | _ => True
theorem headU_tri {S : Ty → Prop} {L : Pairs} (hL : Solved L) (hT : Tri S L) {n : Nat} {t : Ty} (hn : n ∉ dom L) (ht : ∀ m ∈ t.vs, m ∉ dom L) (ho : OfS S L t) (hnt : n ∉ t.vs) : TriOk S L (some (some (Ux.bind L n t))) := by
 obtain ⟨s, hs, e⟩ := ho
 have e0 : applyL L t = t := applyL_none L t ht
 rw [e0] at e
 refine ⟨bind_solved hL hn ht hnt, ?_, ExtL.bind hL hn ht hnt⟩
 rw [e] at hnt ⊢
 exact hT.bind hL hs hn hnt
theorem refU_tri {S : Ty → Prop} (hS : ∀ nm xs, S (.a nm xs) → ∀ x ∈ xs, S x) : ∀ (f : Nat) (L : Pairs) (a b : Ty), Solved L → Tri S L → OfS S L a → OfS S L b → TriOk S L (refU f L a b) := by
 intro f
 induction f with
 | zero => intro L a b _ _ _ _; trivial
 | succ f ih =>
   intro L a b hL hT ha hb
   have va := applied_vs hL a
   have vb := applied_vs hL b
   have oa : OfS S L (applyL L a) := by obtain ⟨s, hs, e⟩ := ha; exact ⟨s, hs, by rw [applied_again hL, e]⟩
   have ob : OfS S L (applyL L b) := by obtain ⟨s, hs, e⟩ := hb; exact ⟨s, hs, by rw [applied_again hL, e]⟩
   rw [refU]
   cases ea : applyL L a with
   | v n =>
     rw [ea] at va oa
     cases eb : applyL L b with
     | v m =>
       rw [eb] at vb ob
       simp only
       split
       · exact ⟨hL, hT, ExtL.refl hL⟩
       · rename_i hne
         exact headU_tri hL hT (va n (by rw [vs_v]; simp)) vb ob (by rw [vs_v]; simpa using fun h => hne h.symm)
     | a nm ys =>
       rw [eb] at vb ob
       simp only [headU]
       split
       · trivial
       · rename_i hc
         exact headU_tri hL hT (va n (by rw [vs_v]; simp)) vb ob (by simpa using hc)
   | a nm xs =>
     rw [ea] at va oa
     cases eb : applyL L b with
     | v n =>
       rw [eb] at vb ob
       simp only [headU]
       split
       · trivial
       · rename_i hc
         exact headU_tri hL hT (vb n (by rw [vs_v]; simp)) va oa (by simpa using hc)
     | a nm' ys =>
       simp only
       split
       · trivial
       · have px := OfS.parts hS hL hT ha ea
         have py := OfS.parts hS hL hT hb eb
         have loop : ∀ (xs ys : List Ty) (M : Pairs), Solved M → Tri S M → ExtL L M → (∀ x ∈ xs, OfS S M x) → (∀ y ∈ ys, OfS S M y) → TriOk S L (loopU (refU f) M xs ys) := by
          intro xs
          induction xs with
          | nil => intro ys M h1 h2 h3 _ _; cases ys <;> exact ⟨h1, h2, h3⟩
          | cons x xs ihx =>
            intro ys M h1 h2 h3 h4 h5
            cases ys with
            | nil => exact ⟨h1, h2, h3⟩
            | cons y ys =>
              rw [loopU]
              have hr := ih M x y h1 h2 (h4 x (by simp)) (h5 y (by simp))
              cases hg : refU f M x y with
              | none => trivial
              | some o =>
                cases o with
                | none => trivial
                | some M' =>
                  rw [hg] at hr
                  obtain ⟨k1, k2, k3⟩ := hr
                  exact ihx ys M' k1 k2 (h3.trans k3) (fun x hx => (h4 x (by simp [hx])).ext k3) (fun y hy => (h5 y (by simp [hy])).ext k3)
         exact loop xs ys L hL hT (ExtL.refl hL) px py
end Ux
end Go.Proofs.YtcblppojnailpaaDoor
namespace Go.Proofs.YtcblppojnailpaaDoor
namespace Ux
set_option linter.unusedVariables false
set_option linter.unusedSimpArgs false
/-- A node that came in. -/
structure Nod where
 var : Int
 name : Nat
 args : Nat
def nameOf (k : Nat) : List UInt8 := if k % 4 = 0 then [73, 110, 116] else if k % 4 = 1 then [76, 105, 115, 116] else if k % 4 = 2 then [45, 62] else [80, 97, 105, 114]
/-- The first k parts, and where what is behind them begins. -/
def kidsN (g : List Nod → Ty × Nat) (l : List Nod) : Nat → List Ty × Nat
 | 0 => ([], 1)
 | k + 1 => ((kidsN g l k).1 ++ [(g (l.drop (kidsN g l k).2)).1], (kidsN g l k).2 + (g (l.drop (kidsN g l k).2)).2)
/-- The type, and how many nodes it took: f is 13 less the depth. -/
def typN : Nat → List Nod → Ty × Nat
 | 0, _ => (.v 0, 0)
 | _ + 1, [] => (.v 0, 0)
 | f + 1, n :: r => if 0 ≤ n.var then (.v (n.var.toNat % 6), 1) else (.a (nameOf n.name) (kidsN (typN f) (n :: r) (n.args % 3)).1, (kidsN (typN f) (n :: r) (n.args % 3)).2)
theorem typN_nil (f : Nat) : typN f [] = (.v 0, 0) := by cases f <;> rfl
theorem typN_var (f : Nat) (n : Nod) (r : List Nod) (h : 0 ≤ n.var) : typN (f + 1) (n :: r) = (.v (n.var.toNat % 6), 1) := by rw [typN, if_pos h]
theorem typN_a (f : Nat) (n : Nod) (r : List Nod) (h : ¬ 0 ≤ n.var) : typN (f + 1) (n :: r) = (.a (nameOf n.name) (kidsN (typN f) (n :: r) (n.args % 3)).1, (kidsN (typN f) (n :: r) (n.args % 3)).2) := by rw [typN, if_neg h]
theorem kidsN_len (g : List Nod → Ty × Nat) (l : List Nod) : ∀ k, (kidsN g l k).1.length = k
 | 0 => rfl
 | k + 1 => by simp [kidsN, kidsN_len g l k]
theorem kidsN_le {g : List Nod → Ty × Nat} (hg : ∀ l, (g l).2 ≤ l.length) (l : List Nod) (h : l ≠ []) : ∀ k, 1 ≤ (kidsN g l k).2 ∧ (kidsN g l k).2 ≤ l.length
 | 0 => ⟨Nat.le_refl _, List.length_pos_iff.2 h⟩
 | k + 1 => by
   have h1 := kidsN_le hg l h k
   have h2 := hg (l.drop (kidsN g l k).2)
   rw [List.length_drop] at h2
   simp only [kidsN]; omega
theorem typN_le : ∀ (f : Nat) (l : List Nod), (typN f l).2 ≤ l.length := by
 intro f
 induction f with
 | zero => intro l; exact Nat.zero_le _
 | succ f ih =>
   intro l
   cases l with
   | nil => rw [typN_nil]; exact Nat.zero_le _
   | cons n r =>
     by_cases h : 0 ≤ n.var
     · rw [typN_var f n r h]; simp
     · rw [typN_a f n r h]; exact (kidsN_le ih _ (by simp) _).2
theorem kidsN_sz {g : List Nod → Ty × Nat} (hg : ∀ l, (g l).1.sz ≤ 2 * (g l).2 + 1) (l : List Nod) : ∀ k, ((kidsN g l k).1.map Ty.sz).sum + 2 ≤ 2 * (kidsN g l k).2 + k
 | 0 => by simp [kidsN]
 | k + 1 => by
   have h1 := kidsN_sz hg l k
   have h2 := hg (l.drop (kidsN g l k).2)
   simp only [kidsN, List.map_append, List.sum_append, List.map_cons, List.map_nil, List.sum_cons, List.sum_nil]
   omega
/-- A type has at most twice as many parts as it took nodes, and one. -/
theorem typN_sz : ∀ (f : Nat) (l : List Nod), (typN f l).1.sz ≤ 2 * (typN f l).2 + 1 := by
 intro f
 induction f with
 | zero => intro l; simp [typN, Ty.sz]
 | succ f ih =>
   intro l
   cases l with
   | nil => rw [typN_nil]; simp [Ty.sz]
   | cons n r =>
     by_cases h : 0 ≤ n.var
     · rw [typN_var f n r h]; simp [Ty.sz]
     · rw [typN_a f n r h]
       have h1 := kidsN_sz ih (n :: r) (n.args % 3)
       have h2 : n.args % 3 < 3 := Nat.mod_lt _ (by decide)
       simp only [sz_a]
       omega
theorem kidsN_mem {g : List Nod → Ty × Nat} (l : List Nod) : ∀ k, ∀ x ∈ (kidsN g l k).1, ∃ m, x = (g m).1
 | 0 => by intro x hx; cases hx
 | k + 1 => by
   intro x hx
   simp only [kidsN, List.mem_append, List.mem_singleton] at hx
   rcases hx with hx | rfl
   · exact kidsN_mem l k x hx
   · exact ⟨_, rfl⟩
/-- Its variables are less than six. -/
theorem typN_vs : ∀ (f : Nat) (l : List Nod), ∀ m ∈ (typN f l).1.vs, m < 6 := by
 intro f
 induction f with
 | zero => intro l m hm; simp [typN, vs_v] at hm; omega
 | succ f ih =>
   intro l
   cases l with
   | nil => rw [typN_nil]; intro m hm; rw [vs_v] at hm; simp at hm; omega
   | cons n r =>
     by_cases h : 0 ≤ n.var
     · rw [typN_var f n r h]; intro m hm; rw [vs_v] at hm; simp at hm; omega
     · rw [typN_a f n r h]
       intro m hm
       rw [vs_a] at hm
       obtain ⟨x, hx, hmx⟩ := List.mem_flatMap.1 hm
       obtain ⟨l', rfl⟩ := kidsN_mem _ _ x hx
       exact ih l' m hmx
/-- All parts of types. -/
inductive PartOf : Ty → Ty → Prop
 | self (t : Ty) : PartOf t t
 | down {nm : List UInt8} {xs : List Ty} {x t : Ty} : PartOf (.a nm xs) t → x ∈ xs → PartOf x t
theorem PartOf.sz {x t : Ty} (h : PartOf x t) : x.sz ≤ t.sz := by
 induction h with
 | self => exact Nat.le_refl _
 | down h hx ih =>
   have h1 := sum_ge Ty.sz hx
   rw [sz_a] at ih
   omega
theorem PartOf.vs {x t : Ty} (h : PartOf x t) : ∀ m ∈ x.vs, m ∈ t.vs := by
 induction h with
 | self => exact fun m hm => hm
 | down h hx ih => exact fun m hm => ih m (by rw [vs_a]; exact List.mem_flatMap.2 ⟨_, hx, hm⟩)
/-- What is part of some types. -/
def Parts (T : List Ty) (x : Ty) : Prop := ∃ t ∈ T, PartOf x t
end Ux
end Go.Proofs.YtcblppojnailpaaDoor
namespace Go.Proofs.YtcblppojnailpaaDoor
namespace Ux
set_option linter.unusedVariables false
set_option linter.unusedSimpArgs false
end Ux
end Go.Proofs.YtcblppojnailpaaDoor
namespace Go.Proofs.YtcblppojnailpaaDoor
namespace Ux
set_option linter.unusedVariables false
set_option linter.unusedSimpArgs false
/-- n, or one more than m, if it is more. -/
def cut (m n : Nat) : Nat := if n ≤ m then n else m + 1
/-- Counted on from n, each no further than is left. -/
def addUp (m : Nat) : Nat → List Nat → Nat
 | n, [] => n
 | n, s :: r => if n ≤ m then addUp m (n + cut (m - n) s) r else n
theorem cut_addUp (m : Nat) : ∀ (ss : List Nat) (n : Nat), cut m (addUp m n ss) = cut m (n + ss.sum)
 | [], n => by simp [addUp]
 | s :: r, n => by
   rw [addUp]
   split
   · rename_i h
     rw [cut_addUp m r, List.sum_cons]
     unfold cut
     rcases Nat.lt_or_ge (m - n) s with h1 | h1
     · rw [if_neg (show ¬ s ≤ m - n by omega), if_neg (show ¬ n + (m - n + 1) + r.sum ≤ m by omega), if_neg (show ¬ n + (s + r.sum) ≤ m by omega)]
     · rw [if_pos h1, Nat.add_assoc]
   · rename_i h
     rw [List.sum_cons]
     unfold cut
     rw [if_neg h, if_neg (show ¬ n + (s + r.sum) ≤ m by omega)]
theorem cut_sz (m : Nat) (nm : List UInt8) (xs : List Ty) : cut m (addUp m 1 (xs.map Ty.sz)) = cut m (Ty.a nm xs).sz := by rw [cut_addUp, sz_a]
theorem cut_le (m n : Nat) : cut m n ≤ m + 1 := by unfold cut; split <;> omega
def sizeU (L : Pairs) (m : Nat) (t : Ty) : Nat := cut m (applyL L t).sz
theorem applyL_a (L : Pairs) (nm : List UInt8) (xs : List Ty) : applyL L (.a nm xs) = .a nm (xs.map (applyL L)) := by
 rw [applyL_sub, app_a]
 congr 1
 exact List.map_congr_left fun x _ => (applyL_sub L x).symm
theorem sizeU_a (L : Pairs) (m : Nat) (nm : List UInt8) (xs : List Ty) : sizeU L m (.a nm xs) = cut m (addUp m 1 (xs.map fun x => (applyL L x).sz)) := by
 unfold sizeU
 rw [cut_addUp, applyL_a, sz_a, List.map_map]
 rfl
mutual
/-- A type's text. -/
def textT : Ty → List UInt8
 | .v n => 116 :: Lib.itoa n
 | .a nm xs => if xs.isEmpty then nm else 40 :: (nm ++ textR xs)
/-- What stands behind a list's name. -/
def textR : List Ty → List UInt8
 | [] => [41]
 | x :: r => 32 :: (textT x ++ textR r)
end
theorem textT_v (n : Nat) : textT (.v n) = 116 :: Lib.itoa n := by rw [textT]
theorem textT_nil (nm : List UInt8) : textT (.a nm []) = nm := by rw [textT]; rfl
theorem textT_cons (nm : List UInt8) (x : Ty) (r : List Ty) : textT (.a nm (x :: r)) = 40 :: (nm ++ textR (x :: r)) := by rw [textT]; rfl
theorem textR_nil : textR [] = [41] := by rw [textR]
theorem textR_cons (x : Ty) (r : List Ty) : textR (x :: r) = 32 :: (textT x ++ textR r) := by rw [textR]
theorem textR_flat : ∀ xs : List Ty, textR xs = (xs.flatMap fun x => 32 :: textT x) ++ [41]
 | [] => by rw [textR_nil]; rfl
 | x :: r => by rw [textR_cons, textR_flat r]; simp
/-- What is still to be written of lists that are open. -/
def openText (fs : List (List Ty)) : List UInt8 := fs.flatMap textR
/-- What is written of a type at once, and which list is open then. -/
def beginT : Ty → List UInt8 × List (List Ty)
 | .v n => (116 :: Lib.itoa n, [])
 | .a nm xs => if xs.isEmpty then (nm, []) else (40 :: nm, [xs])
theorem begin_text (t : Ty) : (beginT t).1 ++ openText (beginT t).2 = textT t := by
 cases t with
 | v n => simp [beginT, openText, textT_v]
 | a nm xs =>
   cases xs with
   | nil => simp [beginT, openText, textT_nil]
   | cons x r => rw [textT_cons]; simp [beginT, openText]
end Ux
end Go.Proofs.YtcblppojnailpaaDoor
namespace Go.Proofs.YtcblppojnailpaaDoor
namespace Ux
set_option linter.unusedVariables false
set_option linter.unusedSimpArgs false
/-- What s tells, and the document's pairs: the same things are so. -/
structure Both (f : Map) (L : Pairs) : Prop where
 fine : Fine f
 solved : Solved L
 most : Most L (Sol f)
theorem Both.nil : Both (fun _ => none) [] where
 fine := ⟨⟨fun _ => 0, fun n m h => by cases h⟩, ⟨Ty.v, fun n t h => by cases h⟩⟩
 solved := ⟨List.nodup_nil, fun p hp => by cases hp⟩
 most := fun σ => ⟨fun _ n => by rw [show subL [] n = .v n from rfl, app_v], fun _ n t h => by cases h⟩
/-- What the program's Unify comes to: f' is told then, or nothing makes the two one. -/
def Made (f f' : Map) (a b : Ty) : Prop := Fine f' ∧ ∀ σ, Sol f' σ ↔ Sol f σ ∧ a.app σ = b.app σ
def Never (f : Map) (a b : Ty) : Prop := ∀ σ, Sol f σ → a.app σ ≠ b.app σ
/-- Both can, or neither can. -/
theorem Both.step {f f' : Map} {L : Pairs} (h : Both f L) {a b : Ty} {k : Nat} {r : Option Pairs} (hr : refU k L a b = some r) :
 (Made f f' a b → ∃ L', r = some L' ∧ Both f' L') ∧ (Never f a b → r = none) := by
 have hok := refU_ok k L a b (Sol f) h.solved h.most
 rw [hr] at hok
 refine ⟨fun hm => ?_, fun hn => ?_⟩
 · cases r with
   | none =>
     obtain ⟨σ, hσ⟩ := hm.1.sol
     exact absurd ((hm.2 σ).1 hσ).2 (hok σ ((hm.2 σ).1 hσ).1)
   | some L' =>
     obtain ⟨h1, h2⟩ := hok
     exact ⟨L', rfl, hm.1, h1, fun σ => (hm.2 σ).trans (h2 σ)⟩
 · cases r with
   | none => rfl
   | some L' =>
     obtain ⟨h1, h2⟩ := hok
     have h3 := Most.self h1 h2
     exact absurd h3.2 (hn _ h3.1)
theorem Both.norm {f : Map} {L : Pairs} (h : Both f L) {N : Sub} (hN : Norm f N) (t : Ty) : canon (t.app N) = canon (applyL L t) := by
 rw [applyL_sub]
 exact most_variants (S := Sol f) (fun σ => hN.says h.fine σ) h.most hN.sol (Most.self h.solved h.most) t
/-- Names for variables change no number of parts. -/
theorem sz_ren (π : Nat → Nat) : ∀ t : Ty, (ren π t).sz = t.sz := by
 refine Ty.ind (fun n => ?_) (fun nm xs ih => ?_)
 · unfold ren; rw [app_v]; simp [Ty.sz]
 · unfold ren at ih ⊢
   rw [app_a, sz_a, sz_a, List.map_map]
   congr 2
   exact List.map_congr_left fun x hx => ih x hx
theorem sz_canon {a b : Ty} (h : canon a = canon b) : a.sz = b.sz := by
 have e : ∀ t : Ty, (canon t).sz = t.sz := fun t => sz_ren _ t
 rw [← e a, ← e b, h]
theorem Both.sz {f : Map} {L : Pairs} (h : Both f L) {N : Sub} (hN : Norm f N) (t : Ty) : (t.app N).sz = (applyL L t).sz := sz_canon (h.norm hN t)
/-- Two ways to the same things make the same but for names. -/
theorem fine_like {f g : Map} (hf : Fine f) (hg : Fine g) {N M : Sub} (hN : Norm f N) (hM : Norm g M) (e : ∀ σ, Sol f σ ↔ Sol g σ) (t : Ty) : canon (t.app N) = canon (t.app M) :=
 most_variants (S := Sol f) (fun σ => hN.says hf σ) (fun σ => (e σ).trans (hM.says hg σ)) hN.sol ((e M).2 hM.sol) t
/-- Both sides of what was made one come to the same. -/
theorem made_one {f f' : Map} {a b : Ty} (h : Made f f' a b) {N : Sub} (hN : Norm f' N) : a.app N = b.app N := ((h.2 N).1 hN.sol).2
end Ux
end Go.Proofs.YtcblppojnailpaaDoor
namespace Go.Proofs.YtcblppojnailpaaDoor
open Go Go.RowKit
set_option linter.unusedVariables false
set_option linter.unusedSimpArgs false
/-- More parts, more numbers. -/
structure Grow (ps : List Prt) (kl : LKey → Option (List Nat)) (ps' : List Prt) (kl' : LKey → Option (List Nat)) : Prop where
 len : ps.length ≤ ps'.length
 at_ : ∀ (i : Nat) (p : Prt), ps[i]? = some p → ∃ a b, ps'[i]? = some { p with tt := a, st := b }
 kl : ∀ x ls, kl x = some ls → kl' x = some ls
theorem Grow.same {ps ps' : List Prt} (h : Same ps ps') (kl : LKey → Option (List Nat)) : Grow ps kl ps' kl := ⟨by rw [h.1]; exact Nat.le_refl _, h.2, fun _ _ h => h⟩
theorem Grow.app {ps ex : List Prt} {kl kl' : LKey → Option (List Nat)} (h : ∀ x ls, kl x = some ls → kl' x = some ls) : Grow ps kl (ps ++ ex) kl' :=
 ⟨by simp, fun i p hi => ⟨p.tt, p.st, by rw [List.getElem?_append_left (List.getElem?_eq_some_iff.1 hi).1]; exact hi⟩, h⟩
theorem Grow.trans {a b d : List Prt} {ka kb kd : LKey → Option (List Nat)} (h : Grow a ka b kb) (k : Grow b kb d kd) : Grow a ka d kd :=
 ⟨Nat.le_trans h.len k.len, fun i p hi => by obtain ⟨x, y, h1⟩ := h.at_ i p hi; obtain ⟨x', y', h2⟩ := k.at_ i _ h1; exact ⟨x', y', h2⟩, fun x ls hx => k.kl x ls (h.kl x ls hx)⟩
section
variable {ps ps' : List Prt} {kl kl' : LKey → Option (List Nat)} {rep rep' : Nat → Nat} {f : Ux.Map}
theorem gr_at {i : Nat} {p : Prt} (h : ps[i]? = some p) : (mkGr ps kl rep).D i = p.D ∧ (mkGr ps kl rep).kids i = kidsOf kl p := by
 constructor <;> simp only [mkGr, h]
theorem Grow.D (h : Grow ps kl ps' kl') {i : Nat} (hi : i < ps.length) : (mkGr ps' kl' rep').D i = (mkGr ps kl rep).D i := by
 obtain ⟨a, b, h1⟩ := h.at_ i _ (List.getElem?_eq_getElem hi)
 rw [(gr_at h1).1, (gr_at (List.getElem?_eq_getElem hi)).1]
theorem kidsOf_more (h : ∀ x ls, kl x = some ls → kl' x = some ls) {p : Prt} {ks : List Nat} (hk : kidsOf kl p = some ks) : kidsOf kl' p = some ks := by
 unfold kidsOf at hk ⊢
 by_cases hm : p.m = 0
 · rw [if_pos hm] at hk ⊢; exact hk
 · rw [if_neg hm] at hk ⊢
   cases hq : p.q with
   | none => rw [hq] at hk; cases hk
   | some a => rw [hq] at hk; exact h _ _ hk
theorem Grow.kids (h : Grow ps kl ps' kl') {i : Nat} (hi : i < ps.length) {ks : List Nat} (hk : (mkGr ps kl rep).kids i = some ks) : (mkGr ps' kl' rep').kids i = some ks := by
 obtain ⟨a, b, h1⟩ := h.at_ i _ (List.getElem?_eq_getElem hi)
 rw [(gr_at (List.getElem?_eq_getElem hi)).2] at hk
 rw [(gr_at h1).2]
 exact kidsOf_more (kl := kl) h.kl hk
theorem Grow.ks (h : Grow ps kl ps' kl') (hr : ∀ x, ps.length ≤ x → rep x = x) (hlt : ∀ x, x < ps.length → rep x < ps.length) (σ : Ux.Sub) : Ux.KS f (mkGr ps' kl' rep) σ ↔ Ux.KS f (mkGr ps kl rep) σ := by
 constructor
 · rintro ⟨h1, h2⟩
   refine ⟨h1, fun i hi => ?_⟩
   have := h2 i (Nat.lt_of_lt_of_le hi h.len)
   rw [h.D (rep := rep) hi] at this
   rw [this]
   show ((mkGr ps' kl' rep).D (rep i)).app σ = _
   rw [h.D (rep := rep) (hlt i hi)]
   rfl
 · rintro ⟨h1, h2⟩
   refine ⟨h1, fun i hi => ?_⟩
   rcases Nat.lt_or_ge i ps.length with hl | hl
   · have := h2 i hl
     rw [h.D (rep := rep) hl]
     show _ = ((mkGr ps' kl' rep).D (rep i)).app σ
     rw [h.D (rep := rep) (hlt i hl)]
     exact this
   · show _ = ((mkGr ps' kl' rep).D (rep i)).app σ
     rw [hr i hl]
theorem Grow.cong (h : Grow ps kl ps' kl') (hr : ∀ x, ps.length ≤ x → rep x = x) (hlt : ∀ x, x < ps.length → rep x < ps.length) {P : List (Nat × Nat)} (hc : Ux.Cong (mkGr ps kl rep) P) : Ux.Cong (mkGr ps' kl' rep) P := by
 intro i hi hne nm xs hD
 have hl : i < ps.length := by
  rcases Nat.lt_or_ge i ps.length with hl | hl
  · exact hl
  · exact absurd (hr i hl) hne
 rw [h.D (rep := rep) hl] at hD
 obtain ⟨ys, ks, ks', a1, a2, a3, a4, a5⟩ := hc i hl hne nm xs hD
 refine ⟨ys, ks, ks', ?_, a2, h.kids hl a3, h.kids (rep := rep) (hlt i hl) a4, fun k c c' hk hk' => (a5 k c c' hk hk').mono (fun x y e => .rep e) fun x y e => .pair e⟩
 show (mkGr ps' kl' rep).D (rep i) = _
 rw [h.D (rep := rep) (hlt i hl)]; exact a1
theorem Grow.par (h : Grow ps kl ps' kl') {a b : Nat} (hp : Ux.Par (mkGr ps kl rep) a b) {y : Nat} {ks : List Nat} (hy : y < ps.length) (hk : (mkGr ps' kl' rep').kids y = some ks) (hD : ∃ nm xs, (mkGr ps kl rep).D y = .a nm xs) (hn : ∀ j, ps.length ≤ j → j < ps'.length → j ∈ ks) : Ux.Par (mkGr ps' kl' rep') a b := by
 intro i hi
 rcases Nat.lt_or_ge i ps.length with hl | hl
 · rcases hp i hl with e | e | ⟨z, ls, nm, xs, h1, h2, h3, h4⟩
   · exact .inl e
   · exact .inr (.inl e)
   · have hz : z < ps.length := Nat.lt_trans h1 hl
     exact .inr (.inr ⟨z, ls, nm, xs, h1, h.kids (rep := rep) hz h2, h3, by rw [h.D (rep := rep) hz]; exact h4⟩)
 · obtain ⟨nm, xs, hD⟩ := hD
   exact .inr (.inr ⟨y, ks, nm, xs, by omega, hk, hn i hl hi, by rw [h.D (rep := rep) hy]; exact hD⟩)
theorem inv_rep (h : Ux.GInv f (mkGr ps kl rep')) (hlt : ∀ x, x < ps.length → rep x < ps.length) (hrr : ∀ x, x < ps.length → rep (rep x) = rep x) : Ux.GInv f (mkGr ps kl rep) := ⟨h.free, h.uniq, hlt, hrr, h.kid⟩
def linkR (rep : Nat → Nat) (i j : Nat) : Nat → Nat := fun x => if rep x = i then j else rep x
theorem link_gr (ps : List Prt) (kl : LKey → Option (List Nat)) (rep : Nat → Nat) (i j : Nat) : mkGr ps kl (linkR rep i j) = Ux.link (mkGr ps kl rep) i j := rfl
/-- How many parts stand for themselves. -/
def roots (rep : Nat → Nat) (n : Nat) : Nat := ((List.range n).filter fun x => decide (rep x = x)).length
theorem roots_more (rep : Nat → Nat) (n : Nat) (h : ∀ x, n ≤ x → rep x = x) : ∀ k, roots rep (n + k) = roots rep n + k
 | 0 => rfl
 | k + 1 => by
   have := roots_more rep n h k
   unfold roots at this ⊢
   rw [← Nat.add_assoc, List.range_succ, List.filter_append, List.length_append, this]
   simp [h (n + k) (by omega)]
   omega
theorem roots_le (rep : Nat → Nat) (n : Nat) : roots rep n ≤ n := Nat.le_trans (List.length_filter_le _ _) (by simp)
theorem roots_link {i j n : Nat} (hi : i < n) (ri : rep i = i) (rj : rep j = j) (hij : i ≠ j) : roots (linkR rep i j) n < roots rep n := by
 unfold roots
 refine Ux.filter_lt (n := i) (List.mem_range.2 hi) (by simp [ri]) (by simp [linkR, ri]; exact fun e => hij e.symm) fun m hm => ?_
 replace hm := of_decide_eq_true hm
 refine decide_eq_true ?_
 unfold linkR at hm
 by_cases e : rep m = i
 · rw [if_pos e] at hm; subst hm; rw [rj] at e; exact absurd e.symm hij
 · rw [if_neg e] at hm; exact hm
variable {c : GCx} {e : Nat} {w w' : World} {pv : Value}
theorem GSt.link (h : GSt c e w ps kl rep pv) (hc : c.Ok) {i j : Nat} {p : Prt} (hp : ps[i]? = some p) (hj : j < ps.length) (ri : rep i = i) (rj : rep j = j) (hij : i ≠ j) {pb cap : Nat} (hpv : pv = .slice (some ⟨pb, 0, none⟩) ps.length cap) :
 GSt c e (w.setCell ⟨pb, i * 5 + 3, none⟩ (.int .i64 (j : Int))) (ps.set i { p with tt := j, st := p.st }) kl (linkR rep i j) pv := by
 have hil := (List.getElem?_eq_some_iff.1 hp).1
 subst hpv
 have hst := (h.own.stored (i * 5 + 3) (.int .i64 (j : Int))).1
 rw [pcells_set (fun q => { q with tt := j, st := q.st }) 3 (.int .i64 (j : Int)) (by decide) (fun q => rfl) hp] at hst
 obtain ⟨d, hd⟩ := h.tree
 refine h.upd hc (Chg.set (R := fun b => (Value.slice (some ⟨pb, 0, none⟩) ps.length cap).ownBlock = some b) (p := ⟨pb, i * 5 + 3, none⟩) rfl _) (by rw [List.length_set]; exact hst) (Same.set hp _ _) ⟨fun x => if rep x = i then d x + d j + 1 else d x, fun x q hq => ?_⟩ fun x hx => ?_
 · rw [List.length_set]
   have hji : ¬ rep j = i := fun e => by rw [rj] at e; exact hij e.symm
   by_cases e : i = x
   · subst e
     rw [List.getElem?_set_self hil] at hq; injection hq with hq; subst hq
     refine ⟨hj, fun _ => ?_, ?_, ?_⟩
     · show (if rep j = i then _ else _) < (if rep i = i then _ else _)
       rw [if_neg hji, if_pos ri]; dsimp only; omega
     · show linkR rep i j j = linkR rep i j i
       unfold linkR; rw [if_neg hji, if_pos ri]; exact rj
     · show linkR rep i j i = i ↔ j = i
       unfold linkR; rw [if_pos ri]
   · rw [List.getElem?_set_ne e] at hq
     obtain ⟨t1, t2, t3, t4⟩ := hd x q hq
     refine ⟨t1, fun hne => ?_, ?_, ?_⟩
     · show (if rep q.tt = i then _ else _) < (if rep x = i then _ else _)
       rw [t3]
       have := t2 hne
       by_cases e2 : rep x = i
       · rw [if_pos e2, if_pos e2]; omega
       · rw [if_neg e2, if_neg e2]; exact this
     · unfold linkR; rw [t3]
     · unfold linkR
       by_cases e2 : rep x = i
       · rw [if_pos e2]
         constructor
         · intro e3; subst e3; exact absurd e2 hji
         · intro e3; exact absurd ((t4.2 e3).symm.trans e2) (Ne.symm e)
       · rw [if_neg e2]; exact t4
 · have := h.outr x hx
   unfold linkR; rw [this, if_neg (by omega)]
/-- A variable is made one with something. -/
theorem jl_var {q : Nat × Nat} {r : List (Nat × Nat)} {i j v : Nat} {Goal : Ux.Sub → Prop} (hg : Ux.GInv f (mkGr ps kl rep)) (hc : Ux.Cong (mkGr ps kl rep) (q :: r)) (hs : ∀ σ, (Ux.KS f (mkGr ps kl rep) σ ∧ ∀ y ∈ q :: r, ((mkGr ps kl rep).D y.1).app σ = ((mkGr ps kl rep).D y.2).app σ) ↔ Goal σ)
 (hq : q.1 < ps.length ∧ q.2 < ps.length) (hi : i < ps.length) (hj : j < ps.length) (ri : rep i = i) (rj : rep j = j) (hij : i ≠ j) (hD : (mkGr ps kl rep).D i = .v v) (hxy : (rep q.1 = i ∧ rep q.2 = j) ∨ (rep q.1 = j ∧ rep q.2 = i)) :
 Ux.Cong (mkGr ps kl (linkR rep i j)) r ∧ ∀ σ, (Ux.KS f (mkGr ps kl (linkR rep i j)) σ ∧ ∀ y ∈ r, ((mkGr ps kl rep).D y.1).app σ = ((mkGr ps kl rep).D y.2).app σ) ↔ Goal σ := by
 rw [link_gr]
 obtain ⟨qa, qb⟩ := q
 refine ⟨Ux.cong_var hg hc hi hj ri rj hij hD hxy, fun σ => ?_⟩
 rw [Ux.link_says hg hi hj ri rj σ, ← hs σ]
 have hrep : Ux.KS f (mkGr ps kl rep) σ → (((mkGr ps kl rep).D i).app σ = ((mkGr ps kl rep).D j).app σ ↔ ((mkGr ps kl rep).D qa).app σ = ((mkGr ps kl rep).D qb).app σ) := fun hk => by
  have h1 := hk.2 qa hq.1
  have h2 := hk.2 qb hq.2
  dsimp only at hxy ⊢
  rw [h1, h2]
  show _ ↔ ((mkGr ps kl rep).D (rep qa)).app σ = ((mkGr ps kl rep).D (rep qb)).app σ
  rcases hxy with ⟨e1, e2⟩ | ⟨e1, e2⟩
  · rw [e1, e2]
  · rw [e1, e2]; exact ⟨Eq.symm, Eq.symm⟩
 constructor
 · rintro ⟨⟨a1, a2⟩, a3⟩
   exact ⟨a1, fun y hy => (List.mem_cons.1 hy).elim (fun e => e ▸ (hrep a1).1 a2) (a3 y)⟩
 · rintro ⟨a1, a2⟩
   exact ⟨⟨a1, (hrep a1).2 (a2 (qa, qb) (by simp))⟩, fun y hy => a2 y (by simp [hy])⟩
/-- Two parts with names are made one: their parts wait. -/
theorem jl_app {q : Nat × Nat} {r : List (Nat × Nat)} {i j : Nat} {nm : List UInt8} {xs ys : List Ux.Ty} {ks ks' : List Nat} {Goal : Ux.Sub → Prop} (hg : Ux.GInv f (mkGr ps kl rep)) (hc : Ux.Cong (mkGr ps kl rep) (q :: r)) (hs : ∀ σ, (Ux.KS f (mkGr ps kl rep) σ ∧ ∀ y ∈ q :: r, ((mkGr ps kl rep).D y.1).app σ = ((mkGr ps kl rep).D y.2).app σ) ↔ Goal σ)
 (hq : q.1 < ps.length ∧ q.2 < ps.length) (hi : i < ps.length) (hj : j < ps.length) (ri : rep i = i) (rj : rep j = j) (hij : i ≠ j) (hDi : (mkGr ps kl rep).D i = .a nm xs) (hDj : (mkGr ps kl rep).D j = .a nm ys) (hl : ys.length = xs.length) (hki : (mkGr ps kl rep).kids i = some ks) (hkj : (mkGr ps kl rep).kids j = some ks') (hx : rep q.1 = i) (hy : rep q.2 = j)
 (P' : List (Nat × Nat)) (h1 : ∀ p ∈ r, p ∈ P') (h2 : ∀ (k c c' : Nat), ks[k]? = some c → ks'[k]? = some c' → (c, c') ∈ P') (h3 : ∀ p ∈ P', p ∈ r ∨ ∃ k : Nat, ks[k]? = some p.1 ∧ ks'[k]? = some p.2) :
 Ux.Cong (mkGr ps kl (linkR rep i j)) P' ∧ ∀ σ, (Ux.KS f (mkGr ps kl (linkR rep i j)) σ ∧ ∀ y ∈ P', ((mkGr ps kl rep).D y.1).app σ = ((mkGr ps kl rep).D y.2).app σ) ↔ Goal σ := by
 rw [link_gr]
 obtain ⟨qa, qb⟩ := q
 dsimp only at hx hy hq
 refine ⟨Ux.cong_app hg hc hi hj ri rj hij hDi hDj hl hki hkj hx hy P' h1 h2, fun σ => ?_⟩
 rw [Ux.link_says hg hi hj ri rj σ, ← hs σ]
 have hrep : Ux.KS f (mkGr ps kl rep) σ → (((mkGr ps kl rep).D i).app σ = ((mkGr ps kl rep).D j).app σ ↔ ((mkGr ps kl rep).D qa).app σ = ((mkGr ps kl rep).D qb).app σ) := fun hk => by
  have e1 := hk.2 qa hq.1
  have e2 := hk.2 qb hq.2
  rw [e1, e2]
  show _ ↔ ((mkGr ps kl rep).D (rep qa)).app σ = ((mkGr ps kl rep).D (rep qb)).app σ
  rw [hx, hy]
 have hparts : Ux.KS f (mkGr ps kl rep) σ → _ := fun hk => Ux.app_parts hg hi hj hDi hDj hl hki hkj hk.1
 constructor
 · rintro ⟨⟨a1, a2⟩, a3⟩
   refine ⟨a1, fun y hy => (List.mem_cons.1 hy).elim (fun e => e ▸ (hrep a1).1 a2) fun hy => a3 y (h1 y hy)⟩
 · rintro ⟨a1, a2⟩
   have h4 := (hrep a1).2 (a2 (qa, qb) (by simp))
   refine ⟨⟨a1, h4⟩, fun y hy => ?_⟩
   rcases h3 y hy with h5 | ⟨k, h5, h6⟩
   · exact a2 y (by simp [h5])
   · exact (hparts a1).1 h4 k _ _ h5 h6
/-- Types with other names, or of other lengths, are never one. -/
theorem jl_not {q : Nat × Nat} {r : List (Nat × Nat)} {i j : Nat} {nm nm' : List UInt8} {xs ys : List Ux.Ty} {Goal : Ux.Sub → Prop} (hs : ∀ σ, (Ux.KS f (mkGr ps kl rep) σ ∧ ∀ y ∈ q :: r, ((mkGr ps kl rep).D y.1).app σ = ((mkGr ps kl rep).D y.2).app σ) ↔ Goal σ)
 (hq : q.1 < ps.length ∧ q.2 < ps.length) (hDi : (mkGr ps kl rep).D i = .a nm xs) (hDj : (mkGr ps kl rep).D j = .a nm' ys) (hx : rep q.1 = i) (hy : rep q.2 = j) (hne : nm ≠ nm' ∨ xs.length ≠ ys.length) (σ : Ux.Sub) : ¬ Goal σ := by
 rw [← hs σ]
 rintro ⟨a1, a2⟩
 have e1 := a1.2 q.1 hq.1
 have e2 := a1.2 q.2 hq.2
 have e3 := a2 q (by simp)
 have e4 : ((mkGr ps kl rep).D i).app σ = ((mkGr ps kl rep).D j).app σ := by
  rw [e1, e2] at e3
  have e5 : ((mkGr ps kl rep).D (rep q.1)).app σ = ((mkGr ps kl rep).D (rep q.2)).app σ := e3
  rw [hx, hy] at e5; exact e5
 rw [hDi, hDj, Ux.app_a, Ux.app_a] at e4
 injection e4 with e5 e6
 rcases hne with h | h
 · exact h e5
 · exact h (by have := congrArg List.length e6; simpa using this)
end
end Go.Proofs.YtcblppojnailpaaDoor
namespace Go.Proofs.YtcblppojnailpaaDoor
open Go Go.RowKit
set_option linter.unusedVariables false
set_option linter.unusedSimpArgs false
theorem eltTwo : Elt 133 132 (.agg #[.int .i64 0, .int .i64 0]) 2 16 := ⟨Tryd.underlying133, by kernel_rfl, rfl, by decide, by decide⟩
def prc : List (Nat × Nat) → List Value
 | [] => []
 | q :: r => prc r ++ [.int .i64 (q.1 : Int), .int .i64 (q.2 : Int)]
theorem prc_len : ∀ P : List (Nat × Nat), (prc P).length = P.length * 2
 | [] => rfl
 | q :: r => by rw [prc, List.length_append, prc_len r]; simp; omega
theorem prc_top (q : Nat × Nat) (r : List (Nat × Nat)) : (prc (q :: r))[r.length * 2]? = some (.int .i64 (q.1 : Int)) ∧ (prc (q :: r))[r.length * 2 + 1]? = some (.int .i64 (q.2 : Int)) := by
 rw [prc]
 constructor
 · rw [List.getElem?_append_right (by rw [prc_len]; omega), prc_len]; simp
 · rw [List.getElem?_append_right (by rw [prc_len]; omega), prc_len]; simp
theorem eqv_link {ps ps' : List Prt} {kl kl' : LKey → Option (List Nat)} {rep : Nat → Nat} {q : Nat × Nat} {r P' : List (Nat × Nat)} {i j a b : Nat} (h : Ux.Eqv (mkGr ps kl rep) (q :: r) a b) (hxy : (rep q.1 = i ∧ rep q.2 = j) ∨ (rep q.1 = j ∧ rep q.2 = i)) (rj : rep j = j) (hP : ∀ p ∈ r, p ∈ P') : Ux.Eqv (mkGr ps' kl' (linkR rep i j)) P' a b := by
 refine h.mono (fun x y e => .rep ?_) fun x y hm => ?_
 · show linkR rep i j x = linkR rep i j y
   unfold linkR; rw [show rep x = rep y from e]
 · rcases List.mem_cons.1 hm with e | hm
   · refine .rep ?_
     show linkR rep i j x = linkR rep i j y
     rw [← e] at hxy
     dsimp only at hxy
     unfold linkR
     rcases hxy with ⟨e1, e2⟩ | ⟨e1, e2⟩
     · rw [e1, e2, if_pos rfl]; split <;> rfl
     · rw [e1, e2, if_pos rfl]; split <;> rfl
   · exact .pair (hP _ hm)
theorem eqv_skip {ps ps' : List Prt} {kl kl' : LKey → Option (List Nat)} {rep : Nat → Nat} {q : Nat × Nat} {r : List (Nat × Nat)} {a b : Nat} (h : Ux.Eqv (mkGr ps kl rep) (q :: r) a b) (hq : rep q.1 = rep q.2) : Ux.Eqv (mkGr ps' kl' rep) r a b := by
 refine h.mono (fun x y e => .rep e) fun x y hm => ?_
 rcases List.mem_cons.1 hm with e | hm
 · rw [← e] at hq; exact .rep hq
 · exact .pair hm
def jmeas (c : GCx) (n : Nat) (rep : Nat → Nat) (l : Nat) : Nat := ((2 + llen c.U - n) + roots rep n) * (llen c.U + 2) + l
def ParB (D0 : Ux.Ty) (ps : List Prt) (kl : LKey → Option (List Nat)) (rep : Nat → Nat) (i0 j0 : Nat) : Prop := Ux.Par (mkGr ps kl rep) i0 j0 ∧ i0 < ps.length ∧ j0 < ps.length ∧ (mkGr ps kl rep).D i0 = D0
/-- What the loop knows. -/
def JL (D0 : Ux.Ty) (c : GCx) (Goal : Ux.Sub → Prop) (i0 j0 lo : Nat) (w0 : World) (pv0 : Value) (k : Nat) (ov : Value) (w : World) : Prop :=
 ∃ ps kl rep pv P, GSt c 2 w ps kl rep pv ∧ w.ownsRow lo 132 2 ov P.length (prc P) ∧ Chg (GKeep c pv0) w0 w ∧ (pv.ownBlock = pv0.ownBlock ∨ ∀ g, pv.ownBlock = some g → w0.heap.size ≤ g) ∧ (Ux.Cong (mkGr ps kl rep) P ∧ Ux.Eqv (mkGr ps kl rep) P i0 j0) ∧
  (∀ σ, (Ux.KS c.f (mkGr ps kl rep) σ ∧ ∀ q ∈ P, ((mkGr ps kl rep).D q.1).app σ = ((mkGr ps kl rep).D q.2).app σ) ↔ Goal σ) ∧ (∀ q ∈ P, q.1 < ps.length ∧ q.2 < ps.length) ∧ ParB D0 ps kl rep i0 j0 ∧ (∀ p ∈ ps, p.st = 0) ∧ (jmeas c ps.length rep P.length ≤ k ∧ k ≤ 30000000000)
section
variable {D0 : Ux.Ty} {c : GCx} {Goal : Ux.Sub → Prop} {i0 j0 lo : Nat} {w0 wr w6 : World} {pv0 : Value} {ps ps5 : List Prt} {kl : LKey → Option (List Nat)} {rep : Nat → Nat} {q : Nat × Nat} {r : List (Nat × Nat)} {i j : Nat}
theorem st_same (hst : ∀ p ∈ ps, p.st = 0) (hs : Same ps ps5) (h5 : ∀ (j : Nat) (p p' : Prt), ps[j]? = some p → ps5[j]? = some p' → p'.st = p.st) : ∀ p ∈ ps5, p.st = 0 := fun p hp => by
 obtain ⟨jj, hjj⟩ := List.mem_iff_getElem?.1 hp
 obtain ⟨p0, a1, a2⟩ := hs.back hjj
 rw [h5 jj p0 p a1 hjj]; exact hst p0 (List.mem_of_getElem? a1)
theorem st_set {p : Prt} {t : Nat} (hst : ∀ p ∈ ps5, p.st = 0) (hp : ps5[i]? = some p) : ∀ y ∈ ps5.set i { p with tt := t, st := p.st }, y.st = 0 := fun y hy => by
 rcases List.mem_or_eq_of_mem_set hy with h | h
 · exact hst y h
 · rw [h]; exact hst p (List.mem_of_getElem? hp)
/-- Behind a variable's being made one with something. -/
theorem jl_next (hC : c.Ok) {pb cap ob c7 kk k : Nat} {p : Prt} (hg : GSt c 2 w6 ps5 kl rep (.slice (some ⟨pb, 0, none⟩) ps5.length cap)) (ho : w6.ownsRow lo 132 2 (.slice (some ⟨ob, 0, none⟩) kk c7) kk (prc r)) (hkk : kk = r.length)
 (hch : Chg (GKeep c pv0) w0 w6) (hloc : (Value.slice (some ⟨pb, 0, none⟩) ps5.length cap).ownBlock = pv0.ownBlock ∨ ∀ g, (Value.slice (some ⟨pb, 0, none⟩) ps5.length cap).ownBlock = some g → w0.heap.size ≤ g) (hp : ps5[i]? = some p) (hj : j < ps5.length) (ri : rep i = i) (rj : rep j = j) (hij : i ≠ j)
 (hcong : Ux.Cong (mkGr ps5 kl (linkR rep i j)) r ∧ Ux.Eqv (mkGr ps5 kl (linkR rep i j)) r i0 j0) (hs : ∀ σ, (Ux.KS c.f (mkGr ps5 kl (linkR rep i j)) σ ∧ ∀ y ∈ r, ((mkGr ps5 kl rep).D y.1).app σ = ((mkGr ps5 kl rep).D y.2).app σ) ↔ Goal σ) (hlt : ∀ y ∈ q :: r, y.1 < ps5.length ∧ y.2 < ps5.length) (hpar : ParB D0 ps5 kl rep i0 j0) (hst : ∀ p ∈ ps5, p.st = 0)
 (hk : jmeas c ps5.length rep (kk + 1) ≤ k ∧ k ≤ 30000000000) :
 JL D0 c Goal i0 j0 lo w0 pv0 (k - 1) (.slice (some ⟨ob, 0, none⟩) kk c7) (w6.setCell ⟨pb, i * 5 + 3, none⟩ (.int .i64 (j : Int))) ∧ 0 < k := by
 have hil := (List.getElem?_eq_some_iff.1 hp).1
 have hl := hg.link hC hp hj ri rj hij rfl
 have hset := Same.set hp j p.st
 have hgr := hset.gr kl (linkR rep i j)
 have hrl := roots_link (rep := rep) hil ri rj hij
 have hpob : ¬ ob = pb := fun e => by
  rcases ho.2 with ⟨h0, _⟩ | ⟨g', cap', cur', h0, _, hg', _⟩
  · cases h0
  · injection h0 with h0; injection h0 with h0; injection h0 with h0 _ _; subst h0; subst e
    exact own_ne hg.own hg' (fun cs e => by injection e with _ e _; cases e) rfl
 have hsetc : Chg (· = pb) w6 (w6.setCell ⟨pb, i * 5 + 3, none⟩ (.int .i64 (j : Int))) := Chg.set (R := (· = pb)) (p := ⟨pb, i * 5 + 3, none⟩) rfl _
 have hK : (2 + llen c.U - ps5.length + roots (linkR rep i j) ps5.length) * (llen c.U + 2) + (llen c.U + 2) ≤ (2 + llen c.U - ps5.length + roots rep ps5.length) * (llen c.U + 2) := by
  have : (2 + llen c.U - ps5.length + roots (linkR rep i j) ps5.length) + 1 ≤ 2 + llen c.U - ps5.length + roots rep ps5.length := by omega
  have := Nat.mul_le_mul_right (llen c.U + 2) this
  rw [Nat.add_mul, Nat.one_mul] at this
  exact this
 simp only [jmeas] at hk
 refine ⟨⟨_, kl, linkR rep i j, _, r, hl, ?_, hch.then hsetc fun x hx e => ?_, hloc, by rw [hgr]; exact hcong, fun σ => ?_, fun y hy => by rw [List.length_set]; exact hlt y (by simp [hy]), ⟨by rw [hgr]; exact hpar.1, by rw [List.length_set]; exact hpar.2.1, by rw [List.length_set]; exact hpar.2.2.1, by rw [hgr]; exact hpar.2.2.2⟩, st_set hst hp, ?_, by omega⟩, by omega⟩
 · rw [← hkk]; exact own_chg ho hsetc fun b hb e => hpob (by injection hb with hb; exact hb.trans e)
 · subst e
   rcases hloc with e2 | e2
   · exact .inr (.inr (.inr (.inr (e2 ▸ rfl))))
   · have := e2 x rfl; omega
 · rw [hgr]; exact hs σ
 · simp only [jmeas, List.length_set, ← hkk]; omega
end
theorem own_gk {c : GCx} (hC : c.Ok) {e lo n : Nat} {w w' : World} {ps : List Prt} {kl : LKey → Option (List Nat)} {rep : Nat → Nat} {pv v : Value} {xs : List Value} (h : GSt c e w ps kl rep pv) (ho : w.ownsRow lo 132 2 v n xs) (hlo : c.y0 ≤ lo) (hch : Chg (GKeep c pv) w w') : w'.ownsRow lo 132 2 v n xs :=
 own_chg ho hch fun b hb hr => by
  have hlb := (ho.lt b hb).1
  have := hC.low
  rcases hr with hr | hr | hr | hr | hr
  · omega
  · omega
  · omega
  · omega
  · rcases ho.2 with ⟨rfl, _⟩ | ⟨g', cap', cur', rfl, _, hg', _⟩
    · cases hb
    · injection hb with hb; subst hb
      exact own_ne h.own hg' (fun cs e => by injection e with _ e _; cases e) hr
theorem IntsV.cell {c : GCx} {w : World} {v : Value} {ks : List Nat} (h : IntsV c w v ks) : ∃ q cap, v = .slice q ks.length cap ∧ ks.length ≤ cap ∧ (cap : Int) ≤ 9223372036854775807 ∧ ∀ (n cc : Nat), ks[n]? = some cc → ∃ b, q = some ⟨b, 0, none⟩ ∧ w.cell? ⟨b, n, none⟩ = some (.int .i64 (cc : Int)) := by
 rcases h with ⟨rfl, rfl⟩ | ⟨_, b, cap, cur, rfl, h1, h2, h3, h4, h5⟩
 · exact ⟨none, 0, rfl, Nat.le_refl _, by decide, fun n cc h => by cases h⟩
 · exact ⟨_, cap, rfl, h2, h3, fun n cc hn => ⟨b, rfl, ent_cell h4 _ _ (h5 n cc hn)⟩⟩
theorem IntsV.keep {c : GCx} {w w' : World} {v : Value} {ks : List Nat} (h : IntsV c w v ks) (hk : ∀ b cur, ¬ Fz c b → w.heap[b]? = some (.cells cur 3 (0, 0)) → w'.heap[b]? = w.heap[b]?) : IntsV c w' v ks := h.imp id fun h => ⟨h.1, h.2.keep hk⟩
def JoinPost (D0 : Ux.Ty) (c : GCx) (Goal : Ux.Sub → Prop) (i0 j0 : Nat) (pv0 : Value) (w0 : World) (en : Ending) (w : World) : Prop :=
 ∃ ps kl rep pv b, en = .returned (.bool b) ∧ GSt c 2 w ps kl rep pv ∧ Chg (GKeep c pv0) w0 w ∧ (pv.ownBlock = pv0.ownBlock ∨ ∀ g, pv.ownBlock = some g → w0.heap.size ≤ g) ∧ (∀ p ∈ ps, p.st = 0) ∧
  (b = true → (Ux.Cong (mkGr ps kl rep) [] ∧ rep i0 = rep j0) ∧ (∀ σ, Ux.KS c.f (mkGr ps kl rep) σ ↔ Goal σ) ∧ ParB D0 ps kl rep i0 j0) ∧ (b = false → ∀ σ, ¬ Goal σ)
end Go.Proofs.YtcblppojnailpaaDoor
