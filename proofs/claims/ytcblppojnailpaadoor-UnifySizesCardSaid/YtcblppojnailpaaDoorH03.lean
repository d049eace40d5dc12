/-
  Several texts in one: UMkM, UMkG.
-/
import Derived.Test.YtcblppojnailpaaDoorH02
import Derived.Deep.LoopGhost
import Derived.Deep.CutBlock
namespace Go.Proofs.YtcblppojnailpaaDoor
open Go Go.RowKit
set_option linter.unusedVariables false
set_option linter.unusedSimpArgs false
def od (N : Ux.Sub) (os : List Hf) : Nat := (os.map fun h => (h.xs.map fun x => (x.app N).sz - 1).sum).sum
def MkPost (Q : LKey → Prop) (N : Ux.Sub) (L0 mb db : Nat) (RL : Nat → Prop) (lv : Value) (I : World → Prop) (w0 : World) (c0 : Asg) (n0 : Nat) (t : Ux.Ty) (e : Ending) (w' : World) : Prop :=
 ∃ r c n, e = .returned r ∧ RightV c r (t.app N) ∧ MkW Q N L0 mb db RL lv I w0 c0 c n w' ∧ MkM c [] w' ∧ n ≤ n0 + (t.app N).sz
/-- What the loop knows: the list of what is open lies in ov. -/
def MkLoop (Q : LKey → Prop) (N : Ux.Sub) (L0 mb db : Nat) (RL : Nat → Prop) (lv : Value) (I : World → Prop) (w0 : World) (c0 : Asg) (X : Ux.Ty) (M : Nat) (k : Nat) (ov : Value) (w : World) : Prop :=
 ∃ c n os, MkW Q N L0 mb db RL lv I w0 c0 c n w ∧ MkM c os w ∧ w.ownsRow (L0 + 4) 112 2 ov os.length (oc os) ∧ (∀ h ∈ os, HfOk Q N (L0 + 3) c w h) ∧ (os.map (·.B)).Nodup ∧ c (L0 + 2) = some [X] ∧
  w.heap[L0 + 1]? = some (.cells #[.int .i64 0, .string ⟨#[]⟩, .slice none 0 0] 30 (0, 0)) ∧ (ow N os ≤ k ∧ k ≤ 2 * M + 1) ∧ n + od N os ≤ M ∧ ∀ h ∈ os, c0 h.B = none
theorem Chg.of_all {R : Nat → Prop} {w w' : World} (h : Below w.heap.size w w') : Chg R w w' := .of_below h
theorem asg_le {c : Asg} {B : Nat} (h : c B = none) (ys : List Ux.Ty) : c.le (c.upd B ys) := fun b zs hb => by
 unfold Asg.upd
 by_cases e : b = B
 · rw [e, h] at hb; cases hb
 · rw [if_neg e]; exact hb
theorem asg_upd (c : Asg) (B : Nat) (ys : List Ux.Ty) : c.upd B ys B = some ys := by unfold Asg.upd; rw [if_pos rfl]
theorem asg_other (c : Asg) {B b : Nat} (h : b ≠ B) (ys : List Ux.Ty) : c.upd B ys b = c b := by unfold Asg.upd; rw [if_neg h]
/-- A list of the call's own without its last ones. -/
theorem own_cut {w : World} {base : Nat} {e : TypeId} {size : Nat} {g n m c : Nat} {xs : List Value} (h : w.ownsRow base e size (.slice (some ⟨g, 0, none⟩) n c) n xs) (hm : m ≤ n) : w.ownsRow base e size (.slice (some ⟨g, 0, none⟩) m c) m (xs.take (m * size)) := by
 refine ⟨by rw [List.length_take, h.1]; exact Nat.min_eq_left (Nat.mul_le_mul_right _ hm), ?_⟩
 rcases h.2 with ⟨hv, _⟩ | ⟨g', cap, cur, hv, hb, hg, h1, h2, h3, h4⟩
 · cases hv
 · injection hv with hv _ hc
   injection hv with hv; injection hv with hv _ _
   subst hv; subst hc
   exact .inr ⟨g, c, cur, rfl, hb, hg, by omega, h2, h3, by rw [← h4, List.take_take, Nat.min_eq_left (Nat.mul_le_mul_right _ hm)]⟩
theorem mkM_pop {c : Asg} {h : Hf} {r : List Hf} {w : World} (hm : MkM c (h :: r) w) (hnd : ((h :: r).map (·.B)).Nodup) (hok : ∃ ys, c h.B = some ys ∧ h.k = ys.length) : MkM c r w := by
 intro B ys hB
 have := hm B ys hB
 rw [posOf_cons] at this
 by_cases e : h.B = B
 · rw [if_pos e] at this
   subst e
   obtain ⟨zs, h1, h2⟩ := hok
   rw [hB] at h1; injection h1 with h1; subst h1
   rw [posOf_out]
   · rw [h2] at this; exact this
   · intro x hx hxe
     rw [List.map_cons, List.nodup_cons] at hnd
     exact hnd.1 (hxe ▸ List.mem_map.2 ⟨x, hx, rfl⟩)
 · rw [if_neg e] at this; exact this
theorem mkM_keep {c c' : Asg} {os : List Hf} {w w' : World} (h : MkM c os w) (hk : ∀ B ys, c B = some ys → w'.heap[B]? = w.heap[B]?) : MkM c os w' := fun B ys hB => (h B ys hB).keep (hk B ys hB) fun _ _ h => h
/-- One element more is made. -/
theorem mkM_fill {c : Asg} {h h' : Hf} {r : List Hf} {w : World} {ys : List Ux.Ty} {X : Ux.Ty} {u0 u1 u2 : Value} (hm : MkM c (h :: r) w) (hB : h'.B = h.B) (hk : h'.k = h.k + 1) (hc : c h.B = some ys) (hX : ys[h.k]? = some X) (hu : RightV c (.agg #[u0, u1, u2]) X) :
 MkM c (h' :: r) (((w.setCell ⟨h.B, h.k * 3, none⟩ u0).setCell ⟨h.B, h.k * 3 + 1, none⟩ u1).setCell ⟨h.B, h.k * 3 + 2, none⟩ u2) := by
 intro B zs hb
 have h0 := hm B zs hb
 rw [posOf_cons] at h0 ⊢
 rw [hB]
 by_cases e : h.B = B
 · rw [if_pos e] at h0 ⊢
   subst e
   rw [hc] at hb; injection hb with hb; subst hb
   obtain ⟨cs, e1, e2, e3⟩ := h0.ex
   have hlt : h.k < ys.length := (List.getElem?_eq_some_iff.1 hX).1
   refine ⟨((cs.setIfInBounds (h.k * 3) u0).setIfInBounds (h.k * 3 + 1) u1).setIfInBounds (h.k * 3 + 2) u2, ?_, by simpa using e2, fun j y hj hy => ?_⟩
   · exact ent_set (ent_set (ent_set e1 (h.k * 3) u0) (h.k * 3 + 1) u1) (h.k * 3 + 2) u2
   · by_cases hjk : j = h.k
     · subst hjk
       rw [hX] at hy; injection hy with hy; subst hy
       refine ⟨_, hu, fun i z hz => ?_⟩
       match i, hz with
       | 0, hz => rw [Array.getElem?_setIfInBounds_ne (by omega), Array.getElem?_setIfInBounds_ne (by omega), Nat.add_zero, Array.getElem?_setIfInBounds_self_of_lt (by omega)]; simpa [Value.cells] using hz
       | 1, hz => rw [Array.getElem?_setIfInBounds_ne (by omega), Array.getElem?_setIfInBounds_self_of_lt (by simp; omega)]; simpa [Value.cells] using hz
       | 2, hz => rw [Array.getElem?_setIfInBounds_self_of_lt (by simp; omega)]; simpa [Value.cells] using hz
       | i + 3, hz => simp [Value.cells] at hz
     · obtain ⟨u, a, b⟩ := e3 j y (by omega) hy
       refine ⟨u, a, fun i z hz => ?_⟩
       have hi : i < 3 := by
        have := a.cells
        rw [Array.getElem?_eq_some_iff] at hz
        obtain ⟨hz, _⟩ := hz
        omega
       rw [Array.getElem?_setIfInBounds_ne (by omega), Array.getElem?_setIfInBounds_ne (by omega), Array.getElem?_setIfInBounds_ne (by omega)]
       exact b i z hz
 · rw [if_neg e] at h0 ⊢
   refine h0.keep ?_ fun _ _ h => h
   exact ((Below.heap_setCell _ ⟨h.B, h.k * 3 + 2, none⟩ _ B (Ne.symm e)).trans (Below.heap_setCell _ ⟨h.B, h.k * 3 + 1, none⟩ _ B (Ne.symm e))).trans (Below.heap_setCell _ ⟨h.B, h.k * 3, none⟩ _ B (Ne.symm e))
/-- Between an element's being taken and its being made: in box N1 lies what it comes to, T. -/
def MkMid (Q : LKey → Prop) (N : Ux.Sub) (L0 mb db : Nat) (RL : Nat → Prop) (lv : Value) (I : World → Prop) (w0 : World) (c0 : Asg) (X0 : Ux.Ty) (c : Asg) (n : Nat) (h h' : Hf) (r : List Hf) (ob c6 N1 : Nat) (X : Ux.Ty) (ex : List Hf) (Y : Ux.Ty → Prop) (w : World) : Prop :=
 ∃ T i s q m cc, MkW Q N L0 mb db RL lv I w0 c0 c n w ∧ MkM c (h :: (ex ++ r)) w ∧ w.ownsRow (L0 + 4) 112 2 (.slice (some ⟨ob, 0, none⟩) (r.length + 1) c6) (r.length + 1) (oc (h' :: r)) ∧ (∀ y ∈ h' :: r, HfOk Q N (L0 + 3) c w y) ∧ c (L0 + 2) = some [X0] ∧
  w.heap[L0 + 1]? = some (.cells #[.int .i64 0, .string ⟨#[]⟩, .slice none 0 0] 30 (0, 0)) ∧ w.heap[N1]? = some (.cells #[.int .i64 i, .string s, .slice q m cc] 30 (0, 0)) ∧ TyQ Q w (.agg #[.int .i64 i, .string s, .slice q m cc]) T ∧ Y T ∧ c N1 = none ∧ L0 + 4 ≤ N1
theorem MkW.below {Q : LKey → Prop} {N : Ux.Sub} {L0 mb db : Nat} {RL : Nat → Prop} {F : FuncId} {caps : Array Value} {lv : Value} {I : World → Prop} {w0 : World} {c0 c : Asg} {n : Nat} {w w' : World} (h : MkW Q N L0 mb db RL lv I w0 c0 c n w) (hL : LookC Q N L0 mb db RL F caps I) (hc : Chg (fun b => L0 ≤ b) w w') : MkW Q N L0 mb db RL lv I w0 c0 c n w' := by
 obtain ⟨L, h4, h5⟩ := h.mks.made
 have h0 := h.size
 have h1 := hL.dist
 exact ⟨hL.stay _ _ h.inv (hc.mono fun b _ e => .inr (.inr e)), h.mks.keep (hc.block _ (ent_lt h.mks.cell) (by omega)) (hc.block _ h4.lt (by omega)) (fun x hx => hc.block _ (by have := (hL.q x hx).1; have := h.chg.size; omega) (by have := (hL.q x hx).1; omega)) (fun _ _ h => h), h.le, h.new, fun B hB => h.fresh B (by have := hc.size; omega), h.chg.then hc fun x hx e => by omega, h.size⟩
theorem MkW.qs {Q : LKey → Prop} {N : Ux.Sub} {L0 mb db : Nat} {RL : Nat → Prop} {F : FuncId} {caps : Array Value} {lv : Value} {I : World → Prop} {w0 : World} {c0 c : Asg} {n : Nat} {w w' : World} (h : MkW Q N L0 mb db RL lv I w0 c0 c n w) (hL : LookC Q N L0 mb db RL F caps I) {R : Nat → Prop} (hc : Chg R w w') (hR : ∀ b, R b → b = mb ∨ b = db ∨ RL b ∨ L0 ≤ b) (x : LKey) (hx : Q x) : w'.heap[x.1]? = w.heap[x.1]? := by
 have h1 := hL.q x hx
 have h2 := h.chg.size
 have h3 := h.size
 refine hc.block _ (by omega) fun e => ?_
 rcases hR _ e with e | e | e | e
 · exact h1.2.1 e
 · exact h1.2.2.1 e
 · exact h1.2.2.2 e
 · omega
theorem MkMid.below {Q : LKey → Prop} {N : Ux.Sub} {L0 mb db : Nat} {RL : Nat → Prop} {F : FuncId} {caps : Array Value} {lv : Value} {I : World → Prop} {w0 : World} {c0 : Asg} {X0 : Ux.Ty} {c : Asg} {n : Nat} {h h' : Hf} {r : List Hf} {ob c6 N1 : Nat} {X : Ux.Ty} {ex : List Hf} {Y : Ux.Ty → Prop} {w w' : World}
 (k : MkMid Q N L0 mb db RL lv I w0 c0 X0 c n h h' r ob c6 N1 X ex Y w) (hL : LookC Q N L0 mb db RL F caps I) (hb : Below w.heap.size w w') : MkMid Q N L0 mb db RL lv I w0 c0 X0 c n h h' r ob c6 N1 X ex Y w' := by
 obtain ⟨T, i, s, q, m, cc, m1, m2, m3, m4, m5, m6, m7, m8, m9, m10, m11⟩ := k
 have hq := m1.qs hL (R := fun _ => False) (.of_below hb) (fun b h => h.elim)
 exact ⟨T, i, s, q, m, cc, m1.below hL (.of_below hb), mkM_keep (c' := c) m2 fun B ys hB => hb.block _ (by obtain ⟨cs, e, _⟩ := (m2 B ys hB).ex; exact ent_lt e), own_kept m3 hb, fun y hy => (m4 y hy).keep (fun _ _ h => h) hq (hb.block _ (by have := ent_lt m7; omega)), m5, ent_below m6 hb, ent_below m7 hb, tyQ_keep m8 hq, m9, m10, m11⟩
theorem MkMid.mk {Q : LKey → Prop} {N : Ux.Sub} {L0 mb db : Nat} {RL : Nat → Prop} {lv : Value} {I : World → Prop} {w0 : World} {c0 : Asg} {X0 : Ux.Ty} {c : Asg} {n : Nat} {h h' : Hf} {r : List Hf} {ob c6 N1 : Nat} {X : Ux.Ty} {ex : List Hf} {Y : Ux.Ty → Prop} {w : World}
 (k : MkMid Q N L0 mb db RL lv I w0 c0 X0 c n h h' r ob c6 N1 X ex Y w) : w.heap[mb]? = some (.cells #[lv, .map (some db), .int .i64 n] 109 (0, 0)) := by
 obtain ⟨T, i, s, q, m, cc, m1, _⟩ := k; exact m1.mks.cell
theorem MkMid.n1 {Q : LKey → Prop} {N : Ux.Sub} {L0 mb db : Nat} {RL : Nat → Prop} {lv : Value} {I : World → Prop} {w0 : World} {c0 : Asg} {X0 : Ux.Ty} {c : Asg} {n : Nat} {h h' : Hf} {r : List Hf} {ob c6 N1 : Nat} {X : Ux.Ty} {ex : List Hf} {Y : Ux.Ty → Prop} {w : World}
 (k : MkMid Q N L0 mb db RL lv I w0 c0 X0 c n h h' r ob c6 N1 X ex Y w) : L0 + 4 ≤ N1 := by
 obtain ⟨T, i, s, q, m, cc, m1, m2, m3, m4, m5, m6, m7, m8, m9, m10, m11⟩ := k; exact m11
theorem MkMid.inv {Q : LKey → Prop} {N : Ux.Sub} {L0 mb db : Nat} {RL : Nat → Prop} {lv : Value} {I : World → Prop} {w0 : World} {c0 : Asg} {X0 : Ux.Ty} {c : Asg} {n : Nat} {h h' : Hf} {r : List Hf} {ob c6 N1 : Nat} {X : Ux.Ty} {ex : List Hf} {Y : Ux.Ty → Prop} {w : World}
 (k : MkMid Q N L0 mb db RL lv I w0 c0 X0 c n h h' r ob c6 N1 X ex Y w) : I w := by
 obtain ⟨T, i, s, q, m, cc, m1, _⟩ := k; exact m1.inv
theorem MkMid.size {Q : LKey → Prop} {N : Ux.Sub} {L0 mb db : Nat} {RL : Nat → Prop} {lv : Value} {I : World → Prop} {w0 : World} {c0 : Asg} {X0 : Ux.Ty} {c : Asg} {n : Nat} {h h' : Hf} {r : List Hf} {ob c6 N1 : Nat} {X : Ux.Ty} {ex : List Hf} {Y : Ux.Ty → Prop} {w : World}
 (k : MkMid Q N L0 mb db RL lv I w0 c0 X0 c n h h' r ob c6 N1 X ex Y w) : L0 ≤ w.heap.size := by
 obtain ⟨T, i, s, q, m, cc, m1, _⟩ := k; have := m1.size; have := m1.chg.size; omega
section
variable {Q : LKey → Prop} {N : Ux.Sub} {L0 mb db : Nat} {RL : Nat → Prop} {F : FuncId} {caps : Array Value} {lv : Value} {I : World → Prop} {w0 : World} {c0 : Asg} {X0 : Ux.Ty} {c : Asg} {n : Nat} {h h' : Hf} {r : List Hf} {ob c6 N1 : Nat} {X X' : Ux.Ty} {ex : List Hf} {Y Y' : Ux.Ty → Prop} {w w' : World}
theorem mk_out (hC : ∀ B ys, c0 B = some ys → B < L0 ∧ B ≠ mb ∧ B ≠ db ∧ ¬ RL B) (hL : LookC Q N L0 mb db RL F caps I) (m1 : MkW Q N L0 mb db RL lv I w0 c0 c n w) {B : Nat} {ys : List Ux.Ty} (hB : c B = some ys) : B ≠ mb ∧ B ≠ db ∧ ¬ RL B ∧ B ≠ L0 ∧ B ≠ L0 + 1 ∧ B ≠ L0 + 3 ∧ B < w.heap.size := by
 have hlt : B < w.heap.size := by
  rcases Nat.lt_or_ge B w.heap.size with h | h
  · exact h
  · rw [m1.fresh B h] at hB; cases hB
 have hd := hL.dist
 cases h0 : c0 B with
 | none =>
   have := m1.new B (by rw [hB]; simp) h0
   exact ⟨by omega, by omega, fun e => by have := (hL.out B e).1; omega, by omega, by omega, this.2, hlt⟩
 | some zs =>
   have := hC B zs h0
   exact ⟨this.2.1, this.2.2.1, this.2.2.2, by omega, by omega, by omega, hlt⟩
/-- Blocks of what is looked through, and the box, change. -/
theorem MkMid.box (k : MkMid Q N L0 mb db RL lv I w0 c0 X0 c n h h' r ob c6 N1 X' ex Y w) (hL : LookC Q N L0 mb db RL F caps I) (hC : ∀ B ys, c0 B = some ys → B < L0 ∧ B ≠ mb ∧ B ≠ db ∧ ¬ RL B) (hc : Chg (fun b => RL b ∨ b = N1) w w') (hI : I w') {T : Ux.Ty} {z0 : Int} {z1 : ByteArray} {zq : Option Addr} {zm zc : Nat}
 (he : w'.heap[N1]? = some (.cells #[.int .i64 z0, .string z1, .slice zq zm zc] 30 (0, 0))) (hty : TyQ Q w' (.agg #[.int .i64 z0, .string z1, .slice zq zm zc]) T) (hY : Y' T) :
 MkMid Q N L0 mb db RL lv I w0 c0 X0 c n h h' r ob c6 N1 X ex Y' w' := by
 obtain ⟨T', i, s, q, m, cc, m1, m2, m3, m4, m5, m6, m7, m8, m9, m10, m11⟩ := k
 have hq := m1.qs hL hc fun b e => e.elim (fun e => .inr (.inr (.inl e))) fun e => .inr (.inr (.inr (by omega)))
 have hd := hL.dist
 have h0 := m1.size
 have h1 := m1.chg.size
 obtain ⟨L, h4, h5⟩ := m1.mks.made
 have hr : ∀ b, L0 ≤ b → b ≠ N1 → ¬ (RL b ∨ b = N1) := fun b h1 h2 e => e.elim (fun e => by have := (hL.out b e).1; omega) h2
 have hm : ∀ b, b = mb ∨ b = db → ¬ (RL b ∨ b = N1) := fun b hb e => e.elim (fun e => by have := hL.out b e; omega) fun e => by omega
 refine ⟨T, z0, z1, zq, zm, zc, ⟨hI, m1.mks.keep (hc.block _ (ent_lt m1.mks.cell) (hm _ (.inl rfl))) (hc.block _ h4.lt (hm _ (.inr rfl))) hq (fun _ _ h => h), m1.le, m1.new, fun B hB => m1.fresh B (by have := hc.size; omega), m1.chg.then hc fun x hx e => e.elim (fun e => .inr (.inr e)) fun e => by omega, m1.size⟩, mkM_keep (c' := c) m2 fun B ys hB => ?_, own_chg m3 hc fun b hb => ?_, fun y hy => (m4 y hy).keep (fun _ _ h => h) hq (hc.block _ (by have := ent_lt m7; omega) (hr _ (by omega) (by omega))), m5, ent_chg m6 hc (hr _ (by omega) (by omega)), he, hty, hY, m10, m11⟩
 · have := mk_out hC hL m1 hB
   exact hc.block _ this.2.2.2.2.2.2 fun e => e.elim this.2.2.1 fun e => by rw [e, m10] at hB; cases hB
 · have h2 := (m3.lt b hb).1
   refine hr b (by omega) fun e => ?_
   subst e
   exact own_ne m3 m7 (fun cs e => by injection e with _ e _; cases e) hb
theorem MkMid.looked (k : MkMid Q N L0 mb db RL lv I w0 c0 X0 c n h h' r ob c6 N1 X' ex Y w) (hL : LookC Q N L0 mb db RL F caps I) (hC : ∀ B ys, c0 B = some ys → B < L0 ∧ B ≠ mb ∧ B ≠ db ∧ ¬ RL B) (hc : Chg RL w w') (hI : I w') {T : Ux.Ty} (hres : Res N T X) {z0 : Int} {z1 : ByteArray} {zq : Option Addr} {zm zc : Nat} (hty : TyQ Q w' (.agg #[.int .i64 z0, .string z1, .slice zq zm zc]) T) :
 MkMid Q N L0 mb db RL lv I w0 c0 X0 c n h h' r ob c6 N1 X ex (fun T' => Res N T' X) (((w'.setCell ⟨N1, 0, none⟩ (.int .i64 z0)).setCell ⟨N1, 1, none⟩ (.string z1)).setCell ⟨N1, 2, none⟩ (.slice zq zm zc)) := by
 have k0 := k
 obtain ⟨T', i, s, q, m, cc, m1, m2, m3, m4, m5, m6, m7, m8, m9, m10, m11⟩ := k
 have hn1 : ¬ RL N1 := fun e => by have := (hL.out _ e).1; omega
 have hc2 : Chg (fun b => RL b ∨ b = N1) w _ := (hc.mono fun _ _ e => .inl e).trans ((chg_set3 w' N1 (.int .i64 z0) (.string z1) (.slice zq zm zc)).mono fun _ _ e => .inr e)
 refine k0.box hL hC hc2 (hL.stay _ _ hI ((chg_set3 w' N1 _ _ _).mono fun _ _ e => .inr (.inr (by omega)))) (ent_set3 (ent_chg m7 hc hn1) _ _ _) (tyQ_keep hty fun x hx => ?_) hres
 exact (chg_set3 w' N1 _ _ _).block _ (by have := (hL.q x hx).1; have := m1.size; have := m1.chg.size; have := hc.size; omega) (by have := (hL.q x hx).1; omega)
/-- An element is taken. -/
theorem MkMid.start {w1 : World} {x : Ux.Ty} {i : Int} {s : ByteArray} {q : Option Addr} {m cc : Nat} (hL : LookC Q N L0 mb db RL F caps I) (hC : ∀ B ys, c0 B = some ys → B < L0 ∧ B ≠ mb ∧ B ≠ db ∧ ¬ RL B) (hw : MkW Q N L0 mb db RL lv I w0 c0 c n w) (hmm : MkM c (h :: r) w)
 (ho : w.ownsRow (L0 + 4) 112 2 (.slice (some ⟨ob, 0, none⟩) (r.length + 1) c6) (r.length + 1) (oc (h :: r))) (hok : ∀ y ∈ h' :: r, HfOk Q N (L0 + 3) c w y) (hX : c (L0 + 2) = some [X0])
 (hr : w.heap[L0 + 1]? = some (.cells #[.int .i64 0, .string ⟨#[]⟩, .slice none 0 0] 30 (0, 0))) (hu : TyQ Q w (.agg #[.int .i64 i, .string s, .slice q m cc]) x) (hb1 : Below w.heap.size w w1)
 (e1 : w1.heap[w.heap.size]? = some (.cells #[.int .i64 i, .string s, .slice q m cc] 30 (0, 0))) :
 MkMid Q N L0 mb db RL lv I w0 c0 X0 c n h h' r ob c6 w.heap.size X [] (fun T => T = x) ((w1.setCell ⟨ob, r.length * 2, none⟩ h'.fv).setCell ⟨ob, r.length * 2 + 1, none⟩ h'.tv).drew := by
 have hob := ho.lt ob rfl
 have hs := hw.chg.size
 have h0 := hw.size
 have hne : ∀ (g : Nat) (cs : Array Value), w.heap[g]? = some (.cells cs 30 (0, 0)) → g ≠ ob := fun g cs hg e => by
  subst e; exact own_ne ho hg (fun cs e => by injection e with _ e _; cases e) rfl
 have hc : Chg (· = ob) w ((w1.setCell ⟨ob, r.length * 2, none⟩ h'.fv).setCell ⟨ob, r.length * 2 + 1, none⟩ h'.tv).drew :=
  (((Chg.of_below hb1).trans (Chg.set (R := (· = ob)) (p := ⟨ob, r.length * 2, none⟩) rfl h'.fv)).trans (Chg.set (R := (· = ob)) (p := ⟨ob, r.length * 2 + 1, none⟩) rfl h'.tv)).trans (.drew _)
 have hcL := hc.mono (R' := fun b => L0 ≤ b) fun b _ e => by omega
 have hq := hw.qs hL hcL fun b e => .inr (.inr (.inr e))
 have ho2 := (((own_kept ho hb1).stored (r.length * 2) h'.fv).1.stored (r.length * 2 + 1) h'.tv).1
 rw [oc_set] at ho2
 refine ⟨x, i, s, q, m, cc, hw.below hL hcL, mkM_keep (c' := c) hmm fun B ys hB => ?_, ho2.drew, fun y hy => (hok y hy).keep (fun _ _ h => h) hq (hc.block _ (by omega) (by omega)), hX, ent_chg hr hc (by omega), ?_, tyQ_keep hu hq, rfl, hw.fresh _ (Nat.le_refl _), by omega⟩
 · obtain ⟨cs, e, _⟩ := (hmm B ys hB).ex
   exact hc.block _ (ent_lt e) (hne _ _ e)
 · exact (ent_other (ent_other e1 ob (r.length * 2) h'.fv (by omega)) ob (r.length * 2 + 1) h'.tv (by omega))
/-- Where the element comes to lie. -/
theorem MkMid.cells {ys : List Ux.Ty} (k : MkMid Q N L0 mb db RL lv I w0 c0 X0 c n h h' r ob c6 N1 X ex Y w) (hB : c h.B = some ys) (hk : h.k < ys.length) :
 (∀ j, j < 3 → ∃ v, w.cell? ⟨h.B, h.k * 3 + j, none⟩ = some v) ∧ (∀ o, w.frozen? ⟨h.B, o, none⟩ = false) ∧ h.B < w.heap.size := by
 obtain ⟨T', i, s, q, m, cc, m1, m2, m3, m4, m5, m6, m7, m8, m9, m10, m11⟩ := k
 obtain ⟨cs, e1, e2, _⟩ := (m2 _ _ hB).ex
 exact ⟨fun j hj => ⟨_, ent_cell e1 _ _ (Array.getElem?_eq_getElem (by omega))⟩, ent_free e1, ent_lt e1⟩
/-- The element is made. -/
theorem MkMid.done {ys : List Ux.Ty} {u0 u1 u2 : Value} (k : MkMid Q N L0 mb db RL lv I w0 c0 X0 c n h h' r ob c6 N1 X' ex Y w) (hL : LookC Q N L0 mb db RL F caps I) (hC : ∀ B ys, c0 B = some ys → B < L0 ∧ B ≠ mb ∧ B ≠ db ∧ ¬ RL B) (hB : c h.B = some ys) (hk : ys[h.k]? = some X) (e1 : h'.B = h.B) (e2 : h'.k = h.k + 1) (hc0 : c0 h.B = none) (hu : RightV c (.agg #[u0, u1, u2]) X) :
 ∃ W, W = (((w.setCell ⟨h.B, h.k * 3, none⟩ u0).setCell ⟨h.B, h.k * 3 + 1, none⟩ u1).setCell ⟨h.B, h.k * 3 + 2, none⟩ u2) ∧ MkW Q N L0 mb db RL lv I w0 c0 c n W ∧ MkM c (h' :: (ex ++ r)) W ∧ W.ownsRow (L0 + 4) 112 2 (.slice (some ⟨ob, 0, none⟩) (r.length + 1) c6) (r.length + 1) (oc (h' :: r)) ∧
  (∀ y ∈ h' :: r, HfOk Q N (L0 + 3) c W y) ∧ c (L0 + 2) = some [X0] ∧ W.heap[L0 + 1]? = some (.cells #[.int .i64 0, .string ⟨#[]⟩, .slice none 0 0] 30 (0, 0)) ∧ Chg (· = h.B) w W ∧ L0 ≤ h.B := by
 obtain ⟨T', i, s, q, m, cc, m1, m2, m3, m4, m5, m6, m7, m8, m9, m10, m11⟩ := k
 have hbn := mk_out hC hL m1 hB
 have hge := m1.new h.B (by rw [hB]; simp) hc0
 have hc : Chg (· = h.B) w (((w.setCell ⟨h.B, h.k * 3, none⟩ u0).setCell ⟨h.B, h.k * 3 + 1, none⟩ u1).setCell ⟨h.B, h.k * 3 + 2, none⟩ u2) :=
  ((Chg.set (R := (· = h.B)) (p := ⟨h.B, h.k * 3, none⟩) rfl u0).trans (Chg.set (R := (· = h.B)) (p := ⟨h.B, h.k * 3 + 1, none⟩) rfl u1)).trans (Chg.set (R := (· = h.B)) (p := ⟨h.B, h.k * 3 + 2, none⟩) rfl u2)
 have hcL := hc.mono (R' := fun b => L0 ≤ b) fun b _ e => by omega
 have hq := m1.qs hL hcL fun b e => .inr (.inr (.inr e))
 obtain ⟨cs, f1, _⟩ := (m2 _ _ hB).ex
 refine ⟨_, rfl, m1.below hL hcL, mkM_fill m2 e1 e2 hB hk hu, own_chg m3 hc fun b hb e => ?_, fun y hy => (m4 y hy).keep (fun _ _ h => h) hq (hc.block _ (by have := ent_lt m7; omega) (by omega)), m5, ent_chg m6 hc (by omega), hc, by omega⟩
 subst e
 exact own_ne m3 f1 (fun cs e => by injection e with _ e _; cases e) hb
theorem MkMid.list {xs : List Ux.Ty} {nm : List UInt8} {q : Option Addr} {m cc : Nat} {e : Ending} (k : MkMid Q N L0 mb db RL lv I w0 c0 X0 c n h h' r ob c6 N1 X' [] Y w) (hL : LookC Q N L0 mb db RL F caps I) (hC : ∀ B ys, c0 B = some ys → B < L0 ∧ B ≠ mb ∧ B ≠ db ∧ ¬ RL B)
 (hhB : ∃ ys, c h.B = some ys) (hx : RowQ Q (TyQ Q w) w (.slice q m cc) xs) (hp : MkList Q N c mb db lv n xs w e w') :
 ∃ c' n' sq sm sc b ex', e = .returned (.tuple #[.slice sq sm sc, .bool b]) ∧ c.le c' ∧ MkMid Q N L0 mb db RL lv I w0 c0 X0 c' n' h h' r ob c6 N1 X' ex' Y w' ∧ RightV c' (.agg #[.int .i64 (-1), .string ⟨nm.toArray⟩, .slice sq sm sc]) (.a nm (xs.map (Ux.Ty.app N))) ∧
  ((b = false ∧ ex' = [] ∧ n' = n) ∨ (b = true ∧ n' = n + xs.length ∧ ∃ B2, ex' = [⟨B2, 0, xs, .slice q m cc, .slice sq sm sc⟩] ∧ c B2 = none ∧ c0 B2 = none ∧ HfOk Q N (L0 + 3) c' w' ⟨B2, 0, xs, .slice q m cc, .slice sq sm sc⟩)) := by
 obtain ⟨T', i, s, q', m', cc', m1, m2, m3, m4, m5, m6, m7, m8, m9, m10, m11⟩ := k
 obtain ⟨hc, hp⟩ := hp
 have hd := hL.dist
 have h0 := m1.size
 have h1 := m1.chg.size
 have hq := m1.qs hL hc fun b e => e.elim .inl fun e => .inr (.inl e)
 have hI := hL.stay _ _ m1.inv (hc.mono fun b _ e => e.elim .inl fun e => .inr (.inl e))
 have hr : ∀ b, L0 ≤ b → ¬ (b = mb ∨ b = db) := fun b h e => by omega
 have key : ∀ (c' : Asg) (n' : Nat) (ex' : List Hf), c.le c' → MkS Q N c' mb db lv n' w' → (∀ B, c' B ≠ none → c B = none → w.heap.size ≤ B ∧ B < w'.heap.size) → MkM c' (h :: (ex' ++ r)) w' → MkMid Q N L0 mb db RL lv I w0 c0 X0 c' n' h h' r ob c6 N1 X' ex' Y w' := by
  intro c' n' ex' hle hs hnew hmm
  have hnl := ent_lt m7
  refine ⟨T', i, s, q', m', cc', ⟨hI, hs, fun B ys hB => hle _ _ (m1.le _ _ hB), fun B hB hB0 => ?_, fun B hB => ?_, m1.chg.then hc fun x hx e => e.elim .inl fun e => .inr (.inl e), m1.size⟩, hmm, own_chg m3 hc fun b hb => hr _ (by have := (m3.lt b hb).1; omega), fun y hy => (m4 y hy).keep hle hq (hc.block _ (by omega) (hr _ (by omega))), hle _ _ m5, ent_chg m6 hc (hr _ (by omega)), ent_chg m7 hc (hr _ (by omega)), tyQ_keep m8 hq, m9, ?_, m11⟩
  · cases hcB : c B with
    | none => have := (hnew B hB hcB).1; omega
    | some ys => exact m1.new B (by rw [hcB]; simp) hB0
  · cases hcB : c' B with
    | none => rfl
    | some ys =>
      exfalso
      cases hcB2 : c B with
      | none => have := (hnew B (by rw [hcB]; simp) hcB2).2; omega
      | some zs => rw [m1.fresh B (by have := hc.size; omega)] at hcB2; cases hcB2
  · cases hcB : c' N1 with
    | none => rfl
    | some ys => have := (hnew N1 (by rw [hcB]; simp) m10).1; omega
 have hkeep : ∀ B ys, c B = some ys → w'.heap[B]? = w.heap[B]? := fun B ys hB => by
  have := mk_out hC hL m1 hB
  exact hc.block _ this.2.2.2.2.2.2 fun e => e.elim this.1 this.2.1
 rcases hp with ⟨rfl, rfl, hs⟩ | ⟨hne, B, cap, hcB, rfl, f1, f2, hs⟩ | ⟨hne, B, cs, hB, hcs, hsz, rfl, hs⟩
 · exact ⟨c, n, none, 0, 0, false, [], rfl, fun _ _ h => h, key c n [] (fun _ _ h => h) hs (fun B h1 h2 => absurd h2 h1) (mkM_keep (c' := c) m2 hkeep), ⟨_, rfl, .inl ⟨rfl, rfl⟩⟩, .inl ⟨rfl, rfl, rfl⟩⟩
 · exact ⟨c, n, _, _, _, false, [], rfl, fun _ _ h => h, key c n [] (fun _ _ h => h) hs (fun B h1 h2 => absurd h2 h1) (mkM_keep (c' := c) m2 hkeep), ⟨_, rfl, .inr ⟨B, cap, hcB, by simpa using hne, by simp, by simpa using f1, f2⟩⟩, .inl ⟨rfl, rfl, rfl⟩⟩
 · have hBn : c B = none := m1.fresh B hB
   have hle := asg_le hBn (xs.map (Ux.Ty.app N))
   have hB0 : c0 B = none := by
    cases e : c0 B with
    | none => rfl
    | some ys => have := m1.le _ _ e; rw [hBn] at this; cases this
   have hmm : MkM (c.upd B (xs.map (Ux.Ty.app N))) (h :: ([⟨B, 0, xs, .slice q m cc, .slice (some ⟨B, 0, none⟩) xs.length xs.length⟩] ++ r)) w' := by
    intro b ys hb
    by_cases e : b = B
    · subst e
      rw [asg_upd] at hb; injection hb with hb; subst hb
      rw [posOf_cons]
      by_cases e2 : h.B = b
      · exfalso
        obtain ⟨ys, f1⟩ := hhB
        rw [e2, hBn] at f1; cases f1
      · rw [if_neg e2]
        show MadeB _ _ _ _ (posOf (⟨b, 0, xs, _, _⟩ :: r) b _)
        rw [posOf_cons, if_pos rfl]
        exact ⟨cs, hcs, by simpa using hsz, fun j y hj => absurd hj (Nat.not_lt_zero _)⟩
    · rw [asg_other _ e] at hb
      have := m2 b ys hb
      rw [posOf_cons] at this ⊢
      have h2 : posOf ([⟨B, 0, xs, .slice q m cc, .slice (some ⟨B, 0, none⟩) xs.length xs.length⟩] ++ r) b ys.length = posOf ([] ++ r) b ys.length := by
       show posOf (⟨B, 0, xs, _, _⟩ :: r) b ys.length = posOf r b ys.length
       rw [posOf_cons, if_neg (Ne.symm e)]
      rw [h2]
      exact this.keep (hkeep b ys hb) hle
   refine ⟨_, _, _, _, _, true, _, rfl, hle, key _ _ _ hle hs (fun b h1 h2 => ?_) hmm, ⟨_, rfl, .inr ⟨B, xs.length, asg_upd _ _ _, by simpa using hne, by simp, by simp, ?_⟩⟩, .inr ⟨rfl, rfl, B, rfl, hBn, hB0, ⟨⟨_, asg_upd _ _ _, by simp, by simp⟩, ?_, fun _ => by simp, _, _, rfl⟩⟩⟩
   · by_cases e : b = B
     · subst e; exact ⟨hB, ent_lt hcs⟩
     · rw [asg_other _ e] at h1; exact absurd h2 h1
   · rcases hx with ⟨e, _⟩ | ⟨g, o, c2, cs2, T, e, g1, g2, g3, g4, _⟩
     · exact absurd e hne
     · omega
   · exact hx.mono (fun x hx => ⟨.inr ⟨x, hx, rfl⟩, hq x hx⟩) fun u x _ hu => tyQ_keep hu hq
theorem posOf_swap {a b : Hf} {r : List Hf} (hne : a.B ≠ b.B) (B d : Nat) : posOf (a :: b :: r) B d = posOf (b :: a :: r) B d := by
 rw [posOf_cons, posOf_cons, posOf_cons, posOf_cons]
 by_cases e : a.B = B
 · rw [if_pos e, if_pos e, if_neg fun h => hne (e.trans h.symm)]
 · rw [if_neg e, if_neg e]
/-- The loop goes on with what is open. -/
theorem mkLoop_push {X1 : Ux.Ty} {M k : Nat} {h2 : Hf} {v' : Value} (hL : LookC Q N L0 mb db RL F caps I) (hC : ∀ B ys, c0 B = some ys → B < L0 ∧ B ≠ mb ∧ B ≠ db ∧ ¬ RL B) (hw : MkW Q N L0 mb db RL lv I w0 c0 c n w) (hmm : MkM c (h' :: ([h2] ++ r)) w)
 (ho : w.ownsRow (L0 + 4) 112 2 (.slice (some ⟨ob, 0, none⟩) (r.length + 1) c6) (r.length + 1) (oc (h' :: r))) (hok : ∀ y ∈ h' :: r, HfOk Q N (L0 + 3) c w y) (hok2 : HfOk Q N (L0 + 3) c w h2) (hX : c (L0 + 2) = some [X1])
 (hr : w.heap[L0 + 1]? = some (.cells #[.int .i64 0, .string ⟨#[]⟩, .slice none 0 0] 30 (0, 0))) (ha : L0 + 3 < w.heap.size) (hnd : ((h' :: r).map (·.B)).Nodup) (hn2 : h2.B ∉ (h' :: r).map (·.B)) (hc0 : ∀ y ∈ h' :: r, c0 y.B = none) (hc2 : c0 h2.B = none)
 (hc : Chg (fun b => (Value.slice (some ⟨ob, 0, none⟩) (r.length + 1) c6).ownBlock = some b) w w') (ho' : w'.ownsRow (L0 + 4) 112 2 v' (r.length + 1 + 1) (oc (h' :: r) ++ [h2.fv, h2.tv])) (hk : ow N (h2 :: h' :: r) ≤ k ∧ k ≤ 2 * M + 1) (hM : n + od N (h2 :: h' :: r) ≤ M) :
 MkLoop Q N L0 mb db RL lv I w0 c0 X1 M k v' w' := by
 have hcb : ∀ b, (Value.slice (some ⟨ob, 0, none⟩) (r.length + 1) c6).ownBlock = some b → b = ob := fun b e => by simp only [Value.ownBlock, Option.some.injEq] at e; exact e.symm
 have hob := ho.lt ob rfl
 have hs := hw.chg.size
 have h0 := hw.size
 have hc1 : Chg (· = ob) w w' := hc.mono fun b _ e => hcb b e
 have hne : ∀ (g : Nat) (cs : Array Value), w.heap[g]? = some (.cells cs 30 (0, 0)) → g ≠ ob := fun g cs hg e => by
  subst e; exact own_ne ho hg (fun cs e => by injection e with _ e _; cases e) rfl
 have hcL := hc1.mono (R' := fun b => L0 ≤ b) fun b _ e => by omega
 have hq := hw.qs hL hcL fun b e => .inr (.inr (.inr e))
 have hkp : ∀ y, HfOk Q N (L0 + 3) c w y → HfOk Q N (L0 + 3) c w' y := fun y hy => hy.keep (fun _ _ h => h) hq (hc1.block _ ha (by omega))
 refine ⟨c, n, h2 :: h' :: r, hw.below hL hcL, fun B ys hB => ?_, ho', fun y hy => ?_, ?_, hX, ent_chg hr hc1 (hne _ _ hr), hk, hM, fun y hy => ?_⟩
 · have := hmm B ys hB
   rw [show h' :: ([h2] ++ r) = h' :: h2 :: r from rfl, posOf_swap (fun e => hn2 (by rw [← e]; simp))] at this
   obtain ⟨cs, e, _⟩ := this.ex
   exact this.keep (hc1.block _ (ent_lt e) (hne _ _ e)) fun _ _ h => h
 · rcases List.mem_cons.1 hy with rfl | hy
   · exact hkp _ hok2
   · exact hkp _ (hok y hy)
 · rw [List.map_cons, List.nodup_cons]; exact ⟨hn2, hnd⟩
 · rcases List.mem_cons.1 hy with rfl | hy
   · exact hc2
   · exact hc0 y hy
end
theorem len_app (N : Ux.Sub) : ∀ xs : List Ux.Ty, xs.length ≤ (xs.map fun x => (x.app N).sz).sum
 | [] => by simp
 | x :: r => by have := len_app N r; have := Ux.sz_pos (x.app N); simp; omega
theorem sum_two (g : Ux.Ty → Nat) : ∀ xs : List Ux.Ty, (xs.map fun x => 2 * g x).sum = 2 * (xs.map g).sum
 | [] => rfl
 | x :: r => by have := sum_two g r; simp only [List.map_cons, List.sum_cons]; omega
theorem sum_less (N : Ux.Sub) : ∀ xs : List Ux.Ty, (xs.map fun x => (x.app N).sz - 1).sum + xs.length = (xs.map fun x => (x.app N).sz).sum
 | [] => rfl
 | x :: r => by have := sum_less N r; have := Ux.sz_pos (x.app N); simp only [List.map_cons, List.sum_cons, List.length_cons]; omega
theorem eltHalf : Elt 113 112 (.agg #[.slice none 0 0, .slice none 0 0]) 2 48 := ⟨Tryd.underlying113, by kernel_rfl, rfl, by decide, by decide⟩
theorem HfOk.next {Q : LKey → Prop} {N : Ux.Sub} {a0 : Nat} {c : Asg} {w : World} {h : Hf} {x : Ux.Ty} {rest : List Ux.Ty} (k : HfOk Q N a0 c w h) (hxs : h.xs = x :: rest) {g o cf : Nat} {pf' pt' : Option Addr} (hfv : h.fv = .slice (some ⟨g, o, none⟩) (rest.length + 1) cf)
 (hpf : 0 < rest.length → pf' = some ⟨g, o + 3, none⟩) (hpt : 0 < rest.length → pt' = some ⟨h.B, h.k * 3 + 3, none⟩) :
 HfOk Q N a0 c w ⟨h.B, h.k + 1, rest, .slice pf' rest.length (cf - 1), .slice pt' rest.length rest.length⟩ ∧ ∃ ys, c h.B = some ys ∧ ys[h.k]? = some (x.app N) ∧ h.k < ys.length := by
 obtain ⟨⟨ys, h1, h2, h3⟩, h4, h5, h6⟩ := k
 rw [hxs] at h2 h3 h4
 simp only [List.length_cons] at h2
 have hlt : h.k < ys.length := by omega
 have hd : ys.drop h.k = ys[h.k] :: ys.drop (h.k + 1) := List.drop_eq_getElem_cons hlt
 rw [hd, List.map_cons] at h3
 injection h3 with h3 h7
 refine ⟨⟨⟨ys, h1, by dsimp only; omega, h7⟩, ?_, fun hne => ?_, _, _, rfl⟩, ys, h1, by rw [List.getElem?_eq_getElem hlt, h3], hlt⟩
 · rcases h4 with ⟨e, _⟩ | ⟨g', o', c', cs, T, e, hne, hqf, hcp, hcx, hg, hel⟩
   · cases e
   rw [hfv] at e
   injection e with e1 e2 e3
   injection e1 with e1
   injection e1 with e1 e4 _
   subst e1; subst e4; subst e3
   by_cases hr : rest = []
   · subst hr; exact .inl ⟨rfl, _, _, rfl⟩
   · have hpos := List.length_pos_iff.2 hr
     simp only [List.length_cons] at hcp
     refine .inr ⟨g, o + 3, cf - 1, cs, T, by rw [hpf hpos], hr, hqf, by dsimp only; omega, by omega, hg, fun i y hy => ?_⟩
     obtain ⟨u, a, b, d⟩ := hel (i + 1) y (by simpa using hy)
     exact ⟨u, a, b, fun j z hz => by have := d j z hz; rw [show o + 3 + i * 3 + j = o + (i + 1) * 3 + j by omega]; exact this⟩
 · have hpos : 0 < rest.length := List.length_pos_iff.2 hne
   dsimp only at hpos ⊢
   rw [hpt hpos, show h.k * 3 + 3 = (h.k + 1) * 3 by omega]
theorem mkStart (Q : LKey → Prop) (N : Ux.Sub) (mb db : Nat) (RL : Nat → Prop) (F : FuncId) (caps : Array Value) (I : World → Prop) (c0 : Asg) (n0 : Nat) (t : Ux.Ty) (ti : Int) (ts : ByteArray) (tq : Option Addr) (tn tc : Nat) (zs : Array Value) (w w5 : World) (lv : Value)
 (hL : LookC Q N w.heap.size mb db RL F caps I) (hI : I w) (hm : MkS Q N c0 mb db lv n0 w) (hmade : MkM c0 [] w) (hc0 : ∀ B ys, c0 B = some ys → B < w.heap.size ∧ B ≠ mb ∧ B ≠ db ∧ ¬ RL B)
 (ht : TyQ Q w (.agg #[.int .i64 ti, .string ts, .slice tq tn tc]) t) (hb : Below w.heap.size w w5) (hs : w5.heap.size = w.heap.size + 5)
 (e1 : w5.heap[w.heap.size + 1]? = some (.cells #[.int .i64 0, .string ⟨#[]⟩, .slice none 0 0] 30 (0, 0))) (e2 : w5.heap[w.heap.size + 2]? = some (.cells zs 30 (0, 0))) (hz : zs.size = 1 * 3)
 (e3 : w5.heap[w.heap.size + 3]? = some (.cells #[.int .i64 ti, .string ts, .slice tq tn tc] 30 (0, 0)))
 (e4 : w5.heap[w.heap.size + 4]? = some (.cells #[.slice (some ⟨w.heap.size + 3, 0, none⟩) 1 1, .slice (some ⟨w.heap.size + 2, 0, none⟩) 1 1] 112 (0, 0))) :
 MkLoop Q N w.heap.size mb db RL lv I w c0 (t.app N) (n0 + (t.app N).sz) (2 * (t.app N).sz + 1) (.slice (some ⟨w.heap.size + 4, 0, none⟩) 1 1) w5 := by
 have hn : c0 (w.heap.size + 2) = none := by
  cases h : c0 (w.heap.size + 2) with
  | none => rfl
  | some ys => have := (hc0 _ _ h).1; omega
 have hq : ∀ x, Q x → w5.heap[x.1]? = w.heap[x.1]? := fun x hx => hb.block _ (hL.q x hx).1
 obtain ⟨L, hL4, hL5⟩ := hm.made
 refine ⟨c0.upd (w.heap.size + 2) [t.app N], n0, [⟨w.heap.size + 2, 0, [t], .slice (some ⟨w.heap.size + 3, 0, none⟩) 1 1, .slice (some ⟨w.heap.size + 2, 0, none⟩) 1 1⟩], ⟨hL.stay _ _ hI (.of_all hb), hm.keep (hb.block _ (ent_lt hm.cell)) (hb.block _ hL4.lt) hq (asg_le hn _), asg_le hn _, fun B h1 h2 => ?_, fun B h1 => ?_, .of_all hb, rfl⟩, fun B ys h => ?_, ?_, fun h hh => ?_, by simp, asg_upd _ _ _, e1, by simp [ow, hw]; omega, by simp [od], fun h hh => by rw [List.mem_singleton.1 hh]; exact hn⟩
 · by_cases e : B = w.heap.size + 2
   · omega
   · rw [asg_other _ e] at h1; exact absurd h2 h1
 · rw [asg_other _ (by omega)]
   cases h : c0 B with
   | none => rfl
   | some ys => have := (hc0 _ _ h).1; omega
 · rw [posOf_cons]
   dsimp only
   by_cases e : w.heap.size + 2 = B
   · rw [if_pos e]
     subst e
     rw [asg_upd] at h; injection h with h; subst h
     exact ⟨zs, e2, by simpa using hz, fun j y hj => by omega⟩
   · rw [if_neg e, posOf_nil]
     rw [asg_other _ (Ne.symm e)] at h
     have := hmade B ys h
     rw [posOf_nil] at this
     exact this.keep (hb.block _ (hc0 _ _ h).1) (asg_le hn _)
 · refine ⟨by simp [oc], .inr ⟨w.heap.size + 4, 1, _, rfl, Nat.le_refl _, e4, Nat.le_refl _, by decide, rfl, by simp [oc]⟩⟩
 · rw [List.mem_singleton.1 hh]
   refine ⟨⟨_, asg_upd _ _ _, rfl, rfl⟩, .inr ⟨w.heap.size + 3, 0, 1, _, _, rfl, by simp, .inl rfl, Nat.le_refl _, by decide, e3, fun i x hx => ?_⟩, fun _ => rfl, _, _, rfl⟩
   match i, hx with
   | 0, hx =>
     simp only [List.getElem?_cons_zero, Option.some.injEq] at hx
     subst hx
     exact ⟨_, tyQ_keep ht hq, rfl, fun j z hz => by simpa [Value.cells] using hz⟩
   | i + 1, hx => simp at hx
end Go.Proofs.YtcblppojnailpaaDoor
namespace Go.Proofs.YtcblppojnailpaaDoor
open Go Go.RowKit
set_option linter.unusedVariables false
set_option linter.unusedSimpArgs false
set_option maxHeartbeats 4000000 in
set_option maxRecDepth 100000 in
theorem mkTyp_any (Q : LKey → Prop) (N : Ux.Sub) (mb db : Nat) (RL : Nat → Prop) (F : FuncId) (caps : Array Value) (I : World → Prop) (c0 : Asg) (n0 : Nat) (t : Ux.Ty) (v : Value) (w : World)
 (hL : LookC Q N w.heap.size mb db RL F caps I) (hI : I w) (hm : MkS Q N c0 mb db (.func (.func F) #[] caps) n0 w) (hmade : MkM c0 [] w) (hc0 : ∀ B ys, c0 B = some ys → B < w.heap.size ∧ B ≠ mb ∧ B ≠ db ∧ ¬ RL B)
 (ht : TyQ Q w v t) (hM : 2 * n0 + 2 * (t.app N).sz + 2 ≤ 100000000000) :
 Calls Tryd.prog 37 #[.pointer (some ⟨mb, 0, none⟩), v] w (MkPost Q N w.heap.size mb db RL (.func (.func F) #[] caps) I w c0 n0 t) := by
 obtain ⟨ti, ts, tq, tn, tc, rfl⟩ := tyQ_sh ht
 have HL := Lib.hid hL
 have HI := Lib.hid hI
 have HM := Lib.hid hm
 have HMA := Lib.hid hmade
 have HC0 := Lib.hid hc0
 have HT := Lib.hid ht
 have HMM := Lib.hid hM
 clear hL hI hm hmade hc0 ht hM
 obtain ⟨zs, hzs, hmake⟩ := madeTypes 1 (by decide) ((w.alloc (.cells #[.int .i64 ti, .string ts, .slice tq tn tc] 30)).alloc (.cells #[.int .i64 0, .string ⟨#[]⟩, .slice none 0 0] 30))
 replace hmake : (Instr.makeSlice 28 (.int .i64 1) (.int .i64 1)).run Tryd.prog ((w.alloc (.cells #[.int .i64 ti, .string ts, .slice tq tn tc] 30)).alloc (.cells #[.int .i64 0, .string ⟨#[]⟩, .slice none 0 0] 30)) = _ := hmake
 have HZS := Lib.hid hzs
 clear hzs
 go_enter Tryd.func37, Tryd.ntmps37
 go_upto_region 3 with fail
 rw [show w.heap.size + 1 + 1 + 1 + 1 = w.heap.size + 4 from rfl, show w.heap.size + 1 + 1 + 1 = w.heap.size + 3 from rfl, show w.heap.size + 1 + 1 = w.heap.size + 2 from rfl]
 obtain ⟨w5, hw5⟩ : ∃ w5, w5 = (((((w.alloc (.cells #[.int .i64 ti, .string ts, .slice tq tn tc] 30)).alloc (.cells #[.int .i64 0, .string ⟨#[]⟩, .slice none 0 0] 30)).alloc (.cells zs 30)).alloc (.cells #[.int .i64 ti, .string ts, .slice tq tn tc] 30)).alloc (.cells #[.slice (some ⟨w.heap.size + 3, 0, none⟩) 1 1, .slice (some ⟨w.heap.size + 2, 0, none⟩) 1 1] 112)) := ⟨_, rfl⟩
 rw [← hw5]
 have HW := Lib.hid (mkStart Q N mb db RL F caps I c0 n0 t ti ts tq tn tc zs w w5 (.func (.func F) #[] caps) HL.out HI.out HM.out HMA.out HC0.out HT.out (by rw [hw5]; exact (((((Below.refl _ _).alloc (Nat.le_refl _) _).alloc (by simp) _).alloc (by simp; omega) _).alloc (by simp; omega) _).alloc (by simp; omega) _) (by rw [hw5]; simp)
  (by rw [hw5]; have := ent_alloc (ent_alloc (ent_alloc (ent_new (w.alloc (.cells #[.int .i64 ti, .string ts, .slice tq tn tc] 30)) #[.int .i64 0, .string ⟨#[]⟩, .slice none 0 0] 30) (.cells zs 30)) (.cells #[.int .i64 ti, .string ts, .slice tq tn tc] 30)) (.cells #[.slice (some ⟨w.heap.size + 3, 0, none⟩) 1 1, .slice (some ⟨w.heap.size + 2, 0, none⟩) 1 1] 112); simpa using this)
  (by rw [hw5]; have := ent_alloc (ent_alloc (ent_new ((w.alloc (.cells #[.int .i64 ti, .string ts, .slice tq tn tc] 30)).alloc (.cells #[.int .i64 0, .string ⟨#[]⟩, .slice none 0 0] 30)) zs 30) (.cells #[.int .i64 ti, .string ts, .slice tq tn tc] 30)) (.cells #[.slice (some ⟨w.heap.size + 3, 0, none⟩) 1 1, .slice (some ⟨w.heap.size + 2, 0, none⟩) 1 1] 112); simpa using this) HZS.out
  (by rw [hw5]; have := ent_alloc (ent_new (((w.alloc (.cells #[.int .i64 ti, .string ts, .slice tq tn tc] 30)).alloc (.cells #[.int .i64 0, .string ⟨#[]⟩, .slice none 0 0] 30)).alloc (.cells zs 30)) #[.int .i64 ti, .string ts, .slice tq tn tc] 30) (.cells #[.slice (some ⟨w.heap.size + 3, 0, none⟩) 1 1, .slice (some ⟨w.heap.size + 2, 0, none⟩) 1 1] 112); simpa using this)
  (by rw [hw5]; have := ent_new ((((w.alloc (.cells #[.int .i64 ti, .string ts, .slice tq tn tc] 30)).alloc (.cells #[.int .i64 0, .string ⟨#[]⟩, .slice none 0 0] 30)).alloc (.cells zs 30)).alloc (.cells #[.int .i64 ti, .string ts, .slice tq tn tc] 30)) #[.slice (some ⟨w.heap.size + 3, 0, none⟩) 1 1, .slice (some ⟨w.heap.size + 2, 0, none⟩) 1 1] 112; simpa using this))
 have HLL := Lib.hid HL.out
 clear hw5 hmake HZS
 have HSZ0 := Lib.hid (show 2 * n0 + 2 * (t.app N).sz + 1 ≤ 100000000000 by have := HMM.out; omega)
 have HC00 := Lib.hid HC0.out
 clear HM HMA HC0 HT HMM HI
 go_loopg [6] (2 * (t.app N).sz + 1) (fun k ov wr => Hid (MkLoop Q N w.heap.size mb db RL (.func (.func F) #[] caps) I w c0 (t.app N) (n0 + (t.app N).sz) k ov wr))
 case atStart => exact HW
 case round =>
  clear HW
  obtain ⟨c, n, os, hw, hmm, ho, hok, hnd, hX, hr, hk, hnk, hz0⟩ := hrel.out
  clear hrel
  obtain ⟨p6, c6, rfl⟩ := own_slice ho
  cases os with
  | nil =>
    obtain ⟨cs, z1, z2, z3⟩ := (hmm _ _ hX).ex
    rw [posOf_nil] at z3
    obtain ⟨u, hu, hucell⟩ := z3 0 (t.app N) (by simp) rfl
    obtain ⟨u0, u1, u2, rfl⟩ : ∃ u0 u1 u2, u = .agg #[.int .i64 u0, .string u1, u2] := by
     cases hT : t.app N with
     | v m => rw [hT] at hu; exact ⟨_, _, _, hu⟩
     | a nm ys => rw [hT] at hu; obtain ⟨sl, e, _⟩ := hu; exact ⟨_, _, _, e⟩
    obtain ⟨q, m, cc, rfl⟩ : ∃ q m cc, u2 = .slice q m cc := by
     cases hT : t.app N with
     | v m => rw [hT] at hu; simp only [RightV, Value.agg.injEq, Array.mk.injEq, List.cons.injEq] at hu; exact ⟨_, _, _, hu.2.2.1⟩
     | a nm ys =>
       rw [hT] at hu
       obtain ⟨sl, e, ⟨_, h⟩ | ⟨B, cap, _, _, h, _⟩⟩ := hu
       · simp only [Value.agg.injEq, Array.mk.injEq, List.cons.injEq] at e; exact ⟨_, _, _, e.2.2.1.trans h⟩
       · simp only [Value.agg.injEq, Array.mk.injEq, List.cons.injEq] at e; exact ⟨_, _, _, e.2.2.1.trans h⟩
    have y0 := ent_cell z1 0 _ (by have := hucell 0 _ rfl; simpa using this)
    have y1 := ent_cell z1 1 _ (by have := hucell 1 _ rfl; simpa using this)
    have y2 := ent_cell z1 2 _ (by have := hucell 2 _ rfl; simpa using this)
    have r0 := ent_cell hr 0 _ rfl
    have r1 := ent_cell hr 1 _ rfl
    have r2 := ent_cell hr 2 _ rfl
    have rf := ent_free hr
    have HU := Lib.hid hu; have HW := Lib.hid hw; have HMM := Lib.hid hmm; have HR := Lib.hid hr; have HX := Lib.hid hX; have HNB := Lib.hid (show n ≤ n0 + (t.app N).sz from Nat.le_trans (Nat.le_add_right _ _) hnk)
    clear hz0 hu hw hmm hr hX ho hok hnd hk hnk z1 z2 z3 hucell
    go_wp2_with fail
    clear y0 y1 y2 r0 r1 r2 rf
    have HB8 := Lib.hid (chg_set3 wr (w.heap.size + 1) (.int .i64 u0) (.string u1) (.slice q m cc))
    have ER8 := Lib.hid (ent_set3 HR.out (.int .i64 u0) (.string u1) (.slice q m cc))
    generalize ((wr.setCell ⟨w.heap.size + 1, 0, none⟩ (.int .i64 u0)).setCell ⟨w.heap.size + 1, 1, none⟩ (.string u1)).setCell ⟨w.heap.size + 1, 2, none⟩ (.slice q m cc) = w8 at HB8 ER8 ⊢
    have r0 := ent_cell ER8.out 0 _ rfl
    have r1 := ent_cell ER8.out 1 _ rfl
    have r2 := ent_cell ER8.out 2 _ rfl
    refine bodyPost_ret (v := .agg #[.int .i64 u0, .string u1, .slice q m cc]) (by simp [results, Tryd.results37, go_sem, r0, r1, r2]) rfl ?_
    have hw := HW.out
    have hL := HLL.out
    obtain ⟨L, hL4, hL5⟩ := hw.mks.made
    have hdm : db < w.heap.size := hL.dist.2
    have hmd : mb < w.heap.size := hL.dist.1
    have hs := hw.chg.size
    refine ⟨_, c, n, rfl, HU.out, ⟨hL.stay _ _ hw.inv (HB8.out.mono fun b _ e => .inr (.inr (by omega))), hw.mks.keep (HB8.out.block _ (by omega) (by omega)) (HB8.out.block _ (by omega) (by omega)) (fun x hx => HB8.out.block _ (by have := (hL.q x hx).1; omega) (by have := (hL.q x hx).1; omega)) (fun _ _ h => h), hw.le, hw.new, fun B h => hw.fresh B (by have := HB8.out.size; omega), hw.chg.then HB8.out fun x hx e => by omega, rfl⟩, fun B ys h => ?_, HNB.out⟩
    refine (HMM.out B ys h).keep ?_ fun _ _ h => h
    have hBlt : B < wr.heap.size := by obtain ⟨cs, e, _⟩ := (HMM.out B ys h).ex; exact ent_lt e
    refine HB8.out.block _ hBlt fun e => ?_
    cases h0 : c0 B with
    | none => have := (hw.new B (by rw [h]; simp) h0).1; omega
    | some zz => have := (HC00.out B zz h0).1; omega
  | cons h r =>
    obtain ⟨kk, hkk⟩ : ∃ kk, kk = r.length := ⟨_, rfl⟩
    have hl1 : (h :: r).length = kk + 1 := by rw [hkk]; rfl
    have hok1 := hok h (by simp)
    obtain ⟨pf, cf, hfv⟩ := hok1.fr.len
    obtain ⟨pt, ct, htv⟩ := hok1.ts
    rw [hl1] at ho ⊢
    obtain ⟨ob, cur, rfl, hob, hobl, hk2, hk3, hgo, hcell⟩ := own_open ho (by omega)
    have hk1 : (kk : Int) + 1 ≤ (c6 : Int) := by omega
    have hk4 : wrap64 ((kk : Int) + 1 - 1) = (kk : Int) := by unfold wrap64; omega
    have o0 := hcell _ _ (oc_top h r).1
    have o1 := hcell _ _ (oc_top h r).2
    rw [← hkk, hfv] at o0
    rw [← hkk, htv] at o1
    have x0 := ent_cell hgo _ _ o0
    have x1 := ent_cell hgo _ _ o1
    cases hxs : h.xs with
    | nil =>
      rw [hxs] at x0 x1
      have HO := Lib.hid ho; have HW := Lib.hid hw; have HMM := Lib.hid hmm; have HOK := Lib.hid hok; have HND := Lib.hid hnd; have HX := Lib.hid hX; have HR := Lib.hid hr; have HKK := Lib.hid hkk
      have HK := Lib.hid hk; have HNK := Lib.hid hnk; have HXS := Lib.hid hxs; have HZ0 := Lib.hid hz0
      clear hz0 ho hw hmm hok hnd hX hr hk hnk hkk hl1 hok1 hfv htv hgo hcell o0 o1 hxs
      go_wp2_with fail
      go_roundg (gk - 1)
      case measure =>
       have := HK.out
       simp only [ow, List.map_cons, List.sum_cons] at this
       omega
      case rel =>
       have hk := HK.out
       have hnk := HNK.out
       simp only [ow, od, List.map_cons, List.sum_cons] at hk hnk
       have hok1 := HOK.out h (by simp)
       obtain ⟨ys, f1, f2, f3⟩ := hok1.ex
       rw [HXS.out] at f2
       refine Lib.hid ⟨c, n, r, HW.out, mkM_pop HMM.out HND.out ⟨ys, f1, by simpa using f2⟩, ?_, fun x hx => HOK.out x (by simp [hx]), ?_, HX.out, HR.out, by unfold ow; omega, by unfold od; omega, fun x hx => HZ0.out x (by simp [hx])⟩
       · have := own_cut HO.out (m := kk) (by omega)
         rw [oc, List.take_append_of_le_length (by rw [oc_len, ← HKK.out]; exact Nat.le_refl _), List.take_of_length_le (by rw [oc_len, ← HKK.out]; exact Nat.le_refl _)] at this
         rw [← HKK.out]; exact this
       · have := HND.out; rw [List.map_cons, List.nodup_cons] at this; exact this.2
    | cons x rest =>
      rcases hok1.fr with ⟨e, _⟩ | ⟨g, o, cf', cs, T, e, hne, hqf, hcp, hcx, hg, hel⟩
      · rw [hxs] at e; cases e
      rw [hxs] at e hcp hel x0 x1
      have hto := hok1.tt (by rw [hxs]; simp)
      rw [hxs] at hto htv hfv
      rw [hfv] at e
      injection e with e1 e2 e3
      subst e1; subst e3
      rw [htv] at hto
      injection hto with e1 e2 e3
      subst e1; subst e3
      obtain ⟨m, hm⟩ : ∃ m, m = rest.length := ⟨_, rfl⟩
      have hm1 : (x :: rest).length = m + 1 := by rw [hm]; rfl
      rw [hm1] at hcp x0 x1 hfv htv
      obtain ⟨u, hu, _, hucell⟩ := hel 0 x rfl
      obtain ⟨i, s, sq, sm, sc, rfl⟩ := tyQ_sh hu
      have q0 := ent_cell hg o _ (by have := hucell 0 _ rfl; simpa using this)
      have q1 := ent_cell hg (o + 1) _ (by have := hucell 1 _ rfl; simpa using this)
      have q2 := ent_cell hg (o + 2) _ (by have := hucell 2 _ rfl; simpa using this)
      have xf := ent_free hgo
      have gl := ent_lt hg
      obtain ⟨pf', hpf, hsf⟩ := slice_tail g o m cf hcp hcx
      obtain ⟨pt', hpt, hst⟩ := slice_tail h.B (h.k * 3) m (m + 1) (Nat.le_refl _) (by omega)
      have hk5 : (m : Int) + 1 ≤ (cf : Int) := by omega
      have hk6 : (0 : Int) < (m : Int) + 1 := by omega
      have HO := Lib.hid ho; have HW := Lib.hid hw; have HMM := Lib.hid hmm; have HOK := Lib.hid hok; have HND := Lib.hid hnd; have HX := Lib.hid hX; have HR := Lib.hid hr; have HKK := Lib.hid hkk
      have HK := Lib.hid hk; have HNK := Lib.hid hnk; have HXS := Lib.hid hxs; have HZ0 := Lib.hid hz0; have HFV := Lib.hid hfv; have HTV := Lib.hid htv; have HU := Lib.hid hu; have HPF := Lib.hid hpf; have HPT := Lib.hid hpt
      have hnext := hok1.next hxs (g := g) (o := o) (cf := cf) (pf' := pf') (pt' := pt') (by rw [← hm]; exact hfv) (by rw [← hm]; exact hpf) (by rw [← hm]; exact hpt)
      rw [← hm] at hnext
      have HNX := Lib.hid hnext
      clear hnext
      have HM := Lib.hid hm; have HG := Lib.hid hg; have HEL := Lib.hid hel; have HQF := Lib.hid hqf; have HGO := Lib.hid hgo; have HOB := Lib.hid hob
      clear hz0 ho hw hmm hok hnd hX hr hk hnk hkk hl1 hok1 hfv htv hgo hcell o0 o1 hxs hu hpf hpt hm hm1 hg hel hqf hne hucell e2 hob
      go_upto_region 7 with fail
      go_region
      have hb1 : Below wr.heap.size wr (wr.alloc (.cells #[.int .i64 i, .string s, .slice sq sm sc] 30)).drew := ((Below.refl _ _).alloc (Nat.le_refl _) _).drew
      have EN1 : Hid ((wr.alloc (.cells #[.int .i64 i, .string s, .slice sq sm sc] 30)).drew.heap[wr.heap.size]? = _) := ent_drew (Lib.hid (ent_new wr #[.int .i64 i, .string s, .slice sq sm sc] 30))
      have HB1 := Lib.hid hb1
      have x0' := ent_cell (ent_below HGO.out hb1) _ _ (by rw [cell_of HGO.out] at x0; exact x0)
      have x1' := ent_cell (ent_below HGO.out hb1) _ _ (by rw [cell_of HGO.out] at x1; exact x1)
      have xf' := ent_free (ent_below HGO.out hb1)
      have hobl1 := ent_lt (ent_below HGO.out hb1)
      clear x0 x1 xf q0 q1 q2 hb1 hobl
      generalize (wr.alloc (.cells #[.int .i64 i, .string s, .slice sq sm sc] 30)).drew = w1 at EN1 HB1 x0' x1' xf' hobl1 ⊢
      go_wp2_with fail
      go_region
      have HMID : Hid (MkMid Q N w.heap.size mb db RL (.func (.func F) #[] caps) I w c0 (t.app N) c n h ⟨h.B, h.k + 1, rest, .slice pf' m (cf - 1), .slice pt' m m⟩ r ob c6 wr.heap.size (x.app N) [] (fun T => T = x) ((w1.setCell ⟨ob, kk * 2, none⟩ (.slice pf' m (cf - 1))).setCell ⟨ob, kk * 2 + 1, none⟩ (.slice pt' m m)).drew) := Lib.hid (by
       have hn := HNX.out
       have ho := HO.out
       have hkk := HKK.out
       rw [hkk] at ho ⊢
       exact MkMid.start (h' := ⟨h.B, h.k + 1, rest, .slice pf' m (cf - 1), .slice pt' m m⟩) HLL.out HC00.out HW.out HMM.out ho (fun y hy => (List.mem_cons.1 hy).elim (fun e => e ▸ hn.1) fun e => HOK.out y (by simp [e])) HX.out HR.out HU.out HB1.out EN1.out)
      generalize ((w1.setCell ⟨ob, kk * 2, none⟩ (.slice pf' m (cf - 1))).setCell ⟨ob, kk * 2 + 1, none⟩ (.slice pt' m m)).drew = w2 at HMID ⊢
      obtain ⟨N1, hN1⟩ : ∃ N1, N1 = wr.heap.size := ⟨_, rfl⟩
      rw [← hN1] at HMID ⊢
      have HN1 := Lib.hid hN1
      clear hN1 x0' x1' xf' hobl1 EN1 HB1 hsf hst
      obtain ⟨T, bi, bs, bq, bm, bc, m1, m2, m3, m4, m5, m6, m7, m8, rfl, m10, m11⟩ := HMID.out
      have y0 := ent_cell m7 0 _ rfl
      have y1 := ent_cell m7 1 _ rfl
      have y2 := ent_cell m7 2 _ rfl
      have HBOX := Lib.hid (⟨m7, m8⟩ : w2.heap[N1]? = some (.cells #[.int .i64 bi, .string bs, .slice bq bm bc] 30 (0, 0)) ∧ TyQ Q w2 (.agg #[.int .i64 bi, .string bs, .slice bq bm bc]) T)
      clear m1 m2 m3 m4 m5 m6 m7 m8 m10 m11
      go_upto_if 65 with (first | ((with_reducible refine (isVar_any bi (.string bs) (.slice bq bm bc) w2).mono ?_); rintro e w3 ⟨rfl, hb3⟩))
      have HMID3 := Lib.hid (HMID.out.below HLL.out hb3)
      have HBOX3 := Lib.hid (⟨ent_below HBOX.out.1 hb3, tyQ_keep HBOX.out.2 fun x hx => hb3.block _ (by have h1 := (HLL.out.q x hx).1; obtain ⟨_, _, _, _, _, _, m1, _⟩ := HMID.out; have h2 := m1.chg.size; omega)⟩ : w3.heap[N1]? = some (.cells #[.int .i64 bi, .string bs, .slice bq bm bc] 30 (0, 0)) ∧ TyQ Q w3 (.agg #[.int .i64 bi, .string bs, .slice bq bm bc]) T)
      clear hb3 y0 y1 y2 HMID HBOX
      go_cut [] (fun wx => Hid (MkMid Q N w.heap.size mb db RL (.func (.func F) #[] caps) I w c0 (t.app N) c n h ⟨h.B, h.k + 1, rest, .slice pf' m (cf - 1), .slice pt' m m⟩ r ob c6 N1 (T.app N) [] (fun T' => Res N T' (T.app N)) wx))
      case first =>
       cases hT : T with
       | a nm xs => 
         have hi : bi < 0 := by
          have h1 := HBOX3.out.2; rw [hT] at h1
          obtain ⟨k', av, hk', e, _⟩ := tyQ_a.1 h1; simp only [Value.agg.injEq, Array.mk.injEq, List.cons.injEq, Value.int.injEq] at e; omega
         have hd : decide ((0 : Int) ≤ bi) = false := by simp; omega
         have HTT := Lib.hid hT
         clear hT
         go_wp2_with fail
         go_meet
         obtain ⟨T', bi', bs', bq', bm', bc', m1, m2, m3, m4, m5, m6, m7, m8, e9, m10, m11⟩ := HMID3.out
         refine Lib.hid ⟨T', bi', bs', bq', bm', bc', m1, m2, m3, m4, m5, m6, m7, m8, ?_, m10, m11⟩
         show Res N T' _
         rw [e9, HTT.out, Ux.app_a]; rfl
       | v nn =>
         obtain rfl : bi = (nn : Int) := by
          have h1 := HBOX3.out.2; rw [hT] at h1
          obtain ⟨s', q', m1, c', e⟩ := tyQ_v.1 h1; simp only [Value.agg.injEq, Array.mk.injEq, List.cons.injEq, Value.int.injEq] at e; omega
         have hd : decide ((0 : Int) ≤ (nn : Int)) = true := by simp
         have HTT := Lib.hid hT
         clear hT
         have hF := HLL.out.enters
         go_wp2_with fail
         refine wp_region_held_drew (S := fun (u : World) => Chg (fun b => RL b ∨ b = N1) w3 u) (by kernel_rfl) ((Chg.drew _)) (fun hHeld => ?_)
         refine wpAnyH_take (i := 0) (v := .pointer (some ⟨mb, 0, none⟩)) rfl (by kernel_rfl) (by kernel_rfl) (by kernel_rfl) (fun _ _ _ h => h) (Or.inl ⟨by rfl, fun w' hSw => by go_simp⟩) hHeld ?_
         refine wpAnyH_take (i := 1) (v := .pointer (some ⟨mb, 0, none⟩)) rfl (by kernel_rfl) (by kernel_rfl) (by kernel_rfl) (fun _ _ _ h => h) (Or.inl ⟨by rfl, fun w' hSw => by go_simp⟩) hHeld ?_
         refine wpAnyH_take (i := 2) (v := .pointer (some ⟨mb, 0, none⟩)) rfl (by kernel_rfl) (by kernel_rfl) (by kernel_rfl) (fun _ _ _ h => h) (Or.inl ⟨by rfl, fun w' hSw => by go_simp⟩) hHeld ?_
         refine wpAnyH_take (i := 3) (v := .func (.func F) #[] caps) rfl (by kernel_rfl) (by kernel_rfl) (by kernel_rfl) (fun _ _ _ h => h) (Or.inl ⟨by rfl, fun w' hSw => by have h := ent_cell (ent_chg HMID3.out.mk hSw (fun e => e.elim (fun e => (HLL.out.out _ e).2.1 rfl) (fun e => by have h1 := HLL.out.dist.1; have h2 := HMID3.out.n1; omega))) 0 _ rfl; go_simp⟩) hHeld ?_
         refine wpAnyH_take (i := 4) (v := .pointer (some ⟨N1, 0, none⟩)) rfl (by kernel_rfl) (by kernel_rfl) (by kernel_rfl) (fun _ _ _ h => h) (Or.inl ⟨by rfl, fun w' hSw => by go_simp⟩) hHeld ?_
         try simp only [Act.put, List.getElem_toArray, List.getElem_cons_succ, List.getElem_cons_zero, List.setIfInBounds_toArray, List.set_cons_zero, List.set_cons_succ]
         refine wpAnyH_ready (rs := [5]) (by kernel_rfl) (by simp) ?_
         refine AllReadyH.cons rfl (fun K hK => ?_) AllReadyH.nil
         have y0 := ent_cell (w := w3.drew) HBOX3.out.1 0 _ rfl
         go_simp
         refine hK.out _ _ (.drew _) (fun hHeld => ?_)
         clear y0
         clear hK K
         refine wpAnyH_ready (rs := [6]) (by kernel_rfl) (by simp) ?_
         refine AllReadyH.cons rfl (fun K hK => ?_) AllReadyH.nil
         go_simp
         refine (HLL.out.call w3.drew nn (HLL.out.stay _ _ HMID3.out.inv (.drew _)) HMID3.out.size).mono ?_
         rintro e w4 ⟨r4, T4, rfl, hres, hty4, hi4, hch4⟩
         replace hch4 : Chg RL w3 w4 := (Chg.drew w3).trans hch4
         obtain ⟨z0, z1, zq, zm, zc, rfl⟩ := tyQ_sh hty4
         have HCH4 := Lib.hid hch4
         have HTY4 := Lib.hid hty4
         have HRES := Lib.hid hres
         have HI4 := Lib.hid hi4
         have HB4 := Lib.hid (ent_chg HBOX3.out.1 hch4 (fun e => by have h1 := (HLL.out.out _ e).1; have h2 := HMID3.out.n1; omega))
         clear hch4 hty4 hres hi4
         refine hK.out _ _ (HCH4.out.mono fun _ _ e => .inl e) (fun hHeld => ?_)
         clear hK K
         refine wpAnyH_ready (rs := [7]) (by kernel_rfl) (by simp) ?_
         refine AllReadyH.cons rfl (fun K hK => ?_) AllReadyH.nil
         have y0 := ent_cell HB4.out 0 _ rfl
         have y1 := ent_cell HB4.out 1 _ rfl
         have y2 := ent_cell HB4.out 2 _ rfl
         have yf := ent_free HB4.out
         go_simp
         refine hK.out _ _ ((HCH4.out.mono fun _ _ e => .inl e).trans ((chg_set3 w4 N1 _ _ _).mono fun _ _ e => .inr e)) (fun hHeld => ?_)
         clear y0 y1 y2 yf
         clear hK K
         refine wpAnyH_done (by kernel_rfl) ?_ _
         have HMID5 : Hid (MkMid Q N w.heap.size mb db RL (.func (.func F) #[] caps) I w c0 (t.app N) c n h ⟨h.B, h.k + 1, rest, .slice pf' m (cf - 1), .slice pt' m m⟩ r ob c6 N1 (T.app N) [] (fun T' => Res N T' (T.app N)) (((w4.setCell ⟨N1, 0, none⟩ (.int .i64 z0)).setCell ⟨N1, 1, none⟩ (.string z1)).setCell ⟨N1, 2, none⟩ (.slice zq zm zc))) := Lib.hid (by
          have hX' : T.app N = N nn := by rw [HTT.out, Ux.app_v]
          rw [hX']
          exact HMID3.out.looked HLL.out HC00.out HCH4.out HI4.out HRES.out HTY4.out)
         clear HBOX3 HMID3 HTY4 HRES HI4
         generalize ((w4.setCell ⟨N1, 0, none⟩ (.int .i64 z0)).setCell ⟨N1, 1, none⟩ (.string z1)).setCell ⟨N1, 2, none⟩ (.slice zq zm zc) = w6 at *
         go_wp2_with fail
         go_meet
         exact HMID5
      case rest =>
       obtain ⟨T', bi', bs', bq', bm', bc', m1, m2, m3, m4, m5, m6, m7, m8, m9, m10, m11⟩ := hcut.out
       have HC := hcut
       clear hcut HMID3 HBOX3
       have y0 := ent_cell m7 0 _ rfl
       have y1 := ent_cell m7 1 _ rfl
       have y2 := ent_cell m7 2 _ rfl
       have HTY := Lib.hid m8
       have HRES := Lib.hid (show Res N T' (T.app N) from m9)
       have HM1 := Lib.hid m1
       have HBX := Lib.hid m7
       clear m1 m2 m3 m4 m5 m6 m7 m8 m9 m10 m11
       obtain ⟨ys, hys, hyk, hylt⟩ := HNX.out.2
       obtain ⟨hcl, hcf, hclt⟩ := HC.out.cells hys hylt
       obtain ⟨v0, hv0⟩ := hcl 0 (by decide)
       obtain ⟨v1, hv1⟩ := hcl 1 (by decide)
       obtain ⟨v2, hv2⟩ := hcl 2 (by decide)
       rw [Nat.add_zero] at hv0
       have HYS := Lib.hid (⟨hys, hyk, hylt⟩ : c h.B = some ys ∧ ys[h.k]? = some (T.app N) ∧ h.k < ys.length)
       have hz00 := HZ0.out h (by simp)
       have HZ00 := Lib.hid hz00
       clear hz00 hcl hys hyk hylt
       cases hT : T' with
       | v mm =>
         obtain rfl : bi' = (mm : Int) := by
          have h1 := HTY.out; rw [hT] at h1
          obtain ⟨s', q', m1, c', e⟩ := tyQ_v.1 h1; simp only [Value.agg.injEq, Array.mk.injEq, List.cons.injEq, Value.int.injEq] at e; omega
         have hd : decide ((0 : Int) ≤ (mm : Int)) = true := by simp
         have HTT := Lib.hid hT
         clear hT
         go_wp2_with fail
         refine (isVar_any mm (.string bs') (.slice bq' bm' bc') wc).mono ?_
         rintro e w7 ⟨rfl, hb7⟩
         have HC7 := Lib.hid (HC.out.below HLL.out hb7)
         have y0 := ent_cell (ent_below HBX.out hb7) 0 _ rfl
         clear hb7 hv0 hv1 hv2 hcf hclt y1 y2
         go_wp2_with fail
         refine (var_any mm w7).mono ?_
         rintro e w8 ⟨rfl, hb8⟩
         have HC8 := Lib.hid (HC7.out.below HLL.out hb8)
         clear hb8 y0 HC7
         obtain ⟨hcl, hcf, hclt⟩ := HC8.out.cells HYS.out.1 HYS.out.2.2
         obtain ⟨v0, hv0⟩ := hcl 0 (by decide)
         obtain ⟨v1, hv1⟩ := hcl 1 (by decide)
         obtain ⟨v2, hv2⟩ := hcl 2 (by decide)
         rw [Nat.add_zero] at hv0
         clear hcl
         go_wp2_with fail
         obtain ⟨W, hW, d1, d2, d3, d4, d5, d6, d7, d8⟩ := HC8.out.done (u0 := .int .i64 mm) (u1 := .string ⟨#[]⟩) (u2 := .slice none 0 0) HLL.out HC00.out HYS.out.1 HYS.out.2.1 rfl rfl HZ00.out (by have := HRES.out; rw [HTT.out] at this; rw [show T.app N = .v mm from this]; rfl)
         rw [← hW]
         have HD := Lib.hid (⟨d1, d2, d3, d4, d5, d6⟩ : MkW Q N w.heap.size mb db RL (.func (.func F) #[] caps) I w c0 c n W ∧ MkM c (⟨h.B, h.k + 1, rest, .slice pf' m (cf - 1), .slice pt' m m⟩ :: ([] ++ r)) W ∧ _ ∧ _ ∧ _ ∧ _)
         clear hW d1 d2 d3 d4 d5 d6 d7 d8 hv0 hv1 hv2 hcf hclt
         go_wp2_with fail
         go_roundg (gk - 1)
         case measure =>
          have hk := HK.out
          simp only [ow, List.map_cons, List.sum_cons] at hk
          omega
         case rel =>
          have hk := HK.out
          have hnk := HNK.out
          have hsz := Ux.sz_pos (T.app N)
          simp only [ow, od, List.map_cons, List.sum_cons, HXS.out, hw] at hk hnk
          obtain ⟨d1, d2, d3, d4, d5, d6⟩ := HD.out
          refine Lib.hid ⟨c, n, _ :: r, d1, d2, ?_, d4, ?_, d5, d6, ?_, ?_, fun y hy => ?_⟩
          · rw [HKK.out]; exact d3
          · exact HND.out
          · simp only [ow, List.map_cons, List.sum_cons, hw]; omega
          · simp only [od, List.map_cons, List.sum_cons]; omega
          · rcases List.mem_cons.1 hy with e | hy
            · rw [e]; exact HZ00.out
            · exact HZ0.out y (by simp [hy])
       | a nm xs =>
         have hi : bi' < 0 := by
          have h1 := HTY.out; rw [hT] at h1
          obtain ⟨k', av, hk', e, _⟩ := tyQ_a.1 h1; simp only [Value.agg.injEq, Array.mk.injEq, List.cons.injEq, Value.int.injEq] at e; omega
         have hd : decide ((0 : Int) ≤ bi') = false := by simp; omega
         obtain ⟨hrow, rfl, rfl⟩ : RowQ Q (TyQ Q wc) wc (.slice bq' bm' bc') xs ∧ bm' = xs.length ∧ bs' = ⟨nm.toArray⟩ := by
          have h1 := HTY.out; rw [hT] at h1
          obtain ⟨k', av, hk', e, hr⟩ := tyQ_a.1 h1
          simp only [Value.agg.injEq, Array.mk.injEq, List.cons.injEq, Value.int.injEq, Value.string.injEq] at e
          obtain ⟨_, e1, e2, _⟩ := e
          subst e2
          obtain ⟨p, c', e3⟩ := hr.len
          injection e3 with _ e3 _
          exact ⟨hr, e3, e1⟩
         have HROW := Lib.hid hrow
         have HTT := Lib.hid hT
         clear hT hrow
         go_wp2_with fail
         refine (isVar_any bi' (.string ⟨nm.toArray⟩) (.slice bq' xs.length bc') wc).mono ?_
         rintro e w7 ⟨rfl, hb7⟩
         have HC7 := Lib.hid (HC.out.below HLL.out hb7)
         have HBX7 := Lib.hid (ent_below HBX.out hb7)
         have hq7 := HM1.out.qs HLL.out (R := fun _ => False) (.of_below hb7) (fun b h => h.elim)
         have HROW7 := Lib.hid (HROW.out.mono (fun x hx => ⟨hx, hq7 x hx⟩) fun u x _ hu => tyQ_keep hu hq7)
         have HM7 := Lib.hid (HM1.out.below HLL.out (.of_below hb7))
         clear hb7 hq7 hv0 hv1 hv2 hcf hclt y0 y1 y2 HROW
         have y0 := ent_cell HBX7.out 0 _ rfl
         have y1 := ent_cell HBX7.out 1 _ rfl
         have y2 := ent_cell HBX7.out 2 _ rfl
         have hXs : T.app N = .a nm (xs.map (Ux.Ty.app N)) := by have := HRES.out; rw [HTT.out] at this; exact this
         have hXsz : (T.app N).sz = 1 + (xs.map fun x => (x.app N).sz).sum := by rw [hXs, Ux.sz_a, List.map_map]; rfl
         have HXA := Lib.hid hXs
         have HXZ := Lib.hid hXsz
         clear hXs hXsz
         have HNN := Lib.hid (show n + xs.length ≤ 100000000000 by
          have hnk := HNK.out
          simp only [od, List.map_cons, List.sum_cons, HXS.out] at hnk
          have h1 := HXZ.out
          have h2 := len_app N xs
          have h3 := HSZ0.out
          omega)
         go_wp2_with fail
         refine (mkList_any Q N c mb db (.func (.func F) #[] caps) n bq' bc' xs w7 HM7.out.mks HROW7.out (fun x hx => by have h1 := HLL.out.q x hx; have h2 := HM7.out.chg.size; exact ⟨by omega, h1.2.1, h1.2.2.1⟩) HNN.out HM7.out.fresh).mono ?_
         rintro e w8 hp
         obtain ⟨c', n', sq', sm', sc', b, ex', rfl, hle, hmid, hright, hcase⟩ := HC7.out.list (nm := nm) HLL.out HC00.out ⟨_, HYS.out.1⟩ HROW7.out hp
         have HC8 := Lib.hid hmid
         have HLE := Lib.hid hle
         have HRI := Lib.hid hright
         have HCA := Lib.hid hcase
         have HBX8 := Lib.hid (ent_chg HBX7.out hp.1 (fun e => by have h1 := HLL.out.dist; have h2 := HC7.out.n1; omega))
         clear hp hle hmid hright hcase y0 y1 y2
         obtain ⟨hcl, hcf, hclt⟩ := HC8.out.cells (HLE.out _ _ HYS.out.1) HYS.out.2.2
         obtain ⟨v0, hv0⟩ := hcl 0 (by decide)
         obtain ⟨v1, hv1⟩ := hcl 1 (by decide)
         obtain ⟨v2, hv2⟩ := hcl 2 (by decide)
         rw [Nat.add_zero] at hv0
         have y1 := ent_cell HBX8.out 1 _ rfl
         clear hcl
         obtain ⟨W, hW, d1, d2, d3, d4, d5, d6, d7, d8⟩ := HC8.out.done (u0 := .int .i64 (-1)) (u1 := .string ⟨nm.toArray⟩) (u2 := .slice sq' sm' sc') HLL.out HC00.out (HLE.out _ _ HYS.out.1) HYS.out.2.1 rfl rfl HZ00.out (by rw [HXA.out]; exact HRI.out)
         have HWE := Lib.hid hW
         have HD := Lib.hid (⟨d1, d2, d3, d4, d5, d6, d7⟩ : MkW Q N w.heap.size mb db RL (.func (.func F) #[] caps) I w c0 c' n' W ∧ MkM c' (⟨h.B, h.k + 1, rest, .slice pf' m (cf - 1), .slice pt' m m⟩ :: (ex' ++ r)) W ∧ _ ∧ _ ∧ _ ∧ _ ∧ Chg (· = h.B) w8 W)
         have HBXW := Lib.hid (ent_chg HBX8.out d7 (fun e => by obtain ⟨_, _, _, _, _, _, _, _, _, _, _, _, _, _, _, k10, _⟩ := HC8.out; have := HLE.out _ _ HYS.out.1; rw [← e, k10] at this; cases this))
         clear hW d1 d2 d3 d4 d5 d6 d7 d8
         rcases HCA.out with ⟨rfl, rfl, rfl⟩ | ⟨rfl, rfl, B2, rfl, hcB2, hc0B2, hok2⟩
         · go_wp2_with fail
           rw [← HWE.out]
           clear hv0 hv1 hv2 hcf hclt y1
           go_wp2_with fail
           go_roundg (gk - 1)
           case measure =>
            have hk := HK.out
            simp only [ow, List.map_cons, List.sum_cons] at hk
            omega
           case rel =>
            have hk := HK.out
            have hnk := HNK.out
            have hsz := Ux.sz_pos (T.app N)
            simp only [ow, od, List.map_cons, List.sum_cons, HXS.out, hw] at hk hnk
            obtain ⟨d1, d2, d3, d4, d5, d6, d7⟩ := HD.out
            refine Lib.hid ⟨c', n', _ :: r, d1, d2, ?_, d4, ?_, d5, d6, ?_, ?_, fun y hy => ?_⟩
            · rw [HKK.out]; exact d3
            · exact HND.out
            · simp only [ow, List.map_cons, List.sum_cons, hw]; omega
            · simp only [od, List.map_cons, List.sum_cons]; omega
            · rcases List.mem_cons.1 hy with e | hy
              · rw [e]; exact HZ00.out
              · exact HZ0.out y (by simp [hy])
         · have HC2 := Lib.hid (⟨hcB2, hc0B2⟩ : c B2 = none ∧ c0 B2 = none)
           have HOK2 := Lib.hid hok2
           clear hcB2 hc0B2 hok2
           go_upto_region 16 with fail
           rw [← HWE.out]
           clear hv0 hv1 hv2 hcf hclt y1
           have y2 := ent_cell HBXW.out 2 _ rfl
           have hkk2 : (kk + 1) ≤ 100000000000 := by have h1 := ow_len N (h :: r); have h2 := HSZ0.out; have h3 := HK.out; simp only [List.length_cons, ← HKK.out] at h1; omega
           have hown : W.ownsRow (w.heap.size + 4) 112 2 (.slice (some ⟨ob, 0, none⟩) (kk + 1) c6) (kk + 1) (oc (⟨h.B, h.k + 1, rest, .slice pf' m (cf - 1), .slice pt' m m⟩ :: r)) := by have := HD.out.2.2.1; rw [← HKK.out] at this; exact this
           have HOWN := Lib.hid hown
           clear hown
           go_wp2_with (at_builtin; refine wpList_append_new eltHalf W rfl (.tmp 94) (.tmp 99) rfl (w.heap.size + 4) (.slice (some ⟨ob, 0, none⟩) (kk + 1) c6) (kk + 1) _ rfl HOWN.out #[.slice bq' xs.length bc', .slice sq' sm' sc'] 112 rfl rfl (by intro u hu; simp only [List.mem_cons, List.not_mem_nil, or_false] at hu; rcases hu with rfl | rfl <;> rfl) hkk2 (by have := HD.out.1.chg.size; have h1 := HD.out.1.size; have h2 := HD.out.2.2.1.lt ob rfl; omega) ?_)
           intro v9 w9 hown9 hch9 hloc9
           obtain ⟨p9, c9, rfl⟩ := own_slice hown9
           have HO9 := Lib.hid hown9
           have HC9 := Lib.hid hch9
           clear hown9 hch9 hloc9 y2
           go_wp2_with fail
           go_roundg (gk - 1)
           case measure =>
            have hk := HK.out
            simp only [ow, List.map_cons, List.sum_cons] at hk
            omega
           case rel =>
            have hk := HK.out
            have hnk := HNK.out
            have hsz := Ux.sz_pos (T.app N)
            have hxz := HXZ.out
            have h2s : (xs.map fun x => 2 * (x.app N).sz).sum = 2 * (xs.map fun x => (x.app N).sz).sum := sum_two _ xs
            have h3s : (xs.map fun x => (x.app N).sz - 1).sum + xs.length = (xs.map fun x => (x.app N).sz).sum := sum_less N xs
            simp only [ow, od, List.map_cons, List.sum_cons, HXS.out, hw] at hk hnk
            obtain ⟨d1, d2, d3, d4, d5, d6, d7⟩ := HD.out
            have hBin : ∀ y ∈ h :: r, c y.B ≠ none := fun y hy e => by obtain ⟨zz, f1, _⟩ := (HOK.out y hy).ex; rw [e] at f1; cases f1
            refine Lib.hid (mkLoop_push (ob := ob) (c6 := c6) (h2 := ⟨B2, 0, xs, .slice bq' xs.length bc', .slice sq' sm' sc'⟩) HLL.out HC00.out d1 d2 d3 d4 (HOK2.out.keep (fun _ _ h => h) (fun x hx => d7.block _ (by have h1 := (HLL.out.q x hx).1; have h2 := HC8.out.size; omega) (by have h1 := (HLL.out.q x hx).1; have h2 := d1.new h.B (by rw [HLE.out _ _ HYS.out.1]; simp) HZ00.out; omega)) (d7.block _ (by have := ent_lt HBX8.out; have := HC8.out.n1; omega) (by have h2 := d1.new h.B (by rw [HLE.out _ _ HYS.out.1]; simp) HZ00.out; omega))) d5 d6 (by have := ent_lt HBXW.out; have := HC8.out.n1; omega) HND.out ?_ ?_ HC2.out.2 (by rw [← HKK.out]; exact HC9.out) (by rw [← HKK.out]; exact HO9.out) ?_ ?_)
            · intro hin
              rw [List.map_cons] at hin
              rcases List.mem_cons.1 hin with e | hin
              · exact hBin h (by simp) (by rw [← show B2 = h.B from e]; exact HC2.out.1)
              · obtain ⟨y, hy, e⟩ := List.mem_map.1 hin
                exact hBin y (by simp [hy]) (by rw [show y.B = B2 from e]; exact HC2.out.1)
            · intro y hy
              rcases List.mem_cons.1 hy with e | hy
              · rw [e]; exact HZ00.out
              · exact HZ0.out y (by simp [hy])
            · simp only [ow, List.map_cons, List.sum_cons, hw]; omega
            · simp only [od, List.map_cons, List.sum_cons]; omega
end Go.Proofs.YtcblppojnailpaaDoor
