/-
  Several texts in one: RGrow, RCases.
-/
import Derived.Test.YtgoacbomphlhjaaP00
import Derived.Test.YtgoacbomphlhjaaP13
import Derived.Test.YtgoacbomphlhjaaP09
import Derived.Test.YtgoacbomphlhjaaP11
set_option linter.unusedVariables false
set_option linter.unusedSimpArgs false
namespace Go.Proofs.Ytgoacbomphlhjaa
open Go.Lib (hid)
open List renaming getElem_toArray → jX, getElem_cons_succ → jY, getElem_cons_zero → jZ, setIfInBounds_toArray → JA, set_cons_zero → JB, set_cons_succ → JC
open Go Go.RowKit
structure G2 {α β : Type} (E1 s1 : Nat) (r1 : World → Value → α → Prop) (E2 s2 : Nat) (r2 : World → Value → β → Prop) (W0 : World) (gx : Nat) (TX : TypeId) (cs : Array Value) (a b : Value) (an bn : Nat)
 (va vb ya yb : List Value) (xa : List α) (xb : List β) (L : List (Nat × Obj)) (w : World) : Prop where
 low : Below gx W0 w
 lt : gx < w.heap.size
 et : w.heap[gx]? = some (.cells cs TX (0, 0))
 oa : w.ownsRow (gx + 1) E1 s1 a an (cellsOf va)
 ob : w.ownsRow (gx + 1) E2 s2 b bn (cellsOf vb)
 ka : Reps (KeptS r1 (gx + 1) w (fun g => a.ownBlock = some g ∨ b.ownBlock = some g)) ya xa
 kb : Reps (KeptS r2 (gx + 1) w (fun g => a.ownBlock = some g ∨ b.ownBlock = some g)) yb xb
 sa : ∀ u ∈ ya, u.cells.size = s1
 sb : ∀ u ∈ yb, u.cells.size = s2
 bx : ∀ b' ∈ L, gx < b'.1 ∧ w.heap[b'.1]? = some b'.2 ∧ a.ownBlock ≠ some b'.1 ∧ b.ownBlock ≠ some b'.1
section
variable {α β : Type} {E1 s1 : Nat} {r1 : World → Value → α → Prop} {E2 s2 : Nat} {r2 : World → Value → β → Prop} {W0 : World} {gx : Nat} {TX : TypeId} {cs : Array Value} {a b : Value} {an bn : Nat} {va vb ya yb : List Value} {xa : List α} {xb : List β} {L : List (Nat × Obj)} {w w' : World}
theorem G2.below (h : G2 E1 s1 r1 E2 s2 r2 W0 gx TX cs a b an bn va vb ya yb xa xb L w) (hb : Below w.heap.size w w') : G2 E1 s1 r1 E2 s2 r2 W0 gx TX cs a b an bn va vb ya yb xa xb L w' where
 low := h.low.trans (hb.mono (Nat.le_of_lt h.lt))
 lt := Nat.lt_of_lt_of_le h.lt hb.size
 et := (hb.block _ h.lt).trans h.et
 oa := jJ h.oa hb
 ob := jJ h.ob hb
 ka := h.ka.mono fun _ _ k => k.below hb
 kb := h.kb.mono fun _ _ k => k.below hb
 sa := h.sa
 sb := h.sb
 bx := fun b hm => ⟨(h.bx b hm).1, (hb.block _ (jK (h.bx b hm).2.1)).trans (h.bx b hm).2.1, (h.bx b hm).2.2⟩
theorem G2.alloc (h : G2 E1 s1 r1 E2 s2 r2 W0 gx TX cs a b an bn va vb ya yb xa xb L w) (ds : Array Value) (T : TypeId) : G2 E1 s1 r1 E2 s2 r2 W0 gx TX cs a b an bn va vb ya yb xa xb ((w.heap.size, .cells ds T (0, 0)) :: L) (w.alloc (.cells ds T)) := by
 have hb : Below w.heap.size w (w.alloc (.cells ds T)) := (Below.refl _ _).alloc (Nat.le_refl _) _
 have h1 := h.below hb
 refine { h1 with bx := fun b hm => ?_ }
 rcases List.mem_cons.1 hm with rfl | hm
 · exact ⟨h.lt, jI w ds T, fun e => by have := (h.oa.lt _ e).2; omega, fun e => by have := (h.ob.lt _ e).2; omega⟩
 · exact h1.bx b hm
theorem G2.only (h : G2 E1 s1 r1 E2 s2 r2 W0 gx TX cs a b an bn va vb ya yb xa xb L w) {M : List (Nat × Obj)} (hM : ∀ b ∈ M, b ∈ L) : G2 E1 s1 r1 E2 s2 r2 W0 gx TX cs a b an bn va vb ya yb xa xb M w := { h with bx := fun b hm => h.bx b (hM b hm) }
/-- A part made since the world w is kept. -/
theorem G2.since (h : G2 E1 s1 r1 E2 s2 r2 W0 gx TX cs a b an bn va vb ya yb xa xb L w) {γ : Type} {r : World → Value → γ → Prop} {y : Value} {x : γ} (hk : New r w w' y x) : KeptS r (gx + 1) w' (fun g => a.ownBlock = some g ∨ b.ownBlock = some g) y x :=
 hk.keptS (by have := h.lt; omega) (fun g hg => hg.elim (fun e => (h.oa.lt g e).2) (fun e => (h.ob.lt g e).2))
theorem G2.addA (h : G2 E1 s1 r1 E2 s2 r2 W0 gx TX cs a b an bn va vb ya yb xa xb L w) {y : Value} {x : α} (hk : KeptS r1 (gx + 1) w (fun g => a.ownBlock = some g ∨ b.ownBlock = some g) y x) (hs : y.cells.size = s1) : G2 E1 s1 r1 E2 s2 r2 W0 gx TX cs a b an bn va vb (ya ++ [y]) yb (xa ++ [x]) xb L w := by
 refine { h with ka := Reps.snoc hk h.ka, sa := fun u hu => ?_ }
 rcases List.mem_append.1 hu with hu | hu
 · exact h.sa u hu
 · rw [List.mem_singleton.1 hu]; exact hs
theorem G2.addB (h : G2 E1 s1 r1 E2 s2 r2 W0 gx TX cs a b an bn va vb ya yb xa xb L w) {y : Value} {x : β} (hk : KeptS r2 (gx + 1) w (fun g => a.ownBlock = some g ∨ b.ownBlock = some g) y x) (hs : y.cells.size = s2) : G2 E1 s1 r1 E2 s2 r2 W0 gx TX cs a b an bn va vb ya (yb ++ [y]) xa (xb ++ [x]) L w := by
 refine { h with kb := Reps.snoc hk h.kb, sb := fun u hu => ?_ }
 rcases List.mem_append.1 hu with hu | hu
 · exact h.sb u hu
 · rw [List.mem_singleton.1 hu]; exact hs
theorem G2.growA (h : G2 E1 s1 r1 E2 s2 r2 W0 gx TX cs a b an bn va vb ya yb xa xb L w) (hE : E1 ≠ E2) {v' : Value} {m : Nat} {more : List Value} (ho : w'.ownsRow (gx + 1) E1 s1 v' m (cellsOf more)) (hg : w.grownBy w' a.ownBlock)
 (hl : v'.ownBlock = a.ownBlock ∨ ∀ g, v'.ownBlock = some g → w.heap.size ≤ g) : G2 E1 s1 r1 E2 s2 r2 W0 gx TX cs v' b m bn more vb ya yb xa xb L w' where
 low := h.low.trans ⟨hg.os, hg.tape, hg.output, hg.size, fun b hb => hg.block b (by have := h.lt; omega) (fun e => by have := (h.oa.lt b e.symm).1; omega)⟩
 lt := Nat.lt_of_lt_of_le h.lt hg.size
 et := (hg.block _ h.lt (fun e => by have := (h.oa.lt gx e.symm).1; omega)).trans h.et
 oa := ho
 ob := own_stays h.ob fun b hb => hg.block b (h.ob.lt b hb).2 (fun e => own_type_ne h.oa h.ob hE b e.symm hb)
 ka := h.ka.mono fun _ _ k => k.step (S' := fun g => v'.ownBlock = some g ∨ b.ownBlock = some g) hg.size (fun b hb1 _ hb3 => hg.block b hb1 (fun e => hb3 (.inl e.symm)))
  (fun g hg' => hg'.elim (fun e => hl.elim (fun e' => .inl (.inl (e' ▸ e))) (fun e' => .inr (e' g e))) (fun e => .inl (.inr e)))
 kb := h.kb.mono fun _ _ k => k.step (S' := fun g => v'.ownBlock = some g ∨ b.ownBlock = some g) hg.size (fun b hb1 _ hb3 => hg.block b hb1 (fun e => hb3 (.inl e.symm)))
  (fun g hg' => hg'.elim (fun e => hl.elim (fun e' => .inl (.inl (e' ▸ e))) (fun e' => .inr (e' g e))) (fun e => .inl (.inr e)))
 sa := h.sa
 sb := h.sb
 bx := fun b hm => ⟨(h.bx b hm).1, (hg.block _ (jK (h.bx b hm).2.1) (fun e => (h.bx b hm).2.2.1 e.symm)).trans (h.bx b hm).2.1,
  fun e => hl.elim (fun e' => (h.bx b hm).2.2.1 (e' ▸ e)) (fun e' => by have := e' _ e; have := jK (h.bx b hm).2.1; omega), (h.bx b hm).2.2.2⟩
theorem G2.swap (h : G2 E1 s1 r1 E2 s2 r2 W0 gx TX cs a b an bn va vb ya yb xa xb L w) : G2 E2 s2 r2 E1 s1 r1 W0 gx TX cs b a bn an vb va yb ya xb xa L w where
 low := h.low
 lt := h.lt
 et := h.et
 oa := h.ob
 ob := h.oa
 ka := h.kb.mono fun _ _ k => k.step (Nat.le_refl _) (fun _ _ _ _ => rfl) (fun g hg => .inl hg.symm)
 kb := h.ka.mono fun _ _ k => k.step (Nat.le_refl _) (fun _ _ _ _ => rfl) (fun g hg => .inl hg.symm)
 sa := h.sb
 sb := h.sa
 bx := fun b hm => ⟨(h.bx b hm).1, (h.bx b hm).2.1, (h.bx b hm).2.2.2, (h.bx b hm).2.2.1⟩
theorem G2.st (h : G2 E1 s1 r1 E2 s2 r2 W0 gx TX cs a b an bn va vb ya yb xa xb L w) (j : Nat) (z : Value) (cs' : Array Value) (he : cs.setIfInBounds j z = cs') :
 G2 E1 s1 r1 E2 s2 r2 W0 gx TX cs' a b an bn va vb ya yb xa xb L (w.setCell ⟨gx, j, none⟩ z) := by
 have hst : ∀ b, b ≠ gx → (w.setCell ⟨gx, j, none⟩ z).heap[b]? = w.heap[b]? := fun b hb => Below.heap_setCell w ⟨gx, j, none⟩ z b hb
 have hsz : (w.setCell ⟨gx, j, none⟩ z).heap.size = w.heap.size := by simp
 refine ⟨h.low.setCell (p := ⟨gx, j, none⟩) (Nat.le_refl _) z, by rw [hsz]; exact h.lt, ?_, own_stays h.oa fun b hb => hst b (by have := (h.oa.lt b hb).1; omega), own_stays h.ob fun b hb => hst b (by have := (h.ob.lt b hb).1; omega),
  h.ka.mono fun _ _ k => k.step (Nat.le_of_eq hsz.symm) (fun b _ hb2 _ => hst b (by omega)) (fun g hg => .inl hg), h.kb.mono fun _ _ k => k.step (Nat.le_of_eq hsz.symm) (fun b _ hb2 _ => hst b (by omega)) (fun g hg => .inl hg), h.sa, h.sb,
  fun b hm => ⟨(h.bx b hm).1, (hst b.1 (by have := (h.bx b hm).1; omega)).trans (h.bx b hm).2.1, (h.bx b hm).2.2⟩⟩
 have := ent_set h.et j z
 rw [he] at this
 exact this
theorem cellsOf_snoc (vs : List Value) (u : Value) : cellsOf (vs ++ [u]) = cellsOf vs ++ u.cells.toList := by simp [cellsOf]
/-- append to the first list, in a list of operations. -/
theorem G2.listA (h : G2 E1 s1 r1 E2 s2 r2 W0 gx TX cs a b an bn va vb ya yb xa xb L w) (hE : E1 ≠ E2) (TL : TypeId) (ht : Try.prog.underlying TL = some (.slice E1)) {z : Value} {bytes : Nat}
 (hinfo : (Try.prog.info? E1).map (fun i => (i.zero, i.size, i.bytes)) = some (some z, s1, bytes)) (hzs : z.cells.size = s1) (hs : 0 < s1) (hby : bytes ≤ 1000) {ds : Array Value} {T : TypeId} {gb : Nat} (hb : (gb, .cells ds T (0, 0)) ∈ L) (hd : ds.size = s1)
 (hone : ∀ u ∈ ds.toList, u.oneCell' = true) (hn : an ≤ 1000)
 {ops : Array Oper} {rest : List Oper} {o : Oper} {ac : Act} {Q : Exit → Act → World → Prop} (hgd : o.guard = none) (l r : Operand)
 (ho : o.op = .call { callee := .builtin .append, args := #[l, r], argTypes := #[TL, TL] }) (hl : ac.eval l = a) (hr : ac.eval r = .slice (some ⟨gb, 0, none⟩) 1 1)
 (hK : ∀ v' w', G2 E1 s1 r1 E2 s2 r2 W0 gx TX cs v' b (an + 1) bn (va ++ [.agg ds]) vb ya yb xa xb L w' → wpList Try.prog ops Q rest (ac.put o.dst v') w') : wpList Try.prog ops Q (o :: rest) ac w := by
 obtain ⟨i0, h0, h1, h2, h3⟩ := info_parts hinfo
 refine wpList_append_loc w hgd l r TL ho (gx + 1) E1 i0 z s1 bytes ht h0 h1 h2 h3 hzs hs a an (cellsOf va) hl h.oa ⟨gb, 0, none⟩ 1 1 ds.toList hr (by decide) (by simpa using hd) ?_ hone (by unfold maxLen; omega) ?_ (by have := h.lt; omega) ?_
 · intro j u hu
   have e : (⟨gb, 0, none⟩ : Addr).add j = ⟨gb, j, none⟩ := by unfold Addr.add; split <;> simp_all
   rw [e]
   exact jA (h.bx _ hb).2.1 j u (by simpa using hu)
 · have : (an + 1) * bytes ≤ 1001 * 1000 := Nat.mul_le_mul (by omega) hby
   omega
 · intro v' w' hown hgr hloc
   rw [show ds.toList = (Value.agg ds).cells.toList from rfl, ← cellsOf_snoc] at hown
   exact hK v' w' (h.growA hE hown hgr hloc)
/-- What the two lists hold, in a later world. -/
theorem G2.rows (h : G2 E1 s1 r1 E2 s2 r2 W0 gx TX cs a b an bn va vb va vb xa xb L w) (ha : an = xa.length) (hb : bn = xb.length) {u : World} (hu : ∀ b, gx < b → b < w.heap.size → u.heap[b]? = w.heap[b]?) : RowAt s1 (r1 u) u a xa ∧ RowAt s2 (r2 u) u b xb :=
 ⟨rowS h.oa ha h.ka h.sa (fun b h1 h2 => hu b (by omega) h2), rowS h.ob hb h.kb h.sb (fun b h1 h2 => hu b (by omega) h2)⟩
end
theorem g2_nil {α β : Type} {E1 s1 : Nat} {r1 : World → Value → α → Prop} {E2 s2 : Nat} {r2 : World → Value → β → Prop} {w : World} {gx : Nat} {TX : TypeId} {cs : Array Value} (h : w.heap[gx]? = some (.cells cs TX (0, 0))) :
 G2 E1 s1 r1 E2 s2 r2 w gx TX cs (.slice none 0 0) (.slice none 0 0) 0 0 [] [] [] [] ([] : List α) ([] : List β) [] w :=
 ⟨Below.refl _ _, jK h, h, World.ownsRow_nil _ _ _ _, World.ownsRow_nil _ _ _ _, trivial, trivial, (fun _ h => by cases h), (fun _ h => by cases h), (fun _ h => by cases h)⟩
theorem new_alt {f : Nat} {w1 w2 w3 w4 : World} {a0 a1 a2 a3 a4 b0 b1 b2 b3 b4 b5 b6 : Value} {p : Px.Pat} {x : Px.Expr} (hp : New (PatAt f) w1 w2 (.agg #[a0, a1, a2, a3, a4]) p) (hb : Below w2.heap.size w2 w3) (he : New (ExprAt f) w3 w4 (.agg #[b0, b1, b2, b3, b4, b5, b6]) x) (hb2 : Below w3.heap.size w3 w4) (hs : w1.heap.size ≤ w2.heap.size) :
 New (fun u => AltOf (PatAt f u) (ExprAt f u)) w1 w4 (.agg #[a0, a1, a2, a3, a4, b0, b1, b2, b3, b4, b5, b6]) (p, x) := by
 intro u hu
 refine ⟨a0, a1, a2, a3, a4, b0, b1, b2, b3, b4, b5, b6, rfl, hp u fun b h1 h2 => ?_, he u fun b h1 h2 => ?_⟩
 · have := hb.size; have := hb2.size
   rw [hu b h1 (by omega), hb2.block b (by omega), hb.block b h2]
 · have := hb.size
   exact hu b (by omega) h2
end Go.Proofs.Ytgoacbomphlhjaa

namespace Go.Proofs.Ytgoacbomphlhjaa
open Go.Lib (hid)
open List renaming getElem_toArray → jX, getElem_cons_succ → jY, getElem_cons_zero → jZ, setIfInBounds_toArray → JA, set_cons_zero → JB, set_cons_succ → JC
open Go Go.RowKit
theorem infoAlt : (Try.prog.info? 96).map (fun i => (i.zero, i.size, i.bytes)) = some (some (.agg #[.int .i64 0, .int .i64 0, .string ⟨#[]⟩, .int .i64 0, .slice none 0 0, .int .i64 0, .int .i64 0, .string ⟨#[]⟩, .int .i64 0, .slice none 0 0, .slice none 0 0, .slice none 0 0]), 12, 176) := by kernel_rfl
theorem row_one {α : Type} {sz : Nat} {rep : Value → α → Prop} {u : World} {ga : Nat} {cs : Array Value} {T : TypeId} {fr : Nat × Nat} {x : α} (h : u.heap[ga]? = some (.cells cs T fr)) (hr : rep (.agg cs) x) (hs : cs.size = sz) : RowAt sz rep u (.slice (some ⟨ga, 0, none⟩) 1 1) [x] := by
 refine .inr ⟨ga, 0, 1, rfl, Nat.le_refl _, by decide, fun i y hi => ?_⟩
 cases i with
 | zero =>
   simp at hi
   subst hi
   refine ⟨_, hr, hs, fun j z hz => ?_⟩
   rw [show 0 + 0 * sz + j = j from by omega]
   exact jA h j z hz
 | succ i => simp at hi
set_option maxHeartbeats 16000000 in
set_option maxRecDepth 100000 in
theorem cases_any (f k : Nat) (hkf : k ≤ f) (n : Px.Node) (v : Value) (w : World) (hn : NdAt (k + 1) w v n) (hg : Px.NodeGood n) (hl : Px.jS n = true) (ih : ∀ j m v w1, j ≤ k → NdAt j w1 v m → Px.NodeGood m → Calls Try.prog 28 #[v] w1 (RTold w1 (ExprAt f) ShExpr (Px.expr f m))) : Calls Try.prog 57 #[v] w (RTold w (ExprAt (f + 1)) ShExpr (Px.caseExpr f (Px.expr f) n)) := by
 have HN0 := hid hn
 have HIH := hid ih
 have HKF := hid hkf
 obtain ⟨lv, rfl, hr⟩ := hn
 obtain ⟨q, c, rfl⟩ := hr.len
 have HR := hid hr
 have HG := hid hg
 have hp0 : Px.caseExpr f (Px.expr f) n = (match Px.nodes n 3 18 with
  | .error p => .error p
  | .ok l =>
    match Px.expr f (l.getD 1 n) with
    | .error p => .error p
    | .ok x =>
      match Px.each (Px.alt f (Px.expr f)) (l.drop 2) with
      | .error p => .error p
      | .ok az => .ok (.mk 5 n.pos [] 0 [] [x] az)) := rfl
 have HP := hid hp0
 have HS2 := hid (fun w1 (hb : Below w.heap.size w w1) => size_any (k + 1) n _ 3 18 w1 (HN0.out.below hb) (by omega) (by omega))
 clear hr hg hp0 ih hkf
 unfold nV at *
 rw [hl] at *
 clear hl
 go_enter Try.func57, Try.ntmps57
 obtain ⟨en, er, et, hb, hsz⟩ := ent3 w #[.int .i64 n.tok.kind, .int .i64 n.tok.pos, .string ⟨n.tok.text.toArray⟩, .int .i64 n.tok.int, .bool true, (.slice q n.list.length c)] #[.int .i64 0, .int .i64 0, .string ⟨#[]⟩, .int .i64 0, .slice none 0 0, .slice none 0 0, .slice none 0 0] #[.int .i64 5, .int .i64 n.tok.pos, .string ⟨#[]⟩, .int .i64 0, .slice none 0 0, .slice none 0 0, .slice none 0 0] 73 53 53
 have EN := hid en; have ER := hid er; have ET := hid et; have HB := hid hb
 replace hsz := Nat.le_of_eq hsz.symm
 clear en er et hb
 go_wp2_with fail
 refine (HS2.out _ HB.out).mono ?_
 rintro e w1 ⟨rfl, hb⟩
 replace hsz := Nat.le_trans hsz hb.size
 replace EN := hid (jC EN.out hb)
 replace ER := hid (jC ER.out hb)
 replace ET := hid (jC ET.out hb)
 replace HB := hid (HB.out.trans (hb.mono HB.out.size))
 clear hb
 unfold sizeP
 cases hnd : Px.nodes n 3 18 with
 | error p =>
   dsimp only
   have hge : (p : Int) ≥ 0 := by omega
   have HND := hid hnd; clear hnd
   have erc0 := jA ER.out 0 _ rfl
   have erc1 := jA ER.out 1 _ rfl
   have erc2 := jA ER.out 2 _ rfl
   have erc3 := jA ER.out 3 _ rfl
   have erc4 := jA ER.out 4 _ rfl
   have erc5 := jA ER.out 5 _ rfl
   have erc6 := jA ER.out 6 _ rfl
   have erf := jD ER.out
   have etc0 := jA ET.out 0 _ rfl
   have etc1 := jA ET.out 1 _ rfl
   have etc2 := jA ET.out 2 _ rfl
   have etc3 := jA ET.out 3 _ rfl
   have etc4 := jA ET.out 4 _ rfl
   have etc5 := jA ET.out 5 _ rfl
   have etc6 := jA ET.out 6 _ rfl
   have etf := jD ET.out
   go_wp2_with fail
   replace EN := hid (jB (jB (jB (jB (jB (jB (jB (EN.out) (w.heap.size + 1) 0 (.int .i64 5) (by omega)) (w.heap.size + 1) 1 (.int .i64 n.tok.pos) (by omega)) (w.heap.size + 1) 2 (.string ⟨#[]⟩) (by omega)) (w.heap.size + 1) 3 (.int .i64 0) (by omega)) (w.heap.size + 1) 4 (.slice none 0 0) (by omega)) (w.heap.size + 1) 5 (.slice none 0 0) (by omega)) (w.heap.size + 1) 6 (.slice none 0 0) (by omega))
   replace ER := hid (jU (ER.out) (.int .i64 5) (.int .i64 n.tok.pos) (.string ⟨#[]⟩) (.int .i64 0) (.slice none 0 0) (.slice none 0 0) (.slice none 0 0))
   replace ET := hid (jB (jB (jB (jB (jB (jB (jB (ET.out) (w.heap.size + 1) 0 (.int .i64 5) (by omega)) (w.heap.size + 1) 1 (.int .i64 n.tok.pos) (by omega)) (w.heap.size + 1) 2 (.string ⟨#[]⟩) (by omega)) (w.heap.size + 1) 3 (.int .i64 0) (by omega)) (w.heap.size + 1) 4 (.slice none 0 0) (by omega)) (w.heap.size + 1) 5 (.slice none 0 0) (by omega)) (w.heap.size + 1) 6 (.slice none 0 0) (by omega))
   replace HB := hid (Below.setCell (Below.setCell (Below.setCell (Below.setCell (Below.setCell (Below.setCell (Below.setCell (HB.out) (p := ⟨w.heap.size + 1, 0, none⟩) (by dsimp only; omega) (.int .i64 5)) (p := ⟨w.heap.size + 1, 1, none⟩) (by dsimp only; omega) (.int .i64 n.tok.pos)) (p := ⟨w.heap.size + 1, 2, none⟩) (by dsimp only; omega) (.string ⟨#[]⟩)) (p := ⟨w.heap.size + 1, 3, none⟩) (by dsimp only; omega) (.int .i64 0)) (p := ⟨w.heap.size + 1, 4, none⟩) (by dsimp only; omega) (.slice none 0 0)) (p := ⟨w.heap.size + 1, 5, none⟩) (by dsimp only; omega) (.slice none 0 0)) (p := ⟨w.heap.size + 1, 6, none⟩) (by dsimp only; omega) (.slice none 0 0))
   have r0 := jA ER.out 0 _ rfl
   have r1 := jA ER.out 1 _ rfl
   have r2 := jA ER.out 2 _ rfl
   have r3 := jA ER.out 3 _ rfl
   have r4 := jA ER.out 4 _ rfl
   have r5 := jA ER.out 5 _ rfl
   have r6 := jA ER.out 6 _ rfl
   refine bodyPost_ret (v := .tuple #[.agg #[.int .i64 5, .int .i64 n.tok.pos, .string ⟨#[]⟩, .int .i64 0, .slice none 0 0, .slice none 0 0, .slice none 0 0], .int .i64 p]) (by simp [results, Try.results57, go_sem, r0, r1, r2, r3, r4, r5, r6]) rfl ?_
   exact jL (by rw [HP.out, HND.out]) HB.out ⟨_, _, _, _, _, _, _, _, _, _, _, _, _, rfl⟩
 | ok l =>
   dsimp only
   have hni := jW hnd
   have hll := hni.1
   have hlen2 := hni.2.1
   have hlen9 := hni.2.2.1
   clear hni
   subst hll
   replace HP := HP.out
   rw [hnd] at HP
   dsimp only at HP
   rcases HR.out with ⟨h0, _⟩ | ⟨g, of, c', hv, g1, g2, g3⟩
   · rw [h0] at hlen2; simp at hlen2
   injection hv with hq1 _ hq2
   subst hq1; subst hq2
   obtain ⟨m1, hm⟩ : ∃ m, n.list[1]? = some m := ⟨_, List.getElem?_eq_getElem (by omega)⟩
   have hgtm1 : n.list.getD (1) n = m1 := by rw [List.getD_eq_getElem?_getD, hm]; rfl
   have HGm1 := hid (HG.out.kid (List.mem_of_getElem? hm))
   obtain ⟨u, hu, _, hcell⟩ := g3 (1) m1 hm
   obtain ⟨km1, kvm1, hkm1, hue, hkr, q0, q1, q2, q3, q4, q5⟩ := jR hu hcell
   subst hue
   have HMm1 := hid hm; have HVm1 := hid hu; have HKm1 := hid hkr
   try simp only [Nat.reduceMul, Nat.add_zero, Nat.zero_add] at q0 q1 q2 q3 q4 q5
   have m1q0 := hid q0; have m1q1 := hid q1; have m1q2 := hid q2; have m1q3 := hid q3; have m1q4 := hid q4; have m1q5 := hid q5
   clear hu hcell hkr q0 q1 q2 q3 q4 q5 hm
   rw [hgtm1] at HP
   have HPP := hid HP
   have HROW := hid g3
   have HLEN := hid (And.intro hlen2 hlen9)
   have HKK := hid hkm1
   have hz1 : (1 : Int) < (n.list.length : Int) := by omega
   have hz3 : (n.list.length : Int) ≤ (c : Int) := by omega
   clear HP hgtm1 hnd g1 g2 g3 hlen2 hlen9 hkm1
   have n0 := jE HB.out m1q0.out
   have n1 := jE HB.out m1q1.out
   have n2 := jE HB.out m1q2.out
   have n3 := jE HB.out m1q3.out
   have n4 := jE HB.out m1q4.out
   have n5 := jE HB.out m1q5.out
   have enc0 := jA EN.out 0 _ rfl
   have enc1 := jA EN.out 1 _ rfl
   have enc2 := jA EN.out 2 _ rfl
   have enc3 := jA EN.out 3 _ rfl
   have enc4 := jA EN.out 4 _ rfl
   have enc5 := jA EN.out 5 _ rfl
   have enf := jD EN.out
   go_wp2_with fail
   clear enc0 enc1 enc2 enc3 enc4 enc5 enf
   clear n0 n1 n2 n3 n4 n5
   refine (HIH.out _ m1 _ _ (Nat.le_refl _) (HVm1.out.below HB.out) HGm1.out).mono ?_
   intro e w2 ht
   cases hx1 : Px.expr f m1 with
   | error p =>
     obtain ⟨z, rfl, ⟨yk, yp, yz, yi, yq1, yn1, yc1, yq2, yn2, yc2, yq3, yn3, yc3, rfl⟩, hb⟩ := jN ht hx1
     have hge : (p : Int) ≥ 0 := by omega
     have HX1 := hid hx1
     replace hsz := Nat.le_trans hsz hb.size
     replace EN := hid (jC EN.out hb)
     replace ER := hid (jC ER.out hb)
     replace ET := hid (jC ET.out hb)
     replace HB := hid (HB.out.trans (hb.mono HB.out.size))
     clear hb
     clear ht hx1
     replace EN := hid (jH EN.out (.cells #[.int .i64 yk, .int .i64 yp, .string yz, .int .i64 yi, .slice yq1 yn1 yc1, .slice yq2 yn2 yc2, .slice yq3 yn3 yc3] 53))
     replace ER := hid (jH ER.out (.cells #[.int .i64 yk, .int .i64 yp, .string yz, .int .i64 yi, .slice yq1 yn1 yc1, .slice yq2 yn2 yc2, .slice yq3 yn3 yc3] 53))
     replace ET := hid (jH ET.out (.cells #[.int .i64 yk, .int .i64 yp, .string yz, .int .i64 yi, .slice yq1 yn1 yc1, .slice yq2 yn2 yc2, .slice yq3 yn3 yc3] 53))
     replace HB := hid (HB.out.alloc HB.out.size (.cells #[.int .i64 yk, .int .i64 yp, .string yz, .int .i64 yi, .slice yq1 yn1 yc1, .slice yq2 yn2 yc2, .slice yq3 yn3 yc3] 53))
     have erc0 := jA ER.out 0 _ rfl
     have erc1 := jA ER.out 1 _ rfl
     have erc2 := jA ER.out 2 _ rfl
     have erc3 := jA ER.out 3 _ rfl
     have erc4 := jA ER.out 4 _ rfl
     have erc5 := jA ER.out 5 _ rfl
     have erc6 := jA ER.out 6 _ rfl
     have erf := jD ER.out
     have etc0 := jA ET.out 0 _ rfl
     have etc1 := jA ET.out 1 _ rfl
     have etc2 := jA ET.out 2 _ rfl
     have etc3 := jA ET.out 3 _ rfl
     have etc4 := jA ET.out 4 _ rfl
     have etc5 := jA ET.out 5 _ rfl
     have etc6 := jA ET.out 6 _ rfl
     have etf := jD ET.out
     go_wp2_with fail
     replace EN := hid (jB (jB (jB (jB (jB (jB (jB (EN.out) (w.heap.size + 1) 0 (.int .i64 5) (by omega)) (w.heap.size + 1) 1 (.int .i64 n.tok.pos) (by omega)) (w.heap.size + 1) 2 (.string ⟨#[]⟩) (by omega)) (w.heap.size + 1) 3 (.int .i64 0) (by omega)) (w.heap.size + 1) 4 (.slice none 0 0) (by omega)) (w.heap.size + 1) 5 (.slice none 0 0) (by omega)) (w.heap.size + 1) 6 (.slice none 0 0) (by omega))
     replace ER := hid (jU (ER.out) (.int .i64 5) (.int .i64 n.tok.pos) (.string ⟨#[]⟩) (.int .i64 0) (.slice none 0 0) (.slice none 0 0) (.slice none 0 0))
     replace ET := hid (jB (jB (jB (jB (jB (jB (jB (ET.out) (w.heap.size + 1) 0 (.int .i64 5) (by omega)) (w.heap.size + 1) 1 (.int .i64 n.tok.pos) (by omega)) (w.heap.size + 1) 2 (.string ⟨#[]⟩) (by omega)) (w.heap.size + 1) 3 (.int .i64 0) (by omega)) (w.heap.size + 1) 4 (.slice none 0 0) (by omega)) (w.heap.size + 1) 5 (.slice none 0 0) (by omega)) (w.heap.size + 1) 6 (.slice none 0 0) (by omega))
     replace HB := hid (Below.setCell (Below.setCell (Below.setCell (Below.setCell (Below.setCell (Below.setCell (Below.setCell (HB.out) (p := ⟨w.heap.size + 1, 0, none⟩) (by dsimp only; omega) (.int .i64 5)) (p := ⟨w.heap.size + 1, 1, none⟩) (by dsimp only; omega) (.int .i64 n.tok.pos)) (p := ⟨w.heap.size + 1, 2, none⟩) (by dsimp only; omega) (.string ⟨#[]⟩)) (p := ⟨w.heap.size + 1, 3, none⟩) (by dsimp only; omega) (.int .i64 0)) (p := ⟨w.heap.size + 1, 4, none⟩) (by dsimp only; omega) (.slice none 0 0)) (p := ⟨w.heap.size + 1, 5, none⟩) (by dsimp only; omega) (.slice none 0 0)) (p := ⟨w.heap.size + 1, 6, none⟩) (by dsimp only; omega) (.slice none 0 0))
     have r0 := jA ER.out 0 _ rfl
     have r1 := jA ER.out 1 _ rfl
     have r2 := jA ER.out 2 _ rfl
     have r3 := jA ER.out 3 _ rfl
     have r4 := jA ER.out 4 _ rfl
     have r5 := jA ER.out 5 _ rfl
     have r6 := jA ER.out 6 _ rfl
     refine bodyPost_ret (v := .tuple #[.agg #[.int .i64 5, .int .i64 n.tok.pos, .string ⟨#[]⟩, .int .i64 0, .slice none 0 0, .slice none 0 0, .slice none 0 0], .int .i64 p]) (by simp [results, Try.results57, go_sem, r0, r1, r2, r3, r4, r5, r6]) rfl ?_
     exact jL (by rw [HPP.out, HX1.out]) HB.out ⟨_, _, _, _, _, _, _, _, _, _, _, _, _, rfl⟩
   | ok x =>
     obtain ⟨z, rfl, ⟨yk, yp, yz, yi, yq1, yn1, yc1, yq2, yn2, yc2, yq3, yn3, yc3, rfl⟩, hnew, hb⟩ := rtold_ok ht hx1
     have HX1 := hid hx1; have HNEW := hid hnew; have HBY := hid hb; have HSY := hid hsz
     replace hsz := Nat.le_trans hsz hb.size
     replace EN := hid (jC EN.out hb)
     replace ER := hid (jC ER.out hb)
     replace ET := hid (jC ET.out hb)
     replace HB := hid (HB.out.trans (hb.mono HB.out.size))
     clear hb
     clear ht hx1 hnew
     replace EN := hid (jH EN.out (.cells #[.int .i64 yk, .int .i64 yp, .string yz, .int .i64 yi, .slice yq1 yn1 yc1, .slice yq2 yn2 yc2, .slice yq3 yn3 yc3] 53))
     replace ER := hid (jH ER.out (.cells #[.int .i64 yk, .int .i64 yp, .string yz, .int .i64 yi, .slice yq1 yn1 yc1, .slice yq2 yn2 yc2, .slice yq3 yn3 yc3] 53))
     replace ET := hid (jH ET.out (.cells #[.int .i64 yk, .int .i64 yp, .string yz, .int .i64 yi, .slice yq1 yn1 yc1, .slice yq2 yn2 yc2, .slice yq3 yn3 yc3] 53))
     replace HB := hid (HB.out.alloc HB.out.size (.cells #[.int .i64 yk, .int .i64 yp, .string yz, .int .i64 yi, .slice yq1 yn1 yc1, .slice yq2 yn2 yc2, .slice yq3 yn3 yc3] 53))
     replace hsz : w.heap.size + 3 ≤ (w2.alloc (.cells #[.int .i64 yk, .int .i64 yp, .string yz, .int .i64 yi, .slice yq1 yn1 yc1, .slice yq2 yn2 yc2, .slice yq3 yn3 yc3] 53)).heap.size := by simp; omega
     have HBZ := hid (show Below w2.heap.size w2 (w2.alloc (.cells #[.int .i64 yk, .int .i64 yp, .string yz, .int .i64 yi, .slice yq1 yn1 yc1, .slice yq2 yn2 yc2, .slice yq3 yn3 yc3] 53)) from (Below.refl _ _).alloc (Nat.le_refl _) _)
     go_upto_region 8 with fail
     have EY := hid (jI w2 #[.int .i64 yk, .int .i64 yp, .string yz, .int .i64 yi, .slice yq1 yn1 yc1, .slice yq2 yn2 yc2, .slice yq3 yn3 yc3] 53)
     obtain ⟨gy, hgy⟩ : ∃ gy, gy = w2.heap.size := ⟨_, rfl⟩
     rw [← hgy] at EY
     rw [← hgy]
     generalize w2.alloc (.cells #[.int .i64 yk, .int .i64 yp, .string yz, .int .i64 yi, .slice yq1 yn1 yc1, .slice yq2 yn2 yc2, .slice yq3 yn3 yc3] 53) = w3 at EN ER ET HB hsz HBZ EY ⊢
     clear hgy
     have etc0 := jA ET.out 0 _ rfl
     have etc1 := jA ET.out 1 _ rfl
     have etc2 := jA ET.out 2 _ rfl
     have etc3 := jA ET.out 3 _ rfl
     have etc4 := jA ET.out 4 _ rfl
     have etc5 := jA ET.out 5 _ rfl
     have etc6 := jA ET.out 6 _ rfl
     have etf := jD ET.out
     have ye0 := jA EY.out 0 _ rfl
     have ye1 := jA EY.out 1 _ rfl
     have ye2 := jA EY.out 2 _ rfl
     have ye3 := jA EY.out 3 _ rfl
     have ye4 := jA EY.out 4 _ rfl
     have ye5 := jA EY.out 5 _ rfl
     have ye6 := jA EY.out 6 _ rfl
     have et2 := jH ET.out (.cells #[.int .i64 yk, .int .i64 yp, .string yz, .int .i64 yi, .slice yq1 yn1 yc1, .slice yq2 yn2 yc2, .slice yq3 yn3 yc3] 53)
     have eu0 := jA et2 0 _ rfl
     have eu1 := jA et2 1 _ rfl
     have eu2 := jA et2 2 _ rfl
     have eu3 := jA et2 3 _ rfl
     have eu4 := jA et2 4 _ rfl
     have eu5 := jA et2 5 _ rfl
     have eu6 := jA et2 6 _ rfl
     have euf := jD et2
     go_upto_region 9 with fail
     clear et2 euf eu0 eu1 eu2 eu3 eu4 eu5 eu6
     clear etc0 etc1 etc2 etc3 etc4 etc5 etc6 etf
     clear EY ye0 ye1 ye2 ye3 ye4 ye5 ye6
     replace EN := hid (jH EN.out (.cells #[.int .i64 yk, .int .i64 yp, .string yz, .int .i64 yi, .slice yq1 yn1 yc1, .slice yq2 yn2 yc2, .slice yq3 yn3 yc3] 53))
     replace ER := hid (jH ER.out (.cells #[.int .i64 yk, .int .i64 yp, .string yz, .int .i64 yi, .slice yq1 yn1 yc1, .slice yq2 yn2 yc2, .slice yq3 yn3 yc3] 53))
     replace ET := hid (jH ET.out (.cells #[.int .i64 yk, .int .i64 yp, .string yz, .int .i64 yi, .slice yq1 yn1 yc1, .slice yq2 yn2 yc2, .slice yq3 yn3 yc3] 53))
     replace HB := hid (HB.out.alloc HB.out.size (.cells #[.int .i64 yk, .int .i64 yp, .string yz, .int .i64 yi, .slice yq1 yn1 yc1, .slice yq2 yn2 yc2, .slice yq3 yn3 yc3] 53))
     have EA := hid (jI w3 #[.int .i64 yk, .int .i64 yp, .string yz, .int .i64 yi, .slice yq1 yn1 yc1, .slice yq2 yn2 yc2, .slice yq3 yn3 yc3] 53)
     replace HBZ := hid (HBZ.out.trans ((show Below w3.heap.size w3 (w3.alloc (.cells #[.int .i64 yk, .int .i64 yp, .string yz, .int .i64 yi, .slice yq1 yn1 yc1, .slice yq2 yn2 yc2, .slice yq3 yn3 yc3] 53)) from (Below.refl _ _).alloc (Nat.le_refl _) _).mono HBZ.out.size))
     obtain ⟨ga, hga⟩ : ∃ ga, ga = w3.heap.size := ⟨_, rfl⟩
     have hgax : w.heap.size + 3 ≤ ga := by omega
     replace hsz : w.heap.size + 3 ≤ (w3.alloc (.cells #[.int .i64 yk, .int .i64 yp, .string yz, .int .i64 yi, .slice yq1 yn1 yc1, .slice yq2 yn2 yc2, .slice yq3 yn3 yc3] 53)).heap.size := by simp; omega
     rw [← hga] at EA
     rw [← hga]
     generalize w3.alloc (.cells #[.int .i64 yk, .int .i64 yp, .string yz, .int .i64 yi, .slice yq1 yn1 yc1, .slice yq2 yn2 yc2, .slice yq3 yn3 yc3] 53) = w4 at EN ER ET HB hsz HBZ EA ⊢
     clear hga
     have hnk := HNEW.out.keptS (base := (w.heap.size + 2) + 1) (S := fun _ => False) (by have := HSY.out; omega) (fun g hg => hg.elim)
     have HNK := hid (hnk.step (S' := fun _ => False) HBZ.out.size (fun b hb1 _ _ => HBZ.out.block b hb1) (fun g hg => hg.elim)); clear hnk HBZ
     replace EA := hid (jB EA.out (w.heap.size + 2) 5 (.slice (some ⟨ga, 0, none⟩) 1 1) (by omega))
     replace EN := hid (jB (EN.out) (w.heap.size + 2) 5 (.slice (some ⟨ga, 0, none⟩) 1 1) (by omega))
     replace ER := hid (jB (ER.out) (w.heap.size + 2) 5 (.slice (some ⟨ga, 0, none⟩) 1 1) (by omega))
     replace ET := hid (jG #[.int .i64 5, .int .i64 n.tok.pos, .string ⟨#[]⟩, .int .i64 0, .slice none 0 0, .slice (some ⟨ga, 0, none⟩) 1 1, .slice none 0 0] (ET.out) 5 (.slice (some ⟨ga, 0, none⟩) 1 1) rfl)
     replace HB := hid (Below.setCell (HB.out) (p := ⟨w.heap.size + 2, 5, none⟩) (by dsimp only; omega) (.slice (some ⟨ga, 0, none⟩) 1 1))
     replace HNK := hid (HNK.out.step (w' := w4.setCell ⟨w.heap.size + 2, 5, none⟩ (.slice (some ⟨ga, 0, none⟩) 1 1)) (S' := fun _ => False) (by simp) (fun b _ hb2 _ => Below.heap_setCell w4 ⟨w.heap.size + 2, 5, none⟩ _ b (by dsimp only; omega)) (fun g hg => hg.elim))
     replace hsz : w.heap.size + 3 ≤ (w4.setCell ⟨w.heap.size + 2, 5, none⟩ (.slice (some ⟨ga, 0, none⟩) 1 1)).heap.size := by simpa using hsz
     generalize w4.setCell ⟨w.heap.size + 2, 5, none⟩ (.slice (some ⟨ga, 0, none⟩) 1 1) = W5 at EN ER ET EA HB HNK hsz ⊢
     have hnil : ∀ E s, W5.ownsRow (w.heap.size + 2 + 1) E s (.slice none 0 0) 0 [] := fun _ _ => World.ownsRow_nil _ _ _ _
     have htwo : G2 96 12 (fun u => AltOf (PatAt f u) (ExprAt f u)) 9 7 (ExprAt f) W5 (w.heap.size + 2) 53 #[.int .i64 5, .int .i64 n.tok.pos, .string ⟨#[]⟩, .int .i64 0, .slice none 0 0, .slice (some ⟨ga, 0, none⟩) 1 1, .slice none 0 0] (.slice none 0 0) (.slice none 0 0) (0) 0 ([]) [] ([]) [.agg #[.int .i64 yk, .int .i64 yp, .string yz, .int .i64 yi, .slice yq1 yn1 yc1, .slice yq2 yn2 yc2, .slice yq3 yn3 yc3]] ([]) [x] [(ga, .cells #[.int .i64 yk, .int .i64 yp, .string yz, .int .i64 yi, .slice yq1 yn1 yc1, .slice yq2 yn2 yc2, .slice yq3 yn3 yc3] 53 (0, 0))] W5 := ⟨Below.refl _ _, by omega, ET.out, hnil _ _, hnil _ _, trivial, ⟨HNK.out.step (Nat.le_refl _) (fun _ _ _ _ => rfl) (fun g hg => by simp [Value.ownBlock] at hg), trivial⟩, (fun _ h => by cases h), (fun u hu => by rw [List.mem_singleton.1 hu]; rfl), (fun b hb => by rw [List.mem_singleton.1 hb]; exact ⟨by dsimp only; omega, EA.out, by simp [Value.ownBlock], by simp [Value.ownBlock]⟩)⟩
     have TWO0 := hid htwo
     have EN0 := EN; have ER0 := ER; have HB0 := HB
     have HPQ : Hid (Px.caseExpr f (Px.expr f) n = (match Px.each (Px.alt f (Px.expr f)) (n.list.drop 2) with | .error p => .error p | .ok az => .ok (.mk 5 n.pos [] 0 [] [x] az))) := hid (by rw [HPP.out, HX1.out])
     clear htwo hnil EN ER ET HB EA HNK HNEW HBY HSY
     go_wp2_with fail
     go_loopw [3, 5, 7, 8, 9, 10, 11, 12] (fun _ _ i _ _ _ _ _ wr => ∃ (j : Nat) (av : Value) (vs : List Value) (az : List (Px.Pat × Px.Expr)), i = .int .i64 (j + 2 : Nat) ∧ j + 2 ≤ n.list.length ∧ Hid (Px.each (Px.alt f (Px.expr f)) ((n.list.drop 2).take j) = .ok az) ∧ Hid (az.length = j) ∧ Hid (G2 96 12 (fun u => AltOf (PatAt f u) (ExprAt f u)) 9 7 (ExprAt f) W5 (w.heap.size + 2) 53 #[.int .i64 5, .int .i64 n.tok.pos, .string ⟨#[]⟩, .int .i64 0, .slice none 0 0, .slice (some ⟨ga, 0, none⟩) 1 1, av] (av) (.slice none 0 0) (j) 0 (vs) [] (vs) [.agg #[.int .i64 yk, .int .i64 yp, .string yz, .int .i64 yi, .slice yq1 yn1 yc1, .slice yq2 yn2 yc2, .slice yq3 yn3 yc3]] (az) [x] [(ga, .cells #[.int .i64 yk, .int .i64 yp, .string yz, .int .i64 yi, .slice yq1 yn1 yc1, .slice yq2 yn2 yc2, .slice yq3 yn3 yc3] 53 (0, 0))] wr)) (fun _ _ i _ _ _ _ _ _ => n.list.length - (intOf i).toNat)
     case atStart => exact ⟨0, _, [], [], rfl, by have := HLEN.out; omega, hid (by simp [Px.each]), hid rfl, TWO0⟩
     case round =>
      clear TWO0
      obtain ⟨j, av, vs, az, rfl, hq, HE, HBL, TWO⟩ := hrel
      have hwr := TWO.out.lt
      have EN := hid (ent_low TWO.out.low EN0.out (by omega))
      have ET := hid TWO.out.et
      have HB := hid (HB0.out.trans (TWO.out.low.mono (by omega)))
      have enc0 := jA EN.out 0 _ rfl
      have enc1 := jA EN.out 1 _ rfl
      have enc2 := jA EN.out 2 _ rfl
      have enc3 := jA EN.out 3 _ rfl
      have enc4 := jA EN.out 4 _ rfl
      have enc5 := jA EN.out 5 _ rfl
      have enf := jD EN.out
      by_cases hlt : j + 2 < n.list.length
      · skip
        have hrow := HROW.out
        obtain ⟨pn, hm⟩ : ∃ m, n.list[j + 2]? = some m := ⟨_, List.getElem?_eq_getElem (by omega)⟩
        have hgtpn : n.list.getD (j + 2) n = pn := by rw [List.getD_eq_getElem?_getD, hm]; rfl
        have HGpn := hid (HG.out.kid (List.mem_of_getElem? hm))
        obtain ⟨u, hu, _, hcell⟩ := hrow (j + 2) pn hm
        obtain ⟨kpn, kvpn, hkpn, hue, hkr, q0, q1, q2, q3, q4, q5⟩ := jR hu hcell
        subst hue
        have HMpn := hid hm; have HVpn := hid hu; have HKpn := hid hkr
        try simp only [Nat.reduceMul, Nat.add_zero, Nat.zero_add] at q0 q1 q2 q3 q4 q5
        have pnq0 := hid q0; have pnq1 := hid q1; have pnq2 := hid q2; have pnq3 := hid q3; have pnq4 := hid q4; have pnq5 := hid q5
        clear hu hcell hkr q0 q1 q2 q3 q4 q5 hm
        have hdp : (n.list.drop 2)[j]? = some pn := by rw [List.getElem?_drop, Nat.add_comm]; exact HMpn.out
        have HDP := hid hdp
        clear hrow hgtpn hdp
        obtain ⟨pvp, cvp, rfl⟩ := HKpn.out.len
        have k0 := jE HB.out pnq0.out
        have k1 := jE HB.out pnq1.out
        have k2 := jE HB.out pnq2.out
        have k3 := jE HB.out pnq3.out
        have k4 := jE HB.out pnq4.out
        have k5 := jE HB.out pnq5.out
        go_wp2_with fail
        clear enc0 enc1 enc2 enc3 enc4 enc5 enf
        clear k0 k1 k2 k3 k4 k5
        replace TWO := hid (TWO.out.alloc #[.int .i64 pn.tok.kind, .int .i64 pn.tok.pos, .string ⟨pn.tok.text.toArray⟩, .int .i64 pn.tok.int, .bool (Px.jS pn), .slice pvp pn.list.length cvp] 73)
        have HB2 := hid (HB0.out.trans (TWO.out.low.mono (by omega)))
        obtain ⟨gb, hgb⟩ : ∃ gb, gb = wr.heap.size := ⟨_, rfl⟩
        rw [← hgb] at TWO
        rw [← hgb]
        generalize wr.alloc (.cells #[.int .i64 pn.tok.kind, .int .i64 pn.tok.pos, .string ⟨pn.tok.text.toArray⟩, .int .i64 pn.tok.int, .bool (Px.jS pn), .slice pvp pn.list.length cvp] 73) = wa at *
        clear hgb EN ET HB
        refine (size_any _ pn _ 2 2 _ (HVpn.out.below HB2.out) (by omega) (by omega)).mono ?_
        rintro e w3 ⟨rfl, hb⟩
        replace TWO := hid (TWO.out.below hb)
        clear hb HB2
        unfold sizeP
        cases hnb : Px.nodes pn 2 2 with
        | error p =>
          dsimp only
          have hge : (p : Int) ≥ 0 := by omega
          have hx : Px.each (Px.alt f (Px.expr f)) (n.list.drop 2) = .error p := (Px.each_take HDP.out HE.out).2 p (by rw [Px.alt, hnb])
          have HX := hid hx; clear hx hnb
          have ER := hid (ent_low TWO.out.low ER0.out (by omega))
          have ET := hid TWO.out.et
          have HB := hid (HB0.out.trans (TWO.out.low.mono (by omega)))
          obtain ⟨pb, cb, rfl⟩ := jF TWO.out.oa
          have erc0 := jA ER.out 0 _ rfl
          have erc1 := jA ER.out 1 _ rfl
          have erc2 := jA ER.out 2 _ rfl
          have erc3 := jA ER.out 3 _ rfl
          have erc4 := jA ER.out 4 _ rfl
          have erc5 := jA ER.out 5 _ rfl
          have erc6 := jA ER.out 6 _ rfl
          have erf := jD ER.out
          have etc0 := jA ET.out 0 _ rfl
          have etc1 := jA ET.out 1 _ rfl
          have etc2 := jA ET.out 2 _ rfl
          have etc3 := jA ET.out 3 _ rfl
          have etc4 := jA ET.out 4 _ rfl
          have etc5 := jA ET.out 5 _ rfl
          have etc6 := jA ET.out 6 _ rfl
          have etf := jD ET.out
          go_wp2_with fail
          replace ER := hid (jU (ER.out) (.int .i64 5) (.int .i64 n.tok.pos) (.string ⟨#[]⟩) (.int .i64 0) (.slice none 0 0) (.slice (some ⟨ga, 0, none⟩) 1 1) (.slice pb j cb))
          replace ET := hid (jB (jB (jB (jB (jB (jB (jB (ET.out) (w.heap.size + 1) 0 (.int .i64 5) (by omega)) (w.heap.size + 1) 1 (.int .i64 n.tok.pos) (by omega)) (w.heap.size + 1) 2 (.string ⟨#[]⟩) (by omega)) (w.heap.size + 1) 3 (.int .i64 0) (by omega)) (w.heap.size + 1) 4 (.slice none 0 0) (by omega)) (w.heap.size + 1) 5 (.slice (some ⟨ga, 0, none⟩) 1 1) (by omega)) (w.heap.size + 1) 6 (.slice pb j cb) (by omega))
          replace HB := hid (Below.setCell (Below.setCell (Below.setCell (Below.setCell (Below.setCell (Below.setCell (Below.setCell (HB.out) (p := ⟨w.heap.size + 1, 0, none⟩) (by dsimp only; omega) (.int .i64 5)) (p := ⟨w.heap.size + 1, 1, none⟩) (by dsimp only; omega) (.int .i64 n.tok.pos)) (p := ⟨w.heap.size + 1, 2, none⟩) (by dsimp only; omega) (.string ⟨#[]⟩)) (p := ⟨w.heap.size + 1, 3, none⟩) (by dsimp only; omega) (.int .i64 0)) (p := ⟨w.heap.size + 1, 4, none⟩) (by dsimp only; omega) (.slice none 0 0)) (p := ⟨w.heap.size + 1, 5, none⟩) (by dsimp only; omega) (.slice (some ⟨ga, 0, none⟩) 1 1)) (p := ⟨w.heap.size + 1, 6, none⟩) (by dsimp only; omega) (.slice pb j cb))
          have r0 := jA ER.out 0 _ rfl
          have r1 := jA ER.out 1 _ rfl
          have r2 := jA ER.out 2 _ rfl
          have r3 := jA ER.out 3 _ rfl
          have r4 := jA ER.out 4 _ rfl
          have r5 := jA ER.out 5 _ rfl
          have r6 := jA ER.out 6 _ rfl
          refine bodyPost_ret (v := .tuple #[.agg #[.int .i64 5, .int .i64 n.tok.pos, .string ⟨#[]⟩, .int .i64 0, .slice none 0 0, .slice (some ⟨ga, 0, none⟩) 1 1, .slice pb j cb], .int .i64 p]) (by simp [results, Try.results57, go_sem, r0, r1, r2, r3, r4, r5, r6]) rfl ?_
          exact jL (by rw [HPQ.out, HX.out]) HB.out ⟨_, _, _, _, _, _, _, _, _, _, _, _, _, rfl⟩
        | ok lb =>
          dsimp only
          have hni := jW hnb
          have hll := hni.1
          have hs1 := hni.2.1
          have hs8 := hni.2.2.1
          clear hni
          subst hll
          have hlp : pn.list.length = 2 := by omega
          rcases HKpn.out with ⟨h0, _⟩ | ⟨g2, o2, c2, hkv, d1, d2, d3⟩
          · rw [h0] at hs1; simp at hs1
          injection hkv with hkv1 _ hkv2
          subst hkv1; subst hkv2
          obtain ⟨b0, hm⟩ : ∃ m, pn.list[0]? = some m := ⟨_, List.getElem?_eq_getElem (by omega)⟩
          have hgtb0 : pn.list.getD (0) n = b0 := by rw [List.getD_eq_getElem?_getD, hm]; rfl
          have HGb0 := hid (HGpn.out.kid (List.mem_of_getElem? hm))
          obtain ⟨u, hu, _, hcell⟩ := d3 (0) b0 hm
          obtain ⟨kb0, kvb0, hkb0, hue, hkr, q0, q1, q2, q3, q4, q5⟩ := jR hu hcell
          subst hue
          have HMb0 := hid hm; have HVb0 := hid hu; have HKb0 := hid hkr
          try simp only [Nat.reduceMul, Nat.add_zero, Nat.zero_add] at q0 q1 q2 q3 q4 q5
          have b0q0 := hid q0; have b0q1 := hid q1; have b0q2 := hid q2; have b0q3 := hid q3; have b0q4 := hid q4; have b0q5 := hid q5
          clear hu hcell hkr q0 q1 q2 q3 q4 q5 hm
          obtain ⟨b1, hm⟩ : ∃ m, pn.list[1]? = some m := ⟨_, List.getElem?_eq_getElem (by omega)⟩
          have hgtb1 : pn.list.getD (1) n = b1 := by rw [List.getD_eq_getElem?_getD, hm]; rfl
          have HGb1 := hid (HGpn.out.kid (List.mem_of_getElem? hm))
          obtain ⟨u, hu, _, hcell⟩ := d3 (1) b1 hm
          obtain ⟨kb1, kvb1, hkb1, hue, hkr, q0, q1, q2, q3, q4, q5⟩ := jR hu hcell
          subst hue
          have HMb1 := hid hm; have HVb1 := hid hu; have HKb1 := hid hkr
          try simp only [Nat.reduceMul, Nat.add_zero, Nat.zero_add] at q0 q1 q2 q3 q4 q5
          have b1q0 := hid q0; have b1q1 := hid q1; have b1q2 := hid q2; have b1q3 := hid q3; have b1q4 := hid q4; have b1q5 := hid q5
          clear hu hcell hkr q0 q1 q2 q3 q4 q5 hm
          have hh0 : pn.list.headD pn = b0 := by
           rw [← hgtb0]
           cases hh : pn.list with
           | nil => rw [hh] at hs1; simp at hs1
           | cons a r => rfl
          have hh1 : pn.list.getD 1 pn = b1 := by
           rw [← hgtb1, List.getD_eq_getElem?_getD, List.getD_eq_getElem?_getD, List.getElem?_eq_getElem (by omega)]; rfl
          have HPR : Hid (Px.alt f (Px.expr f) pn = (match Px.pat f b0 with | .error p => .error p | .ok s => match Px.expr f b1 with | .error p => .error p | .ok x => .ok (s, x))) := hid (by rw [Px.alt, hnb]; dsimp only; rw [hh0, hh1]; rfl)
          have HKB : Hid (kpn ≤ k) := hid (by omega)
          have hp1 : (1 : Int) < (pn.list.length : Int) := by omega
          have hp2 : (0 : Int) < (pn.list.length : Int) := by omega
          have hp3 : (pn.list.length : Int) ≤ (cvp : Int) := by omega
          clear hh0 hh1 hgtb0 hgtb1 hnb d1 d2 d3 hs1 hs8 hlp hkb0 hkb1 hkpn
          have EB := hid (TWO.out.bx _ (List.Mem.head _)).2.1
          have bc0 := jA EB.out 0 _ rfl
          have bc1 := jA EB.out 1 _ rfl
          have bc2 := jA EB.out 2 _ rfl
          have bc3 := jA EB.out 3 _ rfl
          have bc4 := jA EB.out 4 _ rfl
          have bc5 := jA EB.out 5 _ rfl
          have bf := jD EB.out
          have ET := hid TWO.out.et
          have HB := hid (HB0.out.trans (TWO.out.low.mono (by omega)))
          have n0 := jE HB.out b0q0.out
          have n1 := jE HB.out b0q1.out
          have n2 := jE HB.out b0q2.out
          have n3 := jE HB.out b0q3.out
          have n4 := jE HB.out b0q4.out
          have n5 := jE HB.out b0q5.out
          go_wp2_with fail
          clear n0 n1 n2 n3 n4 n5
          clear EB bc0 bc1 bc2 bc3 bc4 bc5 bf
          refine (pat_any _ f b0 _ _ (by have := HKB.out; have := HKF.out; omega) (HVb0.out.below HB.out) HGb0.out).mono ?_
          intro e w4 ht
          clear ET HB
          cases hnm : Px.pat f b0 with
          | error p =>
            obtain ⟨z, rfl, ⟨tk, tp, tz, ti, tq, tn, tc, rfl⟩, hb⟩ := jN ht hnm
            have hge : (p : Int) ≥ 0 := by omega
            replace TWO := hid ((TWO.out.below hb).alloc #[.int .i64 tk, .int .i64 tp, .string tz, .int .i64 ti, .slice tq tn tc] 94)
            have hx : Px.each (Px.alt f (Px.expr f)) (n.list.drop 2) = .error p := (Px.each_take HDP.out HE.out).2 p (by rw [HPR.out, hnm])
            have HX := hid hx; clear hx hnm hb ht
            have ER := hid (ent_low TWO.out.low ER0.out (by omega))
            have ET := hid TWO.out.et
            have HB := hid (HB0.out.trans (TWO.out.low.mono (by omega)))
            obtain ⟨pb, cb, rfl⟩ := jF TWO.out.oa
            have erc0 := jA ER.out 0 _ rfl
            have erc1 := jA ER.out 1 _ rfl
            have erc2 := jA ER.out 2 _ rfl
            have erc3 := jA ER.out 3 _ rfl
            have erc4 := jA ER.out 4 _ rfl
            have erc5 := jA ER.out 5 _ rfl
            have erc6 := jA ER.out 6 _ rfl
            have erf := jD ER.out
            have etc0 := jA ET.out 0 _ rfl
            have etc1 := jA ET.out 1 _ rfl
            have etc2 := jA ET.out 2 _ rfl
            have etc3 := jA ET.out 3 _ rfl
            have etc4 := jA ET.out 4 _ rfl
            have etc5 := jA ET.out 5 _ rfl
            have etc6 := jA ET.out 6 _ rfl
            have etf := jD ET.out
            go_wp2_with fail
            replace ER := hid (jU (ER.out) (.int .i64 5) (.int .i64 n.tok.pos) (.string ⟨#[]⟩) (.int .i64 0) (.slice none 0 0) (.slice (some ⟨ga, 0, none⟩) 1 1) (.slice pb j cb))
            replace ET := hid (jB (jB (jB (jB (jB (jB (jB (ET.out) (w.heap.size + 1) 0 (.int .i64 5) (by omega)) (w.heap.size + 1) 1 (.int .i64 n.tok.pos) (by omega)) (w.heap.size + 1) 2 (.string ⟨#[]⟩) (by omega)) (w.heap.size + 1) 3 (.int .i64 0) (by omega)) (w.heap.size + 1) 4 (.slice none 0 0) (by omega)) (w.heap.size + 1) 5 (.slice (some ⟨ga, 0, none⟩) 1 1) (by omega)) (w.heap.size + 1) 6 (.slice pb j cb) (by omega))
            replace HB := hid (Below.setCell (Below.setCell (Below.setCell (Below.setCell (Below.setCell (Below.setCell (Below.setCell (HB.out) (p := ⟨w.heap.size + 1, 0, none⟩) (by dsimp only; omega) (.int .i64 5)) (p := ⟨w.heap.size + 1, 1, none⟩) (by dsimp only; omega) (.int .i64 n.tok.pos)) (p := ⟨w.heap.size + 1, 2, none⟩) (by dsimp only; omega) (.string ⟨#[]⟩)) (p := ⟨w.heap.size + 1, 3, none⟩) (by dsimp only; omega) (.int .i64 0)) (p := ⟨w.heap.size + 1, 4, none⟩) (by dsimp only; omega) (.slice none 0 0)) (p := ⟨w.heap.size + 1, 5, none⟩) (by dsimp only; omega) (.slice (some ⟨ga, 0, none⟩) 1 1)) (p := ⟨w.heap.size + 1, 6, none⟩) (by dsimp only; omega) (.slice pb j cb))
            have r0 := jA ER.out 0 _ rfl
            have r1 := jA ER.out 1 _ rfl
            have r2 := jA ER.out 2 _ rfl
            have r3 := jA ER.out 3 _ rfl
            have r4 := jA ER.out 4 _ rfl
            have r5 := jA ER.out 5 _ rfl
            have r6 := jA ER.out 6 _ rfl
            refine bodyPost_ret (v := .tuple #[.agg #[.int .i64 5, .int .i64 n.tok.pos, .string ⟨#[]⟩, .int .i64 0, .slice none 0 0, .slice (some ⟨ga, 0, none⟩) 1 1, .slice pb j cb], .int .i64 p]) (by simp [results, Try.results57, go_sem, r0, r1, r2, r3, r4, r5, r6]) rfl ?_
            exact jL (by rw [HPQ.out, HX.out]) HB.out ⟨_, _, _, _, _, _, _, _, _, _, _, _, _, rfl⟩
          | ok s =>
            obtain ⟨z, rfl, ⟨tk, tp, tz, ti, tq, tn, tc, rfl⟩, hnew, hb⟩ := rtold_ok ht hnm
            have TW3 := TWO; have HNP := hid hnew; have HB34 := hid hb
            replace TWO := hid ((TWO.out.below hb).alloc #[.int .i64 tk, .int .i64 tp, .string tz, .int .i64 ti, .slice tq tn tc] 94)
            have HB45 := hid (show Below w4.heap.size w4 (w4.alloc (.cells #[.int .i64 tk, .int .i64 tp, .string tz, .int .i64 ti, .slice tq tn tc] 94)) from (Below.refl _ _).alloc (Nat.le_refl _) _)
            have HNM := hid hnm; clear ht hnm hnew hb
            obtain ⟨gp, hgp⟩ : ∃ gp, gp = w4.heap.size := ⟨_, rfl⟩
            go_upto_region 17 with fail
            rw [← hgp] at TWO
            rw [← hgp]
            generalize w4.alloc (.cells #[.int .i64 tk, .int .i64 tp, .string tz, .int .i64 ti, .slice tq tn tc] 94) = w4a at TWO HB45 ⊢
            clear hgp
            have EB := hid (TWO.out.bx _ (List.Mem.tail _ (List.Mem.head _))).2.1
            have bc0 := jA EB.out 0 _ rfl
            have bc1 := jA EB.out 1 _ rfl
            have bc2 := jA EB.out 2 _ rfl
            have bc3 := jA EB.out 3 _ rfl
            have bc4 := jA EB.out 4 _ rfl
            have bc5 := jA EB.out 5 _ rfl
            have bf := jD EB.out
            have ET := hid TWO.out.et
            have HB := hid (HB0.out.trans (TWO.out.low.mono (by omega)))
            have n0 := jE HB.out b1q0.out
            have n1 := jE HB.out b1q1.out
            have n2 := jE HB.out b1q2.out
            have n3 := jE HB.out b1q3.out
            have n4 := jE HB.out b1q4.out
            have n5 := jE HB.out b1q5.out
            go_wp2_with fail
            clear n0 n1 n2 n3 n4 n5
            clear EB bc0 bc1 bc2 bc3 bc4 bc5 bf
            refine (HIH.out _ b1 _ _ HKB.out (HVb1.out.below HB.out) HGb1.out).mono ?_
            intro e w5 ht
            clear ET HB
            cases hx1 : Px.expr f b1 with
            | error p =>
              obtain ⟨z, rfl, ⟨xk, xp, xz, xi, xq1, xn1, xc1, xq2, xn2, xc2, xq3, xn3, xc3, rfl⟩, hb⟩ := jN ht hx1
              have hge : (p : Int) ≥ 0 := by omega
              replace TWO := hid ((TWO.out.below hb).alloc #[.int .i64 xk, .int .i64 xp, .string xz, .int .i64 xi, .slice xq1 xn1 xc1, .slice xq2 xn2 xc2, .slice xq3 xn3 xc3] 53)
              have hx : Px.each (Px.alt f (Px.expr f)) (n.list.drop 2) = .error p := (Px.each_take HDP.out HE.out).2 p (by rw [HPR.out, HNM.out]; dsimp only; rw [hx1])
              have HX := hid hx; clear hx hx1 hb ht
              have ER := hid (ent_low TWO.out.low ER0.out (by omega))
              have ET := hid TWO.out.et
              have HB := hid (HB0.out.trans (TWO.out.low.mono (by omega)))
              obtain ⟨pb, cb, rfl⟩ := jF TWO.out.oa
              have erc0 := jA ER.out 0 _ rfl
              have erc1 := jA ER.out 1 _ rfl
              have erc2 := jA ER.out 2 _ rfl
              have erc3 := jA ER.out 3 _ rfl
              have erc4 := jA ER.out 4 _ rfl
              have erc5 := jA ER.out 5 _ rfl
              have erc6 := jA ER.out 6 _ rfl
              have erf := jD ER.out
              have etc0 := jA ET.out 0 _ rfl
              have etc1 := jA ET.out 1 _ rfl
              have etc2 := jA ET.out 2 _ rfl
              have etc3 := jA ET.out 3 _ rfl
              have etc4 := jA ET.out 4 _ rfl
              have etc5 := jA ET.out 5 _ rfl
              have etc6 := jA ET.out 6 _ rfl
              have etf := jD ET.out
              go_wp2_with fail
              replace ER := hid (jU (ER.out) (.int .i64 5) (.int .i64 n.tok.pos) (.string ⟨#[]⟩) (.int .i64 0) (.slice none 0 0) (.slice (some ⟨ga, 0, none⟩) 1 1) (.slice pb j cb))
              replace ET := hid (jB (jB (jB (jB (jB (jB (jB (ET.out) (w.heap.size + 1) 0 (.int .i64 5) (by omega)) (w.heap.size + 1) 1 (.int .i64 n.tok.pos) (by omega)) (w.heap.size + 1) 2 (.string ⟨#[]⟩) (by omega)) (w.heap.size + 1) 3 (.int .i64 0) (by omega)) (w.heap.size + 1) 4 (.slice none 0 0) (by omega)) (w.heap.size + 1) 5 (.slice (some ⟨ga, 0, none⟩) 1 1) (by omega)) (w.heap.size + 1) 6 (.slice pb j cb) (by omega))
              replace HB := hid (Below.setCell (Below.setCell (Below.setCell (Below.setCell (Below.setCell (Below.setCell (Below.setCell (HB.out) (p := ⟨w.heap.size + 1, 0, none⟩) (by dsimp only; omega) (.int .i64 5)) (p := ⟨w.heap.size + 1, 1, none⟩) (by dsimp only; omega) (.int .i64 n.tok.pos)) (p := ⟨w.heap.size + 1, 2, none⟩) (by dsimp only; omega) (.string ⟨#[]⟩)) (p := ⟨w.heap.size + 1, 3, none⟩) (by dsimp only; omega) (.int .i64 0)) (p := ⟨w.heap.size + 1, 4, none⟩) (by dsimp only; omega) (.slice none 0 0)) (p := ⟨w.heap.size + 1, 5, none⟩) (by dsimp only; omega) (.slice (some ⟨ga, 0, none⟩) 1 1)) (p := ⟨w.heap.size + 1, 6, none⟩) (by dsimp only; omega) (.slice pb j cb))
              have r0 := jA ER.out 0 _ rfl
              have r1 := jA ER.out 1 _ rfl
              have r2 := jA ER.out 2 _ rfl
              have r3 := jA ER.out 3 _ rfl
              have r4 := jA ER.out 4 _ rfl
              have r5 := jA ER.out 5 _ rfl
              have r6 := jA ER.out 6 _ rfl
              refine bodyPost_ret (v := .tuple #[.agg #[.int .i64 5, .int .i64 n.tok.pos, .string ⟨#[]⟩, .int .i64 0, .slice none 0 0, .slice (some ⟨ga, 0, none⟩) 1 1, .slice pb j cb], .int .i64 p]) (by simp [results, Try.results57, go_sem, r0, r1, r2, r3, r4, r5, r6]) rfl ?_
              exact jL (by rw [HPQ.out, HX.out]) HB.out ⟨_, _, _, _, _, _, _, _, _, _, _, _, _, rfl⟩
            | ok y =>
              obtain ⟨z, rfl, ⟨xk, xp, xz, xi, xq1, xn1, xc1, xq2, xn2, xc2, xq3, xn3, xc3, rfl⟩, hnew, hb⟩ := rtold_ok ht hx1
              have hks := TW3.out.since (new_alt HNP.out HB45.out hnew hb HB34.out.size)
              replace TWO := hid (((TWO.out.below hb).addA hks rfl).alloc #[.int .i64 xk, .int .i64 xp, .string xz, .int .i64 xi, .slice xq1 xn1 xc1, .slice xq2 xn2 xc2, .slice xq3 xn3 xc3] 53)
              have HX1b := hid hx1; clear ht hx1 hnew hb hks TW3 HNP HB34 HB45
              go_upto_region 22 with fail
              obtain ⟨gz, hgz⟩ : ∃ gz, gz = w5.heap.size := ⟨_, rfl⟩
              rw [← hgz] at TWO
              rw [← hgz]
              generalize w5.alloc (.cells #[.int .i64 xk, .int .i64 xp, .string xz, .int .i64 xi, .slice xq1 xn1 xc1, .slice xq2 xn2 xc2, .slice xq3 xn3 xc3] 53) = w6 at TWO ⊢
              clear hgz
              obtain ⟨pb, cb, rfl⟩ := jF TWO.out.oa
              have hone : Px.alt f (Px.expr f) pn = .ok (s, y) := by rw [HPR.out, HNM.out]; dsimp only; rw [HX1b.out]
              have HNEXT := hid ((Px.each_take HDP.out HE.out).1 (s, y) hone)
              clear hone
              have ET := hid TWO.out.et
              have EZ := hid (TWO.out.bx _ (List.Mem.head _)).2.1
              have EP := hid (TWO.out.bx _ (List.Mem.tail _ (List.Mem.head _))).2.1
              have etc0 := jA ET.out 0 _ rfl; have ze0 := jA EZ.out 0 _ rfl
              have etc1 := jA ET.out 1 _ rfl; have ze1 := jA EZ.out 1 _ rfl
              have etc2 := jA ET.out 2 _ rfl; have ze2 := jA EZ.out 2 _ rfl
              have etc3 := jA ET.out 3 _ rfl; have ze3 := jA EZ.out 3 _ rfl
              have etc4 := jA ET.out 4 _ rfl; have ze4 := jA EZ.out 4 _ rfl
              have etc5 := jA ET.out 5 _ rfl; have ze5 := jA EZ.out 5 _ rfl
              have etc6 := jA ET.out 6 _ rfl; have ze6 := jA EZ.out 6 _ rfl
              have pe0 := jA EP.out 0 _ rfl
              have pe1 := jA EP.out 1 _ rfl
              have pe2 := jA EP.out 2 _ rfl
              have pe3 := jA EP.out 3 _ rfl
              have pe4 := jA EP.out 4 _ rfl
              have etf := jD ET.out
              have hj18 : j ≤ 18 := by have := HLEN.out; omega
              go_wp2_with (at_builtin; refine G2.listA (TWO.out.alloc #[.int .i64 tk, .int .i64 tp, .string tz, .int .i64 ti, .slice tq tn tc, .int .i64 xk, .int .i64 xp, .string xz, .int .i64 xi, .slice xq1 xn1 xc1, .slice xq2 xn2 xc2, .slice xq3 xn3 xc3] 96) (by decide) 51 Try.underlying51 infoAlt rfl (by decide) (by decide) (gb := w6.heap.size) (List.Mem.head _) rfl (by simp [Value.oneCell']) (by omega) rfl (.tmp 81) (.tmp 85) rfl rfl rfl ?_)
              intro v6 w7 h6
              clear ET EZ EP etf etc0 ze0 etc1 ze1 etc2 ze2 etc3 ze3 etc4 ze4 etc5 ze5 etc6 ze6 pe0 pe1 pe2 pe3 pe4
              obtain ⟨pc, cc, rfl⟩ := jF h6.oa
              have T2 := hid (h6.only (M := [(ga, .cells #[.int .i64 yk, .int .i64 yp, .string yz, .int .i64 yi, .slice yq1 yn1 yc1, .slice yq2 yn2 yc2, .slice yq3 yn3 yc3] 53 (0, 0))]) (fun b hb => by rw [List.mem_singleton.1 hb]; exact (List.Mem.tail _ (List.Mem.tail _ (List.Mem.tail _ (List.Mem.tail _ (List.Mem.head _))))))); clear h6
              have ET := hid T2.out.et
              have etc0 := jA ET.out 0 _ rfl
              have etc1 := jA ET.out 1 _ rfl
              have etc2 := jA ET.out 2 _ rfl
              have etc3 := jA ET.out 3 _ rfl
              have etc4 := jA ET.out 4 _ rfl
              have etc5 := jA ET.out 5 _ rfl
              have etc6 := jA ET.out 6 _ rfl
              have etf := jD ET.out
              go_wp2_with fail
              clear ET etf etc0 etc1 etc2 etc3 etc4 etc5 etc6
              have T3 := hid (T2.out.st 6 (.slice pc (j + 1) cc) #[.int .i64 5, .int .i64 n.tok.pos, .string ⟨#[]⟩, .int .i64 0, .slice none 0 0, .slice (some ⟨ga, 0, none⟩) 1 1, .slice pc (j + 1) cc] rfl)
              go_roundw
              case rel => exact ⟨j + 1, _, vs ++ [.agg #[.int .i64 tk, .int .i64 tp, .string tz, .int .i64 ti, .slice tq tn tc, .int .i64 xk, .int .i64 xp, .string xz, .int .i64 xi, .slice xq1 xn1 xc1, .slice xq2 xn2 xc2, .slice xq3 xn3 xc3]], az ++ [(s, y)], by go_num, by omega, HNEXT, hid (by rw [List.length_append, HBL.out]; rfl), T3⟩
              case measure => simp [intOf]; omega
      · skip
        have hqe : j = (n.list.drop 2).length := by rw [List.length_drop]; omega
        have he := HE.out
        rw [hqe, List.take_length] at he
        have HEE := hid he; clear he
        have HQE := hid hqe; clear hqe
        obtain ⟨pb, cb, rfl⟩ := jF TWO.out.oa
        have ER := hid (ent_low TWO.out.low ER0.out (by omega))
        have erc0 := jA ER.out 0 _ rfl
        have erc1 := jA ER.out 1 _ rfl
        have erc2 := jA ER.out 2 _ rfl
        have erc3 := jA ER.out 3 _ rfl
        have erc4 := jA ER.out 4 _ rfl
        have erc5 := jA ER.out 5 _ rfl
        have erc6 := jA ER.out 6 _ rfl
        have erf := jD ER.out
        have etc0 := jA ET.out 0 _ rfl
        have etc1 := jA ET.out 1 _ rfl
        have etc2 := jA ET.out 2 _ rfl
        have etc3 := jA ET.out 3 _ rfl
        have etc4 := jA ET.out 4 _ rfl
        have etc5 := jA ET.out 5 _ rfl
        have etc6 := jA ET.out 6 _ rfl
        have etf := jD ET.out
        go_wp2_with fail
        replace ER := hid (jU (ER.out) (.int .i64 5) (.int .i64 n.tok.pos) (.string ⟨#[]⟩) (.int .i64 0) (.slice none 0 0) (.slice (some ⟨ga, 0, none⟩) 1 1) (.slice pb j cb))
        replace ET := hid (jB (jB (jB (jB (jB (jB (jB (ET.out) (w.heap.size + 1) 0 (.int .i64 5) (by omega)) (w.heap.size + 1) 1 (.int .i64 n.tok.pos) (by omega)) (w.heap.size + 1) 2 (.string ⟨#[]⟩) (by omega)) (w.heap.size + 1) 3 (.int .i64 0) (by omega)) (w.heap.size + 1) 4 (.slice none 0 0) (by omega)) (w.heap.size + 1) 5 (.slice (some ⟨ga, 0, none⟩) 1 1) (by omega)) (w.heap.size + 1) 6 (.slice pb j cb) (by omega))
        replace HB := hid (Below.setCell (Below.setCell (Below.setCell (Below.setCell (Below.setCell (Below.setCell (Below.setCell (HB.out) (p := ⟨w.heap.size + 1, 0, none⟩) (by dsimp only; omega) (.int .i64 5)) (p := ⟨w.heap.size + 1, 1, none⟩) (by dsimp only; omega) (.int .i64 n.tok.pos)) (p := ⟨w.heap.size + 1, 2, none⟩) (by dsimp only; omega) (.string ⟨#[]⟩)) (p := ⟨w.heap.size + 1, 3, none⟩) (by dsimp only; omega) (.int .i64 0)) (p := ⟨w.heap.size + 1, 4, none⟩) (by dsimp only; omega) (.slice none 0 0)) (p := ⟨w.heap.size + 1, 5, none⟩) (by dsimp only; omega) (.slice (some ⟨ga, 0, none⟩) 1 1)) (p := ⟨w.heap.size + 1, 6, none⟩) (by dsimp only; omega) (.slice pb j cb))
        have r0 := jA ER.out 0 _ rfl
        have r1 := jA ER.out 1 _ rfl
        have r2 := jA ER.out 2 _ rfl
        have r3 := jA ER.out 3 _ rfl
        have r4 := jA ER.out 4 _ rfl
        have r5 := jA ER.out 5 _ rfl
        have r6 := jA ER.out 6 _ rfl
        refine bodyPost_ret (v := .tuple #[.agg #[.int .i64 5, .int .i64 n.tok.pos, .string ⟨#[]⟩, .int .i64 0, .slice none 0 0, .slice (some ⟨ga, 0, none⟩) 1 1, .slice pb j cb], .int .i64 (-1)]) (by simp [results, Try.results57, go_sem, r0, r1, r2, r3, r4, r5, r6]) rfl ?_
        refine jO (x := Px.Expr.mk 5 n.pos [] 0 [] [x] az) (by rw [HPQ.out, HEE.out]) HB.out ⟨_, _, _, _, _, _, _, _, _, _, _, _, _, rfl⟩ (fun u hu => ?_)
        have hag : ∀ b, w.heap.size + 2 < b → b < wr.heap.size → u.heap[b]? = wr.heap[b]? := fun b h1 h2 => (hu b (by omega) (by simpa using h2)).trans (set7_other _ _ b _ _ _ _ _ _ _ (by omega))
        have hA := rowS TWO.out.oa HBL.out.symm TWO.out.ka TWO.out.sa (u := u) (fun b h1 h2 => hag b (by omega) h2)
        have hE := (TWO.out.bx _ (List.Mem.head _)).2.1
        obtain ⟨lo, hi, h0, h1, _, h3⟩ := TWO.out.kb.1
        exact ⟨_, _, _, rfl, .inl ⟨rfl, none, 0, rfl⟩, row_one ((hag ga (by omega) (jK hE)).trans hE) (h3 u fun b hb1 hb2 => hag b (by omega) (by omega)) rfl, hA⟩
end Go.Proofs.Ytgoacbomphlhjaa
